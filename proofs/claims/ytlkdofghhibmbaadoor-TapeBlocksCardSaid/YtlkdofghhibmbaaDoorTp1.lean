/-
  tape: a tape in memory; the contracts of left, Taken, Take, over any closure that makes its blocks.
-/
import Derived.Test.YtlkdofghhibmbaaDoorTam
import Derived.Test.YtlkdofghhibmbaaDoorGrw
import Derived.Test.YtlkdofghhibmbaaDoorBldg
import Derived.Test.YtlkdofghhibmbaaDoorInfo
import Derived.Deep.MidRow
namespace Go.Proofs.YtlkdofghhibmbaaDoor
open Go.RowKit Go.Kx
set_option maxRecDepth 20000

/-- What a tape is: its bytes, the closure that makes its blocks, the boxes of strings that this one holds, the laid rows that it reads. -/
structure TK where
  bytes : List UInt8
  fn : Value
  boxes : List (Nat × ByteArray)
  globs : List (Nat × List Value)
/-- A tape in memory, of which N bytes are taken. -/
def Tp (w : World) (T : Nat) (k : TK) (N : Nat) : Prop :=
  w.heap[T]? = some (.cells #[.int .i64 (N : Int), .int .i64 (k.bytes.length : Int), k.fn] 48) ∧ (∀ p ∈ k.boxes, w.heap[p.1]? = some (.cells #[.string p.2] 9)) ∧ N ≤ k.bytes.length ∧ (∀ p ∈ k.globs, p.1 ≠ T ∧ p.2 ≠ [] ∧ w.rangeAt p.1 0 p.2)
theorem Tp.lt {w : World} {T N : Nat} {k : TK} (h : Tp w T k N) : T < w.heap.size := (Array.getElem?_eq_some_iff.1 h.1).1
theorem Tp.box_lt {w : World} {T N : Nat} {k : TK} (h : Tp w T k N) {p : Nat × ByteArray} (hp : p ∈ k.boxes) : p.1 < w.heap.size := (Array.getElem?_eq_some_iff.1 (h.2.1 p hp)).1
theorem range_lt {w : World} {g : Nat} {l : List Value} (h : w.rangeAt g 0 l) (hl : l ≠ []) : g < w.heap.size := by
  cases l with
  | nil => exact absurd rfl hl
  | cons v r => exact block_lt_of_cell (h 0 v rfl)
theorem range_block {w w' : World} {g : Nat} {l : List Value} (h : w.rangeAt g 0 l) (hb : w'.heap[g]? = w.heap[g]?) : w'.rangeAt g 0 l := by
  intro j v hv
  rw [World.cell?_of_block (a := ⟨g, 0 + j, none⟩) hb]
  exact h j v hv
theorem Tp.glob_lt {w : World} {T N : Nat} {k : TK} (h : Tp w T k N) {p : Nat × List Value} (hp : p ∈ k.globs) : p.1 < w.heap.size := range_lt (h.2.2.2 p hp).2.2 (h.2.2.2 p hp).2.1
theorem Tp.box_ne {w : World} {T N : Nat} {k : TK} (h : Tp w T k N) {X : Nat} {c : Array Value} {t : TypeId} {f : Nat × Nat} (hX : w.heap[X]? = some (.cells c t f)) (hc : c.size ≠ 1) {p : Nat × ByteArray} (hp : p ∈ k.boxes) : p.1 ≠ X := by
  intro e
  have h1 := h.2.1 p hp
  rw [e, hX] at h1
  simp only [Option.some.injEq, Obj.cells.injEq] at h1
  rw [h1.1] at hc
  exact hc rfl
theorem Tp.of_blocks {w w' : World} {T N : Nat} {k : TK} (h : Tp w T k N) (h1 : w'.heap[T]? = w.heap[T]?) (h2 : ∀ p ∈ k.boxes, w'.heap[p.1]? = w.heap[p.1]?) (h3 : ∀ p ∈ k.globs, w'.heap[p.1]? = w.heap[p.1]?) : Tp w' T k N :=
  ⟨h1.trans h.1, fun p hp => (h2 p hp).trans (h.2.1 p hp), h.2.2.1, fun p hp => ⟨(h.2.2.2 p hp).1, (h.2.2.2 p hp).2.1, range_block (h.2.2.2 p hp).2.2 (h3 p hp)⟩⟩
theorem Tp.grown {w w' : World} {T N X : Nat} {k : TK} {c : Array Value} {t : TypeId} {f : Nat × Nat} (h : Tp w T k N) (hX : w.heap[X]? = some (.cells c t f)) (hc : c.size ≠ 1) (hne : X ≠ T) (hgl : ∀ p ∈ k.globs, p.1 ≠ X) (hg : w.grownBy w' (some X)) : Tp w' T k N :=
  h.of_blocks (hg.block T h.lt (by intro e; cases e; exact hne rfl)) (fun p hp => hg.block p.1 (h.box_lt hp) (by intro e; exact h.box_ne hX hc hp (Option.some.inj e))) (fun p hp => hg.block p.1 (h.glob_lt hp) (by intro e; exact hgl p hp (Option.some.inj e)))
theorem Tp.keep {w w' : World} {T N : Nat} {k : TK} (h : Tp w T k N) (hb : Below w.heap.size w w') : Tp w' T k N :=
  h.of_blocks (hb.block T h.lt) (fun p hp => hb.block p.1 (h.box_lt hp)) (fun p hp => hb.block p.1 (h.glob_lt hp))
/-- All that a tape lies in is below. -/
def TK.low (k : TK) (B : Nat) : Prop := (∀ p ∈ k.boxes, p.1 < B) ∧ ∀ p ∈ k.globs, p.1 < B
theorem Tp.low {w : World} {T N : Nat} {k : TK} (h : Tp w T k N) : k.low w.heap.size := ⟨fun _ hp => h.box_lt hp, fun _ hp => h.glob_lt hp⟩
theorem TK.low.mono {k : TK} {B C : Nat} (h : k.low B) (hC : B ≤ C) : k.low C := ⟨fun p hp => Nat.lt_of_lt_of_le (h.1 p hp) hC, fun p hp => Nat.lt_of_lt_of_le (h.2 p hp) hC⟩
theorem Tp.below {w w' : World} {T N B : Nat} {k : TK} (h : Tp w T k N) (hT : T < B) (hk : k.low B) (hb : Below B w w') : Tp w' T k N :=
  h.of_blocks (hb.block T hT) (fun p hp => hb.block p.1 (hk.1 p hp)) (fun p hp => hb.block p.1 (hk.2 p hp))
theorem Tp.drewN {w : World} {T N : Nat} {k : TK} (h : Tp w T k N) (q : Nat) : Tp (w.drewN q) T k N := h
theorem Tp.cells {w : World} {T N : Nat} {k : TK} (h : Tp w T k N) : w.cell? ⟨T, 0, none⟩ = some (.int .i64 (N : Int)) ∧ w.cell? ⟨T, 1, none⟩ = some (.int .i64 (k.bytes.length : Int)) ∧ w.cell? ⟨T, 2, none⟩ = some k.fn ∧ w.frozen? ⟨T, 0, none⟩ = false := by
  have c := fun j => cell_of_row w T j _ _ _ h.1
  exact ⟨(c 0).trans rfl, (c 1).trans rfl, (c 2).trans rfl, by unfold World.frozen?; rw [h.1]; simp⟩
theorem Tp.set {w : World} {T N : Nat} {k : TK} (h : Tp w T k N) (M : Nat) (hM : M ≤ k.bytes.length) : Tp (w.setCell ⟨T, 0, none⟩ (.int .i64 (M : Int))) T k M := by
  refine ⟨(heap_setCell_same w T 0 _ _ _ h.1).trans rfl, fun p hp => ?_, hM, fun p hp => ?_⟩
  · rw [Below.heap_setCell _ _ _ p.1 (h.box_ne h.1 (by simp) hp)]
    exact h.2.1 p hp
  · obtain ⟨g1, g2, g3⟩ := h.2.2.2 p hp
    exact ⟨g1, g2, range_block g3 (Below.heap_setCell _ _ _ p.1 g1)⟩
/-- How many bytes a tape's block says are taken. -/
def tkN (w : World) (T : Nat) : Nat := match w.cell? ⟨T, 0, none⟩ with | some (.int _ z) => z.toNat | _ => 0
theorem tkN_of {w : World} {T N : Nat} {k : TK} (h : Tp w T k N) : tkN w T = N := by
  rw [tkN, h.cells.1]
  exact Int.toNat_natCast N
/-- What Take wants of a tape: its size, and what rest tells. -/
structure TKok (k : TK) : Prop where
  size : k.bytes.length ≤ 1000000000000
  isf : ∃ f a b, k.fn = .func f a b
  rest : ∀ (w : World) (T N : Nat), Tp w T k N → N < k.bytes.length → ∀ b : ByteArray, (⟨(restL k.bytes N).toArray⟩ : ByteArray) = b →
    Calls Tryd.prog 36 #[.pointer (some ⟨T, 0, none⟩)] w fun e w' => e = .returned (.string b) ∧ Below w.heap.size w w'
theorem tleft_any (N L : Nat) (hL : L ≤ 1000000000000) (r : Nat) (hr : N + r = L) (w : World) :
    Calls Tryd.prog 33 #[.agg #[.int .i64 (N : Int), .int .i64 (L : Int)]] w fun e w' => e = .returned (.int .i64 (r : Int)) ∧ Below w.heap.size w w' := by
  have e : (L : Int) - (N : Int) = (r : Int) := by omega
  have hw : IntKind.i64.wrap (r : Int) = (r : Int) := IntWalk.i64_in _ (by omega)
  clear hr
  go_enter Tryd.func33, Tryd.ntmps33
  go_wp2
  go_ret
  exact ⟨rfl, Below.alloc0 _ _⟩
theorem taken_any (T N : Nat) (k : TK) (w : World) (hT : Tp w T k N) :
    Calls Tryd.prog 12 #[.pointer (some ⟨T, 0, none⟩)] w fun e w' => e = .returned (.int .i64 (N : Int)) ∧ w' = w := by
  obtain ⟨c0, c1, c2, cf⟩ := hT.cells
  clear hT
  go_enter Tryd.func12, Tryd.ntmps12
  go_wp2
  go_ret
  exact ⟨rfl, rfl⟩
/-- What a call of Take answers. -/
def TTakeP (T : Nat) (k : TK) (x : List UInt8 × Int × Nat) (w : World) (e : Ending) (w' : World) : Prop :=
  ∃ b : ByteArray, (⟨x.1.toArray⟩ : ByteArray) = b ∧ e = .returned (.tuple #[.string b, .int .i64 x.2.1]) ∧ Tp w' T k x.2.2 ∧ w.grownBy w' (some T)
theorem ttake_early (T N : Nat) (k : TK) (hL : k.bytes.length ≤ 1000000000000) (n : Int) (h : n < 0 ∨ (k.bytes.length : Int) - N < n) (w : World) (hT : Tp w T k N) :
    Calls Tryd.prog 16 #[.pointer (some ⟨T, 0, none⟩), .int .i64 n] w fun e w' => TTakeP T k (takeR k.bytes N n) w e w' := by
  by_cases h0 : n < 0
  · rw [takeR_neg h0]
    go_enter Tryd.func16, Tryd.ntmps16
    go_wp2
    go_ret2
    exact ⟨⟨#[]⟩, rfl, rfl, hT, grown_of (Below.refl _ _)⟩
  · have h2 : (k.bytes.length : Int) - N < n := h.resolve_left h0
    have hN := hT.2.2.1
    rw [takeR_out h0 h2]
    obtain ⟨c0, c1, c2, cf⟩ := hT.cells
    obtain ⟨L, hLL⟩ : ∃ L, k.bytes.length = L := ⟨_, rfl⟩
    rw [hLL] at c1 hL h2 hN
    obtain ⟨r, hr⟩ : ∃ r, N + r = L := ⟨L - N, by omega⟩
    have hleft := tleft_any N L hL r hr
    have hrn : (r : Int) < n := by omega
    clear h h2 hr hLL
    go_enter Tryd.func16, Tryd.ntmps16
    go_wp2_with fail
    refine (hleft w).mono ?_
    rintro e w1 ⟨rfl, hb⟩
    go_wp2
    go_ret2
    exact ⟨⟨#[]⟩, rfl, rfl, hT.keep hb, grown_of hb⟩
end Go.Proofs.YtlkdofghhibmbaaDoor
