/-
  tape: a tape in memory; the contracts of left, Taken, Take, over any closure that makes its blocks.
-/
import Derived.Test.YtlkdofghhibmbaaTam
import Derived.Test.YtlkdofghhibmbaaGrw
import Derived.Test.YtlkdofghhibmbaaBldg
import Derived.Test.YtlkdofghhibmbaaInfo
namespace Go.Proofs.Ytlkdofghhibmbaa
open Go.RowKit Go.Kx
set_option maxRecDepth 20000

/-- What a tape is: its bytes, the closure that makes its blocks, the boxes of strings that this one holds. -/
structure TK where
  bytes : List UInt8
  fn : Value
  boxes : List (Nat × ByteArray)
/-- A tape in memory, of which N bytes are taken. -/
def Tp (w : World) (T : Nat) (k : TK) (N : Nat) : Prop :=
  w.heap[T]? = some (.cells #[.int .i64 (N : Int), .int .i64 (k.bytes.length : Int), k.fn] 37) ∧ (∀ p ∈ k.boxes, w.heap[p.1]? = some (.cells #[.string p.2] 9)) ∧ N ≤ k.bytes.length
theorem Tp.lt {w : World} {T N : Nat} {k : TK} (h : Tp w T k N) : T < w.heap.size := (Array.getElem?_eq_some_iff.1 h.1).1
theorem Tp.box_lt {w : World} {T N : Nat} {k : TK} (h : Tp w T k N) {p : Nat × ByteArray} (hp : p ∈ k.boxes) : p.1 < w.heap.size := (Array.getElem?_eq_some_iff.1 (h.2.1 p hp)).1
theorem Tp.box_ne {w : World} {T N : Nat} {k : TK} (h : Tp w T k N) {X : Nat} {c : Array Value} {t : TypeId} {f : Nat × Nat} (hX : w.heap[X]? = some (.cells c t f)) (hc : c.size ≠ 1) {p : Nat × ByteArray} (hp : p ∈ k.boxes) : p.1 ≠ X := by
  intro e
  have h1 := h.2.1 p hp
  rw [e, hX] at h1
  simp only [Option.some.injEq, Obj.cells.injEq] at h1
  rw [h1.1] at hc
  exact hc rfl
theorem Tp.grown {w w' : World} {T N X : Nat} {k : TK} {c : Array Value} {t : TypeId} {f : Nat × Nat} (h : Tp w T k N) (hX : w.heap[X]? = some (.cells c t f)) (hc : c.size ≠ 1) (hne : X ≠ T) (hg : w.grownBy w' (some X)) : Tp w' T k N :=
  ⟨(hg.block T h.lt (by intro e; cases e; exact hne rfl)).trans h.1, fun p hp => (hg.block p.1 (h.box_lt hp) (by intro e; exact h.box_ne hX hc hp (Option.some.inj e))).trans (h.2.1 p hp), h.2.2⟩
theorem Tp.keep {w w' : World} {T N : Nat} {k : TK} (h : Tp w T k N) (hb : Below w.heap.size w w') : Tp w' T k N :=
  ⟨(hb.block T h.lt).trans h.1, fun p hp => (hb.block p.1 (h.box_lt hp)).trans (h.2.1 p hp), h.2.2⟩
theorem Tp.below {w w' : World} {T N B : Nat} {k : TK} (h : Tp w T k N) (hT : T < B) (hk : ∀ p ∈ k.boxes, p.1 < B) (hb : Below B w w') : Tp w' T k N :=
  ⟨(hb.block T hT).trans h.1, fun p hp => (hb.block p.1 (hk p hp)).trans (h.2.1 p hp), h.2.2⟩
theorem Tp.drewN {w : World} {T N : Nat} {k : TK} (h : Tp w T k N) (q : Nat) : Tp (w.drewN q) T k N := h
theorem Tp.cells {w : World} {T N : Nat} {k : TK} (h : Tp w T k N) : w.cell? ⟨T, 0, none⟩ = some (.int .i64 (N : Int)) ∧ w.cell? ⟨T, 1, none⟩ = some (.int .i64 (k.bytes.length : Int)) ∧ w.cell? ⟨T, 2, none⟩ = some k.fn ∧ w.frozen? ⟨T, 0, none⟩ = false := by
  have c := fun j => cell_of_row w T j _ _ _ h.1
  exact ⟨(c 0).trans rfl, (c 1).trans rfl, (c 2).trans rfl, by unfold World.frozen?; rw [h.1]; simp⟩
theorem Tp.set {w : World} {T N : Nat} {k : TK} (h : Tp w T k N) (M : Nat) (hM : M ≤ k.bytes.length) : Tp (w.setCell ⟨T, 0, none⟩ (.int .i64 (M : Int))) T k M := by
  refine ⟨(heap_setCell_same w T 0 _ _ _ h.1).trans rfl, fun p hp => ?_, hM⟩
  rw [Below.heap_setCell _ _ _ p.1 (h.box_ne h.1 (by simp) hp)]
  exact h.2.1 p hp
/-- How many bytes a tape's block says are taken. -/
def tkN (w : World) (T : Nat) : Nat := match w.cell? ⟨T, 0, none⟩ with | some (.int _ z) => z.toNat | _ => 0
theorem tkN_of {w : World} {T N : Nat} {k : TK} (h : Tp w T k N) : tkN w T = N := by
  rw [tkN, h.cells.1]
  exact Int.toNat_natCast N
/-- What Take wants of a tape: its size, and what rest tells. -/
structure TKok (k : TK) : Prop where
  size : k.bytes.length ≤ 1000000000000
  rest : ∀ (w : World) (T N : Nat), Tp w T k N → N < k.bytes.length → ∀ b : ByteArray, (⟨(restL k.bytes N).toArray⟩ : ByteArray) = b →
    Calls Try.prog 14 #[.pointer (some ⟨T, 0, none⟩)] w fun e w' => e = .returned (.string b) ∧ Below w.heap.size w w'
theorem tleft_any (N L : Nat) (hL : L ≤ 1000000000000) (r : Nat) (hr : N + r = L) (w : World) :
    Calls Try.prog 11 #[.agg #[.int .i64 (N : Int), .int .i64 (L : Int)]] w fun e w' => e = .returned (.int .i64 (r : Int)) ∧ Below w.heap.size w w' := by
  have e : (L : Int) - (N : Int) = (r : Int) := by omega
  have hw : IntKind.i64.wrap (r : Int) = (r : Int) := IntWalk.i64_in _ (by omega)
  clear hr
  go_enter Try.func11, Try.ntmps11
  go_wp2
  go_ret
  exact ⟨rfl, Below.alloc0 _ _⟩
theorem taken_any (T N : Nat) (k : TK) (w : World) (hT : Tp w T k N) :
    Calls Try.prog 7 #[.pointer (some ⟨T, 0, none⟩)] w fun e w' => e = .returned (.int .i64 (N : Int)) ∧ w' = w := by
  obtain ⟨c0, c1, c2, cf⟩ := hT.cells
  clear hT
  go_enter Try.func7, Try.ntmps7
  go_wp2
  go_ret
  exact ⟨rfl, rfl⟩
/-- What a call of Take answers. -/
def TTakeP (T : Nat) (k : TK) (x : List UInt8 × Int × Nat) (w : World) (e : Ending) (w' : World) : Prop :=
  ∃ b : ByteArray, (⟨x.1.toArray⟩ : ByteArray) = b ∧ e = .returned (.tuple #[.string b, .int .i64 x.2.1]) ∧ Tp w' T k x.2.2 ∧ w.grownBy w' (some T)
theorem ttake_early (T N : Nat) (k : TK) (hL : k.bytes.length ≤ 1000000000000) (n : Int) (h : n < 0 ∨ (k.bytes.length : Int) - N < n) (w : World) (hT : Tp w T k N) :
    Calls Try.prog 6 #[.pointer (some ⟨T, 0, none⟩), .int .i64 n] w fun e w' => TTakeP T k (takeR k.bytes N n) w e w' := by
  by_cases h0 : n < 0
  · rw [takeR_neg h0]
    go_enter Try.func6, Try.ntmps6
    go_wp2
    go_ret2
    exact ⟨⟨#[]⟩, rfl, rfl, hT, grown_of (Below.refl _ _)⟩
  · have h2 : (k.bytes.length : Int) - N < n := h.resolve_left h0
    have hN := hT.2.2
    rw [takeR_out h0 h2]
    obtain ⟨c0, c1, c2, cf⟩ := hT.cells
    obtain ⟨L, hLL⟩ : ∃ L, k.bytes.length = L := ⟨_, rfl⟩
    rw [hLL] at c1 hL h2 hN
    obtain ⟨r, hr⟩ : ∃ r, N + r = L := ⟨L - N, by omega⟩
    have hleft := tleft_any N L hL r hr
    have hrn : (r : Int) < n := by omega
    clear h h2 hr hLL
    go_enter Try.func6, Try.ntmps6
    go_wp2_with fail
    refine (hleft w).mono ?_
    rintro e w1 ⟨rfl, hb⟩
    go_wp2
    go_ret2
    exact ⟨⟨#[]⟩, rfl, rfl, hT.keep hb, grown_of hb⟩
end Go.Proofs.Ytlkdofghhibmbaa
