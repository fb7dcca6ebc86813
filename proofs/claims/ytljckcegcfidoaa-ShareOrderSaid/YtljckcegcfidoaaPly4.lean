/-
  poly: the contract of fold over quotients.
-/
import Derived.Test.YtljckcegcfidoaaPly3
namespace Go.Proofs.Ytljckcegcfidoaa
open Go.RowKit Go.Kx
set_option maxRecDepth 20000

def quo (p : Int × Int) : Array Value := #[.int .i64 p.1, .int .i64 p.2]
theorem quo_size (p : Int × Int) : (quo p).size = 2 := rfl
theorem quo_all (p : Int × Int) : (quo p).all (·.oneCell') = true := by simp [quo, Value.oneCell']
theorem quo_info : (Try.prog.info? 97).map (·.size) = some 2 := by kernel_rfl
/-- A block that holds a quotient. -/
def Quo (w : World) (b : Nat) (p : Int × Int) : Prop := w.heap[b]? = some (.cells (quo p) 97 (0, 0))
theorem Quo.lt {w : World} {b : Nat} {p : Int × Int} (h : Quo w b p) : b < w.heap.size := (Array.getElem?_eq_some_iff.1 h).1
theorem Quo.keep {w w' : World} {b B : Nat} {p : Int × Int} (h : Quo w b p) (hb : Below B w w') (hB : b < B) : Quo w' b p := (hb.block b hB).trans h
theorem Quo.keep' {w w' : World} {b : Nat} {p : Int × Int} (h : Quo w b p) (hb : Below w.heap.size w w') : Quo w' b p := h.keep hb h.lt
theorem Quo.set {w : World} {b : Nat} {p : Int × Int} (h : Quo w b p) (q : Int × Int) : Quo (w.setRow b (quo q)) b q := setRow_heap _ _ _ _ _ _ h
theorem Quo.other {w : World} {b g : Nat} {p : Int × Int} (h : Quo w b p) (hne : b ≠ g) (cs : Array Value) : Quo (w.setRow g cs) b p := (setRow_other w g b cs hne).trans h
theorem Quo.new (w : World) (p : Int × Int) : Quo (w.alloc (.cells (quo p) 97)) w.heap.size p := heap_alloc_new w _
theorem Quo.cells {w : World} {b : Nat} {p : Int × Int} (h : Quo w b p) : w.cell? ⟨b, 0, none⟩ = some (.int .i64 p.1) ∧ w.cell? ⟨b, 1, none⟩ = some (.int .i64 p.2) :=
  ⟨(cell_of_row _ _ _ _ _ _ h).trans rfl, (cell_of_row _ _ _ _ _ _ h).trans rfl⟩
set_option maxHeartbeats 1000000 in
theorem foldQ_any (F : FuncId) (hF : ∀ (a : Array Value) (w : World), (callFunc F a).run Try.prog w = .ok (.enter F a) w) (p0 p1 p2 p3 : Value) (l : List Int) (S : Nat → Int × Int) (A : Option Addr) (c : Nat) (hl : l.length ≤ 9223372036854775807) (w : World) (hs : Sl w A (intsI l))
    (hstep : ∀ k, k < l.length → ∀ w1, Below w.heap.size w w1 → Calls Try.prog F #[.agg (quo (S k)), .int .i64 k, .int .i64 (l.getD k 0), p0, p1, p2, p3] w1 fun e w' => e = .returned (.agg (quo (S (k + 1)))) ∧ Below w1.heap.size w1 w') :
    Calls Try.prog 73 #[.slice A l.length c, .agg (quo (S 0)), .func (.func F) #[] #[p0, p1, p2, p3]] w fun e w' => e = .returned (.agg (quo (S l.length))) ∧ Below w.heap.size w w' := by
  have HS := Lib.hid hstep
  clear hstep
  obtain ⟨⟨o0, u0⟩, h00⟩ : ∃ p, p = S 0 := ⟨_, rfl⟩
  rw [← h00]
  have H00 := Lib.hid h00
  clear h00
  show Calls _ _ #[_, .agg #[.int .i64 o0, .int .i64 u0], _] _ _
  go_enter Try.func73, Try.ntmps73
  go_wp2
  have hq1 : Quo (((w.alloc (.cells (quo (o0, u0)) 97)).alloc (.cells (quo (0, 0)) 97)).alloc (.cells (quo (o0, u0)) 97)) (w.heap.size + 1) (0, 0) := by
    have := Quo.new (w.alloc (.cells (quo (o0, u0)) 97)) (0, 0)
    rw [World.size_alloc] at this
    exact this.keep' (Below.alloc0 _ _)
  have hq2 : Quo (((w.alloc (.cells (quo (o0, u0)) 97)).alloc (.cells (quo (0, 0)) 97)).alloc (.cells (quo (o0, u0)) 97)) (w.heap.size + 1 + 1) (o0, u0) := by
    have := Quo.new ((w.alloc (.cells (quo (o0, u0)) 97)).alloc (.cells (quo (0, 0)) 97)) (o0, u0)
    rw [World.size_alloc, World.size_alloc] at this
    exact this
  have hb0 : Below w.heap.size w (((w.alloc (.cells (quo (o0, u0)) 97)).alloc (.cells (quo (0, 0)) 97)).alloc (.cells (quo (o0, u0)) 97)) := ((Below.alloc0 _ _).al _).al _
  unfold quo at hq1 hq2 hb0
  generalize World.alloc _ (.cells #[.int .i64 o0, .int .i64 u0] 97) = W at *
  go_loopw [13] (fun i wr => ∃ k : Nat, i = .int .i64 k ∧ k ≤ l.length ∧ Quo wr (w.heap.size + 1) (0, 0) ∧ Quo wr (w.heap.size + 1 + 1) (S k) ∧ Below w.heap.size w wr) (fun i _ => l.length - (intOf i).toNat)
  case atStart => exact ⟨0, rfl, by omega, hq1, by rw [← H00.out]; exact hq2, hb0⟩
  case round =>
    clear hq1 hq2 hb0
    obtain ⟨k, rfl, hk, hq1, hq2, hb⟩ := hrel
    by_cases hlt : k < l.length
    · have HC := Lib.hid (HS.out k hlt wr hb)
      obtain ⟨b, off, rfl, hc⟩ := sl_int (hs.keep hb) hlt
      generalize l.getD k 0 = x at *
      generalize hy : S (k + 1) = y at *
      have HY := Lib.hid hy
      clear hy
      generalize S k = z at *
      obtain ⟨zo, zu⟩ := z
      obtain ⟨yo, yu⟩ := y
      have hc0 := hq2.cells.1
      have hc1 := hq2.cells.2
      unfold quo at HC
      go_wp2_with fail
      refine HC.out.mono ?_
      rintro e w1 ⟨rfl, hb1⟩
      replace hb := hb.next' hb1
      replace hq1 := hq1.keep' hb1
      replace hq2 := hq2.keep' hb1
      clear hc0 hc1
      go_wp2_with (refine wpList_store_row rfl _ _ _ rfl (w.heap.size + 1 + 1) (quo (yo, yu)) rfl rfl _ _ hq2 quo_info rfl (quo_all _) ?_)
      go_roundw
      case rel => exact ⟨k + 1, by go_num, by omega, hq1.other (by omega) _, by rw [HY.out]; exact hq2.set _, hb.setRow (by omega) _⟩
      case measure => simp [intOf]; omega
    · obtain rfl : k = l.length := by omega
      obtain ⟨⟨zo, zu⟩, hz⟩ : ∃ z, S l.length = z := ⟨_, rfl⟩
      rw [hz] at hq2
      have HZ := Lib.hid hz
      clear hz
      have hc0 := hq2.cells.1
      have hc1 := hq2.cells.2
      go_wp2_with (refine wpList_store_row rfl _ _ _ rfl (w.heap.size + 1) (quo (zo, zu)) rfl rfl _ _ hq1 quo_info rfl (quo_all _) ?_)
      exact bodyPost_ret (v := .agg (quo (zo, zu))) (results_cell_row rfl _ _ (w.heap.size + 1) _ _ _ _ rfl (hq1.set _) Try.underlying97 rfl quo_info) rfl ⟨by rw [HZ.out], hb.setRow (by omega) _⟩
end Go.Proofs.Ytljckcegcfidoaa
