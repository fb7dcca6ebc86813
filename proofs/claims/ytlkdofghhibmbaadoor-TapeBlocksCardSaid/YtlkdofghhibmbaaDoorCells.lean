/-
  The bytes of a string in a block of their own (any program).
-/
import Derived.Test.YtlkdofghhibmbaaDoorWords
import Derived.Laws.IdiomStrings
namespace Go.Proofs.YtlkdofghhibmbaaDoor
open Go.RowKit Go.Kx

/-- The bytes' block: its first z cells, and that they may be written. -/
def Cells (w : World) (g z : Nat) (f : Nat → Nat) : Prop := g < w.heap.size ∧ ∀ j, j < z → w.cell? ⟨g, j, none⟩ = some (.int .u8 (f j : Nat)) ∧ w.frozen? ⟨g, j, none⟩ = false
theorem Cells.keep {w w' : World} {g z : Nat} {f : Nat → Nat} (h : Cells w g z f) (hb : Below w.heap.size w w') : Cells w' g z f :=
  ⟨Nat.lt_of_lt_of_le h.1 hb.size, fun j hj => ⟨(hb.cell (p := ⟨g, j, none⟩) h.1).trans (h.2 j hj).1, (hb.frozen (p := ⟨g, j, none⟩) h.1).trans (h.2 j hj).2⟩⟩
theorem Cells.set {w : World} {g z k : Nat} {f f' : Nat → Nat} (h : Cells w g z f) (hk : k < z) (x : Nat) (hf : ∀ j, (if j = k then x else f j) = f' j) : Cells (w.setCell ⟨g, k, none⟩ (.int .u8 (x : Nat))) g z f' := by
  refine ⟨by simpa using h.1, fun j hj => ⟨?_, by rw [World.frozen?_setCell]; exact (h.2 j hj).2⟩⟩
  rw [← hf j]
  by_cases hjk : j = k
  · subst hjk
    rw [if_pos rfl]
    exact World.cell?_setCell_same _ _ _ (h.2 j hj).1
  · rw [if_neg hjk, World.cell?_setCell_other _ _ _ _ (fun h => hjk (congrArg Addr.off h).symm)]
    exact (h.2 j hj).1
theorem Cells.setOther {w : World} {g z : Nat} {f : Nat → Nat} (h : Cells w g z f) {b j : Nat} (hne : b ≠ g) (v : Value) : Cells (w.setCell ⟨b, j, none⟩ v) g z f := by
  refine ⟨by simpa using h.1, fun i hi => ⟨?_, by rw [World.frozen?_setCell]; exact (h.2 i hi).2⟩⟩
  rw [World.cell?_setCell_other _ _ _ _ (fun h => hne (congrArg Addr.block h))]
  exact (h.2 i hi).1
theorem Cells.drew {w : World} {g z : Nat} {f : Nat → Nat} (h : Cells w g z f) : Cells w.drew g z f := h
theorem Cells.new (V : World) (s : ByteArray) (e : TypeId) (c : Nat) : Cells (V.drew.alloc (.cells (bytesRow s c) e ((bytesRow s c).size, (bytesRow s c).size + 1))) V.heap.size s.size (fun j => (s.data.toList.getD j 0).toNat) := by
  have hnew : (V.drew.alloc (.cells (bytesRow s c) e ((bytesRow s c).size, (bytesRow s c).size + 1))).heap[V.heap.size]? = some (.cells (bytesRow s c) e ((bytesRow s c).size, (bytesRow s c).size + 1)) := heap_alloc_new V.drew _
  refine ⟨(Array.getElem?_eq_some_iff.1 hnew).1, fun j hj => ⟨?_, ?_⟩⟩
  · rw [cell_of_row _ _ _ _ _ _ hnew, bytesRow, Array.getElem?_append_left (by simpa using hj)]
    simp [List.getD_eq_getElem?_getD, hj]
  · have hz : j < (bytesRow s c).size := by simp [bytesRow]; omega
    unfold World.frozen?
    rw [hnew]
    simp
    omega
end Go.Proofs.YtlkdofghhibmbaaDoor
