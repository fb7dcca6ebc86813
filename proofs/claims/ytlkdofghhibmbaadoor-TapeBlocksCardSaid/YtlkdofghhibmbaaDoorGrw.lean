/-
  What grows but for one block (any program).
-/
import Derived.Test.YtlkdofghhibmbaaDoorBld
namespace Go.Kx
open Go.RowKit

theorem grown_of {w w' : World} {row : Option Nat} (h : Below w.heap.size w w') : w.grownBy w' row := grown_of_below h row
theorem grown_trans {a b c : World} {row : Option Nat} (h : a.grownBy b row) (k : b.grownBy c row) : a.grownBy c row :=
  ⟨k.os.trans h.os, k.tape.trans h.tape, k.output.trans h.output, Nat.le_trans h.size k.size, fun i hi hne => (k.block i (Nat.lt_of_lt_of_le hi h.size) hne).trans (h.block i hi hne)⟩
theorem grown_set (w : World) (T j : Nat) (v : Value) : w.grownBy (w.setCell ⟨T, j, none⟩ v) (some T) :=
  ⟨rfl, rfl, rfl, by simp, fun k _ hne => Below.heap_setCell _ _ _ k (fun e => hne (by rw [e]))⟩
theorem grown_drewN2 (w : World) (n : Nat) (row : Option Nat) : w.grownBy (w.drewN n) row := ⟨rfl, rfl, rfl, Nat.le_refl _, fun _ _ _ => rfl⟩
theorem builderAt_grown {T e : TypeId} {B b X : Nat} {p : Value} {bs : List Value} {w w' : World} (h : Lib.BuilderAt T e B b p bs w) (hX : X < B) (hg : w.grownBy w' (some X)) : Lib.BuilderAt T e B b p bs w' := by
  have hlt := h.lt
  obtain ⟨hB, v, hh, hown, hne⟩ := h
  refine ⟨hB, v, (hg.block b hlt (by intro e; cases e; omega)).trans hh, hown.kept hg ?_, hne⟩
  cases ho : v.ownBlock with
  | none => exact .inl rfl
  | some b9 =>
    right
    intro e
    cases e
    have := (hown.lt _ ho).1
    omega
theorem isBuilder_grown {T e : TypeId} {B b X : Nat} {bs : List Value} {w w' : World} (h : Lib.IsBuilder T e B b bs w) (hX : X < B) (hg : w.grownBy w' (some X)) : Lib.IsBuilder T e B b bs w' :=
  h.elim (fun h => .inl (builderAt_grown h hX hg)) (fun h => .inr (builderAt_grown h hX hg))
/-- Of a world that is below a later base: grown from the first. -/
theorem grown_low {B : Nat} {w w1 w2 : World} {row : Option Nat} (h : w.grownBy w1 row) (hB : w.heap.size ≤ B) (k : Below B w1 w2) : w.grownBy w2 row :=
  ⟨k.os.trans h.os, k.tape.trans h.tape, k.output.trans h.output, Nat.le_trans h.size k.size, fun i hi hne => (k.block i (by omega)).trans (h.block i hi hne)⟩
end Go.Kx
