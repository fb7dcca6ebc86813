/-
  A row of ints as one array (any program).
-/
import Derived.Test.YtlkdofghhibmbaaDoorWords
namespace Go.Proofs.YtlkdofghhibmbaaDoor
open Go.RowKit Go.Kx

def rowA (k : IntKind) (n : Nat) (f : Nat → Nat) : Array Value := ((List.range n).map fun j => Value.int k (f j : Nat)).toArray
theorem rowA_size (k : IntKind) (n : Nat) (f : Nat → Nat) : (rowA k n f).size = n := by simp [rowA]
theorem rowA_at (k : IntKind) (n : Nat) (f : Nat → Nat) (j : Nat) (h : j < n) : (rowA k n f)[j]? = some (.int k (f j : Nat)) := by simp [rowA, h]
end Go.Proofs.YtlkdofghhibmbaaDoor
