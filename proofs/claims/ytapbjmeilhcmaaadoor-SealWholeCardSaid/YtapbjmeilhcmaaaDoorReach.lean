/-
  What a row's premise on sizes says of a string that came in: it is no longer than any machine's memory (any program).
-/
import Derived.WalkKit
import Derived.ProofKit
import Derived.OpenShut
namespace Go.Kx
open Go.RowKit

theorem reach_each {H : Type} {P : Program} : ∀ {ts : List TypeId} {ds : List (DataW H)}, (DataW.weightsEach P ts ds).all (· ≤ reachBytes) = true →
    ∀ {j : Nat} {t : TypeId} {s : List UInt8}, ts[j]? = some t → ds[j]? = some (.lit (.string s)) → s.length ≤ reachBytes := by
  intro ts
  induction ts with
  | nil => intro ds _ j t s ht; simp at ht
  | cons t0 ts ih =>
    intro ds h j t s ht hd
    cases ds with
    | nil => simp at hd
    | cons d ds =>
      simp only [DataW.weightsEach, List.all_append, Bool.and_eq_true] at h
      cases j with
      | zero =>
        obtain rfl : d = .lit (.string s) := by simpa using hd
        have h1 := h.1
        simp only [DataW.weights, List.all_cons, List.all_nil, Bool.and_true, decide_eq_true_eq] at h1
        exact h1
      | succ j => exact ih h.2 (j := j) (by simpa using ht) (by simpa using hd)
theorem reach_size {s : ByteArray} (h : s.data.toList.length ≤ reachBytes) : s.size ≤ 140737488351232 := by
  have hs : s.data.toList.length = s.size := by simp
  rw [hs] at h
  exact h
end Go.Kx
