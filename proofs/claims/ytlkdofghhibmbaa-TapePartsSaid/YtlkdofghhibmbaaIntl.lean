/-
  Slices of intsI that read as a list (any program).
-/
import Derived.Test.YtlkdofghhibmbaaWords
namespace Go.Proofs.Ytlkdofghhibmbaa
open Go.RowKit Go.Kx
set_option maxRecDepth 20000

def intsI (l : List Int) : List Value := l.map (Value.int .i64)
theorem intsI_length (l : List Int) : (intsI l).length = l.length := by simp [intsI]
theorem intsI_at {l : List Int} {k : Nat} {u : Value} (h : (intsI l)[k]? = some u) : ∃ x, l[k]? = some x ∧ u = .int .i64 x := by
  simp only [intsI, List.getElem?_map, Option.map_eq_some_iff] at h
  obtain ⟨x, h1, h2⟩ := h
  exact ⟨x, h1, h2.symm⟩
/-- A cell of a slice of intsI. -/
theorem sl_int {w : World} {A : Option Addr} {l : List Int} (h : Sl w A (intsI l)) {k : Nat} (hk : k < l.length) : ∃ b off, A = some ⟨b, off, none⟩ ∧ w.cell? ⟨b, off + k, none⟩ = some (.int .i64 (l.getD k 0)) := by
  obtain ⟨b, off, u, rfl, hu, hc⟩ := h.at_ (k := k) (by rw [intsI_length]; exact hk)
  obtain ⟨x, hx, rfl⟩ := intsI_at hu
  refine ⟨b, off, rfl, ?_⟩
  rw [hc, List.getD, hx]
  rfl
/-- Such a cell, in any world that keeps what is below. -/
theorem sl_ints {w : World} {A : Option Addr} {l : List Int} (h : Sl w A (intsI l)) {k : Nat} (hk : k < l.length) : ∃ b off, A = some ⟨b, off, none⟩ ∧ ∀ V, Below w.heap.size w V → V.cell? ⟨b, off + k, none⟩ = some (.int .i64 (l.getD k 0)) := by
  obtain ⟨b, off, rfl, hc⟩ := sl_int h hk
  refine ⟨b, off, rfl, fun V hV => ?_⟩
  obtain ⟨b2, off2, e, hc2⟩ := sl_int (h.keep hV) hk
  obtain ⟨rfl, rfl⟩ : b = b2 ∧ off = off2 := by simpa using e
  exact hc2
theorem intsI_snoc (l : List Int) (x : Int) : intsI l ++ [Value.int .i64 x] = intsI (l ++ [x]) := by simp [intsI]
/-- All of them. -/
def allI (p : Int → Bool) (l : List Int) : Bool := l.all p
theorem allI_no {p : Int → Bool} {l : List Int} {k : Nat} (hk : k < l.length) (h : p (l.getD k 0) = false) : allI p l = false := by
  rw [allI, List.all_eq_false]
  refine ⟨l[k], List.getElem_mem hk, ?_⟩
  rw [List.getD, List.getElem?_eq_getElem hk] at h
  simpa using h
theorem allI_yes {p : Int → Bool} {l : List Int} (h : ∀ k, k < l.length → p (l.getD k 0) = true) : allI p l = true := by
  rw [allI, List.all_eq_true]
  intro x hx
  obtain ⟨k, hk, rfl⟩ := List.getElem_of_mem hx
  have := h k hk
  rwa [List.getD, List.getElem?_eq_getElem hk] at this
theorem allI_at {p : Int → Bool} {l : List Int} (h : allI p l = true) {k : Nat} (hk : k < l.length) : p (l.getD k 0) = true := by
  rw [List.getD, List.getElem?_eq_getElem hk]
  exact List.all_eq_true.1 h _ (List.getElem_mem hk)
end Go.Proofs.Ytlkdofghhibmbaa
