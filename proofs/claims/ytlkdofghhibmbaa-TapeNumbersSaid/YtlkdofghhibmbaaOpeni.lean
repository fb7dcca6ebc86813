/-
  A []int argument opened: a slice that reads as a list.
-/
import Derived.Test.YtlkdofghhibmbaaIntl
import Derived.Test.YtlkdofghhibmbaaPost
import Derived.Test.YtlkdofghhibmbaaChecked
import Derived.ProofKit
namespace Go.Proofs.Ytlkdofghhibmbaa
open Go.RowKit Go.Kx
open Go.ChangeShapes Go.WideShapes Go.ChangeAt

theorem int_cells : Try.prog.cellsOf 3 = 1 := by kernel_rfl
theorem open_intl {H : Type} {enc : TypeId × Value → H} {W : World} {base : Nat} {v : Value} {d : DataW H} {p : List MemPlace} (hv : Value.okWide Try.prog W .any base 22 v) (h : DataW.Trod enc Try.prog W 0 (fun _ => true) true 22 v d p)
    (hlt : ∀ x ∈ p, x.block < W.heap.size) : ∃ (A : Option Addr) (l : List Int) (c : Nat), v = .slice A l.length c ∧ l.length ≤ 9223372036854775807 ∧ Sl W A (intsI l) := by
  obtain ⟨a0, len, cap, rfl⟩ := okWide_slice Try.underlying22 hv
  obtain ⟨fuel, hf⟩ := h
  rcases open_ints Try.underlying22 Try.underlying3 int_cells hf with ⟨hcs, hx⟩ | ⟨a, len', cap', zs, hcs, _, hl, hm, hz, hx, hcell, hwz⟩
  · simp [Value.cells] at hcs
    obtain ⟨rfl, rfl, rfl⟩ := hcs
    exact ⟨none, [], 0, rfl, by simp, Sl.nil _ _⟩
  · simp [Value.cells] at hcs
    obtain ⟨rfl, rfl, rfl⟩ := hcs
    simp only [Prod.mk.injEq] at hx
    obtain ⟨rfl, rfl⟩ := hx
    simp only [if_true] at hz
    unfold maxLen at hm
    have hlen : (zs.take len).length = len := by rw [List.length_take]; omega
    refine ⟨some a, zs.take len, cap, by rw [hlen], by omega, ?_⟩
    by_cases hl0 : len = 0
    · subst hl0
      exact .inl rfl
    · obtain ⟨b, off, spot⟩ := a
      have hspot : spot = none := by simpa [Addr.add] using World.cell?_spot (hcell 0 (by omega))
      subst hspot
      refine .inr ⟨b, off, rfl, hlt (.cell b off) (MemPlace.mem_row.2 ⟨0, by omega, by simp⟩), fun j u hu => ?_⟩
      obtain ⟨y, hy, rfl⟩ := intsI_at hu
      have hj : j < len := by
        have := (List.getElem?_eq_some_iff.1 hy).1
        omega
      rw [List.getElem?_take, if_pos hj] at hy
      have h2 := hcell j (by omega)
      rw [add_plain] at h2
      rw [h2, List.getD, hy]
      rfl
end Go.Proofs.Ytlkdofghhibmbaa
