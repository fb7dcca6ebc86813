/-
  Merged by program: Opens.
-/
import Derived.Test.YtljckcegcfidoaaM4
import Derived.Test.YtljckcegcfidoaaChecked
import Derived.ProofKit
import Derived.Deep.SlicePairs
import Derived.Deep.Grids

/-
  A []api.Share argument and a []bool argument opened: slices that read as lists.
-/
namespace Go.Proofs.Ytljckcegcfidoaa
open Go.RowKit Go.Kx
open Go.ChangeShapes Go.WideShapes Go.ChangeAt Go.Deep

theorem share_cells : Try.prog.cellsOf 39 = 2 := by kernel_rfl
theorem int_cells' : Try.prog.cellsOf 3 = 1 := by kernel_rfl
theorem string_cells' : Try.prog.cellsOf 9 = 1 := by kernel_rfl
theorem bool_cells' : Try.prog.cellsOf 4 = 1 := by kernel_rfl
/-- A slice out of its first cells. -/
theorem sl_of_cells {W : World} {vs : List Value} {a : Addr} (h : ∀ j u, vs[j]? = some u → W.cell? (a.add j) = some u) (hlt : 0 < vs.length → a.block < W.heap.size) : Sl W (some a) vs := by
  by_cases hl : vs.length = 0
  · exact .inl (List.eq_nil_of_length_eq_zero hl)
  · obtain ⟨b, off, spot⟩ := a
    have h0 := h 0 _ (List.getElem?_eq_getElem (by omega))
    have hspot : spot = none := by simpa [Addr.add] using World.cell?_spot h0
    subst hspot
    exact .inr ⟨b, off, rfl, hlt (by omega), fun j u hu => by have := h j u hu; rwa [add_plain] at this⟩
theorem open_shl {H : Type} {enc : TypeId × Value → H} {W : World} {base : Nat} {v : Value} {d : DataW H} {p : List MemPlace} (hv : Value.okWide Try.prog W .any base 22 v) (h : DataW.Trod enc Try.prog W 0 (fun _ => true) true 22 v d p)
    (hlt : ∀ x ∈ p, x.block < W.heap.size) : ∃ (A : Option Addr) (l : List Sh) (c : Nat), v = .slice A l.length c ∧ l.length ≤ 9223372036854775807 ∧ Sl W A (shV l) := by
  obtain ⟨a0, len, cap, rfl⟩ := okWide_slice Try.underlying22 hv
  obtain ⟨fuel, hf⟩ := h
  rcases open_slice_pairs Try.underlying22 Try.underlying39 share_cells rfl rfl int_cells' string_cells' hf with ⟨hcs, hx⟩ | ⟨a, len', cap', m, n, V0, V1, D0, D1, P0, P1, hcs, hb, hl, hm, hmm, hx, hi⟩
  · simp [Value.cells] at hcs
    obtain ⟨rfl, rfl, rfl⟩ := hcs
    exact ⟨none, [], 0, rfl, by simp, Sl.nil _ _⟩
  · simp [Value.cells] at hcs
    obtain ⟨rfl, rfl, rfl⟩ := hcs
    simp only [if_true] at hmm
    subst hmm
    simp only [Prod.mk.injEq] at hx
    obtain ⟨rfl, rfl⟩ := hx
    unfold maxLen at hm
    obtain ⟨S, hS⟩ := choose_lt (α := Sh) (p := fun i s => W.cell? (a.add (i * 2)) = some (.int .i64 s.1) ∧ W.cell? (a.add (i * 2 + 1)) = some (.string s.2)) (fun i hi' => by
      obtain ⟨c0, c1, t0, t1⟩ := hi i hi'
      obtain ⟨z, hz, _⟩ := DataW.trod_int Try.underlying3 t0
      obtain ⟨s, hs, _⟩ := DataW.trod_string Try.underlying9 t1
      refine ⟨(z, s), ?_, ?_⟩
      · rw [c0]; simpa using hz
      · rw [c1]; simpa using hs)
    refine ⟨some a, (List.range len).map S, _, by rw [List.length_map, List.length_range], by simp; omega, ?_⟩
    refine sl_of_cells (fun j u hu => ?_) (fun h0 => ?_)
    · rw [shV_at] at hu
      split at hu
      · rename_i hj
        simp at hj
        have hS2 := hS (j / 2) (by omega)
        have e : ((List.range len).map S).getD (j / 2) sh0 = S (j / 2) := by
          simp [List.getD, show j / 2 < len by omega]
        rw [e] at hu
        rw [← hu]
        rcases (show j % 2 = 0 ∨ j % 2 = 1 by omega) with e2 | e2
        · rw [e2, show j = j / 2 * 2 by omega, hS2.1, show j / 2 * 2 / 2 = j / 2 by omega]
          rfl
        · rw [e2, show j = j / 2 * 2 + 1 by omega, hS2.2, show (j / 2 * 2 + 1) / 2 = j / 2 by omega]
          rfl
      · cases hu
    · have hlen : 0 < len := by
        rw [shV_length] at h0
        simp at h0
        omega
      have hc0 := (hS 0 (by omega)).1
      refine hlt (.cell a.block a.off) (List.mem_append_left _ (MemPlace.mem_row.2 ⟨0, by omega, by simp⟩))
theorem open_booll {H : Type} {enc : TypeId × Value → H} {W : World} {base : Nat} {v : Value} {d : DataW H} {p : List MemPlace} (hv : Value.okWide Try.prog W .any base 36 v) (h : DataW.Trod enc Try.prog W 0 (fun _ => true) true 36 v d p)
    (hlt : ∀ x ∈ p, x.block < W.heap.size) : ∃ (A : Option Addr) (l : List Bool) (c : Nat), v = .slice A l.length c ∧ l.length ≤ 9223372036854775807 ∧ Sl W A (boolV l) := by
  obtain ⟨a0, len, cap, rfl⟩ := okWide_slice Try.underlying36 hv
  obtain ⟨fuel, hf⟩ := h
  rcases open_bools Try.underlying36 Try.underlying4 bool_cells' hf with ⟨hcs, hx⟩ | ⟨a, len', cap', B, hcs, hb, hl, hm, hx, hi⟩
  · simp [Value.cells] at hcs
    obtain ⟨rfl, rfl, rfl⟩ := hcs
    exact ⟨none, [], 0, rfl, by simp, Sl.nil _ _⟩
  · simp [Value.cells] at hcs
    obtain ⟨rfl, rfl, rfl⟩ := hcs
    simp only [Prod.mk.injEq] at hx
    obtain ⟨rfl, rfl⟩ := hx
    unfold maxLen at hm
    refine ⟨some a, (List.range len).map B, _, by rw [List.length_map, List.length_range], by simp; omega, ?_⟩
    refine sl_of_cells (fun j u hu => ?_) (fun h0 => ?_)
    · simp only [boolV, List.getElem?_map, Option.map_eq_some_iff] at hu
      obtain ⟨x, ⟨y, hy, rfl⟩, rfl⟩ := hu
      have hj : j < len := by
        have := (List.getElem?_eq_some_iff.1 hy).1
        simpa using this
      rw [List.getElem?_range hj] at hy
      cases hy
      exact hi j (by omega)
    · have hlen : 0 < len := by
        rw [boolV_length] at h0
        simpa using h0
      exact hlt (.cell a.block a.off) (MemPlace.mem_row.2 ⟨0, by omega, by simp⟩)
end Go.Proofs.Ytljckcegcfidoaa
