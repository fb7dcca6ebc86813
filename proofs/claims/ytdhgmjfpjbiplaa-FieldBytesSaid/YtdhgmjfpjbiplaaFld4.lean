/-
  keyholelaw07.fields: the document's rows.
-/
import Derived.Test.YtdhgmjfpjbiplaaFld2
namespace Go.Proofs.Ytdhgmjfpjbiplaa
open Go.RowKit Go.Kx
set_option maxRecDepth 20000

theorem addA_nat {m n : Nat} (hm : m < 256) (hn : n < 256) : addA m n = (m ^^^ n, true) := by simp [addA, dig_of hm, dig_of hn]
theorem mulA_nat {m n : Nat} (hm : m < 256) (hn : n < 256) : mulA m n = (Gf.mulG m n, true) := by simp [mulA, dig_of hm, dig_of hn]
theorem invA_nat {m : Nat} (hm : m < 256) (h0 : m ≠ 0) : invA m = (Gf.invG m, true) := by simp [invA, dig_of hm, h0]
theorem divA_nat {m n : Nat} (hm : m < 256) (hn : n < 256) (h0 : n ≠ 0) : divA m n = (Gf.mulG m (Gf.invG n), true) := by simp [divA, dig_of hm, dig_of hn, h0]
theorem powA_nat {m n : Nat} (hm : m < 256) (hn : n ≤ 1000000) : powA m n = (Gf.powG m n, true) := by simp [powA, dig_of hm]; omega
theorem eq_both {a b c d : Nat} (h : a = b ↔ c = d) : ((a : Int) == (b : Int)) = ((c : Int) == (d : Int)) := by
  by_cases hc : c = d
  · rw [hc, h.2 hc]; simp
  · have ha : ¬ a = b := fun e => hc (h.1 e)
    have e1 : ((a : Int) == (b : Int)) = false := by simp; omega
    have e2 : ((c : Int) == (d : Int)) = false := by simp; omega
    rw [e1, e2]
theorem fields_any (w : World) : Calls Try.prog 19 #[] w fun e w' => e = .returned (.bool true) ∧ Below w.heap.size w w' := by
  have e1 : addA 83 202 = (153, true) := by decide +kernel
  have e2 : mulA 83 202 = (1, true) := by decide +kernel
  have e3 : mulA 2 128 = (27, true) := by decide +kernel
  have e4 : invA 3 = (246, true) := by decide +kernel
  have e5 : invA 0 = (0, false) := by decide +kernel
  have e6 : mulA 256 1 = (0, false) := by decide +kernel
  go_enter Try.func19, Try.ntmps19
  go_wp2_with fail
  refine (new_any _).mono ?_
  rintro e w1 ⟨rfl, hf, hb⟩
  generalize w.heap.size = g at hf ⊢
  go_wp2_with fail
  refine (add_any _ _ _).mono ?_
  rw [e1]
  rintro e w2 ⟨rfl, rfl⟩
  unfold two
  go_wp2_with fail
  refine (mul_any g _ _ _ hf).mono ?_
  rw [e2]
  rintro e w3 ⟨rfl, hb3⟩
  replace hf := hf.keep hb3
  replace hb := hb.next' hb3
  unfold two
  go_wp2_with fail
  refine (mul_any g _ _ _ hf).mono ?_
  rw [e3]
  rintro e w4 ⟨rfl, hb4⟩
  replace hf := hf.keep hb4
  replace hb := hb.next' hb4
  unfold two
  go_wp2_with fail
  refine (inv_any g _ _ hf).mono ?_
  rw [e4]
  rintro e w5 ⟨rfl, rfl⟩
  unfold two
  go_wp2_with fail
  refine (inv_any g _ _ hf).mono ?_
  rw [e5]
  rintro e w5 ⟨rfl, rfl⟩
  unfold two
  go_wp2_with fail
  refine (mul_any g _ _ _ hf).mono ?_
  rw [e6]
  rintro e w6 ⟨rfl, hb6⟩
  replace hb := hb.next' hb6
  unfold two
  go_wp2
  go_ret
  exact ⟨rfl, hb⟩
end Go.Proofs.Ytdhgmjfpjbiplaa
