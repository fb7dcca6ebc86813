/-
  keyholelaw07.FieldBack: the walk.
-/
import Derived.Test.YtdhgmjfpjbiplaaFld4
namespace Go.Proofs.Ytdhgmjfpjbiplaa
open Go.RowKit Go.Kx
set_option maxRecDepth 20000

set_option maxHeartbeats 4000000 in
theorem back_yes (a b : Int) (w : World) : Calls Try.prog 6 #[.int .i64 a, .int .i64 b] w fun e w' => e = .returned (.bool true) ∧ Below w.heap.size w w' := by
  by_cases hd : 0 ≤ a ∧ a < 256 ∧ 1 ≤ b ∧ b < 256
  rotate_left
  · have hx : (a < 0) ∨ (¬ a < 0 ∧ 255 < a) ∨ (¬ a < 0 ∧ ¬ 255 < a ∧ b < 1) ∨ (¬ a < 0 ∧ ¬ 255 < a ∧ ¬ b < 1 ∧ 255 < b) := by omega
    clear hd
    rcases hx with h0 | ⟨h0, h1⟩ | ⟨h0, h1, h2⟩ | ⟨h0, h1, h2, h3⟩
    all_goals
      go_enter Try.func6, Try.ntmps6
      go_wp2_with fail
      refine (new_any _).mono ?_
      rintro e w1 ⟨rfl, hf, hb⟩
      generalize w.heap.size = g at hf ⊢
      go_wp2_with fail
      refine (fields_any _).mono ?_
      rintro e wf ⟨rfl, hbf⟩
      go_wp2
      go_ret
      exact ⟨rfl, hb.next' hbf⟩
  · obtain ⟨ha0, ha1, hb0, hb1⟩ := hd
    obtain ⟨aN, rfl⟩ : ∃ n : Nat, a = n := ⟨a.toNat, by omega⟩
    replace ha1 : aN < 256 := by omega
    obtain ⟨bN, rfl⟩ : ∃ n : Nat, b = n := ⟨b.toNat, by omega⟩
    replace hb1 : bN < 256 := by omega
    have hb0' : bN ≠ 0 := by omega
    have e1 : Hid (mulA (aN : Nat) (bN : Nat) = (Gf.mulG aN bN, true)) := Lib.hid (mulA_nat ha1 hb1)
    have e2 : Hid (divA (Gf.mulG aN bN : Nat) (bN : Nat) = (aN, true)) := Lib.hid (by rw [divA_nat (Gf.mulG_lt _ ha1) hb1 hb0', Gf.mul_inv_back ha1 hb1 hb0'])
    have e3 : Hid (invA (bN : Nat) = (Gf.invG bN, true)) := Lib.hid (invA_nat hb1 hb0')
    have e4 : Hid (invA (Gf.invG bN : Nat) = (bN, true)) := Lib.hid (by rw [invA_nat (Gf.invG_lt _) (Gf.invG_ne _), Gf.inv_inv hb1 hb0'])
    have e5 : Hid (powA (bN : Nat) 255 = (1, true)) := Lib.hid (by have := powA_nat (n := 255) hb1 (by omega); rw [Gf.powG_255 hb1 hb0'] at this; exact this)
    have e6 : Hid (powA 0 255 = (0, true)) := Lib.hid (by decide +kernel)
    have t0 : (((Gf.mulG aN bN : Nat) : Int) == 0) = ((aN : Int) == 0) := by
      have h := Gf.mul_eq_zero ha1 hb1
      by_cases hz : aN = 0
      · rw [h.2 (.inl hz), hz]
      · have hn : Gf.mulG aN bN ≠ 0 := fun he => by rcases h.1 he with h1 | h1 <;> contradiction
        have f1 : (((Gf.mulG aN bN : Nat) : Int) == 0) = false := by simp; omega
        have f2 : ((aN : Int) == 0) = false := by simp; omega
        rw [f1, f2]
    generalize Gf.mulG aN bN = v1 at *
    generalize Gf.invG bN = v3 at *
    go_enter Try.func6, Try.ntmps6
    go_wp2_with fail
    refine (new_any _).mono ?_
    rintro e w1 ⟨rfl, hf, hb⟩
    generalize w.heap.size = g at hf ⊢
    go_wp2_with fail
    refine (mul_any g _ _ _ hf).mono ?_
    rw [e1.out]
    rintro e wn ⟨rfl, hbn⟩
    replace hf := hf.keep hbn
    replace hb := hb.next' hbn
    clear hbn
    unfold two
    go_wp2_with fail
    refine (div_any g _ _ _ hf).mono ?_
    rw [e2.out]
    rintro e wn ⟨rfl, hbn⟩
    replace hf := hf.keep hbn
    replace hb := hb.next' hbn
    clear hbn
    unfold two
    go_wp2_with fail
    refine (inv_any g _ _ hf).mono ?_
    rw [e3.out]
    rintro e wn ⟨rfl, rfl⟩
    unfold two
    go_wp2_with fail
    refine (inv_any g _ _ hf).mono ?_
    rw [e4.out]
    rintro e wn ⟨rfl, rfl⟩
    unfold two
    go_wp2_with fail
    refine (pow_any g _ _ _ hf).mono ?_
    rw [e5.out]
    rintro e wn ⟨rfl, rfl⟩
    unfold two
    go_wp2_with fail
    refine (pow_any g _ _ _ hf).mono ?_
    rw [e6.out]
    rintro e wn ⟨rfl, rfl⟩
    unfold two
    go_wp2_with fail
    refine (fields_any _).mono ?_
    rintro e wn ⟨rfl, hbn⟩
    replace hb := hb.next' hbn
    clear hbn
    go_wp2
    go_ret
    exact ⟨rfl, hb⟩
end Go.Proofs.Ytdhgmjfpjbiplaa
