/-
  keyholelaw07.FieldApart: the walk.
-/
import Derived.Test.YtdhgmjfpjbiplaaFld4
namespace Go.Proofs.Ytdhgmjfpjbiplaa
open Go.RowKit Go.Kx
set_option maxRecDepth 20000

set_option maxHeartbeats 4000000 in
theorem apart_yes (a b c : Int) (w : World) : Calls Try.prog 7 #[.int .i64 a, .int .i64 b, .int .i64 c] w fun e w' => e = .returned (.bool true) ∧ Below w.heap.size w w' := by
  by_cases hd : 0 ≤ a ∧ a < 256 ∧ 0 ≤ b ∧ b < 256 ∧ 1 ≤ c ∧ c < 256
  rotate_left
  · have hx : (a < 0) ∨ (¬ a < 0 ∧ 255 < a) ∨ (¬ a < 0 ∧ ¬ 255 < a ∧ b < 0) ∨ (¬ a < 0 ∧ ¬ 255 < a ∧ ¬ b < 0 ∧ 255 < b) ∨ (¬ a < 0 ∧ ¬ 255 < a ∧ ¬ b < 0 ∧ ¬ 255 < b ∧ c < 1) ∨ (¬ a < 0 ∧ ¬ 255 < a ∧ ¬ b < 0 ∧ ¬ 255 < b ∧ ¬ c < 1 ∧ 255 < c) := by omega
    clear hd
    rcases hx with h0 | ⟨h0, h1⟩ | ⟨h0, h1, h2⟩ | ⟨h0, h1, h2, h3⟩ | ⟨h0, h1, h2, h3, h4⟩ | ⟨h0, h1, h2, h3, h4, h5⟩
    all_goals
      go_enter Try.func7, Try.ntmps7
      go_wp2_with fail
      refine (new_any _).mono ?_
      rintro e w1 ⟨rfl, hf, hb⟩
      generalize w.heap.size = g at hf ⊢
      go_wp2_with fail
      refine (fields_any _).mono ?_
      rintro e wf ⟨rfl, hbf⟩
      go_wp2
      go_ret
      exact ⟨rfl, hb.next' hbf⟩
  · obtain ⟨ha0, ha1, hb0, hb1, hc0, hc1⟩ := hd
    obtain ⟨aN, rfl⟩ : ∃ n : Nat, a = n := ⟨a.toNat, by omega⟩
    replace ha1 : aN < 256 := by omega
    obtain ⟨bN, rfl⟩ : ∃ n : Nat, b = n := ⟨b.toNat, by omega⟩
    replace hb1 : bN < 256 := by omega
    obtain ⟨cN, rfl⟩ : ∃ n : Nat, c = n := ⟨c.toNat, by omega⟩
    replace hc1 : cN < 256 := by omega
    have hc0' : cN ≠ 0 := by omega
    have e1 : Hid (mulA (aN : Nat) (cN : Nat) = (Gf.mulG aN cN, true)) := Lib.hid (mulA_nat ha1 hc1)
    have e2 : Hid (mulA (bN : Nat) (cN : Nat) = (Gf.mulG bN cN, true)) := Lib.hid (mulA_nat hb1 hc1)
    have e3 : Hid (addA (aN : Nat) (cN : Nat) = (aN ^^^ cN, true)) := Lib.hid (addA_nat ha1 hc1)
    have e4 : Hid (addA (bN : Nat) (cN : Nat) = (bN ^^^ cN, true)) := Lib.hid (addA_nat hb1 hc1)
    have t0 : (((Gf.mulG aN cN : Nat) : Int) == ((Gf.mulG bN cN : Nat) : Int)) = ((aN : Int) == (bN : Int)) := eq_both ⟨fun h => Gf.cancel_right ha1 hb1 hc1 hc0' h, fun h => by rw [h]⟩
    have t1 : (((aN ^^^ cN : Nat) : Int) == ((bN ^^^ cN : Nat) : Int)) = ((aN : Int) == (bN : Int)) := eq_both ⟨fun h => by rw [← Nat.xor_zero aN, ← Nat.xor_self cN, ← Nat.xor_assoc, h, Nat.xor_assoc, Nat.xor_self, Nat.xor_zero], fun h => by rw [h]⟩
    generalize Gf.mulG aN cN = v1 at *
    generalize Gf.mulG bN cN = v2 at *
    generalize aN ^^^ cN = v3 at *
    generalize bN ^^^ cN = v4 at *
    go_enter Try.func7, Try.ntmps7
    go_wp2_with fail
    refine (new_any _).mono ?_
    rintro e w1 ⟨rfl, hf, hb⟩
    generalize w.heap.size = g at hf ⊢
    go_wp2_with fail
    refine (mul_any g _ _ _ hf).mono ?_
    rw [e1.out]
    rintro e wn ⟨rfl, hbn⟩
    replace hf := hf.keep hbn
    replace hb := hb.next' hbn
    clear hbn
    unfold two
    go_wp2_with fail
    refine (mul_any g _ _ _ hf).mono ?_
    rw [e2.out]
    rintro e wn ⟨rfl, hbn⟩
    replace hf := hf.keep hbn
    replace hb := hb.next' hbn
    clear hbn
    unfold two
    go_wp2_with fail
    refine (add_any _ _ _).mono ?_
    rw [e3.out]
    rintro e wn ⟨rfl, rfl⟩
    unfold two
    go_wp2_with fail
    refine (add_any _ _ _).mono ?_
    rw [e4.out]
    rintro e wn ⟨rfl, rfl⟩
    unfold two
    go_wp2_with fail
    refine (fields_any _).mono ?_
    rintro e wn ⟨rfl, hbn⟩
    replace hb := hb.next' hbn
    clear hbn
    go_wp2
    go_ret
    exact ⟨rfl, hb⟩
end Go.Proofs.Ytdhgmjfpjbiplaa
