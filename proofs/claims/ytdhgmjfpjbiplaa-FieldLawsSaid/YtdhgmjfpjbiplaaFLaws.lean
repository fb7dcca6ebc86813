/-
  keyholelaw07.FieldLaws: the walk.
-/
import Derived.Test.YtdhgmjfpjbiplaaFld4
namespace Go.Proofs.Ytdhgmjfpjbiplaa
open Go.RowKit Go.Kx
set_option maxRecDepth 20000

set_option maxHeartbeats 4000000 in
theorem laws_yes (a b c : Int) (w : World) : Calls Try.prog 5 #[.int .i64 a, .int .i64 b, .int .i64 c] w fun e w' => e = .returned (.bool true) ∧ Below w.heap.size w w' := by
  by_cases hd : 0 ≤ a ∧ a < 256 ∧ 0 ≤ b ∧ b < 256 ∧ 0 ≤ c ∧ c < 256
  rotate_left
  · have hx : (a < 0) ∨ (¬ a < 0 ∧ 255 < a) ∨ (¬ a < 0 ∧ ¬ 255 < a ∧ b < 0) ∨ (¬ a < 0 ∧ ¬ 255 < a ∧ ¬ b < 0 ∧ 255 < b) ∨ (¬ a < 0 ∧ ¬ 255 < a ∧ ¬ b < 0 ∧ ¬ 255 < b ∧ c < 0) ∨ (¬ a < 0 ∧ ¬ 255 < a ∧ ¬ b < 0 ∧ ¬ 255 < b ∧ ¬ c < 0 ∧ 255 < c) := by omega
    clear hd
    rcases hx with h0 | ⟨h0, h1⟩ | ⟨h0, h1, h2⟩ | ⟨h0, h1, h2, h3⟩ | ⟨h0, h1, h2, h3, h4⟩ | ⟨h0, h1, h2, h3, h4, h5⟩
    all_goals
      go_enter Try.func5, Try.ntmps5
      go_wp2_with fail
      refine (new_any _).mono ?_
      rintro e w1 ⟨rfl, hf, hb⟩
      generalize w.heap.size = g at hf ⊢
      go_wp2_with fail
      refine (fields_any _).mono ?_
      rintro e wf ⟨rfl, hbf⟩
      go_wp2
      go_ret
      exact ⟨rfl, hb.next' hbf⟩
  · obtain ⟨ha0, ha1, hb0, hb1, hc0, hc1⟩ := hd
    obtain ⟨aN, rfl⟩ : ∃ n : Nat, a = n := ⟨a.toNat, by omega⟩
    replace ha1 : aN < 256 := by omega
    obtain ⟨bN, rfl⟩ : ∃ n : Nat, b = n := ⟨b.toNat, by omega⟩
    replace hb1 : bN < 256 := by omega
    obtain ⟨cN, rfl⟩ : ∃ n : Nat, c = n := ⟨c.toNat, by omega⟩
    replace hc1 : cN < 256 := by omega
    have e1 : Hid (mulA (aN : Nat) (bN : Nat) = (Gf.mulG aN bN, true)) := Lib.hid (mulA_nat ha1 hb1)
    have e2 : Hid (mulA (bN : Nat) (aN : Nat) = (Gf.mulG aN bN, true)) := Lib.hid (by rw [mulA_nat hb1 ha1, Gf.mul_comm hb1 ha1])
    have e3 : Hid (mulA (bN : Nat) (cN : Nat) = (Gf.mulG bN cN, true)) := Lib.hid (mulA_nat hb1 hc1)
    have e4 : Hid (mulA (Gf.mulG aN bN : Nat) (cN : Nat) = (Gf.mulG (Gf.mulG aN bN) cN, true)) := Lib.hid (mulA_nat (Gf.mulG_lt _ ha1) hc1)
    have e5 : Hid (mulA (aN : Nat) (Gf.mulG bN cN : Nat) = (Gf.mulG (Gf.mulG aN bN) cN, true)) := Lib.hid (by rw [mulA_nat ha1 (Gf.mulG_lt _ hb1), Gf.mul_assoc ha1 hb1 hc1])
    have e6 : Hid (addA (bN : Nat) (cN : Nat) = (bN ^^^ cN, true)) := Lib.hid (addA_nat hb1 hc1)
    have e7 : Hid (mulA (aN : Nat) (bN ^^^ cN : Nat) = (Gf.mulG aN bN ^^^ Gf.mulG aN cN, true)) := Lib.hid (by rw [mulA_nat ha1 (Gf.xor_lt hb1 hc1), Gf.mul_xor _ hb1 hc1])
    have e8 : Hid (mulA (aN : Nat) (cN : Nat) = (Gf.mulG aN cN, true)) := Lib.hid (mulA_nat ha1 hc1)
    have e9 : Hid (addA (Gf.mulG aN bN : Nat) (Gf.mulG aN cN : Nat) = (Gf.mulG aN bN ^^^ Gf.mulG aN cN, true)) := Lib.hid (addA_nat (Gf.mulG_lt _ ha1) (Gf.mulG_lt _ ha1))
    have e10 : Hid (mulA (aN : Nat) 1 = (aN, true)) := Lib.hid (by have := mulA_nat ha1 (show 1 < 256 by omega); rw [Gf.mul_one ha1] at this; exact this)
    generalize Gf.mulG aN bN ^^^ Gf.mulG aN cN = v7 at *
    generalize Gf.mulG (Gf.mulG aN bN) cN = v4 at *
    generalize Gf.mulG aN bN = v1 at *
    generalize Gf.mulG bN cN = v3 at *
    generalize Gf.mulG aN cN = v8 at *
    generalize bN ^^^ cN = v6 at *
    go_enter Try.func5, Try.ntmps5
    go_wp2_with fail
    refine (new_any _).mono ?_
    rintro e w1 ⟨rfl, hf, hb⟩
    generalize w.heap.size = g at hf ⊢
    go_wp2_with fail
    refine (mul_any g _ _ _ hf).mono ?_
    rw [e1.out]
    rintro e wn ⟨rfl, hbn⟩
    replace hf := hf.keep hbn
    replace hb := hb.next' hbn
    clear hbn
    unfold two
    go_wp2_with fail
    refine (mul_any g _ _ _ hf).mono ?_
    rw [e2.out]
    rintro e wn ⟨rfl, hbn⟩
    replace hf := hf.keep hbn
    replace hb := hb.next' hbn
    clear hbn
    unfold two
    go_wp2_with fail
    refine (mul_any g _ _ _ hf).mono ?_
    rw [e3.out]
    rintro e wn ⟨rfl, hbn⟩
    replace hf := hf.keep hbn
    replace hb := hb.next' hbn
    clear hbn
    unfold two
    go_wp2_with fail
    refine (mul_any g _ _ _ hf).mono ?_
    rw [e4.out]
    rintro e wn ⟨rfl, hbn⟩
    replace hf := hf.keep hbn
    replace hb := hb.next' hbn
    clear hbn
    unfold two
    go_wp2_with fail
    refine (mul_any g _ _ _ hf).mono ?_
    rw [e5.out]
    rintro e wn ⟨rfl, hbn⟩
    replace hf := hf.keep hbn
    replace hb := hb.next' hbn
    clear hbn
    unfold two
    go_wp2_with fail
    refine (add_any _ _ _).mono ?_
    rw [e6.out]
    rintro e wn ⟨rfl, rfl⟩
    unfold two
    go_wp2_with fail
    refine (mul_any g _ _ _ hf).mono ?_
    rw [e7.out]
    rintro e wn ⟨rfl, hbn⟩
    replace hf := hf.keep hbn
    replace hb := hb.next' hbn
    clear hbn
    unfold two
    go_wp2_with fail
    refine (mul_any g _ _ _ hf).mono ?_
    rw [e8.out]
    rintro e wn ⟨rfl, hbn⟩
    replace hf := hf.keep hbn
    replace hb := hb.next' hbn
    clear hbn
    unfold two
    go_wp2_with fail
    refine (add_any _ _ _).mono ?_
    rw [e9.out]
    rintro e wn ⟨rfl, rfl⟩
    unfold two
    go_wp2_with fail
    refine (mul_any g _ _ _ hf).mono ?_
    rw [e10.out]
    rintro e wn ⟨rfl, hbn⟩
    replace hf := hf.keep hbn
    replace hb := hb.next' hbn
    clear hbn
    unfold two
    go_wp2_with fail
    refine (fields_any _).mono ?_
    rintro e wn ⟨rfl, hbn⟩
    replace hb := hb.next' hbn
    clear hbn
    go_wp2
    go_ret
    exact ⟨rfl, hb⟩
end Go.Proofs.Ytdhgmjfpjbiplaa
