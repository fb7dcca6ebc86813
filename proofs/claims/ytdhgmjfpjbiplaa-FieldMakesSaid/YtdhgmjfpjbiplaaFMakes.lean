/-
  keyholelaw07.FieldMakes: the walk.
-/
import Derived.Test.YtdhgmjfpjbiplaaFld3
import Derived.Test.YtdhgmjfpjbiplaaFld4
namespace Go.Proofs.Ytdhgmjfpjbiplaa
open Go.RowKit Go.Kx
set_option maxRecDepth 20000

set_option maxHeartbeats 4000000 in
theorem makes_yes (a b n : Int) (w : World) : Calls Try.prog 3 #[.int .i64 a, .int .i64 b, .int .i64 n] w fun e w' => e = .returned (.bool true) ∧ Below w.heap.size w w' := by
  obtain ⟨⟨s, s'⟩, hs⟩ : ∃ r, addA a b = r := ⟨_, rfl⟩
  obtain ⟨⟨p, p'⟩, hp⟩ : ∃ r, mulA a b = r := ⟨_, rfl⟩
  obtain ⟨⟨u, u'⟩, hu⟩ : ∃ r, invA a = r := ⟨_, rfl⟩
  obtain ⟨⟨x, x'⟩, hx⟩ : ∃ r, divA a b = r := ⟨_, rfl⟩
  obtain ⟨⟨z, z'⟩, hz⟩ : ∃ r, powA a n = r := ⟨_, rfl⟩
  have HS := Lib.hid hs
  have HP := Lib.hid hp
  have HU := Lib.hid hu
  have HX := Lib.hid hx
  have HZ := Lib.hid hz
  clear hs hp hu hx hz
  go_enter Try.func3, Try.ntmps3
  go_wp2_with fail
  refine (new_any _).mono ?_
  rintro e w1 ⟨rfl, hf, hb⟩
  generalize w.heap.size = g at hf ⊢
  go_wp2_with fail
  refine (add_any _ _ _).mono ?_
  rw [HS.out]
  rintro e wn ⟨rfl, rfl⟩
  unfold two
  go_wp2_with fail
  refine (radd_any _ _ _).mono ?_
  rw [HS.out]
  rintro e wn ⟨rfl, rfl⟩
  unfold two
  go_wp2_with fail
  refine (mul_any g _ _ _ hf).mono ?_
  rw [HP.out]
  rintro e wn ⟨rfl, hbn⟩
  replace hf := hf.keep hbn
  replace hb := hb.next' hbn
  clear hbn
  unfold two
  go_wp2_with fail
  refine (rmul_any _ _ _).mono ?_
  rw [HP.out]
  rintro e wn ⟨rfl, rfl⟩
  unfold two
  go_wp2_with fail
  refine (inv_any g _ _ hf).mono ?_
  rw [HU.out]
  rintro e wn ⟨rfl, rfl⟩
  unfold two
  go_wp2_with fail
  refine (rinv_any _ _).mono ?_
  rw [HU.out]
  rintro e wn ⟨rfl, rfl⟩
  unfold two
  go_wp2_with fail
  refine (div_any g _ _ _ hf).mono ?_
  rw [HX.out]
  rintro e wn ⟨rfl, hbn⟩
  replace hf := hf.keep hbn
  replace hb := hb.next' hbn
  clear hbn
  unfold two
  go_wp2_with fail
  refine (rdiv_any _ _ _).mono ?_
  rw [HX.out]
  rintro e wn ⟨rfl, rfl⟩
  unfold two
  go_wp2_with fail
  refine (pow_any g _ _ _ hf).mono ?_
  rw [HZ.out]
  rintro e wn ⟨rfl, rfl⟩
  unfold two
  go_wp2_with fail
  refine (rpow_any _ _ _).mono ?_
  rw [HZ.out]
  rintro e wn ⟨rfl, rfl⟩
  unfold two
  go_wp2_with fail
  refine (fields_any _).mono ?_
  rintro e wn ⟨rfl, hbn⟩
  replace hb := hb.next' hbn
  clear hbn
  go_wp2
  go_ret
  exact ⟨rfl, hb⟩
end Go.Proofs.Ytdhgmjfpjbiplaa
