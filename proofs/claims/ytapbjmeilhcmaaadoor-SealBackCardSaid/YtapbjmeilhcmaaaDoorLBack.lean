/-
  SealBack, for every input: what is sealed is opened as it was, and is 16 bytes longer; what is opened is sealed as the same bytes.
-/
import Derived.Test.YtapbjmeilhcmaaaDoorSl6
namespace Go.Proofs.YtapbjmeilhcmaaaDoor
open Go.RowKit Go.Kx
set_option maxRecDepth 20000

set_option maxHeartbeats 2000000 in
theorem walkSealBack (key nonce beside : ByteArray) (rb : beside.size ≤ 140737488351232) (s : ByteArray) (rs : s.size ≤ 140737488351232) (x : ByteArray) (rx : x.size ≤ 140737488351232) (w : World) (hK : Places w) :
    Calls Tryd.prog 3 #[.string key, .string nonce, .string beside, .string s, .string x] w fun e w' => e = .returned (.bool true) ∧ Below w.heap.size w w' := by
  have i1 : IntKind.i64.wrap ((beside.size : Int) + (s.size : Int)) = (beside.size : Int) + (s.size : Int) := IntWalk.i64_in _ (by omega)
  have i2 : IntKind.i64.wrap ((beside.size : Int) + (s.size : Int) + (x.size : Int)) = (beside.size : Int) + (s.size : Int) + (x.size : Int) := IntWalk.i64_in _ (by omega)
  by_cases h1 : 100 < key.size
  · have t1 : (100 : Int) < (key.size : Int) := by omega
    clear h1
    go_enter Tryd.func3, Tryd.ntmps3
    go_wp2
    go_ret
    exact ⟨rfl, Below.refl _ _⟩
  have t1 : ¬ (100 : Int) < (key.size : Int) := by omega
  by_cases h2 : 100 < nonce.size
  · have t2 : (100 : Int) < (nonce.size : Int) := by omega
    clear h1 h2
    go_enter Tryd.func3, Tryd.ntmps3
    go_wp2
    go_ret
    exact ⟨rfl, Below.refl _ _⟩
  have t2 : ¬ (100 : Int) < (nonce.size : Int) := by omega
  by_cases h3 : 9000 < beside.size + s.size + x.size
  · have t3 : (9000 : Int) < (beside.size : Int) + (s.size : Int) + (x.size : Int) := by omega
    clear h1 h2 h3
    go_enter Tryd.func3, Tryd.ntmps3
    go_wp2
    go_ret
    exact ⟨rfl, Below.refl _ _⟩
  have t3 : ¬ (9000 : Int) < (beside.size : Int) + (s.size : Int) + (x.size : Int) := by omega
  clear h1 h2
  obtain ⟨⟨a, e⟩, hA⟩ : ∃ p, sealR key nonce beside s = p := ⟨_, rfl⟩
  have haz := sealR_le hA
  obtain ⟨⟨b, f⟩, hB⟩ : ∃ p, openR key nonce beside a = p := ⟨_, rfl⟩
  obtain ⟨⟨c, g⟩, hC⟩ : ∃ p, openR key nonce beside x = p := ⟨_, rfl⟩
  have HA := Lib.hid (seal_any _ _ _ _ _ _ hA)
  have HB := Lib.hid (open_any _ _ _ _ (by omega) _ _ hB)
  have HC := Lib.hid (open_any _ _ _ _ (by omega) _ _ hC)
  by_cases he : e = 0
  · subst he
    rw [seal_back hA] at hB
    obtain ⟨rfl, rfl⟩ := Prod.mk.inj hB
    have has := sealR_size hA
    have ha2 : (a.size : Int) = (s.size : Int) + 16 := by omega
    have i3 : IntKind.i64.wrap ((s.size : Int) + 16) = (s.size : Int) + 16 := IntWalk.i64_in _ (by omega)
    by_cases hg : g = 0
    · subst hg
      have HD := Lib.hid (seal_any _ _ _ _ _ _ (openR_ok hC))
      clear hA hB hC haz h3 has
      go_enter Tryd.func3, Tryd.ntmps3
      go_wp2_with fail
      refine (HA.out _ hK).mono ?_
      rintro e w1 ⟨rfl, hb1⟩
      go_wp2_with fail
      refine (HB.out _ (hK.keep hb1)).mono ?_
      rintro e w2 ⟨rfl, hb2⟩
      have hb12 := hb1.next hb2
      go_wp2_with fail
      refine (HC.out _ (hK.keep hb12)).mono ?_
      rintro e w3 ⟨rfl, hb3⟩
      have hb13 := hb12.next hb3
      go_wp2_with fail
      refine (HD.out _ (hK.keep hb13)).mono ?_
      rintro e w4 ⟨rfl, hb4⟩
      have hb14 := hb13.next hb4
      go_wp2_with fail
      refine (seals_any _ (hK.keep hb14)).mono ?_
      rintro e w5 ⟨rfl, hb5⟩
      go_wp2
      go_ret
      exact ⟨ret_bool (by first | rfl | simp), hb14.next hb5⟩
    · have tg : (g != 0) = true := by simpa using hg
      obtain rfl := openR_err hC hg
      clear hA hB hC haz h3 has hg
      go_enter Tryd.func3, Tryd.ntmps3
      go_wp2_with fail
      refine (HA.out _ hK).mono ?_
      rintro e w1 ⟨rfl, hb1⟩
      go_wp2_with fail
      refine (HB.out _ (hK.keep hb1)).mono ?_
      rintro e w2 ⟨rfl, hb2⟩
      have hb12 := hb1.next hb2
      go_wp2_with fail
      refine (HC.out _ (hK.keep hb12)).mono ?_
      rintro e w3 ⟨rfl, hb3⟩
      have hb13 := hb12.next hb3
      go_wp2_with fail
      refine (seals_any _ (hK.keep hb13)).mono ?_
      rintro e w5 ⟨rfl, hb5⟩
      go_wp2
      go_ret
      exact ⟨ret_bool (by first | rfl | simp), hb13.next hb5⟩
  · have te : (e == 0) = false := by simpa using he
    by_cases hg : g = 0
    · subst hg
      have HD := Lib.hid (seal_any _ _ _ _ _ _ (openR_ok hC))
      clear hA hB hC haz h3 he
      go_enter Tryd.func3, Tryd.ntmps3
      go_wp2_with fail
      refine (HA.out _ hK).mono ?_
      rintro e w1 ⟨rfl, hb1⟩
      go_wp2_with fail
      refine (HB.out _ (hK.keep hb1)).mono ?_
      rintro e w2 ⟨rfl, hb2⟩
      have hb12 := hb1.next hb2
      go_wp2_with fail
      refine (HC.out _ (hK.keep hb12)).mono ?_
      rintro e w3 ⟨rfl, hb3⟩
      have hb13 := hb12.next hb3
      go_wp2_with fail
      refine (HD.out _ (hK.keep hb13)).mono ?_
      rintro e w4 ⟨rfl, hb4⟩
      have hb14 := hb13.next hb4
      go_wp2_with fail
      refine (seals_any _ (hK.keep hb14)).mono ?_
      rintro e w5 ⟨rfl, hb5⟩
      go_wp2
      go_ret
      exact ⟨ret_bool (by first | rfl | simp), hb14.next hb5⟩
    · have tg : (g != 0) = true := by simpa using hg
      obtain rfl := openR_err hC hg
      clear hA hB hC haz h3 he hg
      go_enter Tryd.func3, Tryd.ntmps3
      go_wp2_with fail
      refine (HA.out _ hK).mono ?_
      rintro e w1 ⟨rfl, hb1⟩
      go_wp2_with fail
      refine (HB.out _ (hK.keep hb1)).mono ?_
      rintro e w2 ⟨rfl, hb2⟩
      have hb12 := hb1.next hb2
      go_wp2_with fail
      refine (HC.out _ (hK.keep hb12)).mono ?_
      rintro e w3 ⟨rfl, hb3⟩
      have hb13 := hb12.next hb3
      go_wp2_with fail
      refine (seals_any _ (hK.keep hb13)).mono ?_
      rintro e w5 ⟨rfl, hb5⟩
      go_wp2
      go_ret
      exact ⟨ret_bool (by first | rfl | simp), hb13.next hb5⟩
end Go.Proofs.YtapbjmeilhcmaaaDoor
