/-
  keyholelaw09.ShareHides: the walk.
-/
import Derived.Test.YtljckcegcfidoaaShw
import Derived.Test.YtljckcegcfidoaaShc
import Derived.Test.YtljckcegcfidoaaShh
namespace Go.Proofs.Ytljckcegcfidoaa
open Go.RowKit Go.Kx
set_option maxRecDepth 20000

set_option maxHeartbeats 4000000 in
theorem hides_yes (s o : ByteArray) (n k : Int) (t : ByteArray) (m : List Bool) (B : Option Addr) (d : Nat) (hm0 : m.length ≤ 9223372036854775807) (w : World) (hsm : Sl w B (boolV m)) :
    Calls Try.prog 6 #[.string s, .string o, .int .i64 n, .int .i64 k, .string t, .slice B m.length d] w fun e w' => e = .returned (.bool true) ∧ Below w.heap.size w w' := by
  by_cases c0 : (100 : Int) < (s.size : Int)
  · go_enter Try.func6, Try.ntmps6
    go_wp2
    go_ret
    exact ⟨rfl, Below.refl _ _⟩
  by_cases c1 : (300 : Int) < (t.size : Int)
  · go_enter Try.func6, Try.ntmps6
    go_wp2
    go_ret
    exact ⟨rfl, Below.refl _ _⟩
  by_cases c4 : (20 : Int) < n ∧ n ≤ 255
  · obtain ⟨c5, c6⟩ := c4
    go_enter Try.func6, Try.ntmps6
    go_wp2
    go_ret
    exact ⟨rfl, Below.refl _ _⟩
  have HC4 := Lib.hid c4
  clear c4
  by_cases c7 : (20 : Int) < n
  · have c8 : ¬ n ≤ 255 := fun h => HC4.out ⟨c7, h⟩
    by_cases c9 : (300 : Int) < (m.length : Int)
    · go_enter Try.func6, Try.ntmps6
      go_wp2
      go_ret
      exact ⟨rfl, Below.refl _ _⟩
    have h : ¬ okS s n k t := fun h => c8 h.2.2.1
    have HS1 := Lib.hid (fun V => split_no s n k t h V)
    have HCH : Hid (∀ V, Sl V B (boolV m) → Calls Try.prog 21 #[.slice none 0 0, .slice B m.length d] V fun e w' => (∃ C cc, e = .returned (.slice C 0 cc)) ∧ Below V.heap.size V w') := Lib.hid (fun V hV => by
      refine (chosen_any [] m none B 0 d (by decide) (by omega) V (Sl.nil _ _) hV).mono ?_
      rintro e w' ⟨⟨C, cc, he, _⟩, hb⟩
      rw [chL_nil] at he
      exact ⟨⟨C, cc, he⟩, hb⟩)
    clear h
    go_enter Try.func6, Try.ntmps6
    go_wp2_with fail
    refine (HS1.out _).mono ?_
    rintro e w ⟨rfl, rfl⟩
    unfold shEnd
    go_wp2_with fail
    refine (HCH.out _ hsm).mono ?_
    rintro e w1 ⟨⟨C, cc, rfl⟩, hb⟩
    go_wp2_with fail
    refine (shares_any _).mono ?_
    rintro e w9 ⟨rfl, hb9⟩
    go_wp2
    go_ret
    exact ⟨rfl, hb.next' hb9⟩
  by_cases c9 : (300 : Int) < (m.length : Int)
  · go_enter Try.func6, Try.ntmps6
    go_wp2
    go_ret
    exact ⟨rfl, Below.refl _ _⟩
  by_cases h : okS s n k t
  rotate_left
  · have HS1 := Lib.hid (fun V => split_no s n k t h V)
    have HCH : Hid (∀ V, Sl V B (boolV m) → Calls Try.prog 21 #[.slice none 0 0, .slice B m.length d] V fun e w' => (∃ C cc, e = .returned (.slice C 0 cc)) ∧ Below V.heap.size V w') := Lib.hid (fun V hV => by
      refine (chosen_any [] m none B 0 d (by decide) (by omega) V (Sl.nil _ _) hV).mono ?_
      rintro e w' ⟨⟨C, cc, he, _⟩, hb⟩
      rw [chL_nil] at he
      exact ⟨⟨C, cc, he⟩, hb⟩)
    clear h
    go_enter Try.func6, Try.ntmps6
    go_wp2_with fail
    refine (HS1.out _).mono ?_
    rintro e w ⟨rfl, rfl⟩
    unfold shEnd
    go_wp2_with fail
    refine (HCH.out _ hsm).mono ?_
    rintro e w1 ⟨⟨C, cc, rfl⟩, hb⟩
    go_wp2_with fail
    refine (shares_any _).mono ?_
    rintro e w9 ⟨rfl, hb9⟩
    go_wp2
    go_ret
    exact ⟨rfl, hb.next' hb9⟩
  obtain ⟨n, k, rfl, rfl, p1, p2, p3, p4, p5, p6⟩ := okS_nat h
  have HS1 := Lib.hid (fun V => split_yes s n k t p5 p1 p2 p3 p4 p6 V)
  have HSUB := Lib.hid (chL_sub (splL (s ++ t) n k) m)
  have HLN := Lib.hid (splL_length (s ++ t) n k)
  have HCH : Hid (∀ V A c, Sl V A (shV (splL (s ++ t) n k)) → Sl V B (boolV m) → Calls Try.prog 21 #[.slice A n c, .slice B m.length d] V fun e w' => (∃ C cc, e = .returned (.slice C (chL (splL (s ++ t) n k) m).length cc) ∧ Sl w' C (shV (chL (splL (s ++ t) n k) m))) ∧ Below V.heap.size V w') := Lib.hid (fun V A c hV hV2 => by
    have := chosen_any (splL (s ++ t) n k) m A B c d (by rw [splL_length]; omega) (by omega) V hV hV2
    rwa [splL_length] at this)
  have HLE : (chL (splL (s ++ t) n k) m).length ≤ n := by
    have := HSUB.out.length_le
    rwa [HLN.out] at this
  by_cases ho : (o.size : Int) = 32
  rotate_left
  · have t1 : ((o.size : Int) != 32) = true := by simpa using ho
    generalize chL (splL (s ++ t) n k) m = cl at *
    generalize splL (s ++ t) n k = L at *
    clear h p6 ho
    go_enter Try.func6, Try.ntmps6
    go_wp2_with fail
    refine (HS1.out _).mono ?_
    rintro e w1 ⟨⟨A1, cA1, rfl, hs1⟩, hb⟩
    unfold shEnd
    go_wp2_with fail
    refine (HCH.out _ _ _ hs1 (hsm.keep hb)).mono ?_
    rintro e w2 ⟨⟨C, cc, rfl, hsc⟩, hb2⟩
    replace hb := hb.next' hb2
    clear hb2
    go_wp2_with fail
    refine (shares_any _).mono ?_
    rintro e w9 ⟨rfl, hb9⟩
    go_wp2
    go_ret
    exact ⟨rfl, hb.next' hb9⟩
  have t1 : ((o.size : Int) != 32) = false := by simpa using ho
  by_cases hlen : ((chL (splL (s ++ t) n k) m).length : Int) = (k : Int) - 1
  rotate_left
  · have t2 : (((chL (splL (s ++ t) n k) m).length : Int) != (k : Int) - 1) = true := by simpa using hlen
    generalize chL (splL (s ++ t) n k) m = cl at *
    generalize splL (s ++ t) n k = L at *
    clear h p6 ho hlen
    go_enter Try.func6, Try.ntmps6
    go_wp2_with fail
    refine (HS1.out _).mono ?_
    rintro e w1 ⟨⟨A1, cA1, rfl, hs1⟩, hb⟩
    unfold shEnd
    go_wp2_with fail
    refine (HCH.out _ _ _ hs1 (hsm.keep hb)).mono ?_
    rintro e w2 ⟨⟨C, cc, rfl, hsc⟩, hb2⟩
    replace hb := hb.next' hb2
    clear hb2
    go_wp2_with fail
    refine (shares_any _).mono ?_
    rintro e w9 ⟨rfl, hb9⟩
    go_wp2
    go_ret
    exact ⟨rfl, hb.next' hb9⟩
  have t2 : (((chL (splL (s ++ t) n k) m).length : Int) != (k : Int) - 1) = false := by simpa using hlen
  by_cases hz : ((chL (splL (s ++ t) n k) m).length : Int) = 0
  · have t3 : (((chL (splL (s ++ t) n k) m).length : Int) == 0) = true := by simp only [hz]; rfl
    generalize chL (splL (s ++ t) n k) m = cl at *
    generalize splL (s ++ t) n k = L at *
    clear h p6 ho hlen hz
    go_enter Try.func6, Try.ntmps6
    go_wp2_with fail
    refine (HS1.out _).mono ?_
    rintro e w1 ⟨⟨A1, cA1, rfl, hs1⟩, hb⟩
    unfold shEnd
    go_wp2_with fail
    refine (HCH.out _ _ _ hs1 (hsm.keep hb)).mono ?_
    rintro e w2 ⟨⟨C, cc, rfl, hsc⟩, hb2⟩
    replace hb := hb.next' hb2
    clear hb2
    go_wp2_with fail
    refine (shares_any _).mono ?_
    rintro e w9 ⟨rfl, hb9⟩
    go_wp2
    go_ret
    exact ⟨rfl, hb.next' hb9⟩
  have t3 : (((chL (splL (s ++ t) n k) m).length : Int) == 0) = false := by simpa using hz
  have o32 : o.size = 32 := by omega
  have hk : k = (chL (splL (s ++ t) n k) m).length + 1 := by omega
  have h1 : 1 ≤ (chL (splL (s ++ t) n k) m).length := by omega
  have hr := sub_right p2 HSUB.out h1
  have hzb := sub_zero HSUB.out
  obtain ⟨Q, hQ⟩ := thru_some (s := o) hr hzb
  have HT1 := Lib.hid (fun V A c h => tape_yes o (chL (splL (s ++ t) n k) m) A c Q ⟨o32, hr, hzb, by omega⟩ hQ V h)
  have HT2 : Hid (∀ V A c, Sl V A (shV (chL (splL (s ++ t) n k) m)) → Calls Try.prog 19 #[.string s, .slice A (chL (splL (s ++ t) n k) m).length c] V fun e w' => e = strE (t, 0) ∧ Below V.heap.size V w') := Lib.hid (fun V A c h => by
    have := tape_yes s (chL (splL (s ++ t) n k) m) A c (polQ (s ++ t) k) ⟨p5, hr, hzb, by omega⟩ (thru_polQ p5 HSUB.out hk) V h
    have e := tap_polQ (s := s) (t := t) (m := (chL (splL (s ++ t) n k) m).length) p5 (by omega)
    rw [← hk] at e
    rwa [e] at this)
  have e2 := hides o32 p2 h1 hk hQ
  have hts : (⟨(tapL Q (chL (splL (s ++ t) n k) m).length).toArray⟩ : ByteArray).size = 32 * (k - 1) := by rw [size_mk, tapL_length]; omega
  obtain ⟨t2', ht2⟩ : ∃ t2 : ByteArray, (⟨(tapL Q (chL (splL (s ++ t) n k) m).length).toArray⟩ : ByteArray) = t2 := ⟨_, rfl⟩
  rw [ht2] at e2 hts
  have HS2 := Lib.hid (fun V => split_yes o n k t2' o32 p1 p2 p3 p4 hts V)
  have HCH2 : Hid (∀ V A c, Sl V A (shV (splL (o ++ t2') n k)) → Sl V B (boolV m) → Calls Try.prog 21 #[.slice A n c, .slice B m.length d] V fun e w' => (∃ C cc, e = .returned (.slice C (chL (splL (s ++ t) n k) m).length cc) ∧ Sl w' C (shV (chL (splL (s ++ t) n k) m))) ∧ Below V.heap.size V w') := Lib.hid (fun V A c hV hV2 => by
    have := chosen_any (splL (o ++ t2') n k) m A B c d (by rw [splL_length]; omega) (by omega) V hV hV2
    rwa [splL_length, e2] at this)
  have HSM := Lib.hid (fun V A c B d h1 h2 => same_yes (chL (splL (s ++ t) n k) m) A B c d (by omega) V h1 h2)
  have HT1' : Hid (∀ V A c, Sl V A (shV (chL (splL (s ++ t) n k) m)) → Calls Try.prog 19 #[.string o, .slice A (chL (splL (s ++ t) n k) m).length c] V fun e w' => e = strE (t2', 0) ∧ Below V.heap.size V w') := Lib.hid (fun V A c h => by
    have := HT1.out V A c h
    rwa [ht2] at this)
  clear HT1 HSUB h p6 hk h1 hr hzb hQ e2 hts ht2 ho hlen hz o32
  generalize splL (o ++ t2') n k = L2 at *
  generalize chL (splL (s ++ t) n k) m = cl at *
  generalize splL (s ++ t) n k = L at *
  go_enter Try.func6, Try.ntmps6
  go_wp2_with fail
  refine (HS1.out _).mono ?_
  rintro e w1 ⟨⟨A1, cA1, rfl, hs1⟩, hb⟩
  unfold shEnd
  go_wp2_with fail
  refine (HCH.out _ _ _ hs1 (hsm.keep hb)).mono ?_
  rintro e w2 ⟨⟨C, cc, rfl, hsc⟩, hb2⟩
  replace hb := hb.next' hb2
  clear hb2
  replace hsm := hsm.keep hb
  clear hs1
  go_wp2_with fail
  refine (HT1'.out _ _ _ hsc).mono ?_
  rintro e w3 ⟨rfl, hb3⟩
  unfold strE
  replace hsc := hsc.keep hb3
  replace hsm := hsm.keep hb3
  replace hb := hb.next' hb3
  clear hb3
  go_wp2_with fail
  refine (HS2.out _).mono ?_
  rintro e w4 ⟨⟨A2, cA2, rfl, hs2⟩, hb4⟩
  unfold shEnd
  replace hsc := hsc.keep hb4
  replace hsm := hsm.keep hb4
  replace hb := hb.next' hb4
  clear hb4
  go_wp2_with fail
  refine (HT2.out _ _ _ hsc).mono ?_
  rintro e w5 ⟨rfl, hb5⟩
  unfold strE
  replace hsc := hsc.keep hb5
  replace hsm := hsm.keep hb5
  replace hs2 := hs2.keep hb5
  replace hb := hb.next' hb5
  clear hb5
  go_wp2_with fail
  refine (shares_any _).mono ?_
  rintro e w6 ⟨rfl, hb6⟩
  replace hsc := hsc.keep hb6
  replace hsm := hsm.keep hb6
  replace hs2 := hs2.keep hb6
  replace hb := hb.next' hb6
  clear hb6
  go_wp2_with fail
  refine (HCH2.out _ _ _ hs2 hsm).mono ?_
  rintro e w7 ⟨⟨C2, cc2, rfl, hsc2⟩, hb7⟩
  replace hsc := hsc.keep hb7
  replace hb := hb.next' hb7
  clear hb7
  go_wp2_with fail
  refine (HSM.out _ _ _ _ _ hsc2 hsc).mono ?_
  rintro e w8 ⟨rfl, hb8⟩
  go_wp2
  go_ret
  exact ⟨rfl, hb.next' hb8⟩
end Go.Proofs.Ytljckcegcfidoaa
