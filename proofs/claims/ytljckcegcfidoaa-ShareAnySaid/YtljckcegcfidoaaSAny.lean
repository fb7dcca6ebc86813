/-
  keyholelaw09.ShareAny: the walk.
-/
import Derived.Test.YtljckcegcfidoaaShw
import Derived.Test.YtljckcegcfidoaaShc
namespace Go.Proofs.Ytljckcegcfidoaa
open Go.RowKit Go.Kx
set_option maxRecDepth 20000

set_option maxHeartbeats 4000000 in
theorem any_yes (s : ByteArray) (n k : Int) (t : ByteArray) (m : List Bool) (B : Option Addr) (d : Nat) (hm0 : m.length ≤ 9223372036854775807) (w : World) (hsm : Sl w B (boolV m)) :
    Calls Try.prog 5 #[.string s, .int .i64 n, .int .i64 k, .string t, .slice B m.length d] w fun e w' => e = .returned (.bool true) ∧ Below w.heap.size w w' := by
  by_cases c0 : (100 : Int) < (s.size : Int)
  · go_enter Try.func5, Try.ntmps5
    go_wp2
    go_ret
    exact ⟨rfl, Below.refl _ _⟩
  by_cases c1 : (1000 : Int) < (t.size : Int)
  · go_enter Try.func5, Try.ntmps5
    go_wp2
    go_ret
    exact ⟨rfl, Below.refl _ _⟩
  by_cases c4 : (40 : Int) < n ∧ n ≤ 255
  · obtain ⟨c5, c6⟩ := c4
    go_enter Try.func5, Try.ntmps5
    go_wp2
    go_ret
    exact ⟨rfl, Below.refl _ _⟩
  have HC4 := Lib.hid c4
  clear c4
  by_cases c7 : (40 : Int) < n
  · have c8 : ¬ n ≤ 255 := fun h => HC4.out ⟨c7, h⟩
    by_cases c9 : (300 : Int) < (m.length : Int)
    · go_enter Try.func5, Try.ntmps5
      go_wp2
      go_ret
      exact ⟨rfl, Below.refl _ _⟩
    have h : ¬ okS s n k t := fun h => c8 h.2.2.1
    have HS1 := Lib.hid (fun V => split_no s n k t h V)
    have HCH : Hid (∀ V, Sl V B (boolV m) → Calls Try.prog 21 #[.slice none 0 0, .slice B m.length d] V fun e w' => (∃ C cc, e = .returned (.slice C 0 cc)) ∧ Below V.heap.size V w') := Lib.hid (fun V hV => by
      refine (chosen_any [] m none B 0 d (by decide) (by omega) V (Sl.nil _ _) hV).mono ?_
      rintro e w' ⟨⟨C, cc, he, _⟩, hb⟩
      rw [chL_nil] at he
      exact ⟨⟨C, cc, he⟩, hb⟩)
    clear h
    go_enter Try.func5, Try.ntmps5
    go_wp2_with fail
    refine (HS1.out _).mono ?_
    rintro e w ⟨rfl, rfl⟩
    unfold shEnd
    go_wp2_with fail
    refine (HCH.out _ hsm).mono ?_
    rintro e w1 ⟨⟨C, cc, rfl⟩, hb⟩
    go_wp2_with fail
    refine (shares_any _).mono ?_
    rintro e w9 ⟨rfl, hb9⟩
    go_wp2
    go_ret
    exact ⟨rfl, hb.next' hb9⟩
  by_cases c9 : (300 : Int) < (m.length : Int)
  · go_enter Try.func5, Try.ntmps5
    go_wp2
    go_ret
    exact ⟨rfl, Below.refl _ _⟩
  by_cases h : okS s n k t
  rotate_left
  · have HS1 := Lib.hid (fun V => split_no s n k t h V)
    have HCH : Hid (∀ V, Sl V B (boolV m) → Calls Try.prog 21 #[.slice none 0 0, .slice B m.length d] V fun e w' => (∃ C cc, e = .returned (.slice C 0 cc)) ∧ Below V.heap.size V w') := Lib.hid (fun V hV => by
      refine (chosen_any [] m none B 0 d (by decide) (by omega) V (Sl.nil _ _) hV).mono ?_
      rintro e w' ⟨⟨C, cc, he, _⟩, hb⟩
      rw [chL_nil] at he
      exact ⟨⟨C, cc, he⟩, hb⟩)
    clear h
    go_enter Try.func5, Try.ntmps5
    go_wp2_with fail
    refine (HS1.out _).mono ?_
    rintro e w ⟨rfl, rfl⟩
    unfold shEnd
    go_wp2_with fail
    refine (HCH.out _ hsm).mono ?_
    rintro e w1 ⟨⟨C, cc, rfl⟩, hb⟩
    go_wp2_with fail
    refine (shares_any _).mono ?_
    rintro e w9 ⟨rfl, hb9⟩
    go_wp2
    go_ret
    exact ⟨rfl, hb.next' hb9⟩
  obtain ⟨n, k, rfl, rfl, p1, p2, p3, p4, p5, p6⟩ := okS_nat h
  have HS1 := Lib.hid (fun V => split_yes s n k t p5 p1 p2 p3 p4 p6 V)
  have HSUB := Lib.hid (chL_sub (splL (s ++ t) n k) m)
  have HLN := Lib.hid (splL_length (s ++ t) n k)
  have HCH : Hid (∀ V A c, Sl V A (shV (splL (s ++ t) n k)) → Sl V B (boolV m) → Calls Try.prog 21 #[.slice A n c, .slice B m.length d] V fun e w' => (∃ C cc, e = .returned (.slice C (chL (splL (s ++ t) n k) m).length cc) ∧ Sl w' C (shV (chL (splL (s ++ t) n k) m))) ∧ Below V.heap.size V w') := Lib.hid (fun V A c hV hV2 => by
    have := chosen_any (splL (s ++ t) n k) m A B c d (by rw [splL_length]; omega) (by omega) V hV hV2
    rwa [splL_length] at this)
  have HLE : (chL (splL (s ++ t) n k) m).length ≤ n := by
    have := HSUB.out.length_le
    rwa [HLN.out] at this
  by_cases hlen : ((chL (splL (s ++ t) n k) m).length : Int) < (k : Int)
  · generalize chL (splL (s ++ t) n k) m = cl at *
    generalize splL (s ++ t) n k = L at *
    clear h p6
    go_enter Try.func5, Try.ntmps5
    go_wp2_with fail
    refine (HS1.out _).mono ?_
    rintro e w1 ⟨⟨A1, cA1, rfl, hs1⟩, hb⟩
    unfold shEnd
    go_wp2_with fail
    refine (HCH.out _ _ _ hs1 (hsm.keep hb)).mono ?_
    rintro e w2 ⟨⟨C, cc, rfl, hsc⟩, hb2⟩
    replace hb := hb.next' hb2
    go_wp2_with fail
    refine (shares_any _).mono ?_
    rintro e w9 ⟨rfl, hb9⟩
    go_wp2
    go_ret
    exact ⟨rfl, hb.next' hb9⟩
  have HCB : Hid (combA (chL (splL (s ++ t) n k) m) = (s, 0)) := Lib.hid (sub_comb p5 p3 p2 HSUB.out (by omega))
  have HAT : Hid (∀ i, i < n → ∃ x, (splL (s ++ t) n k).getD i sh0 = ((i : Int) + 1, x) ∧ atA (chL (splL (s ++ t) n k) m) ((i : Int) + 1) = (x, 0)) := Lib.hid (fun i hi => ⟨_, splL_at _ _ _ _ hi, sub_at p2 HSUB.out (by omega) (by omega) _ (by simp [dig]; omega)⟩)
  clear HSUB h p6
  generalize chL (splL (s ++ t) n k) m = cl at *
  generalize splL (s ++ t) n k = L at *
  go_enter Try.func5, Try.ntmps5
  go_wp2_with fail
  refine (HS1.out _).mono ?_
  rintro e w1 ⟨⟨A1, cA1, rfl, hs1⟩, hb⟩
  unfold shEnd
  go_wp2_with fail
  refine (HCH.out _ _ _ hs1 (hsm.keep hb)).mono ?_
  rintro e w2 ⟨⟨C, cc, rfl, hsc⟩, hb2⟩
  replace hb := hb.next' hb2
  replace hs1 := hs1.keep hb2
  clear hb2 hsm
  go_wp2_with fail
  refine (combine_any cl C cc (by omega) _ hsc).mono ?_
  rw [HCB.out]
  rintro e w3 ⟨rfl, hb3⟩
  unfold strE
  replace hb := hb.next' hb3
  replace hs1 := hs1.keep hb3
  replace hsc := hsc.keep hb3
  clear hb3
  go_wp2
  go_loopw [16] (fun i wr => ∃ k : Nat, k ≤ n ∧ i = .int .i64 (k : Int) ∧ Sl wr A1 (shV L) ∧ Sl wr C (shV cl) ∧ Below w.heap.size w wr) (fun i _ => n - (intOf i).toNat)
  case atStart => exact ⟨0, by omega, rfl, hs1, hsc, hb⟩
  case round =>
    clear hs1 hsc hb
    obtain ⟨i, hi, rfl, hs1, hsc, hb⟩ := hrel
    by_cases hlt : i < n
    · obtain ⟨x, e1, e2⟩ := HAT.out i hlt
      obtain ⟨b1, o1, rfl, hx1, hy1⟩ := sl_sh hs1 (k := i) (by rw [HLN.out]; exact hlt)
      rw [e1] at hx1 hy1
      dsimp only at hx1 hy1
      have HA := Lib.hid (fun V h => at_any cl ((i : Int) + 1) C cc (by omega) V h)
      rw [e2] at HA
      clear e1 e2
      go_wp2_with fail
      refine (HA.out _ hsc).mono ?_
      rintro e w4 ⟨rfl, hb4⟩
      unfold strE
      replace hy1 := (hb4.cell (p := ⟨b1, o1 + i * 2 + 1, none⟩) (block_lt_of_cell hy1)).trans hy1
      replace hs1 := hs1.keep hb4
      replace hsc := hsc.keep hb4
      replace hb := hb.next' hb4
      go_wp2
      go_roundw
      case rel => exact ⟨i + 1, by omega, by go_num, hs1, hsc, hb⟩
      case measure => simp [intOf]; omega
    · obtain rfl : i = n := by omega
      go_wp2_with fail
      refine (shares_any _).mono ?_
      rintro e w9 ⟨rfl, hb9⟩
      go_wp2
      go_ret
      exact ⟨rfl, hb.next' hb9⟩
end Go.Proofs.Ytljckcegcfidoaa
