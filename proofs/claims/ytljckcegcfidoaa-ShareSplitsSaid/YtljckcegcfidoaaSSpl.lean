/-
  keyholelaw09.ShareSplits: the walk.
-/
import Derived.Test.YtljckcegcfidoaaShw
import Derived.Test.YtljckcegcfidoaaSRef2
namespace Go.Proofs.Ytljckcegcfidoaa
open Go.RowKit Go.Kx
set_option maxRecDepth 20000

set_option maxHeartbeats 4000000 in
theorem splits_yes (s : ByteArray) (n k : Int) (t : ByteArray) (w : World) :
    Calls Try.prog 3 #[.string s, .int .i64 n, .int .i64 k, .string t] w fun e w' => e = .returned (.bool true) ∧ Below w.heap.size w w' := by
  by_cases c0 : (100 : Int) < (s.size : Int)
  · go_enter Try.func3, Try.ntmps3
    go_wp2
    go_ret
    exact ⟨rfl, Below.refl _ _⟩
  by_cases c1 : (300 : Int) < (t.size : Int)
  · go_enter Try.func3, Try.ntmps3
    go_wp2
    go_ret
    exact ⟨rfl, Below.refl _ _⟩
  by_cases c4 : (12 : Int) < n ∧ n ≤ 255
  · obtain ⟨c5, c6⟩ := c4
    go_enter Try.func3, Try.ntmps3
    go_wp2
    go_ret
    exact ⟨rfl, Below.refl _ _⟩
  have HC4 := Lib.hid c4
  clear c4
  by_cases c7 : (12 : Int) < n
  · have c8 : ¬ n ≤ 255 := fun h => HC4.out ⟨c7, h⟩
    have h : ¬ okS s n k t := fun h => c8 h.2.2.1
    have HS1 := Lib.hid (fun V => split_no s n k t h V)
    have HS2 := Lib.hid (fun V => rsplit_no s n k t h V)
    have HSM : Hid (∀ V, Calls Try.prog 12 #[.slice none 0 0, .slice none 0 0] V fun e w' => e = .returned (.bool true) ∧ Below V.heap.size V w') := Lib.hid (fun V => same_yes [] none none 0 0 (by decide) V (Sl.nil _ _) (Sl.nil _ _))
    clear h
    go_enter Try.func3, Try.ntmps3
    go_wp2_with fail
    refine (HS1.out _).mono ?_
    rintro e w ⟨rfl, rfl⟩
    unfold shEnd
    go_wp2_with fail
    refine (HS2.out _).mono ?_
    rintro e w ⟨rfl, rfl⟩
    unfold shEnd
    go_wp2_with fail
    refine (shares_any _).mono ?_
    rintro e w9 ⟨rfl, hb9⟩
    go_wp2_with fail
    refine (HSM.out _).mono ?_
    rintro e w8 ⟨rfl, hb8⟩
    go_wp2
    go_ret
    exact ⟨rfl, hb9.next' hb8⟩
  by_cases h : okS s n k t
  rotate_left
  · have HS1 := Lib.hid (fun V => split_no s n k t h V)
    have HS2 := Lib.hid (fun V => rsplit_no s n k t h V)
    have HSM : Hid (∀ V, Calls Try.prog 12 #[.slice none 0 0, .slice none 0 0] V fun e w' => e = .returned (.bool true) ∧ Below V.heap.size V w') := Lib.hid (fun V => same_yes [] none none 0 0 (by decide) V (Sl.nil _ _) (Sl.nil _ _))
    clear h
    go_enter Try.func3, Try.ntmps3
    go_wp2_with fail
    refine (HS1.out _).mono ?_
    rintro e w ⟨rfl, rfl⟩
    unfold shEnd
    go_wp2_with fail
    refine (HS2.out _).mono ?_
    rintro e w ⟨rfl, rfl⟩
    unfold shEnd
    go_wp2_with fail
    refine (shares_any _).mono ?_
    rintro e w9 ⟨rfl, hb9⟩
    go_wp2_with fail
    refine (HSM.out _).mono ?_
    rintro e w8 ⟨rfl, hb8⟩
    go_wp2
    go_ret
    exact ⟨rfl, hb9.next' hb8⟩
  obtain ⟨n, k, rfl, rfl, p1, p2, p3, p4, p5, p6⟩ := okS_nat h
  have HS1 := Lib.hid (fun V => split_yes s n k t p5 p1 p2 p3 p4 p6 V)
  have HS2 := Lib.hid (fun V => rsplit_yes s n k t p5 p1 p2 p3 p4 p6 V)
  have HSM : Hid (∀ V A c B d, Sl V A (shV (splL (s ++ t) n k)) → Sl V B (shV (splL (s ++ t) n k)) → Calls Try.prog 12 #[.slice A n c, .slice B n d] V fun e w' => e = .returned (.bool true) ∧ Below V.heap.size V w') := Lib.hid (fun V A c B d h1 h2 => by
    have := same_yes (splL (s ++ t) n k) A B c d (by rw [splL_length]; omega) V h1 h2
    rwa [splL_length] at this)
  clear h p6
  generalize splL (s ++ t) n k = L at *
  go_enter Try.func3, Try.ntmps3
  go_wp2_with fail
  refine (HS1.out _).mono ?_
  rintro e w1 ⟨⟨A1, cA1, rfl, hs1⟩, hb⟩
  unfold shEnd
  go_wp2_with fail
  refine (HS2.out _).mono ?_
  rintro e w2 ⟨⟨A2, cA2, rfl, hs2⟩, hb2⟩
  unfold shEnd
  replace hs1 := hs1.keep hb2
  replace hb := hb.next' hb2
  clear hb2
  go_wp2_with fail
  refine (shares_any _).mono ?_
  rintro e w3 ⟨rfl, hb3⟩
  replace hs1 := hs1.keep hb3
  replace hs2 := hs2.keep hb3
  replace hb := hb.next' hb3
  clear hb3
  go_wp2_with fail
  refine (HSM.out _ _ _ _ _ hs1 hs2).mono ?_
  rintro e w4 ⟨rfl, hb4⟩
  go_wp2
  go_ret
  exact ⟨rfl, hb.next' hb4⟩
end Go.Proofs.Ytljckcegcfidoaa
