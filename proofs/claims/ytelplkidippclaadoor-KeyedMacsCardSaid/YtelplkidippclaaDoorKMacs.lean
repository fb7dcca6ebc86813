/-
  KeyedMacs, for every input: a text has just this Mac by a key, and no other one is taken for it.
-/
import Derived.Test.YtelplkidippclaaDoorLarge
import Derived.Test.YtelplkidippclaaDoorRefk
import Derived.Test.YtelplkidippclaaDoorReach
import Derived.Test.YtelplkidippclaaDoorLaid
namespace Go.Proofs.YtelplkidippclaaDoor
open Go.RowKit Go.Kx
set_option maxRecDepth 20000

set_option maxHeartbeats 1000000 in
theorem macs_yes (key s c : ByteArray) (h : key.size + s.size + c.size ≤ 400) (w : World) (hK : Consts w) :
    Calls Tryd.prog 3 #[.string key, .string s, .string c] w fun e w' => e = .returned (.bool true) ∧ Below w.heap.size w w' := by
  obtain ⟨m, hm⟩ : ∃ m : ByteArray, (⟨(macL key.data.toList s.data.toList).toArray⟩ : ByteArray) = m := ⟨_, rfl⟩
  obtain ⟨b, hb⟩ : ∃ b : Bool, (c.toList == m.toList) = b := ⟨_, rfl⟩
  have HREF : Hid (∀ V : World, Calls Tryd.prog 9 #[.string key, .string s] V fun e w' => e = .returned (.string m) ∧ Below V.heap.size V w') := Lib.hid (fun V => rmac_gen key s (by omega) (by omega) m hm V)
  have HMAC : Hid (∀ V : World, Consts V → Calls Tryd.prog 11 #[.string key, .string s] V fun e w' => e = .returned (.string m) ∧ Below V.heap.size V w') := Lib.hid (fun V hV => Mac_any key s (by omega) (by omega) m hm V hV)
  have HEXT : Hid (∀ V : World, Consts V → Calls Tryd.prog 13 #[.string key, .string s] V fun e w' => e = .returned (.string m) ∧ Below V.heap.size V w') := Lib.hid (fun V hV => Extract_any key s (by omega) (by omega) m hm V hV)
  have HC1 : Hid (∀ V : World, Consts V → Calls Tryd.prog 12 #[.string key, .string s, .string c] V fun e w' => e = .returned (.bool b) ∧ Below V.heap.size V w') := Lib.hid (fun V hV => Check_any key s c (by omega) (by omega) m hm b hb V hV)
  have HC2 : Hid (∀ V : World, Consts V → Calls Tryd.prog 12 #[.string key, .string s, .string m] V fun e w' => e = .returned (.bool true) ∧ Below V.heap.size V w') := Lib.hid (fun V hV => Check_any key s m (by omega) (by omega) m hm true (by simp) V hV)
  have HLG : Hid (decide (400 < total [key, s, c]) = false) := Lib.hid (by simp [total]; omega)
  have HLS : Hid (∀ z ∈ [key, s, c], z.size ≤ 140737488351232) := Lib.hid (by simp; omega)
  clear hm h
  go_enter Tryd.func3, Tryd.ntmps3
  go_wp2_with fail
  refine (large_v _ _ _ [key, s, c] rfl HLS.out (by simp) false HLG.out _ (Sl.new' rfl)).mono ?_
  rintro e w1 ⟨rfl, rfl⟩
  have hb0 : Below w.heap.size w _ := Below.alloc0 w (.cells #[.string key, .string s, .string c] 9)
  go_wp2_with fail
  refine (HREF.out _).mono ?_
  rintro e w2 ⟨rfl, hb2⟩
  have hbw := hb0.next hb2
  clear hb0 hb2
  go_wp2_with fail
  refine (macs_any _ (hK.keep hbw)).mono ?_
  rintro e w3 ⟨rfl, hb3⟩
  have hbw := hbw.next hb3
  clear hb3
  go_wp2_with fail
  refine (HMAC.out _ (hK.keep hbw)).mono ?_
  rintro e w4 ⟨rfl, hb4⟩
  have hbw := hbw.next hb4
  clear hb4
  go_wp2_with fail
  refine (HC1.out _ (hK.keep hbw)).mono ?_
  rintro e w5 ⟨rfl, hb5⟩
  have hbw := hbw.next hb5
  clear hb5
  go_wp2_with fail
  refine (HC2.out _ (hK.keep hbw)).mono ?_
  rintro e w6 ⟨rfl, hb6⟩
  have hbw := hbw.next hb6
  clear hb6
  go_wp2_with fail
  refine (HEXT.out _ (hK.keep hbw)).mono ?_
  rintro e w7 ⟨rfl, hb7⟩
  have hbw := hbw.next hb7
  clear hb7
  go_wp2
  go_ret
  exact ⟨ret_bool (by first | rfl | simp), hbw⟩
theorem walkKeyedMacs (key : ByteArray) (h1 : key.size ≤ 140737488351232) (s : ByteArray) (h2 : s.size ≤ 140737488351232) (c : ByteArray) (h3 : c.size ≤ 140737488351232) (w : World) (hK : Consts w) :
    Calls Tryd.prog 3 #[.string key, .string s, .string c] w fun e w' => e = .returned (.bool true) ∧ Below w.heap.size w w' := by
  by_cases h : key.size + s.size + c.size ≤ 400
  · exact macs_yes key s c h w hK
  · have HLG : Hid (decide (400 < total [key, s, c]) = true) := Lib.hid (by simp [total]; omega)
    have HLS : Hid (∀ z ∈ [key, s, c], z.size ≤ 140737488351232) := Lib.hid (by simp; omega)
    clear h1 h2 h3 h
    go_enter Tryd.func3, Tryd.ntmps3
    go_wp2_with fail
    refine (large_v _ _ _ [key, s, c] rfl HLS.out (by simp) true HLG.out _ (Sl.new' rfl)).mono ?_
    rintro e w1 ⟨rfl, rfl⟩
    go_wp2
    go_ret
    exact ⟨rfl, Below.alloc0 _ _⟩
end Go.Proofs.YtelplkidippclaaDoor
