/-
  KeyedExpands, for every input: of a key just these bytes are expanded, or derived, or none.
-/
import Derived.Test.YtelplkidippclaaDoorLarge
import Derived.Test.YtelplkidippclaaDoorRefx
import Derived.Test.YtelplkidippclaaDoorReach
import Derived.Test.YtelplkidippclaaDoorLaid
namespace Go.Proofs.YtelplkidippclaaDoor
open Go.RowKit Go.Kx
set_option maxRecDepth 20000

set_option maxHeartbeats 1000000 in
theorem exp_of (key salt info : ByteArray) (n : Int) (h : key.size + salt.size + info.size ≤ 400) (hn : n ≤ 200 ∨ 8160 < n) (r1 r2 : ByteArray) (z : Int)
    (H1 : ∀ V : World, Consts V → Calls Tryd.prog 14 #[.string key, .string info, .int .i64 n] V fun e w' => e = .returned (.tuple #[.string r1, .int .i64 z]) ∧ Below V.heap.size V w')
    (H2 : ∀ V : World, Calls Tryd.prog 15 #[.string key, .string info, .int .i64 n] V fun e w' => e = .returned (.tuple #[.string r1, .int .i64 z]) ∧ Below V.heap.size V w')
    (H3 : ∀ V : World, Consts V → Calls Tryd.prog 16 #[.string key, .string salt, .string info, .int .i64 n] V fun e w' => e = .returned (.tuple #[.string r2, .int .i64 z]) ∧ Below V.heap.size V w')
    (H4 : ∀ V : World, Calls Tryd.prog 17 #[.string key, .string salt, .string info, .int .i64 n] V fun e w' => e = .returned (.tuple #[.string r2, .int .i64 z]) ∧ Below V.heap.size V w')
    (w : World) (hK : Consts w) :
    Calls Tryd.prog 4 #[.string key, .string salt, .string info, .int .i64 n] w fun e w' => e = .returned (.bool true) ∧ Below w.heap.size w w' := by
  have H1 := Lib.hid H1
  have H2 := Lib.hid H2
  have H3 := Lib.hid H3
  have H4 := Lib.hid H4
  have HLG : Hid (decide (400 < total [key, salt, info]) = false) := Lib.hid (by simp [total]; omega)
  have HLS : Hid (∀ z ∈ [key, salt, info], z.size ≤ 140737488351232) := Lib.hid (by simp; omega)
  clear h
  go_enter Tryd.func4, Tryd.ntmps4
  go_wp2_with fail
  refine (large_v _ _ _ [key, salt, info] rfl HLS.out (by simp) false HLG.out _ (Sl.new' rfl)).mono ?_
  rintro e w1 ⟨rfl, rfl⟩
  have hbw : Below w.heap.size w _ := Below.alloc0 w (.cells #[.string key, .string salt, .string info] 9)
  rcases hn with hn | hn
  · go_wp2_with fail
    refine (H1.out _ (hK.keep hbw)).mono ?_
    rintro e w2 ⟨rfl, hb2⟩
    have hbw := hbw.next hb2
    clear hb2
    go_wp2_with fail
    refine (H2.out _).mono ?_
    rintro e w3 ⟨rfl, hb3⟩
    have hbw := hbw.next hb3
    clear hb3
    go_wp2_with fail
    refine (H3.out _ (hK.keep hbw)).mono ?_
    rintro e w4 ⟨rfl, hb4⟩
    have hbw := hbw.next hb4
    clear hb4
    go_wp2_with fail
    refine (H4.out _).mono ?_
    rintro e w5 ⟨rfl, hb5⟩
    have hbw := hbw.next hb5
    clear hb5
    go_wp2_with fail
    refine (macs_any _ (hK.keep hbw)).mono ?_
    rintro e w6 ⟨rfl, hb6⟩
    have hbw := hbw.next hb6
    clear hb6
    go_wp2
    go_ret
    exact ⟨ret_bool (by first | rfl | simp), hbw⟩
  · go_wp2_with fail
    refine (H1.out _ (hK.keep hbw)).mono ?_
    rintro e w2 ⟨rfl, hb2⟩
    have hbw := hbw.next hb2
    clear hb2
    go_wp2_with fail
    refine (H2.out _).mono ?_
    rintro e w3 ⟨rfl, hb3⟩
    have hbw := hbw.next hb3
    clear hb3
    go_wp2_with fail
    refine (H3.out _ (hK.keep hbw)).mono ?_
    rintro e w4 ⟨rfl, hb4⟩
    have hbw := hbw.next hb4
    clear hb4
    go_wp2_with fail
    refine (H4.out _).mono ?_
    rintro e w5 ⟨rfl, hb5⟩
    have hbw := hbw.next hb5
    clear hb5
    go_wp2_with fail
    refine (macs_any _ (hK.keep hbw)).mono ?_
    rintro e w6 ⟨rfl, hb6⟩
    have hbw := hbw.next hb6
    clear hb6
    go_wp2
    go_ret
    exact ⟨ret_bool (by first | rfl | simp), hbw⟩
theorem walkKeyedExpands (key : ByteArray) (h1 : key.size ≤ 140737488351232) (salt : ByteArray) (h2 : salt.size ≤ 140737488351232) (info : ByteArray) (h3 : info.size ≤ 140737488351232) (n : Int) (w : World) (hK : Consts w) :
    Calls Tryd.prog 4 #[.string key, .string salt, .string info, .int .i64 n] w fun e w' => e = .returned (.bool true) ∧ Below w.heap.size w w' := by
  by_cases h : key.size + salt.size + info.size ≤ 400
  · by_cases hn : n < 1 ∨ 8160 < n
    · exact exp_of key salt info n h (by omega) ⟨#[]⟩ ⟨#[]⟩ 1 (fun V _ => expand_no key info n hn V) (fun V => (rexpand_no key info n hn V).mono fun e w' ⟨he, hw⟩ => ⟨he, hw ▸ Below.refl _ _⟩)
        (fun V hV => derive_no key salt info n hn (by omega) (by omega) V hV) (fun V => rderive_no key salt info n hn (by omega) (by omega) V) w hK
    · by_cases hm : n ≤ 200
      · obtain ⟨m, rfl⟩ := Int.eq_ofNat_of_zero_le (a := n) (by omega)
        exact exp_of key salt info m h (by omega) _ _ 0 (fun V hV => expand_yes key info m (by omega) (by omega) (by omega) (by omega) _ rfl V hV) (fun V => rexpand_yes key info m (by omega) (by omega) (by omega) (by omega) _ rfl V)
          (fun V hV => derive_yes key salt info m (by omega) (by omega) (by omega) (by omega) (by omega) _ rfl _ rfl V hV) (fun V => rderive_yes key salt info m (by omega) (by omega) (by omega) (by omega) (by omega) _ rfl _ rfl V) w hK
      · have hn1 : (200 : Int) < n := by omega
        have hn2 : n ≤ 8160 := by omega
        have HLG : Hid (decide (400 < total [key, salt, info]) = false) := Lib.hid (by simp [total]; omega)
        have HLS : Hid (∀ z ∈ [key, salt, info], z.size ≤ 140737488351232) := Lib.hid (by simp; omega)
        clear h1 h2 h3 h hn hm
        go_enter Tryd.func4, Tryd.ntmps4
        go_wp2_with fail
        refine (large_v _ _ _ [key, salt, info] rfl HLS.out (by simp) false HLG.out _ (Sl.new' rfl)).mono ?_
        rintro e w1 ⟨rfl, rfl⟩
        go_wp2
        go_ret
        exact ⟨rfl, Below.alloc0 _ _⟩
  · have HLG : Hid (decide (400 < total [key, salt, info]) = true) := Lib.hid (by simp [total]; omega)
    have HLS : Hid (∀ z ∈ [key, salt, info], z.size ≤ 140737488351232) := Lib.hid (by simp; omega)
    clear h1 h2 h3 h
    go_enter Tryd.func4, Tryd.ntmps4
    go_wp2_with fail
    refine (large_v _ _ _ [key, salt, info] rfl HLS.out (by simp) true HLG.out _ (Sl.new' rfl)).mono ?_
    rintro e w1 ⟨rfl, rfl⟩
    go_wp2
    go_ret
    exact ⟨rfl, Below.alloc0 _ _⟩
end Go.Proofs.YtelplkidippclaaDoor
