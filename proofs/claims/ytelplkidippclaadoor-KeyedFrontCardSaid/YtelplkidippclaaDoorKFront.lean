/-
  KeyedFront, for every input: of two numbers the lesser one's Expand is the beginning of the other one's; Derive is Expand of Extract.
-/
import Derived.Test.YtelplkidippclaaDoorLarge
import Derived.Test.YtelplkidippclaaDoorReach
import Derived.Test.YtelplkidippclaaDoorLaid
namespace Go.Proofs.YtelplkidippclaaDoor
open Go.RowKit Go.Kx
set_option maxRecDepth 20000

set_option maxHeartbeats 1000000 in
theorem front_yes (key salt info : ByteArray) (n m : Nat) (h : key.size + salt.size + info.size ≤ 400) (hn : 1 ≤ n) (hm : n ≤ m) (hm2 : m ≤ 1000) (w : World) (hK : Consts w) :
    Calls Tryd.prog 5 #[.string key, .string salt, .string info, .int .i64 n, .int .i64 m] w fun e w' => e = .returned (.bool true) ∧ Below w.heap.size w w' := by
  obtain ⟨a, ha⟩ : ∃ a : ByteArray, (⟨(expL key.data.toList info.data.toList n).toArray⟩ : ByteArray) = a := ⟨_, rfl⟩
  obtain ⟨b, hb⟩ : ∃ b : ByteArray, (⟨(expL key.data.toList info.data.toList m).toArray⟩ : ByteArray) = b := ⟨_, rfl⟩
  obtain ⟨x, hx⟩ : ∃ x : ByteArray, (⟨(macL salt.data.toList key.data.toList).toArray⟩ : ByteArray) = x := ⟨_, rfl⟩
  obtain ⟨c, hc⟩ : ∃ c : ByteArray, (⟨(expL x.data.toList info.data.toList n).toArray⟩ : ByteArray) = c := ⟨_, rfl⟩
  have xsz : x.size = 32 := by rw [← hx, size_mk, macL_length]
  have asz : a.size = n := by rw [← ha]; exact (size_mk _).trans (expL_length _ _ _ (by omega))
  have bsz : b.size = m := by rw [← hb]; exact (size_mk _).trans (expL_length _ _ _ (by omega))
  have bl : b.data.toList = expL key.data.toList info.data.toList m := by rw [← hb]
  have hba : b.extract 0 n = a := by
    apply ByteArray.ext
    apply Array.toList_inj.1
    rw [Lib.extract_data, bl, List.drop_zero, Nat.sub_zero, expL_front _ _ _ _ hm, ← ha]
  have s1 : ∀ V : World, (Instr.slice 9 (.string b) none (some (.int .i64 (n : Int))) none).run Tryd.prog V = .ok (.string a) V := fun V => by
    rw [run_slice_to Tryd.underlying9 b n (by omega) (by omega), Int.toNat_natCast, hba]
  have HA : Hid (∀ V : World, Consts V → Calls Tryd.prog 14 #[.string key, .string info, .int .i64 n] V fun e w' => e = .returned (.tuple #[.string a, .int .i64 0]) ∧ Below V.heap.size V w') := Lib.hid (fun V hV => expand_yes key info n hn (by omega) (by omega) (by omega) a ha V hV)
  have HB : Hid (∀ V : World, Consts V → Calls Tryd.prog 14 #[.string key, .string info, .int .i64 m] V fun e w' => e = .returned (.tuple #[.string b, .int .i64 0]) ∧ Below V.heap.size V w') := Lib.hid (fun V hV => expand_yes key info m (by omega) (by omega) (by omega) (by omega) b hb V hV)
  have HC : Hid (∀ V : World, Consts V → Calls Tryd.prog 16 #[.string key, .string salt, .string info, .int .i64 n] V fun e w' => e = .returned (.tuple #[.string c, .int .i64 0]) ∧ Below V.heap.size V w') := Lib.hid (fun V hV => derive_yes key salt info n hn (by omega) (by omega) (by omega) (by omega) x hx c hc V hV)
  have HX : Hid (∀ V : World, Consts V → Calls Tryd.prog 13 #[.string salt, .string key] V fun e w' => e = .returned (.string x) ∧ Below V.heap.size V w') := Lib.hid (fun V hV => Extract_any salt key (by omega) (by omega) x hx V hV)
  have HD : Hid (∀ V : World, Consts V → Calls Tryd.prog 14 #[.string x, .string info, .int .i64 n] V fun e w' => e = .returned (.tuple #[.string c, .int .i64 0]) ∧ Below V.heap.size V w') := Lib.hid (fun V hV => expand_yes x info n hn (by omega) (by omega) (by omega) c hc V hV)
  have HLG : Hid (decide (400 < total [key, salt, info]) = false) := Lib.hid (by simp [total]; omega)
  have HLS : Hid (∀ z ∈ [key, salt, info], z.size ≤ 140737488351232) := Lib.hid (by simp; omega)
  have HAS := Lib.hid asz
  have HBS := Lib.hid bsz
  have t1 : ¬ (n : Int) < 1 := by omega
  have t2 : ¬ (m : Int) < (n : Int) := by omega
  have t3 : ¬ (1000 : Int) < (m : Int) := by omega
  clear h ha hb hx hc xsz asz bsz bl hba hn hm hm2
  go_enter Tryd.func5, Tryd.ntmps5
  go_wp2_with fail
  refine (large_v _ _ _ [key, salt, info] rfl HLS.out (by simp) false HLG.out _ (Sl.new' rfl)).mono ?_
  rintro e w1 ⟨rfl, rfl⟩
  have hbw : Below w.heap.size w _ := Below.alloc0 w (.cells #[.string key, .string salt, .string info] 9)
  go_wp2_with fail
  refine (HA.out _ (hK.keep hbw)).mono ?_
  rintro e w2 ⟨rfl, hb2⟩
  have hbw := hbw.next hb2
  clear hb2
  go_wp2_with fail
  refine (HB.out _ (hK.keep hbw)).mono ?_
  rintro e w3 ⟨rfl, hb3⟩
  have hbw := hbw.next hb3
  clear hb3
  go_wp2_with fail
  refine (HC.out _ (hK.keep hbw)).mono ?_
  rintro e w4 ⟨rfl, hb4⟩
  have hbw := hbw.next hb4
  clear hb4
  go_wp2_with fail
  refine (HX.out _ (hK.keep hbw)).mono ?_
  rintro e w5 ⟨rfl, hb5⟩
  have hbw := hbw.next hb5
  clear hb5
  go_wp2_with fail
  refine (HD.out _ (hK.keep hbw)).mono ?_
  rintro e w6 ⟨rfl, hb6⟩
  have hbw := hbw.next hb6
  clear hb6
  go_wp2_with fail
  refine (macs_any _ (hK.keep hbw)).mono ?_
  rintro e w7 ⟨rfl, hb7⟩
  have hbw := hbw.next hb7
  clear hb7
  have asz := HAS.out
  have bsz := HBS.out
  go_wp2
  go_ret
  exact ⟨ret_bool (by first | rfl | simp), hbw⟩
theorem front_no (key salt info : ByteArray) (h1 : key.size ≤ 140737488351232) (h2 : salt.size ≤ 140737488351232) (h3 : info.size ≤ 140737488351232) (n m : Int) (b : Bool) (hb : decide (400 < total [key, salt, info]) = b) (h : b = true ∨ n < 1 ∨ m < n ∨ 1000 < m) (w : World) (hK : Consts w) :
    Calls Tryd.prog 5 #[.string key, .string salt, .string info, .int .i64 n, .int .i64 m] w fun e w' => e = .returned (.bool true) ∧ Below w.heap.size w w' := by
  have HLG := Lib.hid hb
  have HLS : Hid (∀ z ∈ [key, salt, info], z.size ≤ 140737488351232) := Lib.hid (by simp; omega)
  clear hb h1 h2 h3
  go_enter Tryd.func5, Tryd.ntmps5
  go_wp2_with fail
  refine (large_v _ _ _ [key, salt, info] rfl HLS.out (by simp) b HLG.out _ (Sl.new' rfl)).mono ?_
  rintro e w1 ⟨rfl, rfl⟩
  have hbw : Below w.heap.size w _ := Below.alloc0 w (.cells #[.string key, .string salt, .string info] 9)
  clear HLG HLS
  cases b with
  | true =>
    clear h
    go_wp2_with fail
    refine (macs_any _ (hK.keep hbw)).mono ?_
    rintro e w2 ⟨rfl, hb2⟩
    go_wp2
    go_ret
    exact ⟨rfl, hbw.next hb2⟩
  | false =>
    by_cases h4 : n < 1
    · clear h
      go_wp2_with fail
      refine (macs_any _ (hK.keep hbw)).mono ?_
      rintro e w2 ⟨rfl, hb2⟩
      go_wp2
      go_ret
      exact ⟨rfl, hbw.next hb2⟩
    · by_cases h5 : m < n
      · clear h
        go_wp2_with fail
        refine (macs_any _ (hK.keep hbw)).mono ?_
        rintro e w2 ⟨rfl, hb2⟩
        go_wp2
        go_ret
        exact ⟨rfl, hbw.next hb2⟩
      · have h6 : 1000 < m := by rcases h with h | h | h | h <;> first | omega | cases h
        clear h
        go_wp2_with fail
        refine (macs_any _ (hK.keep hbw)).mono ?_
        rintro e w2 ⟨rfl, hb2⟩
        go_wp2
        go_ret
        exact ⟨rfl, hbw.next hb2⟩
theorem walkKeyedFront (key : ByteArray) (h1 : key.size ≤ 140737488351232) (salt : ByteArray) (h2 : salt.size ≤ 140737488351232) (info : ByteArray) (h3 : info.size ≤ 140737488351232) (n m : Int) (w : World) (hK : Consts w) :
    Calls Tryd.prog 5 #[.string key, .string salt, .string info, .int .i64 n, .int .i64 m] w fun e w' => e = .returned (.bool true) ∧ Below w.heap.size w w' := by
  by_cases h : key.size + salt.size + info.size ≤ 400 ∧ 1 ≤ n ∧ n ≤ m ∧ m ≤ 1000
  · obtain ⟨h4, h5, h6, h7⟩ := h
    obtain ⟨a, rfl⟩ := Int.eq_ofNat_of_zero_le (a := n) (by omega)
    obtain ⟨b, rfl⟩ := Int.eq_ofNat_of_zero_le (a := m) (by omega)
    exact front_yes key salt info a b h4 (by omega) (by omega) (by omega) w hK
  · refine front_no key salt info h1 h2 h3 n m _ rfl ?_ w hK
    by_cases h4 : 400 < total [key, salt, info]
    · exact .inl (decide_eq_true h4)
    · right
      have h5 : key.size + salt.size + info.size ≤ 400 := by simp [total] at h4; omega
      omega
end Go.Proofs.YtelplkidippclaaDoor
