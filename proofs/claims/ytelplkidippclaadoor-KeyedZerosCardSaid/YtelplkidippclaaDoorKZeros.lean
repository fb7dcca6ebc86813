/-
  KeyedZeros, for every input: a key, and it with bytes 0 behind, up to 64, are as one; a longer one is as its digest.
-/
import Derived.Test.YtelplkidippclaaDoorMacs
import Derived.Test.YtelplkidippclaaDoorLaid
namespace Go.Proofs.YtelplkidippclaaDoor
open Go.RowKit Go.Kx
set_option maxRecDepth 20000

set_option maxHeartbeats 1000000 in
theorem zeros_long (key s : ByteArray) (h0 : 64 < key.size) (h1 : key.size ≤ 200) (h2 : s.size ≤ 200) (n : Int) (w : World) (hK : Consts w) :
    Calls Tryd.prog 6 #[.string key, .string s, .int .i64 n] w fun e w' => e = .returned (.bool true) ∧ Below w.heap.size w w' := by
  obtain ⟨m, hm⟩ : ∃ m : ByteArray, (⟨(macL key.data.toList s.data.toList).toArray⟩ : ByteArray) = m := ⟨_, rfl⟩
  obtain ⟨d, hd⟩ : ∃ d : ByteArray, (⟨(sumL key.data.toList).toArray⟩ : ByteArray) = d := ⟨_, rfl⟩
  have dsz : d.size = 32 := by rw [← hd, size_mk, sumL_length]
  have hmd : (⟨(macL d.data.toList s.data.toList).toArray⟩ : ByteArray) = m := by
    have e : d.data.toList = sumL key.data.toList := by rw [← hd]
    rw [← hm, e, macL, macL, blkL_long _ (by simp; omega)]
  have HM : Hid (∀ V : World, Consts V → Calls Tryd.prog 11 #[.string key, .string s] V fun e w' => e = .returned (.string m) ∧ Below V.heap.size V w') := Lib.hid (fun V hV => Mac_any key s (by omega) (by omega) m hm V hV)
  have HD : Hid (∀ V : World, Consts V → Calls Tryd.prog 11 #[.string d, .string s] V fun e w' => e = .returned (.string m) ∧ Below V.heap.size V w') := Lib.hid (fun V hV => Mac_any d s (by omega) (by omega) m hmd V hV)
  have HS : Hid (∀ V : World, Consts V → Calls Tryd.prog 18 #[.string key] V fun e w' => e = .returned (.string d) ∧ Below V.heap.size V w') := Lib.hid (fun V hV => sum_v key (by omega) d hd V hV)
  have t1 : ¬ (200 : Int) < (key.size : Int) := by omega
  have t2 : ¬ (200 : Int) < (s.size : Int) := by omega
  have t3 : (64 : Int) < (key.size : Int) := by omega
  clear hm hd dsz hmd h0 h1 h2
  go_enter Tryd.func6, Tryd.ntmps6
  go_wp2_with fail
  refine (macs_any _ hK).mono ?_
  rintro e w1 ⟨rfl, hbw⟩
  go_wp2_with fail
  refine (HM.out _ (hK.keep hbw)).mono ?_
  rintro e w2 ⟨rfl, hb2⟩
  have hbw := hbw.next hb2
  clear hb2
  go_wp2_with fail
  refine (HS.out _ (hK.keep hbw)).mono ?_
  rintro e w3 ⟨rfl, hb3⟩
  have hbw := hbw.next hb3
  clear hb3
  go_wp2_with fail
  refine (HD.out _ (hK.keep hbw)).mono ?_
  rintro e w4 ⟨rfl, hb4⟩
  have hbw := hbw.next hb4
  clear hb4
  go_wp2
  go_ret
  exact ⟨ret_bool (by first | rfl | simp), hbw⟩
set_option maxHeartbeats 1000000 in
theorem zeros_yes (key s : ByteArray) (h2 : s.size ≤ 200) (n : Nat) (hn : key.size + n ≤ 64) (w : World) (hK : Consts w) :
    Calls Tryd.prog 6 #[.string key, .string s, .int .i64 n] w fun e w' => e = .returned (.bool true) ∧ Below w.heap.size w w' := by
  obtain ⟨m, hm⟩ : ∃ m : ByteArray, (⟨(macL key.data.toList s.data.toList).toArray⟩ : ByteArray) = m := ⟨_, rfl⟩
  obtain ⟨z, hz⟩ : ∃ z : ByteArray, (⟨(List.replicate n 0).toArray⟩ : ByteArray) = z := ⟨_, rfl⟩
  obtain ⟨d, hd⟩ : ∃ d : ByteArray, key ++ z = d := ⟨_, rfl⟩
  have zsz : z.size = n := by rw [← hz]; exact (size_mk _).trans List.length_replicate
  have dsz : d.size = key.size + n := by rw [← hd, ByteArray.size_append, zsz]
  have msz : m.size = 32 := by rw [← hm, size_mk, macL_length]
  have hmd : (⟨(macL d.data.toList s.data.toList).toArray⟩ : ByteArray) = m := by
    have e : d.data.toList = key.data.toList ++ List.replicate n 0 := by rw [← hd, ← hz]; simp
    rw [← hm, e, macL, macL, blkL_zeros _ _ (by simp; omega)]
  have HM : Hid (∀ V : World, Consts V → Calls Tryd.prog 11 #[.string key, .string s] V fun e w' => e = .returned (.string m) ∧ Below V.heap.size V w') := Lib.hid (fun V hV => Mac_any key s (by omega) (by omega) m hm V hV)
  have HD : Hid (∀ V : World, Consts V → Calls Tryd.prog 11 #[.string d, .string s] V fun e w' => e = .returned (.string m) ∧ Below V.heap.size V w') := Lib.hid (fun V hV => Mac_any d s (by omega) (by omega) m hmd V hV)
  have g1 : ∀ V : World, (Op.stringOp .add key z).run Tryd.prog V = .ok (.string d) V := fun V => by rw [← hd]; exact run_string_add_sum V key z (by omega)
  have hmk := run_make_row' (P := Tryd.prog) 33 5 (.int .u8 0) 1 Tryd.underlying33 byte_info rfl .i64 .i64 n (by omega) (by omega)
  have hconv : ∀ V : World, (convert 33 9 (.slice (some ⟨V.heap.size, 0, none⟩) n n)).run Tryd.prog (V.alloc (.cells (madeCells #[.int .u8 0] n) 5)) = .ok (.string z) (V.alloc (.cells (madeCells #[.int .u8 0] n) 5)) := fun V => by
    have hrow := World.rowIs_made V (.int .u8 0) n 5
    have hc := run_convert_bytes_back (P := Tryd.prog) (V.alloc (.cells (madeCells #[.int .u8 0] n) 5)) 33 9 5 ⟨V.heap.size, 0, none⟩ n (List.replicate n 0) Tryd.underlying33 Tryd.underlying5 Tryd.underlying9 (fun j hj => by
      have hj' : j < n := by simpa using hj
      have := hrow.cell (i := j) hj'
      rw [show (⟨V.heap.size, 0, none⟩ : Addr).add j = ⟨V.heap.size, j, none⟩ by unfold Addr.add; split <;> simp_all, this]
      simp)
    rw [List.length_replicate, hz] at hc
    exact hc
  have t1 : ¬ (200 : Int) < (key.size : Int) := by omega
  have t2 : ¬ (200 : Int) < (s.size : Int) := by omega
  have t3 : ¬ (64 : Int) < (key.size : Int) := by omega
  have t4 : ¬ (64 : Int) - (key.size : Int) < (n : Int) := by omega
  have hwr : IntKind.i64.wrap (64 - (key.size : Int)) = 64 - (key.size : Int) := IntWalk.i64_in _ (by omega)
  have HMS := Lib.hid msz
  clear hm hz hd zsz dsz msz hmd h2
  go_enter Tryd.func6, Tryd.ntmps6
  go_wp2_with fail
  have hbw : Below w.heap.size w _ := Below.alloc0 w (.cells (madeCells #[.int .u8 0] n) 5)
  clear hmk hconv
  refine (macs_any _ (hK.keep hbw)).mono ?_
  rintro e w1 ⟨rfl, hb1⟩
  have hbw := hbw.next hb1
  clear hb1
  go_wp2_with fail
  refine (HD.out _ (hK.keep hbw)).mono ?_
  rintro e w2 ⟨rfl, hb2⟩
  have hbw := hbw.next hb2
  clear hb2
  go_wp2_with fail
  refine (HM.out _ (hK.keep hbw)).mono ?_
  rintro e w3 ⟨rfl, hb3⟩
  have hbw := hbw.next hb3
  clear hb3
  go_wp2_with fail
  refine (HM.out _ (hK.keep hbw)).mono ?_
  rintro e w4 ⟨rfl, hb4⟩
  have hbw := hbw.next hb4
  clear hb4
  have msz := HMS.out
  go_wp2
  go_ret
  exact ⟨ret_bool (by first | rfl | simp), hbw⟩
theorem zeros_no (key s : ByteArray) (h1 : key.size ≤ 64) (h2 : s.size ≤ 200) (n : Int) (hn : n < 0 ∨ 64 - (key.size : Int) < n) (w : World) (hK : Consts w) :
    Calls Tryd.prog 6 #[.string key, .string s, .int .i64 n] w fun e w' => e = .returned (.bool true) ∧ Below w.heap.size w w' := by
  have t1 : ¬ (200 : Int) < (key.size : Int) := by omega
  have t2 : ¬ (200 : Int) < (s.size : Int) := by omega
  have t3 : ¬ (64 : Int) < (key.size : Int) := by omega
  have hwr : IntKind.i64.wrap (64 - (key.size : Int)) = 64 - (key.size : Int) := IntWalk.i64_in _ (by omega)
  clear h1 h2
  by_cases h0 : n < 0
  · clear hn
    go_enter Tryd.func6, Tryd.ntmps6
    go_wp2_with fail
    refine (macs_any _ hK).mono ?_
    rintro e w1 ⟨rfl, hbw⟩
    go_wp2
    go_ret
    exact ⟨rfl, hbw⟩
  · have t4 : (64 : Int) - (key.size : Int) < n := by omega
    clear hn
    go_enter Tryd.func6, Tryd.ntmps6
    go_wp2_with fail
    refine (macs_any _ hK).mono ?_
    rintro e w1 ⟨rfl, hbw⟩
    go_wp2
    go_ret
    exact ⟨rfl, hbw⟩
theorem walkKeyedZeros (key s : ByteArray) (n : Int) (w : World) (hK : Consts w) :
    Calls Tryd.prog 6 #[.string key, .string s, .int .i64 n] w fun e w' => e = .returned (.bool true) ∧ Below w.heap.size w w' := by
  by_cases h1 : 200 < key.size
  · have t1 : (200 : Int) < (key.size : Int) := by omega
    clear h1
    go_enter Tryd.func6, Tryd.ntmps6
    go_wp2
    go_ret
    exact ⟨rfl, Below.refl _ _⟩
  · by_cases h2 : 200 < s.size
    · have t1 : ¬ (200 : Int) < (key.size : Int) := by omega
      have t2 : (200 : Int) < (s.size : Int) := by omega
      clear h1 h2
      go_enter Tryd.func6, Tryd.ntmps6
      go_wp2
      go_ret
      exact ⟨rfl, Below.refl _ _⟩
    · by_cases h3 : 64 < key.size
      · exact zeros_long key s h3 (by omega) (by omega) n w hK
      · by_cases h4 : n < 0 ∨ 64 - (key.size : Int) < n
        · exact zeros_no key s (by omega) (by omega) n h4 w hK
        · obtain ⟨m, rfl⟩ := Int.eq_ofNat_of_zero_le (a := n) (by omega)
          exact zeros_yes key s (by omega) m (by omega) w hK
end Go.Proofs.YtelplkidippclaaDoor
