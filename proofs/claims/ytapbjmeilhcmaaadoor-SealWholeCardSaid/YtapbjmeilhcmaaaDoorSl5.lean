/-
  seal: the contracts of Seal and Open.
-/
import Derived.Test.YtapbjmeilhcmaaaDoorSl4
import Derived.Test.YtapbjmeilhcmaaaDoorStrc
import Derived.Test.YtapbjmeilhcmaaaDoorSame
import Derived.Lib.QuietBelow
namespace Go.Proofs.YtapbjmeilhcmaaaDoor
open Go.RowKit Go.Kx Go.Sort
set_option maxRecDepth 20000

theorem counted_one (z : Nat) : countedB 1 z = true ∨ 4000 < z := by
  by_cases h : z ≤ 4000
  · left
    simp only [countedB, Bool.or_eq_true, decide_eq_true_eq]
    omega
  · omega
theorem counted_small (z : Nat) (h : z ≤ 4000) : countedB 1 z = true := by
  rcases counted_one z with h2 | h2
  · exact h2
  · omega
theorem list_str (l : List UInt8) : (⟨l.toArray⟩ : ByteArray).data.toList = l := rfl
theorem str_add2 {P : Program} (x y : ByteArray) (h : x.size + y.size ≤ 9223372036854775807) (W : World) : (Op.stringOp .add x y).run P W = .ok (.string ⟨(x.data.toList ++ y.data.toList).toArray⟩) W :=
  str_add (P := P) x.data.toList y.data.toList (by rw [list_size, list_size]; exact h) W
theorem crypt_one (key nonce s : ByteArray) (hk : key.size = 32) (hn : nonce.size = 12) (hz : s.size ≤ 4000) (r : ByteArray) (hr : ⟨(hiddenL key nonce s.data.toList).toArray⟩ = r) (w : World) (hK : Places w) :
    Calls Tryd.prog 9 #[.string key, .string nonce, .int .i64 1, .string s] w fun e w' => e = .returned (.tuple #[.string r, .int .i64 0]) ∧ Below w.heap.size w w' :=
  crypt_yes key nonce 1 s hk hn (by omega) hz (counted_small _ hz) r hr w hK

/-! ### Seal -/
set_option maxHeartbeats 1000000 in
theorem seal_arg (key nonce beside s : ByteArray) (h : ¬ (key.size = 32 ∧ nonce.size = 12)) (w : World) :
    Calls Tryd.prog 6 #[.string key, .string nonce, .string beside, .string s] w fun e w' => e = .returned (.tuple #[.string ⟨#[]⟩, .int .i64 1]) ∧ Below w.heap.size w w' := by
  have HO := Lib.hid (once_no key nonce h)
  clear h
  go_enter Tryd.func6, Tryd.ntmps6
  go_wp2_with fail
  refine (HO.out _).mono ?_
  rintro e w1 ⟨rfl, hb1⟩
  go_wp2
  go_ret2
  exact ⟨rfl, hb1⟩
set_option maxHeartbeats 1000000 in
theorem seal_long (key nonce beside s : ByteArray) (hk : key.size = 32) (hn : nonce.size = 12) (h : 4000 < beside.size ∨ 4000 < s.size) (w : World) (hK : Places w) :
    Calls Tryd.prog 6 #[.string key, .string nonce, .string beside, .string s] w fun e w' => e = .returned (.tuple #[.string ⟨#[]⟩, .int .i64 2]) ∧ Below w.heap.size w w' := by
  obtain ⟨o, ho⟩ : ∃ o : ByteArray, ⟨(onceL key nonce).toArray⟩ = o := ⟨_, rfl⟩
  have HO := Lib.hid (once_yes key nonce hk hn o ho)
  clear ho hk hn
  by_cases h1 : 4000 < beside.size
  · have t1 : (4000 : Int) < (beside.size : Int) := by omega
    clear h h1
    go_enter Tryd.func6, Tryd.ntmps6
    go_wp2_with fail
    refine (HO.out _ hK).mono ?_
    rintro e w1 ⟨rfl, hb1⟩
    go_wp2
    go_ret2
    exact ⟨rfl, hb1⟩
  · have t1 : ¬ (4000 : Int) < (beside.size : Int) := by omega
    have t2 : (4000 : Int) < (s.size : Int) := by omega
    clear h h1
    go_enter Tryd.func6, Tryd.ntmps6
    go_wp2_with fail
    refine (HO.out _ hK).mono ?_
    rintro e w1 ⟨rfl, hb1⟩
    go_wp2
    go_ret2
    exact ⟨rfl, hb1⟩
set_option maxHeartbeats 1000000 in
theorem seal_yes (key nonce beside s : ByteArray) (hk : key.size = 32) (hn : nonce.size = 12) (hb : beside.size ≤ 4000) (hs : s.size ≤ 4000) (r : ByteArray) (hr : ⟨(sealL key nonce beside.data.toList s.data.toList).toArray⟩ = r) (w : World) (hK : Places w) :
    Calls Tryd.prog 6 #[.string key, .string nonce, .string beside, .string s] w fun e w' => e = .returned (.tuple #[.string r, .int .i64 0]) ∧ Below w.heap.size w w' := by
  obtain ⟨o, ho⟩ : ∃ o : ByteArray, ⟨(onceL key nonce).toArray⟩ = o := ⟨_, rfl⟩
  obtain ⟨x, hx⟩ : ∃ x : ByteArray, ⟨(hiddenL key nonce s.data.toList).toArray⟩ = x := ⟨_, rfl⟩
  have hxl : x.data.toList = hiddenL key nonce s.data.toList := by rw [← hx]
  have hxz : x.size = s.size := by rw [← list_size, hxl, hiddenL_length, list_size]
  obtain ⟨m, hm⟩ : ∃ m : ByteArray, ⟨(markL key nonce beside.data.toList x.data.toList).toArray⟩ = m := ⟨_, rfl⟩
  have hol : o.data.toList = onceL key nonce := by rw [← ho]
  have HO := Lib.hid (once_yes key nonce hk hn o ho)
  have HC := Lib.hid (crypt_one key nonce s hk hn hs x hx)
  have HM := Lib.hid (mark_any key nonce o hol beside x hb (by omega) m hm)
  have hmz : m.size = 16 := by rw [← hm, size_mk, markL_length]
  have hadd : ∀ W : World, (Op.stringOp .add x m).run Tryd.prog W = .ok (.string r) W := fun W => by
    rw [str_add2 x m (by omega) W, ← hr, sealL, ← hm, list_str, hxl]
  have t1 : ¬ (4000 : Int) < (beside.size : Int) := by omega
  have t2 : ¬ (4000 : Int) < (s.size : Int) := by omega
  clear ho hx hxl hxz hm hmz hol hk hn hb hs hr
  go_enter Tryd.func6, Tryd.ntmps6
  go_wp2_with fail
  refine (HO.out _ hK).mono ?_
  rintro e w1 ⟨rfl, hb1⟩
  go_wp2_with fail
  refine (HC.out _ (hK.keep hb1)).mono ?_
  rintro e w2 ⟨rfl, hb2⟩
  go_wp2_with fail
  refine (HM.out _).mono ?_
  rintro e w3 ⟨rfl, hb3⟩
  go_wp2
  go_ret2
  exact ⟨rfl, hb1.next (hb2.next hb3)⟩

/-! ### Open -/
set_option maxHeartbeats 1000000 in
theorem open_arg (key nonce beside x : ByteArray) (h : ¬ (key.size = 32 ∧ nonce.size = 12)) (w : World) :
    Calls Tryd.prog 7 #[.string key, .string nonce, .string beside, .string x] w fun e w' => e = .returned (.tuple #[.string ⟨#[]⟩, .int .i64 1]) ∧ Below w.heap.size w w' := by
  have HO := Lib.hid (once_no key nonce h)
  clear h
  go_enter Tryd.func7, Tryd.ntmps7
  go_wp2_with fail
  refine (HO.out _).mono ?_
  rintro e w1 ⟨rfl, hb1⟩
  go_wp2
  go_ret2
  exact ⟨rfl, hb1⟩
set_option maxHeartbeats 1000000 in
theorem open_long (key nonce beside x : ByteArray) (hk : key.size = 32) (hn : nonce.size = 12) (hz : x.size ≤ 9223372036854775807) (h : 4000 < beside.size ∨ 4016 < x.size) (w : World) (hK : Places w) :
    Calls Tryd.prog 7 #[.string key, .string nonce, .string beside, .string x] w fun e w' => e = .returned (.tuple #[.string ⟨#[]⟩, .int .i64 2]) ∧ Below w.heap.size w w' := by
  obtain ⟨o, ho⟩ : ∃ o : ByteArray, ⟨(onceL key nonce).toArray⟩ = o := ⟨_, rfl⟩
  have HO := Lib.hid (once_yes key nonce hk hn o ho)
  clear ho hk hn
  by_cases h1 : 4000 < beside.size
  · have t1 : (4000 : Int) < (beside.size : Int) := by omega
    clear h h1
    go_enter Tryd.func7, Tryd.ntmps7
    go_wp2_with fail
    refine (HO.out _ hK).mono ?_
    rintro e w1 ⟨rfl, hb1⟩
    go_wp2
    go_ret2
    exact ⟨rfl, hb1⟩
  · have t1 : ¬ (4000 : Int) < (beside.size : Int) := by omega
    have t2 : (4000 : Int) < (x.size : Int) - 16 := by omega
    clear h h1
    go_enter Tryd.func7, Tryd.ntmps7
    go_wp2_with fail
    refine (HO.out _ hK).mono ?_
    rintro e w1 ⟨rfl, hb1⟩
    go_wp2
    go_ret2
    exact ⟨rfl, hb1⟩
set_option maxHeartbeats 1000000 in
theorem open_short (key nonce beside x : ByteArray) (hk : key.size = 32) (hn : nonce.size = 12) (hb : beside.size ≤ 4000) (h : x.size < 16) (w : World) (hK : Places w) :
    Calls Tryd.prog 7 #[.string key, .string nonce, .string beside, .string x] w fun e w' => e = .returned (.tuple #[.string ⟨#[]⟩, .int .i64 60]) ∧ Below w.heap.size w w' := by
  obtain ⟨o, ho⟩ : ∃ o : ByteArray, ⟨(onceL key nonce).toArray⟩ = o := ⟨_, rfl⟩
  have HO := Lib.hid (once_yes key nonce hk hn o ho)
  have t1 : ¬ (4000 : Int) < (beside.size : Int) := by omega
  have t2 : ¬ (4000 : Int) < (x.size : Int) - 16 := by omega
  have t3 : (x.size : Int) - 16 < 0 := by omega
  clear ho hk hn hb h
  go_enter Tryd.func7, Tryd.ntmps7
  go_wp2_with fail
  refine (HO.out _ hK).mono ?_
  rintro e w1 ⟨rfl, hb1⟩
  go_wp2
  go_ret2
  exact ⟨rfl, hb1⟩
theorem str_eq_list (a b : ByteArray) : (a.toList == b.toList) = (a.data.toList == b.data.toList) := by rw [Lib.toList_data, Lib.toList_data]
set_option maxHeartbeats 2000000 in
theorem open_fit (key nonce beside x : ByteArray) (hk : key.size = 32) (hn : nonce.size = 12) (hb : beside.size ≤ 4000) (h1 : 16 ≤ x.size) (h2 : x.size ≤ 4016) (hf : fitsL key nonce beside.data.toList x.data.toList = true)
    (r : ByteArray) (hr : ⟨(hiddenL key nonce (x.data.toList.take (x.data.toList.length - 16))).toArray⟩ = r) (w : World) (hK : Places w) :
    Calls Tryd.prog 7 #[.string key, .string nonce, .string beside, .string x] w fun e w' => e = .returned (.tuple #[.string r, .int .i64 0]) ∧ Below w.heap.size w w' := by
  obtain ⟨o, ho⟩ : ∃ o : ByteArray, ⟨(onceL key nonce).toArray⟩ = o := ⟨_, rfl⟩
  have hol : o.data.toList = onceL key nonce := by rw [← ho]
  obtain ⟨u, hu⟩ : ∃ u : ByteArray, x.extract 0 (x.size - 16) = u := ⟨_, rfl⟩
  obtain ⟨v, hv⟩ : ∃ v : ByteArray, x.extract (x.size - 16) x.size = v := ⟨_, rfl⟩
  have hul : u.data.toList = x.data.toList.take (x.data.toList.length - 16) := by rw [← hu, str_ext, list_size]; simp
  have hvl : v.data.toList = x.data.toList.drop (x.data.toList.length - 16) := by rw [← hv, str_ext, list_size, List.take_of_length_le (by simp)]
  have huz : u.size ≤ 4000 := by rw [← list_size, hul, List.length_take, list_size]; omega
  obtain ⟨m, hm⟩ : ∃ m : ByteArray, ⟨(markL key nonce beside.data.toList u.data.toList).toArray⟩ = m := ⟨_, rfl⟩
  have hq : (v.toList == m.toList) = true := by
    rw [str_eq_list, hvl, ← hm, list_str, hul]
    exact hf
  have HO := Lib.hid (once_yes key nonce hk hn o ho)
  have HC := Lib.hid (crypt_one key nonce u hk hn huz r (by rw [hul]; exact hr))
  have HM := Lib.hid (mark_any key nonce o hol beside u hb huz m hm)
  have HS : Hid (∀ V : World, Calls Tryd.prog 14 #[.string v, .string m] V fun e w' => e = .returned (.bool true) ∧ V = w') := Lib.hid fun V => by
    have h := same_any v m V
    rw [hq] at h
    exact h
  have hs1 : ∀ V : World, (Instr.slice 9 (.string x) none (some (.int .i64 ((x.size : Int) - 16))) none).run Tryd.prog V = .ok (.string u) V := fun V => by
    rw [show ((x.size : Int) - 16) = ((x.size - 16 : Nat) : Int) by omega, str_to Tryd.underlying9 x (x.size - 16) (by omega) V, hu]
  have hs2 : ∀ V : World, (Instr.slice 9 (.string x) (some (.int .i64 ((x.size : Int) - 16))) none none).run Tryd.prog V = .ok (.string v) V := fun V => by
    rw [show ((x.size : Int) - 16) = ((x.size - 16 : Nat) : Int) by omega, str_from Tryd.underlying9 x (x.size - 16) (by omega) V, hv]
  have t1 : ¬ (4000 : Int) < (beside.size : Int) := by omega
  have t2 : ¬ (4000 : Int) < (x.size : Int) - 16 := by omega
  have t3 : ¬ (x.size : Int) - 16 < 0 := by omega
  clear ho hol hu hv hul hvl huz hm hq hf hr hk hn hb
  go_enter Tryd.func7, Tryd.ntmps7
  go_wp2_with fail
  refine (HO.out _ hK).mono ?_
  rintro e w1 ⟨rfl, hb1⟩
  go_wp2_with fail
  have c1 : ∀ d os, Calls Tryd.prog 13 #[.string o, .string beside, .string u] (Go.Sort.grow (redrawn w1 d) os) fun e w'' => e = .returned (.string m) ∧ ∃ p : Regrown, w'' = Go.Sort.grow (redrawn w1 p.d) p.os := fun d os => Calls.regrown_of (HM.out _)
  have c2 : ∀ d os, Calls Tryd.prog 14 #[.string v, .string m] (Go.Sort.grow (redrawn w1 d) os) fun e w'' => e = .returned (.bool true) ∧ ∃ p : Regrown, w'' = Go.Sort.grow (redrawn w1 p.d) p.os := fun d os => Calls.regrown_of ((HS.out _).mono fun e w' ⟨he, hw⟩ => ⟨he, hw ▸ Below.refl _ _⟩)
  refine wp_region_quiet_below (by kernel_rfl) (by kernel_rfl) ?_
  repeat (quiet_step (first | exact c1 _ _ | exact c2 _ _))
  refine wpQuiet_nil ?_
  intro _ hw'
  obtain ⟨⟨dq, osq⟩, hw''⟩ := hw'
  subst hw''
  have hb2 := hb1.next (below_regrown w1 dq osq)
  clear c1 c2
  generalize Go.Sort.grow (redrawn w1 dq) osq = w2 at *
  go_wp2_with fail
  refine (HC.out _ (hK.keep hb2)).mono ?_
  rintro e w3 ⟨rfl, hb3⟩
  go_wp2
  go_ret2
  exact ⟨rfl, hb2.next hb3⟩
set_option maxHeartbeats 2000000 in
theorem open_unfit (key nonce beside x : ByteArray) (hk : key.size = 32) (hn : nonce.size = 12) (hb : beside.size ≤ 4000) (h1 : 16 ≤ x.size) (h2 : x.size ≤ 4016) (hf : fitsL key nonce beside.data.toList x.data.toList = false) (w : World) (hK : Places w) :
    Calls Tryd.prog 7 #[.string key, .string nonce, .string beside, .string x] w fun e w' => e = .returned (.tuple #[.string ⟨#[]⟩, .int .i64 60]) ∧ Below w.heap.size w w' := by
  obtain ⟨o, ho⟩ : ∃ o : ByteArray, ⟨(onceL key nonce).toArray⟩ = o := ⟨_, rfl⟩
  have hol : o.data.toList = onceL key nonce := by rw [← ho]
  obtain ⟨u, hu⟩ : ∃ u : ByteArray, x.extract 0 (x.size - 16) = u := ⟨_, rfl⟩
  obtain ⟨v, hv⟩ : ∃ v : ByteArray, x.extract (x.size - 16) x.size = v := ⟨_, rfl⟩
  have hul : u.data.toList = x.data.toList.take (x.data.toList.length - 16) := by rw [← hu, str_ext, list_size]; simp
  have hvl : v.data.toList = x.data.toList.drop (x.data.toList.length - 16) := by rw [← hv, str_ext, list_size, List.take_of_length_le (by simp)]
  have huz : u.size ≤ 4000 := by rw [← list_size, hul, List.length_take, list_size]; omega
  obtain ⟨m, hm⟩ : ∃ m : ByteArray, ⟨(markL key nonce beside.data.toList u.data.toList).toArray⟩ = m := ⟨_, rfl⟩
  have hq : (v.toList == m.toList) = false := by
    rw [str_eq_list, hvl, ← hm, list_str, hul]
    exact hf
  have HO := Lib.hid (once_yes key nonce hk hn o ho)
  have HM := Lib.hid (mark_any key nonce o hol beside u hb huz m hm)
  have HS : Hid (∀ V : World, Calls Tryd.prog 14 #[.string v, .string m] V fun e w' => e = .returned (.bool false) ∧ V = w') := Lib.hid fun V => by
    have h := same_any v m V
    rw [hq] at h
    exact h
  have hs1 : ∀ V : World, (Instr.slice 9 (.string x) none (some (.int .i64 ((x.size : Int) - 16))) none).run Tryd.prog V = .ok (.string u) V := fun V => by
    rw [show ((x.size : Int) - 16) = ((x.size - 16 : Nat) : Int) by omega, str_to Tryd.underlying9 x (x.size - 16) (by omega) V, hu]
  have hs2 : ∀ V : World, (Instr.slice 9 (.string x) (some (.int .i64 ((x.size : Int) - 16))) none none).run Tryd.prog V = .ok (.string v) V := fun V => by
    rw [show ((x.size : Int) - 16) = ((x.size - 16 : Nat) : Int) by omega, str_from Tryd.underlying9 x (x.size - 16) (by omega) V, hv]
  have t1 : ¬ (4000 : Int) < (beside.size : Int) := by omega
  have t2 : ¬ (4000 : Int) < (x.size : Int) - 16 := by omega
  have t3 : ¬ (x.size : Int) - 16 < 0 := by omega
  clear ho hol hu hv hul hvl huz hm hq hf hk hn hb
  go_enter Tryd.func7, Tryd.ntmps7
  go_wp2_with fail
  refine (HO.out _ hK).mono ?_
  rintro e w1 ⟨rfl, hb1⟩
  go_wp2_with fail
  have c1 : ∀ d os, Calls Tryd.prog 13 #[.string o, .string beside, .string u] (Go.Sort.grow (redrawn w1 d) os) fun e w'' => e = .returned (.string m) ∧ ∃ p : Regrown, w'' = Go.Sort.grow (redrawn w1 p.d) p.os := fun d os => Calls.regrown_of (HM.out _)
  have c2 : ∀ d os, Calls Tryd.prog 14 #[.string v, .string m] (Go.Sort.grow (redrawn w1 d) os) fun e w'' => e = .returned (.bool false) ∧ ∃ p : Regrown, w'' = Go.Sort.grow (redrawn w1 p.d) p.os := fun d os => Calls.regrown_of ((HS.out _).mono fun e w' ⟨he, hw⟩ => ⟨he, hw ▸ Below.refl _ _⟩)
  refine wp_region_quiet_below (by kernel_rfl) (by kernel_rfl) ?_
  repeat (quiet_step (first | exact c1 _ _ | exact c2 _ _))
  refine wpQuiet_nil ?_
  intro _ hw'
  obtain ⟨⟨dq, osq⟩, hw''⟩ := hw'
  subst hw''
  have hb2 := hb1.next (below_regrown w1 dq osq)
  clear c1 c2
  generalize Go.Sort.grow (redrawn w1 dq) osq = w2 at *
  go_wp2
  go_ret2
  exact ⟨rfl, hb2⟩
end Go.Proofs.YtapbjmeilhcmaaaDoor
