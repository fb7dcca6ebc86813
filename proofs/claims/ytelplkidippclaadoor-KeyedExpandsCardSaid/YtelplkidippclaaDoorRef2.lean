/-
  keyholeref01.Is, All, keyholeref02.three, back, fall, add: contracts.
-/
import Derived.Test.YtelplkidippclaaDoorRef1
import Derived.Test.YtelplkidippclaaDoorDig1
namespace Go.Proofs.YtelplkidippclaaDoor
open Go.RowKit Go.Kx
set_option maxRecDepth 20000

theorem ris_any (x : Int) (w : World) : Calls Tryd.prog 63 #[.int .i64 x] w fun e w' => e = .returned (.bool (okW x)) ∧ w' = w := by
  by_cases h0 : x < 0
  · have e := Lib.hid (okW_lo h0)
    go_enter Tryd.func63, Tryd.ntmps63
    go_wp2
    go_ret
    exact ⟨ret_bool (by first | (rw [e.out]; done) | (rw [e.out]; simp; omega)), rfl⟩
  · by_cases h1 : 4294967295 < x
    · have e := Lib.hid (okW_hi h1)
      go_enter Tryd.func63, Tryd.ntmps63
      go_wp2
      go_ret
      exact ⟨ret_bool (by first | (rw [e.out]; done) | (rw [e.out]; simp; omega)), rfl⟩
    · have e := Lib.hid (okW_t (x := x) (by omega) (by omega))
      go_enter Tryd.func63, Tryd.ntmps63
      go_wp2
      go_ret
      exact ⟨ret_bool (by first | (rw [e.out]; done) | (rw [e.out]; simp; omega)), rfl⟩
theorem rall_any (A : Option Addr) (c : Nat) (xs : List Int) (w : World) (hm : xs.length ≤ 9223372036854775807) (hs : Sl w A (xs.map (.int .i64))) :
    Calls Tryd.prog 46 #[.slice A xs.length c] w fun e w' => e = .returned (.bool (xs.all okW)) ∧ w = w' := by
  go_enter Tryd.func46, Tryd.ntmps46
  go_wp2
  go_loop [3] (fun i => ∃ k : Nat, k ≤ xs.length ∧ i = .int .i64 k ∧ (xs.take k).all okW = true) (fun i => xs.length - (intOf i).toNat)
  case atStart => exact ⟨0, Nat.zero_le _, rfl, rfl⟩
  case round =>
    obtain ⟨k, hk, rfl, ha⟩ := hrel
    by_cases hlt : k < xs.length
    · obtain ⟨b, off, u, rfl, hu, hcell⟩ := hs.at_ (k := k) (by simpa using hlt)
      obtain ⟨x, hx, rfl⟩ : ∃ x, xs[k]? = some x ∧ .int .i64 x = u := by simpa using hu
      have HB := Lib.hid (@all_bad xs k x hx)
      have HG := Lib.hid (all_snoc hx ha)
      clear ha hs hx hu
      by_cases h0 : okW x = true
      · go_wp2_with (go_at_call 63; refine (ris_any x _).mono ?_; rintro e w' ⟨rfl, rfl⟩; rw [h0])
        go_round
        case rel => exact ⟨k + 1, by omega, by go_num, HG.out h0⟩
        case measure => simp [intOf]; omega
      · have h1 : okW x = false := by simpa using h0
        go_wp2_with (go_at_call 63; refine (ris_any x _).mono ?_; rintro e w' ⟨rfl, rfl⟩; rw [h1])
        go_ret
        exact ⟨ret_bool (HB.out h1).symm, rfl⟩
    · go_wp2
      go_ret
      exact ⟨ret_bool (by rw [List.take_of_length_le (by omega)] at ha; exact ha.symm), rfl⟩
theorem three_any (a b c : Nat) (ha : a < 4294967296) (hb : b < 4294967296) (hc : c < 4294967296) (w : World) :
    Calls Tryd.prog 50 #[.int .i64 a, .int .i64 b, .int .i64 c] w fun e w' => e = .returned (.int .i64 ((a ^^^ b) ^^^ c : Nat)) ∧ w' = w := by
  go_enter Tryd.func50, Tryd.ntmps50
  go_wp2_with fail
  refine (unlike_any a b ha hb _).mono ?_
  rintro e w' ⟨rfl, rfl⟩
  have hab := xor_lt ha hb
  generalize hy : a ^^^ b = y at *
  have HY := Lib.hid hy
  clear hy
  go_wp2_with fail
  refine (unlike_any y c hab hc _).mono ?_
  rintro e w' ⟨rfl, rfl⟩
  go_wp2
  go_ret
  exact ⟨ret_int (by rw [HY.out]), rfl⟩
theorem rback_any (x n : Nat) (m : Int) (hm : m = (n : Int)) (hx : x < 4294967296) (hn : n ≤ 32) (w : World) :
    Calls Tryd.prog 52 #[.int .i64 x, .int .i64 m] w fun e w' => e = .returned (.int .i64 (bk x n : Nat)) ∧ w' = w := by
  subst hm
  have e32 : (32 : Int) - (n : Int) = ((32 - n : Nat) : Int) := by omega
  have HB := Lib.hid (show bk x n = rotN x (32 - n) from rfl)
  have hl : 32 - n ≤ 32 := by omega
  go_enter Tryd.func52, Tryd.ntmps52
  go_wp2_with fail
  refine (turned_any x (32 - n) hx hl _).mono ?_
  rintro e w' ⟨rfl, rfl⟩
  go_wp2
  go_ret
  exact ⟨ret_int (by rw [HB.out]), rfl⟩
theorem fall_any (x n : Nat) (m : Int) (hm : m = (n : Int)) (hx : x < 4294967296) (hn : n ≤ 32) (w : World) :
    Calls Tryd.prog 65 #[.int .i64 x, .int .i64 m] w fun e w' => e = .returned (.int .i64 (x / 2 ^ n : Nat)) ∧ w' = w := by
  subst hm
  go_enter Tryd.func65, Tryd.ntmps65
  go_wp2
  go_loop [0, 5] (fun vx vi => ∃ k y : Nat, k ≤ n ∧ vi = .int .i64 k ∧ Hid (y = x / 2 ^ k) ∧ vx = .int .i64 y) (fun _ i => n - (intOf i).toNat)
  case atStart => exact ⟨0, x, by omega, rfl, Lib.hid (by simp), rfl⟩
  case round =>
    obtain ⟨k, y, hk, rfl, hy, rfl⟩ := hrel
    have hyl : y < 4294967296 := by rw [hy.out]; exact Nat.lt_of_le_of_lt (Nat.div_le_self _ _) hx
    by_cases hl : k < n
    · have hy' : Hid (y / 2 = x / 2 ^ (k + 1)) := Lib.hid (by rw [hy.out, div_up])
      clear hy
      go_wp2
      go_round
      case rel => exact ⟨k + 1, y / 2, by omega, by go_num, hy', by go_num⟩
      case measure => simp [intOf]; omega
    · obtain rfl : n = k := by omega
      go_wp2
      go_ret
      exact ⟨ret_int (by rw [hy.out, Int.natCast_ediv, Int.natCast_pow]; rfl), rfl⟩
theorem radd_any (A : Option Addr) (c : Nat) (xs : List Nat) (w : World) (hm : xs.length ≤ 9223372036854775807) (hx : ∀ x ∈ xs, x < 4294967296) (hs : Sl w A (ints xs)) :
    Calls Tryd.prog 51 #[.slice A xs.length c] w fun e w' => e = .returned (.int .i64 (addL xs : Nat)) ∧ w' = w := by
  go_enter Tryd.func51, Tryd.ntmps51
  go_wp2
  go_loop [3, 4] (fun vn vi => ∃ k n : Nat, k ≤ xs.length ∧ vi = .int .i64 k ∧ Hid (n = addL (xs.take k)) ∧ n < 4294967296 ∧ vn = .int .i64 n) (fun _ i => xs.length - (intOf i).toNat)
  case atStart => exact ⟨0, 0, Nat.zero_le _, rfl, Lib.hid rfl, by omega, rfl⟩
  case round =>
    obtain ⟨k, n, hk, rfl, hn, hnl, rfl⟩ := hrel
    by_cases hlt : k < xs.length
    · obtain ⟨b, off, u, rfl, hu, hcell⟩ := hs.at_ (k := k) (by simpa [ints] using hlt)
      obtain ⟨x, hxk, rfl⟩ : ∃ x, xs[k]? = some x ∧ .int .i64 (x : Int) = u := by simpa [ints] using hu
      have hxl : x < 4294967296 := hx x (List.mem_of_getElem? hxk)
      have HN := Lib.hid (show (n + x) % 4294967296 = addL (xs.take (k + 1)) by rw [List.take_add_one, hxk, Option.toList_some, addL_snoc, hn.out])
      clear hs hu hxk hn
      go_wp2_with fail
      refine (sum2_any n x hnl hxl _).mono ?_
      rintro e w' ⟨rfl, rfl⟩
      have hl2 : (n + x) % 4294967296 < 4294967296 := Nat.mod_lt _ (by omega)
      generalize (n + x) % 4294967296 = y at *
      go_wp2
      go_round
      case rel => exact ⟨k + 1, y, by omega, by go_num, HN, hl2, rfl⟩
      case measure => simp [intOf]; omega
    · go_wp2
      go_ret
      exact ⟨ret_int (by rw [hn.out, List.take_of_length_le (by omega)]), rfl⟩
end Go.Proofs.YtelplkidippclaaDoor
