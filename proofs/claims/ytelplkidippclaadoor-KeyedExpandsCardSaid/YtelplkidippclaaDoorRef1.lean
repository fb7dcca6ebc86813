/-
  keyholeref01 and keyholeref02: the contracts of what only computes: digits one by one, turns, falls, sums.
-/
import Derived.Test.YtelplkidippclaaDoorSha
namespace Go.Proofs.YtelplkidippclaaDoor
open Go.RowKit Go.Kx

theorem mod_up (x i : Nat) : x % 2 ^ (i + 1) = x % 2 ^ i + 2 ^ i * (x / 2 ^ i % 2) := by rw [Nat.pow_succ, Nat.mod_mul]
theorem div_up (x i : Nat) : x / 2 ^ i / 2 = x / 2 ^ (i + 1) := by rw [Nat.div_div_eq_div_mul, Nat.pow_succ]
theorem bit_of (x i : Nat) : x / 2 ^ i % 2 = (x.testBit i).toNat := by rw [Nat.testBit_eq_decide_div_mod_eq]; rcases Nat.mod_two_eq_zero_or_one (x / 2 ^ i) with h | h <;> simp [h]
theorem xor_up (a b i : Nat) : (a ^^^ b) / 2 ^ i % 2 = if a / 2 ^ i % 2 = b / 2 ^ i % 2 then 0 else 1 := by
  rw [bit_of, bit_of, bit_of, Nat.testBit_xor]
  cases a.testBit i <;> cases b.testBit i <;> rfl
theorem and_up (a b i : Nat) : (a &&& b) / 2 ^ i % 2 = if a / 2 ^ i % 2 = 1 ∧ b / 2 ^ i % 2 = 1 then 1 else 0 := by
  rw [bit_of, bit_of, bit_of, Nat.testBit_and]
  cases a.testBit i <;> cases b.testBit i <;> rfl
theorem pow_le32 {i : Nat} (h : i ≤ 32) : 2 ^ i ≤ 4294967296 := Nat.pow_le_pow_right (by omega) h
theorem unlike_any (a b : Nat) (ha : a < 4294967296) (hb : b < 4294967296) (w : World) :
    Calls Tryd.prog 37 #[.int .i64 a, .int .i64 b] w fun e w' => e = .returned (.int .i64 (a ^^^ b : Nat)) ∧ w' = w := by
  go_enter Tryd.func37, Tryd.ntmps37
  go_wp2
  go_loop [0, 1, 5, 6, 7] (fun va vb vn vw vi => ∃ k A B n q : Nat, k ≤ 32 ∧ vi = .int .i64 k ∧ Hid (A = a / 2 ^ k) ∧ Hid (B = b / 2 ^ k) ∧ Hid (n = (a ^^^ b) % 2 ^ k) ∧ Hid (q = 2 ^ k) ∧ va = .int .i64 A ∧ vb = .int .i64 B ∧ vn = .int .i64 n ∧ vw = .int .i64 q) (fun _ _ _ _ i => 32 - (intOf i).toNat)
  case atStart => exact ⟨0, a, b, 0, 1, by omega, rfl, Lib.hid (by simp), Lib.hid (by simp), Lib.hid (by omega), Lib.hid rfl, rfl, rfl, rfl, rfl⟩
  case round =>
    obtain ⟨k, A, B, n, q, hk, rfl, hA, hB, hn, hq, rfl, rfl, rfl, rfl⟩ := hrel
    have hAl : A < 4294967296 := by rw [hA.out]; exact Nat.lt_of_le_of_lt (Nat.div_le_self _ _) ha
    have hBl : B < 4294967296 := by rw [hB.out]; exact Nat.lt_of_le_of_lt (Nat.div_le_self _ _) hb
    have hql : q ≤ 4294967296 := by rw [hq.out]; exact pow_le32 hk
    have hnl : n < 4294967296 := by rw [hn.out]; exact Nat.lt_of_le_of_lt (Nat.mod_le _ _) (Nat.xor_lt_two_pow (n := 32) ha hb)
    by_cases hl : k < 32
    · have hA' : Hid (A / 2 = a / 2 ^ (k + 1)) := Lib.hid (by rw [hA.out, div_up])
      have hB' : Hid (B / 2 = b / 2 ^ (k + 1)) := Lib.hid (by rw [hB.out, div_up])
      have hq' : Hid (2 * q = 2 ^ (k + 1)) := Lib.hid (by rw [hq.out, Nat.pow_succ, Nat.mul_comm])
      by_cases hp : A % 2 = B % 2
      · have hn' : Hid (n = (a ^^^ b) % 2 ^ (k + 1)) := Lib.hid (by rw [mod_up, xor_up, ← hA.out, ← hB.out, if_pos hp, ← hn.out]; rfl)
        have ht : ((A : Int) % 2 != (B : Int) % 2) = false := by simp; omega
        clear hA hB hn hq hp
        go_wp2
        go_round
        case rel => exact ⟨k + 1, A / 2, B / 2, n, 2 * q, by omega, by go_num, hA', hB', hn', hq', by go_num, by go_num, by go_num, by go_num⟩
        case measure => simp [intOf]; omega
      · have hn' : Hid (n + q = (a ^^^ b) % 2 ^ (k + 1)) := Lib.hid (by rw [mod_up, xor_up, ← hA.out, ← hB.out, if_neg hp, ← hn.out, ← hq.out]; omega)
        have ht : ((A : Int) % 2 != (B : Int) % 2) = true := by simp; omega
        clear hA hB hn hq hp
        go_wp2
        go_round
        case rel => exact ⟨k + 1, A / 2, B / 2, n + q, 2 * q, by omega, by go_num, hA', hB', hn', hq', by go_num, by go_num, by go_num, by go_num⟩
        case measure => simp [intOf]; omega
    · obtain rfl : k = 32 := by omega
      go_wp2
      go_ret
      exact ⟨ret_int (by rw [hn.out, Nat.mod_eq_of_lt (Nat.xor_lt_two_pow (n := 32) ha hb)]), rfl⟩
theorem both_any (a b : Nat) (ha : a < 4294967296) (hb : b < 4294967296) (w : World) :
    Calls Tryd.prog 49 #[.int .i64 a, .int .i64 b] w fun e w' => e = .returned (.int .i64 (a &&& b : Nat)) ∧ w' = w := by
  go_enter Tryd.func49, Tryd.ntmps49
  go_wp2
  go_loop [0, 1, 5, 6, 7] (fun va vb vn vw vi => ∃ k A B n q : Nat, k ≤ 32 ∧ vi = .int .i64 k ∧ Hid (A = a / 2 ^ k) ∧ Hid (B = b / 2 ^ k) ∧ Hid (n = (a &&& b) % 2 ^ k) ∧ Hid (q = 2 ^ k) ∧ va = .int .i64 A ∧ vb = .int .i64 B ∧ vn = .int .i64 n ∧ vw = .int .i64 q) (fun _ _ _ _ i => 32 - (intOf i).toNat)
  case atStart => exact ⟨0, a, b, 0, 1, by omega, rfl, Lib.hid (by simp), Lib.hid (by simp), Lib.hid (by omega), Lib.hid rfl, rfl, rfl, rfl, rfl⟩
  case round =>
    obtain ⟨k, A, B, n, q, hk, rfl, hA, hB, hn, hq, rfl, rfl, rfl, rfl⟩ := hrel
    have hAl : A < 4294967296 := by rw [hA.out]; exact Nat.lt_of_le_of_lt (Nat.div_le_self _ _) ha
    have hBl : B < 4294967296 := by rw [hB.out]; exact Nat.lt_of_le_of_lt (Nat.div_le_self _ _) hb
    have hql : q ≤ 4294967296 := by rw [hq.out]; exact pow_le32 hk
    have hnl : n < 4294967296 := by rw [hn.out]; exact Nat.lt_of_le_of_lt (Nat.mod_le _ _) (Nat.and_lt_two_pow (n := 32) a hb)
    by_cases hl : k < 32
    · have hA' : Hid (A / 2 = a / 2 ^ (k + 1)) := Lib.hid (by rw [hA.out, div_up])
      have hB' : Hid (B / 2 = b / 2 ^ (k + 1)) := Lib.hid (by rw [hB.out, div_up])
      have hq' : Hid (2 * q = 2 ^ (k + 1)) := Lib.hid (by rw [hq.out, Nat.pow_succ, Nat.mul_comm])
      by_cases hp : A % 2 = 1 ∧ B % 2 = 1
      · have hn' : Hid (n + q = (a &&& b) % 2 ^ (k + 1)) := Lib.hid (by rw [mod_up, and_up, ← hA.out, ← hB.out, if_pos hp, ← hn.out, ← hq.out]; omega)
        have t1 : ((A : Int) % 2 == 1) = true := by simp; omega
        have t2 : ((B : Int) % 2 == 1) = true := by simp; omega
        clear hA hB hn hq hp
        go_wp2
        go_round
        case rel => exact ⟨k + 1, A / 2, B / 2, n + q, 2 * q, by omega, by go_num, hA', hB', hn', hq', by go_num, by go_num, by go_num, by go_num⟩
        case measure => simp [intOf]; omega
      · have hn' : Hid (n = (a &&& b) % 2 ^ (k + 1)) := Lib.hid (by rw [mod_up, and_up, ← hA.out, ← hB.out, if_neg hp, ← hn.out]; rfl)
        by_cases hp1 : A % 2 = 1
        · have t1 : ((A : Int) % 2 == 1) = true := by simp; omega
          have t2 : ((B : Int) % 2 == 1) = false := by simp; omega
          clear hA hB hn hq hp hp1
          go_wp2
          go_round
          case rel => exact ⟨k + 1, A / 2, B / 2, n, 2 * q, by omega, by go_num, hA', hB', hn', hq', by go_num, by go_num, by go_num, by go_num⟩
          case measure => simp [intOf]; omega
        · have t1 : ((A : Int) % 2 == 1) = false := by simp; omega
          clear hA hB hn hq hp hp1
          go_wp2
          go_round
          case rel => exact ⟨k + 1, A / 2, B / 2, n, 2 * q, by omega, by go_num, hA', hB', hn', hq', by go_num, by go_num, by go_num, by go_num⟩
          case measure => simp [intOf]; omega
    · obtain rfl : k = 32 := by omega
      go_wp2
      go_ret
      exact ⟨ret_int (by rw [hn.out, Nat.mod_eq_of_lt (Nat.and_lt_two_pow (n := 32) a hb)]), rfl⟩
theorem rotN_step (x k : Nat) (hx : x < 4294967296) (hk : k < 32) : rotN x (k + 1) = 2 * rotN x k % 4294967296 + 2 * rotN x k / 4294967296 := by
  have hp : 2 ^ k * (2 * 2 ^ (31 - k)) = 4294967296 := by
    have : 2 ^ k * 2 ^ (32 - k) = 4294967296 := by rw [← Nat.pow_add, show k + (32 - k) = 32 from by omega]
    rw [← this, show 32 - k = (31 - k) + 1 by omega, Nat.pow_succ 2 (31 - k), Nat.mul_comm 2]
  have e1 : 2 ^ (32 - k) = 2 * 2 ^ (31 - k) := by rw [show 32 - k = (31 - k) + 1 by omega, Nat.pow_succ, Nat.mul_comm]
  have e2 : 2 ^ (k + 1) = 2 * 2 ^ k := by rw [Nat.pow_succ, Nat.mul_comm]
  unfold rotN
  rw [show 32 - (k + 1) = 31 - k by omega, e1, e2]
  have hA : 0 < 2 ^ k := Nat.two_pow_pos _
  have hB : 0 < 2 ^ (31 - k) := Nat.two_pow_pos _
  generalize 2 ^ k = A at *
  generalize 2 ^ (31 - k) = C at *
  have hq : x / (2 * C) < A := by rw [Nat.div_lt_iff_lt_mul (by omega), hp]; exact hx
  have hd := Nat.div_add_mod x (2 * C)
  have hr : x % (2 * C) < 2 * C := Nat.mod_lt _ (by omega)
  generalize x / (2 * C) = q at *
  generalize x % (2 * C) = r at *
  obtain ⟨t, r', ht, hr', rfl⟩ : ∃ t r', t < 2 ∧ r' < C ∧ r = t * C + r' := ⟨r / C, r % C, by rw [Nat.div_lt_iff_lt_mul hB]; omega, Nat.mod_lt _ hB, (Nat.div_add_mod' r C).symm⟩
  have c1 : 2 * C * q = C * (2 * q) := by ac_rfl
  have hx2 : x = C * (2 * q + t) + r' := by rw [← hd, Nat.mul_add, Nat.mul_comm t C]; omega
  have hACp : A * C * 2 = 4294967296 := by rw [← hp]; ac_rfl
  have f1 : x / C = 2 * q + t := by rw [hx2, Nat.mul_add_div hB, Nat.div_eq_of_lt hr']; rfl
  have c2 : 2 * C * q * A = A * (2 * C) * q := by ac_rfl
  have c3 : (2 * C * q + (t * C + r')) * A = (t * C + r') * A + 4294967296 * q := by rw [Nat.add_mul, c2, hp, Nat.add_comm]
  have f2 : x * A % 4294967296 = (t * C + r') * A := by
    rw [← hd, c3, Nat.add_mul_mod_self_left]
    apply Nat.mod_eq_of_lt
    rw [← hp, Nat.mul_comm A]
    exact Nat.mul_lt_mul_of_pos_right hr hA
  have c4 : C * (2 * q + t) * (2 * A) = A * C * 2 * (2 * q + t) := by ac_rfl
  have c5 : (C * (2 * q + t) + r') * (2 * A) = r' * (2 * A) + 4294967296 * (2 * q + t) := by rw [Nat.add_mul, c4, hACp, Nat.add_comm]
  have c6 : A * C * 2 = C * (2 * A) := by ac_rfl
  have f3 : x * (2 * A) % 4294967296 = r' * (2 * A) := by
    rw [hx2, c5, Nat.add_mul_mod_self_left]
    apply Nat.mod_eq_of_lt
    rw [← hACp, c6]
    exact Nat.mul_lt_mul_of_pos_right hr' (by omega)
  rw [f1, f2, f3]
  have g1 : 2 * ((t * C + r') * A + q) = 4294967296 * t + (r' * (2 * A) + 2 * q) := by
    have e3 : 2 * (t * C * A) = A * C * 2 * t := by ac_rfl
    have e4 : 2 * (r' * A) = r' * (2 * A) := by ac_rfl
    rw [Nat.mul_add, Nat.add_mul, Nat.mul_add, e3, e4, hACp]
    omega
  have g2 : r' * (2 * A) + 2 * q < 4294967296 := by
    have h1 : (r' + 1) * (2 * A) ≤ C * (2 * A) := Nat.mul_le_mul_right _ hr'
    rw [← c6, hACp, Nat.add_mul, Nat.one_mul] at h1
    omega
  rw [g1, Nat.mul_add_mod, Nat.mod_eq_of_lt g2, Nat.mul_add_div (by omega), Nat.div_eq_of_lt g2]
  omega
theorem rotN_0 (x : Nat) (hx : x < 4294967296) : rotN x 0 = x := by show x * 1 % 4294967296 + x / 4294967296 = x; omega
theorem turned_any (x n : Nat) (hx : x < 4294967296) (hn : n ≤ 32) (w : World) :
    Calls Tryd.prog 67 #[.int .i64 x, .int .i64 n] w fun e w' => e = .returned (.int .i64 (rotN x n : Nat)) ∧ w' = w := by
  go_enter Tryd.func67, Tryd.ntmps67
  go_wp2
  go_loop [0, 5] (fun vx vi => ∃ k y : Nat, k ≤ n ∧ vi = .int .i64 k ∧ Hid (y = rotN x k) ∧ vx = .int .i64 y) (fun _ i => n - (intOf i).toNat)
  case atStart => exact ⟨0, x, by omega, rfl, Lib.hid (rotN_0 x hx).symm, rfl⟩
  case round =>
    obtain ⟨k, y, hk, rfl, hy, rfl⟩ := hrel
    have hyl : y < 4294967296 := by rw [hy.out]; exact rotN_lt x k hx (by omega)
    by_cases hl : k < n
    · have hy' : Hid (2 * y % 4294967296 + 2 * y / 4294967296 = rotN x (k + 1)) := Lib.hid (by rw [rotN_step x k hx (by omega), hy.out])
      clear hy
      go_wp2
      go_round
      case rel => exact ⟨k + 1, 2 * y % 4294967296 + 2 * y / 4294967296, by omega, by go_num, hy', by go_num⟩
      case measure => simp [intOf]; omega
    · obtain rfl : n = k := by omega
      go_wp2
      go_ret
      exact ⟨ret_int (by rw [hy.out]), rfl⟩
theorem sum2_any (a b : Nat) (ha : a < 4294967296) (hb : b < 4294967296) (w : World) :
    Calls Tryd.prog 66 #[.int .i64 a, .int .i64 b] w fun e w' => e = .returned (.int .i64 ((a + b) % 4294967296 : Nat)) ∧ w' = w := by
  go_enter Tryd.func66, Tryd.ntmps66
  go_wp2
  go_ret
  exact ⟨ret_int (by first | rfl | omega), rfl⟩
end Go.Proofs.YtelplkidippclaaDoor
