/-
  keyholeref01.Unlike: the contract (a part of Ref1: never beside it).
-/
import Derived.Test.YtljckcegcfidoaaOwn
namespace Go.Proofs.Ytljckcegcfidoaa
open Go.RowKit Go.Kx
set_option maxRecDepth 20000

theorem mod_up (x i : Nat) : x % 2 ^ (i + 1) = x % 2 ^ i + 2 ^ i * (x / 2 ^ i % 2) := by rw [Nat.pow_succ, Nat.mod_mul]
theorem div_up (x i : Nat) : x / 2 ^ i / 2 = x / 2 ^ (i + 1) := by rw [Nat.div_div_eq_div_mul, Nat.pow_succ]
theorem bit_of (x i : Nat) : x / 2 ^ i % 2 = (x.testBit i).toNat := by rw [Nat.testBit_eq_decide_div_mod_eq]; rcases Nat.mod_two_eq_zero_or_one (x / 2 ^ i) with h | h <;> simp [h]
theorem xor_up (a b i : Nat) : (a ^^^ b) / 2 ^ i % 2 = if a / 2 ^ i % 2 = b / 2 ^ i % 2 then 0 else 1 := by
  rw [bit_of, bit_of, bit_of, Nat.testBit_xor]
  cases a.testBit i <;> cases b.testBit i <;> rfl
theorem pow_le32 {i : Nat} (h : i ≤ 32) : 2 ^ i ≤ 4294967296 := Nat.pow_le_pow_right (by omega) h
theorem unlike_any (a b : Nat) (ha : a < 4294967296) (hb : b < 4294967296) (w : World) :
    Calls Try.prog 48 #[.int .i64 a, .int .i64 b] w fun e w' => e = .returned (.int .i64 (a ^^^ b : Nat)) ∧ w' = w := by
  go_enter Try.func48, Try.ntmps48
  go_wp2
  go_loop [0, 1, 5, 6, 7] (fun va vb vn vw vi => ∃ k A B n q : Nat, k ≤ 32 ∧ vi = .int .i64 k ∧ Hid (A = a / 2 ^ k) ∧ Hid (B = b / 2 ^ k) ∧ Hid (n = (a ^^^ b) % 2 ^ k) ∧ Hid (q = 2 ^ k) ∧ va = .int .i64 A ∧ vb = .int .i64 B ∧ vn = .int .i64 n ∧ vw = .int .i64 q) (fun _ _ _ _ i => 32 - (intOf i).toNat)
  case atStart => exact ⟨0, a, b, 0, 1, by omega, rfl, Lib.hid (by simp), Lib.hid (by simp), Lib.hid (by omega), Lib.hid rfl, rfl, rfl, rfl, rfl⟩
  case round =>
    obtain ⟨k, A, B, n, q, hk, rfl, hA, hB, hn, hq, rfl, rfl, rfl, rfl⟩ := hrel
    have hAl : A < 4294967296 := by rw [hA.out]; exact Nat.lt_of_le_of_lt (Nat.div_le_self _ _) ha
    have hBl : B < 4294967296 := by rw [hB.out]; exact Nat.lt_of_le_of_lt (Nat.div_le_self _ _) hb
    have hql : q ≤ 4294967296 := by rw [hq.out]; exact pow_le32 hk
    have hnl : n < 4294967296 := by rw [hn.out]; exact Nat.lt_of_le_of_lt (Nat.mod_le _ _) (Nat.xor_lt_two_pow (n := 32) ha hb)
    by_cases hl : k < 32
    · have hA' : Hid (A / 2 = a / 2 ^ (k + 1)) := Lib.hid (by rw [hA.out, div_up])
      have hB' : Hid (B / 2 = b / 2 ^ (k + 1)) := Lib.hid (by rw [hB.out, div_up])
      have hq' : Hid (2 * q = 2 ^ (k + 1)) := Lib.hid (by rw [hq.out, Nat.pow_succ, Nat.mul_comm])
      by_cases hp : A % 2 = B % 2
      · have hn' : Hid (n = (a ^^^ b) % 2 ^ (k + 1)) := Lib.hid (by rw [mod_up, xor_up, ← hA.out, ← hB.out, if_pos hp, ← hn.out]; rfl)
        have ht : ((A : Int) % 2 != (B : Int) % 2) = false := by simp; omega
        clear hA hB hn hq hp
        go_wp2
        go_round
        case rel => exact ⟨k + 1, A / 2, B / 2, n, 2 * q, by omega, by go_num, hA', hB', hn', hq', by go_num, by go_num, by go_num, by go_num⟩
        case measure => simp [intOf]; omega
      · have hn' : Hid (n + q = (a ^^^ b) % 2 ^ (k + 1)) := Lib.hid (by rw [mod_up, xor_up, ← hA.out, ← hB.out, if_neg hp, ← hn.out, ← hq.out]; omega)
        have ht : ((A : Int) % 2 != (B : Int) % 2) = true := by simp; omega
        clear hA hB hn hq hp
        go_wp2
        go_round
        case rel => exact ⟨k + 1, A / 2, B / 2, n + q, 2 * q, by omega, by go_num, hA', hB', hn', hq', by go_num, by go_num, by go_num, by go_num⟩
        case measure => simp [intOf]; omega
    · obtain rfl : k = 32 := by omega
      go_wp2
      go_ret
      exact ⟨ret_int (by rw [hn.out, Nat.mod_eq_of_lt (Nat.xor_lt_two_pow (n := 32) ha hb)]), rfl⟩
theorem unlike_v (a b : Nat) (ha : a < 4294967296) (hb : b < 4294967296) (y : Nat) (hy : a ^^^ b = y) (w : World) :
    Calls Try.prog 48 #[.int .i64 a, .int .i64 b] w fun e w' => e = .returned (.int .i64 (y : Nat)) ∧ w' = w := by
  subst hy; exact unlike_any a b ha hb w
end Go.Proofs.Ytljckcegcfidoaa
