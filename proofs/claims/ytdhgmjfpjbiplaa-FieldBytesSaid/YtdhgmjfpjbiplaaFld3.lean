/-
  keyholeref07: the contracts of Digit, Sum, double, Times, Add, Mul, Inv, Div, Pow.
-/
import Derived.Test.YtdhgmjfpjbiplaaFld2
import Derived.Test.YtdhgmjfpjbiplaaUnl
namespace Go.Proofs.Ytdhgmjfpjbiplaa
open Go.RowKit Go.Kx
set_option maxRecDepth 20000

theorem digit_any (a : Int) (w : World) : Calls Try.prog 24 #[.int .i64 a] w fun e w' => e = .returned (.bool (dig a)) ∧ w' = w := by
  go_enter Try.func24, Try.ntmps24
  by_cases h : 0 ≤ a
  · go_wp2
    go_ret
    exact ⟨ret_bool (by simp [dig, h]; omega), rfl⟩
  · go_wp2
    go_ret
    exact ⟨ret_bool (by simp [dig]; omega), rfl⟩
theorem rsum_any (a b : Nat) (ha : a < 4294967296) (hb : b < 4294967296) (w : World) : Calls Try.prog 25 #[.int .i64 a, .int .i64 b] w fun e w' => e = .returned (.int .i64 (a ^^^ b : Nat)) ∧ w' = w := by
  go_enter Try.func25, Try.ntmps25
  go_wp2_with fail
  refine (unlike_any a b ha hb _).mono ?_
  rintro e w1 ⟨rfl, rfl⟩
  go_wp2
  go_ret
  exact ⟨rfl, rfl⟩
theorem rdouble_any (a : Nat) (ha : a < 256) (w : World) : Calls Try.prog 31 #[.int .i64 a] w fun e w' => e = .returned (.int .i64 (Gf.dbl a : Nat)) ∧ w' = w := by
  go_enter Try.func31, Try.ntmps31
  by_cases h : 2 * (a : Int) < 256
  · go_wp2
    go_ret
    exact ⟨ret_int (by rw [Gf.dbl, if_pos (by omega)]; omega), rfl⟩
  · go_wp2_with fail
    rw [show 2 * (a : Int) - 256 = ((2 * a - 256 : Nat) : Int) by omega, show (27 : Int) = ((27 : Nat) : Int) from rfl]
    refine (rsum_any _ _ (by omega) (by omega) _).mono ?_
    rintro e w1 ⟨rfl, rfl⟩
    go_wp2
    go_ret
    exact ⟨ret_int (by rw [Gf.dbl, if_neg (by omega)]), rfl⟩
theorem mulK_none : ∀ (k n a : Nat), Gf.mulK k n a 0 = n
  | 0, _, _ => rfl
  | k + 1, n, a => by rw [Gf.mulK, if_neg (by omega), Nat.zero_div]; exact mulK_none k n _
theorem times_any (a b : Nat) (ha : a < 256) (hb : b < 256) (w : World) : Calls Try.prog 27 #[.int .i64 a, .int .i64 b] w fun e w' => e = .returned (.int .i64 (Gf.mulG a b : Nat)) ∧ w' = w := by
  have hm0 : Hid (Gf.mulK 8 0 a b = Gf.mulG a b) := Lib.hid rfl
  generalize Gf.mulG a b = p at *
  go_enter Try.func27, Try.ntmps27
  go_wp2
  go_loop [0, 1, 5] (fun va vb vn => ∃ k A B N : Nat, va = .int .i64 A ∧ vb = .int .i64 B ∧ vn = .int .i64 N ∧ A < 256 ∧ B < 2 ^ k ∧ k ≤ 8 ∧ N < 256 ∧ Hid (Gf.mulK k N A B = p)) (fun _ b _ => (intOf b).toNat)
  case atStart => exact ⟨8, a, b, 0, rfl, rfl, rfl, ha, hb, by omega, by omega, hm0⟩
  case round =>
    clear hm0 hb
    obtain ⟨k, A, B, N, rfl, rfl, rfl, hA, hB, hk, hN, hp⟩ := hrel
    by_cases h0 : 0 < B
    · obtain ⟨j, rfl⟩ : ∃ j, k = j + 1 := by
        cases k with
        | zero => simp at hB; omega
        | succ j => exact ⟨j, rfl⟩
      have hB2 : Hid (B / 2 < 2 ^ j) := Lib.hid (by rw [Nat.pow_succ] at hB; omega)
      have hBl : B < 256 := Nat.lt_of_lt_of_le hB (Nat.pow_le_pow_right (n := 2) (by omega) hk)
      have hD := Lib.hid (Gf.dbl_lt hA)
      have hX := Lib.hid (Gf.xor_lt hN hA)
      clear hB
      by_cases h1 : B % 2 = 1
      · have hq : Hid (Gf.mulK j (N ^^^ A) (Gf.dbl A) (B / 2) = p) := Lib.hid (by rw [← hp.out, Gf.mulK, if_pos h1])
        clear hp
        have t1 : ((B : Int) % 2 == 1) = true := by simp; omega
        go_wp2_with fail
        refine (rsum_any N A (by omega) (by omega) _).mono ?_
        rintro e w1 ⟨rfl, rfl⟩
        go_wp2_with fail
        refine (rdouble_any A hA _).mono ?_
        rintro e w1 ⟨rfl, rfl⟩
        go_wp2
        go_round
        case rel => exact ⟨j, Gf.dbl A, B / 2, N ^^^ A, rfl, by go_num, rfl, hD.out, hB2.out, by omega, hX.out, hq⟩
        case measure => simp [intOf]; omega
      · have hq : Hid (Gf.mulK j N (Gf.dbl A) (B / 2) = p) := Lib.hid (by rw [← hp.out, Gf.mulK, if_neg h1])
        clear hp
        have t1 : ((B : Int) % 2 == 1) = false := by simp; omega
        go_wp2_with fail
        refine (rdouble_any A hA _).mono ?_
        rintro e w1 ⟨rfl, rfl⟩
        go_wp2
        go_round
        case rel => exact ⟨j, Gf.dbl A, B / 2, N, rfl, by go_num, rfl, hD.out, hB2.out, by omega, hN, hq⟩
        case measure => simp [intOf]; omega
    · obtain rfl : B = 0 := by omega
      rw [mulK_none] at hp
      go_wp2
      go_ret
      exact ⟨ret_int (by rw [hp.out]), rfl⟩

theorem radd_any (a b : Int) (w : World) : Calls Try.prog 10 #[.int .i64 a, .int .i64 b] w fun e w' => e = two (addA a b) ∧ w' = w := by
  cases ha : dig a with
  | false =>
    have hr : addA a b = (0, false) := by simp [addA, ha]
    rw [hr]
    go_enter Try.func10, Try.ntmps10
    go_wp2_with fail
    refine (digit_any _ _).mono ?_
    rintro e w1 ⟨rfl, rfl⟩
    go_wp2
    go_ret2
    exact ⟨rfl, rfl⟩
  | true =>
    cases hb : dig b with
    | false =>
      have hr : addA a b = (0, false) := by simp [addA, hb]
      rw [hr]
      go_enter Try.func10, Try.ntmps10
      go_wp2_with fail
      refine (digit_any _ _).mono ?_
      rintro e w1 ⟨rfl, rfl⟩
      go_wp2_with fail
      refine (digit_any _ _).mono ?_
      rintro e w1 ⟨rfl, rfl⟩
      go_wp2
      go_ret2
      exact ⟨rfl, rfl⟩
    | true =>
      have hr : addA a b = (a.toNat ^^^ b.toNat, true) := by simp [addA, ha, hb]
      rw [hr]
      obtain ⟨m, rfl, hm⟩ := dig_nat ha
      obtain ⟨n, rfl, hn⟩ := dig_nat hb
      go_enter Try.func10, Try.ntmps10
      go_wp2_with fail
      refine (digit_any _ _).mono ?_
      rintro e w1 ⟨rfl, rfl⟩
      go_wp2_with fail
      refine (digit_any _ _).mono ?_
      rintro e w1 ⟨rfl, rfl⟩
      go_wp2_with fail
      refine (rsum_any m n (by omega) (by omega) _).mono ?_
      rintro e w1 ⟨rfl, rfl⟩
      go_wp2
      go_ret2
      exact ⟨two_of rfl rfl, rfl⟩
theorem rmul_any (a b : Int) (w : World) : Calls Try.prog 12 #[.int .i64 a, .int .i64 b] w fun e w' => e = two (mulA a b) ∧ w' = w := by
  cases ha : dig a with
  | false =>
    have hr : mulA a b = (0, false) := by simp [mulA, ha]
    rw [hr]
    go_enter Try.func12, Try.ntmps12
    go_wp2_with fail
    refine (digit_any _ _).mono ?_
    rintro e w1 ⟨rfl, rfl⟩
    go_wp2
    go_ret2
    exact ⟨rfl, rfl⟩
  | true =>
    cases hb : dig b with
    | false =>
      have hr : mulA a b = (0, false) := by simp [mulA, hb]
      rw [hr]
      go_enter Try.func12, Try.ntmps12
      go_wp2_with fail
      refine (digit_any _ _).mono ?_
      rintro e w1 ⟨rfl, rfl⟩
      go_wp2_with fail
      refine (digit_any _ _).mono ?_
      rintro e w1 ⟨rfl, rfl⟩
      go_wp2
      go_ret2
      exact ⟨rfl, rfl⟩
    | true =>
      have hr : mulA a b = (Gf.mulG a.toNat b.toNat, true) := by simp [mulA, ha, hb]
      rw [hr]
      obtain ⟨m, rfl, hm⟩ := dig_nat ha
      obtain ⟨n, rfl, hn⟩ := dig_nat hb
      go_enter Try.func12, Try.ntmps12
      go_wp2_with fail
      refine (digit_any _ _).mono ?_
      rintro e w1 ⟨rfl, rfl⟩
      go_wp2_with fail
      refine (digit_any _ _).mono ?_
      rintro e w1 ⟨rfl, rfl⟩
      go_wp2_with fail
      refine (times_any m n hm hn _).mono ?_
      rintro e w1 ⟨rfl, rfl⟩
      go_wp2
      go_ret2
      exact ⟨two_of rfl rfl, rfl⟩
theorem rinv_any (a : Int) (w : World) : Calls Try.prog 14 #[.int .i64 a] w fun e w' => e = two (invA a) ∧ w' = w := by
  cases ha : dig a with
  | false =>
    have hr : invA a = (0, false) := by simp [invA, ha]
    rw [hr]
    go_enter Try.func14, Try.ntmps14
    go_wp2_with fail
    refine (digit_any _ _).mono ?_
    rintro e w1 ⟨rfl, rfl⟩
    go_wp2
    go_ret2
    exact ⟨rfl, rfl⟩
  | true =>
    by_cases h0 : a = 0
    · have hr : invA a = (0, false) := by simp [invA, h0]
      rw [hr]
      subst h0
      go_enter Try.func14, Try.ntmps14
      go_wp2_with fail
      refine (digit_any _ _).mono ?_
      rintro e w1 ⟨rfl, rfl⟩
      go_wp2
      go_ret2
      exact ⟨rfl, rfl⟩
    · have hr : invA a = (Gf.invG a.toNat, true) := by simp [invA, ha, h0]
      rw [hr]
      obtain ⟨m, rfl, hm⟩ := dig_nat ha
      have hm0 : m ≠ 0 := by omega
      have hu : Hid (∀ x, x < 256 → Gf.mulG m x = 1 → x = Gf.invG m) := Lib.hid (fun x hx h => Gf.inv_unique hm hm0 hx h)
      have hi : Hid (Gf.mulG m (Gf.invG m) = 1) := Lib.hid (Gf.mul_inv hm hm0)
      have hil := Gf.invG_lt m
      have hi0 : 1 ≤ Gf.invG m := by have := Gf.invG_ne m; omega
      show Calls _ _ _ _ fun e w' => e = two (Gf.invG m, true) ∧ w' = w
      generalize Gf.invG m = v at *
      have t0 : ((m : Int) == 0) = false := by simp; omega
      go_enter Try.func14, Try.ntmps14
      go_wp2_with fail
      refine (digit_any _ _).mono ?_
      rintro e w1 ⟨rfl, rfl⟩
      go_wp2
      go_loop [4] (fun vn => ∃ n : Nat, vn = .int .i64 n ∧ n ≤ v) (fun n => v - (intOf n).toNat)
      case atStart => exact ⟨1, rfl, hi0⟩
      case round =>
        obtain ⟨n, rfl, hn⟩ := hrel
        obtain ⟨x, hx⟩ : ∃ x, Gf.mulG m n = x := ⟨_, rfl⟩
        by_cases h1 : x = 1
        · obtain rfl := hu.out n (by omega) (by omega)
          have t1 : ((x : Int) != 1) = false := by simp; omega
          have HT := Lib.hid (times_any m n hm (by omega))
          rw [hx] at HT
          have HX := Lib.hid hx
          clear hx
          go_wp2_with fail
          refine (HT.out _).mono ?_
          rintro e w1 ⟨rfl, rfl⟩
          go_wp2
          go_ret2
          exact ⟨two_of rfl rfl, rfl⟩
        · have hnv : n ≠ v := fun he => h1 (by rw [← hx, he, hi.out])
          have t1 : ((x : Int) != 1) = true := by simp; omega
          have HT := Lib.hid (times_any m n hm (by omega))
          rw [hx] at HT
          have HX := Lib.hid hx
          clear hx
          go_wp2_with fail
          refine (HT.out _).mono ?_
          rintro e w1 ⟨rfl, rfl⟩
          go_wp2
          go_round
          case rel => exact ⟨n + 1, by go_num, by omega⟩
          case measure => simp [intOf]; omega
theorem rdiv_any (a b : Int) (w : World) : Calls Try.prog 16 #[.int .i64 a, .int .i64 b] w fun e w' => e = two (divA a b) ∧ w' = w := by
  by_cases hb : dig b = true ∧ b ≠ 0
  · have hi : invA b = (Gf.invG b.toNat, true) := by simp [invA, hb]
    cases ha : dig a with
    | false =>
      have hd : divA a b = (0, false) := by simp [divA, ha]
      rw [hd]
      go_enter Try.func16, Try.ntmps16
      go_wp2_with fail
      refine (rinv_any b _).mono ?_
      rw [hi]
      rintro e w1 ⟨rfl, rfl⟩
      unfold two
      go_wp2_with fail
      refine (digit_any _ _).mono ?_
      rintro e w1 ⟨rfl, rfl⟩
      go_wp2
      go_ret2
      exact ⟨rfl, rfl⟩
    | true =>
      have hd : divA a b = (Gf.mulG a.toNat (Gf.invG b.toNat), true) := by simp [divA, ha, hb]
      rw [hd]
      obtain ⟨m, rfl, hm⟩ := dig_nat ha
      go_enter Try.func16, Try.ntmps16
      go_wp2_with fail
      refine (rinv_any b _).mono ?_
      rw [hi]
      rintro e w1 ⟨rfl, rfl⟩
      unfold two
      go_wp2_with fail
      refine (digit_any _ _).mono ?_
      rintro e w1 ⟨rfl, rfl⟩
      go_wp2_with fail
      refine (times_any m _ hm (Gf.invG_lt _) _).mono ?_
      rintro e w1 ⟨rfl, rfl⟩
      go_wp2
      go_ret2
      exact ⟨rfl, rfl⟩
  · have hi : invA b = (0, false) := by simp [invA]; simpa using hb
    have hd : divA a b = (0, false) := by simp [divA]; intro _; simpa using hb
    rw [hd]
    go_enter Try.func16, Try.ntmps16
    go_wp2_with fail
    refine (rinv_any b _).mono ?_
    rw [hi]
    rintro e w1 ⟨rfl, rfl⟩
    unfold two
    go_wp2
    go_ret2
    exact ⟨rfl, rfl⟩
theorem rpow_any (a n : Int) (w : World) : Calls Try.prog 18 #[.int .i64 a, .int .i64 n] w fun e w' => e = two (powA a n) ∧ w' = w := by
  cases ha : dig a with
  | false =>
    have hr : powA a n = (0, false) := by simp [powA, ha]
    rw [hr]
    go_enter Try.func18, Try.ntmps18
    go_wp2_with fail
    refine (digit_any _ _).mono ?_
    rintro e w1 ⟨rfl, rfl⟩
    go_wp2
    go_ret2
    exact ⟨rfl, rfl⟩
  | true =>
    by_cases h1 : n < 0
    · have hr : powA a n = (0, false) := by simp [powA]; omega
      rw [hr]
      go_enter Try.func18, Try.ntmps18
      go_wp2_with fail
      refine (digit_any _ _).mono ?_
      rintro e w1 ⟨rfl, rfl⟩
      go_wp2
      go_ret2
      exact ⟨rfl, rfl⟩
    · by_cases h2 : 1000000 < n
      · have hr : powA a n = (0, false) := by simp [powA]; omega
        rw [hr]
        go_enter Try.func18, Try.ntmps18
        go_wp2_with fail
        refine (digit_any _ _).mono ?_
        rintro e w1 ⟨rfl, rfl⟩
        go_wp2
        go_ret2
        exact ⟨rfl, rfl⟩
      · have hr : powA a n = (Gf.powG a.toNat n.toNat, true) := by simp [powA, ha]; omega
        rw [hr]
        obtain ⟨m, rfl, hm⟩ := dig_nat ha
        obtain ⟨k, rfl⟩ : ∃ k : Nat, n = k := ⟨n.toNat, by omega⟩
        clear hr
        show Calls _ _ _ _ fun e w' => e = two (Gf.powG m k, true) ∧ w' = w
        obtain ⟨z, hz⟩ : ∃ z, k % 255 = z := ⟨_, rfl⟩
        have e1 : (k : Int) % 255 = (z : Nat) := by omega
        by_cases h3 : m = 0
        · subst h3
          by_cases h4 : k = 0
          · subst h4
            go_enter Try.func18, Try.ntmps18
            go_wp2_with fail
            refine (digit_any _ _).mono ?_
            rintro e w1 ⟨rfl, rfl⟩
            go_wp2
            go_loop [6, 7] (fun vo vi => vo = .int .i64 (1 : Nat) ∧ vi = .int .i64 (0 : Nat)) (fun _ _ => 0)
            case atStart => exact ⟨rfl, rfl⟩
            case round =>
              obtain ⟨rfl, rfl⟩ := hrel
              go_wp2
              go_ret2
              exact ⟨two_of rfl rfl, rfl⟩
          · rw [Gf.powG_zero k (by omega)]
            go_enter Try.func18, Try.ntmps18
            go_wp2_with fail
            refine (digit_any _ _).mono ?_
            rintro e w1 ⟨rfl, rfl⟩
            go_wp2
            go_ret2
            exact ⟨two_of rfl rfl, rfl⟩
        · have hp : Hid (Gf.powG m z = Gf.powG m k) := Lib.hid (by rw [← hz]; exact Gf.powG_mod hm h3 k)
          generalize Gf.powG m k = p at *
          have t1 : ((m : Int) == 0) = false := by simp; omega
          have HZ := Lib.hid hz
          clear hz
          go_enter Try.func18, Try.ntmps18
          go_wp2_with fail
          refine (digit_any _ _).mono ?_
          rintro e w1 ⟨rfl, rfl⟩
          go_wp2
          go_loop [6, 7] (fun vo vi => ∃ i : Nat, vi = .int .i64 i ∧ vo = .int .i64 (Gf.powG m i : Nat) ∧ i ≤ z) (fun _ i => z - (intOf i).toNat)
          case atStart => exact ⟨0, rfl, rfl, by omega⟩
          case round =>
            obtain ⟨i, rfl, rfl, hi⟩ := hrel
            by_cases hl : i < z
            · have hpl := Gf.powG_lt hm i
              have hq : Hid (Gf.mulG (Gf.powG m i) m = Gf.powG m (i + 1)) := Lib.hid rfl
              generalize Gf.powG m i = x at *
              go_wp2_with fail
              refine (times_any x m hpl hm _).mono ?_
              rintro e w1 ⟨rfl, rfl⟩
              rw [hq.out]
              generalize hy : Gf.powG m (i + 1) = y at *
              have HY := Lib.hid hy
              clear hy
              go_wp2
              go_round
              case rel => exact ⟨i + 1, by go_num, by rw [HY.out], by omega⟩
              case measure => simp [intOf]; omega
            · obtain rfl : i = z := by omega
              rw [hp.out]
              go_wp2
              go_ret2
              exact ⟨two_of rfl rfl, rfl⟩
end Go.Proofs.Ytdhgmjfpjbiplaa
