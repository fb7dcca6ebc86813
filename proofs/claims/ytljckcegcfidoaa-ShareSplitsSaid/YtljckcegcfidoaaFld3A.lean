/-
  keyholeref07: the contracts of Sum, double, Times, Inv, Div.
-/
import Derived.Test.YtljckcegcfidoaaFld2
import Derived.Test.YtljckcegcfidoaaDgt
import Derived.Test.YtljckcegcfidoaaUnl
namespace Go.Proofs.Ytljckcegcfidoaa
open Go.RowKit Go.Kx
set_option maxRecDepth 20000

theorem rsum_any (a b : Nat) (ha : a < 4294967296) (hb : b < 4294967296) (w : World) : Calls Try.prog 39 #[.int .i64 a, .int .i64 b] w fun e w' => e = .returned (.int .i64 (a ^^^ b : Nat)) ∧ w' = w := by
  go_enter Try.func39, Try.ntmps39
  go_wp2_with fail
  refine (unlike_any a b ha hb _).mono ?_
  rintro e w1 ⟨rfl, rfl⟩
  go_wp2
  go_ret
  exact ⟨rfl, rfl⟩
theorem rdouble_any (a : Nat) (ha : a < 256) (w : World) : Calls Try.prog 64 #[.int .i64 a] w fun e w' => e = .returned (.int .i64 (Gf.dbl a : Nat)) ∧ w' = w := by
  go_enter Try.func64, Try.ntmps64
  by_cases h : 2 * (a : Int) < 256
  · go_wp2
    go_ret
    exact ⟨ret_int (by rw [Gf.dbl, if_pos (by omega)]; omega), rfl⟩
  · go_wp2_with fail
    rw [show 2 * (a : Int) - 256 = ((2 * a - 256 : Nat) : Int) by omega, show (27 : Int) = ((27 : Nat) : Int) from rfl]
    refine (rsum_any _ _ (by omega) (by omega) _).mono ?_
    rintro e w1 ⟨rfl, rfl⟩
    go_wp2
    go_ret
    exact ⟨ret_int (by rw [Gf.dbl, if_neg (by omega)]), rfl⟩
theorem mulK_none : ∀ (k n a : Nat), Gf.mulK k n a 0 = n
  | 0, _, _ => rfl
  | k + 1, n, a => by rw [Gf.mulK, if_neg (by omega), Nat.zero_div]; exact mulK_none k n _
theorem rtimes_any (a b : Nat) (ha : a < 256) (hb : b < 256) (w : World) : Calls Try.prog 40 #[.int .i64 a, .int .i64 b] w fun e w' => e = .returned (.int .i64 (Gf.mulG a b : Nat)) ∧ w' = w := by
  have hm0 : Hid (Gf.mulK 8 0 a b = Gf.mulG a b) := Lib.hid rfl
  generalize Gf.mulG a b = p at *
  go_enter Try.func40, Try.ntmps40
  go_wp2
  go_loop [0, 1, 5] (fun va vb vn => ∃ k A B N : Nat, va = .int .i64 A ∧ vb = .int .i64 B ∧ vn = .int .i64 N ∧ A < 256 ∧ B < 2 ^ k ∧ k ≤ 8 ∧ N < 256 ∧ Hid (Gf.mulK k N A B = p)) (fun _ b _ => (intOf b).toNat)
  case atStart => exact ⟨8, a, b, 0, rfl, rfl, rfl, ha, hb, by omega, by omega, hm0⟩
  case round =>
    clear hm0 hb
    obtain ⟨k, A, B, N, rfl, rfl, rfl, hA, hB, hk, hN, hp⟩ := hrel
    by_cases h0 : 0 < B
    · obtain ⟨j, rfl⟩ : ∃ j, k = j + 1 := by
        cases k with
        | zero => simp at hB; omega
        | succ j => exact ⟨j, rfl⟩
      have hB2 : Hid (B / 2 < 2 ^ j) := Lib.hid (by rw [Nat.pow_succ] at hB; omega)
      have hBl : B < 256 := Nat.lt_of_lt_of_le hB (Nat.pow_le_pow_right (n := 2) (by omega) hk)
      have hD := Lib.hid (Gf.dbl_lt hA)
      have hX := Lib.hid (Gf.xor_lt hN hA)
      clear hB
      by_cases h1 : B % 2 = 1
      · have hq : Hid (Gf.mulK j (N ^^^ A) (Gf.dbl A) (B / 2) = p) := Lib.hid (by rw [← hp.out, Gf.mulK, if_pos h1])
        clear hp
        have t1 : ((B : Int) % 2 == 1) = true := by simp; omega
        go_wp2_with fail
        refine (rsum_any N A (by omega) (by omega) _).mono ?_
        rintro e w1 ⟨rfl, rfl⟩
        go_wp2_with fail
        refine (rdouble_any A hA _).mono ?_
        rintro e w1 ⟨rfl, rfl⟩
        go_wp2
        go_round
        case rel => exact ⟨j, Gf.dbl A, B / 2, N ^^^ A, rfl, by go_num, rfl, hD.out, hB2.out, by omega, hX.out, hq⟩
        case measure => simp [intOf]; omega
      · have hq : Hid (Gf.mulK j N (Gf.dbl A) (B / 2) = p) := Lib.hid (by rw [← hp.out, Gf.mulK, if_neg h1])
        clear hp
        have t1 : ((B : Int) % 2 == 1) = false := by simp; omega
        go_wp2_with fail
        refine (rdouble_any A hA _).mono ?_
        rintro e w1 ⟨rfl, rfl⟩
        go_wp2
        go_round
        case rel => exact ⟨j, Gf.dbl A, B / 2, N, rfl, by go_num, rfl, hD.out, hB2.out, by omega, hN, hq⟩
        case measure => simp [intOf]; omega
    · obtain rfl : B = 0 := by omega
      rw [mulK_none] at hp
      go_wp2
      go_ret
      exact ⟨ret_int (by rw [hp.out]), rfl⟩

theorem rinv_any (a : Int) (w : World) : Calls Try.prog 70 #[.int .i64 a] w fun e w' => e = two (invA a) ∧ w' = w := by
  cases ha : dig a with
  | false =>
    have hr : invA a = (0, false) := by simp [invA, ha]
    rw [hr]
    go_enter Try.func70, Try.ntmps70
    go_wp2_with fail
    refine (rdigit_any _ _).mono ?_
    rintro e w1 ⟨rfl, rfl⟩
    go_wp2
    go_ret2
    exact ⟨rfl, rfl⟩
  | true =>
    by_cases h0 : a = 0
    · have hr : invA a = (0, false) := by simp [invA, h0]
      rw [hr]
      subst h0
      go_enter Try.func70, Try.ntmps70
      go_wp2_with fail
      refine (rdigit_any _ _).mono ?_
      rintro e w1 ⟨rfl, rfl⟩
      go_wp2
      go_ret2
      exact ⟨rfl, rfl⟩
    · have hr : invA a = (Gf.invG a.toNat, true) := by simp [invA, ha, h0]
      rw [hr]
      obtain ⟨m, rfl, hm⟩ := dig_nat ha
      have hm0 : m ≠ 0 := by omega
      have hu : Hid (∀ x, x < 256 → Gf.mulG m x = 1 → x = Gf.invG m) := Lib.hid (fun x hx h => Gf.inv_unique hm hm0 hx h)
      have hi : Hid (Gf.mulG m (Gf.invG m) = 1) := Lib.hid (Gf.mul_inv hm hm0)
      have hil := Gf.invG_lt m
      have hi0 : 1 ≤ Gf.invG m := by have := Gf.invG_ne m; omega
      show Calls _ _ _ _ fun e w' => e = two (Gf.invG m, true) ∧ w' = w
      generalize Gf.invG m = v at *
      have t0 : ((m : Int) == 0) = false := by simp; omega
      go_enter Try.func70, Try.ntmps70
      go_wp2_with fail
      refine (rdigit_any _ _).mono ?_
      rintro e w1 ⟨rfl, rfl⟩
      go_wp2
      go_loop [4] (fun vn => ∃ n : Nat, vn = .int .i64 n ∧ n ≤ v) (fun n => v - (intOf n).toNat)
      case atStart => exact ⟨1, rfl, hi0⟩
      case round =>
        obtain ⟨n, rfl, hn⟩ := hrel
        obtain ⟨x, hx⟩ : ∃ x, Gf.mulG m n = x := ⟨_, rfl⟩
        by_cases h1 : x = 1
        · obtain rfl := hu.out n (by omega) (by omega)
          have t1 : ((x : Int) != 1) = false := by simp; omega
          have HT := Lib.hid (rtimes_any m n hm (by omega))
          rw [hx] at HT
          have HX := Lib.hid hx
          clear hx
          go_wp2_with fail
          refine (HT.out _).mono ?_
          rintro e w1 ⟨rfl, rfl⟩
          go_wp2
          go_ret2
          exact ⟨two_of rfl rfl, rfl⟩
        · have hnv : n ≠ v := fun he => h1 (by rw [← hx, he, hi.out])
          have t1 : ((x : Int) != 1) = true := by simp; omega
          have HT := Lib.hid (rtimes_any m n hm (by omega))
          rw [hx] at HT
          have HX := Lib.hid hx
          clear hx
          go_wp2_with fail
          refine (HT.out _).mono ?_
          rintro e w1 ⟨rfl, rfl⟩
          go_wp2
          go_round
          case rel => exact ⟨n + 1, by go_num, by omega⟩
          case measure => simp [intOf]; omega
theorem rdiv_any (a b : Int) (w : World) : Calls Try.prog 63 #[.int .i64 a, .int .i64 b] w fun e w' => e = two (divA a b) ∧ w' = w := by
  by_cases hb : dig b = true ∧ b ≠ 0
  · have hi : invA b = (Gf.invG b.toNat, true) := by simp [invA, hb]
    cases ha : dig a with
    | false =>
      have hd : divA a b = (0, false) := by simp [divA, ha]
      rw [hd]
      go_enter Try.func63, Try.ntmps63
      go_wp2_with fail
      refine (rinv_any b _).mono ?_
      rw [hi]
      rintro e w1 ⟨rfl, rfl⟩
      unfold two
      go_wp2_with fail
      refine (rdigit_any _ _).mono ?_
      rintro e w1 ⟨rfl, rfl⟩
      go_wp2
      go_ret2
      exact ⟨rfl, rfl⟩
    | true =>
      have hd : divA a b = (Gf.mulG a.toNat (Gf.invG b.toNat), true) := by simp [divA, ha, hb]
      rw [hd]
      obtain ⟨m, rfl, hm⟩ := dig_nat ha
      go_enter Try.func63, Try.ntmps63
      go_wp2_with fail
      refine (rinv_any b _).mono ?_
      rw [hi]
      rintro e w1 ⟨rfl, rfl⟩
      unfold two
      go_wp2_with fail
      refine (rdigit_any _ _).mono ?_
      rintro e w1 ⟨rfl, rfl⟩
      go_wp2_with fail
      refine (rtimes_any m _ hm (Gf.invG_lt _) _).mono ?_
      rintro e w1 ⟨rfl, rfl⟩
      go_wp2
      go_ret2
      exact ⟨rfl, rfl⟩
  · have hi : invA b = (0, false) := by simp [invA]; simpa using hb
    have hd : divA a b = (0, false) := by simp [divA]; intro _; simpa using hb
    rw [hd]
    go_enter Try.func63, Try.ntmps63
    go_wp2_with fail
    refine (rinv_any b _).mono ?_
    rw [hi]
    rintro e w1 ⟨rfl, rfl⟩
    unfold two
    go_wp2
    go_ret2
    exact ⟨rfl, rfl⟩
end Go.Proofs.Ytljckcegcfidoaa
