/-
  tag as mathematics: numbers of five parts, rows of digits, steps.
-/
import Derived.Test.YtapbjmeilhcmaaaDoorChecked
import Derived.Test.YtapbjmeilhcmaaaDoorRowa
namespace Go.Proofs.YtapbjmeilhcmaaaDoor
open Go.RowKit Go.Kx
set_option maxRecDepth 20000

/-! ### numbers of five parts -/
@[ext] structure Num where
  (a b c d e : Nat)
def Num.at (n : Num) : Nat → Nat
  | 0 => n.a
  | 1 => n.b
  | 2 => n.c
  | 3 => n.d
  | _ => n.e
def ofF (f : Nat → Nat) : Num := ⟨f 0, f 1, f 2, f 3, f 4⟩
theorem ofF_at (n : Num) : ofF n.at = n := rfl
theorem at_ofF (f : Nat → Nat) (j : Nat) (h : j < 5) : (ofF f).at j = f j := by
  have : j = 0 ∨ j = 1 ∨ j = 2 ∨ j = 3 ∨ j = 4 := by omega
  rcases this with rfl | rfl | rfl | rfl | rfl <;> rfl
def valN (n : Num) : Nat := n.a + 67108864 * (n.b + 67108864 * (n.c + 67108864 * (n.d + 67108864 * n.e)))
def canon (v : Nat) : Num := ⟨v % 67108864, v / 67108864 % 67108864, v / 67108864 / 67108864 % 67108864, v / 67108864 / 67108864 / 67108864 % 67108864, v / 67108864 / 67108864 / 67108864 / 67108864⟩
theorem valN_canon (v : Nat) : valN (canon v) = v := by simp only [valN, canon]; omega
theorem canon_of (n : Num) (ha : n.a < 67108864) (hb : n.b < 67108864) (hc : n.c < 67108864) (hd : n.d < 67108864) : canon (valN n) = n := by
  obtain ⟨a, b, c, d, e⟩ := n
  simp only [valN, canon] at *
  have h1 : (a + 67108864 * (b + 67108864 * (c + 67108864 * (d + 67108864 * e)))) / 67108864 = b + 67108864 * (c + 67108864 * (d + 67108864 * e)) := by omega
  have h2 : (b + 67108864 * (c + 67108864 * (d + 67108864 * e))) / 67108864 = c + 67108864 * (d + 67108864 * e) := by omega
  have h3 : (c + 67108864 * (d + 67108864 * e)) / 67108864 = d + 67108864 * e := by omega
  have h4 : (d + 67108864 * e) / 67108864 = e := by omega
  rw [h1, h2, h3, h4]
  simp only [Num.mk.injEq]
  refine ⟨by omega, by omega, by omega, by omega, trivial⟩
def okF (f : Nat → Nat) : Prop := ∀ j, f j < 18446744073709551616
theorem ok_at {n : Num} (ha : n.a < 18446744073709551616) (hb : n.b < 18446744073709551616) (hc : n.c < 18446744073709551616) (hd : n.d < 18446744073709551616) (he : n.e < 18446744073709551616) : okF n.at := by
  intro j
  match j with
  | 0 => exact ha
  | 1 => exact hb
  | 2 => exact hc
  | 3 => exact hd
  | _ + 4 => exact he
theorem ok_canon (v : Nat) (h : v / 67108864 / 67108864 / 67108864 / 67108864 < 18446744073709551616) : okF (canon v).at :=
  ok_at (by simp only [canon]; omega) (by simp only [canon]; omega) (by simp only [canon]; omega) (by simp only [canon]; omega) h

/-! ### carried -/
def carK (f : Nat → Nat) : Nat → Nat → Nat
  | 0 => f
  | k + 1 => fun j => if j = k then carK f k k % 67108864 else if j = k + 1 then (carK f k (k + 1) + carK f k k / 67108864) % 18446744073709551616 else carK f k j
theorem carK_ok {f : Nat → Nat} (h : okF f) (k : Nat) : okF (carK f k) := by
  induction k with
  | zero => exact h
  | succ k ih =>
    intro j
    have h1 := ih k
    have h2 := ih j
    simp only [carK]
    split
    · omega
    · split <;> omega
def carN (n : Num) : Num := ofF (carK n.at 4)
theorem carN_eq (n : Num) : carN n =
    (let b := (n.b + n.a / 67108864) % 18446744073709551616
     let c := (n.c + b / 67108864) % 18446744073709551616
     let d := (n.d + c / 67108864) % 18446744073709551616
     let e := (n.e + d / 67108864) % 18446744073709551616
     ⟨n.a % 67108864, b % 67108864, c % 67108864, d % 67108864, e⟩) := rfl
theorem carN_canon (n : Num) : carN n = canon (valN (carN n)) := by
  rw [canon_of]
  all_goals (rw [carN_eq]; exact Nat.mod_lt _ (by omega))
theorem carN_e (n : Num) : (carN n).e < 18446744073709551616 := by rw [carN_eq]; exact Nat.mod_lt _ (by omega)
theorem carN_val (n : Num) (ha : n.a < 9223372036854775808) (hb : n.b < 9223372036854775808) (hc : n.c < 9223372036854775808) (hd : n.d < 9223372036854775808) (he : n.e < 9223372036854775808) : valN (carN n) = valN n := by
  obtain ⟨a, b, c, d, e⟩ := n
  rw [carN_eq]
  simp only at *
  have h1 : (b + a / 67108864) % 18446744073709551616 = b + a / 67108864 := Nat.mod_eq_of_lt (by omega)
  rw [h1]
  have h2 : (c + (b + a / 67108864) / 67108864) % 18446744073709551616 = c + (b + a / 67108864) / 67108864 := Nat.mod_eq_of_lt (by omega)
  rw [h2]
  have h3 : (d + (c + (b + a / 67108864) / 67108864) / 67108864) % 18446744073709551616 = d + (c + (b + a / 67108864) / 67108864) / 67108864 := Nat.mod_eq_of_lt (by omega)
  rw [h3]
  have h4 : (e + (d + (c + (b + a / 67108864) / 67108864) / 67108864) / 67108864) % 18446744073709551616 = e + (d + (c + (b + a / 67108864) / 67108864) / 67108864) / 67108864 := Nat.mod_eq_of_lt (by omega)
  rw [h4]
  simp only [valN]
  omega
theorem carN_is (n : Num) (ha : n.a < 9223372036854775808) (hb : n.b < 9223372036854775808) (hc : n.c < 9223372036854775808) (hd : n.d < 9223372036854775808) (he : n.e < 9223372036854775808) : carN n = canon (valN n) := by
  rw [carN_canon, carN_val n ha hb hc hd he]

/-! ### what is left by P -/
def bigP : Nat := 1361129467683753853853498429727072845819
/-- One round of the loop: the last part's top, five times, to the first one. -/
def foldV (u : Nat) : Nat := valN (carN ⟨((canon u).a + 5 * ((canon u).e / 67108864)) % 18446744073709551616, (canon u).b, (canon u).c, (canon u).d, (canon u).e % 67108864⟩)
theorem foldV_eq (u : Nat) (h : (canon u).e < 18446744073709551616) : foldV u + (canon u).e / 67108864 * bigP = u := by
  rw [foldV]
  have hu : valN (canon u) = u := valN_canon u
  have ha : (canon u).a < 67108864 := Nat.mod_lt _ (by omega)
  have hb : (canon u).b < 67108864 := Nat.mod_lt _ (by omega)
  have hc : (canon u).c < 67108864 := Nat.mod_lt _ (by omega)
  have hd : (canon u).d < 67108864 := Nat.mod_lt _ (by omega)
  generalize canon u = n at *
  obtain ⟨a, b, c, d, e⟩ := n
  simp only at *
  have h1 : (a + 5 * (e / 67108864)) % 18446744073709551616 = a + 5 * (e / 67108864) := Nat.mod_eq_of_lt (by omega)
  rw [h1, carN_val _ (by simp only; omega) (by simp only; omega) (by simp only; omega) (by simp only; omega) (by simp only; omega)]
  simp only [valN, bigP] at *
  omega
theorem foldV_lt (u : Nat) (h : (canon u).e < 18446744073709551616) (h2 : 67108863 < (canon u).e) : foldV u < u := by
  have := foldV_eq u h
  have h3 : 1 ≤ (canon u).e / 67108864 := by omega
  have h4 : 1 * bigP ≤ (canon u).e / 67108864 * bigP := Nat.mul_le_mul_right _ h3
  have h5 : 0 < bigP := by decide
  omega
theorem foldV_mod (u : Nat) (h : (canon u).e < 18446744073709551616) : foldV u % bigP = u % bigP := by
  have h2 : (foldV u + (canon u).e / 67108864 * bigP) % bigP = foldV u % bigP := Nat.add_mul_mod_self_right _ _ _
  rw [← h2, foldV_eq u h]
theorem canon_e_le {u v : Nat} (h : u ≤ v) : (canon u).e ≤ (canon v).e := by simp only [canon]; omega
theorem canon_small {u : Nat} (h : ¬ 67108863 < (canon u).e) : u < 1361129467683753853853498429727072845824 := by simp only [canon] at h; omega
/-- Five more, carried. -/
def moreN (u : Nat) : Num := carN ⟨((canon u).a + 5) % 18446744073709551616, (canon u).b, (canon u).c, (canon u).d, (canon u).e⟩
theorem moreN_eq {u : Nat} (h : ¬ 67108863 < (canon u).e) : moreN u = canon (u + 5) := by
  have hu : valN (canon u) = u := valN_canon u
  have ha : (canon u).a < 67108864 := Nat.mod_lt _ (by omega)
  have hb : (canon u).b < 67108864 := Nat.mod_lt _ (by omega)
  have hc : (canon u).c < 67108864 := Nat.mod_lt _ (by omega)
  have hd : (canon u).d < 67108864 := Nat.mod_lt _ (by omega)
  rw [moreN, carN_is _ (by simp only; omega) (by simp only; omega) (by simp only; omega) (by simp only; omega) (by simp only; omega)]
  congr 1
  generalize canon u = n at *
  obtain ⟨a, b, c, d, e⟩ := n
  simp only [valN] at *
  omega
theorem left_more {u : Nat} (h : ¬ 67108863 < (canon u).e) (h2 : 67108863 < (moreN u).e) : (⟨(moreN u).a, (moreN u).b, (moreN u).c, (moreN u).d, (moreN u).e % 67108864⟩ : Num) = canon (u % bigP) := by
  rw [moreN_eq h] at h2 ⊢
  have hs := canon_small h
  have hm : u % bigP = u - bigP := by
    have h3 : bigP ≤ u := by simp only [canon, bigP] at *; omega
    rw [Nat.mod_eq_sub_mod h3, Nat.mod_eq_of_lt (by simp only [bigP]; omega)]
  rw [hm]
  have h3 : u + 5 = (u - bigP) + 1361129467683753853853498429727072845824 := by simp only [canon, bigP] at *; omega
  rw [h3]
  generalize u - bigP = x at *
  have hx : x < 1361129467683753853853498429727072845824 := by omega
  simp only [canon, Num.mk.injEq]
  refine ⟨by omega, by omega, by omega, by omega, by omega⟩
theorem left_same {u : Nat} (h : ¬ 67108863 < (canon u).e) (h2 : ¬ 67108863 < (moreN u).e) : canon u = canon (u % bigP) := by
  rw [moreN_eq h] at h2
  rw [Nat.mod_eq_of_lt]
  simp only [canon, bigP] at *
  omega
def leftV (n : Num) : Nat := valN (carN n) % bigP
theorem leftV_lt (n : Num) : leftV n < bigP := Nat.mod_lt _ (by decide)

/-! ### digits -/
def digitV (v i : Nat) : Nat := v / 256 ^ i % 256
theorem digitV_lt (v i : Nat) : digitV v i < 256 := Nat.mod_lt _ (by omega)
def digK (g : Nat → Nat) : Nat → Nat
  | 0 => 0
  | k + 1 => digK g k + g k * 256 ^ k
theorem digK_lt {g : Nat → Nat} (hg : ∀ j, g j < 256) (k : Nat) : digK g k < 256 ^ k := by
  induction k with
  | zero => simp [digK]
  | succ k ih =>
    have h1 := hg k
    have h2 : g k * 256 ^ k ≤ 255 * 256 ^ k := Nat.mul_le_mul_right _ (by omega)
    rw [digK, Nat.pow_succ]
    omega
theorem digK_of (v k : Nat) : digK (digitV v) k = v % 256 ^ k := by
  induction k with
  | zero => simp [digK, Nat.mod_one]
  | succ k ih => rw [digK, ih, Nat.pow_succ, Nat.mod_mul, digitV, Nat.mul_comm (256 ^ k)]
theorem digitV_digK {g : Nat → Nat} (hg : ∀ j, g j < 256) (n i : Nat) (h : i < n) : digitV (digK g n) i = g i := by
  induction n with
  | zero => omega
  | succ n ih =>
    by_cases hi : i < n
    · rw [← ih hi]
      unfold digitV
      rw [digK]
      obtain ⟨m, rfl⟩ : ∃ m, n = i + 1 + m := ⟨n - (i + 1), by omega⟩
      have e : g (i + 1 + m) * 256 ^ (i + 1 + m) = 256 ^ i * (256 * (g (i + 1 + m) * 256 ^ m)) := by
        rw [Nat.pow_add, Nat.pow_succ]; ac_rfl
      rw [e, Nat.add_mul_div_left _ _ (Nat.pow_pos (by omega)), Nat.add_mul_mod_self_left]
    · obtain rfl : i = n := by omega
      have h1 := digK_lt hg i
      have h2 := hg i
      unfold digitV
      rw [digK, Nat.mul_comm, Nat.add_mul_div_left _ _ (Nat.pow_pos (by omega)), Nat.div_eq_of_lt h1, Nat.zero_add, Nat.mod_eq_of_lt h2]
theorem digK_congr {g h : Nat → Nat} {n : Nat} (e : ∀ j, j < n → g j = h j) : digK g n = digK h n := by
  induction n with
  | zero => rfl
  | succ n ih => rw [digK, digK, ih (fun j hj => e j (by omega)), e n (by omega)]
/-- The number of bytes. -/
def octV (l : List UInt8) (j : Nat) : Nat := (l.getD j 0).toNat
theorem octV_lt (l : List UInt8) (j : Nat) : octV l j < 256 := UInt8.toNat_lt _
def digT (l : List UInt8) : Nat := digK (octV l) l.length
theorem digT_lt (l : List UInt8) : digT l < 256 ^ l.length := digK_lt (octV_lt l) _

/-! ### with -/
def withF (f : Nat → Nat) (i d : Nat) : Nat → Nat := fun j => if j = 8 * i / 26 then (f j + d * 2 ^ (8 * i % 26) % 18446744073709551616) % 18446744073709551616 else f j
def withK (g : Nat → Nat) : Nat → Nat → Nat
  | 0 => fun _ => 0
  | k + 1 => withF (withK g k) k (g k)
theorem shl_le (d i : Nat) (hd : d < 256) : d * 2 ^ (8 * i % 26) ≤ 255 * 33554432 := by
  have h1 : 8 * i % 26 ≤ 25 := by omega
  have h2 : (2 : Nat) ^ (8 * i % 26) ≤ 33554432 := Nat.le_trans (Nat.pow_le_pow_right (by omega) h1) (by decide)
  exact Nat.mul_le_mul (by omega) h2
theorem le_up {k y z q : Nat} (h1 : y ≤ k * 8556380160) (h2 : z ≤ 8556380160) (h3 : q ≤ y + z) : q ≤ (k + 1) * 8556380160 := by omega
theorem mod_add_le (y z : Nat) : (y + z % 18446744073709551616) % 18446744073709551616 ≤ y + z := Nat.le_trans (Nat.mod_le _ _) (Nat.add_le_add_left (Nat.mod_le _ _) _)
theorem withK_le {g : Nat → Nat} (hg : ∀ j, g j < 256) (k : Nat) (hk : k ≤ 17) : ∀ j, withK g k j ≤ k * 8556380160 := by
  induction k with
  | zero => intro j; exact Nat.zero_le _
  | succ k ih =>
    intro j
    have h2 : g k * 2 ^ (8 * k % 26) ≤ 8556380160 := shl_le (g k) k (hg k)
    rw [withK, withF]
    split
    · exact le_up (ih (by omega) j) h2 (mod_add_le _ _)
    · exact le_up (ih (by omega) j) h2 (Nat.le_add_right _ _)
theorem withK_ok {g : Nat → Nat} (hg : ∀ j, g j < 256) (k : Nat) (hk : k ≤ 17) : okF (withK g k) := fun j => by
  have := withK_le hg k hk j
  omega
theorem withK_val {g : Nat → Nat} (hg : ∀ j, g j < 256) (k : Nat) (hk : k ≤ 17) : valN (ofF (withK g k)) = digK g k := by
  induction k with
  | zero => rfl
  | succ k ih =>
    have ih' := ih (by omega)
    have h0 := withK_le hg k (by omega) 0
    have h1 := withK_le hg k (by omega) 1
    have h2 := withK_le hg k (by omega) 2
    have h3 := withK_le hg k (by omega) 3
    have h4 := withK_le hg k (by omega) 4
    have hgk := hg k
    rw [digK, ← ih']
    clear ih ih'
    generalize hd : g k = d at *
    have hk' : k = 0 ∨ k = 1 ∨ k = 2 ∨ k = 3 ∨ k = 4 ∨ k = 5 ∨ k = 6 ∨ k = 7 ∨ k = 8 ∨ k = 9 ∨ k = 10 ∨ k = 11 ∨ k = 12 ∨ k = 13 ∨ k = 14 ∨ k = 15 ∨ k = 16 := by omega
    simp only [withK, withF, hd, ofF, valN]
    generalize withK g k 0 = x0 at *
    generalize withK g k 1 = x1 at *
    generalize withK g k 2 = x2 at *
    generalize withK g k 3 = x3 at *
    generalize withK g k 4 = x4 at *
    clear hd hg
    rcases hk' with rfl | rfl | rfl | rfl | rfl | rfl | rfl | rfl | rfl | rfl | rfl | rfl | rfl | rfl | rfl | rfl | rfl <;>
      simp only [Nat.reduceMul, Nat.reduceDiv, Nat.reduceMod, Nat.reducePow, Nat.reduceEqDiff, if_true, if_false] <;> omega
theorem withK_car {g : Nat → Nat} (hg : ∀ j, g j < 256) (k : Nat) (hk : k ≤ 17) : carN (ofF (withK g k)) = canon (digK g k) := by
  have h := fun j => withK_le hg k hk j
  rw [← withK_val hg k hk]
  refine carN_is _ ?_ ?_ ?_ ?_ ?_
  · have := h 0; simp only [ofF]; omega
  · have := h 1; simp only [ofF]; omega
  · have := h 2; simp only [ofF]; omega
  · have := h 3; simp only [ofF]; omega
  · have := h 4; simp only [ofF]; omega
theorem withK_congr {g h : Nat → Nat} {n : Nat} (e : ∀ j, j < n → g j = h j) : withK g n = withK h n := by
  induction n with
  | zero => rfl
  | succ n ih => rw [withK, withK, ih (fun j hj => e j (by omega)), e n (by omega)]

/-! ### digit -/
theorem or_sum (x y i : Nat) (hx : x < 2 ^ i) : x ||| y * 2 ^ i = x + y * 2 ^ i := by
  rw [Nat.or_comm, nat_join i (y * 2 ^ i) x (Nat.mul_mod_left _ _) hx]; omega
theorem or_two (x y s : Nat) (hx : x < 67108864) (hy : y < 4294967296) (hs : s ≤ 26) : x / 2 ^ s ||| (y * 2 ^ (26 - s) % 18446744073709551616) = x / 2 ^ s + y * 2 ^ (26 - s) := by
  have h1 : (2 : Nat) ^ (26 - s) ≤ 67108864 := Nat.le_trans (Nat.pow_le_pow_right (by omega) (Nat.sub_le 26 s)) (by decide)
  have h2 : y * 2 ^ (26 - s) ≤ 4294967296 * 67108864 := Nat.mul_le_mul (by omega) h1
  rw [Nat.mod_eq_of_lt (by omega)]
  refine or_sum _ _ _ ?_
  rw [Nat.div_lt_iff_lt_mul (Nat.pow_pos (by omega)), ← Nat.pow_add, show 26 - s + s = 26 by omega]
  exact hx
theorem canon_at_lt (v j : Nat) (h : j < 4) : (canon v).at j < 67108864 := by
  have : j = 0 ∨ j = 1 ∨ j = 2 ∨ j = 3 := by omega
  rcases this with rfl | rfl | rfl | rfl <;> exact Nat.mod_lt _ (by omega)
theorem canon_at_e (v : Nat) (h : v / 67108864 / 67108864 / 67108864 / 67108864 < 4294967296) (j : Nat) : (canon v).at j < 4294967296 := by
  by_cases hj : j < 4
  · exact Nat.lt_of_lt_of_le (canon_at_lt v j hj) (by omega)
  · match j with
    | 0 => omega
    | 1 => omega
    | 2 => omega
    | 3 => omega
    | _ + 4 => exact h
/-- A digit of a number that is carried: from two parts. -/
theorem digit_two (v i : Nat) (hv : v / 67108864 / 67108864 / 67108864 / 67108864 < 4294967296) (h : i < 13) : (((canon v).at (8 * i / 26) / 2 ^ (8 * i % 26)) ||| ((canon v).at (8 * i / 26 + 1) * 2 ^ (26 - 8 * i % 26) % 18446744073709551616)) % 256 = digitV v i := by
  rw [or_two _ _ _ (canon_at_lt v _ (by omega)) (canon_at_e v hv _) (by omega)]
  have hk' : i = 0 ∨ i = 1 ∨ i = 2 ∨ i = 3 ∨ i = 4 ∨ i = 5 ∨ i = 6 ∨ i = 7 ∨ i = 8 ∨ i = 9 ∨ i = 10 ∨ i = 11 ∨ i = 12 := by omega
  unfold digitV
  rcases hk' with rfl | rfl | rfl | rfl | rfl | rfl | rfl | rfl | rfl | rfl | rfl | rfl | rfl <;>
    simp only [Nat.reduceMul, Nat.reduceDiv, Nat.reduceMod, Nat.reducePow, Nat.reduceAdd, Nat.reduceSub, Num.at, canon] <;> omega
/-- ... from the last part alone. -/
theorem digit_one (v i : Nat) (h : 13 ≤ i) (h2 : i < 17) : ((canon v).at (8 * i / 26) / 2 ^ (8 * i % 26)) % 256 = digitV v i := by
  have hk' : i = 13 ∨ i = 14 ∨ i = 15 ∨ i = 16 := by omega
  unfold digitV
  rcases hk' with rfl | rfl | rfl | rfl <;>
    simp only [Nat.reduceMul, Nat.reduceDiv, Nat.reduceMod, Nat.reducePow, Num.at, canon] <;> omega

/-! ### times -/
def prodC (f g : Nat → Nat) (i j : Nat) : Nat := if 5 ≤ i + j then f i * g j % 18446744073709551616 * 5 % 18446744073709551616 else f i * g j % 18446744073709551616
def prodJ (f g : Nat → Nat) (i : Nat) (p : Nat → Nat) : Nat → Nat → Nat
  | 0 => p
  | j + 1 => fun c => if c = (i + j) % 5 then (prodJ f g i p j c + prodC f g i j) % 18446744073709551616 else prodJ f g i p j c
def prodI (f g : Nat → Nat) : Nat → Nat → Nat
  | 0 => fun _ => 0
  | i + 1 => prodJ f g i (prodI f g i) 5
def prodN (n m : Num) : Num := ofF (prodI n.at m.at 5)
theorem prodJ_ok {f g : Nat → Nat} {i : Nat} {p : Nat → Nat} (hp : okF p) (j : Nat) : okF (prodJ f g i p j) := by
  induction j with
  | zero => exact hp
  | succ j ih =>
    intro c
    simp only [prodJ]
    split
    · omega
    · exact ih c
theorem prodI_ok (f g : Nat → Nat) (i : Nat) : okF (prodI f g i) := by
  induction i with
  | zero => intro j; simp [prodI]
  | succ i ih => exact prodJ_ok ih 5
theorem prodJ_zero {f g : Nat → Nat} {i : Nat} {p : Nat → Nat} (hg : ∀ j, g j = 0) (hp : ∀ c, p c = 0) (j : Nat) : ∀ c, prodJ f g i p j c = 0 := by
  induction j with
  | zero => exact hp
  | succ j ih =>
    intro c
    simp [prodJ, ih, prodC, hg]
theorem prodI_zero {f g : Nat → Nat} (hg : ∀ j, g j = 0) (i : Nat) : ∀ c, prodI f g i c = 0 := by
  induction i with
  | zero => intro c; rfl
  | succ i ih => exact prodJ_zero hg ih 5
theorem canon_zero (j : Nat) : (canon 0).at j = 0 := by
  match j with
  | 0 => rfl
  | 1 => rfl
  | 2 => rfl
  | 3 => rfl
  | _ + 4 => rfl
theorem prod_zero (n : Num) : leftV (prodN n (canon 0)) = 0 := by
  have h : prodN n (canon 0) = ⟨0, 0, 0, 0, 0⟩ := by
    simp only [prodN, ofF, prodI_zero canon_zero]
  rw [h]
  decide

theorem ok_ofF {f : Nat → Nat} (h : okF f) : okF (ofF f).at := ok_at (h 0) (h 1) (h 2) (h 3) (h 4)
theorem prodN_ok (n m : Num) : okF (prodN n m).at := ok_ofF (prodI_ok _ _ 5)

/-! ### sums -/
def addF (f g : Nat → Nat) (j : Nat) : Nat := (f j + g j) % 18446744073709551616
theorem addF_ok (f g : Nat → Nat) : okF (addF f g) := fun _ => Nat.mod_lt _ (by omega)
theorem add_canon (a b : Nat) (ha : (canon a).e < 4294967296) (hb : (canon b).e < 4294967296) : carN (ofF (addF (canon a).at (canon b).at)) = canon (a + b) := by
  have a0 := canon_at_lt a 0 (by omega)
  have a1 := canon_at_lt a 1 (by omega)
  have a2 := canon_at_lt a 2 (by omega)
  have a3 := canon_at_lt a 3 (by omega)
  have b0 := canon_at_lt b 0 (by omega)
  have b1 := canon_at_lt b 1 (by omega)
  have b2 := canon_at_lt b 2 (by omega)
  have b3 := canon_at_lt b 3 (by omega)
  have va := valN_canon a
  have vb := valN_canon b
  have h : ofF (addF (canon a).at (canon b).at) = ⟨(canon a).a + (canon b).a, (canon a).b + (canon b).b, (canon a).c + (canon b).c, (canon a).d + (canon b).d, (canon a).e + (canon b).e⟩ := by
    simp only [ofF, addF, Num.mk.injEq]
    simp only [Num.at] at *
    refine ⟨?_, ?_, ?_, ?_, ?_⟩ <;> exact Nat.mod_eq_of_lt (by omega)
  simp only [Num.at] at a0 a1 a2 a3 b0 b1 b2 b3
  rw [h, carN_is _ (by simp only; omega) (by simp only; omega) (by simp only; omega) (by simp only; omega) (by simp only; omega)]
  congr 1
  simp only [valN] at *
  omega

/-! ### steps -/
def stepV (acc r : Nat) (part : List UInt8) : Nat := leftV (prodN (canon (acc + digT (part ++ [1]))) (canon r))
theorem stepV_lt (acc r : Nat) (part : List UInt8) : stepV acc r part < bigP := leftV_lt _
theorem stepV_zero (acc : Nat) (part : List UInt8) : stepV acc 0 part = 0 := prod_zero _
def partL (s : List UInt8) (k : Nat) : List UInt8 := (s.drop (16 * k)).take 16
def accV (r : Nat) (s : List UInt8) : Nat → Nat
  | 0 => 0
  | k + 1 => stepV (accV r s k) r (partL s k)
theorem accV_lt (r : Nat) (s : List UInt8) (k : Nat) : accV r s k < bigP := by
  cases k with
  | zero => exact (by decide : 0 < bigP)
  | succ k => exact stepV_lt _ _ _
theorem accV_zero (s : List UInt8) (k : Nat) : accV 0 s k = 0 := by
  cases k with
  | zero => rfl
  | succ k => exact stepV_zero _ _
/-- How many parts. -/
def partsN (n : Nat) : Nat := (n + 15) / 16
def lowL (v : Nat) : List UInt8 := (List.range 16).map fun i => UInt8.ofNat (digitV v i)
theorem lowL_length (v : Nat) : (lowL v).length = 16 := by simp [lowL]
theorem lowL_at (v i : Nat) (h : i < 16) : ((lowL v).getD i 0).toNat = digitV v i := by
  have := digitV_lt v i
  simp [lowL, List.getD_eq_getElem?_getD, h]
  omega
theorem lowL_digT (l : List UInt8) (h : l.length = 16) : lowL (digT l) = l := by
  apply List.ext_getElem?
  intro i
  by_cases hi : i < 16
  · have h1 := digitV_digK (octV_lt l) l.length i (by omega)
    rw [lowL, List.getElem?_map, List.getElem?_range hi, List.getElem?_eq_getElem (by omega)]
    simp only [Option.map_some, Option.some.injEq]
    rw [show digitV (digT l) i = octV l i from h1, octV, List.getD_eq_getElem?_getD, List.getElem?_eq_getElem (by omega)]
    simp
  · rw [List.getElem?_eq_none (by rw [lowL_length]; omega), List.getElem?_eq_none (by omega)]

/-! ### clamped -/
def clampB (j : Nat) (b : UInt8) : UInt8 := if j % 4 = 3 then b % 16 else if j % 4 = 0 ∧ 0 < j then b - b % 4 else b
def clampL (l : List UInt8) : List UInt8 := l.mapIdx clampB
theorem clampL_length (l : List UInt8) : (clampL l).length = l.length := by simp [clampL]
theorem clampB_twice (j : Nat) (b : UInt8) : clampB j (clampB j b) = clampB j b := by
  unfold clampB
  by_cases h : j % 4 = 3
  · rw [if_pos h, if_pos h]
    apply UInt8.toNat.inj
    simp
  · rw [if_neg h, if_neg h]
    by_cases h2 : j % 4 = 0 ∧ 0 < j
    · rw [if_pos h2, if_pos h2]
      have hb : (b - b % 4).toNat = b.toNat - b.toNat % 4 := by
        rw [UInt8.toNat_sub_of_le _ _ (by rw [UInt8.le_iff_toNat_le]; simp; omega)]
        simp
      apply UInt8.toNat.inj
      rw [UInt8.toNat_sub_of_le _ _ (by rw [UInt8.le_iff_toNat_le]; simp; omega), UInt8.toNat_mod, hb]
      simp
      omega
    · rw [if_neg h2, if_neg h2]
theorem clampL_twice (l : List UInt8) : clampL (clampL l) = clampL l := by
  have h : ∀ i, clampB i ∘ clampB i = clampB i := fun i => funext fun b => clampB_twice i b
  simp [clampL, h]
/-- What a text's Tag is made of. -/
def tagV (key s : List UInt8) : Nat := accV (digT (clampL (key.take 16))) s (partsN s.length) + digT (key.drop 16)
end Go.Proofs.YtapbjmeilhcmaaaDoor
