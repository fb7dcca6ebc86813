/-
  Digits below 256 that are added and multiplied (field, as plain mathematics; any program): sums are xor, products of doubles; laws by what they do to the eight powers of two; powers of three.
-/
import Derived.Test.YtljckcegcfidoaaWords
namespace Go.Gf

def dbl (a : Nat) : Nat := if 2 * a < 256 then 2 * a else (2 * a - 256) ^^^ 27
def mulK : Nat → Nat → Nat → Nat → Nat
  | 0, n, _, _ => n
  | k + 1, n, a, b => mulK k (if b % 2 = 1 then n ^^^ a else n) (dbl a) (b / 2)
/-- The product. -/
def mulG (a b : Nat) : Nat := mulK 8 0 a b

theorem xor_lt {a b : Nat} (ha : a < 256) (hb : b < 256) : a ^^^ b < 256 := Nat.xor_lt_two_pow (n := 8) ha hb
theorem dbl_lt {a : Nat} (h : a < 256) : dbl a < 256 := by
  unfold dbl
  split
  · assumption
  · exact xor_lt (by omega) (by omega)
theorem mulK_lt : ∀ (k n a b : Nat), n < 256 → a < 256 → mulK k n a b < 256
  | 0, _, _, _, h, _ => h
  | k + 1, n, a, b, h, ha => by
    rw [mulK]
    refine mulK_lt k _ _ _ ?_ (dbl_lt ha)
    split
    · exact xor_lt h ha
    · exact h
theorem mulG_lt {a : Nat} (b : Nat) (ha : a < 256) : mulG a b < 256 := mulK_lt _ _ _ _ (by omega) ha

/-! ### what is the same at the powers of two is the same -/
def Lin (f : Nat → Nat) : Prop := ∀ a b, a < 256 → b < 256 → f (a ^^^ b) = f a ^^^ f b
theorem Lin.zero {f : Nat → Nat} (h : Lin f) : f 0 = 0 := by
  have := h 0 0 (by omega) (by omega)
  rw [Nat.xor_self, Nat.xor_self] at this
  exact this
theorem top_xor (k x : Nat) (h1 : 2 ^ k ≤ x) (h2 : x < 2 ^ (k + 1)) : 2 ^ k ^^^ (x - 2 ^ k) = x := by
  have h3 : x - 2 ^ k < 2 ^ k := by rw [Nat.pow_succ] at h2; omega
  have h4 := Nat.two_pow_add_eq_or_of_lt h3 1
  rw [Nat.mul_one] at h4
  have h5 : 2 ^ k ^^^ (x - 2 ^ k) = 2 ^ k ||| (x - 2 ^ k) := by
    apply Nat.eq_of_testBit_eq
    intro i
    rw [Nat.testBit_xor, Nat.testBit_or, Nat.testBit_two_pow]
    by_cases hi : k = i
    · subst hi
      rw [Nat.testBit_lt_two_pow h3]
      simp
    · simp [hi]
  rw [h5, ← h4]
  omega
theorem Lin.ext {f g : Nat → Nat} (hf : Lin f) (hg : Lin g) (h : ∀ k, k < 8 → f (2 ^ k) = g (2 ^ k)) : ∀ x, x < 256 → f x = g x := by
  have key : ∀ k, k ≤ 8 → ∀ x, x < 2 ^ k → f x = g x := by
    intro k
    induction k with
    | zero =>
      intro _ x hx
      obtain rfl : x = 0 := by simpa using hx
      rw [hf.zero, hg.zero]
    | succ k ih =>
      intro hk x hx
      by_cases h1 : x < 2 ^ k
      · exact ih (by omega) x h1
      · have h2 : (2 : Nat) ^ k < 256 := Nat.lt_of_lt_of_le (Nat.pow_lt_pow_right (by omega) (show k < 8 by omega)) (by decide)
        have h3 : x < 256 := Nat.lt_of_lt_of_le hx (Nat.pow_le_pow_right (n := 2) (by omega) hk)
        have h4 := top_xor k x (by omega) hx
        rw [← h4, hf _ _ h2 (by omega), hg _ _ h2 (by omega), h k (by omega), ih (by omega) (x - 2 ^ k) (by rw [Nat.pow_succ] at hx; omega)]
  exact key 8 (by omega)
theorem xor_two (b c : Nat) : (b ^^^ c) % 2 = (b % 2) ^^^ (c % 2) := by
  have h := Nat.xor_mod_two_pow (a := b) (b := c) (n := 1)
  simpa using h
theorem two_xor (a b : Nat) : 2 * (a ^^^ b) = 2 * a ^^^ 2 * b := by
  apply Nat.eq_of_testBit_eq
  intro i
  cases i with
  | zero => rw [Nat.testBit_xor]; simp [Nat.testBit_zero]
  | succ i => rw [Nat.testBit_xor]; simp [Nat.testBit_succ, Nat.testBit_xor]
theorem lin_dbl : Lin dbl := by
  have h : ∀ a, a < 256 → dbl a = (2 * a) ^^^ (if a < 128 then 0 else 283) := by decide +kernel
  intro a b ha hb
  rw [h _ (xor_lt ha hb), h a ha, h b hb, two_xor]
  have e : (if a ^^^ b < 128 then 0 else 283) = (if a < 128 then 0 else 283) ^^^ (if b < 128 then 0 else 283) := by
    have bit : ∀ x, x < 256 → (x < 128 ↔ x.testBit 7 = false) := by decide +kernel
    have e1 := bit _ (xor_lt ha hb)
    have e2 := bit a ha
    have e3 := bit b hb
    rw [Nat.testBit_xor] at e1
    cases ha7 : a.testBit 7 <;> cases hb7 : b.testBit 7 <;> simp [e1, e2, e3, ha7, hb7]
  rw [e]
  ac_rfl
theorem Lin.comp {f g : Nat → Nat} (hf : Lin f) (hg : Lin g) (hl : ∀ x, x < 256 → g x < 256) : Lin fun x => f (g x) := fun a b ha hb => by
  show f (g (a ^^^ b)) = _
  rw [hg a b ha hb, hf _ _ (hl a ha) (hl b hb)]
theorem lin_mulK_left (k b : Nat) : ∀ (n m a c : Nat), n < 256 → m < 256 → a < 256 → c < 256 → mulK k (n ^^^ m) (a ^^^ c) b = mulK k n a b ^^^ mulK k m c b := by
  induction k generalizing b with
  | zero => intros; rfl
  | succ k ih =>
    intro n m a c hn hm ha hc
    rw [mulK, mulK, mulK, lin_dbl a c ha hc]
    split
    · rw [show n ^^^ m ^^^ (a ^^^ c) = (n ^^^ a) ^^^ (m ^^^ c) by ac_rfl]
      exact ih _ _ _ _ _ (xor_lt hn ha) (xor_lt hm hc) (dbl_lt ha) (dbl_lt hc)
    · exact ih _ _ _ _ _ hn hm (dbl_lt ha) (dbl_lt hc)
theorem lin_left (b : Nat) : Lin fun a => mulG a b := fun a c ha hc => by
  exact lin_mulK_left 8 b 0 0 a c (by omega) (by omega) ha hc
theorem mulK_start (k : Nat) : ∀ (n a b : Nat), mulK k n a b = n ^^^ mulK k 0 a b := by
  induction k with
  | zero => intro n a b; simp [mulK]
  | succ k ih =>
    intro n a b
    rw [mulK, mulK, ih, ih (if b % 2 = 1 then 0 ^^^ a else 0)]
    split
    · rw [Nat.zero_xor]; ac_rfl
    · rw [Nat.zero_xor]
theorem lin_mulK_right (k : Nat) : ∀ (a b c : Nat), mulK k 0 a (b ^^^ c) = mulK k 0 a b ^^^ mulK k 0 a c := by
  induction k with
  | zero => intros; simp [mulK]
  | succ k ih =>
    intro a b c
    rw [mulK, mulK, mulK, Nat.xor_div_two, mulK_start k (if (b ^^^ c) % 2 = 1 then _ else _), mulK_start k (if b % 2 = 1 then _ else _), mulK_start k (if c % 2 = 1 then _ else _), ih]
    have e : (if (b ^^^ c) % 2 = 1 then 0 ^^^ a else 0) = (if b % 2 = 1 then 0 ^^^ a else 0) ^^^ (if c % 2 = 1 then 0 ^^^ a else 0) := by
      rw [xor_two]
      rcases Nat.mod_two_eq_zero_or_one b with hb | hb <;> rcases Nat.mod_two_eq_zero_or_one c with hc | hc <;>
        simp [hb, hc]
    rw [e]
    ac_rfl
theorem lin_right (a : Nat) : Lin fun b => mulG a b := fun b c _ _ => lin_mulK_right 8 a b c

/-! ### the laws -/
theorem mul_comm {a b : Nat} (ha : a < 256) (hb : b < 256) : mulG a b = mulG b a := by
  refine Lin.ext (lin_right a) (lin_left a) (fun k hk => ?_) b hb
  refine Lin.ext (lin_left (2 ^ k)) (lin_right (2 ^ k)) (fun j hj => ?_) a ha
  have h : ∀ k, k < 8 → ∀ j, j < 8 → mulG (2 ^ j) (2 ^ k) = mulG (2 ^ k) (2 ^ j) := by decide +kernel
  exact h k hk j hj
theorem mul_assoc {a b c : Nat} (ha : a < 256) (hb : b < 256) (hc : c < 256) : mulG (mulG a b) c = mulG a (mulG b c) := by
  refine Lin.ext (lin_right (mulG a b)) ((lin_right a).comp (lin_right b) fun x _ => mulG_lt x hb) (fun k hk => ?_) c hc
  refine Lin.ext ((lin_left (2 ^ k)).comp (lin_right a) fun x _ => mulG_lt x ha) ((lin_right a).comp (lin_left (2 ^ k)) fun x hx => mulG_lt _ hx) (fun j hj => ?_) b hb
  refine Lin.ext ((lin_left (2 ^ k)).comp (lin_left (2 ^ j)) fun x hx => mulG_lt _ hx) (lin_left (mulG (2 ^ j) (2 ^ k))) (fun i hi => ?_) a ha
  have h : ∀ k, k < 8 → ∀ j, j < 8 → ∀ i, i < 8 → mulG (mulG (2 ^ i) (2 ^ j)) (2 ^ k) = mulG (2 ^ i) (mulG (2 ^ j) (2 ^ k)) := by decide +kernel
  exact h k hk j hj i hi
theorem mul_xor {b c : Nat} (a : Nat) (hb : b < 256) (hc : c < 256) : mulG a (b ^^^ c) = mulG a b ^^^ mulG a c := lin_right a b c hb hc
theorem xor_mul {a b : Nat} (c : Nat) (ha : a < 256) (hb : b < 256) : mulG (a ^^^ b) c = mulG a c ^^^ mulG b c := lin_left c a b ha hb
theorem mul_zero (a : Nat) : mulG a 0 = 0 := (lin_right a).zero
theorem zero_mul (b : Nat) : mulG 0 b = 0 := (lin_left b).zero
theorem mul_one {a : Nat} (ha : a < 256) : mulG a 1 = a := Lin.ext (lin_left 1) (g := fun x => x) (fun _ _ _ _ => rfl) (by decide +kernel) a ha
theorem one_mul {a : Nat} (ha : a < 256) : mulG 1 a = a := by rw [mul_comm (by omega) ha, mul_one ha]
theorem mul_two {a : Nat} (ha : a < 256) : mulG a 2 = dbl a := Lin.ext (lin_left 2) lin_dbl (by decide +kernel) a ha

/-! ### powers of three -/
def tri (a : Nat) : Nat := a ^^^ dbl a
theorem tri_lt {a : Nat} (h : a < 256) : tri a < 256 := xor_lt h (dbl_lt h)
theorem lin_tri : Lin tri := fun a b ha hb => by
  unfold tri
  rw [lin_dbl a b ha hb]
  ac_rfl
theorem mul_three {a : Nat} (ha : a < 256) : mulG a 3 = tri a := Lin.ext (lin_left 3) lin_tri (by decide +kernel) a ha
def powT : Nat → Nat
  | 0 => 1
  | n + 1 => tri (powT n)
theorem powT_lt : ∀ n, powT n < 256
  | 0 => by decide
  | n + 1 => tri_lt (powT_lt n)
theorem powT_add (i j : Nat) : mulG (powT i) (powT j) = powT (i + j) := by
  induction j with
  | zero => exact mul_one (powT_lt i)
  | succ j ih =>
    show mulG (powT i) (tri (powT j)) = tri (powT (i + j))
    rw [← ih, ← mul_three (powT_lt j), ← mul_three (mulG_lt _ (powT_lt i)), mul_assoc (powT_lt i) (powT_lt j) (by omega)]
theorem powT_255 : powT 255 = 1 := by decide +kernel
theorem powT_add_255 (n : Nat) : powT (n + 255) = powT n := by rw [← powT_add, powT_255, mul_one (powT_lt n)]
theorem powT_mul_255 (n q : Nat) : powT (n + 255 * q) = powT n := by
  induction q with
  | zero => rfl
  | succ q ih => rw [Nat.mul_succ, ← Nat.add_assoc, powT_add_255, ih]
theorem powT_mod (n : Nat) : powT (n % 255) = powT n := by
  conv => rhs; rw [← Nat.mod_add_div n 255]
  rw [powT_mul_255]
theorem powT_ne (n : Nat) : powT n ≠ 0 := by
  intro h
  have h1 := powT_add n (254 * n)
  rw [h, zero_mul, show n + 254 * n = 0 + 255 * n by omega, powT_mul_255] at h1
  exact absurd h1 (by decide)
/-- The number of triplings that a digit is told by (255 of 0). -/
def logT (a : Nat) : Nat := (List.range 255).findIdx fun n => powT n == a
theorem log_spec {a : Nat} (ha : a < 256) (h0 : a ≠ 0) : powT (logT a) = a ∧ logT a < 255 := by
  have h : ∀ a, a < 256 → a ≠ 0 → (powT (logT a) = a ∧ logT a < 255) := by decide +kernel
  exact h a ha h0
theorem log_powT {n : Nat} (hn : n < 255) : logT (powT n) = n := by
  have h : ∀ n, n < 255 → logT (powT n) = n := by decide +kernel
  exact h n hn
theorem mul_log {a b : Nat} (ha : a < 256) (hb : b < 256) (ha0 : a ≠ 0) (hb0 : b ≠ 0) : mulG a b = powT ((logT a + logT b) % 255) := by
  rw [powT_mod, ← powT_add, (log_spec ha ha0).1, (log_spec hb hb0).1]
theorem mul_ne {a b : Nat} (ha : a < 256) (hb : b < 256) (ha0 : a ≠ 0) (hb0 : b ≠ 0) : mulG a b ≠ 0 := by
  rw [mul_log ha hb ha0 hb0]
  exact powT_ne _
theorem mul_eq_zero {a b : Nat} (ha : a < 256) (hb : b < 256) : mulG a b = 0 ↔ a = 0 ∨ b = 0 := by
  constructor
  · intro h
    by_cases ha0 : a = 0
    · exact .inl ha0
    · by_cases hb0 : b = 0
      · exact .inr hb0
      · exact absurd h (mul_ne ha hb ha0 hb0)
  · rintro (rfl | rfl)
    · exact zero_mul _
    · exact mul_zero _
/-- The inverse (of 0 some digit). -/
def invG (a : Nat) : Nat := powT ((255 - logT a) % 255)
theorem invG_lt (a : Nat) : invG a < 256 := powT_lt _
theorem invG_ne (a : Nat) : invG a ≠ 0 := powT_ne _
theorem mul_inv {a : Nat} (ha : a < 256) (h0 : a ≠ 0) : mulG a (invG a) = 1 := by
  have h := log_spec ha h0
  unfold invG
  rw [powT_mod]
  conv => lhs; lhs; rw [← h.1]
  rw [powT_add, show logT a + (255 - logT a) = 0 + 255 by omega, powT_add_255]
  rfl
theorem mul_inv_back {a b : Nat} (ha : a < 256) (hb : b < 256) (h0 : b ≠ 0) : mulG (mulG a b) (invG b) = a := by
  rw [mul_assoc ha hb (invG_lt b), mul_inv hb h0, mul_one ha]
theorem inv_mul_back {a b : Nat} (ha : a < 256) (hb : b < 256) (h0 : b ≠ 0) : mulG (mulG a (invG b)) b = a := by
  rw [mul_assoc ha (invG_lt b) hb, mul_comm (invG_lt b) hb, mul_inv hb h0, mul_one ha]
theorem cancel_right {a b c : Nat} (ha : a < 256) (hb : b < 256) (hc : c < 256) (h0 : c ≠ 0) (h : mulG a c = mulG b c) : a = b := by
  rw [← mul_inv_back ha hc h0, h, mul_inv_back hb hc h0]
theorem inv_unique {a x : Nat} (ha : a < 256) (h0 : a ≠ 0) (hx : x < 256) (h : mulG a x = 1) : x = invG a := by
  refine cancel_right hx (invG_lt a) ha h0 ?_
  rw [mul_comm hx ha, mul_comm (invG_lt a) ha, h, mul_inv ha h0]
theorem inv_inv {a : Nat} (ha : a < 256) (h0 : a ≠ 0) : invG (invG a) = a :=
  (inv_unique (invG_lt a) (invG_ne a) ha (by rw [mul_comm (invG_lt a) ha, mul_inv ha h0])).symm

/-! ### powers -/
def powG (a : Nat) : Nat → Nat
  | 0 => 1
  | n + 1 => mulG (powG a n) a
theorem powG_lt {a : Nat} (_ : a < 256) (n : Nat) : powG a n < 256 := by
  induction n with
  | zero => exact (by decide : 1 < 256)
  | succ n ih => exact mulG_lt _ ih
theorem powG_zero (n : Nat) (h : 0 < n) : powG 0 n = 0 := by
  cases n with
  | zero => omega
  | succ n => exact mul_zero _
theorem powG_log {a : Nat} (ha : a < 256) (h0 : a ≠ 0) (n : Nat) : powG a n = powT (logT a * n) := by
  induction n with
  | zero => rfl
  | succ n ih =>
    rw [powG, ih]
    conv => lhs; rhs; rw [← (log_spec ha h0).1]
    rw [powT_add, Nat.mul_succ]
theorem powG_mod {a : Nat} (ha : a < 256) (h0 : a ≠ 0) (n : Nat) : powG a (n % 255) = powG a n := by
  rw [powG_log ha h0, powG_log ha h0, ← powT_mod, ← powT_mod (logT a * n), Nat.mul_mod, Nat.mod_mod, ← Nat.mul_mod]
theorem powG_255 {a : Nat} (ha : a < 256) (h0 : a ≠ 0) : powG a 255 = 1 := (powG_mod ha h0 255).symm
theorem powG_add {a : Nat} (ha : a < 256) (m n : Nat) : powG a (m + n) = mulG (powG a m) (powG a n) := by
  induction n with
  | zero => exact (mul_one (powG_lt ha m)).symm
  | succ n ih =>
    show mulG (powG a (m + n)) a = mulG (powG a m) (mulG (powG a n) a)
    rw [ih, mul_assoc (powG_lt ha m) (powG_lt ha n) ha]
end Go.Gf
