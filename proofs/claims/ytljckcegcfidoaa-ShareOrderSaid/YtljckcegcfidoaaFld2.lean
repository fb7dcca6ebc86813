/-
  field: the contracts of Add, Mul, Inv, Div, Pow.
-/
import Derived.Test.YtljckcegcfidoaaFld1
import Derived.BigQuiet
namespace Go.Proofs.Ytljckcegcfidoaa
open Go.RowKit Go.Kx
set_option maxRecDepth 20000

def addA (a b : Int) : Nat × Bool := if dig a = true ∧ dig b = true then (a.toNat ^^^ b.toNat, true) else (0, false)
def mulA (a b : Int) : Nat × Bool := if dig a = true ∧ dig b = true then (Gf.mulG a.toNat b.toNat, true) else (0, false)
def invA (a : Int) : Nat × Bool := if dig a = true ∧ a ≠ 0 then (Gf.invG a.toNat, true) else (0, false)
def divA (a b : Int) : Nat × Bool := if dig a = true ∧ dig b = true ∧ b ≠ 0 then (Gf.mulG a.toNat (Gf.invG b.toNat), true) else (0, false)
def powA (a n : Int) : Nat × Bool := if dig a = true ∧ 0 ≤ n ∧ n ≤ 1000000 then (Gf.powG a.toNat n.toNat, true) else (0, false)
/-- What a method hands back. -/
def two (r : Nat × Bool) : Ending := .returned (.tuple #[.int .i64 (r.1 : Nat), .bool r.2])
theorem two_eq {r s : Nat × Bool} (h : r = s) : two r = two s := by rw [h]
theorem two_of {r : Nat × Bool} {x : Int} {b : Bool} (h1 : x = (r.1 : Nat)) (h2 : b = r.2) : Ending.returned (.tuple #[.int .i64 x, .bool b]) = two r := by rw [h1, h2]; rfl

theorem fadd_any (a b : Int) (w : World) : Calls Try.prog 67 #[.int .i64 a, .int .i64 b] w fun e w' => e = two (addA a b) ∧ w' = w := by
  cases ha : dig a with
  | false =>
    have hr : addA a b = (0, false) := by simp [addA, ha]
    rw [hr]
    go_enter Try.func67, Try.ntmps67
    go_wp2_with fail
    refine (isDigit_any _ _).mono ?_
    rintro e w1 ⟨rfl, rfl⟩
    go_wp2
    go_ret2
    exact ⟨rfl, rfl⟩
  | true =>
    cases hb : dig b with
    | false =>
      have hr : addA a b = (0, false) := by simp [addA, hb]
      rw [hr]
      go_enter Try.func67, Try.ntmps67
      go_wp2_with fail
      refine (isDigit_any _ _).mono ?_
      rintro e w1 ⟨rfl, rfl⟩
      go_wp2_with fail
      refine (isDigit_any _ _).mono ?_
      rintro e w1 ⟨rfl, rfl⟩
      go_wp2
      go_ret2
      exact ⟨rfl, rfl⟩
    | true =>
      have hr : addA a b = (a.toNat ^^^ b.toNat, true) := by simp [addA, ha, hb]
      rw [hr]
      obtain ⟨m, rfl, hm⟩ := dig_nat ha
      obtain ⟨n, rfl, hn⟩ := dig_nat hb
      have ex : bits .xor .i64 (m : Int) (n : Nat) = (m ^^^ n : Nat) := int_xor (by omega) (by omega)
      go_enter Try.func67, Try.ntmps67
      go_wp2_with fail
      refine (isDigit_any _ _).mono ?_
      rintro e w1 ⟨rfl, rfl⟩
      go_wp2_with fail
      refine (isDigit_any _ _).mono ?_
      rintro e w1 ⟨rfl, rfl⟩
      go_wp2
      go_ret2
      exact ⟨two_of rfl rfl, rfl⟩


theorem mul_none (a b : Int) (w : World) : Calls Try.prog 72 #[.pointer none, .int .i64 a, .int .i64 b] w fun e w' => e = two (0, false) ∧ w' = w := by
  go_enter Try.func72, Try.ntmps72
  go_wp2
  go_ret2
  exact ⟨rfl, rfl⟩
theorem inv_none (a : Int) (w : World) : Calls Try.prog 42 #[.pointer none, .int .i64 a] w fun e w' => e = two (0, false) ∧ w' = w := by
  go_enter Try.func42, Try.ntmps42
  go_wp2
  go_ret2
  exact ⟨rfl, rfl⟩
theorem pow_none (a n : Int) (w : World) : Calls Try.prog 54 #[.pointer none, .int .i64 a, .int .i64 n] w fun e w' => e = two (0, false) ∧ w' = w := by
  go_enter Try.func54, Try.ntmps54
  go_wp2
  go_ret2
  exact ⟨rfl, rfl⟩
theorem div_none (a b : Int) (w : World) : Calls Try.prog 75 #[.pointer none, .int .i64 a, .int .i64 b] w fun e w' => e = two (0, false) ∧ w' = w := by
  go_enter Try.func75, Try.ntmps75
  go_wp2_with fail
  refine (inv_none b _).mono ?_
  rintro e w1 ⟨rfl, rfl⟩
  unfold two
  go_wp2
  go_ret2
  exact ⟨rfl, rfl⟩
theorem inv_any (g : Nat) (a : Int) (w : World) (hf : Fld w g) : Calls Try.prog 42 #[.pointer (some ⟨g, 0, none⟩), .int .i64 a] w fun e w' => e = two (invA a) ∧ w' = w := by
  cases ha : dig a with
  | false =>
    have hr : invA a = (0, false) := by simp [invA, ha]
    rw [hr]
    go_enter Try.func42, Try.ntmps42
    go_wp2_with fail
    refine (isDigit_any _ _).mono ?_
    rintro e w1 ⟨rfl, rfl⟩
    go_wp2
    go_ret2
    exact ⟨rfl, rfl⟩
  | true =>
    by_cases h0 : a = 0
    · have hr : invA a = (0, false) := by simp [invA, h0]
      rw [hr]
      subst h0
      go_enter Try.func42, Try.ntmps42
      go_wp2_with fail
      refine (isDigit_any _ _).mono ?_
      rintro e w1 ⟨rfl, rfl⟩
      go_wp2
      go_ret2
      exact ⟨rfl, rfl⟩
    · have hr : invA a = (Gf.invG a.toNat, true) := by simp [invA, ha, h0]
      rw [hr]
      obtain ⟨m, rfl, hm⟩ := dig_nat ha
      have hm0 : m ≠ 0 := by omega
      have hl := hf.log hm hm0
      have hll := (Gf.log_spec hm hm0).2
      have he : Hid (Gf.powT (255 - Gf.logT m) = Gf.invG m) := Lib.hid (by rw [Gf.invG, Gf.powT_mod])
      generalize hx : Gf.logT m = x at *
      have HX := Lib.hid hx
      clear hx
      go_enter Try.func42, Try.ntmps42
      go_wp2_with fail
      refine (isDigit_any _ _).mono ?_
      rintro e w1 ⟨rfl, rfl⟩
      go_wp2_with fail
      rw [show (255 : Int) - (x : Nat) = ((255 - x : Nat) : Int) by omega]
      refine (after_any g _ (by omega) _ hf).mono ?_
      rintro e w1 ⟨rfl, rfl⟩
      rw [he.out]
      go_wp2
      go_ret2
      exact ⟨two_of rfl rfl, rfl⟩
theorem pow_any (g : Nat) (a n : Int) (w : World) (hf : Fld w g) : Calls Try.prog 54 #[.pointer (some ⟨g, 0, none⟩), .int .i64 a, .int .i64 n] w fun e w' => e = two (powA a n) ∧ w' = w := by
  cases ha : dig a with
  | false =>
    have hr : powA a n = (0, false) := by simp [powA, ha]
    rw [hr]
    go_enter Try.func54, Try.ntmps54
    go_wp2_with fail
    refine (isDigit_any _ _).mono ?_
    rintro e w1 ⟨rfl, rfl⟩
    go_wp2
    go_ret2
    exact ⟨rfl, rfl⟩
  | true =>
    by_cases h1 : n < 0
    · have hr : powA a n = (0, false) := by simp [powA]; omega
      rw [hr]
      go_enter Try.func54, Try.ntmps54
      go_wp2_with fail
      refine (isDigit_any _ _).mono ?_
      rintro e w1 ⟨rfl, rfl⟩
      go_wp2
      go_ret2
      exact ⟨rfl, rfl⟩
    · by_cases h2 : 1000000 < n
      · have hr : powA a n = (0, false) := by simp [powA]; omega
        rw [hr]
        go_enter Try.func54, Try.ntmps54
        go_wp2_with fail
        refine (isDigit_any _ _).mono ?_
        rintro e w1 ⟨rfl, rfl⟩
        go_wp2
        go_ret2
        exact ⟨rfl, rfl⟩
      · have hr : powA a n = (Gf.powG a.toNat n.toNat, true) := by simp [powA, ha]; omega
        rw [hr]
        obtain ⟨m, rfl, hm⟩ := dig_nat ha
        obtain ⟨k, rfl⟩ : ∃ k : Nat, n = k := ⟨n.toNat, by omega⟩
        clear hr
        show Calls _ _ _ _ fun e w' => e = two (Gf.powG m k, true) ∧ w' = w
        by_cases h3 : k = 0
        · subst h3
          go_enter Try.func54, Try.ntmps54
          go_wp2_with fail
          refine (isDigit_any _ _).mono ?_
          rintro e w1 ⟨rfl, rfl⟩
          go_wp2
          go_ret2
          exact ⟨two_of rfl rfl, rfl⟩
        · by_cases h4 : m = 0
          · subst h4
            rw [Gf.powG_zero k (by omega)]
            go_enter Try.func54, Try.ntmps54
            go_wp2_with fail
            refine (isDigit_any _ _).mono ?_
            rintro e w1 ⟨rfl, rfl⟩
            go_wp2
            go_ret2
            exact ⟨two_of rfl rfl, rfl⟩
          · have hl := hf.log hm h4
            have hll := (Gf.log_spec hm h4).2
            rw [Gf.powG_log hm h4]
            generalize hx : Gf.logT m = x at *
            have HX := Lib.hid hx
            clear hx
            have hmul : x * k ≤ 254 * 1000000 := Nat.mul_le_mul (by omega) (by omega)
            have hw : IntKind.i64.wrap ((x : Int) * (k : Int)) = ((x * k : Nat) : Int) := by rw [← Int.natCast_mul]; exact wrapNat (by omega)
            go_enter Try.func54, Try.ntmps54
            go_wp2_with fail
            refine (isDigit_any _ _).mono ?_
            rintro e w1 ⟨rfl, rfl⟩
            go_wp2_with fail
            refine (after_any g _ (by omega) _ hf).mono ?_
            rintro e w1 ⟨rfl, rfl⟩
            go_wp2
            go_ret2
            exact ⟨two_of rfl rfl, rfl⟩

theorem mul_drew (g : Nat) (a b : Int) (w : World) (hf : Fld w g) : Calls Try.prog 72 #[.pointer (some ⟨g, 0, none⟩), .int .i64 a, .int .i64 b] w fun e w' => e = two (mulA a b) ∧ ∃ m, w' = w.drewN m := by
  cases ha : dig a with
  | false =>
    have hr : mulA a b = (0, false) := by simp [mulA, ha]
    rw [hr]
    go_enter Try.func72, Try.ntmps72
    go_wp2_with fail
    refine (isDigit_any _ _).mono ?_
    rintro e w1 ⟨rfl, rfl⟩
    go_wp2
    go_ret2
    exact ⟨rfl, 0, rfl⟩
  | true =>
    cases hb : dig b with
    | false =>
      have hr : mulA a b = (0, false) := by simp [mulA, hb]
      rw [hr]
      go_enter Try.func72, Try.ntmps72
      go_wp2_with fail
      refine (isDigit_any _ _).mono ?_
      rintro e w1 ⟨rfl, rfl⟩
      go_wp2_with fail
      refine (isDigit_any _ _).mono ?_
      rintro e w1 ⟨rfl, rfl⟩
      go_wp2
      go_ret2
      exact ⟨rfl, 0, rfl⟩
    | true =>
      have hr : mulA a b = (Gf.mulG a.toNat b.toNat, true) := by simp [mulA, ha, hb]
      rw [hr]
      obtain ⟨m, rfl, hm⟩ := dig_nat ha
      obtain ⟨n, rfl, hn⟩ := dig_nat hb
      show Calls _ _ _ _ fun e w' => e = two (Gf.mulG m n, true) ∧ ∃ m, w' = w.drewN m
      by_cases h1 : m = 0
      · subst h1
        rw [Gf.zero_mul]
        go_enter Try.func72, Try.ntmps72
        go_wp2_with fail
        refine (isDigit_any _ _).mono ?_
        rintro e w1 ⟨rfl, rfl⟩
        go_wp2_with fail
        refine (isDigit_any _ _).mono ?_
        rintro e w1 ⟨rfl, rfl⟩
        go_wp2
        go_ret2
        exact ⟨two_of rfl rfl, 0, rfl⟩
      · by_cases h2 : n = 0
        · subst h2
          rw [Gf.mul_zero]
          go_enter Try.func72, Try.ntmps72
          go_wp2_with fail
          refine (isDigit_any _ _).mono ?_
          rintro e w1 ⟨rfl, rfl⟩
          go_wp2_with fail
          refine (isDigit_any _ _).mono ?_
          rintro e w1 ⟨rfl, rfl⟩
          go_wp2
          go_ret2
          exact ⟨two_of rfl rfl, 0, rfl⟩
        · have hlm := hf.log hm h1
          have hln := hf.log hn h2
          have hllm := (Gf.log_spec hm h1).2
          have hlln := (Gf.log_spec hn h2).2
          rw [Gf.mul_log hm hn h1 h2, Gf.powT_mod]
          generalize Gf.logT m = x at *
          generalize Gf.logT n = y at *
          have t1 : ((m : Int) == 0) = false := by simp; omega
          have t2 : ((n : Int) == 0) = false := by simp; omega
          go_enter Try.func72, Try.ntmps72
          go_wp2_with fail
          refine (isDigit_any _ _).mono ?_
          rintro e w1 ⟨rfl, rfl⟩
          go_wp2_with fail
          refine (isDigit_any _ _).mono ?_
          rintro e w1 ⟨rfl, rfl⟩
          go_wp2
          go_quiet ((go_at_call 66; refine Calls.quiet_of_same (after_any g (x + y) ?_ _ hf) <;> first | assumption | omega))
          go_wp2
          go_ret2
          exact ⟨two_of rfl rfl, _, rfl⟩
theorem mul_any (g : Nat) (a b : Int) (w : World) (hf : Fld w g) : Calls Try.prog 72 #[.pointer (some ⟨g, 0, none⟩), .int .i64 a, .int .i64 b] w fun e w' => e = two (mulA a b) ∧ Below w.heap.size w w' :=
  (mul_drew g a b w hf).mono fun _ _ ⟨he, m, hm⟩ => ⟨he, hm ▸ Below.drewN0 w m⟩
theorem div_drew (g : Nat) (a b : Int) (w : World) (hf : Fld w g) : Calls Try.prog 75 #[.pointer (some ⟨g, 0, none⟩), .int .i64 a, .int .i64 b] w fun e w' => e = two (divA a b) ∧ ∃ m, w' = w.drewN m := by
  by_cases hb : dig b = true ∧ b ≠ 0
  · have hi : invA b = (Gf.invG b.toNat, true) := by simp [invA, hb]
    have hm : mulA a (Gf.invG b.toNat : Nat) = divA a b := by simp [mulA, divA, hb, dig_of (Gf.invG_lt _)]
    go_enter Try.func75, Try.ntmps75
    go_wp2_with fail
    refine (inv_any g b _ hf).mono ?_
    rw [hi]
    rintro e w1 ⟨rfl, rfl⟩
    unfold two
    go_wp2_with fail
    refine (mul_drew g a _ _ hf).mono ?_
    rw [hm]
    rintro e w1 ⟨rfl, hb1⟩
    unfold two
    go_wp2
    go_ret2
    exact ⟨rfl, hb1⟩
  · have hi : invA b = (0, false) := by simp [invA]; simpa using hb
    have hd : divA a b = (0, false) := by simp [divA]; intro _; simpa using hb
    rw [hd]
    go_enter Try.func75, Try.ntmps75
    go_wp2_with fail
    refine (inv_any g b _ hf).mono ?_
    rw [hi]
    rintro e w1 ⟨rfl, rfl⟩
    unfold two
    go_wp2
    go_ret2
    exact ⟨rfl, 0, rfl⟩
theorem div_any (g : Nat) (a b : Int) (w : World) (hf : Fld w g) : Calls Try.prog 75 #[.pointer (some ⟨g, 0, none⟩), .int .i64 a, .int .i64 b] w fun e w' => e = two (divA a b) ∧ Below w.heap.size w w' :=
  (div_drew g a b w hf).mono fun _ _ ⟨he, m, hm⟩ => ⟨he, hm ▸ Below.drewN0 w m⟩
end Go.Proofs.Ytljckcegcfidoaa
