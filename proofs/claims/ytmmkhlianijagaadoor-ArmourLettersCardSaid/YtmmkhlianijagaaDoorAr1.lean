/-
  armour: digits that wait (held): the contracts of put and take.
-/
import Derived.Test.YtmmkhlianijagaaDoorChecked
import Derived.Test.YtmmkhlianijagaaDoorWords
import Derived.Test.YtmmkhlianijagaaDoorInfo
import Derived.Deep.AppendLies
import Derived.Deep.QuietTactic
import Derived.BigQuiet
import Derived.StillTailTactics
namespace Go.Proofs.YtmmkhlianijagaaDoor
open Go.RowKit Go.Kx
set_option maxRecDepth 20000

/-! ### digits that wait: the number that they make, and how many they are -/
def Hld (w : World) (b m c : Nat) : Prop := w.rowIs b 37 2 (fun j => .int .i64 ((if j = 0 then m else c : Nat) : Int))
theorem Hld.lt {w : World} {b m c : Nat} (h : Hld w b m c) : b < w.heap.size := World.rowIs.lt h
theorem Hld.num {w : World} {b m c : Nat} (h : Hld w b m c) : w.cell? ⟨b, 0, none⟩ = some (.int .i64 (m : Int)) := by simpa using World.rowIs.cell h (i := 0) (by omega)
theorem Hld.cnt {w : World} {b m c : Nat} (h : Hld w b m c) : w.cell? ⟨b, 1, none⟩ = some (.int .i64 (c : Int)) := by simpa using World.rowIs.cell h (i := 1) (by omega)
theorem Hld.frz {w : World} {b m c : Nat} (h : Hld w b m c) (i : Nat) : w.frozen? ⟨b, i, none⟩ = false := World.rowIs.frozen h i
theorem Hld.keep {w w' : World} {b m c : Nat} (h : Hld w b m c) (hb : Below w.heap.size w w') : Hld w' b m c := rowIs_keep h hb
theorem Hld.setNum {w : World} {b m c : Nat} (h : Hld w b m c) {v : Int} {m' : Nat} (e : v = (m' : Int)) : Hld (w.setCell ⟨b, 0, none⟩ (.int .i64 v)) b m' c := by
  subst e
  refine (World.rowIs.set h 0 _).congr fun j hj => ?_
  by_cases h0 : j = 0
  · simp [h0]
  · simp [h0]
theorem Hld.setCnt {w : World} {b m c : Nat} (h : Hld w b m c) {v : Int} {c' : Nat} (e : v = (c' : Int)) : Hld (w.setCell ⟨b, 1, none⟩ (.int .i64 v)) b m c' := by
  subst e
  refine (World.rowIs.set h 1 _).congr fun j hj => ?_
  rcases (by omega : j = 0 ∨ j = 1) with rfl | rfl
  · simp
  · simp
theorem grown_setCell (w : World) (a : Addr) (u : Value) : w.grownBy (w.setCell a u) (some a.block) :=
  ⟨rfl, rfl, rfl, by simp, fun k _ hne => Below.heap_setCell _ _ _ k (fun e => hne (by rw [e]))⟩
theorem grown_drewN (w : World) (n : Nat) (row : Option Nat) : w.grownBy (w.drewN n) row := ⟨rfl, rfl, rfl, Nat.le_refl _, fun _ _ _ => rfl⟩
/-- What a call that holds, or takes, digits leaves. -/
def Held (V : World) (b m c : Nat) (W : World) : Prop := Hld W b m c ∧ V.grownBy W (some b)

/-! ### the mathematics of one number -/
theorem aor_low {m x n : Nat} (hx : x < 2 ^ n) : m * 2 ^ n ||| x = m * 2 ^ n + x := by
  rw [Nat.mul_comm, ← Nat.two_pow_add_eq_or_of_lt hx]
theorem wrapSmall {n : Nat} (h : n < 9223372036854775808) : IntKind.i64.wrap ((n : Nat) : Int) = ((n : Nat) : Int) := wrapNat (by omega)
theorem u8_in {n : Nat} (h : n < 256) : IntKind.u8.wrap (n : Int) = (n : Int) := by
  simp only [IntKind.wrap, IntKind.bits, IntKind.signed]; simp; omega

set_option maxHeartbeats 1000000 in
theorem put_any (b m c x n : Nat) (hc : c ≤ 12) (hm : m < 2 ^ c) (hn : n ≤ 8) (hx : x < 2 ^ n) (w : World) (h : Hld w b m c) :
    Calls Tryd.prog 29 #[.pointer (some ⟨b, 0, none⟩), .int .u8 (x : Int), .int .i64 (n : Int)] w fun e w' => e = .returned (.tuple #[]) ∧ Held w b (m * 2 ^ n + x) (c + n) w' := by
  have h1 := h.num
  have h2 := h.cnt
  have f1 := h.frz 0
  have f2 := h.frz 1
  have hm2 : m < 2 ^ 12 := Nat.lt_of_lt_of_le hm (Nat.pow_le_pow_right (by omega) hc)
  have hp : 2 ^ n ≤ 2 ^ 8 := Nat.pow_le_pow_right (by omega) hn
  go_enter Tryd.func29, Tryd.ntmps29
  go_wp2
  have e1 : bits BinOp.or IntKind.i64 (wrap64 ((m : Int) * 2 ^ n)) (x : Int) = ((m * 2 ^ n + x : Nat) : Int) := by
    have hle : m * 2 ^ n ≤ 4096 * 256 := Nat.mul_le_mul (by omega) (by omega)
    have e : (m : Int) * 2 ^ n = ((m * 2 ^ n : Nat) : Int) := by push_cast; rfl
    rw [e, IntWalk.wrap64_in _ (by omega), int_or (by omega) (by omega), aor_low hx]
  go_end0
  refine ⟨rfl, (h.setNum e1).setCnt (by push_cast; rfl), ?_⟩
  exact (grown_setCell w ⟨b, 0, none⟩ _).trans (grown_setCell _ ⟨b, 1, none⟩ _)
theorem putByte_any (b m c x : Nat) (hc : c ≤ 12) (hm : m < 2 ^ c) (hx : x < 2 ^ 8) (w : World) (h : Hld w b m c) :
    Calls Tryd.prog 22 #[.pointer (some ⟨b, 0, none⟩), .int .u8 (x : Int)] w fun e w' => e = .returned (.tuple #[]) ∧ Held w b (m * 2 ^ 8 + x) (c + 8) w' := by
  go_enter Tryd.func22, Tryd.ntmps22
  go_wp2_with fail
  refine (put_any b m c x 8 hc hm (by omega) hx w h).mono ?_
  rintro e w1 ⟨rfl, hh⟩
  go_wp2
  go_end0
  exact ⟨rfl, hh⟩
theorem putLetter_any (b m c x : Nat) (hc : c ≤ 12) (hm : m < 2 ^ c) (hx : x < 2 ^ 5) (w : World) (h : Hld w b m c) :
    Calls Tryd.prog 17 #[.pointer (some ⟨b, 0, none⟩), .int .u8 (x : Int)] w fun e w' => e = .returned (.tuple #[]) ∧ Held w b (m * 2 ^ 5 + x) (c + 5) w' := by
  go_enter Tryd.func17, Tryd.ntmps17
  go_wp2_with fail
  refine (put_any b m c x 5 hc hm (by omega) hx w h).mono ?_
  rintro e w1 ⟨rfl, hh⟩
  go_wp2
  go_end0
  exact ⟨rfl, hh⟩

/-! ### what is taken -/
theorem take_no (b m c n : Nat) (hlt : c < n) (w : World) (h : Hld w b m c) :
    Calls Tryd.prog 30 #[.pointer (some ⟨b, 0, none⟩), .int .i64 (n : Int)] w fun e w' => e = .returned (.tuple #[.int .u8 0, .bool false]) ∧ w' = w := by
  have h2 := h.cnt
  go_enter Tryd.func30, Tryd.ntmps30
  go_wp2
  go_ret2
  exact ⟨rfl, rfl⟩
theorem take_math {m c n k : Nat} (hk : k = c - n) (hn : n ≤ 8) (hle : n ≤ c) (hc : c ≤ 20) (hm : m < 2 ^ c) :
    k ≤ 20 ∧ (m : Int) / 2 ^ k = ((m / 2 ^ k : Nat) : Int) ∧ wrap64 (((m / 2 ^ k : Nat) : Int) * 2 ^ k) = ((m / 2 ^ k * 2 ^ k : Nat) : Int) ∧ (m : Int) - ((m / 2 ^ k * 2 ^ k : Nat) : Int) = ((m % 2 ^ k : Nat) : Int) ∧ m / 2 ^ k < 256 ∧ m % 2 ^ k < 1048576 := by
  have hm20 : m < 2 ^ 20 := Nat.lt_of_lt_of_le hm (Nat.pow_le_pow_right (by omega) hc)
  have hq8 : m / 2 ^ k < 2 ^ n := by
    rw [Nat.div_lt_iff_lt_mul (Nat.two_pow_pos k), ← Nat.pow_add, show n + k = c by omega]
    exact hm
  have hn8 : 2 ^ n ≤ 2 ^ 8 := Nat.pow_le_pow_right (by omega) hn
  have hrm : m % 2 ^ k ≤ m := Nat.mod_le _ _
  have hqm : m / 2 ^ k * 2 ^ k ≤ m := Nat.div_mul_le_self _ _
  have hqc : ((m / 2 ^ k : Nat) : Int) * 2 ^ k = ((m / 2 ^ k * 2 ^ k : Nat) : Int) := by push_cast; rfl
  have hsplit := Nat.div_add_mod m (2 ^ k)
  rw [Nat.mul_comm] at hsplit
  refine ⟨by omega, by rw [Int.natCast_ediv]; push_cast; rfl, ?_, ?_, by omega, by omega⟩
  · rw [hqc, IntWalk.wrap64_in _ (by omega)]
  · clear hq8 hn8 hqc hm hm20
    generalize m / 2 ^ k * 2 ^ k = z at *
    omega
set_option maxHeartbeats 1000000 in
theorem take_yes (b m c n : Nat) (hn : n ≤ 8) (hle : n ≤ c) (hc : c ≤ 20) (hm : m < 2 ^ c) (w : World) (h : Hld w b m c) :
    Calls Tryd.prog 30 #[.pointer (some ⟨b, 0, none⟩), .int .i64 (n : Int)] w fun e w' => e = .returned (.tuple #[.int .u8 ((m / 2 ^ (c - n) : Nat) : Int), .bool true]) ∧ Held w b (m % 2 ^ (c - n)) (c - n) w' := by
  have h1 := h.num
  have h2 := h.cnt
  have f1 := h.frz 0
  have f2 := h.frz 1
  obtain ⟨k, hk⟩ : ∃ k, k = c - n := ⟨_, rfl⟩
  rw [← hk]
  have hsub : (c : Int) - (n : Int) = (k : Int) := by omega
  have hnl : ¬ (c : Int) < (n : Int) := by omega
  have hg0 := grown_setCell w ⟨b, 1, none⟩ (.int .i64 (k : Int))
  have hh0 := h.setCnt (v := (k : Int)) rfl
  obtain ⟨hk20, hsh, hw, hmz, hq8, hr8⟩ := take_math hk hn hle hc hm
  clear hk hm
  generalize m / 2 ^ k = q at *
  generalize m % 2 ^ k = r at *
  generalize q * 2 ^ k = z at *
  have HW := Lib.hid hw
  have HM := Lib.hid hmz
  clear hw hmz
  go_enter Tryd.func30, Tryd.ntmps30
  go_wp2
  clear h1 h2 f1 f2 h hsub
  generalize w.setCell ⟨b, 1, none⟩ (.int .i64 (k : Int)) = W at *
  have h1 := hh0.num
  have h2 := hh0.cnt
  go_quiet (fail)
  try rw [hsh]
  clear hsh
  have hW : Held w b m k (W.drewN nq) := ⟨hh0, hg0.trans (grown_drewN _ _ _)⟩
  clear h1 h2 hh0 hg0
  generalize W.drewN nq = V at *
  have h1 := hW.1.num
  have h2 := hW.1.cnt
  have f1 := hW.1.frz 0
  go_wp2
  refine wp_region_still_tail 11 (by kernel_rfl) (by kernel_rfl) ?_
  simp only [List.take_succ_cons, List.take_zero, List.drop_succ_cons, List.drop_zero]
  repeat still_step
  refine wpStill_nil ?_
  rw [show IntKind.i64.wrap ((q : Int) * 2 ^ k) = (z : Int) by rw [IntWalk.i64_left]; exact HW.out, HM.out, IntWalk.i64_in (r : Int) (by omega)]
  have hD : Held w b m k V.drew := ⟨World.rowIs.drew hW.1, hW.2.trans (grown_drewN V 1 _)⟩
  change wpList _ _ _ _ _ V.drew
  clear hW h1 h2 f1
  generalize V.drew = U at *
  have f1 := hD.1.frz 0
  have h1 := hD.1.num
  go_wp2
  go_ret2
  exact ⟨rfl, hD.1.setNum rfl, hD.2.trans (grown_setCell U ⟨b, 0, none⟩ _)⟩

/-! ### a letter's digits, a byte's digits -/
theorem takeLetter_no (b m c : Nat) (hlt : c < 5) (w : World) (h : Hld w b m c) :
    Calls Tryd.prog 23 #[.pointer (some ⟨b, 0, none⟩)] w fun e w' => e = .returned (.tuple #[.int .u8 0, .bool false]) ∧ w' = w := by
  go_enter Tryd.func23, Tryd.ntmps23
  go_wp2_with fail
  refine (take_no b m c 5 hlt w h).mono ?_
  rintro e w1 ⟨rfl, rfl⟩
  go_wp2
  go_ret2
  exact ⟨rfl, rfl⟩
theorem takeLetter_yes (b m c q r k : Nat) (hq : m / 2 ^ (c - 5) = q) (hr : m % 2 ^ (c - 5) = r) (hk : c - 5 = k) (hle : 5 ≤ c) (hc : c ≤ 20) (hm : m < 2 ^ c) (w : World) (h : Hld w b m c) :
    Calls Tryd.prog 23 #[.pointer (some ⟨b, 0, none⟩)] w fun e w' => e = .returned (.tuple #[.int .u8 (q : Int), .bool true]) ∧ Held w b r k w' := by
  have H := take_yes b m c 5 (by omega) hle hc hm w h
  rw [hq, hr, hk] at H
  clear hq hr hk hle hc hm
  go_enter Tryd.func23, Tryd.ntmps23
  go_wp2_with fail
  refine H.mono ?_
  rintro e w1 ⟨rfl, hh⟩
  go_wp2
  go_ret2
  exact ⟨rfl, hh⟩
theorem takeByte_no (b m c : Nat) (hlt : c < 8) (w : World) (h : Hld w b m c) :
    Calls Tryd.prog 18 #[.pointer (some ⟨b, 0, none⟩)] w fun e w' => e = .returned (.tuple #[.int .u8 0, .bool false]) ∧ w' = w := by
  go_enter Tryd.func18, Tryd.ntmps18
  go_wp2_with fail
  refine (take_no b m c 8 hlt w h).mono ?_
  rintro e w1 ⟨rfl, rfl⟩
  go_wp2
  go_ret2
  exact ⟨rfl, rfl⟩
theorem takeByte_yes (b m c q r k : Nat) (hq : m / 2 ^ (c - 8) = q) (hr : m % 2 ^ (c - 8) = r) (hk : c - 8 = k) (hle : 8 ≤ c) (hc : c ≤ 20) (hm : m < 2 ^ c) (w : World) (h : Hld w b m c) :
    Calls Tryd.prog 18 #[.pointer (some ⟨b, 0, none⟩)] w fun e w' => e = .returned (.tuple #[.int .u8 (q : Int), .bool true]) ∧ Held w b r k w' := by
  have H := take_yes b m c 8 (by omega) hle hc hm w h
  rw [hq, hr, hk] at H
  clear hq hr hk hle hc hm
  go_enter Tryd.func18, Tryd.ntmps18
  go_wp2_with fail
  refine H.mono ?_
  rintro e w1 ⟨rfl, hh⟩
  go_wp2
  go_ret2
  exact ⟨rfl, hh⟩
end Go.Proofs.YtmmkhlianijagaaDoor
