/-
  Digits in base 2, regrouped one value after the other (any program).
-/
import Derived.Test.YtmmkhlianijagaaDoorArm
namespace Go.Arm

theorem numN_append (x : List Nat) : ∀ y : List Nat, numN (x ++ y) = numN x * 2 ^ y.length + numN y := by
  intro y
  refine snoc_ind (P := fun y => numN (x ++ y) = numN x * 2 ^ y.length + numN y) ?_ (fun l d ih => ?_) y
  · simp [numN]
  · rw [← List.append_assoc, numN_snoc, ih, numN_snoc, List.length_append, List.length_singleton, Nat.pow_succ, Nat.mul_add]
    generalize 2 ^ l.length = p
    rw [show 2 * (numN x * p) = numN x * (p * 2) by rw [Nat.mul_comm p 2, ← Nat.mul_assoc, ← Nat.mul_assoc, Nat.mul_comm 2]]
    omega
theorem numN_take {l : List Nat} (h2 : ∀ d ∈ l, d < 2) (n : Nat) : numN (l.take n) = numN l / 2 ^ (l.length - n) := by
  have e := numN_append (l.take n) (l.drop n)
  rw [List.take_append_drop, List.length_drop] at e
  have hlt := numN_lt (l.drop n) (fun d hd => h2 d (List.mem_of_mem_drop hd))
  rw [List.length_drop] at hlt
  rw [e, Nat.mul_comm, Nat.mul_add_div (Nat.two_pow_pos _), Nat.div_eq_of_lt hlt, Nat.add_zero]
theorem numN_drop {l : List Nat} (h2 : ∀ d ∈ l, d < 2) (n : Nat) : numN (l.drop n) = numN l % 2 ^ (l.length - n) := by
  have e := numN_append (l.take n) (l.drop n)
  rw [List.take_append_drop, List.length_drop] at e
  have hlt := numN_lt (l.drop n) (fun d hd => h2 d (List.mem_of_mem_drop hd))
  rw [List.length_drop] at hlt
  rw [e, Nat.mul_comm, Nat.mul_add_mod, Nat.mod_eq_of_lt hlt]
theorem grpL_append (k : Nat) : ∀ (c : Nat) (l t : List Nat), k * c ≤ l.length → grpL k c (l ++ t) = grpL k c l
  | 0, _, _, _ => rfl
  | c + 1, l, t, h => by
    have hk : k ≤ l.length := by rw [Nat.mul_succ] at h; omega
    rw [grpL, grpL, List.take_append_of_le_length hk, List.drop_append_of_le_length hk, grpL_append k c (l.drop k) t (by rw [List.length_drop]; rw [Nat.mul_succ] at h; omega)]
theorem grpL_succ (k : Nat) : ∀ (c : Nat) (l : List Nat), grpL k (c + 1) l = grpL k c l ++ [numN ((l.drop (k * c)).take k)]
  | 0, l => by simp [grpL]
  | c + 1, l => by
    rw [grpL, grpL_succ k c (l.drop k), grpL, List.drop_drop, Nat.mul_succ, Nat.add_comm k]
    rfl
/-- The state behind j groups of the digits B: what is told, the number that waits, and how many digits it has. -/
def outN (k j : Nat) (B : List Nat) : List Nat := grpL k j B
def numH (k j : Nat) (B : List Nat) : Nat := numN (B.drop (k * j))
def cntH (k j : Nat) (B : List Nat) : Nat := B.length - k * j
theorem numH_lt {k j : Nat} {B : List Nat} (h2 : ∀ d ∈ B, d < 2) : numH k j B < 2 ^ cntH k j B := by
  have := numN_lt (B.drop (k * j)) (fun d hd => h2 d (List.mem_of_mem_drop hd))
  rwa [List.length_drop] at this
theorem put_out {k j : Nat} {B : List Nat} (h : k * j ≤ B.length) (t : List Nat) : outN k j (B ++ t) = outN k j B := grpL_append k j B t h
theorem put_num {k j : Nat} {B : List Nat} (h : k * j ≤ B.length) (a x : Nat) (hx : x < 2 ^ a) : numH k j B * 2 ^ a + x = numH k j (B ++ bitsN x a) := by
  unfold numH
  rw [List.drop_append_of_le_length h, numN_append, bitsN_length, numN_bitsN a x hx]
theorem put_cnt {k j : Nat} {B : List Nat} (h : k * j ≤ B.length) (a x : Nat) : cntH k j B + a = cntH k j (B ++ bitsN x a) := by
  unfold cntH
  rw [List.length_append, bitsN_length]
  omega
theorem take_out (k j : Nat) (B : List Nat) (h2 : ∀ d ∈ B, d < 2) : outN k j B ++ [numH k j B / 2 ^ (cntH k j B - k)] = outN k (j + 1) B := by
  unfold outN numH cntH
  rw [grpL_succ, numN_take (fun d hd => h2 d (List.mem_of_mem_drop hd)), List.length_drop]
theorem take_num (k j : Nat) (B : List Nat) (h2 : ∀ d ∈ B, d < 2) : numH k j B % 2 ^ (cntH k j B - k) = numH k (j + 1) B := by
  unfold numH cntH
  rw [show (B.drop (k * (j + 1))) = ((B.drop (k * j)).drop k) by rw [List.drop_drop, Nat.mul_succ], numN_drop (fun d hd => h2 d (List.mem_of_mem_drop hd)), List.length_drop]
theorem take_cnt (k j : Nat) (B : List Nat) : cntH k j B - k = cntH k (j + 1) B := by
  unfold cntH
  rw [Nat.mul_succ]
  omega
theorem bitsL_take_succ (a : Nat) (l : List Nat) {i : Nat} (h : i < l.length) : bitsL a (l.take (i + 1)) = bitsL a (l.take i) ++ bitsN (l.getD i 0) a := by
  rw [List.take_add_one, bitsL_append, List.getElem?_eq_getElem h, List.getD, List.getElem?_eq_getElem h]
  simp [bitsL]
theorem outN_length (k j : Nat) (B : List Nat) : (outN k j B).length = j := grpL_length k j B
/-- How many whole groups. -/
theorem cnt_small {k j : Nat} {B : List Nat} (hk : 0 < k) (h : k * j ≤ B.length) (hc : cntH k j B < k) : j = B.length / k := by
  unfold cntH at hc
  have h1 : B.length = k * j + (B.length - k * j) := by omega
  rw [h1, Nat.mul_add_div hk, Nat.div_eq_of_lt hc, Nat.add_zero]
end Go.Arm
