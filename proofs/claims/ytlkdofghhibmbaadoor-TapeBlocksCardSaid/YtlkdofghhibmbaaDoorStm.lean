/-
  stream, as plain mathematics over numbers and lists: four words that are turned, a state's 64 bytes, what hides a text; what follows of hiding twice, in parts, and of two texts.
-/
import Derived.Test.YtlkdofghhibmbaaDoorSha
namespace Go.Proofs.YtlkdofghhibmbaaDoor
open Go.RowKit Go.Kx

structure W4 where
  a : Nat
  b : Nat
  c : Nat
  d : Nat
deriving DecidableEq
def qS (x y : Nat) : Nat := (x + y) % 4294967296
def qR (x y z n : Nat) : Nat := rotN (z ^^^ qS x y) n
def turnW (a b c d : Nat) : W4 :=
  let a1 := qS a b
  let d1 := qR a b d 16
  let c1 := qS c d1
  let b1 := qR c d1 b 12
  let a2 := qS a1 b1
  let d2 := qR a1 b1 d1 8
  ⟨a2, qR c1 d2 b1 7, qS c1 d2, d2⟩
def W4.ok (t : W4) : Prop := t.a < 4294967296 ∧ t.b < 4294967296 ∧ t.c < 4294967296 ∧ t.d < 4294967296
theorem qS_lt (x y : Nat) : qS x y < 4294967296 := Nat.mod_lt _ (by omega)
theorem qR_lt (x y z n : Nat) (hz : z < 4294967296) (hn : n ≤ 32) : qR x y z n < 4294967296 := rotN_lt _ _ (Nat.xor_lt_two_pow (n := 32) hz (qS_lt x y)) hn
theorem turnW_ok (a b c d : Nat) (hb : b < 4294967296) (hd : d < 4294967296) : (turnW a b c d).ok := by
  have h1 := qR_lt a b d 16 hd (by omega)
  have h2 := qR_lt c (qR a b d 16) b 12 hb (by omega)
  have h3 := qR_lt (qS a b) (qR c (qR a b d 16) b 12) (qR a b d 16) 8 h1 (by omega)
  exact ⟨qS_lt _ _, qR_lt _ _ _ _ h2 (by omega), qS_lt _ _, h3⟩
theorem turn_example : turnW 286331153 16909060 2609737539 19088743 = ⟨3928658676, 3407673550, 1166100270, 1484899515⟩ := by decide +kernel

/-! ### a state -/
def okL (l : List Nat) : Prop := l.length = 16 ∧ ∀ x ∈ l, x < 4294967296
def put4 (l : List Nat) (p q r s : Nat) (t : W4) : List Nat := (((l.set p t.a).set q t.b).set r t.c).set s t.d
def stepT (l : List Nat) (p q r s : Nat) : List Nat := put4 l p q r s (turnW (l.getD p 0) (l.getD q 0) (l.getD r 0) (l.getD s 0))
def placeL : List (List Nat) := [[0, 4, 8, 12], [1, 5, 9, 13], [2, 6, 10, 14], [3, 7, 11, 15], [0, 5, 10, 15], [1, 6, 11, 12], [2, 7, 8, 13], [3, 4, 9, 14]]
def placeAt (k m : Nat) : Nat := (placeL.getD k []).getD m 0
def turnN (l : List Nat) : Nat → List Nat
  | 0 => l
  | k + 1 => stepT (turnN l k) (placeAt k 0) (placeAt k 1) (placeAt k 2) (placeAt k 3)
def turnL (l : List Nat) : List Nat := turnN l 8
def roundN (l : List Nat) : Nat → List Nat
  | 0 => l
  | k + 1 => turnL (roundN l k)
def sumRow (r l : List Nat) : List Nat := (List.range 16).map fun j => (r.getD j 0 + l.getD j 0) % 4294967296
def bytesL (l : List Nat) : List UInt8 := joinL false (sumRow (roundN l 10) l)
theorem okL_at {l : List Nat} (h : okL l) (j : Nat) : l.getD j 0 < 4294967296 := by
  rw [List.getD_eq_getElem?_getD]
  rcases Nat.lt_or_ge j l.length with hj | hj
  · rw [List.getElem?_eq_getElem hj]; exact h.2 _ (List.getElem_mem hj)
  · rw [List.getElem?_eq_none hj]; exact (by omega : (0 : Nat) < 4294967296)
theorem okL_set {l : List Nat} (h : okL l) (i : Nat) {x : Nat} (hx : x < 4294967296) : okL (l.set i x) := by
  refine ⟨by rw [List.length_set]; exact h.1, fun y hy => ?_⟩
  rcases List.mem_or_eq_of_mem_set hy with hy | rfl
  · exact h.2 y hy
  · exact hx
theorem okL_put4 {l : List Nat} (h : okL l) (p q r s : Nat) {t : W4} (ht : t.ok) : okL (put4 l p q r s t) :=
  okL_set (okL_set (okL_set (okL_set h p ht.1) q ht.2.1) r ht.2.2.1) s ht.2.2.2
theorem okL_step {l : List Nat} (h : okL l) (p q r s : Nat) : okL (stepT l p q r s) := okL_put4 h p q r s (turnW_ok _ _ _ _ (okL_at h q) (okL_at h s))
theorem okL_turnN {l : List Nat} (h : okL l) : ∀ k, okL (turnN l k)
  | 0 => h
  | k + 1 => okL_step (okL_turnN h k) _ _ _ _
theorem okL_roundN {l : List Nat} (h : okL l) : ∀ k, okL (roundN l k)
  | 0 => h
  | k + 1 => okL_turnN (okL_roundN h k) 8
theorem okL_sum (r l : List Nat) : okL (sumRow r l) := by
  refine ⟨by simp [sumRow], fun x hx => ?_⟩
  obtain ⟨j, _, rfl⟩ := List.mem_map.1 hx
  exact Nat.mod_lt _ (by omega)
theorem bytesL_length (l : List Nat) : (bytesL l).length = 64 := by
  have h := (okL_sum (roundN l 10) l).1
  simp [bytesL, joinL, h]
theorem placeAt_lt (k m : Nat) (hk : k < 8) (hm : m < 4) : placeAt k m < 16 := by
  rcases (by omega : k = 0 ∨ k = 1 ∨ k = 2 ∨ k = 3 ∨ k = 4 ∨ k = 5 ∨ k = 6 ∨ k = 7) with rfl | rfl | rfl | rfl | rfl | rfl | rfl | rfl <;>
  rcases (by omega : m = 0 ∨ m = 1 ∨ m = 2 ∨ m = 3) with rfl | rfl | rfl | rfl <;> decide
def startL (key nonce : ByteArray) (n : Nat) : List Nat := [1634760805, 857760878, 2036477234, 1797285236] ++ cutL false key ++ [n] ++ cutL false nonce
theorem startL_ok (key nonce : ByteArray) (n : Nat) (hk : key.size = 32) (hn : nonce.size = 12) (h : n < 4294967296) : okL (startL key nonce n) := by
  refine ⟨by simp [startL, cutL_length, hk, hn], fun x hx => ?_⟩
  simp only [startL, List.append_assoc, List.mem_append, List.mem_cons, List.not_mem_nil, or_false] at hx
  rcases hx with hx | hx | rfl | hx
  · omega
  · exact cutL_lt _ _ _ hx
  · exact h
  · exact cutL_lt _ _ _ hx
theorem startL_12 (key nonce : ByteArray) (n : Nat) (hk : key.size = 32) : (startL key nonce n).getD 12 0 = n := by
  have h := cutL_length false key
  rw [hk] at h
  rw [startL, List.getD_eq_getElem?_getD, List.append_assoc, List.getElem?_append_right (by simp [h])]
  simp [h]
theorem startL_set (key nonce : ByteArray) (n m : Nat) (hk : key.size = 32) : (startL key nonce n).set 12 m = startL key nonce m := by
  have h := cutL_length false key
  rw [hk] at h
  have e : ∀ x, startL key nonce x = ([1634760805, 857760878, 2036477234, 1797285236] ++ cutL false key) ++ (x :: cutL false nonce) := fun x => by simp [startL]
  rw [e, e, List.set_append_right _ _ (by simp [h])]
  simp [h]
def zeroB (n : Nat) : ByteArray := ⟨(List.replicate n 0).toArray⟩
theorem block_example : (bytesL (startL (zeroB 32) (zeroB 12) 0)).take 4 = [118, 184, 224, 173] := by decide +kernel

/-! ### hiding -/
def ksAt (K : Nat → List UInt8) (n j : Nat) : UInt8 := (K (n + j / 64)).getD (j % 64) 0
def hideL (K : Nat → List UInt8) (n : Nat) (s : List UInt8) : List UInt8 := (List.range s.length).map fun j => s.getD j 0 ^^^ ksAt K n j
theorem hideL_length (K : Nat → List UInt8) (n : Nat) (s : List UInt8) : (hideL K n s).length = s.length := by simp [hideL]
theorem hideL_at (K : Nat → List UInt8) (n : Nat) (s : List UInt8) (j : Nat) (h : j < s.length) : (hideL K n s)[j]? = some (s.getD j 0 ^^^ ksAt K n j) := by simp [hideL, h]
theorem xor_self_back (x y : UInt8) : (x ^^^ y) ^^^ y = x := by rw [UInt8.xor_assoc, UInt8.xor_self, UInt8.xor_zero]
theorem hideL_back (K : Nat → List UInt8) (n : Nat) (s : List UInt8) : hideL K n (hideL K n s) = s := by
  apply List.ext_getElem?
  intro j
  rcases Nat.lt_or_ge j s.length with h | h
  · rw [hideL_at _ _ _ _ (by rw [hideL_length]; exact h), List.getD_eq_getElem?_getD, hideL_at _ _ _ _ h, Option.getD_some, xor_self_back, List.getD_eq_getElem?_getD, List.getElem?_eq_getElem h]
    rfl
  · rw [List.getElem?_eq_none (by rw [hideL_length, hideL_length]; exact h), List.getElem?_eq_none h]
theorem hideL_parts (K : Nat → List UInt8) (n m : Nat) (s : List UInt8) (h : 64 * m ≤ s.length) : hideL K n s = hideL K n (s.take (64 * m)) ++ hideL K (n + m) (s.drop (64 * m)) := by
  have ht : (s.take (64 * m)).length = 64 * m := by rw [List.length_take]; omega
  apply List.ext_getElem?
  intro j
  rcases Nat.lt_or_ge j (64 * m) with h1 | h1
  · rw [List.getElem?_append_left (by rw [hideL_length, ht]; exact h1), hideL_at _ _ _ _ (by omega), hideL_at _ _ _ _ (by rw [ht]; exact h1)]
    simp only [List.getD_eq_getElem?_getD, List.getElem?_take_of_lt h1]
  · rw [List.getElem?_append_right (by rw [hideL_length, ht]; exact h1), hideL_length, ht]
    rcases Nat.lt_or_ge j s.length with h2 | h2
    · rw [hideL_at _ _ _ _ h2, hideL_at _ _ _ _ (by rw [List.length_drop]; omega)]
      have e1 : 64 * m + (j - 64 * m) = j := by omega
      have e2 : n + m + (j - 64 * m) / 64 = n + j / 64 := by omega
      have e3 : (j - 64 * m) % 64 = j % 64 := by omega
      simp only [ksAt, List.getD_eq_getElem?_getD, List.getElem?_drop, e1, e2, e3]
    · rw [List.getElem?_eq_none (by rw [hideL_length]; exact h2), List.getElem?_eq_none (by rw [hideL_length, List.length_drop]; omega)]
def xorB (a b : List UInt8) : List UInt8 := List.zipWith (fun x y => x ^^^ y) a b
theorem xor_xor (x y z : UInt8) : (x ^^^ z) ^^^ (y ^^^ z) = x ^^^ y := by
  rw [UInt8.xor_comm y z, ← UInt8.xor_assoc, xor_self_back]
theorem hideL_xor (K : Nat → List UInt8) (n : Nat) (s t : List UInt8) (h : s.length = t.length) : xorB (hideL K n s) (hideL K n t) = xorB s t := by
  apply List.ext_getElem?
  intro j
  rw [xorB, xorB, List.getElem?_zipWith, List.getElem?_zipWith]
  rcases Nat.lt_or_ge j s.length with h1 | h1
  · rw [hideL_at _ _ _ _ h1, hideL_at _ _ _ _ (by omega), List.getElem?_eq_getElem h1, List.getElem?_eq_getElem (show j < t.length by omega)]
    simp only [List.getD_eq_getElem?_getD, List.getElem?_eq_getElem h1, List.getElem?_eq_getElem (show j < t.length by omega), Option.getD_some, xor_xor]
  · rw [List.getElem?_eq_none (by rw [hideL_length]; exact h1), List.getElem?_eq_none h1]
theorem hideL_inj (K : Nat → List UInt8) (n : Nat) (s t : List UInt8) (h : hideL K n s = hideL K n t) : s = t := by rw [← hideL_back K n s, h, hideL_back]
def ksB (key nonce : ByteArray) (m : Nat) : List UInt8 := bytesL (startL key nonce m)
end Go.Proofs.YtlkdofghhibmbaaDoor
