/-
  keyed, as plain mathematics over lists of bytes: a key's block, its pads, a Mac, the parts of an Expand.
-/
import Derived.Test.YtelplkidippclaaDoorHex
namespace Go.Proofs.YtelplkidippclaaDoor
open Go.RowKit Go.Kx

def keyL (k : List UInt8) : List UInt8 := if 64 < k.length then sumL k else k
def blkL (k : List UInt8) : List UInt8 := keyL k ++ List.replicate (64 - (keyL k).length) 0
def padX (k : List UInt8) (x : UInt8) : List UInt8 := k.map (· ^^^ x)
def macB (k s : List UInt8) : List UInt8 := sumL (padX k 92 ++ sumL (padX k 54 ++ s))
def macL (key s : List UInt8) : List UInt8 := macB (blkL key) s
def partB (k info : List UInt8) : Nat → List UInt8
  | 0 => []
  | i + 1 => macB k (partB k info i ++ info ++ [UInt8.ofNat (i + 1)])
def madeB (k info : List UInt8) : Nat → List UInt8
  | 0 => []
  | i + 1 => madeB k info i ++ partB k info (i + 1)
def expL (key info : List UInt8) (n : Nat) : List UInt8 := (madeB (blkL key) info 255).take n

theorem keyL_le (k : List UInt8) : (keyL k).length ≤ 64 := by
  unfold keyL
  split
  · rw [sumL_length]; omega
  · omega
theorem blkL_length (k : List UInt8) : (blkL k).length = 64 := by
  have := keyL_le k
  rw [blkL, List.length_append, List.length_replicate]; omega
theorem padX_length (k : List UInt8) (x : UInt8) : (padX k x).length = k.length := by simp [padX]
theorem macB_length (k s : List UInt8) : (macB k s).length = 32 := sumL_length _
theorem macL_length (k s : List UInt8) : (macL k s).length = 32 := sumL_length _
theorem partB_length (k info : List UInt8) (i : Nat) : (partB k info (i + 1)).length = 32 := sumL_length _
theorem partB_le (k info : List UInt8) (i : Nat) : (partB k info i).length ≤ 32 := by
  cases i with
  | zero => simp [partB]
  | succ i => rw [partB_length]; exact Nat.le_refl _
theorem madeB_length (k info : List UInt8) (i : Nat) : (madeB k info i).length = 32 * i := by
  induction i with
  | zero => rfl
  | succ i ih => rw [madeB, List.length_append, ih, partB_length]; omega
theorem madeB_prefix (k info : List UInt8) (i j : Nat) : madeB k info i <+: madeB k info (i + j) := by
  induction j with
  | zero => exact List.prefix_rfl
  | succ j ih => exact ih.trans ⟨_, rfl⟩
theorem madeB_take (k info : List UInt8) (i n : Nat) (hi : i ≤ 255) (hn : n ≤ 32 * i) : (madeB k info i).take n = (madeB k info 255).take n := by
  obtain ⟨j, hj⟩ : ∃ j, 255 = i + j := ⟨255 - i, by omega⟩
  obtain ⟨t, ht⟩ := madeB_prefix k info i j
  rw [hj, ← ht, List.take_append_of_le_length (by rw [madeB_length]; omega)]
theorem expL_of (key info : List UInt8) (i n : Nat) (hi : i ≤ 255) (hn : n ≤ 32 * i) : (madeB (blkL key) info i).take n = expL key info n := madeB_take _ _ i n hi hn
theorem expL_length (key info : List UInt8) (n : Nat) (hn : n ≤ 8160) : (expL key info n).length = n := by
  rw [expL, List.length_take, madeB_length]; omega
theorem expL_front (key info : List UInt8) (n m : Nat) (h : n ≤ m) : (expL key info m).take n = expL key info n := by
  rw [expL, expL, List.take_take, Nat.min_eq_left h]
/-- A key, and it with bytes 0 behind, up to 64, have one block. -/
theorem blkL_zeros (k : List UInt8) (n : Nat) (hn : k.length + n ≤ 64) : blkL (k ++ List.replicate n 0) = blkL k := by
  have h1 : ¬ 64 < (k ++ List.replicate n 0).length := by simp; omega
  have h2 : ¬ 64 < k.length := by omega
  rw [blkL, blkL, keyL, keyL, if_neg h1, if_neg h2, List.append_assoc, List.replicate_append_replicate]
  congr 2
  simp; omega
/-- A key of more than 64 bytes is as its digest. -/
theorem blkL_long (k : List UInt8) (h : 64 < k.length) : blkL (sumL k) = blkL k := by
  have h1 : ¬ 64 < (sumL k).length := by rw [sumL_length]; omega
  rw [blkL, blkL, keyL, keyL, if_neg h1, if_pos h]
set_option maxRecDepth 100000
theorem mac_jefe : hexL (macL [74, 101, 102, 101] [119, 104, 97, 116, 32, 100, 111, 32, 121, 97, 32, 119, 97, 110, 116, 32, 102, 111, 114, 32, 110, 111, 116, 104, 105, 110, 103, 63]) =
  [53, 98, 100, 99, 99, 49, 52, 54, 98, 102, 54, 48, 55, 53, 52, 101, 54, 97, 48, 52, 50, 52, 50, 54, 48, 56, 57, 53, 55, 53, 99, 55, 53, 97, 48, 48, 51, 102, 48, 56, 57, 100, 50, 55, 51, 57, 56, 51, 57, 100, 101, 99, 53, 56, 98, 57, 54, 52, 101, 99, 51, 56, 52, 51] := by decide +kernel
end Go.Proofs.YtelplkidippclaaDoor
