/-
  tape, as plain mathematics over lists: what Take and Number answer, the rest of a block.
-/
import Derived.Test.YtlkdofghhibmbaaDoorWords
import Derived.Test.YtlkdofghhibmbaaDoorSlices
namespace Go.Proofs.YtlkdofghhibmbaaDoor
open Go.RowKit Go.Kx

/-- What Take answers: the bytes, the error, how many are taken then. -/
def takeR (all : List UInt8) (N : Nat) (n : Int) : List UInt8 × Int × Nat :=
  if n < 0 then ([], 1, N) else if (all.length : Int) - N < n then ([], 120, N) else ((all.drop N).take n.toNat, 0, N + n.toNat)
theorem takeR_neg {all : List UInt8} {N : Nat} {n : Int} (h : n < 0) : takeR all N n = ([], 1, N) := if_pos h
theorem takeR_out {all : List UInt8} {N : Nat} {n : Int} (h : ¬ n < 0) (h2 : (all.length : Int) - N < n) : takeR all N n = ([], 120, N) := by rw [takeR, if_neg h, if_pos h2]
theorem takeR_yes {all : List UInt8} {N n : Nat} (h : n ≤ all.length - N) (hN : N ≤ all.length) : takeR all N (n : Int) = ((all.drop N).take n, 0, N + n) := by
  rw [takeR, if_neg (by omega), if_neg (by omega), Int.toNat_natCast]
theorem takeR_le {all : List UInt8} {N : Nat} {n : Int} (hN : N ≤ all.length) : (takeR all N n).2.2 ≤ all.length := by
  unfold takeR
  split
  · exact hN
  · split
    · exact hN
    · show N + n.toNat ≤ _
      omega
/-- The number of three bytes, what is left of it by below. -/
def numI (l : List UInt8) (below : Int) : Int := (65536 * ((l.getD 0 0).toNat : Int) + 256 * ((l.getD 1 0).toNat : Int) + ((l.getD 2 0).toNat : Int)) % below
/-- What Number answers. -/
def numR (all : List UInt8) (N : Nat) (below : Int) : Int × Int × Nat :=
  if below < 1 ∨ 16777216 < below then (0, 1, N) else if (all.length : Int) - N < 3 then (0, 120, N) else (numI ((all.drop N).take 3) below, 0, N + 3)
theorem numR_le {all : List UInt8} {N : Nat} {n : Int} (hN : N ≤ all.length) : (numR all N n).2.2 ≤ all.length := by
  unfold numR
  split
  · exact hN
  · split
    · exact hN
    · show N + 3 ≤ _
      omega
/-- The bytes that are left of the block at which the next byte stands. -/
def restL (all : List UInt8) (N : Nat) : List UInt8 := (all.drop N).take (64 - N % 64)
theorem restL_length (all : List UInt8) (N : Nat) : (restL all N).length = min (64 - N % 64) (all.length - N) := by rw [restL, List.length_take, List.length_drop]
theorem restL_take (all : List UInt8) (N m : Nat) (h : m ≤ (restL all N).length) : (restL all N).take m = (all.drop N).take m := by
  rw [restL_length] at h
  rw [restL, List.take_take, Nat.min_eq_left (by omega)]
theorem take_more (D : List UInt8) (k m : Nat) : D.take k ++ (D.drop k).take m = D.take (k + m) := by
  rw [List.take_add]
end Go.Proofs.YtlkdofghhibmbaaDoor
