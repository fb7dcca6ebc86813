/-
  keyholeref01.Many: the contract (a part of Refm).
-/
import Derived.Test.YtlkdofghhibmbaaDoorOwn
namespace Go.Proofs.YtlkdofghhibmbaaDoor
open Go.RowKit Go.Kx
set_option maxRecDepth 20000

def manyAt (c k j : Nat) : Nat := if j < k then c else 0
theorem manyAt_set (c k j : Nat) : (if j = k then c else manyAt c k j) = manyAt c (k + 1) j := by
  unfold manyAt
  by_cases h : j = k
  · subst h; simp
  · rw [if_neg h]
    by_cases h2 : j < k
    · rw [if_pos h2, if_pos (by omega)]
    · rw [if_neg h2, if_neg (by omega)]
set_option maxHeartbeats 1000000 in
theorem rmany_any (c : UInt8) (n : Nat) (hn : n ≤ 100000) (w : World) :
    Calls Tryd.prog 15 #[.int .u8 (c.toNat : Int), .int .i64 (n : Int)] w fun e w' => e = .returned (.string ⟨(List.replicate n c).toArray⟩) ∧ Below w.heap.size w w' := by
  have hmk := run_make_row' (P := Tryd.prog) 72 5 (.int .u8 0) 1 Tryd.underlying72 octet_info rfl .i64 .i64 n (by omega) (by omega)
  obtain ⟨y, hy⟩ : ∃ y : Nat, c.toNat = y := ⟨_, rfl⟩
  have HY := Lib.hid hy
  rw [hy]
  clear hy
  go_enter Tryd.func15, Tryd.ntmps15
  go_wp2
  go_loopw [6] (fun i wr => ∃ k : Nat, k ≤ n ∧ i = .int .i64 k ∧ wr.rowIs w.heap.size 5 n (fun j => .int .u8 (manyAt y k j : Nat)) ∧ Below w.heap.size w wr) (fun i _ => n - (intOf i).toNat)
  case atStart =>
    refine ⟨0, Nat.zero_le _, rfl, ?_, Below.alloc0 _ _⟩
    exact (World.rowIs_made w (.int .u8 0) n 5).congr (g := fun j => .int .u8 (manyAt y 0 j : Nat)) (fun j _ => by simp [manyAt])
  case round =>
    obtain ⟨k, hk, rfl, hrow, hb⟩ := hrel
    by_cases hlt : k < n
    · have hload := hrow.cell (i := k) hlt
      have hfz := hrow.frozen k
      generalize manyAt y k k = z at hload
      go_wp2
      go_roundw
      case rel =>
        refine ⟨k + 1, by omega, by go_num, (hrow.set k _).congr fun j _ => ?_, hb.setCell (p := ⟨w.heap.size, k, none⟩) (by simp) _⟩
        rw [← manyAt_set]
        split <;> rfl
      case measure => simp [intOf]; omega
    · obtain rfl : k = n := by omega
      have hconv : (convert 72 9 (.slice (some ⟨w.heap.size, 0, none⟩) k k)).run Tryd.prog wr = .ok (.string ⟨(List.replicate k c).toArray⟩) wr := by
        have hc := run_convert_bytes_back (P := Tryd.prog) wr 72 9 5 ⟨w.heap.size, 0, none⟩ k (List.replicate k c) Tryd.underlying72 Tryd.underlying5 Tryd.underlying9 (fun j hj => by
          have hj' : j < k := by simpa using hj
          have := hrow.cell (i := j) hj'
          rw [show (⟨w.heap.size, 0, none⟩ : Addr).add j = ⟨w.heap.size, j, none⟩ by unfold Addr.add; split <;> simp_all, this, manyAt, if_pos hj', ← HY.out]
          simp)
        rwa [List.length_replicate] at hc
      generalize hout : List.replicate k c = out at *
      have HO := Lib.hid hout
      clear hout
      go_wp2
      go_ret
      exact ⟨by rw [HO.out]; rfl, hb⟩
end Go.Proofs.YtlkdofghhibmbaaDoor
