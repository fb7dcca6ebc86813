/-
  seal: the contract of count.
-/
import Derived.Test.YtapbjmeilhcmaaaDoorSlm
import Derived.Test.YtapbjmeilhcmaaaDoorTag9
namespace Go.Proofs.YtapbjmeilhcmaaaDoor
open Go.RowKit Go.Kx
set_option maxRecDepth 20000

def zero8b : Array Value := #[.int .u8 0, .int .u8 0, .int .u8 0, .int .u8 0, .int .u8 0, .int .u8 0, .int .u8 0, .int .u8 0]
theorem zero8b_row (w : World) (v : Nat) : (w.alloc (.cells zero8b 78)).rowIs w.heap.size 78 8 (fun j => .int .u8 (digAt v 0 j : Nat)) :=
  (rowIs_new (w := w) (t := 78) (n := 8) (z := .int .u8 0) (c := zero8b) rfl).congr fun j _ => by simp [digAt]
theorem two_eight (k : Nat) : 2 ^ (8 * k) = 256 ^ k := by rw [Nat.pow_mul]
set_option maxHeartbeats 1000000 in
theorem count_any (s : ByteArray) (r : ByteArray) (hr : ⟨(cntL s.size).toArray⟩ = r) (w : World) :
    Calls Tryd.prog 27 #[.string s] w fun e w' => e = .returned (.string r) ∧ Below w.heap.size w w' := by
  have hr0 := zero8b_row w s.size
  have hbw := Below.alloc0 w (.cells zero8b 78)
  have HR := Lib.hid hr
  unfold zero8b at hr0 hbw
  clear hr
  go_enter Tryd.func27, Tryd.ntmps27
  go_wp2
  generalize (w.alloc _) = W at *
  go_loopw [4, 5] (fun _ i wr => ∃ k : Nat, k ≤ 8 ∧ i = .int .i64 k ∧ wr.rowIs w.heap.size 78 8 (fun j => .int .u8 (digAt s.size k j : Nat)) ∧ Below w.heap.size w wr) (fun _ i _ => 8 - (intOf i).toNat)
  case atStart => exact ⟨0, by omega, rfl, hr0, hbw⟩
  case round =>
    clear hr0 hbw
    obtain ⟨k, hk, rfl, hr, hb⟩ := hrel
    by_cases hlt : k < 8
    · have HS := Lib.hid (digAt_set s.size k)
      have hx8 := digitV_lt s.size k
      have k0 : (k : Int) < 8 := by omega
      have HV : Hid ((s.size : Int) / 2 ^ (8 * k) % 256 = (digitV s.size k : Nat)) := Lib.hid (by
        rw [digitV, ← two_eight, Int.natCast_emod, Int.natCast_ediv, Int.natCast_pow]; rfl)
      have cx := hr.cell (i := k) hlt
      have fx := hr.frozen k
      generalize digAt s.size k k = y at cx
      go_wp2
      go_roundw
      case rel =>
        rw [HV.out]
        refine ⟨k + 1, by omega, by go_num, (hr.set k _).congr fun j _ => ?_, hb.setCell (p := ⟨w.heap.size, k, none⟩) (by simp) _⟩
        rw [← HS.out]
        split <;> rfl
      case measure => simp [intOf]; omega
    · obtain rfl : k = 8 := by omega
      rw [show ((8 : Nat) : Int) = 8 from rfl]
      have hconv : (convert 27 9 (.slice (some ⟨w.heap.size, 0, none⟩) 8 8)).run Tryd.prog wr = .ok (.string r) wr := by
        have hc := run_convert_bytes_back (P := Tryd.prog) wr 27 9 5 ⟨w.heap.size, 0, none⟩ 8 (cntL s.size) Tryd.underlying27 Tryd.underlying5 Tryd.underlying9 (fun j hj => by
          have hj' : j < 8 := by rw [cntL_length] at hj; exact hj
          have := hr.cell (i := j) hj'
          have h2 := cntL_at s.size j hj'
          rw [List.getD_eq_getElem?_getD, List.getElem?_eq_getElem hj] at h2
          rw [show (⟨w.heap.size, 0, none⟩ : Addr).add j = ⟨w.heap.size, j, none⟩ by unfold Addr.add; split <;> simp_all, this, digAt, if_pos hj', ← h2]
          rfl)
        rwa [cntL_length, HR.out] at hc
      go_wp2
      go_ret
      exact ⟨rfl, hb⟩
end Go.Proofs.YtapbjmeilhcmaaaDoor
