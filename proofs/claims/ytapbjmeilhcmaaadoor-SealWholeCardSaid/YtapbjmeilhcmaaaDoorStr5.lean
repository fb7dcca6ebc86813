/-
  stream: start where it refuses; counted.
-/
import Derived.Test.YtapbjmeilhcmaaaDoorStr4
namespace Go.Proofs.YtapbjmeilhcmaaaDoor
open Go.RowKit Go.Kx
set_option maxRecDepth 20000

set_option maxHeartbeats 1000000 in
/-- Refused: what is no key, no nonce, or no counter. -/
theorem start_no (key nonce : ByteArray) (n : Int) (h : key.size = 32 ∧ nonce.size = 12 → okW n = false) (w : World) :
    Calls Tryd.prog 16 #[.string key, .string nonce, .int .i64 n] w fun e w' => e = .returned (.tuple #[.agg zero16, .bool false]) ∧ Below w.heap.size w w' := by
  have hinf : (Tryd.prog.info? 37).map (·.size) = some zero16.size := sv_info
  unfold zero16 at hinf ⊢
  by_cases h1 : key.size = 32
  · by_cases h2 : nonce.size = 12
    · have HOK := Lib.hid (h ⟨h1, h2⟩)
      clear h
      go_enter Tryd.func16, Tryd.ntmps16
      go_wp2_with fail
      refine (is_one n _ _ _ (by simp)).mono ?_
      rintro e w1 ⟨rfl, rfl⟩
      rw [HOK.out]
      go_wp2
      refine bodyPost_ret (v := .tuple #[.agg zero16, .bool false]) (results_cell_slot rfl _ _ w.heap.size _ _ _ _ rfl ((Below.heap_alloc _ _ _ (by simp)).trans (heap_alloc_new w _)) Tryd.underlying37 rfl hinf _ rfl) rfl ⟨rfl, (Below.alloc0 _ _).al _⟩
    · have t2 : ((nonce.size : Int) != 12) = true := by simp; omega
      clear h h2
      go_enter Tryd.func16, Tryd.ntmps16
      go_wp2
      refine bodyPost_ret (v := .tuple #[.agg zero16, .bool false]) (results_cell_slot rfl _ _ w.heap.size _ _ _ _ rfl (heap_alloc_new w _) Tryd.underlying37 rfl hinf _ rfl) rfl ⟨rfl, Below.alloc0 _ _⟩
  · have t1 : ((key.size : Int) != 32) = true := by simp; omega
    clear h h1
    go_enter Tryd.func16, Tryd.ntmps16
    go_wp2
    refine bodyPost_ret (v := .tuple #[.agg zero16, .bool false]) (results_cell_slot rfl _ _ w.heap.size _ _ _ _ rfl (heap_alloc_new w _) Tryd.underlying37 rfl hinf _ rfl) rfl ⟨rfl, Below.alloc0 _ _⟩
def countedB (n : Nat) (z : Nat) : Bool := decide ((z + 63) / 64 = 0) || decide (n + (z + 63) / 64 ≤ 4294967296)
theorem counted_any (n z : Nat) (hn : n < 4294967296) (hz : z ≤ 4000) (w : World) :
    Calls Tryd.prog 17 #[.int .i64 n, .int .i64 z] w fun e w' => e = .returned (.bool (countedB n z)) ∧ Below w.heap.size w w' := by
  obtain ⟨b, hb⟩ : ∃ b, (z + 63) / 64 = b := ⟨_, rfl⟩
  have hbl : b ≤ 63 := by omega
  have e1 : ((z : Int) + 64 - 1) / 64 = (b : Int) := by omega
  have HC : Hid (countedB n z = (decide (b = 0) || decide (n + b ≤ 4294967296))) := Lib.hid (by rw [countedB, hb])
  clear hb
  by_cases h0 : b = 0
  · subst h0
    have HC2 : Hid (countedB n z = true) := Lib.hid (by rw [HC.out]; rfl)
    clear HC
    rw [HC2.out]
    go_enter Tryd.func17, Tryd.ntmps17
    go_wp2
    go_ret
    exact ⟨rfl, Below.refl _ _⟩
  · have t0 : ((b : Int) == 0) = false := by simp; omega
    have e2 : (n : Int) + (b : Int) - 1 = ((n + b - 1 : Nat) : Int) := by omega
    have HOK : Hid (okW ((n + b - 1 : Nat) : Int) = countedB n z) := Lib.hid (by
      rw [HC.out]
      by_cases h : n + b ≤ 4294967296
      · rw [okW_t (by omega) (by omega)]; simp [h]
      · rw [okW_hi (by omega)]; simp [h, h0])
    clear HC
    go_enter Tryd.func17, Tryd.ntmps17
    go_wp2_with fail
    refine (is_one _ _ _ _ (by simp)).mono ?_
    rintro e w1 ⟨rfl, rfl⟩
    rw [HOK.out]
    go_wp2
    go_ret
    exact ⟨rfl, Below.alloc0 _ _⟩
end Go.Proofs.YtapbjmeilhcmaaaDoor
