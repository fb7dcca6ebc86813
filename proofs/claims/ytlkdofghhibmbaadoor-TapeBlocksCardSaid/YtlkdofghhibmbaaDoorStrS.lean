/-
  stream: start where it refuses.
-/
import Derived.Test.YtlkdofghhibmbaaDoorStr4
namespace Go.Proofs.YtlkdofghhibmbaaDoor
open Go.RowKit Go.Kx
set_option maxRecDepth 20000

set_option maxHeartbeats 1000000 in
/-- Refused: what is no key, no nonce, or no counter. -/
theorem start_no (key nonce : ByteArray) (n : Int) (h : key.size = 32 ∧ nonce.size = 12 → okW n = false) (w : World) :
    Calls Tryd.prog 26 #[.string key, .string nonce, .int .i64 n] w fun e w' => e = .returned (.tuple #[.agg zero16, .bool false]) ∧ Below w.heap.size w w' := by
  have hinf : (Tryd.prog.info? 57).map (·.size) = some zero16.size := sv_info
  unfold zero16 at hinf ⊢
  by_cases h1 : key.size = 32
  · by_cases h2 : nonce.size = 12
    · have HOK := Lib.hid (h ⟨h1, h2⟩)
      clear h
      go_enter Tryd.func26, Tryd.ntmps26
      go_wp2_with fail
      refine (is_one n _ _ _ (by simp)).mono ?_
      rintro e w1 ⟨rfl, rfl⟩
      rw [HOK.out]
      go_wp2
      refine bodyPost_ret (v := .tuple #[.agg zero16, .bool false]) (results_cell_slot rfl _ _ w.heap.size _ _ _ _ rfl ((Below.heap_alloc _ _ _ (by simp)).trans (heap_alloc_new w _)) Tryd.underlying57 rfl hinf _ rfl) rfl ⟨rfl, (Below.alloc0 _ _).al _⟩
    · have t2 : ((nonce.size : Int) != 12) = true := by simp; omega
      clear h h2
      go_enter Tryd.func26, Tryd.ntmps26
      go_wp2
      refine bodyPost_ret (v := .tuple #[.agg zero16, .bool false]) (results_cell_slot rfl _ _ w.heap.size _ _ _ _ rfl (heap_alloc_new w _) Tryd.underlying57 rfl hinf _ rfl) rfl ⟨rfl, Below.alloc0 _ _⟩
  · have t1 : ((key.size : Int) != 32) = true := by simp; omega
    clear h h1
    go_enter Tryd.func26, Tryd.ntmps26
    go_wp2
    refine bodyPost_ret (v := .tuple #[.agg zero16, .bool false]) (results_cell_slot rfl _ _ w.heap.size _ _ _ _ rfl (heap_alloc_new w _) Tryd.underlying57 rfl hinf _ rfl) rfl ⟨rfl, Below.alloc0 _ _⟩
end Go.Proofs.YtlkdofghhibmbaaDoor
