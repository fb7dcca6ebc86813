/-
  digest.Step and keyholeref02.Step, refused: a state word out of range, or a block of other than 64 bytes.
-/
import Derived.Test.YtfcigggchnjkoaaDoorDig3
import Derived.Test.YtfcigggchnjkoaaDoorRef2
namespace Go.Proofs.YtfcigggchnjkoaaDoor
open Go.RowKit Go.Kx

set_option maxHeartbeats 1000000 in
theorem step_no (a b c d e f g h : Int) (blk : ByteArray) (hbad : [a, b, c, d, e, f, g, h].all okW = false ∨ blk.size ≠ 64) (w : World) :
    Calls Tryd.prog 8 #[.agg #[.int .i64 a, .int .i64 b, .int .i64 c, .int .i64 d, .int .i64 e, .int .i64 f, .int .i64 g, .int .i64 h], .string blk] w fun e w' => e = .returned (.tuple #[.agg #[.int .i64 0, .int .i64 0, .int .i64 0, .int .i64 0, .int .i64 0, .int .i64 0, .int .i64 0, .int .i64 0], .bool false]) ∧ Below w.heap.size w w' := by
  have hsl2 : Sl (w.alloc (.cells #[.int .i64 a, .int .i64 b, .int .i64 c, .int .i64 d, .int .i64 e, .int .i64 f, .int .i64 g, .int .i64 h] 22)) (some ⟨w.heap.size, 0, none⟩) ([a, b, c, d, e, f, g, h].map (.int .i64)) := Sl.new w 22 #[.int .i64 a, .int .i64 b, .int .i64 c, .int .i64 d, .int .i64 e, .int .i64 f, .int .i64 g, .int .i64 h]
  have HSL := Lib.hid (hsl2.keep (Below.alloc0 _ (.cells #[.int .i64 0, .int .i64 0, .int .i64 0, .int .i64 0, .int .i64 0, .int .i64 0, .int .i64 0, .int .i64 0] 22)))
  have hbw := ((Below.refl w.heap.size w).alloc (Nat.le_refl _) (.cells #[.int .i64 a, .int .i64 b, .int .i64 c, .int .i64 d, .int .i64 e, .int .i64 f, .int .i64 g, .int .i64 h] 22)).alloc (by simp) (.cells #[.int .i64 0, .int .i64 0, .int .i64 0, .int .i64 0, .int .i64 0, .int .i64 0, .int .i64 0, .int .i64 0] 22)
  have h4 : ((w.alloc (.cells #[.int .i64 a, .int .i64 b, .int .i64 c, .int .i64 d, .int .i64 e, .int .i64 f, .int .i64 g, .int .i64 h] 22)).alloc (.cells #[.int .i64 0, .int .i64 0, .int .i64 0, .int .i64 0, .int .i64 0, .int .i64 0, .int .i64 0, .int .i64 0] 22)).heap[w.heap.size + 1]? = some (.cells #[.int .i64 0, .int .i64 0, .int .i64 0, .int .i64 0, .int .i64 0, .int .i64 0, .int .i64 0, .int .i64 0] 22 (0, 0)) := by
    have h := heap_alloc_new (w.alloc (.cells #[.int .i64 a, .int .i64 b, .int .i64 c, .int .i64 d, .int .i64 e, .int .i64 f, .int .i64 g, .int .i64 h] 22)) (.cells #[.int .i64 0, .int .i64 0, .int .i64 0, .int .i64 0, .int .i64 0, .int .i64 0, .int .i64 0, .int .i64 0] 22)
    rwa [World.size_alloc] at h
  have hinf : (Tryd.prog.info? 22).map (·.size) = some (#[.int .i64 0, .int .i64 0, .int .i64 0, .int .i64 0, .int .i64 0, .int .i64 0, .int .i64 0, .int .i64 0] : Array Value).size := row8_size
  have hall : (#[.int .i64 0, .int .i64 0, .int .i64 0, .int .i64 0, .int .i64 0, .int .i64 0, .int .i64 0, .int .i64 0] : Array Value).all (·.oneCell') = true := by simp [Value.oneCell']
  have hne : [a, b, c, d, e, f, g, h].all okW = true → ((blk.size : Int) != 64) = true := fun h1 => by
    have h2 := hbad.resolve_left (by rw [h1]; simp)
    simp; omega
  clear hsl2 hbad
  go_enter Tryd.func8, Tryd.ntmps8
  go_wp2_with fail
  refine (is_any (some ⟨w.heap.size, 0, none⟩) 8 [a, b, c, d, e, f, g, h] _ (by simp) HSL.out).mono ?_
  rintro e' w1 ⟨rfl, rfl⟩
  clear HSL
  by_cases hok : [a, b, c, d, e, f, g, h].all okW = true
  · have hne' := hne hok
    rw [hok]
    clear hne hok
    generalize (w.alloc _).alloc _ = V at *
    go_wp2_with (refine wpList_store_row rfl _ _ _ rfl (w.heap.size + 1) _ rfl rfl _ _ h4 hinf rfl hall ?_)
    refine bodyPost_ret (v := .tuple #[.agg #[.int .i64 0, .int .i64 0, .int .i64 0, .int .i64 0, .int .i64 0, .int .i64 0, .int .i64 0, .int .i64 0], .bool false]) (results_cell_slot rfl _ _ (w.heap.size + 1) _ _ _ _ rfl (setRow_heap _ _ _ _ _ _ h4) Tryd.underlying22 rfl hinf _ rfl) rfl ⟨rfl, hbw.setRow (by omega) _⟩
  · rw [Bool.not_eq_true] at hok
    rw [hok]
    clear hne hok
    generalize (w.alloc _).alloc _ = V at *
    go_wp2_with (refine wpList_store_row rfl _ _ _ rfl (w.heap.size + 1) _ rfl rfl _ _ h4 hinf rfl hall ?_)
    refine bodyPost_ret (v := .tuple #[.agg #[.int .i64 0, .int .i64 0, .int .i64 0, .int .i64 0, .int .i64 0, .int .i64 0, .int .i64 0, .int .i64 0], .bool false]) (results_cell_slot rfl _ _ (w.heap.size + 1) _ _ _ _ rfl (setRow_heap _ _ _ _ _ _ h4) Tryd.underlying22 rfl hinf _ rfl) rfl ⟨rfl, hbw.setRow (by omega) _⟩
set_option maxHeartbeats 1000000 in
theorem rstep_no (a b c d e f g h : Int) (blk : ByteArray) (hbad : [a, b, c, d, e, f, g, h].all okW = false ∨ blk.size ≠ 64) (w : World) :
    Calls Tryd.prog 9 #[.agg #[.int .i64 a, .int .i64 b, .int .i64 c, .int .i64 d, .int .i64 e, .int .i64 f, .int .i64 g, .int .i64 h], .string blk] w fun e w' => e = .returned (.tuple #[.agg #[.int .i64 0, .int .i64 0, .int .i64 0, .int .i64 0, .int .i64 0, .int .i64 0, .int .i64 0, .int .i64 0], .bool false]) ∧ Below w.heap.size w w' := by
  have hsl2 : Sl (w.alloc (.cells #[.int .i64 a, .int .i64 b, .int .i64 c, .int .i64 d, .int .i64 e, .int .i64 f, .int .i64 g, .int .i64 h] 22)) (some ⟨w.heap.size, 0, none⟩) ([a, b, c, d, e, f, g, h].map (.int .i64)) := Sl.new w 22 #[.int .i64 a, .int .i64 b, .int .i64 c, .int .i64 d, .int .i64 e, .int .i64 f, .int .i64 g, .int .i64 h]
  have HSL := Lib.hid (hsl2.keep (Below.alloc0 _ (.cells #[.int .i64 0, .int .i64 0, .int .i64 0, .int .i64 0, .int .i64 0, .int .i64 0, .int .i64 0, .int .i64 0] 22)))
  have hbw := ((Below.refl w.heap.size w).alloc (Nat.le_refl _) (.cells #[.int .i64 a, .int .i64 b, .int .i64 c, .int .i64 d, .int .i64 e, .int .i64 f, .int .i64 g, .int .i64 h] 22)).alloc (by simp) (.cells #[.int .i64 0, .int .i64 0, .int .i64 0, .int .i64 0, .int .i64 0, .int .i64 0, .int .i64 0, .int .i64 0] 22)
  have h4 : ((w.alloc (.cells #[.int .i64 a, .int .i64 b, .int .i64 c, .int .i64 d, .int .i64 e, .int .i64 f, .int .i64 g, .int .i64 h] 22)).alloc (.cells #[.int .i64 0, .int .i64 0, .int .i64 0, .int .i64 0, .int .i64 0, .int .i64 0, .int .i64 0, .int .i64 0] 22)).heap[w.heap.size + 1]? = some (.cells #[.int .i64 0, .int .i64 0, .int .i64 0, .int .i64 0, .int .i64 0, .int .i64 0, .int .i64 0, .int .i64 0] 22 (0, 0)) := by
    have h := heap_alloc_new (w.alloc (.cells #[.int .i64 a, .int .i64 b, .int .i64 c, .int .i64 d, .int .i64 e, .int .i64 f, .int .i64 g, .int .i64 h] 22)) (.cells #[.int .i64 0, .int .i64 0, .int .i64 0, .int .i64 0, .int .i64 0, .int .i64 0, .int .i64 0, .int .i64 0] 22)
    rwa [World.size_alloc] at h
  have hinf : (Tryd.prog.info? 22).map (·.size) = some (#[.int .i64 0, .int .i64 0, .int .i64 0, .int .i64 0, .int .i64 0, .int .i64 0, .int .i64 0, .int .i64 0] : Array Value).size := row8_size
  have hall : (#[.int .i64 0, .int .i64 0, .int .i64 0, .int .i64 0, .int .i64 0, .int .i64 0, .int .i64 0, .int .i64 0] : Array Value).all (·.oneCell') = true := by simp [Value.oneCell']
  have hne : [a, b, c, d, e, f, g, h].all okW = true → ((blk.size : Int) != 64) = true := fun h1 => by
    have h2 := hbad.resolve_left (by rw [h1]; simp)
    simp; omega
  clear hsl2 hbad
  go_enter Tryd.func9, Tryd.ntmps9
  go_wp2_with fail
  refine (rall_any (some ⟨w.heap.size, 0, none⟩) 8 [a, b, c, d, e, f, g, h] _ (by simp) HSL.out).mono ?_
  rintro e' w1 ⟨rfl, rfl⟩
  clear HSL
  by_cases hok : [a, b, c, d, e, f, g, h].all okW = true
  · have hne' := hne hok
    rw [hok]
    clear hne hok
    generalize (w.alloc _).alloc _ = V at *
    go_wp2_with (refine wpList_store_row rfl _ _ _ rfl (w.heap.size + 1) _ rfl rfl _ _ h4 hinf rfl hall ?_)
    refine bodyPost_ret (v := .tuple #[.agg #[.int .i64 0, .int .i64 0, .int .i64 0, .int .i64 0, .int .i64 0, .int .i64 0, .int .i64 0, .int .i64 0], .bool false]) (results_cell_slot rfl _ _ (w.heap.size + 1) _ _ _ _ rfl (setRow_heap _ _ _ _ _ _ h4) Tryd.underlying22 rfl hinf _ rfl) rfl ⟨rfl, hbw.setRow (by omega) _⟩
  · rw [Bool.not_eq_true] at hok
    rw [hok]
    clear hne hok
    generalize (w.alloc _).alloc _ = V at *
    go_wp2_with (refine wpList_store_row rfl _ _ _ rfl (w.heap.size + 1) _ rfl rfl _ _ h4 hinf rfl hall ?_)
    refine bodyPost_ret (v := .tuple #[.agg #[.int .i64 0, .int .i64 0, .int .i64 0, .int .i64 0, .int .i64 0, .int .i64 0, .int .i64 0, .int .i64 0], .bool false]) (results_cell_slot rfl _ _ (w.heap.size + 1) _ _ _ _ rfl (setRow_heap _ _ _ _ _ _ h4) Tryd.underlying22 rfl hinf _ rfl) rfl ⟨rfl, hbw.setRow (by omega) _⟩
end Go.Proofs.YtfcigggchnjkoaaDoor
