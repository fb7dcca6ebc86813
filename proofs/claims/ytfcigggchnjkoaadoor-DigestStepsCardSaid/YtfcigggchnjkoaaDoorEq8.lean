/-
  Two equal rows of eight ints are told equal.
-/
import Derived.Test.YtfcigggchnjkoaaDoorWord
import Derived.ChangeKeysEq
import Derived.Laws.StructEq
namespace Go.Proofs.YtfcigggchnjkoaaDoor
open Go.RowKit Go.Kx

theorem cells_int : Tryd.prog.cellsOf 3 = 1 := by kernel_rfl
theorem eq8 (r0 r1 r2 r3 r4 r5 r6 r7 : Int) (V : World) : (Op.equalIn 10000 22 (.agg #[.int .i64 r0, .int .i64 r1, .int .i64 r2, .int .i64 r3, .int .i64 r4, .int .i64 r5, .int .i64 r6, .int .i64 r7]) (.agg #[.int .i64 r0, .int .i64 r1, .int .i64 r2, .int .i64 r3, .int .i64 r4, .int .i64 r5, .int .i64 r6, .int .i64 r7])).run Tryd.prog V = .ok true V := by
  obtain ⟨i0, hi, _⟩ := info_parts int_info
  rw [show (10000 : Nat) = 9999 + 1 from rfl, run_equalIn_array V 9999 _ _ Tryd.underlying22 hi]
  rw [cells_int, show List.range 8 = [0, 1, 2, 3, 4, 5, 6, 7] from rfl]
  have ha : ∀ w : World, (isAgg 3).run Tryd.prog w = .ok false w := fun w => by unfold isAgg; rw [Sem.run_bind, run_underlying Tryd.underlying3 w]; rfl
  have he : ∀ (r : Int) (w : World), (Op.equalIn 9999 3 (.int .i64 r) (.int .i64 r)).run Tryd.prog w = .ok true w := fun r w => by
    have h := run_equalIn_int (P := Tryd.prog) w 9998 3 .i64 .i64 r r Tryd.underlying3
    rw [beq_self_eq_true] at h
    exact h
  simp [Op.eqItems, part, ha, he]
end Go.Proofs.YtfcigggchnjkoaaDoor
