/-
  Parts of a string by slices (any program).
-/
import Derived.Test.YtlkdofghhibmbaaDoorWords
namespace Go.Kx
open Go.RowKit

theorem str_mid {P : Program} {t : TypeId} (h : P.underlying t = some .string) (s : ByteArray) (lo hi : Nat) (h1 : lo ≤ hi) (h2 : hi ≤ s.size) (V : World) :
    (Instr.slice t (.string s) (some (.int .i64 (lo : Int))) (some (.int .i64 (hi : Int))) none).run P V = .ok (.string (s.extract lo hi)) V := by
  have e1 : (Instr.sliceBound (.int .i64 (hi : Int)) s.size .sliceAlen).run P V = .ok hi V := by
    simp only [Instr.sliceBound, asIntOf, Sem.run_bind, Sem.run_pure, Result.andThen_ok, if_pos (show 0 ≤ (hi : Int) ∧ (hi : Int) ≤ (s.size : Int) by omega), Int.toNat_natCast]
  have e2 : (Instr.sliceBound (.int .i64 (lo : Int)) hi .sliceB).run P V = .ok lo V := by
    simp only [Instr.sliceBound, asIntOf, Sem.run_bind, Sem.run_pure, Result.andThen_ok, if_pos (show 0 ≤ (lo : Int) ∧ (lo : Int) ≤ (hi : Int) by omega), Int.toNat_natCast]
  simp only [Instr.slice, Instr.sliceBounds, Sem.run_bind, run_underlying h, Result.andThen_ok, Option.isSome_none, Bool.false_eq_true, if_false, Sem.run_pure, e1, e2]
theorem str_to {P : Program} {t : TypeId} (h : P.underlying t = some .string) (s : ByteArray) (hi : Nat) (h2 : hi ≤ s.size) (V : World) :
    (Instr.slice t (.string s) none (some (.int .i64 (hi : Int))) none).run P V = .ok (.string (s.extract 0 hi)) V := by
  have e1 : (Instr.sliceBound (.int .i64 (hi : Int)) s.size .sliceAlen).run P V = .ok hi V := by
    simp only [Instr.sliceBound, asIntOf, Sem.run_bind, Sem.run_pure, Result.andThen_ok, if_pos (show 0 ≤ (hi : Int) ∧ (hi : Int) ≤ (s.size : Int) by omega), Int.toNat_natCast]
  simp only [Instr.slice, Instr.sliceBounds, Sem.run_bind, run_underlying h, Result.andThen_ok, Option.isSome_none, Bool.false_eq_true, if_false, Sem.run_pure, e1]
theorem str_from {P : Program} {t : TypeId} (h : P.underlying t = some .string) (s : ByteArray) (lo : Nat) (h1 : lo ≤ s.size) (V : World) :
    (Instr.slice t (.string s) (some (.int .i64 (lo : Int))) none none).run P V = .ok (.string (s.extract lo s.size)) V := by
  have e2 : (Instr.sliceBound (.int .i64 (lo : Int)) s.size .sliceB).run P V = .ok lo V := by
    simp only [Instr.sliceBound, asIntOf, Sem.run_bind, Sem.run_pure, Result.andThen_ok, if_pos (show 0 ≤ (lo : Int) ∧ (lo : Int) ≤ (s.size : Int) by omega), Int.toNat_natCast]
  simp only [Instr.slice, Instr.sliceBounds, Sem.run_bind, run_underlying h, Result.andThen_ok, Option.isSome_none, Bool.false_eq_true, if_false, Sem.run_pure, e2]
theorem str_ext (s : ByteArray) (i j : Nat) : (s.extract i j).data.toList = (s.data.toList.drop i).take (j - i) := by
  simp [Array.toList_extract, List.extract_eq_take_drop]
end Go.Kx
