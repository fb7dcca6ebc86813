/-
  Chunks of a text: what a fold over them and a slice of the text say (over the digest's mathematics).
-/
import Derived.Test.YtelplkidippclaaDoorHex
import Derived.Deep.CutRange
import Derived.Deep.DeepCutAuto
namespace Go.Proofs.YtelplkidippclaaDoor
open Go.RowKit Go.Kx
set_option maxRecDepth 20000

theorem row8_newi {w : World} {t : TypeId} (m : St) : (w.alloc (.cells #[.int .i64 m.a, .int .i64 m.b, .int .i64 m.c, .int .i64 m.d, .int .i64 m.e, .int .i64 m.f, .int .i64 m.g, .int .i64 m.h] t)).rowIs w.heap.size t 8 (fun j => .int .i64 (m.at j : Nat)) :=
  World.rowIs_alloc w (rowA .i64 8 m.at) t (fun j => .int .i64 (m.at j : Nat)) (fun j hj => rowA_at .i64 8 m.at j (by simpa [rowA_size] using hj))
theorem chunk_ext (a : ByteArray) (L : List UInt8) (hL : a.data.toList = L) (j : Nat) (hj : j % 64 = 0) (h : j + 64 ≤ a.size) : a.extract j (j + 64) = chunkB L (j / 64) ∧ (chunkB L (j / 64)).size = 64 := by
  subst hL
  have hl : a.data.toList.length = a.size := by simp
  refine ⟨?_, ?_⟩
  · apply ByteArray.ext
    apply Array.toList_inj.1
    rw [Lib.extract_data, chunkB, chunkAt, show 64 * (j / 64) = j by omega, show j + 64 - j = 64 by omega]
  · rw [chunkB, size_mk, chunkAt, List.length_take, List.length_drop]; omega
theorem fold_next (L : List UInt8) (j : Nat) (hj : j % 64 = 0) (h : j + 64 ≤ L.length) : stepL (foldS ((chunksB L).take (j / 64))) (chunkB L (j / 64)).data.toList = foldS ((chunksB L).take ((j + 64) / 64)) := by
  rw [← foldS_snoc, chunksB_take L (j / 64) (by omega), show (j + 64) / 64 = j / 64 + 1 by omega]
theorem run_slice_chunk (a : ByteArray) (L : List UInt8) (hL : a.data.toList = L) (j : Nat) (hj : j % 64 = 0) (h : j + 64 ≤ a.size) (V : World) :
    (Instr.slice 9 (.string a) (some (.int .i64 (j : Int))) (some (.int .i64 ((j : Int) + 64))) none).run Tryd.prog V = .ok (.string (chunkB L (j / 64))) V := by
  rw [run_slice_str Tryd.underlying9 a _ _ (by omega) (by omega) (by omega), Int.toNat_natCast, show ((j : Int) + 64).toNat = j + 64 by omega, (chunk_ext a L hL j hj h).1]

end Go.Proofs.YtelplkidippclaaDoor
