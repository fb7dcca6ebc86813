/-
  seal: the contract of Once.
-/
import Derived.Test.YtapbjmeilhcmaaaDoorSlm
import Derived.Test.YtapbjmeilhcmaaaDoorStr7
import Derived.Test.YtapbjmeilhcmaaaDoorSlices
namespace Go.Proofs.YtapbjmeilhcmaaaDoor
open Go.RowKit Go.Kx
set_option maxRecDepth 20000

theorem once_yes (key nonce : ByteArray) (hk : key.size = 32) (hn : nonce.size = 12) (r : ByteArray) (hr : ⟨(onceL key nonce).toArray⟩ = r) (w : World) (hK : Places w) :
    Calls Tryd.prog 10 #[.string key, .string nonce] w fun e w' => e = .returned (.tuple #[.string r, .int .i64 0]) ∧ Below w.heap.size w w' := by
  obtain ⟨b, hb⟩ : ∃ b : ByteArray, ⟨(bytesL (startL key nonce 0)).toArray⟩ = b := ⟨_, rfl⟩
  have hbl : b.data.toList = bytesL (startL key nonce 0) := by rw [← hb]
  have hbz : b.size = 64 := by rw [← hb, size_mk, bytesL_length]
  have HB : Hid (∀ V : World, Places V → Calls Tryd.prog 19 #[.string key, .string nonce, .int .i64 0] V fun e w' => e = .returned (.tuple #[.string b, .int .i64 0]) ∧ Below V.heap.size V w') :=
    Lib.hid fun V hV => block_yes key nonce 0 hk hn (by omega) b hb V hV
  have hsl : ∀ V : World, (Instr.slice 9 (.string b) none (some (.int .i64 32)) none).run Tryd.prog V = .ok (.string r) V := fun V => by
    have h := str_to Tryd.underlying9 b 32 (by omega) V
    have e : b.extract 0 32 = r := by
      rw [← hr]
      apply ByteArray.ext
      apply Array.toList_inj.1
      rw [str_ext, hbl]
      rfl
    rw [e] at h
    exact h
  clear hb hbl hbz hr hk hn
  go_enter Tryd.func10, Tryd.ntmps10
  go_wp2_with fail
  refine (HB.out _ hK).mono ?_
  rintro e w1 ⟨rfl, hb1⟩
  go_wp2
  go_ret2
  exact ⟨rfl, hb1⟩
theorem once_no (key nonce : ByteArray) (h : ¬ (key.size = 32 ∧ nonce.size = 12)) (w : World) :
    Calls Tryd.prog 10 #[.string key, .string nonce] w fun e w' => e = .returned (.tuple #[.string ⟨#[]⟩, .int .i64 1]) ∧ Below w.heap.size w w' := by
  have HB : Hid (∀ V : World, Calls Tryd.prog 19 #[.string key, .string nonce, .int .i64 0] V fun e w' => e = .returned (.tuple #[.string ⟨#[]⟩, .int .i64 1]) ∧ Below V.heap.size V w') :=
    Lib.hid fun V => block_no key nonce 0 (fun h2 => absurd h2 h) V
  clear h
  go_enter Tryd.func10, Tryd.ntmps10
  go_wp2_with fail
  refine (HB.out _).mono ?_
  rintro e w1 ⟨rfl, hb1⟩
  go_wp2
  go_ret2
  exact ⟨rfl, hb1⟩
end Go.Proofs.YtapbjmeilhcmaaaDoor
