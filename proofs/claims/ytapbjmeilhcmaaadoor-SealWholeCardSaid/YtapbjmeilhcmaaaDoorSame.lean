/-
  digest: the contract of Same.
-/
import Derived.Test.YtapbjmeilhcmaaaDoorChecked
import Derived.Test.YtapbjmeilhcmaaaDoorWords
namespace Go.Proofs.YtapbjmeilhcmaaaDoor
open Go.RowKit Go.Kx

theorem same_any (s t : ByteArray) (w : World) : Calls Tryd.prog 14 #[.string s, .string t] w fun e w' => e = .returned (.bool (s.toList == t.toList)) ∧ w = w' := by
  go_enter Tryd.func14, Tryd.ntmps14
  go_wp2
  go_ret
  exact ⟨ret_bool (by rfl), rfl⟩
end Go.Proofs.YtapbjmeilhcmaaaDoor
