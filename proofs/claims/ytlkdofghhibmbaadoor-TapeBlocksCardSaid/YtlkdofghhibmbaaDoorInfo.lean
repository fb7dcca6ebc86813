/-
  What a whole number's type is (any program).
-/
import Derived.Test.YtlkdofghhibmbaaDoorChecked
import Derived.Test.YtlkdofghhibmbaaDoorWords
namespace Go.Proofs.YtlkdofghhibmbaaDoor
open Go.RowKit Go.Kx

theorem int_info : (Tryd.prog.info? 3).map (fun i => (i.zero, i.size, i.bytes)) = some (some (.int .i64 0), 1, 8) := by kernel_rfl
end Go.Proofs.YtlkdofghhibmbaaDoor
