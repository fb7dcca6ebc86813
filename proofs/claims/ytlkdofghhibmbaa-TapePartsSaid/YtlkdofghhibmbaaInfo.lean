/-
  What a whole number's type is (any program).
-/
import Derived.Test.YtlkdofghhibmbaaChecked
import Derived.Test.YtlkdofghhibmbaaWords
namespace Go.Proofs.Ytlkdofghhibmbaa
open Go.RowKit Go.Kx

theorem int_info : (Try.prog.info? 3).map (fun i => (i.zero, i.size, i.bytes)) = some (some (.int .i64 0), 1, 8) := by kernel_rfl
end Go.Proofs.Ytlkdofghhibmbaa
