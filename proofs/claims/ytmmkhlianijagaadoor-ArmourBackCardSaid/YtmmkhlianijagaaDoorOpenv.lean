/-
  An api.Share argument by value, opened.
-/
import Derived.Test.YtmmkhlianijagaaDoorChecked
import Derived.Test.YtmmkhlianijagaaDoorPost
import Derived.Lib.SmallJoins
namespace Go.Proofs.YtmmkhlianijagaaDoor
open Go.RowKit Go.Kx
open Go.ChangeShapes Go.WideShapes Go.ChangeAt Go.ChangeMaps Go.Joins
set_option maxRecDepth 100000
section
variable {H : Type} {enc : TypeId × Value → H}
theorem share_under : ∃ f0 f1, Tryd.prog.underlying 29 = some (.struct #[f0, f1]) ∧ f0.type = 3 ∧ f1.type = 9 ∧ Go.Deep.oneCellFields Tryd.prog #[f0, f1] = true := ⟨_, _, Tryd.underlying29, rfl, rfl, by kernel_rfl⟩
theorem share_cells : Tryd.prog.cellsOf 29 = 2 := by kernel_rfl
theorem open_shareV {w : World} {base b0 : Nat} {spare : Nat → Bool} {held : Bool} {r : Reach} {v : Value} {d : DataW H} {p : List MemPlace} (hv : Value.okWide Tryd.prog w r b0 29 v) (h : DataW.Trod enc Tryd.prog w base spare held 29 v d p) :
    ∃ (X : Int) (b : ByteArray), v = .agg #[.int .i64 X, .string b] := by
  obtain ⟨f0, f1, hs, t0, t1, hone⟩ := share_under
  obtain ⟨v0, v1, y0, y1, n, rfl, _, _, h0, h1⟩ := open_agg2 hs hone share_cells hv h
  rw [t0] at h0
  rw [t1] at h1
  obtain ⟨X, e0, _⟩ := DataW.trod_int Tryd.underlying3 h0
  obtain ⟨b, e1, _⟩ := DataW.trod_string Tryd.underlying9 h1
  simp at e0 e1
  exact ⟨X, b, by rw [e0, e1]⟩
end
end Go.Proofs.YtmmkhlianijagaaDoor
