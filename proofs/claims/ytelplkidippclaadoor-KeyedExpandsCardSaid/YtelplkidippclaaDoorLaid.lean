/-
  The listed variable (the 64 constants): what the condition gives the walks, and that the door's own start meets it.
-/
import Derived.Test.YtelplkidippclaaDoorRows
import Derived.Test.YtelplkidippclaaDoorCards
import Derived.Test.YtelplkidippclaaDoorTie
import Derived.Test.YtelplkidippclaaDoorHex
import Derived.Test.YtelplkidippclaaDoorPost
import Derived.ProofKit
import Derived.LaidMore
import Derived.OpenShut
import Derived.Stop.Joined
import Derived.SevenTiedAt
namespace Go.Proofs.YtelplkidippclaaDoor
open Go.RowKit Go.Kx
open Go.ChangeShapes Go.WideShapes Go.ChangeAt

theorem own : ownKnob Tryd.prog.godebug = none := by kernel_rfl
theorem gK : Tryd.prog.globalNamed "keyhole/digest.constants" = some 0 := by kernel_rfl
theorem tK : (Tryd.prog.globals[0]?).map (·.type) = some 62 := by kernel_rfl
abbrev laidK {H : Type} : List (String × DataW H) := [("keyhole/digest.constants", Rows.laid_keyhole_digest_constants)]
theorem door_met (os : Os) (args : Array Value) : laidMetH Tryd.prog laidK ((World.doorLaid Tryd.prog 1000 os).forCall (fun _ _ => 0) ⟨#[], args, []⟩).memory :=
  laidMetH_of_parts3 (fuel := 8) (laidMet_of_run' 8 (by kernel_rfl) (by kernel_rfl)) (by kernel_rfl) (by kernel_rfl)
theorem consts_of_laid {W : World} (h : laidMetH Tryd.prog laidK W) : Consts W := by
  rw [MakeChecks.laidMetH_plain _ _ _ (by kernel_rfl)] at h
  obtain ⟨ps, ⟨g0, t0, cs0, f0, p0, q0, hg0, ht0, hv0, hd0, _, _⟩, _⟩ := h
  obtain rfl := Option.some.inj (gK.symm.trans hg0)
  obtain rfl := Option.some.inj (tK.symm.trans ht0)
  obtain ⟨xs, m1, rfl, hx1, hlen, hn3, hel⟩ := DataW.trod_array Tryd.underlying62 hd0
  have hL : xs.map (·.1) = shaK.map (fun x : Nat => (DataW.lit (.int .u32 (x : Int)) : DataW Unit)) := by
    have h1 := (Prod.mk.inj hx1).1
    exact (DataW.agg.inj (h1.symm.trans (show (Rows.laid_keyhole_digest_constants : DataW Unit) = .agg (shaK.map (fun x : Nat => (DataW.lit (.int .u32 (x : Int)) : DataW Unit))) from rfl)))
  have c1 : Tryd.prog.cellsOf 59 = 1 := by kernel_rfl
  intro j v hv
  rw [Nat.zero_add, World.var?_cell hg0 hv0 j]
  obtain ⟨n, hn, rfl⟩ : ∃ n, shaK[j]? = some n ∧ Value.int .u32 (n : Int) = v := by simpa using hv
  have hj : j < 64 := (List.getElem?_eq_some_iff.1 hn).1
  have he := hel j hj
  rw [c1, Nat.mul_one, List.getElem?_eq_getElem (by omega)] at he
  obtain ⟨k, e1, e2, _⟩ := DataW.trod_int Tryd.underlying59 he
  have h2 : (xs.map (·.1))[j]? = some (xs[j]'(by omega)).1 := by rw [List.getElem?_map, List.getElem?_eq_getElem (by omega)]; rfl
  rw [hL, List.getElem?_map, hn, e2] at h2
  have hk : (n : Int) = k := by simpa using h2
  subst hk
  have h3 : (List.take 1 (List.drop j cs0.toList))[0]? = some (.int .u32 (n : Int)) := by rw [e1]; rfl
  simpa [List.getElem?_take] using h3
end Go.Proofs.YtelplkidippclaaDoor
