/-
  The 64 constants, where a row lists them: what the condition gives the walks.
-/
import Derived.Test.YtlkdofghhibmbaaDoorRows
import Derived.Test.YtlkdofghhibmbaaDoorDig2
import Derived.Test.YtlkdofghhibmbaaDoorLaidv
import Derived.OpenShut
namespace Go.Proofs.YtlkdofghhibmbaaDoor
open Go.RowKit Go.Kx
open Go.ChangeShapes Go.WideShapes Go.ChangeAt

theorem gK : Tryd.prog.globalNamed "keyhole/digest.constants" = some 1 := by kernel_rfl
theorem tK : (Tryd.prog.globals[1]?).map (·.type) = some 95 := by kernel_rfl
theorem consts_of {W : World} {L : List (String × DataW Unit)} (h : laidMetH Tryd.prog L W) (hp : (L.all fun x => x.2.handleName?.isNone) = true) (hm : ("keyhole/digest.constants", Rows.laid_keyhole_digest_constants) ∈ L) : Consts W := by
  obtain ⟨g0, t0, cs0, f0, p0, hg0, ht0, hv0, hd0⟩ := laid_var h hp hm
  obtain rfl := Option.some.inj (gK.symm.trans hg0)
  obtain rfl := Option.some.inj (tK.symm.trans ht0)
  obtain ⟨xs, m1, rfl, hx1, hlen, hn3, hel⟩ := DataW.trod_array Tryd.underlying95 hd0
  have hL : xs.map (·.1) = shaK.map (fun x : Nat => (DataW.lit (.int .u32 (x : Int)) : DataW Unit)) := by
    have h1 := (Prod.mk.inj hx1).1
    exact (DataW.agg.inj (h1.symm.trans (show (Rows.laid_keyhole_digest_constants : DataW Unit) = .agg (shaK.map (fun x : Nat => (DataW.lit (.int .u32 (x : Int)) : DataW Unit))) from rfl)))
  have c1 : Tryd.prog.cellsOf 92 = 1 := by kernel_rfl
  intro j v hv
  rw [Nat.zero_add, World.var?_cell hg0 hv0 j]
  obtain ⟨n, hn, rfl⟩ : ∃ n, shaK[j]? = some n ∧ Value.int .u32 (n : Int) = v := by simpa using hv
  have hj : j < 64 := (List.getElem?_eq_some_iff.1 hn).1
  have he := hel j hj
  rw [c1, Nat.mul_one, List.getElem?_eq_getElem (by omega)] at he
  obtain ⟨k, e1, e2, _⟩ := DataW.trod_int Tryd.underlying92 he
  have h2 : (xs.map (·.1))[j]? = some (xs[j]'(by omega)).1 := by rw [List.getElem?_map, List.getElem?_eq_getElem (by omega)]; rfl
  rw [hL, List.getElem?_map, hn, e2] at h2
  have hk : (n : Int) = k := by simpa using h2
  subst hk
  have h3 : (List.take 1 (List.drop j cs0.toList))[0]? = some (.int .u32 (n : Int)) := by rw [e1]; rfl
  simpa [List.getElem?_take] using h3
end Go.Proofs.YtlkdofghhibmbaaDoor
