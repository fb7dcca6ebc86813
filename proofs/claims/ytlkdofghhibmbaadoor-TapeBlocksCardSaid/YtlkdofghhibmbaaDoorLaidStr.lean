/-
  The table of places, where a row lists it: what the condition gives the walks.
-/
import Derived.Test.YtlkdofghhibmbaaDoorRows
import Derived.Test.YtlkdofghhibmbaaDoorStr2
import Derived.Test.YtlkdofghhibmbaaDoorLaidv
import Derived.OpenShut
namespace Go.Proofs.YtlkdofghhibmbaaDoor
open Go.RowKit Go.Kx
open Go.ChangeShapes Go.WideShapes Go.ChangeAt

theorem gP : Tryd.prog.globalNamed "keyhole/stream.places" = some 0 := by kernel_rfl
theorem tP : (Tryd.prog.globals[0]?).map (·.type) = some 113 := by kernel_rfl
theorem flat_at : ∀ a, a < 8 → ∀ b, b < 4 → placeL.flatten[a * 4 + b]? = some (placeAt a b) := by decide
theorem row_at : ∀ a, a < 8 → ∀ b, b < 4 → (placeL[a]?.bind fun r => r[b]?) = some (placeAt a b) := by decide
def litL (r : List Nat) : List (DataW Unit) := r.map fun x : Nat => DataW.lit (.int .i64 (x : Int))
theorem places_of {W : World} {L : List (String × DataW Unit)} (h : laidMetH Tryd.prog L W) (hp : (L.all fun x => x.2.handleName?.isNone) = true) (hm : ("keyhole/stream.places", Rows.laid_keyhole_stream_places) ∈ L) : Places W := by
  obtain ⟨g0, t0, cs0, f0, p0, hg0, ht0, hv0, hd0⟩ := laid_var h hp hm
  obtain rfl := Option.some.inj (gP.symm.trans hg0)
  obtain rfl := Option.some.inj (tP.symm.trans ht0)
  obtain ⟨xs, m1, rfl, hx1, hlen, hn3, hel⟩ := DataW.trod_array Tryd.underlying113 hd0
  have hL : xs.map (·.1) = placeL.map (fun r => DataW.agg (litL r)) := by
    have h1 := (Prod.mk.inj hx1).1
    exact (DataW.agg.inj (h1.symm.trans (show (Rows.laid_keyhole_stream_places : DataW Unit) = .agg (placeL.map (fun r => DataW.agg (litL r))) from rfl)))
  have c4 : Tryd.prog.cellsOf 112 = 4 := by kernel_rfl
  have c1 : Tryd.prog.cellsOf 3 = 1 := by kernel_rfl
  intro j v hv
  rw [Nat.zero_add, World.var?_cell hg0 hv0 j]
  obtain ⟨n, hn, rfl⟩ : ∃ n, placeL.flatten[j]? = some n ∧ Value.int .i64 (n : Int) = v := Option.map_eq_some_iff.1 (by rw [← List.getElem?_map]; exact hv)
  have hj : j < 32 := (List.getElem?_eq_some_iff.1 hn).1
  obtain ⟨a, b, ha, hb, rfl⟩ : ∃ a b, a < 8 ∧ b < 4 ∧ j = a * 4 + b := ⟨j / 4, j % 4, by omega, by omega, by omega⟩
  rw [flat_at a ha b hb] at hn
  obtain rfl := Option.some.inj hn
  have he := hel a ha
  rw [c4, List.getElem?_eq_getElem (by omega)] at he
  have h2 : (xs.map (·.1))[a]? = some (xs[a]'(by omega)).1 := by rw [List.getElem?_map, List.getElem?_eq_getElem (by omega)]; rfl
  generalize (xs[a]'(by omega)) = y at he h2
  obtain ⟨ys, m2, rfl, hy1, hlen2, hn4, hel2⟩ := DataW.trod_array Tryd.underlying112 he
  rw [hL, List.getElem?_map, hy1] at h2
  obtain ⟨r, hr, hr2⟩ := Option.map_eq_some_iff.1 h2
  have hyr : litL r = ys.map (·.1) := DataW.agg.inj hr2
  have hrb := row_at a ha b hb
  rw [hr] at hrb
  have hrb2 : r[b]? = some (placeAt a b) := hrb
  have he2 := hel2 b hb
  rw [c1, Nat.mul_one, List.getElem?_eq_getElem (by omega)] at he2
  obtain ⟨k, e1, e2, _⟩ := DataW.trod_int Tryd.underlying3 he2
  have h3 : (ys.map (·.1))[b]? = some (ys[b]'(by omega)).1 := by rw [List.getElem?_map, List.getElem?_eq_getElem (by omega)]; rfl
  rw [← hyr, litL, List.getElem?_map, hrb2, e2] at h3
  have hk : ((placeAt a b : Nat) : Int) = k := by simpa using h3
  rw [hk]
  have h4 : (List.take 1 (List.drop b (List.take 4 (List.drop (a * 4) cs0.toList))))[0]? = some (.int .i64 k) := by rw [e1]; rfl
  rw [List.getElem?_take_of_lt (by omega), List.getElem?_drop, Nat.add_zero, List.getElem?_take_of_lt (by omega), List.getElem?_drop] at h4
  simpa using h4
end Go.Proofs.YtlkdofghhibmbaaDoor
