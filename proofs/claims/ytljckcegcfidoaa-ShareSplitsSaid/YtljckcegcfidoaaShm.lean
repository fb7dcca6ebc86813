/-
  share: rows of 32 digits and their texts, as plain mathematics.
-/
import Derived.Test.YtljckcegcfidoaaRowa
import Derived.Test.YtljckcegcfidoaaPly2
namespace Go.Proofs.Ytljckcegcfidoaa
open Go.RowKit Go.Kx

/-- A row's cells. -/
def rowV (R : Nat → Gf.G) : Array Value := rowA .u8 32 (fun j => (R j).v)
theorem rowV_size (R : Nat → Gf.G) : (rowV R).size = 32 := rowA_size _ _ _
theorem rowV_congr {R S : Nat → Gf.G} (h : ∀ j, j < 32 → R j = S j) : rowV R = rowV S := by
  unfold rowV rowA
  congr 1
  refine List.map_congr_left fun j hj => ?_
  dsimp only
  rw [h j (List.mem_range.1 hj)]
theorem rowV_one (R : Nat → Gf.G) : (rowV R).all (·.oneCell') = true := all_one_ints (k := .u8) (g := fun j => ((R j).v : Nat)) (n := 32) rfl
theorem rowV_at (R : Nat → Gf.G) {j : Nat} (h : j < 32) : (rowV R)[j]? = some (.int .u8 ((R j).v : Nat)) := rowA_at _ _ _ _ h
/-- A text's digits. -/
def gOf (s : ByteArray) (j : Nat) : Gf.G := ⟨(s.data.toList.getD j 0).toNat, UInt8.toNat_lt _⟩
def txtL (R : Nat → Gf.G) : List UInt8 := (List.range 32).map fun j => UInt8.ofNat (R j).v
def txt (R : Nat → Gf.G) : ByteArray := ⟨(txtL R).toArray⟩
theorem txtL_length (R : Nat → Gf.G) : (txtL R).length = 32 := by simp [txtL]
theorem txt_size (R : Nat → Gf.G) : (txt R).size = 32 := by rw [txt, size_mk, txtL_length]
theorem txtL_at (R : Nat → Gf.G) {j : Nat} (h : j < 32) : (txtL R)[j]? = some (UInt8.ofNat (R j).v) := by simp [txtL, h]
theorem gOf_txt (R : Nat → Gf.G) {j : Nat} (h : j < 32) : gOf (txt R) j = R j := by
  apply Gf.G.ext'
  show ((txtL R).getD j 0).toNat = _
  rw [List.getD, txtL_at R h]
  have := (R j).lt
  simp
  omega
theorem txt_congr {R S : Nat → Gf.G} (h : ∀ j, j < 32 → R j = S j) : txt R = txt S := by
  unfold txt txtL
  congr 2
  refine List.map_congr_left fun j hj => ?_
  rw [h j (List.mem_range.1 hj)]
theorem txt_inj {R S : Nat → Gf.G} (h : txt R = txt S) : ∀ j, j < 32 → R j = S j := fun j hj => by rw [← gOf_txt R hj, h, gOf_txt S hj]
theorem txt_gOf {s : ByteArray} (h : s.size = 32) : txt (gOf s) = s := by
  obtain ⟨⟨l⟩⟩ := s
  have hl : l.length = 32 := h
  unfold txt
  congr 2
  apply List.ext_getElem?
  intro j
  by_cases hj : j < 32
  · rw [txtL_at _ hj]
    show some (UInt8.ofNat (l.getD j 0).toNat) = l[j]?
    rw [List.getD, List.getElem?_eq_getElem (by omega)]
    simp
  · rw [List.getElem?_eq_none (by rw [txtL_length]; omega), List.getElem?_eq_none (by omega)]
theorem gOf_ext {s t : ByteArray} (hs : s.size = 32) (ht : t.size = 32) (h : ∀ j, j < 32 → gOf s j = gOf t j) : s = t := by
  rw [← txt_gOf hs, ← txt_gOf ht, txt_congr h]
end Go.Proofs.Ytljckcegcfidoaa
