/-
  keyholelaw02.sums: the document's two rows hold.
-/
import Derived.Test.YtfcigggchnjkoaaDoorHex
namespace Go.Proofs.YtfcigggchnjkoaaDoor
open Go.RowKit Go.Kx

theorem same_any (s t : ByteArray) (w : World) : Calls Tryd.prog 17 #[.string s, .string t] w fun e w' => e = .returned (.bool (s.toList == t.toList)) ∧ w = w' := by
  go_enter Tryd.func17, Tryd.ntmps17
  go_wp2
  go_ret
  exact ⟨ret_bool (by rfl), rfl⟩
theorem same_aa (w : World) : Calls Tryd.prog 17 #[.string ⟨#[97]⟩, .string ⟨#[97]⟩] w fun e w' => e = .returned (.bool true) ∧ w = w' := by
  have h := same_any ⟨#[97]⟩ ⟨#[97]⟩ w
  rw [beq_self_eq_true] at h
  exact h
theorem same_ab (w : World) : Calls Tryd.prog 17 #[.string ⟨#[97]⟩, .string ⟨#[97, 98]⟩] w fun e w' => e = .returned (.bool false) ∧ w = w' := by
  have h := same_any ⟨#[97]⟩ ⟨#[97, 98]⟩ w
  rw [show ((ByteArray.mk #[97]).toList == (ByteArray.mk #[97, 98]).toList) = false by rw [Lib.toList_data, Lib.toList_data]; rfl] at h
  exact h
theorem hex_of (l m : List UInt8) (hm : hexL (sumL l) = m) (d : ByteArray) (hd : d = ⟨(sumL l).toArray⟩) (hl : (sumL l).length ≤ 100000) (w : World) :
    Calls Tryd.prog 33 #[.string d] w fun e w' => e = .returned (.string ⟨m.toArray⟩) ∧ Below w.heap.size w w' := by
  subst hm
  subst hd
  exact hex_any ⟨(sumL l).toArray⟩ (by rw [size_mk]; exact hl) w
theorem sumL_length (l : List UInt8) : (sumL l).length = 32 := by rw [sumL, joinL_length]; rfl
theorem sum_lit (l : List UInt8) (hl : l.length ≤ 1000000000) (d : ByteArray) (hd : d = ⟨(sumL l).toArray⟩) (w : World) (hK : Consts w) :
    Calls Tryd.prog 15 #[.string ⟨l.toArray⟩] w fun e w' => e = .returned (.string d) ∧ Below w.heap.size w w' := by
  subst hd
  have h := sum_any ⟨l.toArray⟩ (by rw [size_mk]; exact hl) w hK
  rw [show (ByteArray.mk l.toArray).data.toList = l from List.toList_toArray] at h
  exact h
set_option maxRecDepth 100000 in
theorem sums_any (w : World) (hK : Consts w) :
    Calls Tryd.prog 12 #[] w fun e w' => e = .returned (.bool true) ∧ Below w.heap.size w w' := by
  obtain ⟨d0, hd0⟩ : ∃ d : ByteArray, d = ⟨(sumL []).toArray⟩ := ⟨_, rfl⟩
  obtain ⟨d1, hd1⟩ : ∃ d : ByteArray, d = ⟨(sumL [97, 98, 99]).toArray⟩ := ⟨_, rfl⟩
  have H0 := Lib.hid hd0
  have H1 := Lib.hid hd1
  clear hd0 hd1
  go_enter Tryd.func12, Tryd.ntmps12
  go_wp2_with fail
  refine (sum_lit [] (by simp) d0 H0.out _ hK).mono ?_
  rintro e w1 ⟨rfl, hb1⟩
  go_wp2_with fail
  refine (hex_of [] _ sum_none d0 H0.out (by rw [sumL_length]; omega) _).mono ?_
  rintro e w2 ⟨rfl, hb2⟩
  go_wp2_with fail
  refine (sum_lit [97, 98, 99] (by simp) d1 H1.out _ (hK.keep (hb1.next hb2))).mono ?_
  rintro e w3 ⟨rfl, hb3⟩
  go_wp2_with fail
  refine (hex_of [97, 98, 99] _ sum_abc d1 H1.out (by rw [sumL_length]; omega) _).mono ?_
  rintro e w4 ⟨rfl, hb4⟩
  go_wp2_with fail
  refine (same_aa _).mono ?_
  rintro e w5 ⟨rfl, rfl⟩
  go_wp2_with fail
  refine (same_ab _).mono ?_
  rintro e w6 ⟨rfl, rfl⟩
  go_wp2
  go_ret
  exact ⟨rfl, hb1.next (hb2.next (hb3.next hb4))⟩
end Go.Proofs.YtfcigggchnjkoaaDoor
