/-
  keyholelaw03.macs (the document's rows) and large: the contracts.
-/
import Derived.Test.YtelplkidippclaaDoorKey4
namespace Go.Proofs.YtelplkidippclaaDoor
open Go.RowKit Go.Kx
set_option maxRecDepth 100000

theorem mac_lit (k s : ByteArray) (kl sl : List UInt8) (hk : k.data.toList = kl) (hs : s.data.toList = sl) (h1 : k.size ≤ 100000000) (h2 : s.size ≤ 100000000) (m : ByteArray) (hm : ⟨(macL kl sl).toArray⟩ = m) (w : World) (hK : Consts w) :
    Calls Tryd.prog 11 #[.string k, .string s] w fun e w' => e = .returned (.string m) ∧ Below w.heap.size w w' := by
  subst hk hs
  exact Mac_any k s h1 h2 m hm w hK
theorem check_lit (k s c : ByteArray) (kl sl : List UInt8) (hk : k.data.toList = kl) (hs : s.data.toList = sl) (h1 : k.size ≤ 100000000) (h2 : s.size ≤ 100000000) (m : ByteArray) (hm : ⟨(macL kl sl).toArray⟩ = m) (b : Bool) (hb : (c.toList == m.toList) = b) (w : World) (hK : Consts w) :
    Calls Tryd.prog 12 #[.string k, .string s, .string c] w fun e w' => e = .returned (.bool b) ∧ Below w.heap.size w w' := by
  subst hk hs
  exact Check_any k s c h1 h2 m hm b hb w hK
def jefeK : List UInt8 := [74, 101, 102, 101]
def jefeS : List UInt8 := [119, 104, 97, 116, 32, 100, 111, 32, 121, 97, 32, 119, 97, 110, 116, 32, 102, 111, 114, 32, 110, 111, 116, 104, 105, 110, 103, 63]
theorem macs_any (w : World) (hK : Consts w) :
    Calls Tryd.prog 10 #[] w fun e w' => e = .returned (.bool true) ∧ Below w.heap.size w w' := by
  obtain ⟨m, hm⟩ : ∃ m : ByteArray, ⟨(macL jefeK jefeS).toArray⟩ = m := ⟨_, rfl⟩
  obtain ⟨z, hz⟩ : ∃ z : ByteArray, ⟨(macL jefeK []).toArray⟩ = z := ⟨_, rfl⟩
  have HM := Lib.hid hm
  have HZ := Lib.hid hz
  have HH : Hid (∀ V : World, Calls Tryd.prog 22 #[.string m] V fun e w' => e = .returned (.string ⟨#[53, 98, 100, 99, 99, 49, 52, 54, 98, 102, 54, 48, 55, 53, 52, 101, 54, 97, 48, 52, 50, 52, 50, 54, 48, 56, 57, 53, 55, 53, 99, 55, 53, 97, 48, 48, 51, 102, 48, 56, 57, 100, 50, 55, 51, 57, 56, 51, 57, 100, 101, 99, 53, 56, 98, 57, 54, 52, 101, 99, 51, 56, 52, 51]⟩) ∧ Below V.heap.size V w') := Lib.hid (fun V => by
    have h := hex_any m (by rw [← hm, size_mk, macL_length]; omega) V
    rw [show m.data.toList = macL jefeK jefeS by rw [← hm], show hexL (macL jefeK jefeS) = _ from mac_jefe] at h
    exact h)
  have HB0 : Hid (((⟨#[]⟩ : ByteArray).toList == z.toList) = false) := Lib.hid (by
    rw [beq_eq_false_iff_ne]
    intro h
    have := congrArg List.length h
    rw [Lib.toList_data, Lib.toList_data, ← hz] at this
    simp [macL_length] at this)
  clear hm hz
  go_enter Tryd.func10, Tryd.ntmps10
  go_wp2_with fail
  refine (mac_lit _ _ jefeK jefeS rfl rfl (by decide) (by decide) m HM.out _ hK).mono ?_
  rintro e w1 ⟨rfl, hb1⟩
  have hK1 := hK.keep hb1
  go_wp2_with fail
  refine (expand_no _ _ 0 (by omega) _).mono ?_
  rintro e w2 ⟨rfl, hb2⟩
  have hK2 := hK1.keep hb2
  go_wp2_with fail
  refine (expand_no _ _ 8161 (by omega) _).mono ?_
  rintro e w3 ⟨rfl, hb3⟩
  have hK3 := hK2.keep hb3
  go_wp2_with fail
  refine (HH.out _).mono ?_
  rintro e w4 ⟨rfl, hb4⟩
  have hK4 := hK3.keep hb4
  go_wp2_with fail
  refine (check_lit _ _ m jefeK jefeS rfl rfl (by decide) (by decide) m HM.out true (by simp) _ hK4).mono ?_
  rintro e w5 ⟨rfl, hb5⟩
  have hK5 := hK4.keep hb5
  go_wp2_with fail
  refine (check_lit _ _ _ jefeK [] rfl rfl (by decide) (by decide) z HZ.out false HB0.out _ hK5).mono ?_
  rintro e w6 ⟨rfl, hb6⟩
  go_wp2
  go_ret
  exact ⟨rfl, hb1.next (hb2.next (hb3.next (hb4.next (hb5.next hb6))))⟩
end Go.Proofs.YtelplkidippclaaDoor
