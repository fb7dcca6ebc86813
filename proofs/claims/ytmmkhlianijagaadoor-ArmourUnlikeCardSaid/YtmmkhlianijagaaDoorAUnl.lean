/-
  keyholelaw10.ArmourUnlike: the walk.
-/
import Derived.Test.YtmmkhlianijagaaDoorAr9
namespace Go.Proofs.YtmmkhlianijagaaDoor
open Go.RowKit Go.Kx Go.Shelf Go.Arm
set_option maxRecDepth 20000

theorem eq_strs {a b s t : ByteArray} (h : a = b ↔ s = t) : (a.toList == b.toList) = (s.toList == t.toList) := by
  rw [Lib.toList_data, Lib.toList_data, Lib.toList_data, Lib.toList_data]
  by_cases he : s = t
  · rw [h.2 he, he, beq_self_eq_true, beq_self_eq_true]
  · have h1 : a ≠ b := fun e => he (h.1 e)
    rw [show (a.data.toList == b.data.toList) = false by rw [beq_eq_false_iff_ne]; exact fun e => h1 (ByteArray.ext (Array.toList_inj.1 e)),
      show (s.data.toList == t.data.toList) = false by rw [beq_eq_false_iff_ne]; exact fun e => he (ByteArray.ext (Array.toList_inj.1 e))]
set_option maxHeartbeats 2000000 in
theorem unlike_yes (s t : ByteArray) (hs : s.size ≤ 200) (ht : t.size ≤ 200) (W : World) (hK : Consts W) (hM : MaxCell W) :
    Calls Tryd.prog 5 #[.string s, .string t] W fun e w' => e = .returned (.bool true) ∧ Below W.heap.size W w' := by
  obtain ⟨a, ha⟩ : ∃ a : ByteArray, ⟨(putL sum3 s.data.toList).toArray⟩ = a := ⟨_, rfl⟩
  obtain ⟨b, hb⟩ : ∃ b : ByteArray, ⟨(putL sum3 t.data.toList).toArray⟩ = b := ⟨_, rfl⟩
  obtain ⟨l, hl⟩ : ∃ l : ByteArray, ⟨(letL s.data.toList).toArray⟩ = l := ⟨_, rfl⟩
  obtain ⟨m, hm⟩ : ∃ m : ByteArray, ⟨(letL t.data.toList).toArray⟩ = m := ⟨_, rfl⟩
  have hab : (a.toList == b.toList) = (s.toList == t.toList) := eq_strs ⟨fun e => by
    rw [← ha, ← hb] at e
    have e1 : putL sum3 s.data.toList = putL sum3 t.data.toList := congrArg (fun x : ByteArray => x.data.toList) e
    exact ByteArray.ext (Array.toList_inj.1 (put_inj sum3 sum3_len e1)), fun e => by rw [← ha, ← hb, e]⟩
  have hlm : (l.toList == m.toList) = (s.toList == t.toList) := eq_strs ⟨fun e => by
    rw [← hl, ← hm] at e
    have e1 : letL s.data.toList = letL t.data.toList := congrArg (fun x : ByteArray => x.data.toList) e
    exact ByteArray.ext (Array.toList_inj.1 (letL_inj e1)), fun e => by rw [← hl, ← hm, e]⟩
  have hlz : (l.size : Int) = (8 * (s.size : Int) + 4) / 5 := by
    rw [← hl, size_mk, letL_length]
    unfold lenN
    have : s.data.toList.length = s.size := by simp
    rw [this]
    omega
  have HA : Hid (∀ V : World, Consts V → Calls Tryd.prog 11 #[.string s] V fun e w' => e = .returned (.tuple #[.string a, .int .i64 0]) ∧ Below V.heap.size V w') := Lib.hid fun V hV => put_yes s hs a ha V hV
  have HB : Hid (∀ V : World, Consts V → Calls Tryd.prog 11 #[.string t] V fun e w' => e = .returned (.tuple #[.string b, .int .i64 0]) ∧ Below V.heap.size V w') := Lib.hid fun V hV => put_yes t ht b hb V hV
  have HL : Hid (∀ V : World, Calls Tryd.prog 9 #[.string s] V fun e w' => e = .returned (.string l) ∧ Below V.heap.size V w') := Lib.hid fun V => letters_any s (by omega) l hl V
  have HM : Hid (∀ V : World, Calls Tryd.prog 9 #[.string t] V fun e w' => e = .returned (.string m) ∧ Below V.heap.size V w') := Lib.hid fun V => letters_any t (by omega) m hm V
  obtain ⟨q, hq⟩ : ∃ q, (s.toList == t.toList) = q := ⟨_, rfl⟩
  rw [hq] at hab hlm
  clear ha hb hl hm
  go_enter Tryd.func5, Tryd.ntmps5
  go_wp2_with fail
  refine (HA.out _ hK).mono ?_
  rintro e w1 ⟨rfl, hb1⟩
  go_wp2_with fail
  refine (HB.out _ (hK.keep hb1)).mono ?_
  rintro e w2 ⟨rfl, hb2⟩
  replace hb1 := hb1.next hb2
  clear hb2
  go_wp2_with fail
  refine (HL.out _).mono ?_
  rintro e w3 ⟨rfl, hb2⟩
  replace hb1 := hb1.next' hb2
  clear hb2
  go_wp2_with fail
  refine (arms_any _ (hK.keep hb1) (hM.keep hb1)).mono ?_
  rintro e w4 ⟨rfl, hb2⟩
  replace hb1 := hb1.next' hb2
  clear hb2
  go_wp2_with fail
  refine (HM.out _).mono ?_
  rintro e w5 ⟨rfl, hb2⟩
  replace hb1 := hb1.next' hb2
  clear hb2
  go_wp2
  go_ret
  exact ⟨rfl, hb1⟩
theorem unlike_any (s t : ByteArray) (W : World) (hK : Consts W) (hM : MaxCell W) :
    Calls Tryd.prog 5 #[.string s, .string t] W fun e w' => e = .returned (.bool true) ∧ Below W.heap.size W w' := by
  by_cases hs : s.size ≤ 200
  · by_cases ht : t.size ≤ 200
    · exact unlike_yes s t hs ht W hK hM
    · have h1 : ¬ (200 : Int) < (s.size : Int) := by omega
      have h2 : (200 : Int) < (t.size : Int) := by omega
      go_enter Tryd.func5, Tryd.ntmps5
      go_wp2
      go_ret
      exact ⟨rfl, Below.refl _ _⟩
  · have h1 : (200 : Int) < (s.size : Int) := by omega
    go_enter Tryd.func5, Tryd.ntmps5
    go_wp2
    go_ret
    exact ⟨rfl, Below.refl _ _⟩
end Go.Proofs.YtmmkhlianijagaaDoor
