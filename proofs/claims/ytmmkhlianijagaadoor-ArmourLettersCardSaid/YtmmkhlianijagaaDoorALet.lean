/-
  keyholelaw10.ArmourLetters: the walk.
-/
import Derived.Test.YtmmkhlianijagaaDoorAr9
import Derived.Test.YtmmkhlianijagaaDoorArf3
namespace Go.Proofs.YtmmkhlianijagaaDoor
open Go.RowKit Go.Kx Go.Shelf Go.Arm
set_option maxRecDepth 20000

set_option maxHeartbeats 2000000 in
theorem alet_yes (s w : ByteArray) (hs : s.size ≤ 600) (hw : w.size ≤ 600) (W : World) (hK : Consts W) (hM : MaxCell W) :
    Calls Tryd.prog 3 #[.string s, .string w] W fun e w' => e = .returned (.bool true) ∧ Below W.heap.size W w' := by
  obtain ⟨l, hl⟩ : ∃ l : ByteArray, ⟨(letL s.data.toList).toArray⟩ = l := ⟨_, rfl⟩
  obtain ⟨a, e, ha⟩ : ∃ (a : ByteArray) (c : Int), bytR w.data.toList = (a.data.toList, c) := ⟨⟨(bytR w.data.toList).1.toArray⟩, (bytR w.data.toList).2, rfl⟩
  have HB : Hid (∀ V : World, Calls Tryd.prog 6 #[.string w] V fun e2 w' => e2 = .returned (.tuple #[.string a, .int .i64 e]) ∧ Below V.heap.size V w') := Lib.hid fun V => abytes_any w (by omega) a e ha V
  have HRB : Hid (∀ V : World, Calls Tryd.prog 7 #[.string w] V fun e2 w' => e2 = .returned (.tuple #[.string a, .int .i64 e]) ∧ Below V.heap.size V w') := Lib.hid fun V => rbytes_any w (by omega) a e ha V
  have HL : Hid (∀ V : World, Calls Tryd.prog 9 #[.string s] V fun e2 w' => e2 = .returned (.string l) ∧ Below V.heap.size V w') := Lib.hid fun V => letters_any s (by omega) l hl V
  have HRL : Hid (∀ V : World, Calls Tryd.prog 10 #[.string s] V fun e2 w' => e2 = .returned (.string l) ∧ Below V.heap.size V w') := Lib.hid fun V => rletters_any s (by omega) l hl V
  have t1 : ¬ (600 : Int) < (s.size : Int) := by omega
  have t2 : ¬ (600 : Int) < (w.size : Int) := by omega
  clear hl ha
  go_enter Tryd.func3, Tryd.ntmps3
  go_wp2_with fail
  refine (HB.out _).mono ?_
  rintro e1 w1 ⟨rfl, hb1⟩
  go_wp2_with fail
  refine (HRB.out _).mono ?_
  rintro e1 w2 ⟨rfl, hb2⟩
  replace hb1 := hb1.next hb2
  clear hb2
  go_wp2_with fail
  refine (arms_any _ (hK.keep hb1) (hM.keep hb1)).mono ?_
  rintro e1 w3 ⟨rfl, hb2⟩
  replace hb1 := hb1.next' hb2
  clear hb2
  go_wp2_with fail
  refine (HL.out _).mono ?_
  rintro e1 w4 ⟨rfl, hb2⟩
  replace hb1 := hb1.next' hb2
  clear hb2
  go_wp2_with fail
  refine (HRL.out _).mono ?_
  rintro e1 w5 ⟨rfl, hb2⟩
  replace hb1 := hb1.next' hb2
  clear hb2
  go_wp2
  go_ret
  exact ⟨ret_bool (by simp), hb1⟩
theorem alet_any (s w : ByteArray) (W : World) (hK : Consts W) (hM : MaxCell W) :
    Calls Tryd.prog 3 #[.string s, .string w] W fun e w' => e = .returned (.bool true) ∧ Below W.heap.size W w' := by
  by_cases hs : s.size ≤ 600
  · by_cases hw : w.size ≤ 600
    · exact alet_yes s w hs hw W hK hM
    · have h1 : ¬ (600 : Int) < (s.size : Int) := by omega
      have h2 : (600 : Int) < (w.size : Int) := by omega
      go_enter Tryd.func3, Tryd.ntmps3
      go_wp2
      go_ret
      exact ⟨rfl, Below.refl _ _⟩
  · have h1 : (600 : Int) < (s.size : Int) := by omega
    go_enter Tryd.func3, Tryd.ntmps3
    go_wp2
    go_ret
    exact ⟨rfl, Below.refl _ _⟩
end Go.Proofs.YtmmkhlianijagaaDoor
