/-
  keyholelaw10.arms: the document's rows.
-/
import Derived.Test.YtmmkhlianijagaaDoorAr7
namespace Go.Proofs.YtmmkhlianijagaaDoor
open Go.RowKit Go.Kx Go.Shelf Go.Arm
set_option maxRecDepth 20000

theorem dash_seven (l : List UInt8) (h : l.length = 7) : (dashF 0 l).length = 8 := by
  have h0 : l ≠ [] := by rintro rfl; simp at h
  have h5 : l.drop 5 ≠ [] := by
    intro e
    have := congrArg List.length e
    rw [List.length_drop, List.length_nil] at this
    omega
  have e1 := dash_split 0 l h0
  have e2 := dash_split 1 (l.drop 5) h5
  have e3 : (l.drop 5).drop 5 = [] := List.eq_nil_of_length_eq_zero (by rw [List.length_drop, List.length_drop]; omega)
  rw [Nat.mul_zero, if_neg (by omega)] at e1
  rw [e3, if_pos (by omega)] at e2
  rw [e1, e2]
  simp [dashF]
  omega
theorem put_x_len : (putL sum3 [120]).length = 8 := by
  refine dash_seven _ ?_
  rw [letL_length, List.length_append, sum3_len]
  rfl
theorem let_f (w : World) : Calls Tryd.prog 9 #[.string ⟨#[102]⟩] w fun e w' => e = .returned (.string ⟨#[109, 121]⟩) ∧ Below w.heap.size w w' := letters_any ⟨#[102]⟩ (by decide) ⟨#[109, 121]⟩ (by rw [show letL (ByteArray.mk #[102]).data.toList = [109, 121] by decide +kernel]) w
theorem let_fo (w : World) : Calls Tryd.prog 9 #[.string ⟨#[102, 111]⟩] w fun e w' => e = .returned (.string ⟨#[109, 122, 120, 113]⟩) ∧ Below w.heap.size w w' := letters_any ⟨#[102, 111]⟩ (by decide) ⟨#[109, 122, 120, 113]⟩ (by rw [show letL (ByteArray.mk #[102, 111]).data.toList = [109, 122, 120, 113] by decide +kernel]) w
theorem let_foobar (w : World) : Calls Tryd.prog 9 #[.string ⟨#[102, 111, 111, 98, 97, 114]⟩] w fun e w' => e = .returned (.string ⟨#[109, 122, 120, 119, 54, 121, 116, 98, 111, 105]⟩) ∧ Below w.heap.size w w' := letters_any ⟨#[102, 111, 111, 98, 97, 114]⟩ (by decide) ⟨#[109, 122, 120, 119, 54, 121, 116, 98, 111, 105]⟩ (by rw [show letL (ByteArray.mk #[102, 111, 111, 98, 97, 114]).data.toList = [109, 122, 120, 119, 54, 121, 116, 98, 111, 105] by decide +kernel]) w
theorem byt_mz (w : World) : Calls Tryd.prog 6 #[.string ⟨#[109, 122]⟩] w fun e w' => e = .returned (.tuple #[.string ⟨#[]⟩, .int .i64 100]) ∧ Below w.heap.size w w' := abytes_any ⟨#[109, 122]⟩ (by decide) ⟨#[]⟩ 100 (by decide +kernel) w
theorem byt_m (w : World) : Calls Tryd.prog 6 #[.string ⟨#[109]⟩] w fun e w' => e = .returned (.tuple #[.string ⟨#[]⟩, .int .i64 100]) ∧ Below w.heap.size w w' := abytes_any ⟨#[109]⟩ (by decide) ⟨#[]⟩ 100 (by decide +kernel) w
theorem byt_MY (w : World) : Calls Tryd.prog 6 #[.string ⟨#[77, 89]⟩] w fun e w' => e = .returned (.tuple #[.string ⟨#[]⟩, .int .i64 100]) ∧ Below w.heap.size w w' := abytes_any ⟨#[77, 89]⟩ (by decide) ⟨#[]⟩ 100 (by decide +kernel) w
theorem byt_my (w : World) : Calls Tryd.prog 6 #[.string ⟨#[109, 121]⟩] w fun e w' => e = .returned (.tuple #[.string ⟨#[102]⟩, .int .i64 0]) ∧ Below w.heap.size w w' := abytes_any ⟨#[109, 121]⟩ (by decide) ⟨#[102]⟩ 0 (by decide +kernel) w
set_option maxHeartbeats 1000000 in
theorem arms_any (w : World) (hK : Consts w) (hM : MaxCell w) :
    Calls Tryd.prog 8 #[] w fun e w' => e = .returned (.bool true) ∧ Below w.heap.size w w' := by
  obtain ⟨r, hr⟩ : ∃ r : ByteArray, ⟨(putL sum3 [120]).toArray⟩ = r := ⟨_, rfl⟩
  have hrl : r.data.toList = putL sum3 [120] := by rw [← hr]
  have hrz : r.size = 8 := by rw [← hr, size_mk, put_x_len]
  have HP : Hid (∀ V : World, Consts V → Calls Tryd.prog 11 #[.string ⟨#[120]⟩] V fun e w' => e = .returned (.tuple #[.string r, .int .i64 0]) ∧ Below V.heap.size V w') := Lib.hid fun V hV => put_yes ⟨#[120]⟩ (by decide) r (by rw [← hr]) V hV
  have HG : Hid (∀ V : World, Consts V → MaxCell V → Calls Tryd.prog 12 #[.string r] V fun e w' => e = .returned (.tuple #[.string ⟨#[120]⟩, .int .i64 0]) ∧ Below V.heap.size V w') := Lib.hid fun V hV hN =>
    get_any r (by omega) ⟨#[120]⟩ 0 (by unfold getR; rw [hrl, get_put sum3 sum3_len (s := [120]) (by decide)]) V hV hN
  clear hr hrl
  go_enter Tryd.func8, Tryd.ntmps8
  go_wp2_with fail
  refine (byt_mz _).mono ?_
  rintro e w1 ⟨rfl, hb1⟩
  go_wp2_with fail
  refine (byt_m _).mono ?_
  rintro e w2 ⟨rfl, hb2⟩
  replace hb1 := hb1.next hb2
  clear hb2
  go_wp2_with fail
  refine (byt_MY _).mono ?_
  rintro e w3 ⟨rfl, hb2⟩
  replace hb1 := hb1.next' hb2
  clear hb2
  go_wp2_with fail
  refine (byt_my _).mono ?_
  rintro e w4 ⟨rfl, hb2⟩
  replace hb1 := hb1.next' hb2
  clear hb2
  go_wp2_with fail
  refine (HP.out _ (hK.keep hb1)).mono ?_
  rintro e w5 ⟨rfl, hb2⟩
  replace hb1 := hb1.next' hb2
  clear hb2
  go_wp2_with fail
  refine (HG.out _ (hK.keep hb1) (hM.keep hb1)).mono ?_
  rintro e w6 ⟨rfl, hb2⟩
  replace hb1 := hb1.next' hb2
  clear hb2
  go_wp2_with fail
  refine (let_f _).mono ?_
  rintro e w7 ⟨rfl, hb2⟩
  replace hb1 := hb1.next' hb2
  clear hb2
  go_wp2_with fail
  refine (let_fo _).mono ?_
  rintro e w8 ⟨rfl, hb2⟩
  replace hb1 := hb1.next' hb2
  clear hb2
  go_wp2_with fail
  refine (let_foobar _).mono ?_
  rintro e w9 ⟨rfl, hb2⟩
  replace hb1 := hb1.next' hb2
  clear hb2
  go_wp2
  go_ret
  exact ⟨rfl, hb1⟩
end Go.Proofs.YtmmkhlianijagaaDoor
