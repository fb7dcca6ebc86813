/-
  poly: the contract of Weights.
-/
import Derived.Test.YtljckcegcfidoaaPly7
namespace Go.Proofs.Ytljckcegcfidoaa
open Go.RowKit Go.Kx
set_option maxRecDepth 20000

def wAt (xs : List Int) (x : Int) (k j : Nat) : Nat := if j < k then (wgtI xs j x).v else 0
theorem wAt_set (xs : List Int) (x : Int) (k j : Nat) : (if j = k then (wgtI xs k x).v else wAt xs x k j) = wAt xs x (k + 1) j := by
  unfold wAt
  by_cases h : j = k
  · subst h; simp
  · rw [if_neg h]
    by_cases h2 : j < k
    · rw [if_pos h2, if_pos (by omega)]
    · rw [if_neg h2, if_neg (by omega)]
theorem okW_no1 {xs : List Int} {x : Int} (h : ¬ (1 ≤ xs.length ∧ xs.length ≤ 255)) : okWt xs x = false := by
  simp only [okWt, Bool.and_eq_false_iff, decide_eq_false_iff_not]
  omega
/-- What Weights hands back. -/
def Wts (w w' : World) (r : List Int × Bool) (e : Ending) : Prop := (∃ A c, e = .returned (.tuple #[.slice A r.1.length c, .bool r.2]) ∧ Sl w' A (intsI r.1)) ∧ Below w.heap.size w w'
theorem wts_none {w w' : World} (hb : Below w.heap.size w w') : Wts w w' ([], false) (.returned (.tuple #[.slice none 0 0, .bool false])) := ⟨⟨none, 0, rfl, Sl.nil _ _⟩, hb⟩
theorem weightsA_no {xs : List Int} {x : Int} (h : okWt xs x = false) : weightsA xs x = ([], false) := by rw [weightsA, if_neg (by rw [h]; simp)]
set_option maxHeartbeats 1000000 in
theorem weights_any (xs : List Int) (x : Int) (A : Option Addr) (c : Nat) (hl : xs.length ≤ 9223372036854775807) (w : World) (hs : Sl w A (intsI xs)) :
    Calls Try.prog 34 #[.slice A xs.length c, .int .i64 x] w fun e w' => Wts w w' (weightsA xs x) e := by
  by_cases h1 : xs.length < 1
  · rw [weightsA_no (okW_no1 (by omega))]
    go_enter Try.func34, Try.ntmps34
    go_wp2
    go_ret2
    exact wts_none (Below.refl _ _)
  by_cases h2 : 255 < xs.length
  · rw [weightsA_no (okW_no1 (by omega))]
    go_enter Try.func34, Try.ntmps34
    go_wp2
    go_ret2
    exact wts_none (Below.refl _ _)
  cases h3 : allI dig xs with
  | false =>
    rw [weightsA_no (by simp [okWt, h3])]
    go_enter Try.func34, Try.ntmps34
    go_wp2_with fail
    refine (areDigits_any xs A c hl _ hs).mono ?_
    rintro e w1 ⟨rfl, rfl⟩
    go_wp2
    go_ret2
    exact wts_none (Below.refl _ _)
  | true =>
    cases h4 : dig x with
    | false =>
      rw [weightsA_no (by simp [okWt, h4])]
      go_enter Try.func34, Try.ntmps34
      go_wp2_with fail
      refine (areDigits_any xs A c hl _ hs).mono ?_
      rintro e w1 ⟨rfl, rfl⟩
      go_wp2_with fail
      refine (pIsDigit_any x _).mono ?_
      rintro e w1 ⟨rfl, rfl⟩
      go_wp2
      go_ret2
      exact wts_none (Below.refl _ _)
    | true =>
      cases h5 : apartI xs with
      | false =>
        rw [weightsA_no (by simp [okWt, h5])]
        go_enter Try.func34, Try.ntmps34
        go_wp2_with fail
        refine (areDigits_any xs A c hl _ hs).mono ?_
        rintro e w1 ⟨rfl, rfl⟩
        go_wp2_with fail
        refine (pIsDigit_any x _).mono ?_
        rintro e w1 ⟨rfl, rfl⟩
        go_wp2_with fail
        refine (anySame_any xs A c (by omega) h3 _ hs).mono ?_
        rintro e w2 ⟨rfl, hb⟩
        go_wp2
        go_ret2
        exact wts_none hb
      | true =>
        have hok : weightsA xs x = (wgtsI xs x, true) := by
          have h1' : 1 ≤ xs.length := by omega
          have h2' : xs.length ≤ 255 := by omega
          rw [weightsA, if_pos (by simp [okWt, h1', h2', h3, h4, h5])]
        rw [hok]
        have HWL := Lib.hid (wgtsI_length xs x)
        have HWA : Hid (∀ i, i < xs.length → (wgtsI xs x).getD i 0 = ((wgtI xs i x).v : Nat)) := Lib.hid fun i hi => wgtsI_at hi
        have hmk := run_make_row' (P := Try.prog) 48 3 (.int .i64 0) 8 Try.underlying48 int_info rfl .i64 .i64 xs.length (by omega) (by omega)
        go_enter Try.func34, Try.ntmps34
        go_wp2_with fail
        refine (areDigits_any xs A c hl _ hs).mono ?_
        rintro e w1 ⟨rfl, rfl⟩
        go_wp2_with fail
        refine (pIsDigit_any x _).mono ?_
        rintro e w ⟨rfl, rfl⟩
        go_wp2_with fail
        refine (anySame_any xs A c (by omega) h3 _ hs).mono ?_
        rintro e w2 ⟨rfl, hb2⟩
        replace hs := hs.keep hb2
        go_wp2_with fail
        refine (new_any _).mono ?_
        rintro e w3 ⟨rfl, hf, hb3⟩
        replace hs := hs.keep hb3
        replace hb3 := hb2.next' hb3
        clear hb2
        generalize w2.heap.size = g at hf ⊢
        have hr0 := World.rowIs_made w3 (.int .i64 0) xs.length 3
        replace hr0 := hr0.congr (g := fun j => .int .i64 (wAt xs x 0 j : Nat)) (fun j _ => by simp [wAt])
        have hbm := Below.alloc0 w3 (.cells (madeCells #[.int .i64 0] xs.length) 3)
        go_wp2
        generalize World.alloc w3 _ = W at *
        go_loopw [37] (fun i wr => ∃ k : Nat, i = .int .i64 k ∧ k ≤ xs.length ∧ wr.rowIs w3.heap.size 3 xs.length (fun j => .int .i64 (wAt xs x k j : Nat)) ∧ Below w3.heap.size w3 wr) (fun i _ => xs.length - (intOf i).toNat)
        case atStart => exact ⟨0, rfl, by omega, hr0, hbm⟩
        case round =>
          clear hr0 hbm
          obtain ⟨k, rfl, hk, hr, hb⟩ := hrel
          by_cases hlt : k < xs.length
          · have HC := Lib.hid (weight_any g xs A c k x hlt (by omega) h3 h4 h5 wr (hf.keep hb) (hs.keep hb))
            have HST := Lib.hid (wAt_set xs x k)
            obtain ⟨v, hv⟩ : ∃ v, (wgtI xs k x).v = v := ⟨_, rfl⟩
            rw [hv] at HC HST
            have HV := Lib.hid hv
            clear hv
            go_wp2_with fail
            refine HC.out.mono ?_
            rintro e w5 ⟨rfl, hb5⟩
            replace hr := rowIs_keep hr hb5
            replace hb := hb.next' hb5
            clear hb5 HC
            have hload := hr.cell (i := k) hlt
            have hfz := hr.frozen k
            generalize wAt xs x k k = z at hload
            go_wp2
            go_roundw
            case rel =>
              refine ⟨k + 1, by go_num, by omega, (hr.set k _).congr fun j _ => ?_, hb.setCell (p := ⟨w3.heap.size, k, none⟩) (by simp) _⟩
              rw [← HST.out]
              split <;> rfl
            case measure => simp [intOf]; omega
          · obtain rfl : k = xs.length := by omega
            go_wp2
            go_ret2
            have hsh : Ending.returned (.tuple #[.slice (some ⟨w3.heap.size, 0, none⟩) xs.length xs.length, .bool true]) = .returned (.tuple #[.slice (some ⟨w3.heap.size, 0, none⟩) (wgtsI xs x, true).1.length xs.length, .bool (wgtsI xs x, true).2]) := by rw [HWL.out]
            refine ⟨⟨some ⟨w3.heap.size, 0, none⟩, xs.length, hsh, .inr ⟨w3.heap.size, 0, rfl, hr.lt, fun j u hu => ?_⟩⟩, hb3.next' hb⟩
            obtain ⟨y, hy, rfl⟩ := intsI_at hu
            have hjl : j < xs.length := by
              have := (List.getElem?_eq_some_iff.1 hy).1
              rwa [HWL.out] at this
            have h8 := HWA.out j hjl
            rw [List.getD, hy] at h8
            dsimp only [Option.getD] at h8
            rw [Nat.zero_add, hr.cell hjl, wAt, if_pos hjl, h8]
end Go.Proofs.Ytljckcegcfidoaa
