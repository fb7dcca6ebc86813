/-
  poly: the contract of anySame.
-/
import Derived.Test.YtljckcegcfidoaaPly2
import Derived.Test.YtljckcegcfidoaaIset
namespace Go.Proofs.Ytljckcegcfidoaa
open Go.RowKit Go.Kx Go.Maps
set_option maxRecDepth 100000

theorem keyed_int : Keyed Try.prog 3 := int_keyed Try.underlying3
theorem dig_wf {x : Int} (h : dig x = true) : (Lit.int .i64 x).wf = true := by
  obtain ⟨n, rfl, hn⟩ := dig_nat h
  exact WalkArith.wf_i64 (by omega)
theorem anySame_any (l : List Int) (A : Option Addr) (c : Nat) (hl : l.length ≤ 255) (hd : allI dig l = true) (w : World) (hs : Sl w A (intsI l)) :
    Calls Try.prog 59 #[.slice A l.length c] w fun e w' => e = .returned (.bool (!apartI l)) ∧ Below w.heap.size w w' := by
  have hmm := fun n w => run_makeMap_int (P := Try.prog) Try.underlying94 n w
  have hless := Lib.hid (setI_less (H := Unit) l)
  go_enter Try.func59, Try.ntmps59
  go_wp2
  go_loopw [11] (fun i wr => ∃ k : Nat, k ≤ l.length ∧ i = .int .i64 k ∧ wr.ownsMap Try.prog 3 unitElem w.heap.size k (setI (H := Unit) l k) ∧ Below w.heap.size w wr) (fun i _ => l.length - (intOf i).toNat)
  case atStart => exact ⟨0, Nat.zero_le _, rfl, by rw [setI_zero]; exact World.ownsMap_made _ _ _ _, Below.alloc0 _ _⟩
  case round =>
    obtain ⟨k, hk, rfl, hown, hb⟩ := hrel
    by_cases hlt : k < l.length
    · obtain ⟨b, off, rfl, hc⟩ := sl_int (hs.keep hb) hlt
      have hkey := keyOf_int_mk (P := Try.prog) Try.underlying3 (dig_wf (allI_at hd hlt))
      have hsucc := Lib.hid (setI_succ (H := Unit) l k hlt)
      generalize l.getD k 0 = x at *
      go_wp2_with (first
        | (at_mapUpdate; refine wpList_mapUpdate_own _ rfl _ _ _ 94 rfl 3 95 keyed_int Try.underlying94 (unitElem (H := Unit)) w.heap.size k _ rfl hown (by unfold maxLen; omega) _ _ _ rfl rfl hkey _ [] unitElem_mk ?_; intro w1 hown1 hgrow1)
        | go_in)
      go_roundw
      case rel => exact ⟨k + 1, by omega, by go_num, hsucc.out.symm ▸ hown1, hb.grown hgrow1 hb.size (fun j hj => by cases hj; exact Nat.le_refl _)⟩
      case measure => simp [intOf]; omega
    · obtain rfl : k = l.length := by omega
      go_wp2_with (first
        | (at_len; refine wpList_len_own _ rfl _ 94 rfl 3 95 Try.underlying94 _ w.heap.size _ _ rfl hown ?_)
        | go_in)
      go_ret
      exact ⟨ret_bool hless.out, hb⟩
end Go.Proofs.Ytljckcegcfidoaa
