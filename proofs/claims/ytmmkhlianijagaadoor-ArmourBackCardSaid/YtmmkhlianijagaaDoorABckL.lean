/-
  For all texts and shares, keyholelaw10.ArmourBack tells true (and leaves its arguments as they were): what is put is got as it; what is got, put, is the same text; a share is put and got as it. The card ties the listed variables to the program's text.
-/
import Derived.Test.YtmmkhlianijagaaDoorRows
import Derived.Test.YtmmkhlianijagaaDoorCards
import Derived.Test.YtmmkhlianijagaaDoorTie
import Derived.Test.YtmmkhlianijagaaDoorABck
import Derived.Test.YtmmkhlianijagaaDoorPost
import Derived.Test.YtmmkhlianijagaaDoorLaidDig
import Derived.Test.YtmmkhlianijagaaDoorOpenv
import Derived.ProofKit
import Derived.LaidMore
import Derived.OpenShut
import Derived.Stop.Joined
import Derived.SevenTiedAt
import Derived.Lay
import Derived.JoinedCond
import Derived.Deep.DeepHandedRow
import Derived.Shelf.Vars
namespace Go.Proofs.YtmmkhlianijagaaDoor
open Go.RowKit Go.Kx
open Go.ChangeShapes Go.WideShapes Go.ChangeAt Go.ChangeMaps

theorem ownArmourBack : ownKnob Tryd.prog.godebug = none := by kernel_rfl
abbrev laidArmourBack : List (String × DataW Unit) := [("unicode/utf8.acceptRanges", Rows.laid_unicode_utf8_acceptRanges), ("keyhole/digest.constants", Rows.laid_keyhole_digest_constants), ("unicode/utf8.first", Rows.laid_unicode_utf8_first)]
theorem maxArmourBack {W : World} (h : W.ShapedOpen Tryd.prog) : MaxCell W :=
  cell_of_shapedOpen_int (t := 3) (zero := #[.int .i64 0]) h (of_decide_eq_true (by kernel_rfl)) (by kernel_rfl) rfl (by kernel_rfl) (by kernel_rfl) Tryd.underlying3

/-! ### the row and the card -/
set_option maxRecDepth 100000 in
theorem liftedArmourBack (os : Os) (started : os.Started) (H : Type) (enc : TypeId × Value → H) (F : Stop.Interp) :
    ReturnsInHanded {} Tryd.checked os 4 .any (Rows.armourBackRow.pre enc Tryd.prog Tryd.f4 (OpenSpec.ofChange Rows.armourBackSpec)) (((OpenSpec.ofChange Rows.armourBackSpec).at F).post enc Tryd.prog Tryd.f4 false true false false) := by
  rw [OpenClaim.pre_eq_preRow]
  refine returnsInHanded_of_row (C := Tryd.checked) (s := OpenSpec.ofChange Rows.armourBackSpec) (F := F) ownArmourBack started (by kernel_rfl) Tryd.func4
    (ChangeSpec.witness_shaped (enc := enc) (C := Tryd.checked) (os := os) (s := Rows.armourBackSpec) (X := fun w _ => laidMetH Tryd.prog laidArmourBack w) false (World.laidAll Tryd.prog os laidArmourBack) #[.string ⟨#[]⟩, .string ⟨#[]⟩, .agg #[.int .i64 0, .string ⟨#[]⟩]] 8 (World.laidAll_os _ _ _)
      (World.shaped_of_ZipB (by kernel_rfl) (by kernel_rfl)) (by kernel_rfl) (by kernel_rfl) (by kernel_rfl)
      (by rw [MakeChecks.laidMetH_plain _ _ _ (by kernel_rfl)]; exact laidMet_laidAll _ (by kernel_rfl) (by kernel_rfl))) ?_
  intro W base args ds gs before hval0 hW _ _ _ hL hsh _
  have hval : ∀ (j : Nat) t v, Tryd.f4.params[j]? = some t → args[j]? = some v → Value.okWide Tryd.prog W .any base t v := hval0
  have hW0 : DataW.Whole enc Tryd.prog Tryd.f4.params.toList Rows.armourBackSpec.vars false W args.toList ds gs before := hW
  have hW' := hW0
  obtain ⟨p, q, hA0, hV, rfl, hfz, hnd⟩ := hW0
  obtain ⟨rfl, rfl⟩ := trodVars_none hV
  have hA : DataW.TrodAll enc Tryd.prog W 0 (fun _ => true) true Tryd.f4.params.toList args.toList ds p := hA0
  rw [Tryd.params4] at hA hval
  obtain ⟨v0, vs0, d0, ds0, p0, q0, hargs, rfl, rfl, h0, rr0⟩ := trodAll_cons hA
  obtain ⟨v1, vs1, d1, ds1, p1, q1, rfl, rfl, rfl, h1, rr1⟩ := trodAll_cons rr0
  obtain ⟨v2, vs2, d2, ds2, p2, q2, rfl, rfl, rfl, h2, rr2⟩ := trodAll_cons rr1
  obtain ⟨rfl, rfl, rfl⟩ := trodAll_nil rr2
  obtain rfl : args = #[v0, v1, v2] := by cases args; simp_all
  obtain ⟨a0, rfl, rfl, rfl, _⟩ := open_string Tryd.underlying9 (hval 0 _ v0 rfl rfl) h0
  obtain ⟨a1, rfl, rfl, rfl, _⟩ := open_string Tryd.underlying9 (hval 1 _ v1 rfl rfl) h1
  obtain ⟨X2, b2, rfl⟩ := open_shareV (hval 2 _ v2 rfl rfl) h2
  refine (aback_any a0 a1 X2 b2 W (consts_of hL (by kernel_rfl) (List.mem_cons_of_mem _ List.mem_cons_self)) (maxArmourBack hsh)).mono fun e W' ⟨he, hg⟩ => ?_
  subst he
  exact ⟨_, rfl, law_post (s := Rows.armourBackSpec) (B := 4) (by kernel_rfl) (by kernel_rfl) (by kernel_rfl) Tryd.underlying4 rfl hW' rfl rfl rfl hg⟩
theorem overArmourBack : Rows.ArmourBackSaid :=
  OpenClaim.holds_of_cond (s := OpenSpec.ofChange Rows.armourBackSpec) 4 Tryd.f4 rfl rfl rfl rfl rfl rfl rfl ⟨rfl, rfl, rfl, rfl, rfl⟩ rfl rfl rfl rfl rfl (by kernel_rfl) Tryd.func4 (by kernel_rfl)
    (of_decide_eq_true (by kernel_rfl)) (by unfold Func.isWrapper; first | (rw [if_pos (by decide +kernel)]; kernel_rfl) | (rw [if_neg (by decide +kernel)]; exact ⟨rfl, rfl⟩))
    (fun os started H enc _ F => liftedArmourBack os started H enc F)
theorem armourBack_holds : Rows.ArmourBackCardSaid :=
  Claim7.holds_tied_plain_at .later [] [.data, .data, .pinned] true Rows.armourBackCard.stood.harness false
    overArmourBack (fun _ h => by cases h) (by kernel_rfl) (fun _ h => by cases h) armourBack_row_tie rfl ⟨rfl, rfl⟩ (by kernel_rfl) rfl
    (fun f fn hf hfn => by
      obtain rfl : f = 4 := Option.some.inj ((show Tryd.prog.funcNamed "keyhole/keyholelaw10.ArmourBack" = some 4 by kernel_rfl).symm.trans hf) |>.symm
      obtain rfl : fn = Tryd.f4 := (Option.some.inj (Tryd.func4.symm.trans hfn)).symm
      exact ⟨by kernel_rfl, fun j t ht => by
        rw [Tryd.params4] at ht
        have hm : t ∈ [9, 9, 29] := by simpa using Array.mem_of_getElem? ht
        have hall : ([9, 9, 29].all fun u => !Tryd.prog.wantsStandIn u) = true := by kernel_rfl
        exact (show Tryd.prog.wantsStandIn t = false by simpa using List.all_eq_true.1 hall t hm)⟩)
    (by kernel_rfl)
#print axioms armourBack_holds
end Go.Proofs.YtmmkhlianijagaaDoor
