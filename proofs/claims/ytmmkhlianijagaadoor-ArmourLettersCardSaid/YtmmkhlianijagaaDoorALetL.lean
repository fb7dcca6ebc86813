/-
  For all texts, keyholelaw10.ArmourLetters tells true (and leaves its arguments as they were): bytes have just the document's letters; a text is just the document's bytes, or none. The card ties the listed variables to the program's text.
-/
import Derived.Test.YtmmkhlianijagaaDoorRows
import Derived.Test.YtmmkhlianijagaaDoorCards
import Derived.Test.YtmmkhlianijagaaDoorTie
import Derived.Test.YtmmkhlianijagaaDoorALet
import Derived.Test.YtmmkhlianijagaaDoorPost
import Derived.Test.YtmmkhlianijagaaDoorLaidDig
import Derived.ProofKit
import Derived.LaidMore
import Derived.OpenShut
import Derived.Stop.Joined
import Derived.SevenTiedAt
import Derived.Lay
import Derived.JoinedCond
import Derived.Deep.DeepHandedRow
import Derived.Shelf.Vars
namespace Go.Proofs.YtmmkhlianijagaaDoor
open Go.RowKit Go.Kx
open Go.ChangeShapes Go.WideShapes Go.ChangeAt Go.ChangeMaps

theorem ownArmourLetters : ownKnob Tryd.prog.godebug = none := by kernel_rfl
abbrev laidArmourLetters : List (String × DataW Unit) := [("unicode/utf8.acceptRanges", Rows.laid_unicode_utf8_acceptRanges), ("keyhole/digest.constants", Rows.laid_keyhole_digest_constants), ("unicode/utf8.first", Rows.laid_unicode_utf8_first)]
theorem maxArmourLetters {W : World} (h : W.ShapedOpen Tryd.prog) : MaxCell W :=
  cell_of_shapedOpen_int (t := 3) (zero := #[.int .i64 0]) h (of_decide_eq_true (by kernel_rfl)) (by kernel_rfl) rfl (by kernel_rfl) (by kernel_rfl) Tryd.underlying3

/-! ### the row and the card -/
set_option maxRecDepth 100000 in
theorem liftedArmourLetters (os : Os) (started : os.Started) (H : Type) (enc : TypeId × Value → H) (F : Stop.Interp) :
    ReturnsInHanded {} Tryd.checked os 3 .any (Rows.armourLettersRow.pre enc Tryd.prog Tryd.f3 (OpenSpec.ofChange Rows.armourLettersSpec)) (((OpenSpec.ofChange Rows.armourLettersSpec).at F).post enc Tryd.prog Tryd.f3 false true false false) := by
  rw [OpenClaim.pre_eq_preRow]
  refine returnsInHanded_of_row (C := Tryd.checked) (s := OpenSpec.ofChange Rows.armourLettersSpec) (F := F) ownArmourLetters started (by kernel_rfl) Tryd.func3
    (ChangeSpec.witness_shaped (enc := enc) (C := Tryd.checked) (os := os) (s := Rows.armourLettersSpec) (X := fun w _ => laidMetH Tryd.prog laidArmourLetters w) false (World.laidAll Tryd.prog os laidArmourLetters) #[.string ⟨#[]⟩, .string ⟨#[]⟩] 8 (World.laidAll_os _ _ _)
      (World.shaped_of_ZipB (by kernel_rfl) (by kernel_rfl)) (by kernel_rfl) (by kernel_rfl) (by kernel_rfl)
      (by rw [MakeChecks.laidMetH_plain _ _ _ (by kernel_rfl)]; exact laidMet_laidAll _ (by kernel_rfl) (by kernel_rfl))) ?_
  intro W base args ds gs before hval0 hW _ _ _ hL hsh _
  have hval : ∀ (j : Nat) t v, Tryd.f3.params[j]? = some t → args[j]? = some v → Value.okWide Tryd.prog W .any base t v := hval0
  have hW0 : DataW.Whole enc Tryd.prog Tryd.f3.params.toList Rows.armourLettersSpec.vars false W args.toList ds gs before := hW
  have hW' := hW0
  obtain ⟨p, q, hA0, hV, rfl, hfz, hnd⟩ := hW0
  obtain ⟨rfl, rfl⟩ := trodVars_none hV
  have hA : DataW.TrodAll enc Tryd.prog W 0 (fun _ => true) true Tryd.f3.params.toList args.toList ds p := hA0
  rw [Tryd.params3] at hA hval
  obtain ⟨v0, vs0, d0, ds0, p0, q0, hargs, rfl, rfl, h0, rr0⟩ := trodAll_cons hA
  obtain ⟨v1, vs1, d1, ds1, p1, q1, rfl, rfl, rfl, h1, rr1⟩ := trodAll_cons rr0
  obtain ⟨rfl, rfl, rfl⟩ := trodAll_nil rr1
  obtain rfl : args = #[v0, v1] := by cases args; simp_all
  obtain ⟨a0, rfl, rfl, rfl, _⟩ := open_string Tryd.underlying9 (hval 0 _ v0 rfl rfl) h0
  obtain ⟨a1, rfl, rfl, rfl, _⟩ := open_string Tryd.underlying9 (hval 1 _ v1 rfl rfl) h1
  refine (alet_any a0 a1 W (consts_of hL (by kernel_rfl) (List.mem_cons_of_mem _ List.mem_cons_self)) (maxArmourLetters hsh)).mono fun e W' ⟨he, hg⟩ => ?_
  subst he
  exact ⟨_, rfl, law_post (s := Rows.armourLettersSpec) (B := 4) (by kernel_rfl) (by kernel_rfl) (by kernel_rfl) Tryd.underlying4 rfl hW' rfl rfl rfl hg⟩
theorem overArmourLetters : Rows.ArmourLettersSaid :=
  OpenClaim.holds_of_cond (s := OpenSpec.ofChange Rows.armourLettersSpec) 3 Tryd.f3 rfl rfl rfl rfl rfl rfl rfl ⟨rfl, rfl, rfl, rfl, rfl⟩ rfl rfl rfl rfl rfl (by kernel_rfl) Tryd.func3 (by kernel_rfl)
    (of_decide_eq_true (by kernel_rfl)) (by unfold Func.isWrapper; first | (rw [if_pos (by decide +kernel)]; kernel_rfl) | (rw [if_neg (by decide +kernel)]; exact ⟨rfl, rfl⟩))
    (fun os started H enc _ F => liftedArmourLetters os started H enc F)
theorem armourLetters_holds : Rows.ArmourLettersCardSaid :=
  Claim7.holds_tied_plain_at .later [] [.data, .data, .pinned] true Rows.armourLettersCard.stood.harness false
    overArmourLetters (fun _ h => by cases h) (by kernel_rfl) (fun _ h => by cases h) armourLetters_row_tie rfl ⟨rfl, rfl⟩ (by kernel_rfl) rfl
    (fun f fn hf hfn => by
      obtain rfl : f = 3 := Option.some.inj ((show Tryd.prog.funcNamed "keyhole/keyholelaw10.ArmourLetters" = some 3 by kernel_rfl).symm.trans hf) |>.symm
      obtain rfl : fn = Tryd.f3 := (Option.some.inj (Tryd.func3.symm.trans hfn)).symm
      exact ⟨by kernel_rfl, fun j t ht => by
        rw [Tryd.params3] at ht
        have hm : t ∈ [9, 9] := by simpa using Array.mem_of_getElem? ht
        have hall : ([9, 9].all fun u => !Tryd.prog.wantsStandIn u) = true := by kernel_rfl
        exact (show Tryd.prog.wantsStandIn t = false by simpa using List.all_eq_true.1 hall t hm)⟩)
    (by kernel_rfl)
#print axioms armourLetters_holds
end Go.Proofs.YtmmkhlianijagaaDoor
