/-
  SealWhole, for every input: what is sealed is what is hidden, and the Tag of what is told of it. Condition: the table of places reads as its own initialiser lays it when the call begins (the row's).
-/
import Derived.Test.YtapbjmeilhcmaaaDoorRows
import Derived.Test.YtapbjmeilhcmaaaDoorCards
import Derived.Test.YtapbjmeilhcmaaaDoorTie
import Derived.Test.YtapbjmeilhcmaaaDoorLWhole
import Derived.Test.YtapbjmeilhcmaaaDoorPost
import Derived.Test.YtapbjmeilhcmaaaDoorLaidStr
import Derived.Test.YtapbjmeilhcmaaaDoorReach
import Derived.ProofKit
import Derived.LaidMore
import Derived.OpenShut
import Derived.Stop.Joined
import Derived.SevenTiedAt
namespace Go.Proofs.YtapbjmeilhcmaaaDoor
open Go.RowKit Go.Kx
open Go.ChangeShapes Go.WideShapes Go.ChangeAt Go.ChangeMaps

theorem ownSealWhole : ownKnob Tryd.prog.godebug = none := by kernel_rfl
abbrev laidSealWhole {H : Type} : List (String × DataW H) := [("keyhole/stream.places", Rows.laid_keyhole_stream_places)]
theorem doorSealWhole (os : Os) (args : Array Value) : laidMetH Tryd.prog laidSealWhole ((World.doorLaid Tryd.prog 1000 os).forCall (fun _ _ => 0) ⟨#[], args, []⟩).memory :=
  laidMetH_of_parts3 (fuel := 8) (laidMet_of_run' 8 (by kernel_rfl) (by kernel_rfl)) (by kernel_rfl) (by kernel_rfl)

/-! ### the row and the card -/
set_option maxRecDepth 100000 in
theorem liftedSealWhole (os : Os) (started : os.Started) (H : Type) (enc : TypeId × Value → H) :
    ReturnsInHanded {} Tryd.checked os 5 .any (fun w args => (Rows.sealWholeSpec.pre enc Tryd.prog Tryd.f5 [] false w args ∧ laidMetH Tryd.prog laidSealWhole w) ∧ sizedMet enc Tryd.prog Tryd.f5 (OpenSpec.ofChange Rows.sealWholeSpec) false w args)
      (Rows.sealWholeSpec.post enc Tryd.prog Tryd.f5 false true false false) := by
  refine returnsInHanded_of_change_and (C := Tryd.checked) (X := fun w _ => laidMetH Tryd.prog laidSealWhole w) (fun _ _ _ hh h => h.of_heap hh) ownSealWhole started (by kernel_rfl) Tryd.func5
    (ChangeSpec.witness_shaped (enc := enc) (C := Tryd.checked) (os := os) (X := fun w _ => laidMetH Tryd.prog laidSealWhole w) false (World.doorLaid Tryd.prog 1000 os) #[.string ⟨#[]⟩, .string ⟨#[]⟩, .string ⟨#[]⟩, .string ⟨#[]⟩] 8 rfl (World.shaped_of_RefB (by kernel_rfl) (by kernel_rfl)) (by kernel_rfl) (by kernel_rfl) (by kernel_rfl) (doorSealWhole os _)) ?_
  intro W base args ds gs before hval0 hW _ hsz0 hL _
  have hsz : (DataW.weightsEach Tryd.prog (Tryd.f5.params.toList ++ Rows.sealWholeSpec.plain.varTypes Tryd.prog) (ds ++ gs)).all (· ≤ reachBytes) = true := hsz0
  have hval : ∀ (j : Nat) t v, Tryd.f5.params[j]? = some t → args[j]? = some v → Value.okWide Tryd.prog W .any base t v := hval0
  have hW' := hW
  obtain ⟨p, q, hA0, hV, rfl, hfz, hnd⟩ := hW
  obtain ⟨rfl, rfl⟩ := trodVars_none hV
  have hA : DataW.TrodAll enc Tryd.prog W 0 (fun _ => true) true Tryd.f5.params.toList args.toList ds p := hA0
  rw [Tryd.params5] at hA hval hsz
  obtain ⟨v0, vs0, d0, ds0, p0, q0, hargs, rfl, rfl, h0, rr0⟩ := trodAll_cons hA
  obtain ⟨v1, vs1, d1, ds1, p1, q1, rfl, rfl, rfl, h1, rr1⟩ := trodAll_cons rr0
  obtain ⟨v2, vs2, d2, ds2, p2, q2, rfl, rfl, rfl, h2, rr2⟩ := trodAll_cons rr1
  obtain ⟨v3, vs3, d3, ds3, p3, q3, rfl, rfl, rfl, h3, rr3⟩ := trodAll_cons rr2
  obtain ⟨rfl, rfl, rfl⟩ := trodAll_nil rr3
  obtain rfl : args = #[v0, v1, v2, v3] := by cases args; simp_all
  obtain ⟨a0, rfl, rfl, rfl, b0⟩ := open_string Tryd.underlying9 (hval 0 _ v0 rfl rfl) h0
  obtain ⟨a1, rfl, rfl, rfl, b1⟩ := open_string Tryd.underlying9 (hval 1 _ v1 rfl rfl) h1
  obtain ⟨a2, rfl, rfl, rfl, b2⟩ := open_string Tryd.underlying9 (hval 2 _ v2 rfl rfl) h2
  obtain ⟨a3, rfl, rfl, rfl, b3⟩ := open_string Tryd.underlying9 (hval 3 _ v3 rfl rfl) h3
  have r2 : a2.size ≤ 140737488351232 := reach_size (reach_each hsz (j := 2) (t := 9) rfl rfl)
  have r3 : a3.size ≤ 140737488351232 := reach_size (reach_each hsz (j := 3) (t := 9) rfl rfl)
  refine (walkSealWhole a0 a1 a2 r2 a3 r3 W (places_of hL (by kernel_rfl) List.mem_cons_self)).mono fun e W' ⟨he, hg⟩ => ?_
  subst he
  exact ⟨_, rfl, law_post (B := 4) (by kernel_rfl) (by kernel_rfl) (by kernel_rfl) Tryd.underlying4 rfl hW' rfl rfl rfl hg⟩
theorem overSealWhole : Rows.SealWholeSaid :=
  OpenClaim.holds_of_wide 5 Tryd.f5 rfl rfl rfl rfl rfl rfl rfl ⟨rfl, rfl, rfl, rfl, rfl⟩ rfl rfl rfl rfl rfl (by kernel_rfl) Tryd.func5 (by kernel_rfl)
    (of_decide_eq_true (by kernel_rfl)) (by unfold Func.isWrapper; first | (rw [if_pos (by decide +kernel)]; kernel_rfl) | (rw [if_neg (by decide +kernel)]; exact ⟨rfl, rfl⟩))
    (fun os started H enc _ => liftedSealWhole os started H enc)
theorem sealWhole_holds : Rows.SealWholeCardSaid :=
  Claim7.holds_tied_plain_at .later [] [.data] true Rows.sealWholeCard.stood.harness false
    overSealWhole (fun _ h => by cases h) (by kernel_rfl) (fun _ h => by cases h) sealWhole_row_tie rfl ⟨rfl, rfl⟩ (by kernel_rfl) rfl
    (fun f fn hf hfn => by
      obtain rfl : f = 5 := Option.some.inj ((show Tryd.prog.funcNamed "keyhole/keyholelaw06.SealWhole" = some 5 by kernel_rfl).symm.trans hf) |>.symm
      obtain rfl : fn = Tryd.f5 := (Option.some.inj (Tryd.func5.symm.trans hfn)).symm
      exact ⟨by kernel_rfl, fun j t ht => by
        rw [Tryd.params5] at ht
        have hm : t ∈ [9, 9, 9, 9] := by simpa using Array.mem_of_getElem? ht
        have hall : ([9, 9, 9, 9].all fun u => !Tryd.prog.wantsStandIn u) = true := by kernel_rfl
        exact (show Tryd.prog.wantsStandIn t = false by simpa using List.all_eq_true.1 hall t hm)⟩)
    (by kernel_rfl)
#print axioms sealWhole_holds
end Go.Proofs.YtapbjmeilhcmaaaDoor
