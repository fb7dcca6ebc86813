/-
  TapeRuns, for every input: whatever is taken, a tape tells just the document's bytes. Condition: the table of places and the constants read as their own initialisers lay them when the call begins (the row's).
-/
import Derived.Test.YtlkdofghhibmbaaDoorRows
import Derived.Test.YtlkdofghhibmbaaDoorCards
import Derived.Test.YtlkdofghhibmbaaDoorTie
import Derived.Test.YtlkdofghhibmbaaDoorM4
import Derived.Test.YtlkdofghhibmbaaDoorM5
import Derived.ProofKit
import Derived.LaidMore
import Derived.OpenShut
import Derived.Stop.Joined
import Derived.SevenTiedAt
namespace Go.Proofs.YtlkdofghhibmbaaDoor
open Go.RowKit Go.Kx
open Go.ChangeShapes Go.WideShapes Go.ChangeAt Go.ChangeMaps

theorem ownTapeRuns : ownKnob Tryd.prog.godebug = none := by kernel_rfl
abbrev laidTapeRuns {H : Type} : List (String × DataW H) := [("keyhole/stream.places", Rows.laid_keyhole_stream_places), ("keyhole/digest.constants", Rows.laid_keyhole_digest_constants)]
theorem doorTapeRuns (os : Os) (args : Array Value) : laidMetH Tryd.prog laidTapeRuns ((World.doorLaid Tryd.prog 1000 os).forCall (fun _ _ => 0) ⟨#[], args, []⟩).memory :=
  laidMetH_of_parts3 (fuel := 8) (laidMet_of_run' 8 (by kernel_rfl) (by kernel_rfl)) (by kernel_rfl) (by kernel_rfl)

/-! ### the row and the card -/
set_option maxRecDepth 100000 in
theorem liftedTapeRuns (os : Os) (started : os.Started) (H : Type) (enc : TypeId × Value → H) :
    ReturnsInHanded {} Tryd.checked os 3 .any (fun w args => (Rows.tapeRunsSpec.pre enc Tryd.prog Tryd.f3 [] false w args ∧ laidMetH Tryd.prog laidTapeRuns w) ∧ sizedMet enc Tryd.prog Tryd.f3 (OpenSpec.ofChange Rows.tapeRunsSpec) false w args)
      (Rows.tapeRunsSpec.post enc Tryd.prog Tryd.f3 false true false false) := by
  refine returnsInHanded_of_change_and (C := Tryd.checked) (X := fun w _ => laidMetH Tryd.prog laidTapeRuns w) (fun _ _ _ hh h => h.of_heap hh) ownTapeRuns started (by kernel_rfl) Tryd.func3
    (ChangeSpec.witness_shaped (enc := enc) (C := Tryd.checked) (os := os) (X := fun w _ => laidMetH Tryd.prog laidTapeRuns w) false (World.doorLaid Tryd.prog 1000 os) #[.string ⟨#[]⟩, .bool false, .slice none 0 0] 8 rfl (World.shaped_of_RefB (by kernel_rfl) (by kernel_rfl)) (by kernel_rfl) (by kernel_rfl) (by kernel_rfl) (doorTapeRuns os _)) ?_
  intro W base args ds gs before hval0 hW _ _ hL _
  have hval : ∀ (j : Nat) t v, Tryd.f3.params[j]? = some t → args[j]? = some v → Value.okWide Tryd.prog W .any base t v := hval0
  have hW' := hW
  obtain ⟨p, q, hA0, hV, rfl, hfz, hnd⟩ := hW
  obtain ⟨rfl, rfl⟩ := trodVars_none hV
  have hA : DataW.TrodAll enc Tryd.prog W 0 (fun _ => true) true Tryd.f3.params.toList args.toList ds p := hA0
  rw [Tryd.params3] at hA hval
  obtain ⟨v0, vs0, d0, ds0, p0, q0, hargs, rfl, rfl, h0, rr0⟩ := trodAll_cons hA
  obtain ⟨v1, vs1, d1, ds1, p1, q1, rfl, rfl, rfl, h1, rr1⟩ := trodAll_cons rr0
  obtain ⟨v2, vs2, d2, ds2, p2, q2, rfl, rfl, rfl, h2, rr2⟩ := trodAll_cons rr1
  obtain ⟨rfl, rfl, rfl⟩ := trodAll_nil rr2
  obtain rfl : args = #[v0, v1, v2] := by cases args; simp_all
  obtain ⟨a0, rfl, rfl, rfl, b0⟩ := open_string Tryd.underlying9 (hval 0 _ v0 rfl rfl) h0
  obtain ⟨a1, rfl, rfl, rfl⟩ := open_bool Tryd.underlying4 (hval 1 _ v1 rfl rfl) h1
  obtain ⟨A2, a2, c2, rfl, b2, z2, s2⟩ := open_opl (hval 2 _ v2 rfl rfl) h2 (fun x hx => hW'.lt x (by simp [hx]))
  refine (runs_yes' rsumT_paid a0 a1 a2 A2 c2 b2 z2 W s2 (places_of hL (by kernel_rfl) List.mem_cons_self) (consts_of hL (by kernel_rfl) (List.mem_cons_of_mem _ List.mem_cons_self))).mono fun e W' ⟨he, hg⟩ => ?_
  subst he
  exact ⟨_, rfl, law_post (B := 4) (by kernel_rfl) (by kernel_rfl) (by kernel_rfl) Tryd.underlying4 rfl hW' rfl rfl rfl hg⟩
theorem overTapeRuns : Rows.TapeRunsSaid :=
  OpenClaim.holds_of_wide 3 Tryd.f3 rfl rfl rfl rfl rfl rfl rfl ⟨rfl, rfl, rfl, rfl, rfl⟩ rfl rfl rfl rfl rfl (by kernel_rfl) Tryd.func3 (by kernel_rfl)
    (of_decide_eq_true (by kernel_rfl)) (by unfold Func.isWrapper; first | (rw [if_pos (by decide +kernel)]; kernel_rfl) | (rw [if_neg (by decide +kernel)]; exact ⟨rfl, rfl⟩))
    (fun os started H enc _ => liftedTapeRuns os started H enc)
theorem tapeRuns_holds : Rows.TapeRunsCardSaid :=
  Claim7.holds_tied_plain_at .later [] [.data, .data] true Rows.tapeRunsCard.stood.harness false
    overTapeRuns (fun _ h => by cases h) (by kernel_rfl) (fun _ h => by cases h) tapeRuns_row_tie rfl ⟨rfl, rfl⟩ (by kernel_rfl) rfl
    (fun f fn hf hfn => by
      obtain rfl : f = 3 := Option.some.inj ((show Tryd.prog.funcNamed "keyhole/keyholelaw12.TapeRuns" = some 3 by kernel_rfl).symm.trans hf) |>.symm
      obtain rfl : fn = Tryd.f3 := (Option.some.inj (Tryd.func3.symm.trans hfn)).symm
      exact ⟨by kernel_rfl, fun j t ht => by
        rw [Tryd.params3] at ht
        have hm : t ∈ [9, 4, 22] := by simpa using Array.mem_of_getElem? ht
        have hall : ([9, 4, 22].all fun u => !Tryd.prog.wantsStandIn u) = true := by kernel_rfl
        exact (show Tryd.prog.wantsStandIn t = false by simpa using List.all_eq_true.1 hall t hm)⟩)
    (by kernel_rfl)
#print axioms tapeRuns_holds
end Go.Proofs.YtlkdofghhibmbaaDoor
