/-
  DigestPads, for every input: what Pad tells begins with byte 128, has the fewest bytes that may be, and tells apart how many there are.
-/
import Derived.Test.YtfcigggchnjkoaaDoorLaid
namespace Go.Proofs.YtfcigggchnjkoaaDoor
open Go.RowKit Go.Kx
open Go.ChangeShapes Go.WideShapes Go.ChangeAt

theorem run_slice_from {P : Program} {t : TypeId} (h : P.underlying t = some .string) (s : ByteArray) (lo : Int) (h0 : 0 ≤ lo) (h1 : lo ≤ (s.size : Int)) (V : World) :
    (Instr.slice t (.string s) (some (.int .i64 lo)) none none).run P V = .ok (.string (s.extract lo.toNat s.size)) V := by
  obtain ⟨l, rfl⟩ := Int.eq_ofNat_of_zero_le h0
  have e2 : (Instr.sliceBound (.int .i64 (l : Int)) s.size .sliceB).run P V = .ok l V := by
    simp only [Instr.sliceBound, asIntOf, Sem.run_bind, Sem.run_pure, Result.andThen_ok, if_pos (show 0 ≤ (l : Int) ∧ (l : Int) ≤ (s.size : Int) by omega), Int.toNat_natCast]
  simp only [Instr.slice, Instr.sliceBounds, Sem.run_bind, run_underlying h, Result.andThen_ok, Option.isSome_none, Bool.false_eq_true, if_false, Sem.run_pure, e2, Int.toNat_natCast]

theorem join_inj (a b c d : Nat) (ha : a < 4294967296) (hb : b < 4294967296) (hc : c < 4294967296) (hd : d < 4294967296) (h : joinL true [a, b] = joinL true [c, d]) : a = c ∧ b = d := by
  have e : ∀ j, j < 8 → joinAt true [a, b] j = joinAt true [c, d] j := fun j hj => by
    have h1 := joinL_at true [a, b] j (by rw [joinL_length]; exact hj)
    have h2 := joinL_at true [c, d] j (by rw [joinL_length]; exact hj)
    have h3 : (joinL true [a, b])[j]'(by rw [joinL_length]; exact hj) = (joinL true [c, d])[j]'(by rw [joinL_length]; exact hj) := by congr 1
    rw [h3] at h1
    omega
  have e0 := e 0 (by omega)
  have e1 := e 1 (by omega)
  have e2 := e 2 (by omega)
  have e3 := e 3 (by omega)
  have e4 := e 4 (by omega)
  have e5 := e 5 (by omega)
  have e6 := e 6 (by omega)
  have e7 := e 7 (by omega)
  simp [joinAt, shN] at e0 e1 e2 e3 e4 e5 e6 e7
  omega
def tailL (n : Nat) : List UInt8 := joinL true [8 * n / 4294967296, 8 * n % 4294967296]
theorem padL_tail (n : Nat) : (padL n).drop ((padL n).length - 8) = tailL n := by
  have e : padL n = (128 :: List.replicate ((64 - (n + 9) % 64) % 64) 0) ++ tailL n := rfl
  have hl : (tailL n).length = 8 := joinL_length _ _
  rw [e]
  rw [List.drop_append_of_le_length (by simp [hl])]
  simp [hl]
theorem tail_inj (n m : Nat) (hn : n ≤ 1000000000) (hm : m ≤ 1000000000) : (tailL n == tailL m) = (n == m) := by
  by_cases h : n = m
  · subst h; simp
  · rw [beq_eq_false_iff_ne.2 h, beq_eq_false_iff_ne]
    intro e
    have := join_inj _ _ _ _ (by omega) (by omega) (by omega) (by omega) e
    omega

set_option maxHeartbeats 1000000 in
theorem pads_yes (n m : Nat) (hn : n ≤ 1000000000) (hm : m ≤ 1000000000) (w : World) (hK : Consts w) :
    Calls Tryd.prog 6 #[.int .i64 n, .int .i64 m] w fun e w' => e = .returned (.bool true) ∧ Below w.heap.size w w' := by
  obtain ⟨s, hs⟩ : ∃ s : ByteArray, s = ⟨(padL n).toArray⟩ := ⟨_, rfl⟩
  obtain ⟨t, ht⟩ : ∃ t : ByteArray, t = ⟨(padL m).toArray⟩ := ⟨_, rfl⟩
  have ps := pad_yes n hn
  have pt := pad_yes m hm
  rw [← hs] at ps
  rw [← ht] at pt
  have hsz : s.size = (padL n).length := by rw [hs, size_mk]
  have htz : t.size = (padL m).length := by rw [ht, size_mk]
  have l1 := pad_le n
  have l2 := pad_le m
  have hmod := pad_mod n
  rw [← hsz] at l1 hmod
  rw [← htz] at l2
  have q0 : s[0]? = some 128 := by rw [hs]; rfl
  have p0 : 0 < s.size := by omega
  have q1 : s[0].toNat = 128 := by
    have h := (getElem?_pos s 0 p0).symm.trans q0
    rw [Option.some.inj h]; rfl
  clear q0
  have htail : ((s.extract (s.size - 8) s.size).toList == (t.extract (t.size - 8) t.size).toList) = ((n : Int) == (m : Int)) := by
    rw [Lib.toList_data, Lib.toList_data, Lib.extract_to_end, Lib.extract_to_end, hsz, htz, hs, ht]
    show (((padL n).toArray.toList.drop _) == ((padL m).toArray.toList.drop _)) = _
    rw [List.toList_toArray, List.toList_toArray, padL_tail, padL_tail, tail_inj n m hn hm]
    by_cases h : n = m
    · subst h; simp
    · rw [beq_eq_false_iff_ne.2 h, beq_eq_false_iff_ne.2 (by omega)]
  have HPS := Lib.hid ps
  have HPT := Lib.hid pt
  clear hs ht ps pt hsz htz
  go_enter Tryd.func6, Tryd.ntmps6
  go_wp2_with fail
  refine (HPS.out _).mono ?_
  rintro e w1 ⟨rfl, hb1⟩
  go_wp2_with fail
  refine (HPT.out _).mono ?_
  rintro e w2 ⟨rfl, hb2⟩
  have hb := hb1.next hb2
  clear hb1 hb2
  have cQ : ∀ d os, Calls Tryd.prog 12 #[] (Go.Sort.grow (redrawn w2 d) os) fun e w'' => e = .returned (.bool true) ∧ ∃ p : Regrown, w'' = Go.Sort.grow (redrawn w2 p.d) p.os := fun d os => Calls.regrown_of (sums_any _ (hK.keep (hb.next (below_regrown w2 d os))))
  have b1 : decide ((9 : Int) ≤ (s.size : Int)) = true := by simp; omega
  have b2 : decide ((s.size : Int) ≤ 72) = true := by simp; omega
  have b3 : (((n : Int) + (s.size : Int)) % 64 == 0) = true := by simp; omega
  have i1 : IntKind.i64.wrap ((s.size : Int) - 8) = (s.size : Int) - 8 := IntWalk.i64_in _ (by omega)
  have i2 : IntKind.i64.wrap ((t.size : Int) - 8) = (t.size : Int) - 8 := IntWalk.i64_in _ (by omega)
  have s1 : ∀ V : World, (Instr.slice 9 (.string s) (some (.int .i64 ((s.size : Int) - 8))) none none).run Tryd.prog V = .ok (.string (s.extract (s.size - 8) s.size)) V := fun V => by
    rw [run_slice_from Tryd.underlying9 _ _ (by omega) (by omega), show ((s.size : Int) - 8).toNat = s.size - 8 by omega]
  have s2 : ∀ V : World, (Instr.slice 9 (.string t) (some (.int .i64 ((t.size : Int) - 8))) none none).run Tryd.prog V = .ok (.string (t.extract (t.size - 8) t.size)) V := fun V => by
    rw [run_slice_from Tryd.underlying9 _ _ (by omega) (by omega), show ((t.size : Int) - 8).toNat = t.size - 8 by omega]
  have i3 : IntKind.i64.wrap ((n : Int) + (s.size : Int)) = (n : Int) + (s.size : Int) := IntWalk.i64_in _ (by omega)
  have i4 : ((n : Int) + (s.size : Int)).tmod 64 = 0 := by rw [Int.tmod_eq_emod_of_nonneg (by omega)]; omega
  clear b3
  go_wp2_with fail
  refine wp_region_quiet_below (by kernel_rfl) (by kernel_rfl) ?_
  repeat (quiet_step (exact cQ _ _))
  refine wpQuiet_nil ?_
  intro _ hw'
  obtain ⟨⟨dq, osq⟩, hw''⟩ := hw'
  subst hw''
  go_wp2
  go_ret
  exact ⟨ret_bool (by first | rfl | simp), hb.next (below_regrown w2 dq osq)⟩

theorem pads_no (a b : Int) (h : ¬ (0 ≤ a ∧ a ≤ 1000000000) ∨ ¬ (0 ≤ b ∧ b ≤ 1000000000)) (w : World) (hK : Consts w) :
    Calls Tryd.prog 6 #[.int .i64 a, .int .i64 b] w fun e w' => e = .returned (.bool true) ∧ Below w.heap.size w w' := by
  by_cases ha : 0 ≤ a ∧ a ≤ 1000000000
  · have hb := h.resolve_left (fun k => k ha)
    obtain ⟨n, rfl⟩ := Int.eq_ofNat_of_zero_le ha.1
    go_enter Tryd.func6, Tryd.ntmps6
    go_wp2_with fail
    refine (pad_yes n (by omega) _).mono ?_
    rintro e w1 ⟨rfl, hb1⟩
    go_wp2_with fail
    refine (pad_no b (by omega) _).mono ?_
    rintro e w2 ⟨rfl, rfl⟩
    go_wp2_with fail
    refine (sums_any _ (hK.keep hb1)).mono ?_
    rintro e w3 ⟨rfl, hb3⟩
    go_wp2
    go_ret
    exact ⟨rfl, hb1.next hb3⟩
  · go_enter Tryd.func6, Tryd.ntmps6
    go_wp2_with fail
    refine (pad_no a (by omega) _).mono ?_
    rintro e w1 ⟨rfl, rfl⟩
    go_wp2_with fail
    by_cases hb : 0 ≤ b ∧ b ≤ 1000000000
    · obtain ⟨m, rfl⟩ := Int.eq_ofNat_of_zero_le hb.1
      refine (pad_yes m (by omega) _).mono ?_
      rintro e w2 ⟨rfl, hb2⟩
      go_wp2_with fail
      refine (sums_any _ (hK.keep hb2)).mono ?_
      rintro e w3 ⟨rfl, hb3⟩
      go_wp2
      go_ret
      exact ⟨rfl, hb2.next hb3⟩
    · refine (pad_no b (by omega) _).mono ?_
      rintro e w2 ⟨rfl, rfl⟩
      go_wp2_with fail
      refine (sums_any _ hK).mono ?_
      rintro e w3 ⟨rfl, hb3⟩
      go_wp2
      go_ret
      exact ⟨rfl, hb3⟩
theorem walkPads (a b : Int) (w : World) (hK : Consts w) :
    Calls Tryd.prog 6 #[.int .i64 a, .int .i64 b] w fun e w' => e = .returned (.bool true) ∧ Below w.heap.size w w' := by
  by_cases h : (0 ≤ a ∧ a ≤ 1000000000) ∧ (0 ≤ b ∧ b ≤ 1000000000)
  · obtain ⟨⟨h1, h2⟩, h3, h4⟩ := h
    obtain ⟨n, rfl⟩ := Int.eq_ofNat_of_zero_le h1
    obtain ⟨m, rfl⟩ := Int.eq_ofNat_of_zero_le h3
    exact pads_yes n m (by omega) (by omega) w hK
  · exact pads_no a b (by omega) w hK

/-! ### the row and the card -/
set_option maxRecDepth 100000 in
theorem liftedPads (os : Os) (started : os.Started) (H : Type) (enc : TypeId × Value → H) :
    ReturnsInHanded {} Tryd.checked os 6 .any (fun w args => (Rows.digestPadsSpec.pre enc Tryd.prog Tryd.f6 [] false w args ∧ laidMetH Tryd.prog laidK w) ∧ sizedMet enc Tryd.prog Tryd.f6 (OpenSpec.ofChange Rows.digestPadsSpec) false w args)
      (Rows.digestPadsSpec.post enc Tryd.prog Tryd.f6 false true false false) := by
  refine returnsInHanded_of_change_and (C := Tryd.checked) (X := fun w _ => laidMetH Tryd.prog laidK w) (fun _ _ _ hh h => h.of_heap hh) own started (by kernel_rfl) Tryd.func6
    (ChangeSpec.witness_shaped (enc := enc) (C := Tryd.checked) (os := os) (X := fun w _ => laidMetH Tryd.prog laidK w) false (World.doorLaid Tryd.prog 1000 os) #[.int .i64 0, .int .i64 0] 8 rfl (World.shaped_of_RefB (by kernel_rfl) (by kernel_rfl)) (by kernel_rfl) (by kernel_rfl) (by kernel_rfl) (door_met os _)) ?_
  intro W base args ds gs before hval0 hW _ _ hL _
  have hval : ∀ (j : Nat) t v, Tryd.f6.params[j]? = some t → args[j]? = some v → Value.okWide Tryd.prog W .any base t v := hval0
  have hW' := hW
  obtain ⟨p, q, hA0, hV, rfl, hfz, hnd⟩ := hW
  obtain ⟨rfl, rfl⟩ := trodVars_none hV
  have hA : DataW.TrodAll enc Tryd.prog W 0 (fun _ => true) true Tryd.f6.params.toList args.toList ds p := hA0
  rw [Tryd.params6] at hA hval
  obtain ⟨v0, vs0, d0, ds0, p0, q0, hargs, rfl, rfl, h0, r0⟩ := trodAll_cons hA
  obtain ⟨v1, vs1, d1, ds1, p1, q1, rfl, rfl, rfl, h1, r1⟩ := trodAll_cons r0
  obtain ⟨rfl, rfl, rfl⟩ := trodAll_nil r1
  obtain rfl : args = #[v0, v1] := by cases args; simp_all
  obtain ⟨a0, rfl, rfl, rfl, _⟩ := open_int Tryd.underlying3 (hval 0 _ v0 rfl rfl) h0
  obtain ⟨a1, rfl, rfl, rfl, _⟩ := open_int Tryd.underlying3 (hval 1 _ v1 rfl rfl) h1
  refine (walkPads a0 a1 W (consts_of_laid hL)).mono fun e W' ⟨he, hg⟩ => ?_
  subst he
  exact ⟨_, rfl, law_post (B := 4) (by kernel_rfl) (by kernel_rfl) (by kernel_rfl) Tryd.underlying4 rfl hW' rfl rfl rfl hg⟩
theorem overPads : Rows.DigestPadsSaid :=
  OpenClaim.holds_of_wide 6 Tryd.f6 rfl rfl rfl rfl rfl rfl rfl ⟨rfl, rfl, rfl, rfl, rfl⟩ rfl rfl rfl rfl rfl (by kernel_rfl) Tryd.func6 (by kernel_rfl)
    (of_decide_eq_true (by kernel_rfl)) (by unfold Func.isWrapper; first | (rw [if_pos (by decide +kernel)]; kernel_rfl) | (rw [if_neg (by decide +kernel)]; exact ⟨rfl, rfl⟩))
    (fun os started H enc _ => liftedPads os started H enc)
theorem digestPads_holds : Rows.DigestPadsCardSaid :=
  Claim7.holds_tied_plain_at .later [] [.data] true Rows.digestPadsCard.stood.harness false
    overPads (fun _ h => by cases h) (by kernel_rfl) (fun _ h => by cases h) digestPads_row_tie rfl ⟨rfl, rfl⟩ (by kernel_rfl) rfl
    (fun f fn hf hfn => by
      obtain rfl : f = 6 := Option.some.inj ((show Tryd.prog.funcNamed "keyhole/keyholelaw02.DigestPads" = some 6 by kernel_rfl).symm.trans hf) |>.symm
      obtain rfl : fn = Tryd.f6 := (Option.some.inj (Tryd.func6.symm.trans hfn)).symm
      exact ⟨by kernel_rfl, fun j t ht => by
        rw [Tryd.params6] at ht
        have hm : t ∈ [3, 3] := by simpa using Array.mem_of_getElem? ht
        have hall : ([3, 3].all fun u => !Tryd.prog.wantsStandIn u) = true := by kernel_rfl
        exact (show Tryd.prog.wantsStandIn t = false by simpa using List.all_eq_true.1 hall t hm)⟩)
    (by kernel_rfl)
#print axioms digestPads_holds
end Go.Proofs.YtfcigggchnjkoaaDoor
