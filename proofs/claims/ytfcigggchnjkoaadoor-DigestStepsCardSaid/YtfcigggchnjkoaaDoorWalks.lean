/-
  DigestWalks, for every input: a Sum is what steps make of the text and of Pad's bytes, from Start on.
-/
import Derived.Test.YtfcigggchnjkoaaDoorLaid
import Derived.Deep.CutRange
import Derived.Deep.DeepCutAuto
namespace Go.Proofs.YtfcigggchnjkoaaDoor
open Go.RowKit Go.Kx
open Go.ChangeShapes Go.WideShapes Go.ChangeAt Go.ChangeMaps

theorem row8_newi {w : World} {t : TypeId} (m : St) : (w.alloc (.cells #[.int .i64 m.a, .int .i64 m.b, .int .i64 m.c, .int .i64 m.d, .int .i64 m.e, .int .i64 m.f, .int .i64 m.g, .int .i64 m.h] t)).rowIs w.heap.size t 8 (fun j => .int .i64 (m.at j : Nat)) :=
  World.rowIs_alloc w (rowA .i64 8 m.at) t (fun j => .int .i64 (m.at j : Nat)) (fun j hj => rowA_at .i64 8 m.at j (by simpa [rowA_size] using hj))
theorem chunk_ext (a : ByteArray) (L : List UInt8) (hL : a.data.toList = L) (j : Nat) (hj : j % 64 = 0) (h : j + 64 ≤ a.size) : a.extract j (j + 64) = chunkB L (j / 64) ∧ (chunkB L (j / 64)).size = 64 := by
  subst hL
  have hl : a.data.toList.length = a.size := by simp
  refine ⟨?_, ?_⟩
  · apply ByteArray.ext
    apply Array.toList_inj.1
    rw [Lib.extract_data, chunkB, chunkAt, show 64 * (j / 64) = j by omega, show j + 64 - j = 64 by omega]
  · rw [chunkB, size_mk, chunkAt, List.length_take, List.length_drop]; omega
theorem fold_next (L : List UInt8) (j : Nat) (hj : j % 64 = 0) (h : j + 64 ≤ L.length) : stepL (foldS ((chunksB L).take (j / 64))) (chunkB L (j / 64)).data.toList = foldS ((chunksB L).take ((j + 64) / 64)) := by
  rw [← foldS_snoc, chunksB_take L (j / 64) (by omega), show (j + 64) / 64 = j / 64 + 1 by omega]
theorem run_slice_chunk (a : ByteArray) (L : List UInt8) (hL : a.data.toList = L) (j : Nat) (hj : j % 64 = 0) (h : j + 64 ≤ a.size) (V : World) :
    (Instr.slice 9 (.string a) (some (.int .i64 (j : Int))) (some (.int .i64 ((j : Int) + 64))) none).run Tryd.prog V = .ok (.string (chunkB L (j / 64))) V := by
  rw [run_slice_str Tryd.underlying9 a _ _ (by omega) (by omega) (by omega), Int.toNat_natCast, show ((j : Int) + 64).toNat = j + 64 by omega, (chunk_ext a L hL j hj h).1]

set_option maxRecDepth 100000 in
set_option maxHeartbeats 4000000 in
theorem walks_yes (s : ByteArray) (hs : s.size ≤ 2000) (w : World) (hK : Consts w) :
    Calls Tryd.prog 5 #[.string s] w fun e w' => e = .returned (.bool true) ∧ Below w.heap.size w w' := by
  obtain ⟨p, hp⟩ : ∃ p : ByteArray, p = ⟨(padL s.size).toArray⟩ := ⟨_, rfl⟩
  have hpad := pad_yes s.size (by omega)
  rw [← hp] at hpad
  have hpl : p.data.toList = padL s.size := by rw [hp]
  have hpz := pad_le s.size
  have hpm := pad_mod s.size
  have hps : p.size = (padL s.size).length := by rw [hp, size_mk]
  obtain ⟨a, ha⟩ : ∃ a : ByteArray, a = s ++ p := ⟨_, rfl⟩
  have hadd : ∀ V : World, (Op.stringOp .add s p).run Tryd.prog V = .ok (.string a) V := fun V => by rw [ha]; exact run_string_add_sum V s p (by omega)
  obtain ⟨L, hL⟩ : ∃ L, a.data.toList = L := ⟨_, rfl⟩
  have hLL : L = s.data.toList ++ padL s.data.toList.length := by rw [← hL, ha, show s.data.toList.length = s.size by simp, ← hpl]; simp
  have has : a.size = L.length := by rw [← hL]; simp
  have haz : a.size = s.size + p.size := by rw [ha]; simp
  have hne : ((a.size : Int) % 64 != 0) = false := by simp; omega
  obtain ⟨d, hd⟩ : ∃ d : ByteArray, d = ⟨(sumL s.data.toList).toArray⟩ := ⟨_, rfl⟩
  have hsum : ∀ V : World, Consts V → Calls Tryd.prog 15 #[.string s] V fun e w' => e = .returned (.string d) ∧ Below V.heap.size V w' := by rw [hd]; exact fun V hV => sum_any s (by omega) V hV
  have hdz : d.size = 32 := by rw [hd, size_mk, sumL_length]
  have hjn : ∀ (X c : Nat) (V : World), Sl V (some ⟨X, 0, none⟩) (ints (foldS (chunksB L)).l) → Calls Tryd.prog 18 #[.slice (some ⟨X, 0, none⟩) 8 c, .bool true] V fun e w' => e = .returned (.tuple #[.string d, .bool true]) ∧ Below V.heap.size V w' := by
    intro X c V hV
    rw [hd, sumL, ← hLL, ← foldS_chunks]
    exact join_any (some ⟨X, 0, none⟩) c _ true V (by simp [St.l]) hV (St.l_lt (foldS_ok _))
  have HPAD := Lib.hid hpad
  have HL := Lib.hid hL
  have HSUM := Lib.hid hsum
  have HJN := Lib.hid hjn
  have HDZ := Lib.hid hdz
  have HAS := Lib.hid has
  have HMOD : a.size % 64 = 0 := by omega
  have hLb : a.size ≤ 3000 := by omega
  have hb0 : decide ((2000 : Int) < (s.size : Int)) = false := by simp; omega
  clear hp hpad hpl hpz hpm hps ha hL hLL haz hd hsum hdz hjn has
  go_enter Tryd.func5, Tryd.ntmps5
  go_wp2_with fail
  refine (HPAD.out _).mono ?_
  rintro e w1 ⟨rfl, hb1⟩
  go_wp2_with fail
  refine (start_any _).mono ?_
  rintro e w2 ⟨rfl, hb2⟩
  unfold St.v
  go_wp2_with fail
  have hb := hb1.next hb2
  have hr : (w2.alloc (.cells (i64s st0) 22)).rowIs w2.heap.size 22 8 (fun j => .int .i64 ((foldS ((chunksB L).take (0 / 64))).at j : Nat)) :=
    World.rowIs_alloc w2 (i64s st0) 22 (fun j => .int .i64 (st0.at j : Nat)) (fun j hj => rowA_at .i64 8 st0.at j hj)
  have hbw : Below w.heap.size w (w2.alloc (.cells (i64s st0) 22)) := hb.alloc hb.size _
  have hX : w.heap.size ≤ w2.heap.size := hb.size
  clear hb1 hb2 hb
  unfold i64s at hr hbw
  generalize w2.heap.size = X at *
  go_loopw [7] (fun i wr => ∃ j : Nat, j ≤ a.size ∧ j % 64 = 0 ∧ i = .int .i64 j ∧ wr.rowIs X 22 8 (fun q => .int .i64 ((foldS ((chunksB L).take (j / 64))).at q : Nat)) ∧ Below w.heap.size w wr) (fun i _ => a.size - (intOf i).toNat)
  case atStart => exact ⟨0, by omega, by omega, rfl, hr, hbw⟩
  case round =>
    clear hr hbw
    obtain ⟨j, hj, hjm, rfl, hrj, hbj⟩ := hrel
    by_cases hl : j < a.size
    · have hj64 : j + 64 ≤ a.size := by omega
      have hcons := hK.keep hbj
      have hsl := run_slice_chunk a L HL.out j hjm hj64
      have hc64 := (chunk_ext a L HL.out j hjm hj64).2
      have HN := Lib.hid (fold_next L j hjm (by rw [← HAS.out]; exact hj64))
      have hok := foldS_ok ((chunksB L).take (j / 64))
      have hi1 : IntKind.i64.wrap ((j : Int) + 64) = (j : Int) + 64 := IntWalk.i64_in _ (by omega)
      have HJ := Lib.hid hj
      have HJM := Lib.hid hjm
      generalize hT : foldS ((chunksB L).take ((j + 64) / 64)) = T at *
      have HT := Lib.hid hT
      clear hT
      generalize foldS ((chunksB L).take (j / 64)) = S at *
      generalize chunkB L (j / 64) = b at *
      clear hj hjm
      obtain ⟨c0, c1, c2, c3, c4, c5, c6, c7⟩ := row8_i64 hrj
      have hXw := hrj.lt
      go_upto_region 11 with fail
      go_cut [8, 9] from 33 to 51 (fun p8 q9 wx => ∃ g : Nat, p8 = .pointer (some ⟨g, 0, none⟩) ∧ q9 = .bool true ∧ wr.heap.size ≤ g ∧ wx.rowIs g 22 8 (fun q => .int .i64 (T.at q : Nat)) ∧ Below wr.heap.size wr wx)
      case first =>
        go_region_with (go_at_call 8; refine (step_lit S hok b hc64 T HN.out _ ?_).mono ?_; (exact hcons.keep (by first | (with_reducible exact Below.drew0 _) | (with_reducible exact (Below.alloc0 _ _).drew) | (with_reducible exact (Below.drew0 _).al _))); rintro e w3 ⟨rfl, hb3⟩; obtain ⟨hc3, hf3⟩ := bcell hb3; have hz3 := hb3.size; (try simp only [World.size_drew] at hc3 hf3 hz3); (try simp only [World.size_alloc] at hc3 hf3 hz3); (try simp only [World.size_drew] at hc3 hf3 hz3); (try have hz4 : wr.heap.size < w3.heap.size := by omega))
        all_goals (go_wp2_with fail; go_meet)
        all_goals have hB3 : Below wr.heap.size wr w3 := (by first | (with_reducible exact (Below.drew0 _).next hb3) | (with_reducible exact ((Below.alloc0 _ _).drew).next' hb3 (Nat.le_refl _)))
        all_goals have hs3 := hB3.size
        all_goals clear hc3 hf3
        all_goals refine ⟨_, rfl, rfl, ?_, ?_, ?_⟩
        all_goals first
          | omega
          | (with_reducible exact row8_newi T)
          | (with_reducible exact hB3.al _)
          | (with_reducible exact row8_seti (rowIs_keep (World.rowIs.drew row8_zero) hb3) T)
          | (with_reducible exact row8_seti (rowIs_keep row8_zero hb3) T)
          | (with_reducible refine below8_set hB3 ?_ _ _ _ _ _ _ _ _; omega)
      case rest =>
        obtain ⟨g, rfl, rfl, hg, hrg, hbg⟩ := hcut
        obtain ⟨d0, d1, d2, d3, d4, d5, d6, d7⟩ := row8_i64 hrg
        have hrX := rowIs_keep hrj hbg
        obtain ⟨x0, x1, x2, x3, x4, x5, x6, x7⟩ := row8_i64 hrX
        have xf := hrX.frozen
        clear c0 c1 c2 c3 c4 c5 c6 c7
        go_wp2
        go_roundw
        case rel =>
          have hjo := HJ.out
          have hjo2 := HJM.out
          refine ⟨j + 64, by omega, by omega, by go_num, ?_, below8_set (hbj.next' hbg) hX _ _ _ _ _ _ _ _⟩
          rw [HT.out]
          exact row8_seti hrX T
        case measure => simp [intOf]; omega
    · obtain rfl : j = a.size := by omega
      have hall := chunksB_all L (a.size / 64) (by rw [HAS.out]; omega)
      rw [hall] at hrj
      have hsl : Sl wr (some ⟨X, 0, none⟩) (ints (foldS (chunksB L)).l) := Sl_of_row hrj
      clear hall hrj
      go_wp2_with fail
      refine (HJN.out X 8 wr hsl).mono ?_
      rintro e w3 ⟨rfl, hb3⟩
      go_wp2_with fail
      have hK3 := hK.keep (hbj.next' hb3)
      refine (sums_any _ hK3).mono ?_
      rintro e w4 ⟨rfl, hb4⟩
      go_wp2_with fail
      refine (HSUM.out _ (hK3.keep hb4)).mono ?_
      rintro e w5 ⟨rfl, hb5⟩
      have hdz := HDZ.out
      go_wp2
      go_ret
      exact ⟨ret_bool (by first | rfl | simp), (hbj.next' hb3).next' (hb4.next hb5)⟩
theorem walkWalks (s : ByteArray) (w : World) (hK : Consts w) :
    Calls Tryd.prog 5 #[.string s] w fun e w' => e = .returned (.bool true) ∧ Below w.heap.size w w' := by
  by_cases h : s.size ≤ 2000
  · exact walks_yes s h w hK
  · have h2 : (2000 : Int) < (s.size : Int) := by omega
    go_enter Tryd.func5, Tryd.ntmps5
    go_wp2
    go_ret
    exact ⟨rfl, Below.refl _ _⟩

/-! ### the row and the card -/
set_option maxRecDepth 100000 in
theorem liftedDigestWalks (os : Os) (started : os.Started) (H : Type) (enc : TypeId × Value → H) :
    ReturnsInHanded {} Tryd.checked os 5 .any (fun w args => (Rows.digestWalksSpec.pre enc Tryd.prog Tryd.f5 [] false w args ∧ laidMetH Tryd.prog laidK w) ∧ sizedMet enc Tryd.prog Tryd.f5 (OpenSpec.ofChange Rows.digestWalksSpec) false w args)
      (Rows.digestWalksSpec.post enc Tryd.prog Tryd.f5 false true false false) := by
  refine returnsInHanded_of_change_and (C := Tryd.checked) (X := fun w _ => laidMetH Tryd.prog laidK w) (fun _ _ _ hh h => h.of_heap hh) own started (by kernel_rfl) Tryd.func5
    (ChangeSpec.witness_shaped (enc := enc) (C := Tryd.checked) (os := os) (X := fun w _ => laidMetH Tryd.prog laidK w) false (World.doorLaid Tryd.prog 1000 os) #[.string ⟨#[]⟩] 8 rfl (World.shaped_of_RefB (by kernel_rfl) (by kernel_rfl)) (by kernel_rfl) (by kernel_rfl) (by kernel_rfl) (door_met os _)) ?_
  intro W base args ds gs before hval0 hW _ _ hL _
  have hval : ∀ (j : Nat) t v, Tryd.f5.params[j]? = some t → args[j]? = some v → Value.okWide Tryd.prog W .any base t v := hval0
  have hW' := hW
  obtain ⟨p, q, hA0, hV, rfl, hfz, hnd⟩ := hW
  obtain ⟨rfl, rfl⟩ := trodVars_none hV
  have hA : DataW.TrodAll enc Tryd.prog W 0 (fun _ => true) true Tryd.f5.params.toList args.toList ds p := hA0
  rw [Tryd.params5] at hA hval
  obtain ⟨v0, vs0, d0, ds0, p0, q0, hargs, rfl, rfl, h0, r0⟩ := trodAll_cons hA
  obtain ⟨rfl, rfl, rfl⟩ := trodAll_nil r0
  obtain rfl : args = #[v0] := by cases args; simp_all
  obtain ⟨a0, rfl, rfl, rfl, b0⟩ := open_string Tryd.underlying9 (hval 0 _ v0 rfl rfl) h0
  refine (walkWalks a0 W (consts_of_laid hL)).mono fun e W' ⟨he, hg⟩ => ?_
  subst he
  exact ⟨_, rfl, law_post (B := 4) (by kernel_rfl) (by kernel_rfl) (by kernel_rfl) Tryd.underlying4 rfl hW' rfl rfl rfl hg⟩
theorem overDigestWalks : Rows.DigestWalksSaid :=
  OpenClaim.holds_of_wide 5 Tryd.f5 rfl rfl rfl rfl rfl rfl rfl ⟨rfl, rfl, rfl, rfl, rfl⟩ rfl rfl rfl rfl rfl (by kernel_rfl) Tryd.func5 (by kernel_rfl)
    (of_decide_eq_true (by kernel_rfl)) (by unfold Func.isWrapper; first | (rw [if_pos (by decide +kernel)]; kernel_rfl) | (rw [if_neg (by decide +kernel)]; exact ⟨rfl, rfl⟩))
    (fun os started H enc _ => liftedDigestWalks os started H enc)
theorem digestWalks_holds : Rows.DigestWalksCardSaid :=
  Claim7.holds_tied_plain_at .later [] [.data] true Rows.digestWalksCard.stood.harness false
    overDigestWalks (fun _ h => by cases h) (by kernel_rfl) (fun _ h => by cases h) digestWalks_row_tie rfl ⟨rfl, rfl⟩ (by kernel_rfl) rfl
    (fun f fn hf hfn => by
      obtain rfl : f = 5 := Option.some.inj ((show Tryd.prog.funcNamed "keyhole/keyholelaw02.DigestWalks" = some 5 by kernel_rfl).symm.trans hf) |>.symm
      obtain rfl : fn = Tryd.f5 := (Option.some.inj (Tryd.func5.symm.trans hfn)).symm
      exact ⟨by kernel_rfl, fun j t ht => by
        rw [Tryd.params5] at ht
        have hm : t ∈ [9] := by simpa using Array.mem_of_getElem? ht
        have hall : ([9].all fun u => !Tryd.prog.wantsStandIn u) = true := by kernel_rfl
        exact (show Tryd.prog.wantsStandIn t = false by simpa using List.all_eq_true.1 hall t hm)⟩)
    (by kernel_rfl)
#print axioms digestWalks_holds
end Go.Proofs.YtfcigggchnjkoaaDoor
