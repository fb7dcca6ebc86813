/-
  DigestGoes, for every input: behind whole blocks a Sum goes on from the state there, with the rest and all that Pad tells.
-/
import Derived.Test.YtfcigggchnjkoaaDoorWalks
namespace Go.Proofs.YtfcigggchnjkoaaDoor
open Go.RowKit Go.Kx
open Go.ChangeShapes Go.WideShapes Go.ChangeAt Go.ChangeMaps

theorem run_slice_end {P : Program} {t : TypeId} (h : P.underlying t = some .string) (s : ByteArray) (lo : Int) (h0 : 0 ≤ lo) (h1 : lo ≤ (s.size : Int)) (V : World) :
    (Instr.slice t (.string s) (some (.int .i64 lo)) none none).run P V = .ok (.string (s.extract lo.toNat s.size)) V := by
  obtain ⟨l, rfl⟩ := Int.eq_ofNat_of_zero_le h0
  have e2 : (Instr.sliceBound (.int .i64 (l : Int)) s.size .sliceB).run P V = .ok l V := by
    simp only [Instr.sliceBound, asIntOf, Sem.run_bind, Sem.run_pure, Result.andThen_ok, if_pos (show 0 ≤ (l : Int) ∧ (l : Int) ≤ (s.size : Int) by omega), Int.toNat_natCast]
  simp only [Instr.slice, Instr.sliceBounds, Sem.run_bind, run_underlying h, Result.andThen_ok, Option.isSome_none, Bool.false_eq_true, if_false, Sem.run_pure, e2, Int.toNat_natCast]

theorem byteAt_join (ws : List Nat) (i : Nat) (h : i < 4 * ws.length) : byteAt ⟨(joinL true ws).toArray⟩ (ByteArray.mk (joinL true ws).toArray).size i = joinAt true ws i := by
  have hl := joinL_length true ws
  unfold byteAt
  rw [size_mk, if_pos (by omega)]
  show ((joinL true ws).toArray.toList.getD i 0).toNat = _
  rw [List.toList_toArray, List.getD_eq_getElem?_getD, List.getElem?_eq_getElem (by omega)]
  have := joinL_at true ws i (by omega)
  rw [Option.getD_some]
  omega
theorem cut_join (ws : List Nat) (h : ∀ x ∈ ws, x < 4294967296) : cutL true ⟨(joinL true ws).toArray⟩ = ws := by
  apply List.ext_getElem?
  intro j
  rw [cutL, List.getElem?_map]
  by_cases hj : j < ws.length
  · have hs : (ByteArray.mk (joinL true ws).toArray).size / 4 = ws.length := by rw [size_mk, joinL_length]; omega
    rw [hs, List.getElem?_range hj, List.getElem?_eq_getElem hj, Option.map_some]
    have hx := h _ (List.getElem_mem hj)
    have hg : ws.getD j 0 = ws[j] := by rw [List.getD_eq_getElem?_getD, List.getElem?_eq_getElem hj]; rfl
    congr 1
    unfold cutRow
    rw [byteAt_join ws _ (by omega), byteAt_join ws _ (by omega), byteAt_join ws _ (by omega), byteAt_join ws _ (by omega)]
    unfold joinAt
    rw [show 4 * j / 4 = j by omega, show (4 * j + 1) / 4 = j by omega, show (4 * j + 2) / 4 = j by omega, show (4 * j + 3) / 4 = j by omega, show 4 * j % 4 = 0 by omega, show (4 * j + 1) % 4 = 1 by omega, show (4 * j + 2) % 4 = 2 by omega, show (4 * j + 3) % 4 = 3 by omega, hg]
    generalize ws[j] = x at *
    simp [wd, shN]
    omega
  · have hs : (ByteArray.mk (joinL true ws).toArray).size / 4 = ws.length := by rw [size_mk, joinL_length]; omega
    rw [hs, List.getElem?_eq_none (by simpa using hj), List.getElem?_eq_none (by omega)]
    rfl
theorem chunk_first (s : ByteArray) (L : List UInt8) (hp : ∃ t, L = s.data.toList ++ t) (k : Nat) (h : 64 * k + 64 ≤ s.size) : s.extract (64 * k) (64 * k + 64) = chunkB L k ∧ (chunkB L k).size = 64 := by
  obtain ⟨t, rfl⟩ := hp
  have hl : s.data.toList.length = s.size := by simp
  refine ⟨?_, ?_⟩
  · apply ByteArray.ext
    apply Array.toList_inj.1
    rw [Lib.extract_data, chunkB, chunkAt, show 64 * k + 64 - 64 * k = 64 by omega]
    show _ = ((s.data.toList ++ t).drop (64 * k)).take 64
    rw [List.drop_append_of_le_length (by omega), List.take_append_of_le_length (by rw [List.length_drop]; omega)]
  · rw [chunkB, size_mk, chunkAt, List.length_take, List.length_drop, List.length_append]; omega
theorem chunk_rest (a : ByteArray) (L : List UInt8) (n : Nat) (ha : a.data.toList = L.drop (64 * n)) (j : Nat) (hj : j % 64 = 0) (h : j + 64 ≤ a.size) : a.extract j (j + 64) = chunkB L (n + j / 64) ∧ (chunkB L (n + j / 64)).size = 64 := by
  obtain ⟨h1, h2⟩ := chunk_ext a _ rfl j hj h
  have e : chunkB a.data.toList (j / 64) = chunkB L (n + j / 64) := by
    unfold chunkB chunkAt
    rw [ha, List.drop_drop, show 64 * n + 64 * (j / 64) = 64 * (n + j / 64) by omega]
  rw [e] at h1 h2
  exact ⟨h1, h2⟩
theorem fold_step (L : List UInt8) (k : Nat) (h : k < L.length / 64) : stepL (foldS ((chunksB L).take k)) (chunkB L k).data.toList = foldS ((chunksB L).take (k + 1)) := by
  rw [← foldS_snoc, chunksB_take L k h]
set_option maxRecDepth 100000 in
set_option maxHeartbeats 8000000 in
theorem goes_yes (s : ByteArray) (n : Nat) (hs : s.size ≤ 2000) (hn : n ≤ 40) (hns : 64 * n ≤ s.size) (w : World) (hK : Consts w) :
    Calls Tryd.prog 7 #[.string s, .int .i64 n] w fun e w' => e = .returned (.bool true) ∧ Below w.heap.size w w' := by
  obtain ⟨p, hp⟩ : ∃ p : ByteArray, p = ⟨(padL s.size).toArray⟩ := ⟨_, rfl⟩
  have hpad := pad_yes s.size (by omega)
  rw [← hp] at hpad
  have hpl : p.data.toList = padL s.size := by rw [hp]
  have hpz := pad_le s.size
  have hpm := pad_mod s.size
  have hps : p.size = (padL s.size).length := by rw [hp, size_mk]
  obtain ⟨L, hL⟩ : ∃ L, L = s.data.toList ++ padL s.data.toList.length := ⟨_, rfl⟩
  have hsl : s.data.toList.length = s.size := by simp
  have hLl : L.length = s.size + p.size := by rw [hL, List.length_append, hsl, hps]
  have hpre : ∃ t, L = s.data.toList ++ t := ⟨_, hL⟩
  obtain ⟨b, hb⟩ : ∃ b : ByteArray, b = s.extract (64 * n) s.size := ⟨_, rfl⟩
  have hbl : b.data.toList = s.data.toList.drop (64 * n) := by rw [hb, Lib.extract_to_end]
  have hbz : b.size = s.size - 64 * n := by rw [show b.size = b.data.toList.length by simp, hbl, List.length_drop, hsl]
  obtain ⟨a, ha⟩ : ∃ a : ByteArray, a = b ++ p := ⟨_, rfl⟩
  have hal : a.data.toList = L.drop (64 * n) := by
    rw [ha, show (b ++ p).data.toList = b.data.toList ++ p.data.toList by simp, hbl, hpl, hL, List.drop_append_of_le_length (by omega), hsl]
  have haz : a.size = L.length - 64 * n := by rw [show a.size = a.data.toList.length by simp, hal, List.length_drop]
  have hadd : ∀ V : World, (Op.stringOp .add b p).run Tryd.prog V = .ok (.string a) V := fun V => by rw [ha]; exact run_string_add_sum V b p (by omega)
  have hsf : ∀ V : World, (Instr.slice 9 (.string s) (some (.int .i64 (64 * (n : Int)))) none none).run Tryd.prog V = .ok (.string b) V := fun V => by
    rw [run_slice_end Tryd.underlying9 s _ (by omega) (by omega), show (64 * (n : Int)).toNat = 64 * n by omega, hb]
  have hne : ((a.size : Int) % 64 != 0) = false := by simp; omega
  obtain ⟨d, hd⟩ : ∃ d : ByteArray, d = ⟨(sumL s.data.toList).toArray⟩ := ⟨_, rfl⟩
  have hsum : ∀ V : World, Consts V → Calls Tryd.prog 15 #[.string s] V fun e w' => e = .returned (.string d) ∧ Below V.heap.size V w' := by rw [hd]; exact fun V hV => sum_any s (by omega) V hV
  have hcut : ∀ V : World, Calls Tryd.prog 19 #[.string d, .bool true] V fun e w' => ∃ q, e = .returned (.tuple #[.slice (some ⟨q, 0, none⟩) 8 8, .bool true]) ∧ Sl w' (some ⟨q, 0, none⟩) (ints (foldS (chunksB L)).l) ∧ Below V.heap.size V w' := by
    intro V
    have h := cut_list d true V (by rw [hd, size_mk, sumL_length]; omega) (by rw [hd, size_mk, sumL_length])
    rw [hd, sumL, ← hL, ← foldS_chunks, cut_join _ (St.l_lt (foldS_ok _))] at h
    rw [hd, sumL, ← hL, ← foldS_chunks]
    exact h
  have HPAD := Lib.hid hpad
  have HAL := Lib.hid hal
  have HAZ := Lib.hid haz
  have HSUM := Lib.hid hsum
  have HCUT := Lib.hid hcut
  have HPRE := Lib.hid hpre
  have HMOD : L.length % 64 = 0 := by omega
  have hLs : s.size ≤ L.length := by omega
  have hLb : L.length ≤ 3000 := by omega
  have b0 : decide ((2000 : Int) < (s.size : Int)) = false := by simp; omega
  have b1 : decide ((40 : Int) < (n : Int)) = false := by simp; omega
  have b3 : decide ((n : Int) < 0) = false := by simp
  have b2 : decide ((s.size : Int) < 64 * (n : Int)) = false := by simp; omega
  clear hp hpad hpl hpz hpm hps hL hsl hLl hpre hb hbl hbz ha hal haz hd hsum hcut
  go_enter Tryd.func7, Tryd.ntmps7
  go_wp2_with fail
  refine (start_any _).mono ?_
  rintro e w2 ⟨rfl, hb2⟩
  unfold St.v
  go_wp2_with fail
  have hr : (w2.alloc (.cells (i64s st0) 22)).rowIs w2.heap.size 22 8 (fun j => .int .i64 ((foldS ((chunksB L).take 0)).at j : Nat)) :=
    World.rowIs_alloc w2 (i64s st0) 22 (fun j => .int .i64 (st0.at j : Nat)) (fun j hj => rowA_at .i64 8 st0.at j hj)
  have hbw : Below w.heap.size w (w2.alloc (.cells (i64s st0) 22)) := hb2.alloc hb2.size _
  have hX : w.heap.size ≤ w2.heap.size := hb2.size
  clear hb2
  unfold i64s at hr hbw
  generalize w2.heap.size = X at *
  go_loopw [6] (fun i wr => ∃ k : Nat, k ≤ n ∧ i = .int .i64 k ∧ wr.rowIs X 22 8 (fun q => .int .i64 ((foldS ((chunksB L).take k)).at q : Nat)) ∧ Below w.heap.size w wr) (fun i _ => n - (intOf i).toNat)
  case atStart => exact ⟨0, by omega, rfl, hr, hbw⟩
  case round =>
    clear hr hbw
    obtain ⟨k, hk, rfl, hrk, hbk⟩ := hrel
    by_cases hl : k < n
    · have hcons := hK.keep hbk
      obtain ⟨hce, hc64⟩ := chunk_first s L HPRE.out k (by omega)
      have hsl : ∀ V : World, (Instr.slice 9 (.string s) (some (.int .i64 (64 * (k : Int)))) (some (.int .i64 (64 * (k : Int) + 64))) none).run Tryd.prog V = .ok (.string (chunkB L k)) V := fun V => by
        rw [run_slice_str Tryd.underlying9 s _ _ (by omega) (by omega) (by omega), show (64 * (k : Int)).toNat = 64 * k by omega, show (64 * (k : Int) + 64).toNat = 64 * k + 64 by omega, hce]
      clear hce
      have HN := Lib.hid (fold_step L k (by omega))
      have hok := foldS_ok ((chunksB L).take k)
      have hi1 : IntKind.i64.wrap (64 * (k : Int)) = 64 * (k : Int) := IntWalk.i64_in _ (by omega)
      have hi2 : IntKind.i64.wrap (64 * (k : Int) + 64) = 64 * (k : Int) + 64 := IntWalk.i64_in _ (by omega)
      generalize hT : foldS ((chunksB L).take (k + 1)) = T at *
      have HT := Lib.hid hT
      clear hT
      generalize foldS ((chunksB L).take k) = S at *
      generalize chunkB L k = c at *
      obtain ⟨c0, c1, c2, c3, c4, c5, c6, c7⟩ := row8_i64 hrk
      have hXw := hrk.lt
      go_upto_region 7 with fail
      go_cut [7, 8] from 38 to 57 (fun p8 q9 wx => ∃ g : Nat, p8 = .pointer (some ⟨g, 0, none⟩) ∧ q9 = .bool true ∧ wr.heap.size ≤ g ∧ wx.rowIs g 22 8 (fun q => .int .i64 (T.at q : Nat)) ∧ Below wr.heap.size wr wx)
      case first =>
        go_region_with (go_at_call 8; refine (step_lit S hok c hc64 T HN.out _ ?_).mono ?_; (exact hcons.keep (by first | (with_reducible exact Below.drew0 _) | (with_reducible exact (Below.alloc0 _ _).drew) | (with_reducible exact (Below.drew0 _).al _))); rintro e w3 ⟨rfl, hb3⟩; obtain ⟨hc3, hf3⟩ := bcell hb3; have hz3 := hb3.size; (try simp only [World.size_drew] at hc3 hf3 hz3); (try simp only [World.size_alloc] at hc3 hf3 hz3); (try simp only [World.size_drew] at hc3 hf3 hz3); (try have hz4 : wr.heap.size < w3.heap.size := by omega))
        all_goals (go_wp2_with fail; go_meet)
        all_goals have hB3 : Below wr.heap.size wr w3 := (by first | (with_reducible exact (Below.drew0 _).next hb3) | (with_reducible exact ((Below.alloc0 _ _).drew).next' hb3 (Nat.le_refl _)))
        all_goals have hs3 := hB3.size
        all_goals clear hc3 hf3
        all_goals refine ⟨_, rfl, rfl, ?_, ?_, ?_⟩
        all_goals first
          | omega
          | (with_reducible exact row8_newi T)
          | (with_reducible exact hB3.al _)
          | (with_reducible exact row8_seti (rowIs_keep (World.rowIs.drew row8_zero) hb3) T)
          | (with_reducible exact row8_seti (rowIs_keep row8_zero hb3) T)
          | (with_reducible refine below8_set hB3 ?_ _ _ _ _ _ _ _ _; omega)
      case rest =>
        obtain ⟨g, rfl, rfl, hg, hrg, hbg⟩ := hcut
        obtain ⟨d0, d1, d2, d3, d4, d5, d6, d7⟩ := row8_i64 hrg
        have hrX := rowIs_keep hrk hbg
        obtain ⟨x0, x1, x2, x3, x4, x5, x6, x7⟩ := row8_i64 hrX
        have xf := hrX.frozen
        clear c0 c1 c2 c3 c4 c5 c6 c7
        go_wp2
        go_roundw
        case rel =>
          refine ⟨k + 1, by omega, by go_num, ?_, below8_set (hbk.next' hbg) hX _ _ _ _ _ _ _ _⟩
          rw [HT.out]
          exact row8_seti hrX T
        case measure => simp [intOf]; omega
    · obtain rfl : n = k := by omega
      go_wp2_with fail
      refine (HPAD.out _).mono ?_
      rintro e w3 ⟨rfl, hb3⟩
      have hrp := rowIs_keep hrk hb3
      have hbp := hbk.next' hb3
      clear hrk hbk hb3 hk hl
      go_wp2_with fail
      have hrp' : w3.rowIs X 22 8 (fun q => .int .i64 ((foldS ((chunksB L).take (n + 0 / 64))).at q : Nat)) := hrp
      have ham : a.size % 64 = 0 := by rw [HAZ.out]; omega
      have hab : a.size ≤ 3000 := by rw [HAZ.out]; omega
      go_loopw [12] (fun i wr => ∃ j : Nat, j ≤ a.size ∧ j % 64 = 0 ∧ i = .int .i64 j ∧ wr.rowIs X 22 8 (fun q => .int .i64 ((foldS ((chunksB L).take (n + j / 64))).at q : Nat)) ∧ Below w.heap.size w wr) (fun i _ => a.size - (intOf i).toNat)
      case atStart => exact ⟨0, by omega, by omega, rfl, hrp', hbp⟩
      case round =>
        clear hrp hrp' hbp
        obtain ⟨j, hj, hjm, rfl, hrk, hbk⟩ := hrel
        by_cases hl : j < a.size
        · have hj64 : j + 64 ≤ a.size := by omega
          have hcons := hK.keep hbk
          obtain ⟨hce, hc64⟩ := chunk_rest a L n HAL.out j hjm hj64
          have hsl : ∀ V : World, (Instr.slice 9 (.string a) (some (.int .i64 (j : Int))) (some (.int .i64 ((j : Int) + 64))) none).run Tryd.prog V = .ok (.string (chunkB L (n + j / 64))) V := fun V => by
            rw [run_slice_str Tryd.underlying9 a _ _ (by omega) (by omega) (by omega), Int.toNat_natCast, show ((j : Int) + 64).toNat = j + 64 by omega, hce]
          clear hce
          have HN := Lib.hid (show stepL (foldS ((chunksB L).take (n + j / 64))) (chunkB L (n + j / 64)).data.toList = foldS ((chunksB L).take (n + (j + 64) / 64)) by
            rw [fold_step L (n + j / 64) (by have := HAZ.out; omega), show n + (j + 64) / 64 = n + j / 64 + 1 by omega])
          have hok := foldS_ok ((chunksB L).take (n + j / 64))
          have hi1 : IntKind.i64.wrap ((j : Int) + 64) = (j : Int) + 64 := IntWalk.i64_in _ (by omega)
          generalize hT : foldS ((chunksB L).take (n + (j + 64) / 64)) = T at *
          have HT := Lib.hid hT
          have HJM := Lib.hid hjm
          clear hT hjm
          generalize foldS ((chunksB L).take (n + j / 64)) = S at *
          generalize chunkB L (n + j / 64) = c at *
          obtain ⟨c0, c1, c2, c3, c4, c5, c6, c7⟩ := row8_i64 hrk
          have hXw := hrk.lt
          have HAM := Lib.hid ham
          clear ham
          go_upto_region 18 with fail
          go_cut [13, 14] from 78 to 96 (fun p8 q9 wx => ∃ g : Nat, p8 = .pointer (some ⟨g, 0, none⟩) ∧ q9 = .bool true ∧ wr.heap.size ≤ g ∧ wx.rowIs g 22 8 (fun q => .int .i64 (T.at q : Nat)) ∧ Below wr.heap.size wr wx)
          case first =>
            go_region_with (go_at_call 8; refine (step_lit S hok c hc64 T HN.out _ ?_).mono ?_; (exact hcons.keep (by first | (with_reducible exact Below.drew0 _) | (with_reducible exact (Below.alloc0 _ _).drew) | (with_reducible exact (Below.drew0 _).al _))); rintro e w3 ⟨rfl, hb3⟩; obtain ⟨hc3, hf3⟩ := bcell hb3; have hz3 := hb3.size; (try simp only [World.size_drew] at hc3 hf3 hz3); (try simp only [World.size_alloc] at hc3 hf3 hz3); (try simp only [World.size_drew] at hc3 hf3 hz3); (try have hz4 : wr.heap.size < w3.heap.size := by omega))
            all_goals (go_wp2_with fail; go_meet)
            all_goals have hB3 : Below wr.heap.size wr w3 := (by first | (with_reducible exact (Below.drew0 _).next hb3) | (with_reducible exact ((Below.alloc0 _ _).drew).next' hb3 (Nat.le_refl _)))
            all_goals have hs3 := hB3.size
            all_goals clear hc3 hf3
            all_goals refine ⟨_, rfl, rfl, ?_, ?_, ?_⟩
            all_goals first
              | omega
              | (with_reducible exact row8_newi T)
              | (with_reducible exact hB3.al _)
              | (with_reducible exact row8_seti (rowIs_keep (World.rowIs.drew row8_zero) hb3) T)
              | (with_reducible exact row8_seti (rowIs_keep row8_zero hb3) T)
              | (with_reducible refine below8_set hB3 ?_ _ _ _ _ _ _ _ _; omega)
          case rest =>
            obtain ⟨g, rfl, rfl, hg, hrg, hbg⟩ := hcut
            obtain ⟨d0, d1, d2, d3, d4, d5, d6, d7⟩ := row8_i64 hrg
            have hrX := rowIs_keep hrk hbg
            obtain ⟨x0, x1, x2, x3, x4, x5, x6, x7⟩ := row8_i64 hrX
            have xf := hrX.frozen
            clear c0 c1 c2 c3 c4 c5 c6 c7
            go_wp2
            go_roundw
            case rel =>
              have hjm := HJM.out
              have ham := HAM.out
              refine ⟨j + 64, by omega, by omega, by go_num, ?_, below8_set (hbk.next' hbg) hX _ _ _ _ _ _ _ _⟩
              rw [HT.out]
              exact row8_seti hrX T
            case measure => simp [intOf]; omega
        · obtain rfl : j = a.size := by omega
          have hall := chunksB_all L (n + a.size / 64) (by have := HAZ.out; omega)
          rw [hall] at hrk
          have HAM := Lib.hid ham
          clear hall ham hjm hj hl
          generalize foldS (chunksB L) = S at *
          go_wp2_with fail
          refine (HSUM.out _ (hK.keep hbk)).mono ?_
          rintro e w4 ⟨rfl, hb4⟩
          go_wp2_with fail
          refine (HCUT.out _).mono ?_
          rintro e w5 ⟨q, rfl, hsq, hb5⟩
          have hr5 := rowIs_keep (rowIs_keep hrk hb4) hb5
          have hbb := (hbk.next' hb4).next' hb5
          clear hrk hbk hb4 hb5
          go_wp2_with fail
          go_loopw [17] (fun i wr => ∃ j m : Nat, j ≤ 8 ∧ i = .int .i64 j ∧ wr = w5.drewN m) (fun i _ => 8 - (intOf i).toNat)
          case atStart => exact ⟨0, 0, by omega, rfl, rfl⟩
          case round =>
            obtain ⟨j, m, hj, rfl, hwr⟩ := hrel
            by_cases hl : j < 8
            · obtain ⟨b', off, u, he, hu, hcell⟩ := hsq.at_ (k := j) (by simp [ints, St.l]; omega)
              obtain ⟨rfl, rfl⟩ : q = b' ∧ 0 = off := by simpa using he
              obtain ⟨x, hx, rfl⟩ : ∃ x, S.l[j]? = some x ∧ .int .i64 (x : Int) = u := by simpa [ints] using hu
              have hc2 := hr5.cell (i := j) hl
              rw [show S.at j = x by rw [St.at, List.getD_eq_getElem?_getD, hx]; rfl] at hc2
              rw [Nat.zero_add] at hcell
              have e1 : wr.cell? ⟨q, j, none⟩ = some (.int .i64 (x : Int)) := by rw [hwr]; exact hcell
              have e2 : wr.cell? ⟨X, j, none⟩ = some (.int .i64 (x : Int)) := by rw [hwr]; exact hc2
              have HWR := Lib.hid hwr
              clear hwr hu hx he hcell hc2
              go_wp2
              go_quiet (fail)
              go_wp2
              go_roundw
              case rel => exact ⟨j + 1, m + nq, by omega, by go_num, by rw [HWR.out]; exact World.drewN_drewN _ _ _⟩
              case measure => simp [intOf]; omega
            · have hbw5 : Below w.heap.size w wr := by rw [hwr]; exact hbb.next' (Below.drewN0 _ _)
              have HWR := Lib.hid hwr
              clear hwr
              go_wp2_with fail
              refine (sums_any _ (hK.keep hbw5)).mono ?_
              rintro e w6 ⟨rfl, hb6⟩
              go_wp2
              go_ret
              exact ⟨rfl, hbw5.next' hb6⟩
theorem goes_no (s : ByteArray) (n : Int) (hs : s.size ≤ 9223372036854775807) (h : ¬ (s.size ≤ 2000 ∧ 0 ≤ n ∧ n ≤ 40 ∧ 64 * n ≤ (s.size : Int))) (w : World) (hK : Consts w) :
    Calls Tryd.prog 7 #[.string s, .int .i64 n] w fun e w' => e = .returned (.bool true) ∧ Below w.heap.size w w' := by
  by_cases h1 : s.size ≤ 2000
  · have k1 : decide ((2000 : Int) < (s.size : Int)) = false := by simp; omega
    by_cases h2 : n < 0
    · have k2 : decide (n < 0) = true := by simpa using h2
      go_enter Tryd.func7, Tryd.ntmps7
      go_wp2_with fail
      refine (sums_any _ hK).mono ?_
      rintro e w1 ⟨rfl, hb1⟩
      go_wp2
      go_ret
      exact ⟨rfl, hb1⟩
    · have k2 : decide (n < 0) = false := by simpa using h2
      by_cases h3 : 40 < n
      · have k3 : decide (40 < n) = true := by simpa using h3
        go_enter Tryd.func7, Tryd.ntmps7
        go_wp2_with fail
        refine (sums_any _ hK).mono ?_
        rintro e w1 ⟨rfl, hb1⟩
        go_wp2
        go_ret
        exact ⟨rfl, hb1⟩
      · have k3 : decide (40 < n) = false := by simpa using h3
        have h4 : (s.size : Int) < 64 * n := by omega
        have k4 : decide ((s.size : Int) < 64 * n) = true := by simpa using h4
        go_enter Tryd.func7, Tryd.ntmps7
        go_wp2_with fail
        refine (sums_any _ hK).mono ?_
        rintro e w1 ⟨rfl, hb1⟩
        go_wp2
        go_ret
        exact ⟨rfl, hb1⟩
  · have k1 : decide ((2000 : Int) < (s.size : Int)) = true := by simp; omega
    go_enter Tryd.func7, Tryd.ntmps7
    go_wp2_with fail
    refine (sums_any _ hK).mono ?_
    rintro e w1 ⟨rfl, hb1⟩
    go_wp2
    go_ret
    exact ⟨rfl, hb1⟩
theorem walkGoes (s : ByteArray) (hs : s.size ≤ 9223372036854775807) (n : Int) (w : World) (hK : Consts w) :
    Calls Tryd.prog 7 #[.string s, .int .i64 n] w fun e w' => e = .returned (.bool true) ∧ Below w.heap.size w w' := by
  by_cases h : s.size ≤ 2000 ∧ 0 ≤ n ∧ n ≤ 40 ∧ 64 * n ≤ (s.size : Int)
  · obtain ⟨h1, h2, h3, h4⟩ := h
    obtain ⟨m, rfl⟩ := Int.eq_ofNat_of_zero_le h2
    exact goes_yes s m h1 (by omega) (by omega) w hK
  · exact goes_no s n hs h w hK

/-! ### the row and the card -/
set_option maxRecDepth 100000 in
theorem liftedDigestGoes (os : Os) (started : os.Started) (H : Type) (enc : TypeId × Value → H) :
    ReturnsInHanded {} Tryd.checked os 7 .any (fun w args => (Rows.digestGoesSpec.pre enc Tryd.prog Tryd.f7 [] false w args ∧ laidMetH Tryd.prog laidK w) ∧ sizedMet enc Tryd.prog Tryd.f7 (OpenSpec.ofChange Rows.digestGoesSpec) false w args)
      (Rows.digestGoesSpec.post enc Tryd.prog Tryd.f7 false true false false) := by
  refine returnsInHanded_of_change_and (C := Tryd.checked) (X := fun w _ => laidMetH Tryd.prog laidK w) (fun _ _ _ hh h => h.of_heap hh) own started (by kernel_rfl) Tryd.func7
    (ChangeSpec.witness_shaped (enc := enc) (C := Tryd.checked) (os := os) (X := fun w _ => laidMetH Tryd.prog laidK w) false (World.doorLaid Tryd.prog 1000 os) #[.string ⟨#[]⟩, .int .i64 0] 8 rfl (World.shaped_of_RefB (by kernel_rfl) (by kernel_rfl)) (by kernel_rfl) (by kernel_rfl) (by kernel_rfl) (door_met os _)) ?_
  intro W base args ds gs before hval0 hW _ _ hL _
  have hval : ∀ (j : Nat) t v, Tryd.f7.params[j]? = some t → args[j]? = some v → Value.okWide Tryd.prog W .any base t v := hval0
  have hW' := hW
  obtain ⟨p, q, hA0, hV, rfl, hfz, hnd⟩ := hW
  obtain ⟨rfl, rfl⟩ := trodVars_none hV
  have hA : DataW.TrodAll enc Tryd.prog W 0 (fun _ => true) true Tryd.f7.params.toList args.toList ds p := hA0
  rw [Tryd.params7] at hA hval
  obtain ⟨v0, vs0, d0, ds0, p0, q0, hargs, rfl, rfl, h0, r0⟩ := trodAll_cons hA
  obtain ⟨v1, vs1, d1, ds1, p1, q1, rfl, rfl, rfl, h1, r1⟩ := trodAll_cons r0
  obtain ⟨rfl, rfl, rfl⟩ := trodAll_nil r1
  obtain rfl : args = #[v0, v1] := by cases args; simp_all
  obtain ⟨a0, rfl, rfl, rfl, b0⟩ := open_string Tryd.underlying9 (hval 0 _ v0 rfl rfl) h0
  obtain ⟨a1, rfl, rfl, rfl, _⟩ := open_int Tryd.underlying3 (hval 1 _ v1 rfl rfl) h1
  refine (walkGoes a0 b0 a1 W (consts_of_laid hL)).mono fun e W' ⟨he, hg⟩ => ?_
  subst he
  exact ⟨_, rfl, law_post (B := 4) (by kernel_rfl) (by kernel_rfl) (by kernel_rfl) Tryd.underlying4 rfl hW' rfl rfl rfl hg⟩
theorem overDigestGoes : Rows.DigestGoesSaid :=
  OpenClaim.holds_of_wide 7 Tryd.f7 rfl rfl rfl rfl rfl rfl rfl ⟨rfl, rfl, rfl, rfl, rfl⟩ rfl rfl rfl rfl rfl (by kernel_rfl) Tryd.func7 (by kernel_rfl)
    (of_decide_eq_true (by kernel_rfl)) (by unfold Func.isWrapper; first | (rw [if_pos (by decide +kernel)]; kernel_rfl) | (rw [if_neg (by decide +kernel)]; exact ⟨rfl, rfl⟩))
    (fun os started H enc _ => liftedDigestGoes os started H enc)
theorem digestGoes_holds : Rows.DigestGoesCardSaid :=
  Claim7.holds_tied_plain_at .later [] [.data] true Rows.digestGoesCard.stood.harness false
    overDigestGoes (fun _ h => by cases h) (by kernel_rfl) (fun _ h => by cases h) digestGoes_row_tie rfl ⟨rfl, rfl⟩ (by kernel_rfl) rfl
    (fun f fn hf hfn => by
      obtain rfl : f = 7 := Option.some.inj ((show Tryd.prog.funcNamed "keyhole/keyholelaw02.DigestGoes" = some 7 by kernel_rfl).symm.trans hf) |>.symm
      obtain rfl : fn = Tryd.f7 := (Option.some.inj (Tryd.func7.symm.trans hfn)).symm
      exact ⟨by kernel_rfl, fun j t ht => by
        rw [Tryd.params7] at ht
        have hm : t ∈ [9, 3] := by simpa using Array.mem_of_getElem? ht
        have hall : ([9, 3].all fun u => !Tryd.prog.wantsStandIn u) = true := by kernel_rfl
        exact (show Tryd.prog.wantsStandIn t = false by simpa using List.all_eq_true.1 hall t hm)⟩)
    (by kernel_rfl)
#print axioms digestGoes_holds
end Go.Proofs.YtfcigggchnjkoaaDoor
