/-
  keyholeref02.Sum: the contract, by that of keyholeref02.Step (a premise here).
-/
import Derived.Test.YtelplkidippclaaDoorChunk
import Derived.Test.YtelplkidippclaaDoorRef5
import Derived.Test.YtelplkidippclaaDoorRef6
namespace Go.Proofs.YtelplkidippclaaDoor
open Go.RowKit Go.Kx
set_option maxRecDepth 20000

def RStep : Prop := ∀ (s : St), s.ok → ∀ blk : ByteArray, blk.size = 64 → ∀ w : World,
   Calls Tryd.prog 35 #[s.v, .string blk] w fun e w' => e = .returned (.tuple #[(stepL s blk.data.toList).v, .bool true]) ∧ Below w.heap.size w w'
theorem rstep_lit (H : RStep) (s : St) (hs : s.ok) (blk : ByteArray) (hb : blk.size = 64) (t : St) (ht : stepL s blk.data.toList = t) (w : World) :
   Calls Tryd.prog 35 #[.agg #[.int .i64 s.a, .int .i64 s.b, .int .i64 s.c, .int .i64 s.d, .int .i64 s.e, .int .i64 s.f, .int .i64 s.g, .int .i64 s.h], .string blk] w fun e w' =>
     e = .returned (.tuple #[.agg #[.int .i64 t.a, .int .i64 t.b, .int .i64 t.c, .int .i64 t.d, .int .i64 t.e, .int .i64 t.f, .int .i64 t.g, .int .i64 t.h], .bool true]) ∧ Below w.heap.size w w' := by
  subst ht
  exact H s hs blk hb w
theorem rstart_any (w : World) : Calls Tryd.prog 34 #[] w fun e w' => e = .returned st0.v ∧ Below w.heap.size w w' := by
  go_enter Tryd.func34, Tryd.ntmps34
  go_wp2
  have hinf : (Tryd.prog.info? 48).map (·.size) = some (i64s st0).size := row8_size
  refine bodyPost_ret (v := st0.v) (results_cell_row rfl _ _ w.heap.size _ (i64s st0) _ _ rfl (by exact World.alloc_heap_new w _) Tryd.underlying48 rfl hinf) rfl ⟨rfl, Below.alloc0 _ _⟩
set_option maxRecDepth 100000 in
set_option maxHeartbeats 4000000 in
theorem rsum_of (H : RStep) (s : ByteArray) (hs : s.size ≤ 2000) (w : World) :
    Calls Tryd.prog 19 #[.string s] w fun e w' => e = .returned (.string ⟨(sumL s.data.toList).toArray⟩) ∧ Below w.heap.size w w' := by
  obtain ⟨p, hp⟩ : ∃ p : ByteArray, p = ⟨(padL s.size).toArray⟩ := ⟨_, rfl⟩
  have hpad := rpad_yes s.size (by omega)
  rw [← hp] at hpad
  have hpl : p.data.toList = padL s.size := by rw [hp]
  have hpz := pad_le s.size
  have hpm := pad_mod s.size
  have hps : p.size = (padL s.size).length := by rw [hp, size_mk]
  obtain ⟨a, ha⟩ : ∃ a : ByteArray, a = s ++ p := ⟨_, rfl⟩
  have hadd : ∀ V : World, (Op.stringOp .add s p).run Tryd.prog V = .ok (.string a) V := fun V => by rw [ha]; exact run_string_add_sum V s p (by omega)
  obtain ⟨L, hL⟩ : ∃ L, a.data.toList = L := ⟨_, rfl⟩
  have hLL : L = s.data.toList ++ padL s.data.toList.length := by rw [← hL, ha, show s.data.toList.length = s.size by simp, ← hpl]; simp
  have has : a.size = L.length := by rw [← hL]; simp
  have haz : a.size = s.size + p.size := by rw [ha]; simp
  have hne : ((a.size : Int) % 64 != 0) = false := by simp; omega
  obtain ⟨d, hd⟩ : ∃ d : ByteArray, d = ⟨(sumL s.data.toList).toArray⟩ := ⟨_, rfl⟩
  have hjn : ∀ (X c : Nat) (V : World), Sl V (some ⟨X, 0, none⟩) (ints (foldS (chunksB L)).l) → Calls Tryd.prog 36 #[.slice (some ⟨X, 0, none⟩) 8 c, .bool true] V fun e w' => e = .returned (.tuple #[.string d, .bool true]) ∧ Below V.heap.size V w' := by
    intro X c V hV
    rw [hd, sumL, ← hLL, ← foldS_chunks]
    exact rjoin_any (some ⟨X, 0, none⟩) c _ true V (by simp [St.l]) hV (St.l_lt (foldS_ok _))
  have HPAD := Lib.hid hpad
  have HL := Lib.hid hL
  have HD := Lib.hid hd
  have HJN := Lib.hid hjn
  have HAS := Lib.hid has
  have HMOD : a.size % 64 = 0 := by omega
  have hLb : a.size ≤ 3000 := by omega
  clear hp hpad hpl hpz hpm hps ha hL hLL haz hd hjn has hne
  go_enter Tryd.func19, Tryd.ntmps19
  go_wp2_with fail
  refine (HPAD.out _).mono ?_
  rintro e w1 ⟨rfl, hb1⟩
  go_wp2_with fail
  refine (rstart_any _).mono ?_
  rintro e w2 ⟨rfl, hb2⟩
  unfold St.v
  go_wp2_with fail
  have hb := hb1.next hb2
  have hr : (w2.alloc (.cells (i64s st0) 48)).rowIs w2.heap.size 48 8 (fun j => .int .i64 ((foldS ((chunksB L).take (0 / 64))).at j : Nat)) :=
    World.rowIs_alloc w2 (i64s st0) 48 (fun j => .int .i64 (st0.at j : Nat)) (fun j hj => rowA_at .i64 8 st0.at j hj)
  have hbw : Below w.heap.size w (w2.alloc (.cells (i64s st0) 48)) := hb.alloc hb.size _
  have hX : w.heap.size ≤ w2.heap.size := hb.size
  clear hb1 hb2 hb
  unfold i64s at hr hbw
  generalize w2.heap.size = X at *
  go_loopw [7] (fun i wr => ∃ j : Nat, j ≤ a.size ∧ j % 64 = 0 ∧ i = .int .i64 j ∧ wr.rowIs X 48 8 (fun q => .int .i64 ((foldS ((chunksB L).take (j / 64))).at q : Nat)) ∧ Below w.heap.size w wr) (fun i _ => a.size - (intOf i).toNat)
  case atStart => exact ⟨0, by omega, by omega, rfl, hr, hbw⟩
  case round =>
    clear hr hbw
    obtain ⟨j, hj, hjm, rfl, hrj, hbj⟩ := hrel
    by_cases hl : j < a.size
    · have hj64 : j + 64 ≤ a.size := by omega
      have hsl := run_slice_chunk a L HL.out j hjm hj64
      have hc64 := (chunk_ext a L HL.out j hjm hj64).2
      have HN := Lib.hid (fold_next L j hjm (by rw [← HAS.out]; exact hj64))
      have hok := foldS_ok ((chunksB L).take (j / 64))
      have hi1 : IntKind.i64.wrap ((j : Int) + 64) = (j : Int) + 64 := IntWalk.i64_in _ (by omega)
      have HJ := Lib.hid hj
      have HJM := Lib.hid hjm
      generalize hT : foldS ((chunksB L).take ((j + 64) / 64)) = T at *
      have HT := Lib.hid hT
      clear hT
      generalize foldS ((chunksB L).take (j / 64)) = S at *
      generalize chunkB L (j / 64) = b at *
      clear hj hjm
      obtain ⟨c0, c1, c2, c3, c4, c5, c6, c7⟩ := row8_i64 hrj
      have hXw := hrj.lt
      go_upto_region 7 with fail
      go_cut [8, 9] from 22 to 38 (fun p8 q9 wx => ∃ g : Nat, p8 = .pointer (some ⟨g, 0, none⟩) ∧ q9 = .bool true ∧ wr.heap.size ≤ g ∧ wx.rowIs g 48 8 (fun q => .int .i64 (T.at q : Nat)) ∧ Below wr.heap.size wr wx)
      case first =>
        go_region_with (go_at_call 35; refine (rstep_lit H S hok b hc64 T HN.out _).mono ?_; rintro e w3 ⟨rfl, hb3⟩; obtain ⟨hc3, hf3⟩ := bcell hb3; have hz3 := hb3.size; (try simp only [World.size_drew] at hc3 hf3 hz3); (try simp only [World.size_alloc] at hc3 hf3 hz3); (try simp only [World.size_drew] at hc3 hf3 hz3); (try have hz4 : wr.heap.size < w3.heap.size := by omega))
        all_goals (go_wp2_with fail; go_meet)
        all_goals have hB3 : Below wr.heap.size wr w3 := (by first | (with_reducible exact (Below.drew0 _).next hb3) | (with_reducible exact ((Below.alloc0 _ _).drew).next' hb3 (Nat.le_refl _)))
        all_goals have hs3 := hB3.size
        all_goals clear hc3 hf3
        all_goals refine ⟨_, rfl, rfl, ?_, ?_, ?_⟩
        all_goals first
          | omega
          | (with_reducible exact row8_newi T)
          | (with_reducible exact hB3.al _)
          | (with_reducible exact row8_seti (rowIs_keep (World.rowIs.drew row8_zero) hb3) T)
          | (with_reducible exact row8_seti (rowIs_keep row8_zero hb3) T)
          | (with_reducible refine below8_set hB3 ?_ _ _ _ _ _ _ _ _; omega)
      case rest =>
        obtain ⟨g, rfl, rfl, hg, hrg, hbg⟩ := hcut
        obtain ⟨d0, d1, d2, d3, d4, d5, d6, d7⟩ := row8_i64 hrg
        have hrX := rowIs_keep hrj hbg
        obtain ⟨x0, x1, x2, x3, x4, x5, x6, x7⟩ := row8_i64 hrX
        have xf := hrX.frozen
        clear c0 c1 c2 c3 c4 c5 c6 c7
        go_wp2
        go_roundw
        case rel =>
          have hjo := HJ.out
          have hjo2 := HJM.out
          refine ⟨j + 64, by omega, by omega, by go_num, ?_, below8_set (hbj.next' hbg) hX _ _ _ _ _ _ _ _⟩
          rw [HT.out]
          exact row8_seti hrX T
        case measure => simp [intOf]; omega
    · obtain rfl : j = a.size := by omega
      have hall := chunksB_all L (a.size / 64) (by rw [HAS.out]; omega)
      rw [hall] at hrj
      have hsl : Sl wr (some ⟨X, 0, none⟩) (ints (foldS (chunksB L)).l) := Sl_of_row hrj
      clear hall hrj
      go_wp2_with fail
      refine (HJN.out X 8 wr hsl).mono ?_
      rintro e w3 ⟨rfl, hb3⟩
      go_wp2
      go_ret
      exact ⟨by rw [← HD.out]; rfl, hbj.next' hb3⟩
end Go.Proofs.YtelplkidippclaaDoor
