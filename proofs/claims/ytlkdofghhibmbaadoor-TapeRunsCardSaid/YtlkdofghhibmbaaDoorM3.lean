/-
  Merged by program: Dig3, Shelf, Dig5, Range, Dig6, Dig7, Tp5, Tp6, Ownr, Own, Unl, Ref1, Stf1, Ref2, Ref3, Ref4, Ref5.
-/
import Derived.Test.YtlkdofghhibmbaaDoorM2
import Derived.Deep.RegionHeld3
import Derived.Deep.DeepCutAuto
import Derived.Deep.CutBlock
import Derived.Shelf.Strings.Repeat
import Derived.Test.YtlkdofghhibmbaaDoorProg
import Derived.RangeFuncNested
import Derived.RangeFuncBound
import Derived.RangeFuncCalls
import Derived.RangeFuncLeaves
import Derived.Shelf.Abstract
import Derived.Shelf.RegionOpen
import Derived.OwnWalkIn
import Derived.TacticsInMore
import Derived.LoopNIn
import Derived.LoopIn
import Derived.Lib.SlBytesRow
import Derived.Lib.IndexBytes
import Derived.Test.YtlkdofghhibmbaaDoorM1
import Derived.Deep.QuietTactic
import Derived.BigQuiet
import Derived.Lib.QuietBelow
import Derived.Test.YtlkdofghhibmbaaDoorChecked
import Derived.Deep.AppendLies
import Derived.Deep.RegionLaw

/-
  digest: the contract of Step.
-/
namespace Go.Proofs.YtlkdofghhibmbaaDoor
open Go.RowKit Go.Kx
set_option maxRecDepth 20000

def i64s (s : St) : Array Value := #[.int .i64 s.a, .int .i64 s.b, .int .i64 s.c, .int .i64 s.d, .int .i64 s.e, .int .i64 s.f, .int .i64 s.g, .int .i64 s.h]
theorem row8 {w : World} {g : Nat} {t : TypeId} {z : Value} (h : w.rowIs g t 8 (fun _ => z)) : w.cell? ⟨g, 0, none⟩ = some z ∧ w.cell? ⟨g, 1, none⟩ = some z ∧ w.cell? ⟨g, 2, none⟩ = some z ∧ w.cell? ⟨g, 3, none⟩ = some z ∧
    w.cell? ⟨g, 4, none⟩ = some z ∧ w.cell? ⟨g, 5, none⟩ = some z ∧ w.cell? ⟨g, 6, none⟩ = some z ∧ w.cell? ⟨g, 7, none⟩ = some z ∧ ∀ o, w.frozen? ⟨g, o, none⟩ = false :=
  ⟨h.cell (by omega), h.cell (by omega), h.cell (by omega), h.cell (by omega), h.cell (by omega), h.cell (by omega), h.cell (by omega), h.cell (by omega), h.frozen⟩
theorem row8_zero {w : World} {t : TypeId} {z : Value} : (w.alloc (.cells #[z, z, z, z, z, z, z, z] t)).rowIs w.heap.size t 8 (fun _ => z) := rowIs_new rfl
theorem row8_new {w : World} {t : TypeId} (m : St) : (w.alloc (.cells #[.int .u32 m.a, .int .u32 m.b, .int .u32 m.c, .int .u32 m.d, .int .u32 m.e, .int .u32 m.f, .int .u32 m.g, .int .u32 m.h] t)).rowIs w.heap.size t 8 (fun j => .int .u32 (m.at j : Nat)) :=
  World.rowIs_alloc w (rowA .u32 8 m.at) t (fun j => .int .u32 (m.at j : Nat)) (fun j hj => rowA_at .u32 8 m.at j (by simpa [rowA_size] using hj))
theorem at8 (m : St) (j : Nat) (hj : j < 8) : (if j = 7 then Value.int .u32 m.h else if j = 6 then Value.int .u32 m.g else if j = 5 then Value.int .u32 m.f else if j = 4 then Value.int .u32 m.e else if j = 3 then Value.int .u32 m.d else if j = 2 then Value.int .u32 m.c else
    if j = 1 then Value.int .u32 m.b else Value.int .u32 m.a) = Value.int .u32 (m.at j : Nat) := by
  rcases (by omega : j = 0 ∨ j = 1 ∨ j = 2 ∨ j = 3 ∨ j = 4 ∨ j = 5 ∨ j = 6 ∨ j = 7) with rfl | rfl | rfl | rfl | rfl | rfl | rfl | rfl <;> rfl
theorem row8_set {w : World} {g : Nat} {t : TypeId} {f : Nat → Value} (h : w.rowIs g t 8 f) (m : St) :
    ((((((((w.setCell ⟨g, 0, none⟩ (.int .u32 m.a)).setCell ⟨g, 1, none⟩ (.int .u32 m.b)).setCell ⟨g, 2, none⟩ (.int .u32 m.c)).setCell ⟨g, 3, none⟩ (.int .u32 m.d)).setCell ⟨g, 4, none⟩ (.int .u32 m.e)).setCell ⟨g, 5, none⟩ (.int .u32 m.f)).setCell ⟨g, 6, none⟩ (.int .u32 m.g)).setCell ⟨g, 7, none⟩ (.int .u32 m.h)).rowIs g t 8 (fun j => .int .u32 (m.at j : Nat)) := by
  refine ((((((((h.set 0 _).set 1 _).set 2 _).set 3 _).set 4 _).set 5 _).set 6 _).set 7 _).congr fun j hj => ?_
  rw [← at8 m j hj]
  rcases (by omega : j = 0 ∨ j = 1 ∨ j = 2 ∨ j = 3 ∨ j = 4 ∨ j = 5 ∨ j = 6 ∨ j = 7) with rfl | rfl | rfl | rfl | rfl | rfl | rfl | rfl <;> rfl
theorem below8_set {B : Nat} {w0 w : World} {g : Nat} (h : Below B w0 w) (hg : B ≤ g) (v0 v1 v2 v3 v4 v5 v6 v7 : Value) :
    Below B w0 ((((((((w.setCell ⟨g, 0, none⟩ v0).setCell ⟨g, 1, none⟩ v1).setCell ⟨g, 2, none⟩ v2).setCell ⟨g, 3, none⟩ v3).setCell ⟨g, 4, none⟩ v4).setCell ⟨g, 5, none⟩ v5).setCell ⟨g, 6, none⟩ v6).setCell ⟨g, 7, none⟩ v7) :=
  (((((((h.setCell hg _).setCell hg _).setCell hg _).setCell hg _).setCell hg _).setCell hg _).setCell hg _).setCell hg _
theorem add_at (s m : St) (k : Nat) (h : k < 8) : (s.add m).at k = (s.at k + m.at k) % 4294967296 := by
  rcases (by omega : k = 0 ∨ k = 1 ∨ k = 2 ∨ k = 3 ∨ k = 4 ∨ k = 5 ∨ k = 6 ∨ k = 7) with rfl | rfl | rfl | rfl | rfl | rfl | rfl | rfl <;> rfl
theorem addL_pair (x y : Nat) : addL [x, y] = (x + y) % 4294967296 := by simp [addL]
theorem Sl2 {w : World} {n : Nat} {x y : Value} (h0 : w.cell? ⟨n, 0, none⟩ = some x) (h1 : w.cell? ⟨n, 1, none⟩ = some y) : Sl w (some ⟨n, 0, none⟩) [x, y] := by
  refine .inr ⟨n, 0, rfl, block_lt_of_cell h0, fun j u hu => ?_⟩
  match j, hu with
  | 0, hu => simp at hu; subst hu; exact h0
  | 1, hu => simp at hu; subst hu; exact h1
theorem add_two (n x y : Nat) (hx : x < 4294967296) (hy : y < 4294967296) (w : World) (h0 : w.cell? ⟨n, 0, none⟩ = some (.int .i64 x)) (h1 : w.cell? ⟨n, 1, none⟩ = some (.int .i64 y)) :
    Calls Tryd.prog 50 #[.slice (some ⟨n, 0, none⟩) 2 2] w fun e w' => e = .returned (.tuple #[.int .i64 ((x + y) % 4294967296 : Nat), .bool true]) ∧ w = w' := by
  have h := add_any (some ⟨n, 0, none⟩) 2 [x, y] w (by simp) (Sl2 h0 h1) (by simp; omega)
  rw [addL_pair] at h
  exact h
theorem u32_i64 {x : Nat} (h : x < 4294967296) : IntKind.i64.wrap (x : Int) = (x : Int) := wrapNat (by omega)
theorem row8_size : (Tryd.prog.info? 63).map (·.size) = some 8 := by kernel_rfl
theorem St.l_lt {s : St} (h : s.ok) : ∀ x ∈ s.l, x < 4294967296 := by
  obtain ⟨ha, hb, hc, hd, he, hf, hg, hh⟩ := h
  intro x hx
  simp only [St.l, List.mem_cons, List.not_mem_nil, or_false] at hx
  rcases hx with rfl | rfl | rfl | rfl | rfl | rfl | rfl | rfl <;> assumption
set_option maxRecDepth 100000 in
set_option maxHeartbeats 8000000 in
theorem step_yes (s : St) (hs : s.ok) (blk : ByteArray) (hb : blk.size = 64) (w : World) (hK : Consts w) :
   Calls Tryd.prog 31 #[s.v, .string blk] w fun e w' => e = .returned (.tuple #[(stepL s blk.data.toList).v, .bool true]) ∧ Below w.heap.size w w' := by
  have hsl := Sl.new w 63 (i64s s)
  have hsl2 : Sl (w.alloc (.cells (i64s s) 63)) (some ⟨w.heap.size, 0, none⟩) (ints s.l) := hsl
  have HSL := Lib.hid (hsl2.keep (Below.alloc0 _ (.cells (rowA .i64 8 fun _ => 0) 63)))
  clear hsl hsl2
  unfold i64s at HSL
  have hll := St.l_lt hs
  have HLL := Lib.hid hll
  clear hll
  unfold St.v
  go_enter Tryd.func31, Tryd.ntmps31
  go_wp2_with fail
  refine (is_nats (some ⟨w.heap.size, 0, none⟩) 8 s.l _ (by simp [St.l]) HSL.out HLL.out).mono ?_
  rintro e w1 ⟨rfl, rfl⟩
  go_upto_region 3 with fail
  have hr1 := rowIs_new (w := w.alloc (.cells (i64s s) 63)) (t := 63) (n := 8) (z := .int .i64 0) (c := rowA .i64 8 fun _ => 0) rfl
  have hr0 := (World.rowIs_alloc w (i64s s) 63 (fun j => .int .i64 (s.at j : Nat)) (fun j hj => rowA_at .i64 8 s.at j hj)).alloc (.cells (rowA .i64 8 fun _ => 0) 63)
  have hbw := ((Below.refl w.heap.size w).alloc (Nat.le_refl _) (.cells (i64s s) 63)).alloc (by simp) (.cells (rowA .i64 8 fun _ => 0) 63)
  have hKW := hK.keep hbw
  have hsz : ((w.alloc (.cells (i64s s) 63)).alloc (.cells (rowA .i64 8 fun _ => 0) 63)).heap.size = w.heap.size + 1 + 1 := by simp
  rw [show (i64s s).size = 8 from rfl] at hr0
  rw [World.size_alloc] at hr1
  unfold i64s at hr1 hr0 hbw hKW hsz
  clear HSL hK
  generalize (w.alloc _).alloc _ = W at *
  have c0 := hr0.cell (i := 0) (by omega)
  have c1 := hr0.cell (i := 1) (by omega)
  have c2 := hr0.cell (i := 2) (by omega)
  have c3 := hr0.cell (i := 3) (by omega)
  have c4 := hr0.cell (i := 4) (by omega)
  have c5 := hr0.cell (i := 5) (by omega)
  have c6 := hr0.cell (i := 6) (by omega)
  have c7 := hr0.cell (i := 7) (by omega)
  simp only [St.at, St.l, List.getD_cons_zero, List.getD_cons_succ] at c0 c1 c2 c3 c4 c5 c6 c7
  have hlt : w.heap.size < W.heap.size := by omega
  have HSZ := Lib.hid hsz
  clear hsz
  obtain ⟨Wf, hWf⟩ : ∃ f, f = fun j => (blkW blk.data.toList).getD j 0 := ⟨_, rfl⟩
  have hsch : ∀ V : World, Calls Tryd.prog 53 #[.string blk] V fun e w' => e = .returned (.agg (rowA .u32 64 Wf)) ∧ Below V.heap.size V w' := by rw [hWf]; exact fun V => sched_any blk V hb
  have hWl : ∀ j, Wf j < 4294967296 := by rw [hWf]; exact blkW_lt blk
  obtain ⟨m, hm⟩ : ∃ m, mixN Wf s 64 = m := ⟨_, rfl⟩
  have HSCH := Lib.hid hsch
  have HWL := Lib.hid hWl
  have HWF := Lib.hid hWf
  clear hsch hWl hWf
  have HM := Lib.hid hm
  clear hm
  go_cut [6] (fun b wx => ∃ g : Nat, b = .pointer (some ⟨g, 0, none⟩) ∧ W.heap.size ≤ g ∧ wx.rowIs g 93 8 (fun j => .int .u32 (m.at j : Nat)) ∧ Below W.heap.size W wx)
  case first =>
    go_region_with (first
      | (go_at_call 53; refine (HSCH.out _).mono ?_; rintro e w1 ⟨rfl, hb1⟩; obtain ⟨hc1, hf1⟩ := bcell hb1; have hz1 := hb1.size; (try simp only [World.size_drew] at hc1 hf1 hz1); (try simp only [World.size_alloc] at hc1 hf1 hz1); (try simp only [World.size_drew] at hc1 hf1 hz1); (try have hz3 : W.heap.size < w1.heap.size := by omega); have hz5 : w.heap.size < w1.heap.size := (by omega))
      | (go_at_call 52; refine (mix_lit s hs Wf HWL.out m HM.out _ ?_).mono ?_; (exact hKW.keep (by first | exact (Below.drew0 _).next hb1 | exact ((Below.drew0 _).al _).next' hb1 | exact ((Below.drew0 _).next hb1).al _ | exact ((Below.alloc0 _ _).drew).next' hb1)); rintro e w2 ⟨rfl, hb2⟩; obtain ⟨hc2, hf2⟩ := bcell hb2; have hz2 := hb2.size; (try simp only [World.size_drew] at hc2 hf2 hz2); (try simp only [World.size_alloc] at hc2 hf2 hz2); (try simp only [World.size_drew] at hc2 hf2 hz2); (try have hz4 : W.heap.size < w2.heap.size := by omega)))
    all_goals (go_wp2_with fail; go_meet)
    all_goals have hB1 : Below W.heap.size W w1 := (by first | (with_reducible exact (Below.drew0 _).next hb1) | (with_reducible exact ((Below.alloc0 _ _).drew).next' hb1 (Nat.le_refl _)))
    all_goals have hB2 : Below W.heap.size W w2 := (by first | (with_reducible exact hB1.next hb2) | (with_reducible exact (hB1.al _).next' hb2 (Nat.le_refl _)))
    all_goals have hs1 := hB1.size
    all_goals have hs2 := hB2.size
    all_goals clear hc1 hf1 hc2 hf2
    all_goals refine ⟨_, rfl, ?_, ?_, ?_⟩
    all_goals first
      | omega
      | (with_reducible exact row8_new m)
      | (with_reducible exact hB2.al _)
      | (with_reducible exact row8_set (rowIs_keep row8_zero hb2) m)
      | (with_reducible exact row8_set (rowIs_keep (rowIs_keep (World.rowIs.drew row8_zero) hb1) hb2) m)
      | (with_reducible refine below8_set hB2 ?_ _ _ _ _ _ _ _ _; omega)
  case rest =>
    obtain ⟨g, rfl, hg, hrg, hbg⟩ := hcut
    have hr0' := rowIs_keep hr0 hbg
    have hr1' := rowIs_keep hr1 hbg
    have hbw' := hbw.next' hbg
    have hszc := hbg.size
    have hgl := hrg.lt
    have hsz := HSZ.out
    have hrn := rowIs_new (w := wc) (t := 63) (n := 8) (z := .int .i64 0) rfl
    have hr0n := hr0'.alloc (.cells (List.replicate 8 (Value.int .i64 0)).toArray 63)
    have hr1n := hr1'.alloc (.cells (List.replicate 8 (Value.int .i64 0)).toArray 63)
    have hrgn := hrg.alloc (.cells (List.replicate 8 (Value.int .i64 0)).toArray 63)
    have hbn := hbw'.alloc (by omega) (.cells (List.replicate 8 (Value.int .i64 0)).toArray 63)
    have hml : ∀ j, m.at j < 4294967296 := by rw [← HM.out]; exact St.at_lt (mixN_ok Wf hs 64)
    have hsl := St.at_lt hs
    have HML := Lib.hid hml
    have HSL := Lib.hid hsl
    have n1 : w.heap.size < wc.heap.size := by omega
    have n2 : w.heap.size + 1 < wc.heap.size := by omega
    have n3 : w.heap.size + 1 < g := by omega
    clear hr0' hr1' hrg hbw' hml hsl HWL HSCH hr0 hr1 hbw hKW c0 c1 c2 c3 c4 c5 c6 c7 hlt HLL hbg hg hszc HSZ hsz
    go_wp2_with fail
    have hNs : wc.heap.size < (wc.alloc (.cells (List.replicate 8 (Value.int .i64 0)).toArray 63)).heap.size := by simp
    generalize wc.heap.size = N at *
    go_loopw [8, 22] (fun _ i wr => ∃ k : Nat, k ≤ 8 ∧ i = .int .i64 k ∧ wr.rowIs w.heap.size 63 8 (fun j => .int .i64 (s.at j : Nat)) ∧ wr.rowIs (w.heap.size + 1) 63 8 (fun _ => .int .i64 0) ∧
      wr.rowIs g 93 8 (fun j => .int .u32 (m.at j : Nat)) ∧ wr.rowIs N 63 8 (fun j => .int .i64 (rowW (s.add m).at k j : Nat)) ∧ Below w.heap.size w wr ∧ N < wr.heap.size) (fun _ i _ => 8 - (intOf i).toNat)
    case atStart => exact ⟨0, by omega, rfl, hr0n, hr1n, hrgn, hrn, hbn, hNs⟩
    case round =>
      clear hr0n hr1n hrgn hrn hbn hNs
      obtain ⟨k, hk, rfl, q0, q1, qg, qn, qb, qs⟩ := hrel
      by_cases hl : k < 8
      · have d0 := q0.cell (i := k) hl
        have dg := qg.cell (i := k) hl
        have dn := qn.cell (i := k) hl
        have df := qn.frozen k
        have hxl := HSL.out k
        have hyl := HML.out k
        have HSET := Lib.hid (rowW_set (s.add m).at k)
        have HADD := Lib.hid (add_at s m k hl)
        generalize s.at k = x at *
        generalize m.at k = y at *
        generalize rowW (s.add m).at k k = z at *
        have hyw := u32_i64 hyl
        have m1 : ¬ w.heap.size = N := by omega
        have m2 : ¬ g = N := by omega
        have m3 : ¬ N = w.heap.size := by omega
        have m4 : ¬ N = g := by omega
        go_wp2
        go_region_held3 (fun w' => w'.cell? ⟨w.heap.size, k, none⟩ = some (.int .i64 x) ∧ w'.cell? ⟨g, k, none⟩ = some (.int .u32 y)) (go_keep)
          (first | (go_at_call 50; refine (add_two _ x y hxl hyl _ ?_ ?_).mono ?_; (simp); (simp); rintro e w' ⟨rfl, rfl⟩))
        go_wp2
        go_roundw
        case rel =>
          refine ⟨k + 1, by omega, by go_num, ((q0.setOther (by simpa using m1) _).alloc _).drew, ((q1.setOther (by simp; omega) _).alloc _).drew, ((qg.setOther (by simpa using m2) _).alloc _).drew, ?_,
            ((qb.setCell (p := ⟨N, k, none⟩) (by simp; omega) _).alloc (by simp; omega) _).drew, by simp; omega⟩
          refine (((qn.set k _).alloc _).drew).congr fun j _ => ?_
          rw [← HSET.out j, HADD.out]
          by_cases hjk : j = k
          · rw [if_pos hjk, if_pos hjk]; rfl
          · rw [if_neg hjk, if_neg hjk]
        case measure => simp [intOf]; omega
      · obtain rfl : k = 8 := by omega
        obtain ⟨c, h7, hcs, hc⟩ := rowIs_block qn
        obtain ⟨c0, h4, hcs0, hc0⟩ := rowIs_block q1
        have hinf : (Tryd.prog.info? 63).map (·.size) = some c.size := by rw [hcs]; exact row8_size
        have hold : c0.size = c.size := by rw [hcs, hcs0]
        have hall := all_one_ints hc
        have HC := Lib.hid hc
        clear hc hc0 hcs0 hcs
        go_wp2_with (first
          | (refine wpList_load_row rfl _ _ rfl N rfl _ _ _ _ h7 Tryd.underlying63 rfl hinf ?_)
          | (refine wpList_store_row rfl _ _ _ rfl (w.heap.size + 1) _ rfl rfl _ _ h4 hinf hold hall ?_))
        refine bodyPost_ret (v := .tuple #[.agg c, .bool true]) (results_cell_slot rfl _ _ (w.heap.size + 1) _ _ _ _ rfl (setRow_heap _ _ _ _ _ _ h4) Tryd.underlying63 rfl hinf _ rfl) rfl ⟨?_, qb.setRow (by omega) _⟩
        have he : c = rowA .i64 8 (s.add m).at := by
          rw [HC.out, rowA]
          refine congrArg List.toArray (List.map_congr_left fun j hj => ?_)
          rw [rowW_in _ (by simpa using hj)]
        rw [he, ← St.v_row, show stepL s blk.data.toList = s.add m by rw [stepL, ← HM.out, HWF.out]]
        rfl
theorem step_lit (s : St) (hs : s.ok) (blk : ByteArray) (hb : blk.size = 64) (t : St) (ht : stepL s blk.data.toList = t) (w : World) (hK : Consts w) :
   Calls Tryd.prog 31 #[.agg #[.int .i64 s.a, .int .i64 s.b, .int .i64 s.c, .int .i64 s.d, .int .i64 s.e, .int .i64 s.f, .int .i64 s.g, .int .i64 s.h], .string blk] w fun e w' =>
     e = .returned (.tuple #[.agg #[.int .i64 t.a, .int .i64 t.b, .int .i64 t.c, .int .i64 t.d, .int .i64 t.e, .int .i64 t.f, .int .i64 t.g, .int .i64 t.h], .bool true]) ∧ Below w.heap.size w w' := by
  subst ht
  exact step_yes s hs blk hb w hK
theorem row8_i64 {w : World} {g : Nat} {t : TypeId} {s : St} (h : w.rowIs g t 8 (fun j => .int .i64 (s.at j : Nat))) : w.cell? ⟨g, 0, none⟩ = some (.int .i64 s.a) ∧ w.cell? ⟨g, 1, none⟩ = some (.int .i64 s.b) ∧ w.cell? ⟨g, 2, none⟩ = some (.int .i64 s.c) ∧ w.cell? ⟨g, 3, none⟩ = some (.int .i64 s.d) ∧
    w.cell? ⟨g, 4, none⟩ = some (.int .i64 s.e) ∧ w.cell? ⟨g, 5, none⟩ = some (.int .i64 s.f) ∧ w.cell? ⟨g, 6, none⟩ = some (.int .i64 s.g) ∧ w.cell? ⟨g, 7, none⟩ = some (.int .i64 s.h) :=
  ⟨h.cell (by omega), h.cell (by omega), h.cell (by omega), h.cell (by omega), h.cell (by omega), h.cell (by omega), h.cell (by omega), h.cell (by omega)⟩
theorem at8i (m : St) (j : Nat) (hj : j < 8) : (if j = 7 then Value.int .i64 m.h else if j = 6 then Value.int .i64 m.g else if j = 5 then Value.int .i64 m.f else if j = 4 then Value.int .i64 m.e else if j = 3 then Value.int .i64 m.d else if j = 2 then Value.int .i64 m.c else
    if j = 1 then Value.int .i64 m.b else Value.int .i64 m.a) = Value.int .i64 (m.at j : Nat) := by
  rcases (by omega : j = 0 ∨ j = 1 ∨ j = 2 ∨ j = 3 ∨ j = 4 ∨ j = 5 ∨ j = 6 ∨ j = 7) with rfl | rfl | rfl | rfl | rfl | rfl | rfl | rfl <;> rfl
theorem row8_seti {w : World} {g : Nat} {t : TypeId} {f : Nat → Value} (h : w.rowIs g t 8 f) (m : St) :
    ((((((((w.setCell ⟨g, 0, none⟩ (.int .i64 m.a)).setCell ⟨g, 1, none⟩ (.int .i64 m.b)).setCell ⟨g, 2, none⟩ (.int .i64 m.c)).setCell ⟨g, 3, none⟩ (.int .i64 m.d)).setCell ⟨g, 4, none⟩ (.int .i64 m.e)).setCell ⟨g, 5, none⟩ (.int .i64 m.f)).setCell ⟨g, 6, none⟩ (.int .i64 m.g)).setCell ⟨g, 7, none⟩ (.int .i64 m.h)).rowIs g t 8 (fun j => .int .i64 (m.at j : Nat)) := by
  refine ((((((((h.set 0 _).set 1 _).set 2 _).set 3 _).set 4 _).set 5 _).set 6 _).set 7 _).congr fun j hj => ?_
  rw [← at8i m j hj]
  rcases (by omega : j = 0 ∨ j = 1 ∨ j = 2 ∨ j = 3 ∨ j = 4 ∨ j = 5 ∨ j = 6 ∨ j = 7) with rfl | rfl | rfl | rfl | rfl | rfl | rfl | rfl <;> rfl
theorem heap8_set {w : World} {g k : Nat} (h : k ≠ g) (v0 v1 v2 v3 v4 v5 v6 v7 : Value) :
    ((((((((w.setCell ⟨g, 0, none⟩ v0).setCell ⟨g, 1, none⟩ v1).setCell ⟨g, 2, none⟩ v2).setCell ⟨g, 3, none⟩ v3).setCell ⟨g, 4, none⟩ v4).setCell ⟨g, 5, none⟩ v5).setCell ⟨g, 6, none⟩ v6).setCell ⟨g, 7, none⟩ v7).heap[k]? = w.heap[k]? := by
  rw [heap_setCell_other _ _ _ _ h, heap_setCell_other _ _ _ _ h, heap_setCell_other _ _ _ _ h, heap_setCell_other _ _ _ _ h, heap_setCell_other _ _ _ _ h, heap_setCell_other _ _ _ _ h, heap_setCell_other _ _ _ _ h, heap_setCell_other _ _ _ _ h]
end Go.Proofs.YtlkdofghhibmbaaDoor

/-
  The contracts of the library that this program calls, laid at its numbers (in plain words, by the tool of the shelf).
-/
namespace Go.Proofs
open Go.Shelf
def Tryd.lays105_ren : Go.Shelf.Ren := ⟨fun | 105 => 18 | 212 => 39 | 99 => 40 | 165 => 34 | 166 => 37 | 170 => 35 | 169 => 38 | 263 => 57 | 264 => 58 | 206 => 59 | 240 => 55 | 241 => 56 | 276 => 73 | 277 => 74 | n => n, fun | 9 => 9 | 3 => 3 | 4 => 4 | 20 => 20 | 0 => 0 | 46 => 81 | 109 => 82 | 5 => 5 | 72 => 75 | 76 => 79 | 51 => 92 | 146 => 100 | 53 => 102 | 148 => 103 | 70 => 73 | 37 => 72 | 75 => 78 | 127 => 99 | 164 => 117 | 80 => 60 | n => n, fun | n => n⟩
theorem Tryd.lays105 : Go.Proofs.Lays.n105 Tryd.prog Tryd.lays105_ren := {
  mixed := by kernel_rfl
  f99 := Tryd.func40.trans (congrArg some (by kernel_rfl))
  f105 := Tryd.func18.trans (congrArg some (by kernel_rfl))
  f165 := Tryd.func34.trans (congrArg some (by kernel_rfl))
  f166 := Tryd.func37.trans (congrArg some (by kernel_rfl))
  f169 := Tryd.func38.trans (congrArg some (by kernel_rfl))
  f170 := Tryd.func35.trans (congrArg some (by kernel_rfl))
  f206 := Tryd.func59.trans (congrArg some (by kernel_rfl))
  f212 := Tryd.func39.trans (congrArg some (by kernel_rfl))
  f240 := Tryd.func55.trans (congrArg some (by kernel_rfl))
  f241 := Tryd.func56.trans (congrArg some (by kernel_rfl))
  f263 := Tryd.func57.trans (congrArg some (by kernel_rfl))
  f264 := Tryd.func58.trans (congrArg some (by kernel_rfl))
  f276 := Tryd.func73.trans (congrArg some (by kernel_rfl))
  f277 := Tryd.func74.trans (congrArg some (by kernel_rfl))
  t0 := Tryd.underlying0
  a0 := Tryd.isAgg0
  z0 := Tryd.sizeOf0
  v0 := Tryd.zeroValue0
  t3 := Tryd.underlying3
  a3 := Tryd.isAgg3
  z3 := Tryd.sizeOf3
  v3 := Tryd.zeroValue3
  t4 := Tryd.underlying4
  a4 := Tryd.isAgg4
  z4 := Tryd.sizeOf4
  v4 := Tryd.zeroValue4
  t5 := Tryd.underlying5
  a5 := Tryd.isAgg5
  z5 := Tryd.sizeOf5
  v5 := Tryd.zeroValue5
  t9 := Tryd.underlying9
  a9 := Tryd.isAgg9
  z9 := Tryd.sizeOf9
  v9 := Tryd.zeroValue9
  t20 := Tryd.underlying20
  a20 := Tryd.isAgg20
  z20 := Tryd.sizeOf20
  v20 := Tryd.zeroValue20
  t37 := Tryd.underlying72
  a37 := Tryd.isAgg72
  z37 := Tryd.sizeOf72
  v37 := Tryd.zeroValue72
  t46 := Tryd.underlying81
  a46 := Tryd.isAgg81
  z46 := Tryd.sizeOf81
  v46 := Tryd.zeroValue81
  t51 := Tryd.underlying92
  a51 := Tryd.isAgg92
  z51 := Tryd.sizeOf92
  v51 := Tryd.zeroValue92
  t53 := Tryd.underlying102
  a53 := Tryd.isAgg102
  z53 := Tryd.sizeOf102
  v53 := Tryd.zeroValue102
  t70 := Tryd.underlying73
  a70 := Tryd.isAgg73
  z70 := Tryd.sizeOf73
  v70 := Tryd.zeroValue73
  t72 := Tryd.underlying75
  a72 := Tryd.isAgg75
  z72 := Tryd.sizeOf75
  v72 := Tryd.zeroValue75
  t75 := Tryd.underlying78
  a75 := Tryd.isAgg78
  z75 := Tryd.sizeOf78
  v75 := Tryd.zeroValue78
  t76 := Tryd.underlying79
  a76 := Tryd.isAgg79
  z76 := Tryd.sizeOf79
  v76 := Tryd.zeroValue79
  t109 := Tryd.underlying82
  a109 := Tryd.isAgg82
  z109 := Tryd.sizeOf82
  v109 := Tryd.zeroValue82
  t127 := Tryd.underlying99
  a127 := Tryd.isAgg99
  z127 := Tryd.sizeOf99
  v127 := Tryd.zeroValue99
  t146 := Tryd.underlying100
  a146 := Tryd.isAgg100
  z146 := Tryd.sizeOf100
  v146 := Tryd.zeroValue100
  t148 := Tryd.underlying103
  a148 := Tryd.isAgg103
  z148 := Tryd.sizeOf103
  v148 := Tryd.zeroValue103
  t164 := Tryd.underlying117
  a164 := Tryd.isAgg117
  z164 := Tryd.sizeOf117
  v164 := Tryd.zeroValue117 }
theorem Tryd.Builder_Extra_105 : Builder.Extra Tryd.prog Tryd.lays105_ren := {
  sizeBuilder := by kernel_rfl
  liesBuilder := by kernel_rfl
  t5 := Tryd.underlying5
  a5 := Tryd.isAgg5
  z5 := Tryd.sizeOf5
  v5 := Tryd.zeroValue5
  infoByte := by kernel_rfl
  cellsByte := by kernel_rfl
  sizeByte := by kernel_rfl
  neB5 := by decide }
open Go.RowKit Go.Lib in
theorem Tryd.strings_Repeat_main (s : ByteArray) (c : Nat) (w : World) (hc2 : 2 ≤ c) (hc : c ≤ 9223372036854775807) (hlen : s.size * c ≤ 140737488355328) (h0 : 0 < s.size) :
    Calls Tryd.prog 18 #[.string s, .int .i64 c] w fun e w' => e = .returned (.string ⟨(Lib.repeatL s.data.toList c).toArray⟩) ∧ Below w.heap.size w w' := Any.strings_Repeat_main Tryd.lays105 Tryd.Builder_Extra_105 s c w hc2 hc hlen h0
open Go.RowKit Go.Lib in
theorem Tryd.strings_Repeat (s : ByteArray) (c : Nat) (w : World) (hc : c ≤ 9223372036854775807) (hlen : s.size * c ≤ 140737488355328) :
    Calls Tryd.prog 18 #[.string s, .int .i64 c] w fun e w' => e = .returned (.string ⟨(Lib.repeatL s.data.toList c).toArray⟩) ∧ Below w.heap.size w w' := Any.strings_Repeat Tryd.lays105 Tryd.Builder_Extra_105 s c w hc hlen
end Go.Proofs

/-
  digest: the contract of Pad.
-/
namespace Go.Proofs.YtlkdofghhibmbaaDoor
open Go.RowKit Go.Kx
set_option maxRecDepth 20000

theorem repeat0 (z : Nat) : Lib.repeatL [0] z = List.replicate z 0 := by
  induction z with
  | zero => rfl
  | succ z ih => rw [Lib.repeatL, ih]; rfl
theorem pad_no (n : Int) (hn : n < 0 ∨ 1000000000 < n) (w : World) :
    Calls Tryd.prog 28 #[.int .i64 n] w fun e w' => e = .returned (.tuple #[.string ⟨#[]⟩, .bool false]) ∧ w = w' := by
  by_cases h : n < 0
  · go_enter Tryd.func28, Tryd.ntmps28
    go_wp2
    go_ret2
    exact ⟨rfl, rfl⟩
  · have h2 : 1000000000 < n := by omega
    go_enter Tryd.func28, Tryd.ntmps28
    go_wp2
    go_ret2
    exact ⟨rfl, rfl⟩

set_option maxHeartbeats 1000000 in
theorem pad_yes (n : Nat) (hn : n ≤ 1000000000) (w : World) :
    Calls Tryd.prog 28 #[.int .i64 n] w fun e w' => e = .returned (.tuple #[.string ⟨(padL n).toArray⟩, .bool true]) ∧ Below w.heap.size w w' := by
  have h1 : ¬ (n : Int) < 0 := by omega
  have h2 : ¬ 1000000000 < (n : Int) := by omega
  have e1 : (8 * (n : Int)) / 4294967296 = ((8 * n / 4294967296 : Nat) : Int) := by omega
  have e2 : (8 * (n : Int)) % 4294967296 = ((8 * n % 4294967296 : Nat) : Int) := by omega
  have hl := joinL_length true [8 * n / 4294967296, 8 * n % 4294967296]
  have hx : ∀ x ∈ [8 * n / 4294967296, 8 * n % 4294967296], x < 4294967296 := by simp; omega
  have HP := Lib.hid (show padL n = 128 :: (List.replicate ((64 - (n + 9) % 64) % 64) 0 ++ joinL true [8 * n / 4294967296, 8 * n % 4294967296]) from rfl)
  generalize 8 * n / 4294967296 = a at *
  generalize 8 * n % 4294967296 = b at *
  go_enter Tryd.func28, Tryd.ntmps28
  go_wp2_with fail
  refine (join_any _ _ [a, b] true _ (by simp) (Sl.new _ _ _) hx).mono ?_
  rintro e w1 ⟨rfl, hb1⟩
  go_wp2_with fail
  have e3 : (-(((n : Int) + 1 + 8) % 64) % 64) = (((64 - (n + 9) % 64) % 64 : Nat) : Int) := by omega
  have hz : (64 - (n + 9) % 64) % 64 < 64 := Nat.mod_lt _ (by omega)
  rw [e3]
  clear e3
  generalize (64 - (n + 9) % 64) % 64 = z at *
  have hrep := repeat0 z
  have hA : ∀ W : World, (Op.stringOp .add ⟨#[128]⟩ ⟨(List.replicate z 0).toArray⟩).run Tryd.prog W = .ok (.string ⟨(128 :: List.replicate z 0).toArray⟩) W := fun W => str_add [128] _ (by simp; omega) W
  have hB : ∀ W : World, (Op.stringOp .add ⟨(128 :: List.replicate z 0).toArray⟩ ⟨(joinL true [a, b]).toArray⟩).run Tryd.prog W = .ok (.string ⟨(padL n).toArray⟩) W := fun W => by
    rw [HP.out]
    exact str_add (128 :: List.replicate z 0) _ (by rw [hl]; simp; omega) W
  refine (Tryd.strings_Repeat ⟨#[0]⟩ z _ (by omega) (by simp [ByteArray.size]; omega)).mono ?_
  rintro e w2 ⟨rfl, hb2⟩
  rw [show (ByteArray.mk #[0]).data.toList = [0] from rfl, hrep]
  clear hrep
  generalize hq : (128 :: List.replicate z (0 : UInt8)).toArray = q at *
  clear hq
  generalize (List.replicate z (0 : UInt8)).toArray = r at *
  generalize hpad : (padL n).toArray = pd at *
  have HPD := Lib.hid hpad
  clear hpad
  go_wp2
  go_ret2
  exact ⟨by rw [HPD.out]; rfl, (Below.alloc0 _ _).next (hb1.next hb2)⟩
end Go.Proofs.YtlkdofghhibmbaaDoor

/-
  A range over a function whose iterator keeps a state of its own in one cell (block B): the iterator's word, and the loop's law, for a body that never leaves.
-/
namespace Go.Kx
open Go Go.RowKit

/-- The iterator's word. J: what the loop knows when the texts so far have come; J minds no store into block B. A round keeps the blocks that 'keep' names. -/
def SeqCell {α : Type} (F : Fence) (n : Nat) (P : Program) (g : Nat) (lb : Array Value) (encs : α → Array Value) (B : Nat) (keep : Nat → Prop) (xs : List α) (w : World) : Prop :=
  ∀ (l : Nat) (J : List α → World → Prop) (W : World), Below w.heap.size w W → (∀ s A v, J s A → J s (A.setCell ⟨B, 0, none⟩ v)) →
    (∀ pre x W1, pre ++ [x] <+: xs → J pre W1 → YieldAt F (n - 1) P l (encs x) W1 fun e W' => e = .returned (.bool true) ∧ J (pre ++ [x]) W' ∧ (∀ k, keep k → W'.heap[k]? = W1.heap[k]?)) →
    J [] W →
    CallsIn F n P g (#[.func (.yield l) #[] #[]] ++ lb) W fun e W' => (∃ v, e = .returned v) ∧ J xs W'

variable {F : Fence} {n : Nat} {P : Program}

theorem cell_of_heap {W W' : World} {b : Nat} (h : W'.heap[b]? = W.heap[b]?) (o : Nat) : W'.cell? ⟨b, o, none⟩ = W.cell? ⟨b, o, none⟩ := by simp [World.cell?, h]
theorem frozen_of_heap {W W' : World} {b : Nat} (h : W'.heap[b]? = W.heap[b]?) (o : Nat) : W'.frozen? ⟨b, o, none⟩ = W.frozen? ⟨b, o, none⟩ := by simp [World.frozen?, h]
theorem others_of_below {W W' : World} (h : Below W.heap.size W W') : KeepsOthers W W' :=
  ⟨h.size, fun k _ hk _ => (h.block k (Array.getElem?_eq_some_iff.1 hk).1).trans hk⟩

theorem wpIn_range_cell {α : Type} {g : Operand} {ps : Array Tmp} {assign body : Code} {Q : Exit → Act → World → Prop} {a : Act} {w : World}
    (hro : F.round = none) (h1 : 1 ≤ n) {gf : Nat} {lb : Array Value} (hg : a.eval g = .func (.func gf) #[] lb) (hFg : F.fn gf) (eg : ∀ args w, (callFunc gf args).run P w = .ok (.enter gf args) w)
    {encs : α → Array Value} {B : Nat} {keep : Nat → Prop} {xs : List α} (hB : B < w.heap.size) (hkp : ∀ k, keep k → k < w.heap.size) (hseq : SeqCell F (n - 1) P gf lb encs B keep xs w) (hps : ∀ x, (encs x).size = ps.size)
    (I : List α → World → Prop) (hIs : ∀ s A v, I s A → I s (A.setCell ⟨B, 0, none⟩ v)) (hIn : ∀ s A A', I s A → Below w.heap.size A A' → I s A') (h0 : I [] w) (a₁ : α → Act)
    (hassign : ∀ (l : Nat) (x : α) (W : World) (K : Act → World → Prop), K (a₁ x) W →
      assign.wpIn (F.inRound l) (n - 1 - 1) P (Exit.then K (fun _ _ _ => False)) { tmps := (ps.zip (encs x)).foldl (fun t (p, v) => t.setIfInBounds p v) a.tmps, defers := [] } W)
    (hbody : ∀ (l : Nat) (pre : List α) (x : α) (W : World), pre ++ [x] <+: xs → I pre W →
      body.wpIn (F.inRound l) (n - 1 - 1) P (fun e _ W' => match e with | .normal => KeepsOthers W W' ∧ (∀ k, keep k → W'.heap[k]? = W.heap[k]?) ∧ I (pre ++ [x]) W' | _ => False) (a₁ x) W)
    (hdone : ∀ (D : Nat) (W : World), w.heap.size ≤ D → I xs W → W.heap[D]? = some (.deferred (some [])) → Q .normal { a with defers := { target := .collected D, args := #[] } :: a.defers } W) :
    (Code.rangeFunc g ps assign body).wpIn F n P Q a w := by
  refine wpIn_rangeFunc ?_
  intro fn hfn
  rw [hro]
  -- the two blocks of book-keeping: D for deferred calls, D + 1 for the loop's record
  obtain ⟨D, hD⟩ : ∃ D, D = w.heap.size := ⟨_, rfl⟩
  obtain ⟨rec, hrec⟩ : ∃ rec : LoopState → Loop, rec = fun st => { state := st, pending := none, fn, tmps := a.tmps, params := ps, assign, body, defers := D } := ⟨_, rfl⟩
  obtain ⟨V, hV⟩ : ∃ V, (w.alloc (.deferred (some []))).alloc (.loop (rec .ready)) = V := ⟨_, rfl⟩
  have hsV : V.heap.size = D + 1 + 1 := by rw [← hV, hD]; simp
  have hbV : Below D w V := by rw [← hV, hD]; exact ((Below.refl _ w).alloc (Nat.le_refl _) _).alloc (by simp) _
  have hl0 : V.heap[D + 1]? = some (.loop (rec .ready)) := by
    have := World.alloc_heap_new (w.alloc (.deferred (some []))) (.loop (rec .ready))
    rw [World.size_alloc, ← hD, hV] at this
    exact this
  have hd0 : V.heap[D]? = some (.deferred (some [])) := by
    rw [← hV, hD]; exact (Below.heap_alloc _ _ _ (by simp)).trans (World.alloc_heap_new w _)
  have hput : ∀ (A : World) (l : Nat) (o o' : Obj), A.heap[l]? = some o → D ≤ l → Below D A (A.putObj l o') := fun A l o o' hl hDl =>
    (Below.refl D A).grown (grownBy_putObj' A l o') (by have := (Array.getElem?_eq_some_iff.1 hl).1; omega) (fun k e => by cases e; omega)
  have hI0 : I [] V := hIn _ _ _ h0 (by rw [← hD]; exact hbV)
  refine ⟨D + 1, [{ target := .collected D, args := #[] }], V, { target := .fn (.func gf) lb, args := #[.func (.yield (D + 1)) #[] #[]] }, V, gf, #[.func (.yield (D + 1)) #[] #[]] ++ lb, V, ?_, ?_, ?_, ?_, fun _ => h1, ?_⟩
  · rw [← hV, hrec, hD]; exact run_enterLoop_outer _ _ _ _ _
  · simp only [resolve, hg]
    simp [go_sem]
  · intro f' hf'; simp [Target.leads] at hf'; subst hf'; exact hFg
  · simp [invoke, go_sem, eg]
  have hBl : B ≠ D + 1 := by omega
  have hBd : B ≠ D := by omega
  refine (hseq (D + 1) (fun pre W => I pre W ∧ W.heap[D + 1]? = some (.loop (rec .ready)) ∧ W.heap[D]? = some (.deferred (some []))) V (by rw [← hD]; exact hbV)
    (fun s A v h => ⟨hIs s A v h.1, (Below.heap_setCell A ⟨B, 0, none⟩ v (D + 1) (fun e => hBl e.symm)).trans h.2.1, (Below.heap_setCell A ⟨B, 0, none⟩ v D (fun e => hBd e.symm)).trans h.2.2⟩) ?_ ⟨hI0, hl0, hd0⟩).mono ?_
  · rintro pre x W hpx ⟨hi, hl, hk⟩
    have hlt := (Array.getElem?_eq_some_iff.1 hl).1
    have hy := run_yield (P := P) (args := encs x) hl (by rw [hrec]; exact hps x)
    rw [hrec] at hy
    refine ⟨fn, _, assign, body, hy, roundIn_of_wpIn hfn (hassign _ x W _ ⟨_, run_beginRound hl (by rw [hrec]), ?_⟩)⟩
    have hl2 : (W.putObj (D + 1) (.loop { rec .ready with state := .busy })).heap[D + 1]? = some (.loop { rec .ready with state := .busy }) := World.putObj_heap_same hlt
    have hk2 : (W.putObj (D + 1) (.loop { rec .ready with state := .busy })).heap[D]? = some (.deferred (some [])) := (World.putObj_heap_other (by omega)).trans hk
    have hb2 : Below D W (W.putObj (D + 1) (.loop { rec .ready with state := .busy })) := hput _ _ _ _ hl (by omega)
    refine wpIn_mono (hbody _ pre x _ hpx (hIn _ _ _ hi (by rw [← hD]; exact hb2))) ?_
    rintro e a3 W3 hp
    cases e with
    | normal =>
      obtain ⟨hk3, hb3, hi3⟩ := hp
      have hl3 := hk3.same _ _ hl2 rfl
      have hd3 := hk3.same _ _ hk2 rfl
      have hend := run_endRound (P := P) none hl3
      have hb4 : Below D W3 (W3.putObj (D + 1) (.loop (rec .ready))) := hput _ _ _ _ hl3 (by omega)
      refine ⟨.bool true, W3.putObj (D + 1) (.loop (rec .ready)), by rw [hrec] at hend ⊢; exact hend, rfl, ⟨hIn _ _ _ hi3 (by rw [← hD]; exact hb4), World.putObj_heap_same (Array.getElem?_eq_some_iff.1 hl3).1, (World.putObj_heap_other (by omega)).trans hd3⟩, ?_⟩
      intro k hk
      have hkD : k < D := by rw [hD]; exact hkp k hk
      exact (hb4.block k hkD).trans ((hb3 k hk).trans (hb2.block k hkD))
    | ret => exact hp.elim
    | exit id => exact hp.elim
    | goto t => exact hp.elim
    | panic ch => exact hp.elim
    | outgrown => exact hp.elim
  · rintro e W2 ⟨⟨v, rfl⟩, hi, hl, hk⟩
    refine ⟨none, _, by have := run_endLoop (P := P) hl (by rw [hrec]; simp); rw [hrec] at this; exact this, ?_⟩
    exact hdone D _ (by omega) (hIn _ _ _ hi (by rw [← hD]; exact hput _ _ _ _ hl (by omega))) ((World.putObj_heap_other (by omega)).trans hk)
end Go.Kx

/-
  digest: the contracts of blocks (a text's blocks, one behind the other) and of Sum.
-/
namespace Go.Proofs.YtlkdofghhibmbaaDoor
open Go.RowKit Go.Kx Go.Shelf
set_option maxRecDepth 20000
attribute [local go_sem] Oper.semAt_some

theorem blocks_any (s p : ByteArray) (w : World) :
    Calls Tryd.prog 30 #[.string s, .string p] w fun e w' => e = .returned (.func (.func 51) #[] #[.pointer (some ⟨w.heap.size, 0, none⟩), .pointer (some ⟨w.heap.size + 1, 0, none⟩)]) ∧
      (w.alloc (.cells #[.string s] 9)).alloc (.cells #[.string p] 9) = w' := by
  go_enter Tryd.func30, Tryd.ntmps30
  go_wp2
  go_ret
  exact ⟨rfl, rfl⟩

def chunkB (l : List UInt8) (k : Nat) : ByteArray := ⟨(chunkAt l k).toArray⟩
def chunksB (l : List UInt8) : List ByteArray := (List.range (l.length / 64)).map (chunkB l)
theorem chunksB_take (l : List UInt8) (k : Nat) (h : k < l.length / 64) : (chunksB l).take k ++ [chunkB l k] = (chunksB l).take (k + 1) := by
  rw [List.take_add_one, chunksB, List.getElem?_map, List.getElem?_range h]; rfl
theorem chunksB_all (l : List UInt8) (k : Nat) (h : l.length / 64 ≤ k) : (chunksB l).take k = chunksB l := List.take_of_length_le (by simp [chunksB]; omega)
theorem chunksB_size (l : List UInt8) (pre : List ByteArray) (x : ByteArray) (h : pre ++ [x] <+: chunksB l) : x.size = 64 := by
  have hm : x ∈ chunksB l := h.subset (by simp)
  obtain ⟨k, hk, rfl⟩ := List.mem_map.1 hm
  rw [chunkB, size_mk, chunkAt, List.length_take, List.length_drop]
  have := List.mem_range.1 hk
  omega
def strAt (w : World) (b : Nat) : Nat := match w.cell? ⟨b, 0, none⟩ with | some (.string t) => t.size | _ => 0
theorem strAt_eq {w : World} {b : Nat} {t : ByteArray} (h : w.cell? ⟨b, 0, none⟩ = some (.string t)) : strAt w b = t.size := by simp [strAt, h]

set_option maxHeartbeats 1000000 in
theorem blocks1_in (F : Fence) (n : Nat) (hf : F.fn 51) (hro : F.round = none) (hn : 1 ≤ n) (b1 b2 : Nat) (s p : ByteArray) (w : World) (h1 : w.cell? ⟨b1, 0, none⟩ = some (.string s)) (h1f : w.frozen? ⟨b1, 0, none⟩ = false)
    (h2 : w.cell? ⟨b2, 0, none⟩ = some (.string p)) (hne : b1 ≠ b2) (hp : p.size ≤ 1000) (hm : (s.data.toList ++ p.data.toList).length % 64 = 0) :
    SeqCell F n Tryd.prog 51 #[.pointer (some ⟨b1, 0, none⟩), .pointer (some ⟨b2, 0, none⟩)] (fun x : ByteArray => #[.string x]) b1 (fun k => k = b1 ∨ k = b2) (chunksB (s.data.toList ++ p.data.toList)) w := by
  intro l J W hW hJ hY h0
  have k1 := block_lt_of_cell h1
  have k2 := block_lt_of_cell h2
  have c1 := (hW.cell (p := ⟨b1, 0, none⟩) k1).trans h1
  have c2 := (hW.cell (p := ⟨b2, 0, none⟩) k2).trans h2
  have f1 := (hW.frozen (p := ⟨b1, 0, none⟩) k1).trans h1f
  refine callsIn_of_wp Tryd.func51 rfl hf ?_ hro
  simp only [Tryd.ntmps51, List.size_toArray, List.length_cons, List.length_nil, Nat.reduceAdd, Nat.reduceSub, Array.replicate_succ, Array.replicate_zero, List.push_toArray, List.append_toArray, List.nil_append, List.cons_append]
  gi_wp2
  gi_loopw [5] (fun _ wr => ∃ (k : Nat) (t : ByteArray), 64 * k ≤ s.data.toList.length ∧ wr.cell? ⟨b1, 0, none⟩ = some (.string t) ∧ t.data.toList = s.data.toList.drop (64 * k) ∧ wr.frozen? ⟨b1, 0, none⟩ = false ∧ wr.cell? ⟨b2, 0, none⟩ = some (.string p) ∧
      J ((chunksB (s.data.toList ++ p.data.toList)).take k) wr) (fun _ wr => strAt wr b1)
  case atStart => exact ⟨0, s, by omega, c1, by simp, f1, c2, by simpa using h0⟩
  case round =>
    obtain ⟨k, t, hk, ht, htl, hf1, ht2, hJk⟩ := hrel
    have hts : t.size = s.data.toList.length - 64 * k := by rw [show t.size = t.data.toList.length by simp, htl, List.length_drop]
    by_cases hl : 64 ≤ t.size
    · have hx : t.extract 0 64 = chunkB (s.data.toList ++ p.data.toList) k := by
        apply ByteArray.ext
        apply Array.toList_inj.1
        rw [Lib.extract_data]
        simp only [List.drop_zero, Nat.sub_zero, chunkB, chunkAt, htl]
        rw [List.drop_append_of_le_length hk, List.take_append_of_le_length (by rw [List.length_drop]; omega)]
      have hpre : (chunksB (s.data.toList ++ p.data.toList)).take k ++ [t.extract 0 64] = (chunksB (s.data.toList ++ p.data.toList)).take (k + 1) := by
        rw [hx]
        exact chunksB_take _ k (by rw [List.length_append]; omega)
      have HPRE := Lib.hid hpre
      have HTL := Lib.hid htl
      have HTS := Lib.hid hts
      clear hx htl hts hpre
      obtain ⟨fn, tmps, assign, body, hy, hR⟩ := hY _ (t.extract 0 64) wr (HPRE.out ▸ List.take_prefix _ _) hJk
      gi_wp2
      refine hR.mono ?_
      rintro e W' ⟨rfl, hJ', hk'⟩
      have b1l := block_lt_of_cell ht
      have b2l := block_lt_of_cell ht2
      have ht' : W'.cell? ⟨b1, 0, none⟩ = some (.string t) := (cell_of_heap (hk' b1 (.inl rfl)) 0).trans ht
      have hf' : W'.frozen? ⟨b1, 0, none⟩ = false := (frozen_of_heap (hk' b1 (.inl rfl)) 0).trans hf1
      have ht2' : W'.cell? ⟨b2, 0, none⟩ = some (.string p) := (cell_of_heap (hk' b2 (.inr rfl)) 0).trans ht2
      have HT := Lib.hid (strAt_eq ht)
      clear hy hR ht hf1 ht2
      gi_wp2
      go_roundw
      case rel =>
        have htl := HTL.out
        have hts := HTS.out
        rw [HPRE.out] at hJ'
        refine ⟨k + 1, t.extract 64 t.size, by omega, World.cell?_setCell_same' _ _ _ (by rw [ht']; rfl), ?_, by rw [World.frozen?_setCell]; exact hf', ?_, hJ _ _ _ hJ'⟩
        · rw [Lib.extract_to_end, htl, List.drop_drop]; rfl
        · rw [World.cell?_setCell_other _ _ _ _ (by simp)]; exact ht2'
      case measure =>
        rw [strAt_eq (t := t.extract 64 t.size) (World.cell?_setCell_same' _ _ _ (by rw [ht']; rfl)), HT.out]
        simp; omega
    · have hadd : ∀ V : World, (Op.stringOp .add t p).run Tryd.prog V = .ok (.string (t ++ p)) V := fun V => run_string_add_sum V t p (by omega)
      have hl' : ¬ (64 : Int) ≤ (t.size : Int) := by omega
      have htp : (t ++ p).data.toList = (s.data.toList ++ p.data.toList).drop (64 * k) := by
        rw [show (t ++ p).data.toList = t.data.toList ++ p.data.toList by simp, htl, List.drop_append_of_le_length hk]
      have HTP := Lib.hid htp
      clear htl hts htp
      have hk2 : 64 * k ≤ (s.data.toList ++ p.data.toList).length := by rw [List.length_append]; omega
      clear hk
      generalize hL : (s.data.toList ++ p.data.toList) = L at *
      have HL := Lib.hid hL
      clear hL
      gi_wp2
      clear hadd
      gi_loopw [4] (fun v wr => ∃ (j : Nat) (r : ByteArray), v = .string r ∧ 64 * j ≤ L.length ∧ r.data.toList = L.drop (64 * j) ∧ J ((chunksB L).take j) wr) (fun v _ => match v with | .string r => r.size | _ => 0)
      case atStart => exact ⟨k, t ++ p, rfl, hk2, HTP.out, hJk⟩
      case round =>
        obtain ⟨j, r, rfl, hj, hrl, hJj⟩ := hrel
        have hrs : r.size = L.length - 64 * j := by rw [show r.size = r.data.toList.length by simp, hrl, List.length_drop]
        by_cases h0 : 64 * j = L.length
        · have he : r.toList.isEmpty = true := by rw [Lib.toList_data, hrl, h0, List.drop_length]; rfl
          have hall := chunksB_all L j (by omega)
          rw [hall] at hJj
          clear hrl hrs h0
          gi_wp2
          go_end0
          exact ⟨⟨_, rfl⟩, by rw [HL.out]; exact hJj⟩
        · have he : r.toList.isEmpty = false := by
            rw [Lib.toList_data, hrl, List.isEmpty_eq_false_iff]
            intro e
            have := congrArg List.length e
            rw [List.length_drop, List.length_nil] at this
            omega
          have h64 : 64 ≤ r.size := by omega
          have hx : r.extract 0 64 = chunkB L j := by
            apply ByteArray.ext
            apply Array.toList_inj.1
            rw [Lib.extract_data]
            simp only [List.drop_zero, Nat.sub_zero, chunkB, chunkAt, hrl]
          have hpre : (chunksB L).take j ++ [r.extract 0 64] = (chunksB L).take (j + 1) := by
            rw [hx]
            exact chunksB_take _ j (by omega)
          have HPRE := Lib.hid hpre
          have HRL := Lib.hid hrl
          have HRS := Lib.hid hrs
          clear hrl hrs hx hpre
          obtain ⟨fn, tmps, assign, body, hy, hR⟩ := hY _ (r.extract 0 64) wr (HPRE.out ▸ List.take_prefix _ _) hJj
          gi_wp2
          refine hR.mono ?_
          rintro e W' ⟨rfl, hJ', hk'⟩
          clear hy hR
          rw [HPRE.out] at hJ'
          gi_wp2
          go_roundw
          case rel => exact ⟨j + 1, r.extract 64 r.size, rfl, by have := HRS.out; omega, by rw [Lib.extract_to_end, HRL.out, List.drop_drop]; rfl, hJ'⟩
          case measure => simp; omega
end Go.Proofs.YtlkdofghhibmbaaDoor

/-
  digest: the contracts of Start and Sum.
-/
namespace Go.Proofs.YtlkdofghhibmbaaDoor
open Go.RowKit Go.Kx Go.Shelf
set_option maxRecDepth 20000
attribute [local go_sem] Oper.semAt_some

theorem start_any (w : World) : Calls Tryd.prog 29 #[] w fun e w' => e = .returned st0.v ∧ Below w.heap.size w w' := by
  go_enter Tryd.func29, Tryd.ntmps29
  go_wp2
  have hinf : (Tryd.prog.info? 63).map (·.size) = some (i64s st0).size := row8_size
  refine bodyPost_ret (v := st0.v) (results_cell_row rfl _ _ w.heap.size _ (i64s st0) _ _ rfl (by exact World.alloc_heap_new w _) Tryd.underlying63 rfl hinf) rfl ⟨rfl, Below.alloc0 _ _⟩

theorem pad_mod (n : Nat) : (n + (padL n).length) % 64 = 0 := by
  simp only [padL, List.length_cons, List.length_append, List.length_replicate, joinL_length, List.length_nil]
  omega
theorem pad_le (n : Nat) : (padL n).length ≤ 72 ∧ 9 ≤ (padL n).length := by
  simp only [padL, List.length_cons, List.length_append, List.length_replicate, joinL_length, List.length_nil]
  omega
def foldS (xs : List ByteArray) : St := xs.foldl (fun s b => stepL s b.data.toList) st0
theorem foldS_snoc (xs : List ByteArray) (x : ByteArray) : foldS (xs ++ [x]) = stepL (foldS xs) x.data.toList := by simp [foldS]
theorem st0_ok : st0.ok := by unfold St.ok; decide
theorem foldS_ok (xs : List ByteArray) : (foldS xs).ok := by
  rcases List.eq_nil_or_concat xs with rfl | ⟨ys, y, rfl⟩
  · exact st0_ok
  · rw [List.concat_eq_append, foldS_snoc]; exact stepL_ok _ _
theorem foldS_chunks (l : List UInt8) : foldS (chunksB l) = (chunks l).foldl stepL st0 := by
  unfold foldS chunksB chunks
  rw [List.foldl_map, List.foldl_map]
  rfl

set_option maxHeartbeats 2000000 in
theorem sum_any (s : ByteArray) (hs : s.size ≤ 1000000000) (w : World) (hK : Consts w) :
    Calls Tryd.prog 14 #[.string s] w fun e w' => e = .returned (.string ⟨(sumL s.data.toList).toArray⟩) ∧ Below w.heap.size w w' := by
  refine (callsIn_wide (n := 3)).1 ?_
  refine callsIn_of_wp_marks Tryd.func14 rfl trivial ?_ rfl
  simp only [Tryd.ntmps14, List.size_toArray, List.length_cons, List.length_nil, Nat.reduceAdd, Nat.reduceSub, Array.replicate_succ, Array.replicate_zero, List.push_toArray, List.append_toArray, List.nil_append, List.cons_append]
  obtain ⟨p, hp⟩ : ∃ p : ByteArray, p = ⟨(padL s.size).toArray⟩ := ⟨_, rfl⟩
  have hpad : ∀ V : World, Calls Tryd.prog 28 #[.int .i64 (s.size : Int)] V fun e w' => e = .returned (.tuple #[.string p, .bool true]) ∧ Below V.heap.size V w' := by rw [hp]; exact fun V => pad_yes s.size hs V
  have hpl : p.data.toList = padL s.size := by rw [hp]
  have hps : p.size ≤ 1000 := by have := (pad_le s.size).1; rw [hp, size_mk]; omega
  have hpm : (s.data.toList ++ p.data.toList).length % 64 = 0 := by rw [hpl, List.length_append]; exact pad_mod s.size
  have HPAD := Lib.hid hpad
  have HPL := Lib.hid hpl
  have HPM := Lib.hid hpm
  clear hp hpad hpl hpm
  gi_wp2_with (first
    | (refine ⟨trivial, ?_⟩; gi_at_call 28; refine (callsIn_wide.2 (HPAD.out w)).mono ?_; rintro e w1 ⟨rfl, hb1⟩)
    | (refine ⟨trivial, ?_⟩; gi_at_call 29; refine (callsIn_wide.2 (start_any _)).mono ?_; rintro e w2 ⟨rfl, hb2⟩; unfold St.v)
    | (refine ⟨trivial, ?_⟩; gi_at_call 30; refine (callsIn_wide.2 (blocks_any s p _)).mono ?_; rintro e w3 ⟨rfl, rfl⟩))
  have hbw : Below w.heap.size w w2 := hb1.next hb2
  have hs1 := hb1.size
  have hs2 := hb2.size
  clear hb1 hb2
  have hW : Below w.heap.size w (((w2.alloc (.cells (i64s st0) 63)).alloc (.cells #[.string s] 9)).alloc (.cells #[.string p] 9)) :=
    ((hbw.alloc (by omega) _).alloc (by simp; omega) _).alloc (by simp; omega) _
  have hr : (((w2.alloc (.cells (i64s st0) 63)).alloc (.cells #[.string s] 9)).alloc (.cells #[.string p] 9)).rowIs w2.heap.size 63 8 (fun j => .int .i64 ((foldS []).at j : Nat)) :=
    ((World.rowIs_alloc w2 (i64s st0) 63 (fun j => .int .i64 (st0.at j : Nat)) (fun j hj => rowA_at .i64 8 st0.at j hj)).alloc _).alloc _
  have hc1 : (((w2.alloc (.cells (i64s st0) 63)).alloc (.cells #[.string s] 9)).alloc (.cells #[.string p] 9)).cell? ⟨w2.heap.size + 1, 0, none⟩ = some (.string s) := by go_simp
  have hf1 : (((w2.alloc (.cells (i64s st0) 63)).alloc (.cells #[.string s] 9)).alloc (.cells #[.string p] 9)).frozen? ⟨w2.heap.size + 1, 0, none⟩ = false := by go_simp
  have hc2 : (((w2.alloc (.cells (i64s st0) 63)).alloc (.cells #[.string s] 9)).alloc (.cells #[.string p] 9)).cell? ⟨w2.heap.size + 1 + 1, 0, none⟩ = some (.string p) := by go_simp
  have hsz : (((w2.alloc (.cells (i64s st0) 63)).alloc (.cells #[.string s] 9)).alloc (.cells #[.string p] 9)).heap.size = w2.heap.size + 1 + 1 + 1 := by simp
  unfold i64s at hW hr hc1 hf1 hc2 hsz
  generalize (((w2.alloc _).alloc _).alloc _) = W at *
  generalize w2.heap.size = N at *
  obtain ⟨L, hL⟩ : ∃ L, L = s.data.toList ++ p.data.toList := ⟨_, rfl⟩
  refine wpIn_range_cell (xs := chunksB (s.data.toList ++ p.data.toList)) rfl (by omega) (gf := 51) (lb := #[.pointer (some ⟨N + 1, 0, none⟩), .pointer (some ⟨N + 1 + 1, 0, none⟩)]) rfl trivial
    (enters_of Tryd.func51 (by kernel_rfl) rfl) (B := N + 1) (encs := fun x => #[.string x]) (by omega) (fun k hk => by omega) (blocks1_in Fence.wide 2 trivial rfl (by omega) (N + 1) (N + 1 + 1) s p W hc1 hf1 hc2 (by omega) hps HPM.out) (fun _ => rfl)
    (fun pre V => V.rowIs N 63 8 (fun j => .int .i64 ((foldS pre).at j : Nat)) ∧ Below w.heap.size w V ∧ N + 1 + 1 < V.heap.size)
    (fun pre A v h => ⟨h.1.setOther (by simp) v, h.2.1.setCell (p := ⟨N + 1, 0, none⟩) (by simp; omega) v, by simpa using h.2.2⟩)
    (fun pre A A' h hb => ⟨h.1.of_block (hb.block _ (by omega)), h.2.1.trans (hb.mono (by omega)), Nat.lt_of_lt_of_le h.2.2 hb.size⟩) ⟨hr, hW, by omega⟩
    (fun x => { tmps := #[.string s, undef, .string ⟨#[]⟩, .string p, .bool true, .pointer (some ⟨N, 0, none⟩), .string x, undef, undef, .tuple #[.string p, .bool true], .string s, .int .i64 s.size, .tuple #[.string p, .bool true], .string p, .bool true, .bool true, .bool false,
      .agg #[.int .i64 st0.a, .int .i64 st0.b, .int .i64 st0.c, .int .i64 st0.d, .int .i64 st0.e, .int .i64 st0.f, .int .i64 st0.g, .int .i64 st0.h], .string s, .string p,
      .func (.func 51) #[] #[.pointer (some ⟨N + 1, 0, none⟩), .pointer (some ⟨N + 1 + 1, 0, none⟩)], .string x, undef, undef, undef, undef, undef, undef, undef, undef, undef, undef, undef, undef], defers := [] }) ?assign ?body ?done
  case assign =>
    intro l x V K hKx
    gi_wp2
    exact hKx
  case body =>
    rintro l pre x V hpx ⟨hrv, hbv, hsv⟩
    have hx := chunksB_size _ _ _ hpx
    have hok := foldS_ok pre
    have HN := Lib.hid (foldS_snoc pre x)
    have hcons : Consts V := hK.keep hbv
    have hNV := hrv.lt
    have HSV := Lib.hid hsv
    clear hsv
    generalize foldS (pre ++ [x]) = S' at *
    generalize foldS pre = S at *
    obtain ⟨c0, c1, c2, c3, c4, c5, c6, c7⟩ := row8_i64 hrv
    gi_wp2_with (refine ⟨trivial, ?_⟩; gi_at_call 31; refine (CallsIn.inRound l (callsIn_wide.2 (step_lit S hok x hx S' HN.out.symm V hcons))).mono ?_; rintro e V2 ⟨rfl, hb2⟩; clear c0 c1 c2 c3 c4 c5 c6 c7; have hr2 := rowIs_keep hrv hb2; obtain ⟨d0, d1, d2, d3, d4, d5, d6, d7⟩ := row8_i64 hr2; have df := hr2.frozen)
    have hsv := HSV.out
    refine ⟨(others_of_below hb2).trans ((((((((KeepsOthers.setCell _ _ _).trans (KeepsOthers.setCell _ _ _)).trans (KeepsOthers.setCell _ _ _)).trans (KeepsOthers.setCell _ _ _)).trans (KeepsOthers.setCell _ _ _)).trans (KeepsOthers.setCell _ _ _)).trans (KeepsOthers.setCell _ _ _)).trans (KeepsOthers.setCell _ _ _)),
      ⟨(heap8_set (k := N + 1) (by omega) _ _ _ _ _ _ _ _).trans (hb2.block (N + 1) (by omega)), (heap8_set (k := N + 1 + 1) (by omega) _ _ _ _ _ _ _ _).trans (hb2.block (N + 1 + 1) (by omega))⟩, row8_seti hr2 S', below8_set (hbv.next' hb2) (by omega) _ _ _ _ _ _ _ _, ?_⟩
    have h1 := hb2.size
    have h2 := HSV.out
    omega
  case done =>
    rintro D V hD ⟨hrv, hbv, hsv⟩ hKd
    have hok := foldS_ok (chunksB (s.data.toList ++ p.data.toList))
    have hsl : Sl V (some ⟨N, 0, none⟩) (ints (foldS (chunksB (s.data.toList ++ p.data.toList))).l) := Sl_of_row hrv
    have HR := Lib.hid (show sumL s.data.toList = joinL true (foldS (chunksB (s.data.toList ++ p.data.toList))).l by
      rw [sumL, foldS_chunks, HPL.out]; rfl)
    generalize foldS (chunksB (s.data.toList ++ p.data.toList)) = S at *
    have hDV := (Array.getElem?_eq_some_iff.1 hKd).1
    gi_wp2_with (refine ⟨trivial, ?_⟩; gi_at_call 32; refine (callsIn_wide.2 (join_any (some ⟨N, 0, none⟩) 8 S.l true V (by simp [St.l]) hsl (St.l_lt hok))).mono ?_; rintro e V3 ⟨rfl, hb3⟩)
    have hK3 := (hb3.block D hDV).trans hKd
    refine ⟨by simp, .inl ⟨_, _, rfl, run_takeDeferred hK3, ?_⟩⟩
    have hbd : Below w.heap.size w (V3.putObj D (.deferred none)) := (hbv.next' hb3).trans ((Below.refl w.heap.size V3).grown (grownBy_putObj' V3 D _) (by have := hbv.size; have := hb3.size; omega) (fun k e => by cases e; omega))
    exact ⟨_, results_tmp rfl _ _ _, by rw [HR.out]; rfl, hbd⟩
end Go.Proofs.YtlkdofghhibmbaaDoor

/-
  tape: a made tape; the contract of New, what rest tells of such a tape.
-/
namespace Go.Proofs.YtlkdofghhibmbaaDoor
open Go.RowKit Go.Kx
set_option maxRecDepth 20000

theorem repeat_00 (z : Nat) : Lib.repeatL [0] z = List.replicate z 0 := by
  induction z with
  | zero => rfl
  | succ z ih => rw [Lib.repeatL, ih]; rfl
theorem rep12_any (q : ByteArray) (hq : zeroB 12 = q) (w : World) :
    Calls Tryd.prog 18 #[.string ⟨#[0]⟩, .int .i64 12] w fun e w' => e = .returned (.string q) ∧ Below w.heap.size w w' := by
  have h := Tryd.strings_Repeat ⟨#[0]⟩ 12 w (by omega) (by simp [ByteArray.size])
  rw [show (ByteArray.mk #[0]).data.toList = [0] from rfl, repeat_00, show (⟨(List.replicate 12 0).toArray⟩ : ByteArray) = zeroB 12 from rfl, hq] at h
  exact h
/-- A made tape of a key, whose closure's boxes lie at K and Z. -/
def madeK (K Z : Nat) (key : ByteArray) : TK := ⟨madeL key, .func (.func 19) #[] #[.pointer (some ⟨K, 0, none⟩), .pointer (some ⟨Z, 0, none⟩)], [(K, key), (Z, zeroB 12)], [(0, placeV)]⟩
/-- What is left of a made tape's block. -/
theorem restL_made (key : ByteArray) {N : Nat} (hN : N < 65536) : restL (madeL key) N = (blkL key (N / 64)).drop (N % 64) := by
  apply List.ext_getElem?
  intro j
  rw [restL, List.getElem?_take, List.getElem?_drop, List.getElem?_drop]
  by_cases hj : j < 64 - N % 64
  · rw [if_pos hj, madeL_get key (by omega), madeAt, show (N + j) / 64 = N / 64 by omega, show (N + j) % 64 = N % 64 + j by omega, List.getD, List.getElem?_eq_getElem (by rw [blkL_length]; omega)]
    rfl
  · rw [if_neg hj, List.getElem?_eq_none (by rw [blkL_length]; omega)]
theorem zeroB_size (n : Nat) : (zeroB n).size = n := by
  rw [zeroB, size_mk, List.length_replicate]
theorem tnewcl_any (K Z : Nat) (key : ByteArray) (hk : key.size = 32) (i : Nat) (hi : i < 1024) (r : ByteArray) (hr : (⟨(blkL key i).toArray⟩ : ByteArray) = r) (w : World) (hP : Places w) (hK : w.cell? ⟨K, 0, none⟩ = some (.string key)) (hZ : w.cell? ⟨Z, 0, none⟩ = some (.string (zeroB 12))) :
    Calls Tryd.prog 19 #[.int .i64 (i : Int), .pointer (some ⟨K, 0, none⟩), .pointer (some ⟨Z, 0, none⟩)] w fun e w' => e = .returned (.string r) ∧ Below w.heap.size w w' := by
  have hblk := block_yes key (zeroB 12) i hk (zeroB_size 12) (by omega) r hr w hP
  generalize zeroB 12 = z at *
  clear hr
  go_enter Tryd.func19, Tryd.ntmps19
  go_wp2_with fail
  refine hblk.mono ?_
  rintro e w1 ⟨rfl, hb⟩
  go_wp2
  go_ret
  exact ⟨rfl, hb⟩
set_option maxHeartbeats 2000000 in
theorem tnew_any (seed key : ByteArray) (hs : seed.size ≤ 1000000000) (hk : sumL seed.data.toList = key.data.toList) (w : World) (hC : Consts w) (hP : Places w) :
    Calls Tryd.prog 8 #[.string seed] w fun e w' => ∃ T K Z, e = .returned (.pointer (some ⟨T, 0, none⟩)) ∧ w.heap.size ≤ T ∧ Tp w' T (madeK K Z key) 0 ∧ Below w.heap.size w w' := by
  have hmf : ∀ (fn : Fn) (first cap : Array Value) (w : World), (Instr.makeFunc fn first cap).run Tryd.prog w = .ok (.func fn first cap) w := fun _ _ _ _ => rfl
  have hsum := sum_any seed hs w hC
  have hkz : key.size = 32 := by
    have := congrArg List.length hk
    rw [show (sumL seed.data.toList).length = 32 by rw [sumL, joinL_length]; rfl] at this
    simpa using this.symm
  have hke : (⟨(sumL seed.data.toList).toArray⟩ : ByteArray) = key := by rw [hk]
  have hne : (key.toList == []) = false := by
    rw [Lib.toList_data, beq_eq_false_iff_ne]
    intro e
    have h2 : key.data.toList.length = key.size := by simp
    rw [e] at h2
    simp at h2
    omega
  rw [hke] at hsum
  clear hk hke
  go_enter Tryd.func8, Tryd.ntmps8
  go_wp2_with fail
  refine hsum.mono ?_
  rintro e w1 ⟨rfl, hb1⟩
  go_wp2_with fail
  obtain ⟨z, hz⟩ : ∃ z, zeroB 12 = z := ⟨_, rfl⟩
  refine (rep12_any z hz _).mono ?_
  rintro e w3 ⟨rfl, hb3⟩
  have hK0 := (hb3.block w1.heap.size (by simp)).trans (heap_alloc_new w1 (.cells #[.string key] 9))
  have hb4 := (Below.alloc0 w1 (.cells #[.string key] 9)).next' hb3
  have hK3 : w1.heap.size < w3.heap.size := (Array.getElem?_eq_some_iff.1 hK0).1
  clear hb3
  go_wp2
  go_ret
  refine ⟨w3.heap.size + 1, w1.heap.size, w3.heap.size, rfl, by have := hb1.size; omega, ⟨?_, ?_, Nat.zero_le _, ?_⟩, hb1.next' ((hb4.al _).al _)⟩
  · have h1 := heap_alloc_new (w3.alloc (.cells #[.string z] 9)) (.cells #[.int .i64 0, .int .i64 65536, .func (.func 19) #[] #[.pointer (some ⟨w1.heap.size, 0, none⟩), .pointer (some ⟨w3.heap.size, 0, none⟩)]] 48)
    rw [World.size_alloc] at h1
    have e : ((madeK w1.heap.size w3.heap.size key).bytes.length : Int) = 65536 := by
      obtain ⟨n, hn⟩ : ∃ n, (madeK w1.heap.size w3.heap.size key).bytes.length = n := ⟨_, rfl⟩
      have h : n = 65536 := by rw [← hn, madeK, madeL_length]
      rw [hn]
      omega
    rw [e]
    exact h1
  · intro p hp
    have hp2 : p = (w1.heap.size, key) ∨ p = (w3.heap.size, zeroB 12) := by simpa [madeK] using hp
    rcases hp2 with rfl | rfl
    · refine (Below.heap_alloc (w3.alloc (.cells #[.string z] 9)) _ w1.heap.size (by simp; omega)).trans ?_
      exact (Below.heap_alloc w3 _ w1.heap.size hK3).trans hK0
    · rw [hz]
      exact (Below.heap_alloc (w3.alloc (.cells #[.string z] 9)) _ w3.heap.size (by simp)).trans (heap_alloc_new w3 _)
  · intro p hp
    obtain rfl : p = (0, placeV) := by simpa [madeK] using hp
    have hP2 := hP.keep (hb1.next' ((hb4.al (.cells #[.string z] 9)).al (.cells #[.int .i64 0, .int .i64 65536, .func (.func 19) #[] #[.pointer (some ⟨w1.heap.size, 0, none⟩), .pointer (some ⟨w3.heap.size, 0, none⟩)]] 48)))
    have hlt := range_lt hP (by decide)
    exact ⟨by have := hb1.size; show _ ≠ w3.heap.size + 1; omega, by decide, hP2⟩
set_option maxHeartbeats 2000000 in
theorem newrest_any (K Z : Nat) (key : ByteArray) (hk : key.size = 32) (w : World) (T N : Nat) (hT : Tp w T (madeK K Z key) N) (hN : N < 65536) (b : ByteArray) (hb : (⟨(restL (madeL key) N).toArray⟩ : ByteArray) = b) :
    Calls Tryd.prog 36 #[.pointer (some ⟨T, 0, none⟩)] w fun e w' => e = .returned (.string b) ∧ Below w.heap.size w w' := by
  obtain ⟨c0, -, c2, -⟩ := hT.cells
  have hP : Places w := (hT.2.2.2 (0, placeV) (by simp [madeK])).2.2
  have hK := cell_of_row w K 0 _ _ _ (hT.2.1 (K, key) (by simp [madeK]))
  replace hK : w.cell? ⟨K, 0, none⟩ = some (.string key) := hK.trans rfl
  have hZ := cell_of_row w Z 0 _ _ _ (hT.2.1 (Z, zeroB 12) (by simp [madeK]))
  replace hZ : w.cell? ⟨Z, 0, none⟩ = some (.string (zeroB 12)) := hZ.trans rfl
  unfold madeK at c2
  have hl0 : ∀ d' os, (Go.Sort.grow (redrawn w d') os).cell? ⟨T, 0, none⟩ = some (.int .i64 (N : Int)) := cell_regrown c0
  have hl2 : ∀ d' os, (Go.Sort.grow (redrawn w d') os).cell? ⟨T, 2, none⟩ = some (.func (.func 19) #[] #[.pointer (some ⟨K, 0, none⟩), .pointer (some ⟨Z, 0, none⟩)]) := cell_regrown c2
  have hlK : ∀ d' os, (Go.Sort.grow (redrawn w d') os).cell? ⟨K, 0, none⟩ = some (.string key) := cell_regrown hK
  have hlZ : ∀ d' os, (Go.Sort.grow (redrawn w d') os).cell? ⟨Z, 0, none⟩ = some (.string (zeroB 12)) := cell_regrown hZ
  have hlP : ∀ d' os, Places (Go.Sort.grow (redrawn w d') os) := fun d' os => hP.keep (below_regrown w d' os)
  obtain ⟨q, hq⟩ : ∃ q, N / 64 = q := ⟨_, rfl⟩
  have hqI : (N : Int) / 64 = (q : Int) := by omega
  have hqd : (N : Int).tdiv 64 = (q : Int) := by rw [Int.tdiv_eq_ediv_of_nonneg (by omega)]; exact hqI
  have hwq : IntKind.i64.wrap (q : Int) = (q : Int) := IntWalk.i64_in _ (by omega)
  obtain ⟨m, hm⟩ : ∃ m, N % 64 = m := ⟨_, rfl⟩
  have hmI : (N : Int) % 64 = (m : Int) := by omega
  have hmt : (N : Int).tmod 64 = (m : Int) := by rw [Int.tmod_eq_emod_of_nonneg (by omega)]; exact hmI
  obtain ⟨r, hr⟩ : ∃ r : ByteArray, (⟨(blkL key q).toArray⟩ : ByteArray) = r := ⟨_, rfl⟩
  have hrz : r.size = 64 := by rw [← hr, size_mk, blkL_length]
  have hmr : (m : Int) ≤ (r.size : Int) := by omega
  have hmr2 : m ≤ r.size := by omega
  have hbe : r.extract m r.size = b := by
    rw [← hb]
    refine ByteArray.ext (Array.toList_inj.1 ?_)
    rw [str_ext, ← hr]
    show ((blkL key q).drop m).take _ = restL (madeL key) N
    rw [size_mk, blkL_length, restL_made key hN, hq, hm]
    exact List.take_of_length_le (by rw [List.length_drop, blkL_length]; omega)
  have hsl : ∀ V : World, (Instr.slice 9 (.string r) (some (.int .i64 (m : Int))) none none).run Tryd.prog V = .ok (.string b) V := fun V => by
    rw [← hbe]
    exact str_from Tryd.underlying9 r m hmr2 V
  have c1 : ∀ d' os, Calls Tryd.prog 19 #[.int .i64 (q : Int), .pointer (some ⟨K, 0, none⟩), .pointer (some ⟨Z, 0, none⟩)] (Go.Sort.grow (redrawn w d') os) fun e w'' => e = .returned (.string r) ∧ ∃ p : Regrown, w'' = Go.Sort.grow (redrawn w p.d) p.os :=
    fun d' os => Calls.regrown_of (tnewcl_any K Z key hk q (by omega) r hr _ (hlP d' os) (hlK d' os) (hlZ d' os))
  clear hT c0 c2 hK hZ hlK hlZ hb hbe hr hq hm hrz hqI hmI hlP
  go_enter Tryd.func36, Tryd.ntmps36
  go_wp2_with fail
  refine wp_region_quiet_below (by kernel_rfl) (by kernel_rfl) ?_
  repeat (quiet_step (with_reducible exact c1 _ _))
  refine wpQuiet_nil ?_
  intro _ hw'
  obtain ⟨⟨dq, osq⟩, hw''⟩ := hw'
  subst hw''
  have hq2 := below_regrown w dq osq
  clear hl0 hl2 c1
  generalize Go.Sort.grow (redrawn w dq) osq = w2 at *
  go_wp2
  go_ret
  exact ⟨rfl, hq2⟩
theorem madeK_len (K Z : Nat) (key : ByteArray) : (madeK K Z key).bytes.length = 65536 := by rw [madeK, madeL_length]
theorem madeK_bytes (K Z : Nat) (key : ByteArray) : (madeK K Z key).bytes = madeL key := by rw [madeK]
theorem madeK_ok (K Z : Nat) (key : ByteArray) (hk : key.size = 32) : TKok (madeK K Z key) :=
  ⟨by have := madeK_len K Z key; omega, ⟨_, _, _, rfl⟩, fun w T N hT hN b hb => newrest_any K Z key hk w T N hT (by have := madeK_len K Z key; omega) b (by rw [← madeK_bytes K Z key]; exact hb)⟩
end Go.Proofs.YtlkdofghhibmbaaDoor

/-
  tape: the contract of Fork.
-/
namespace Go.Proofs.YtlkdofghhibmbaaDoor
open Go.RowKit Go.Kx
set_option maxRecDepth 20000

/-- What a call of Fork answers: with fewer than 32 bytes left, nil and the error; else the tape of the Sum of 32 bytes and the name. -/
def TForkP (T : Nat) (k : TK) (name : ByteArray) (N : Nat) (w : World) (e : Ending) (w' : World) : Prop :=
  if (k.bytes.length : Int) - N < 32 then e = .returned (.tuple #[.pointer none, .int .i64 120]) ∧ Tp w' T k N ∧ w.grownBy w' (some T)
  else ∃ (T2 K Z : Nat) (key2 : ByteArray), e = .returned (.tuple #[.pointer (some ⟨T2, 0, none⟩), .int .i64 0]) ∧ sumL ((k.bytes.drop N).take 32 ++ name.data.toList) = key2.data.toList ∧ key2.size = 32 ∧ w.heap.size ≤ T2 ∧ Tp w' T2 (madeK K Z key2) 0 ∧ Tp w' T k (N + 32) ∧ w.grownBy w' (some T)
set_option maxHeartbeats 2000000 in
theorem tfork_any (T N : Nat) (k : TK) (hk : TKok k) (name : ByteArray) (hname : name.size ≤ 1000) (w : World) (hT : Tp w T k N) (HC : ∀ V, w.grownBy V (some T) → Consts V ∧ Places V) :
    Calls Tryd.prog 24 #[.pointer (some ⟨T, 0, none⟩), .string name] w fun e w' => TForkP T k name N w e w' := by
  have htk := ttake_any T N k hk 32 w hT
  have hN := hT.2.2.1
  by_cases h3 : (k.bytes.length : Int) - N < 32
  · rw [takeR_out (by omega) h3] at htk
    obtain ⟨P, hP⟩ : ∃ P, (fun e w' => TForkP T k name N w e w') = P := ⟨_, rfl⟩
    have hPe : ∀ e w', e = .returned (.tuple #[.pointer none, .int .i64 120]) → Tp w' T k N → w.grownBy w' (some T) → P e w' := by
      intro e w' a b c; rw [← hP]; show TForkP _ _ _ _ _ _ _; rw [TForkP, if_pos h3]; exact ⟨a, b, c⟩
    suffices hS : Calls Tryd.prog 24 #[.pointer (some ⟨T, 0, none⟩), .string name] w fun e w' => P e w' ∧ True from hS.mono fun e w' h => by have k := h.1; rw [← hP] at k; exact k
    clear h3 hN hP HC
    go_enter Tryd.func24, Tryd.ntmps24
    go_wp2_with fail
    refine htk.mono ?_
    rintro e w1 ⟨b, rfl, rfl, hT1, hg⟩
    go_wp2
    go_ret2
    exact ⟨hPe _ _ rfl hT1 hg, trivial⟩
  · rw [show (32 : Int) = ((32 : Nat) : Int) from rfl, takeR_yes (by omega) hN] at htk
    obtain ⟨D, hD⟩ : ∃ D, (k.bytes.drop N).take 32 = D := ⟨_, rfl⟩
    have hDl : D.length = 32 := by rw [← hD, List.length_take, List.length_drop]; omega
    obtain ⟨P, hP⟩ : ∃ P, (fun e w' => TForkP T k name N w e w') = P := ⟨_, rfl⟩
    have hPe : ∀ (e : Ending) (w' : World) (T2 K Z : Nat) (key2 : ByteArray), e = .returned (.tuple #[.pointer (some ⟨T2, 0, none⟩), .int .i64 0]) → sumL (D ++ name.data.toList) = key2.data.toList → w.heap.size ≤ T2 → Tp w' T2 (madeK K Z key2) 0 → Tp w' T k (N + 32) → w.grownBy w' (some T) → P e w' := by
      intro e w' T2 K Z key2 a b c d f g; rw [← hP]; show TForkP _ _ _ _ _ _ _; rw [TForkP, if_neg h3, hD]
      exact ⟨T2, K, Z, key2, a, b, by have := congrArg List.length b; rw [show (sumL (D ++ name.data.toList)).length = 32 by rw [sumL, joinL_length]; rfl] at this; exact this.symm, c, d, f, g⟩
    rw [hD] at htk
    suffices hS : Calls Tryd.prog 24 #[.pointer (some ⟨T, 0, none⟩), .string name] w fun e w' => P e w' ∧ True from hS.mono fun e w' h => by have k := h.1; rw [← hP] at k; exact k
    clear h3 hN hP hD
    go_enter Tryd.func24, Tryd.ntmps24
    go_wp2_with fail
    refine htk.mono ?_
    rintro e w1 ⟨b, hb, rfl, hT1, hg⟩
    have hbz : b.size = 32 := by rw [← hb, size_mk]; exact hDl
    have hcat : (b ++ name).data.toList = D ++ name.data.toList := by rw [← hb]; simp
    have hcz : (b ++ name).size ≤ 1000000000 := by rw [ByteArray.size_append]; omega
    obtain ⟨key2, hk2⟩ : ∃ key2 : ByteArray, sumL (b ++ name).data.toList = key2.data.toList := ⟨⟨(sumL (b ++ name).data.toList).toArray⟩, by simp⟩
    obtain ⟨hC1, hP1⟩ := HC w1 hg
    have hnew := tnew_any (b ++ name) key2 hcz hk2 w1 hC1 hP1
    rw [hcat] at hk2
    go_wp2_with fail
    refine hnew.mono ?_
    rintro e w2 ⟨T2, K, Z, rfl, h2, hT2, hb2⟩
    go_wp2
    go_ret2
    exact ⟨hPe _ _ T2 K Z key2 rfl hk2 (Nat.le_trans hg.size h2) hT2 (hT1.keep hb2) (grown_trans hg (grown_of hb2)), trivial⟩
end Go.Proofs.YtlkdofghhibmbaaDoor

/-
  Slices that a walk appends to: what they read as (any program).
-/
namespace Go.Proofs.YtlkdofghhibmbaaDoor
open Go.RowKit Go.Kx
set_option maxRecDepth 20000

theorem own_sl {w : World} {base : Nat} {e : TypeId} {v : Value} {n : Nat} {xs : List Value} (h : w.ownsRow base e 1 v n xs) : ∃ A c, v = .slice A n c ∧ Sl w A xs := by
  have hl := h.1
  rcases Nat.eq_zero_or_pos n with h0 | h0
  · subst h0
    have hx : xs = [] := List.eq_nil_of_length_eq_zero (by simpa using hl)
    subst hx
    rcases h.2 with ⟨rfl, _⟩ | ⟨g, cap, cur, rfl, _⟩
    · exact ⟨_, _, rfl, .inl rfl⟩
    · exact ⟨_, _, rfl, .inl rfl⟩
  · obtain ⟨g, cap, hv, _, hlt⟩ := h.form h0
    subst hv
    refine ⟨_, _, rfl, .inr ⟨g, 0, rfl, hlt, fun j u hu => ?_⟩⟩
    have := h.cells (g := g) rfl j u hu
    rw [Nat.zero_add]
    rw [← this]
    congr 1
    unfold Addr.add
    split <;> simp_all
/-- A slice whose block is not old. -/
def FreshA (B : Nat) (A : Option Addr) : Prop := ∀ a, A = some a → B ≤ a.block
theorem FreshA.ne {B : Nat} {A : Option Addr} (h : FreshA B A) {N : Nat} (hN : N < B) : ∀ a, A = some a → a.block ≠ N := fun a e => by have := h a e; omega
theorem FreshA.mono {B B' : Nat} {A : Option Addr} (h : FreshA B A) (hB : B' ≤ B) : FreshA B' A := fun a e => Nat.le_trans hB (h a e)
theorem own_slf {w : World} {base : Nat} {e : TypeId} {v : Value} {n size : Nat} {xs : List Value} (h : w.ownsRow base e size v n xs) : ∃ A c, v = .slice A n c ∧ Sl w A xs ∧ FreshA base A := by
  have hl := h.1
  rcases h.2 with ⟨rfl, rfl⟩ | ⟨g, cap, cur, rfl, hg, hh, hc, hm, hs, ht⟩
  · have hx : xs = [] := List.eq_nil_of_length_eq_zero (by simpa using hl)
    subst hx
    exact ⟨_, _, rfl, .inl rfl, fun a e => by cases e⟩
  · refine ⟨_, _, rfl, .inr ⟨g, 0, rfl, (Array.getElem?_eq_some_iff.1 hh).1, fun j u hu => ?_⟩, fun a e => by cases e; exact hg⟩
    rw [Nat.zero_add, cell_of_row _ _ _ _ _ _ hh]
    have hj := (List.getElem?_eq_some_iff.1 hu).1
    rw [← ht, List.getElem?_take] at hu
    split at hu
    · simpa using hu
    · cases hu
theorem _root_.Go.Kx.Sl.setA {w : World} {A : Option Addr} {vs : List Value} (h : Sl w A vs) {b : Nat} (hA : ∀ a, A = some a → a.block ≠ b) (o : Nat) (v : Value) : Sl (w.setCell ⟨b, o, none⟩ v) A vs := by
  rcases h with h | ⟨g, off, rfl, hl, hc⟩
  · exact .inl h
  · exact Sl.set (.inr ⟨g, off, rfl, hl, hc⟩) (hA _ rfl) v
theorem own_below {w wr w1 : World} {e : TypeId} {v : Value} {n sz : Nat} {xs : List Value} (hown : wr.ownsRow w.heap.size e sz v n xs) (hb : Below w.heap.size w wr) (hg : wr.grownBy w1 v.ownBlock) : Below w.heap.size w w1 :=
  hb.grown hg hb.size (fun k hk => (hown.lt k hk).1)
theorem own_keep {wr w1 : World} {B : Nat} {e : TypeId} {v : Value} {n sz : Nat} {xs : List Value} (h : wr.ownsRow B e sz v n xs) (hb : Below wr.heap.size wr w1) : w1.ownsRow B e sz v n xs :=
  h.kept (row := none) ⟨hb.os, hb.tape, hb.output, hb.size, fun k hk _ => hb.block k hk⟩ (by cases v.ownBlock <;> simp)
end Go.Proofs.YtlkdofghhibmbaaDoor

/-
  Slices that a walk appends to: what they read as.
-/
namespace Go.Proofs.YtlkdofghhibmbaaDoor
open Go.RowKit Go.Kx
set_option maxRecDepth 20000

theorem octet_info : (Tryd.prog.info? 5).map (fun i => (i.zero, i.size, i.bytes)) = some (some (.int .u8 0), 1, 1) := by kernel_rfl
def byts (l : List UInt8) : List Value := l.map (fun b : UInt8 => Value.int .u8 (b.toNat : Int))
theorem byts_snoc (l : List UInt8) (b : UInt8) : byts l ++ [Value.int .u8 (b.toNat : Int)] = byts (l ++ [b]) := by simp [byts]
theorem take_snocB {l : List UInt8} {k : Nat} {x : UInt8} (h : l[k]? = some x) : l.take k ++ [x] = l.take (k + 1) := by rw [List.take_add_one, h]; rfl
theorem own_str {w : World} {B0 : Nat} {v : Value} {l : List UInt8} (h : w.ownsRow B0 5 1 v l.length (byts l)) :
    ∃ A c, v = .slice A l.length c ∧ (0 < l.length → (convert 72 9 v).run Tryd.prog w = .ok (.string ⟨l.toArray⟩) w) := by
  obtain ⟨A, c, rfl, hs⟩ := own_sl h
  refine ⟨A, c, rfl, fun h0 => ?_⟩
  rcases hs with hs | ⟨b, off, rfl, _, hc⟩
  · have : l = [] := by simpa [byts] using hs
    subst this
    simp at h0
  · refine run_convert_bytes_back (P := Tryd.prog) w 72 9 5 ⟨b, off, none⟩ c l Tryd.underlying72 Tryd.underlying5 Tryd.underlying9 (fun j hj => ?_)
    rw [show (⟨b, off, none⟩ : Addr).add j = ⟨b, off + j, none⟩ by unfold Addr.add; split <;> simp_all]
    rw [hc j (.int .u8 (l[j].toNat : Int)) (by simp [byts, hj])]
theorem own_strs {w : World} {B0 : Nat} {v : Value} {l : List UInt8} (h : w.ownsRow B0 5 1 v l.length (byts l)) :
    ∃ A c, v = .slice A l.length c ∧ (convert 72 9 v).run Tryd.prog w = .ok (.string ⟨l.toArray⟩) w := by
  obtain ⟨A, c, rfl, hc⟩ := own_str h
  refine ⟨A, c, rfl, ?_⟩
  rcases Nat.eq_zero_or_pos l.length with h0 | h0
  · obtain rfl : l = [] := List.eq_nil_of_length_eq_zero h0
    show (convert 72 9 (.slice A 0 c)).run Tryd.prog w = _
    rw [run_convert_bytes_string w 72 9 5 A 0 c Tryd.underlying72 Tryd.underlying5 Tryd.underlying9]
    cases A <;> simp [Conv.bytesToString, loadCells] <;> rfl
  · exact hc h0
end Go.Proofs.YtlkdofghhibmbaaDoor

/-
  keyholeref01.Unlike: the contract (a part of Ref1: never beside it).
-/
namespace Go.Proofs.YtlkdofghhibmbaaDoor
open Go.RowKit Go.Kx
set_option maxRecDepth 20000

theorem mod_up (x i : Nat) : x % 2 ^ (i + 1) = x % 2 ^ i + 2 ^ i * (x / 2 ^ i % 2) := by rw [Nat.pow_succ, Nat.mod_mul]
theorem div_up (x i : Nat) : x / 2 ^ i / 2 = x / 2 ^ (i + 1) := by rw [Nat.div_div_eq_div_mul, Nat.pow_succ]
theorem bit_of (x i : Nat) : x / 2 ^ i % 2 = (x.testBit i).toNat := by rw [Nat.testBit_eq_decide_div_mod_eq]; rcases Nat.mod_two_eq_zero_or_one (x / 2 ^ i) with h | h <;> simp [h]
theorem xor_up (a b i : Nat) : (a ^^^ b) / 2 ^ i % 2 = if a / 2 ^ i % 2 = b / 2 ^ i % 2 then 0 else 1 := by
  rw [bit_of, bit_of, bit_of, Nat.testBit_xor]
  cases a.testBit i <;> cases b.testBit i <;> rfl
theorem pow_le32 {i : Nat} (h : i ≤ 32) : 2 ^ i ≤ 4294967296 := Nat.pow_le_pow_right (by omega) h
theorem unlike_any (a b : Nat) (ha : a < 4294967296) (hb : b < 4294967296) (w : World) :
    Calls Tryd.prog 63 #[.int .i64 a, .int .i64 b] w fun e w' => e = .returned (.int .i64 (a ^^^ b : Nat)) ∧ w' = w := by
  go_enter Tryd.func63, Tryd.ntmps63
  go_wp2
  go_loop [0, 1, 5, 6, 7] (fun va vb vn vw vi => ∃ k A B n q : Nat, k ≤ 32 ∧ vi = .int .i64 k ∧ Hid (A = a / 2 ^ k) ∧ Hid (B = b / 2 ^ k) ∧ Hid (n = (a ^^^ b) % 2 ^ k) ∧ Hid (q = 2 ^ k) ∧ va = .int .i64 A ∧ vb = .int .i64 B ∧ vn = .int .i64 n ∧ vw = .int .i64 q) (fun _ _ _ _ i => 32 - (intOf i).toNat)
  case atStart => exact ⟨0, a, b, 0, 1, by omega, rfl, Lib.hid (by simp), Lib.hid (by simp), Lib.hid (by omega), Lib.hid rfl, rfl, rfl, rfl, rfl⟩
  case round =>
    obtain ⟨k, A, B, n, q, hk, rfl, hA, hB, hn, hq, rfl, rfl, rfl, rfl⟩ := hrel
    have hAl : A < 4294967296 := by rw [hA.out]; exact Nat.lt_of_le_of_lt (Nat.div_le_self _ _) ha
    have hBl : B < 4294967296 := by rw [hB.out]; exact Nat.lt_of_le_of_lt (Nat.div_le_self _ _) hb
    have hql : q ≤ 4294967296 := by rw [hq.out]; exact pow_le32 hk
    have hnl : n < 4294967296 := by rw [hn.out]; exact Nat.lt_of_le_of_lt (Nat.mod_le _ _) (Nat.xor_lt_two_pow (n := 32) ha hb)
    by_cases hl : k < 32
    · have hA' : Hid (A / 2 = a / 2 ^ (k + 1)) := Lib.hid (by rw [hA.out, div_up])
      have hB' : Hid (B / 2 = b / 2 ^ (k + 1)) := Lib.hid (by rw [hB.out, div_up])
      have hq' : Hid (2 * q = 2 ^ (k + 1)) := Lib.hid (by rw [hq.out, Nat.pow_succ, Nat.mul_comm])
      by_cases hp : A % 2 = B % 2
      · have hn' : Hid (n = (a ^^^ b) % 2 ^ (k + 1)) := Lib.hid (by rw [mod_up, xor_up, ← hA.out, ← hB.out, if_pos hp, ← hn.out]; rfl)
        have ht : ((A : Int) % 2 != (B : Int) % 2) = false := by simp; omega
        clear hA hB hn hq hp
        go_wp2
        go_round
        case rel => exact ⟨k + 1, A / 2, B / 2, n, 2 * q, by omega, by go_num, hA', hB', hn', hq', by go_num, by go_num, by go_num, by go_num⟩
        case measure => simp [intOf]; omega
      · have hn' : Hid (n + q = (a ^^^ b) % 2 ^ (k + 1)) := Lib.hid (by rw [mod_up, xor_up, ← hA.out, ← hB.out, if_neg hp, ← hn.out, ← hq.out]; omega)
        have ht : ((A : Int) % 2 != (B : Int) % 2) = true := by simp; omega
        clear hA hB hn hq hp
        go_wp2
        go_round
        case rel => exact ⟨k + 1, A / 2, B / 2, n + q, 2 * q, by omega, by go_num, hA', hB', hn', hq', by go_num, by go_num, by go_num, by go_num⟩
        case measure => simp [intOf]; omega
    · obtain rfl : k = 32 := by omega
      go_wp2
      go_ret
      exact ⟨ret_int (by rw [hn.out, Nat.mod_eq_of_lt (Nat.xor_lt_two_pow (n := 32) ha hb)]), rfl⟩
theorem unlike_v (a b : Nat) (ha : a < 4294967296) (hb : b < 4294967296) (y : Nat) (hy : a ^^^ b = y) (w : World) :
    Calls Tryd.prog 63 #[.int .i64 a, .int .i64 b] w fun e w' => e = .returned (.int .i64 (y : Nat)) ∧ w' = w := by
  subst hy; exact unlike_any a b ha hb w
end Go.Proofs.YtlkdofghhibmbaaDoor

/-
  keyholeref01 and keyholeref02: the contracts of what only computes: digits one by one, turns, falls, sums.
-/
namespace Go.Proofs.YtlkdofghhibmbaaDoor
open Go.RowKit Go.Kx

theorem and_up (a b i : Nat) : (a &&& b) / 2 ^ i % 2 = if a / 2 ^ i % 2 = 1 ∧ b / 2 ^ i % 2 = 1 then 1 else 0 := by
  rw [bit_of, bit_of, bit_of, Nat.testBit_and]
  cases a.testBit i <;> cases b.testBit i <;> rfl
theorem both_any (a b : Nat) (ha : a < 4294967296) (hb : b < 4294967296) (w : World) :
    Calls Tryd.prog 64 #[.int .i64 a, .int .i64 b] w fun e w' => e = .returned (.int .i64 (a &&& b : Nat)) ∧ w' = w := by
  go_enter Tryd.func64, Tryd.ntmps64
  go_wp2
  go_loop [0, 1, 5, 6, 7] (fun va vb vn vw vi => ∃ k A B n q : Nat, k ≤ 32 ∧ vi = .int .i64 k ∧ Hid (A = a / 2 ^ k) ∧ Hid (B = b / 2 ^ k) ∧ Hid (n = (a &&& b) % 2 ^ k) ∧ Hid (q = 2 ^ k) ∧ va = .int .i64 A ∧ vb = .int .i64 B ∧ vn = .int .i64 n ∧ vw = .int .i64 q) (fun _ _ _ _ i => 32 - (intOf i).toNat)
  case atStart => exact ⟨0, a, b, 0, 1, by omega, rfl, Lib.hid (by simp), Lib.hid (by simp), Lib.hid (by omega), Lib.hid rfl, rfl, rfl, rfl, rfl⟩
  case round =>
    obtain ⟨k, A, B, n, q, hk, rfl, hA, hB, hn, hq, rfl, rfl, rfl, rfl⟩ := hrel
    have hAl : A < 4294967296 := by rw [hA.out]; exact Nat.lt_of_le_of_lt (Nat.div_le_self _ _) ha
    have hBl : B < 4294967296 := by rw [hB.out]; exact Nat.lt_of_le_of_lt (Nat.div_le_self _ _) hb
    have hql : q ≤ 4294967296 := by rw [hq.out]; exact pow_le32 hk
    have hnl : n < 4294967296 := by rw [hn.out]; exact Nat.lt_of_le_of_lt (Nat.mod_le _ _) (Nat.and_lt_two_pow (n := 32) a hb)
    by_cases hl : k < 32
    · have hA' : Hid (A / 2 = a / 2 ^ (k + 1)) := Lib.hid (by rw [hA.out, div_up])
      have hB' : Hid (B / 2 = b / 2 ^ (k + 1)) := Lib.hid (by rw [hB.out, div_up])
      have hq' : Hid (2 * q = 2 ^ (k + 1)) := Lib.hid (by rw [hq.out, Nat.pow_succ, Nat.mul_comm])
      by_cases hp : A % 2 = 1 ∧ B % 2 = 1
      · have hn' : Hid (n + q = (a &&& b) % 2 ^ (k + 1)) := Lib.hid (by rw [mod_up, and_up, ← hA.out, ← hB.out, if_pos hp, ← hn.out, ← hq.out]; omega)
        have t1 : ((A : Int) % 2 == 1) = true := by simp; omega
        have t2 : ((B : Int) % 2 == 1) = true := by simp; omega
        clear hA hB hn hq hp
        go_wp2
        go_round
        case rel => exact ⟨k + 1, A / 2, B / 2, n + q, 2 * q, by omega, by go_num, hA', hB', hn', hq', by go_num, by go_num, by go_num, by go_num⟩
        case measure => simp [intOf]; omega
      · have hn' : Hid (n = (a &&& b) % 2 ^ (k + 1)) := Lib.hid (by rw [mod_up, and_up, ← hA.out, ← hB.out, if_neg hp, ← hn.out]; rfl)
        by_cases hp1 : A % 2 = 1
        · have t1 : ((A : Int) % 2 == 1) = true := by simp; omega
          have t2 : ((B : Int) % 2 == 1) = false := by simp; omega
          clear hA hB hn hq hp hp1
          go_wp2
          go_round
          case rel => exact ⟨k + 1, A / 2, B / 2, n, 2 * q, by omega, by go_num, hA', hB', hn', hq', by go_num, by go_num, by go_num, by go_num⟩
          case measure => simp [intOf]; omega
        · have t1 : ((A : Int) % 2 == 1) = false := by simp; omega
          clear hA hB hn hq hp hp1
          go_wp2
          go_round
          case rel => exact ⟨k + 1, A / 2, B / 2, n, 2 * q, by omega, by go_num, hA', hB', hn', hq', by go_num, by go_num, by go_num, by go_num⟩
          case measure => simp [intOf]; omega
    · obtain rfl : k = 32 := by omega
      go_wp2
      go_ret
      exact ⟨ret_int (by rw [hn.out, Nat.mod_eq_of_lt (Nat.and_lt_two_pow (n := 32) a hb)]), rfl⟩
theorem rotN_step (x k : Nat) (hx : x < 4294967296) (hk : k < 32) : rotN x (k + 1) = 2 * rotN x k % 4294967296 + 2 * rotN x k / 4294967296 := by
  have hp : 2 ^ k * (2 * 2 ^ (31 - k)) = 4294967296 := by
    have : 2 ^ k * 2 ^ (32 - k) = 4294967296 := by rw [← Nat.pow_add, show k + (32 - k) = 32 from by omega]
    rw [← this, show 32 - k = (31 - k) + 1 by omega, Nat.pow_succ 2 (31 - k), Nat.mul_comm 2]
  have e1 : 2 ^ (32 - k) = 2 * 2 ^ (31 - k) := by rw [show 32 - k = (31 - k) + 1 by omega, Nat.pow_succ, Nat.mul_comm]
  have e2 : 2 ^ (k + 1) = 2 * 2 ^ k := by rw [Nat.pow_succ, Nat.mul_comm]
  unfold rotN
  rw [show 32 - (k + 1) = 31 - k by omega, e1, e2]
  have hA : 0 < 2 ^ k := Nat.two_pow_pos _
  have hB : 0 < 2 ^ (31 - k) := Nat.two_pow_pos _
  generalize 2 ^ k = A at *
  generalize 2 ^ (31 - k) = C at *
  have hq : x / (2 * C) < A := by rw [Nat.div_lt_iff_lt_mul (by omega), hp]; exact hx
  have hd := Nat.div_add_mod x (2 * C)
  have hr : x % (2 * C) < 2 * C := Nat.mod_lt _ (by omega)
  generalize x / (2 * C) = q at *
  generalize x % (2 * C) = r at *
  obtain ⟨t, r', ht, hr', rfl⟩ : ∃ t r', t < 2 ∧ r' < C ∧ r = t * C + r' := ⟨r / C, r % C, by rw [Nat.div_lt_iff_lt_mul hB]; omega, Nat.mod_lt _ hB, (Nat.div_add_mod' r C).symm⟩
  have c1 : 2 * C * q = C * (2 * q) := by ac_rfl
  have hx2 : x = C * (2 * q + t) + r' := by rw [← hd, Nat.mul_add, Nat.mul_comm t C]; omega
  have hACp : A * C * 2 = 4294967296 := by rw [← hp]; ac_rfl
  have f1 : x / C = 2 * q + t := by rw [hx2, Nat.mul_add_div hB, Nat.div_eq_of_lt hr']; rfl
  have c2 : 2 * C * q * A = A * (2 * C) * q := by ac_rfl
  have c3 : (2 * C * q + (t * C + r')) * A = (t * C + r') * A + 4294967296 * q := by rw [Nat.add_mul, c2, hp, Nat.add_comm]
  have f2 : x * A % 4294967296 = (t * C + r') * A := by
    rw [← hd, c3, Nat.add_mul_mod_self_left]
    apply Nat.mod_eq_of_lt
    rw [← hp, Nat.mul_comm A]
    exact Nat.mul_lt_mul_of_pos_right hr hA
  have c4 : C * (2 * q + t) * (2 * A) = A * C * 2 * (2 * q + t) := by ac_rfl
  have c5 : (C * (2 * q + t) + r') * (2 * A) = r' * (2 * A) + 4294967296 * (2 * q + t) := by rw [Nat.add_mul, c4, hACp, Nat.add_comm]
  have c6 : A * C * 2 = C * (2 * A) := by ac_rfl
  have f3 : x * (2 * A) % 4294967296 = r' * (2 * A) := by
    rw [hx2, c5, Nat.add_mul_mod_self_left]
    apply Nat.mod_eq_of_lt
    rw [← hACp, c6]
    exact Nat.mul_lt_mul_of_pos_right hr' (by omega)
  rw [f1, f2, f3]
  have g1 : 2 * ((t * C + r') * A + q) = 4294967296 * t + (r' * (2 * A) + 2 * q) := by
    have e3 : 2 * (t * C * A) = A * C * 2 * t := by ac_rfl
    have e4 : 2 * (r' * A) = r' * (2 * A) := by ac_rfl
    rw [Nat.mul_add, Nat.add_mul, Nat.mul_add, e3, e4, hACp]
    omega
  have g2 : r' * (2 * A) + 2 * q < 4294967296 := by
    have h1 : (r' + 1) * (2 * A) ≤ C * (2 * A) := Nat.mul_le_mul_right _ hr'
    rw [← c6, hACp, Nat.add_mul, Nat.one_mul] at h1
    omega
  rw [g1, Nat.mul_add_mod, Nat.mod_eq_of_lt g2, Nat.mul_add_div (by omega), Nat.div_eq_of_lt g2]
  omega
theorem rotN_0 (x : Nat) (hx : x < 4294967296) : rotN x 0 = x := by show x * 1 % 4294967296 + x / 4294967296 = x; omega
theorem rturned_any (x n : Nat) (hx : x < 4294967296) (hn : n ≤ 32) (w : World) :
    Calls Tryd.prog 79 #[.int .i64 x, .int .i64 n] w fun e w' => e = .returned (.int .i64 (rotN x n : Nat)) ∧ w' = w := by
  go_enter Tryd.func79, Tryd.ntmps79
  go_wp2
  go_loop [0, 5] (fun vx vi => ∃ k y : Nat, k ≤ n ∧ vi = .int .i64 k ∧ Hid (y = rotN x k) ∧ vx = .int .i64 y) (fun _ i => n - (intOf i).toNat)
  case atStart => exact ⟨0, x, by omega, rfl, Lib.hid (rotN_0 x hx).symm, rfl⟩
  case round =>
    obtain ⟨k, y, hk, rfl, hy, rfl⟩ := hrel
    have hyl : y < 4294967296 := by rw [hy.out]; exact rotN_lt x k hx (by omega)
    by_cases hl : k < n
    · have hy' : Hid (2 * y % 4294967296 + 2 * y / 4294967296 = rotN x (k + 1)) := Lib.hid (by rw [rotN_step x k hx (by omega), hy.out])
      clear hy
      go_wp2
      go_round
      case rel => exact ⟨k + 1, 2 * y % 4294967296 + 2 * y / 4294967296, by omega, by go_num, hy', by go_num⟩
      case measure => simp [intOf]; omega
    · obtain rfl : n = k := by omega
      go_wp2
      go_ret
      exact ⟨ret_int (by rw [hy.out]), rfl⟩
theorem sum2_any (a b : Nat) (ha : a < 4294967296) (hb : b < 4294967296) (w : World) :
    Calls Tryd.prog 78 #[.int .i64 a, .int .i64 b] w fun e w' => e = .returned (.int .i64 ((a + b) % 4294967296 : Nat)) ∧ w' = w := by
  go_enter Tryd.func78, Tryd.ntmps78
  go_wp2
  go_ret
  exact ⟨ret_int (by first | rfl | omega), rfl⟩
end Go.Proofs.YtlkdofghhibmbaaDoor

/-
  keyholeref04: the contracts of mixed, turn, places.
-/
namespace Go.Proofs.YtlkdofghhibmbaaDoor
open Go.RowKit Go.Kx
set_option maxRecDepth 20000

theorem rmixed_any (x y n z : Nat) (hx : x < 4294967296) (hy : y < 4294967296) (hn : n ≤ 32) (hz : rotN (x ^^^ y) n = z) (w : World) :
    Calls Tryd.prog 85 #[.int .i64 (x : Int), .int .i64 (y : Int), .int .i64 (n : Int)] w fun e w' => e = .returned (.int .i64 (z : Int)) ∧ w' = w := by
  obtain ⟨u, hu⟩ : ∃ u, x ^^^ y = u := ⟨_, rfl⟩
  have hul : u < 4294967296 := by rw [← hu]; exact Nat.xor_lt_two_pow (n := 32) hx hy
  have h1 := unlike_v x y hx hy u hu w
  have h2 := rturned_any u n hul hn w
  rw [← hu, hz] at h2
  rw [hu] at h2
  clear hu hz
  go_enter Tryd.func85, Tryd.ntmps85
  go_wp2_with fail
  refine h1.mono ?_
  rintro e w ⟨rfl, rfl⟩
  go_wp2_with fail
  refine h2.mono ?_
  rintro e w ⟨rfl, rfl⟩
  go_wp2
  go_ret
  exact ⟨rfl, rfl⟩
theorem sum2_v (a b z : Nat) (ha : a < 4294967296) (hb : b < 4294967296) (hz : qS a b = z) (w : World) :
    Calls Tryd.prog 78 #[.int .i64 a, .int .i64 b] w fun e w' => e = .returned (.int .i64 (z : Nat)) ∧ w' = w := by
  subst hz
  exact sum2_any a b ha hb w
theorem rturn_any (A : Option Addr) (c : Nat) (a b c1 d : Nat) (ha : a < 4294967296) (hb : b < 4294967296) (hc : c1 < 4294967296) (hd : d < 4294967296) (t : W4) (ht : turnW a b c1 d = t) (w : World) (hA : Sl w A (ints [a, b, c1, d])) :
    Calls Tryd.prog 81 #[.slice A 4 c] w fun e w' => ∃ g, e = .returned (.slice (some ⟨g, 0, none⟩) 4 4) ∧ w.heap.size ≤ g ∧ Sl w' (some ⟨g, 0, none⟩) (ints [t.a, t.b, t.c, t.d]) ∧ Below w.heap.size w w' := by
  obtain ⟨b0, off, u0, rfl, hu0, hc0⟩ := hA.at_ (k := 0) (by simp [ints])
  obtain ⟨b', off', u1, e1, hu1, hc1⟩ := hA.at_ (k := 1) (by simp [ints])
  obtain ⟨rfl, rfl⟩ : b0 = b' ∧ off = off' := by simpa using e1
  obtain ⟨b', off', u2, e2, hu2, hc2⟩ := hA.at_ (k := 2) (by simp [ints])
  obtain ⟨rfl, rfl⟩ : b0 = b' ∧ off = off' := by simpa using e2
  obtain ⟨b', off', u3, e3, hu3, hc3⟩ := hA.at_ (k := 3) (by simp [ints])
  obtain ⟨rfl, rfl⟩ : b0 = b' ∧ off = off' := by simpa using e3
  obtain rfl : u0 = .int .i64 (a : Int) := by simpa [ints] using hu0.symm
  obtain rfl : u1 = .int .i64 (b : Int) := by simpa [ints] using hu1.symm
  obtain rfl : u2 = .int .i64 (c1 : Int) := by simpa [ints] using hu2.symm
  obtain rfl : u3 = .int .i64 (d : Int) := by simpa [ints] using hu3.symm
  obtain ⟨a1, ea1⟩ : ∃ z, qS a b = z := ⟨_, rfl⟩
  obtain ⟨d1, ed1⟩ : ∃ z, qR a b d 16 = z := ⟨_, rfl⟩
  obtain ⟨k1, ek1⟩ : ∃ z, qS c1 d1 = z := ⟨_, rfl⟩
  obtain ⟨b1, eb1⟩ : ∃ z, qR c1 d1 b 12 = z := ⟨_, rfl⟩
  obtain ⟨a2, ea2⟩ : ∃ z, qS a1 b1 = z := ⟨_, rfl⟩
  obtain ⟨d2, ed2⟩ : ∃ z, qR a1 b1 d1 8 = z := ⟨_, rfl⟩
  obtain ⟨k2, ek2⟩ : ∃ z, qS k1 d2 = z := ⟨_, rfl⟩
  obtain ⟨b2, eb2⟩ : ∃ z, qR k1 d2 b1 7 = z := ⟨_, rfl⟩
  have la1 : a1 < 4294967296 := by rw [← ea1]; exact qS_lt _ _
  have ld1 : d1 < 4294967296 := by rw [← ed1]; exact qR_lt _ _ _ _ hd (by omega)
  have lk1 : k1 < 4294967296 := by rw [← ek1]; exact qS_lt _ _
  have lb1 : b1 < 4294967296 := by rw [← eb1]; exact qR_lt _ _ _ _ hb (by omega)
  have la2 : a2 < 4294967296 := by rw [← ea2]; exact qS_lt _ _
  have ld2 : d2 < 4294967296 := by rw [← ed2]; exact qR_lt _ _ _ _ ld1 (by omega)
  have lk2 : k2 < 4294967296 := by rw [← ek2]; exact qS_lt _ _
  have HT : Hid (t = ⟨a2, b2, k2, d2⟩) := Lib.hid (by
    rw [← ht, turnW]
    simp only [ea1, ed1, ek1, eb1, ea2, ed2, ek2, eb2])
  have s1 := Lib.hid (sum2_v a b a1 ha hb ea1)
  have m1 := Lib.hid (rmixed_any d a1 16 d1 hd la1 (by omega) (by rw [← ed1, ← ea1]; rfl))
  have s2 := Lib.hid (sum2_v c1 d1 k1 hc ld1 ek1)
  have m2 := Lib.hid (rmixed_any b k1 12 b1 hb lk1 (by omega) (by rw [← eb1, ← ek1]; rfl))
  have s3 := Lib.hid (sum2_v a1 b1 a2 la1 lb1 ea2)
  have m3 := Lib.hid (rmixed_any d1 a2 8 d2 ld1 la2 (by omega) (by rw [← ed2, ← ea2]; rfl))
  have s4 := Lib.hid (sum2_v k1 d2 k2 lk1 ld2 ek2)
  have m4 := Lib.hid (rmixed_any b1 k2 7 b2 lb1 lk2 (by omega) (by rw [← eb2, ← ek2]; rfl))
  rw [Nat.add_zero] at hc0
  clear ea1 ed1 ek1 eb1 ea2 ed2 ek2 eb2 ht hA hu0 hu1 hu2 hu3 e1 e2 e3
  go_enter Tryd.func81, Tryd.ntmps81
  go_wp2_with fail
  refine (s1.out _).mono ?_
  rintro e w ⟨rfl, rfl⟩
  go_wp2_with fail
  refine (m1.out _).mono ?_
  rintro e w ⟨rfl, rfl⟩
  go_wp2_with fail
  refine (s2.out _).mono ?_
  rintro e w ⟨rfl, rfl⟩
  go_wp2_with fail
  refine (m2.out _).mono ?_
  rintro e w ⟨rfl, rfl⟩
  go_wp2_with fail
  refine (s3.out _).mono ?_
  rintro e w ⟨rfl, rfl⟩
  go_wp2_with fail
  refine (m3.out _).mono ?_
  rintro e w ⟨rfl, rfl⟩
  go_wp2_with fail
  refine (s4.out _).mono ?_
  rintro e w ⟨rfl, rfl⟩
  go_wp2_with fail
  refine (m4.out _).mono ?_
  rintro e w ⟨rfl, rfl⟩
  go_wp2
  go_ret
  exact ⟨_, rfl, Nat.le_refl _, by rw [HT.out]; exact Sl.new' rfl (by rfl), Below.alloc0 _ _⟩
theorem rplaces_any (w : World) :
    Calls Tryd.prog 80 #[] w fun e w' => ∃ P, e = .returned (.slice (some ⟨P, 0, none⟩) 8 8) ∧ w.heap.size ≤ P ∧ (∀ k, k < 8 → ∃ g, w.heap.size ≤ g ∧ w'.cell? ⟨P, k, none⟩ = some (.slice (some ⟨g, 0, none⟩) 4 4) ∧ ∀ m, m < 4 → w'.cell? ⟨g, m, none⟩ = some (.int .i64 (placeAt k m : Int))) ∧ Below w.heap.size w w' := by
  go_enter Tryd.func80, Tryd.ntmps80
  go_wp2
  go_ret
  refine ⟨_, rfl, by omega, ?_, ?_⟩
  · intro k hk
    rcases (by omega : k = 0 ∨ k = 1 ∨ k = 2 ∨ k = 3 ∨ k = 4 ∨ k = 5 ∨ k = 6 ∨ k = 7) with rfl | rfl | rfl | rfl | rfl | rfl | rfl | rfl
    all_goals
      refine ⟨_, ?_, (by go_simp; rfl), ?_⟩
      · omega
      · intro m hm
        rcases (by omega : m = 0 ∨ m = 1 ∨ m = 2 ∨ m = 3) with rfl | rfl | rfl | rfl
        all_goals (go_simp; rfl)
  · refine ((((((((((Below.alloc0 w _).al _).al _).al _).al _).al _).al _).al _)).al _)
end Go.Proofs.YtlkdofghhibmbaaDoor

/-
  keyholeref01.Is, All, keyholeref02.three, back, fall, add: contracts.
-/
namespace Go.Proofs.YtlkdofghhibmbaaDoor
open Go.RowKit Go.Kx
set_option maxRecDepth 20000

theorem ris_any (x : Int) (w : World) : Calls Tryd.prog 75 #[.int .i64 x] w fun e w' => e = .returned (.bool (okW x)) ∧ w' = w := by
  by_cases h0 : x < 0
  · have e := Lib.hid (okW_lo h0)
    go_enter Tryd.func75, Tryd.ntmps75
    go_wp2
    go_ret
    exact ⟨ret_bool (by first | (rw [e.out]; done) | (rw [e.out]; simp; omega)), rfl⟩
  · by_cases h1 : 4294967295 < x
    · have e := Lib.hid (okW_hi h1)
      go_enter Tryd.func75, Tryd.ntmps75
      go_wp2
      go_ret
      exact ⟨ret_bool (by first | (rw [e.out]; done) | (rw [e.out]; simp; omega)), rfl⟩
    · have e := Lib.hid (okW_t (x := x) (by omega) (by omega))
      go_enter Tryd.func75, Tryd.ntmps75
      go_wp2
      go_ret
      exact ⟨ret_bool (by first | (rw [e.out]; done) | (rw [e.out]; simp; omega)), rfl⟩
theorem rall_any (A : Option Addr) (c : Nat) (xs : List Int) (w : World) (hm : xs.length ≤ 9223372036854775807) (hs : Sl w A (xs.map (.int .i64))) :
    Calls Tryd.prog 60 #[.slice A xs.length c] w fun e w' => e = .returned (.bool (xs.all okW)) ∧ w = w' := by
  go_enter Tryd.func60, Tryd.ntmps60
  go_wp2
  go_loop [3] (fun i => ∃ k : Nat, k ≤ xs.length ∧ i = .int .i64 k ∧ (xs.take k).all okW = true) (fun i => xs.length - (intOf i).toNat)
  case atStart => exact ⟨0, Nat.zero_le _, rfl, rfl⟩
  case round =>
    obtain ⟨k, hk, rfl, ha⟩ := hrel
    by_cases hlt : k < xs.length
    · obtain ⟨b, off, u, rfl, hu, hcell⟩ := hs.at_ (k := k) (by simpa using hlt)
      obtain ⟨x, hx, rfl⟩ : ∃ x, xs[k]? = some x ∧ .int .i64 x = u := by simpa using hu
      have HB := Lib.hid (@all_bad xs k x hx)
      have HG := Lib.hid (all_snoc hx ha)
      clear ha hs hx hu
      by_cases h0 : okW x = true
      · go_wp2_with (go_at_call 75; refine (ris_any x _).mono ?_; rintro e w' ⟨rfl, rfl⟩; rw [h0])
        go_round
        case rel => exact ⟨k + 1, by omega, by go_num, HG.out h0⟩
        case measure => simp [intOf]; omega
      · have h1 : okW x = false := by simpa using h0
        go_wp2_with (go_at_call 75; refine (ris_any x _).mono ?_; rintro e w' ⟨rfl, rfl⟩; rw [h1])
        go_ret
        exact ⟨ret_bool (HB.out h1).symm, rfl⟩
    · go_wp2
      go_ret
      exact ⟨ret_bool (by rw [List.take_of_length_le (by omega)] at ha; exact ha.symm), rfl⟩
theorem three_any (a b c : Nat) (ha : a < 4294967296) (hb : b < 4294967296) (hc : c < 4294967296) (w : World) :
    Calls Tryd.prog 65 #[.int .i64 a, .int .i64 b, .int .i64 c] w fun e w' => e = .returned (.int .i64 ((a ^^^ b) ^^^ c : Nat)) ∧ w' = w := by
  go_enter Tryd.func65, Tryd.ntmps65
  go_wp2_with fail
  refine (unlike_any a b ha hb _).mono ?_
  rintro e w' ⟨rfl, rfl⟩
  have hab := xor_lt ha hb
  generalize hy : a ^^^ b = y at *
  have HY := Lib.hid hy
  clear hy
  go_wp2_with fail
  refine (unlike_any y c hab hc _).mono ?_
  rintro e w' ⟨rfl, rfl⟩
  go_wp2
  go_ret
  exact ⟨ret_int (by rw [HY.out]), rfl⟩
theorem rback_any (x n : Nat) (m : Int) (hm : m = (n : Int)) (hx : x < 4294967296) (hn : n ≤ 32) (w : World) :
    Calls Tryd.prog 67 #[.int .i64 x, .int .i64 m] w fun e w' => e = .returned (.int .i64 (bk x n : Nat)) ∧ w' = w := by
  subst hm
  have e32 : (32 : Int) - (n : Int) = ((32 - n : Nat) : Int) := by omega
  have HB := Lib.hid (show bk x n = rotN x (32 - n) from rfl)
  have hl : 32 - n ≤ 32 := by omega
  go_enter Tryd.func67, Tryd.ntmps67
  go_wp2_with fail
  refine (rturned_any x (32 - n) hx hl _).mono ?_
  rintro e w' ⟨rfl, rfl⟩
  go_wp2
  go_ret
  exact ⟨ret_int (by rw [HB.out]), rfl⟩
theorem fall_any (x n : Nat) (m : Int) (hm : m = (n : Int)) (hx : x < 4294967296) (hn : n ≤ 32) (w : World) :
    Calls Tryd.prog 77 #[.int .i64 x, .int .i64 m] w fun e w' => e = .returned (.int .i64 (x / 2 ^ n : Nat)) ∧ w' = w := by
  subst hm
  go_enter Tryd.func77, Tryd.ntmps77
  go_wp2
  go_loop [0, 5] (fun vx vi => ∃ k y : Nat, k ≤ n ∧ vi = .int .i64 k ∧ Hid (y = x / 2 ^ k) ∧ vx = .int .i64 y) (fun _ i => n - (intOf i).toNat)
  case atStart => exact ⟨0, x, by omega, rfl, Lib.hid (by simp), rfl⟩
  case round =>
    obtain ⟨k, y, hk, rfl, hy, rfl⟩ := hrel
    have hyl : y < 4294967296 := by rw [hy.out]; exact Nat.lt_of_le_of_lt (Nat.div_le_self _ _) hx
    by_cases hl : k < n
    · have hy' : Hid (y / 2 = x / 2 ^ (k + 1)) := Lib.hid (by rw [hy.out, div_up])
      clear hy
      go_wp2
      go_round
      case rel => exact ⟨k + 1, y / 2, by omega, by go_num, hy', by go_num⟩
      case measure => simp [intOf]; omega
    · obtain rfl : n = k := by omega
      go_wp2
      go_ret
      exact ⟨ret_int (by rw [hy.out, Int.natCast_ediv, Int.natCast_pow]; rfl), rfl⟩
theorem radd_any (A : Option Addr) (c : Nat) (xs : List Nat) (w : World) (hm : xs.length ≤ 9223372036854775807) (hx : ∀ x ∈ xs, x < 4294967296) (hs : Sl w A (ints xs)) :
    Calls Tryd.prog 66 #[.slice A xs.length c] w fun e w' => e = .returned (.int .i64 (addL xs : Nat)) ∧ w' = w := by
  go_enter Tryd.func66, Tryd.ntmps66
  go_wp2
  go_loop [3, 4] (fun vn vi => ∃ k n : Nat, k ≤ xs.length ∧ vi = .int .i64 k ∧ Hid (n = addL (xs.take k)) ∧ n < 4294967296 ∧ vn = .int .i64 n) (fun _ i => xs.length - (intOf i).toNat)
  case atStart => exact ⟨0, 0, Nat.zero_le _, rfl, Lib.hid rfl, by omega, rfl⟩
  case round =>
    obtain ⟨k, n, hk, rfl, hn, hnl, rfl⟩ := hrel
    by_cases hlt : k < xs.length
    · obtain ⟨b, off, u, rfl, hu, hcell⟩ := hs.at_ (k := k) (by simpa [ints] using hlt)
      obtain ⟨x, hxk, rfl⟩ : ∃ x, xs[k]? = some x ∧ .int .i64 (x : Int) = u := by simpa [ints] using hu
      have hxl : x < 4294967296 := hx x (List.mem_of_getElem? hxk)
      have HN := Lib.hid (show (n + x) % 4294967296 = addL (xs.take (k + 1)) by rw [List.take_add_one, hxk, Option.toList_some, addL_snoc, hn.out])
      clear hs hu hxk hn
      go_wp2_with fail
      refine (sum2_any n x hnl hxl _).mono ?_
      rintro e w' ⟨rfl, rfl⟩
      have hl2 : (n + x) % 4294967296 < 4294967296 := Nat.mod_lt _ (by omega)
      generalize (n + x) % 4294967296 = y at *
      go_wp2
      go_round
      case rel => exact ⟨k + 1, y, by omega, by go_num, HN, hl2, rfl⟩
      case measure => simp [intOf]; omega
    · go_wp2
      go_ret
      exact ⟨ret_int (by rw [hn.out, List.take_of_length_le (by omega)]), rfl⟩
end Go.Proofs.YtlkdofghhibmbaaDoor

/-
  keyholeref01.word, Cut: contracts.
-/
namespace Go.Proofs.YtlkdofghhibmbaaDoor
open Go.RowKit Go.Kx
set_option maxRecDepth 20000

def bAt (s : ByteArray) (j : Nat) : Nat := (s.data.toList.getD j 0).toNat
def rwd (s : ByteArray) (at_ : Nat) (h : Bool) : Nat → Nat
  | 0 => 0
  | i + 1 => 256 * rwd s at_ h i + bAt s (if h then at_ + i else at_ + 3 - i)
theorem bAt_lt (s : ByteArray) (j : Nat) : bAt s j < 256 := UInt8.toNat_lt _
theorem bAt_at (s : ByteArray) (k : Nat) (h : k < s.size) : bAt s k = s[k].toNat := by
  unfold bAt
  rw [List.getD_eq_getElem?_getD, List.getElem?_eq_getElem (by simpa using h)]; rfl
theorem rwd_lt (s : ByteArray) (a : Nat) (h : Bool) (i : Nat) (hi : i ≤ 4) : rwd s a h i < 4294967296 := by
  have e : ∀ i, rwd s a h i < 256 ^ i := by
    intro i
    induction i with
    | zero => simp [rwd]
    | succ i ih => rw [rwd, Nat.pow_succ]; have := bAt_lt s (if h then a + i else a + 3 - i); omega
  exact Nat.lt_of_lt_of_le (e i) (Nat.pow_le_pow_right (n := 256) (by omega) hi)
theorem rwd_cut (s : ByteArray) (j : Nat) (h : Bool) (hj : 4 * j + 4 ≤ s.size) : rwd s (4 * j) h 4 = cutRow h s s.size j := by
  have e : ∀ i, i < s.size → byteAt s s.size i = bAt s i := fun i hi => by unfold byteAt bAt; rw [if_pos hi]
  unfold cutRow
  rw [e _ (by omega), e _ (by omega), e _ (by omega), e _ (by omega)]
  cases h
  · show 256 * (256 * (256 * (256 * 0 + bAt s (4 * j + 3 - 0)) + bAt s (4 * j + 3 - 1)) + bAt s (4 * j + 3 - 2)) + bAt s (4 * j + 3 - 3) = wd false (bAt s (4 * j)) (bAt s (4 * j + 1)) (bAt s (4 * j + 2)) (bAt s (4 * j + 3))
    simp only [Nat.add_sub_cancel, Nat.sub_zero, show 4 * j + 3 - 1 = 4 * j + 2 by omega, show 4 * j + 3 - 2 = 4 * j + 1 by omega]
    show _ = bAt s (4 * j + 3) * 16777216 + bAt s (4 * j + 2) * 65536 + bAt s (4 * j + 1) * 256 + bAt s (4 * j)
    omega
  · show 256 * (256 * (256 * (256 * 0 + bAt s (4 * j + 0)) + bAt s (4 * j + 1)) + bAt s (4 * j + 2)) + bAt s (4 * j + 3) = wd true (bAt s (4 * j)) (bAt s (4 * j + 1)) (bAt s (4 * j + 2)) (bAt s (4 * j + 3))
    simp only [Nat.add_zero]
    show _ = bAt s (4 * j) * 16777216 + bAt s (4 * j + 1) * 65536 + bAt s (4 * j + 2) * 256 + bAt s (4 * j + 3)
    omega
theorem rword_any (s : ByteArray) (a : Nat) (h : Bool) (w : World) (hs : s.size ≤ 1000000) (ha : a + 4 ≤ s.size) :
    Calls Tryd.prog 84 #[.string s, .int .i64 a, .bool h] w fun e w' => e = .returned (.int .i64 (rwd s a h 4 : Nat)) ∧ w' = w := by
  go_enter Tryd.func84, Tryd.ntmps84
  go_wp2
  go_loop [7, 8, 9] (fun vn vi _ => ∃ k n : Nat, k ≤ 4 ∧ vi = .int .i64 k ∧ Hid (n = rwd s a h k) ∧ n < 256 ^ k ∧ vn = .int .i64 n) (fun _ i _ => 4 - (intOf i).toNat)
  case atStart => exact ⟨0, 0, by omega, rfl, Lib.hid rfl, by simp, rfl⟩
  case round =>
    obtain ⟨k, n, hk, rfl, hn, hnl, rfl⟩ := hrel
    by_cases hlt : k < 4
    · have hnl2 : n < 16777216 := Nat.lt_of_lt_of_le hnl (show 256 ^ k ≤ 256 ^ 3 from Nat.pow_le_pow_right (by omega) (by omega))
      have hnl3 : ∀ b, b < 256 → 256 * n + b < 256 ^ (k + 1) := fun b hb => by rw [Nat.pow_succ]; omega
      have HNL := Lib.hid hnl3
      clear hnl hnl3
      cases h
      · have hp : (a : Int) + 3 - (k : Int) = ((a + 3 - k : Nat) : Int) := by omega
        have hj : a + 3 - k < s.size := by omega
        have HN := Lib.hid (show 256 * n + s[a + 3 - k].toNat = rwd s a false (k + 1) by rw [rwd, hn.out, ← bAt_at s _ hj]; rfl)
        have hb : s[a + 3 - k].toNat < 256 := UInt8.toNat_lt _
        have hbw : IntKind.i64.wrap ((s[a + 3 - k].toNat : Nat) : Int) = ((s[a + 3 - k].toNat : Nat) : Int) := IntWalk.i64_in _ (by omega)
        have hp0 : IntKind.i64.wrap ((a : Int) + 3 - (k : Int)) = (a : Int) + 3 - (k : Int) := IntWalk.i64_in _ (by omega)
        clear hn
        generalize a + 3 - k = j at *
        go_wp2
        go_round
        case rel => exact ⟨k + 1, 256 * n + s[j].toNat, by omega, by go_num, HN, HNL.out _ hb, by go_num⟩
        case measure => simp [intOf]; omega
      · have ht : ((a : Int) + (k : Int)).toNat = a + k := by omega
        have hj : a + k < s.size := by omega
        have HN := Lib.hid (show 256 * n + s[a + k].toNat = rwd s a true (k + 1) by rw [rwd, hn.out, ← bAt_at s _ hj]; rfl)
        have hb : s[a + k].toNat < 256 := UInt8.toNat_lt _
        have hbw : IntKind.i64.wrap ((s[a + k].toNat : Nat) : Int) = ((s[a + k].toNat : Nat) : Int) := IntWalk.i64_in _ (by omega)
        clear hn
        go_wp2
        go_round
        case rel => exact ⟨k + 1, 256 * n + s[a + k].toNat, by omega, by go_num, HN, HNL.out _ hb, by go_num⟩
        case measure => simp [intOf]; omega
    · obtain rfl : k = 4 := by omega
      go_wp2
      go_ret
      exact ⟨ret_int (by rw [hn.out]), rfl⟩
end Go.Proofs.YtlkdofghhibmbaaDoor

/-
  keyholeref01.Cut: the contract.
-/
namespace Go.Proofs.YtlkdofghhibmbaaDoor
open Go.RowKit Go.Kx
set_option maxRecDepth 20000

theorem ints_snoc (xs : List Nat) (x : Nat) : ints xs ++ [Value.int .i64 (x : Int)] = ints (xs ++ [x]) := by simp [ints]
theorem rtake_snoc {xs : List Nat} {k x : Nat} (h : xs[k]? = some x) : xs.take k ++ [x] = xs.take (k + 1) := by rw [List.take_add_one, h]; rfl
set_option maxHeartbeats 1000000 in
theorem rcut_any (s : ByteArray) (h : Bool) (w : World) (hs : s.size ≤ 1000000) (h4 : s.size % 4 = 0) :
    Calls Tryd.prog 76 #[.string s, .bool h] w fun e w' => ∃ v, e = .returned (.tuple #[v, .bool true]) ∧ w'.ownsRow w.heap.size 3 1 v (cutL h s).length (ints (cutL h s)) ∧ Below w.heap.size w w' := by
  obtain ⟨i0, hi, hz0, hz1, hz2⟩ := info_parts int_info
  have he : ((s.size : Int) % 4 != 0) = false := by simp; omega
  have HL := Lib.hid (cutL_length h s)
  have HC : Hid (∀ j, j < s.size / 4 → (cutL h s)[j]? = some (rwd s (4 * j) h 4)) := Lib.hid (fun j hj => by rw [rwd_cut s j h (by omega)]; simp [cutL, hj])
  have H4 := Lib.hid h4
  generalize cutL h s = xs at *
  go_enter Tryd.func76, Tryd.ntmps76
  go_wp2
  go_loopw [6, 7] (fun v i wr => ∃ k m : Nat, Hid (m = 4 * k) ∧ m ≤ s.size ∧ i = .int .i64 m ∧ wr.ownsRow w.heap.size 3 1 v k (ints (xs.take k)) ∧ Below w.heap.size w wr) (fun _ i _ => s.size - (intOf i).toNat)
  case atStart => exact ⟨0, 0, Lib.hid rfl, by omega, rfl, World.ownsRow_nil _ _ _ _, Below.refl _ _⟩
  case round =>
    obtain ⟨k, m, hm, hk, rfl, hown, hb⟩ := hrel
    clear h4 he
    by_cases hlt : m < s.size
    · have h4' : m + 4 ≤ s.size := by have h1 := hm.out; have h2 := H4.out; omega
      go_wp2_with fail
      refine (rword_any s m h _ hs h4').mono ?_
      rintro e w' ⟨rfl, rfl⟩
      have hxl := rwd_lt s m h 4 (by omega)
      have HX : Hid (xs[k]? = some (rwd s m h 4)) := Lib.hid (by rw [hm.out]; exact HC.out k (by have := hm.out; omega))
      generalize rwd s m h 4 = x at *
      go_wp2_with (first
        | (at_builtin; refine wpList_append_own _ rfl _ _ 71 rfl w.heap.size 3 i0 (.int .i64 0) 1 8 Tryd.underlying71 hi hz0 hz1 hz2 rfl (by decide) _ _ _ rfl (hown.alloc _) ⟨w'.heap.size, 0, none⟩ 1 1 [.int .i64 (x : Int)] rfl rfl ?c1 ?c2 ?c3 ?c4 ?c5 ?_)
        | go_in)
      case c1 =>
        intro j u hj
        match j, hj with
        | 0, hj => simp at hj; subst hj; simp [Addr.add]
      case c2 => intro u hu; simp at hu; subst hu; rfl
      case c3 => have h1 := hm.out; unfold maxLen; omega
      case c4 => have h1 := hm.out; omega
      case c5 => have h1 := hb.size; simp; omega
      · intro v' w1 hown' hgrow _
        have hb1 := own_below (hown.alloc _) (hb.al _) hgrow
        rw [ints_snoc, rtake_snoc HX.out] at hown'
        clear hown hgrow hb
        go_wp2
        go_roundw
        case rel => exact ⟨k + 1, m + 4, Lib.hid (by have h1 := hm.out; omega), by omega, by go_num, hown', hb1⟩
        case measure => simp [intOf]; omega
    · go_wp2
      go_ret2
      have hk2 : k = xs.length := by have h1 := hm.out; have h2 := HL.out; have h3 := H4.out; omega
      exact ⟨_, rfl, by subst hk2; simpa using hown, hb⟩
end Go.Proofs.YtlkdofghhibmbaaDoor

/-
  keyholeref02.words, keyholeref01.Told, Join: the contracts.
-/
namespace Go.Proofs.YtlkdofghhibmbaaDoor
open Go.RowKit Go.Kx
set_option maxRecDepth 20000

theorem rwords_any (w : World) :
    Calls Tryd.prog 62 #[] w fun e w' => ∃ b, e = .returned (.slice (some ⟨b, 0, none⟩) 64 64) ∧ Sl w' (some ⟨b, 0, none⟩) (ints shaK) ∧ Below w.heap.size w w' := by
  go_enter Tryd.func62, Tryd.ntmps62
  go_wp2
  go_ret
  exact ⟨_, rfl, Sl.new' rfl (by rfl), Below.alloc0 _ _⟩
theorem told4 (W : World) (a b c d : Nat) (ha : a < 256) (hb : b < 256) (hc : c < 256) (hd : d < 256) :
    (convert 72 9 (.slice (some ⟨W.heap.size, 0, none⟩) 4 4)).run Tryd.prog (W.alloc (.cells #[.int .u8 (a : Int), .int .u8 (b : Int), .int .u8 (c : Int), .int .u8 (d : Int)] 5)) =
      .ok (.string ⟨#[UInt8.ofNat a, UInt8.ofNat b, UInt8.ofNat c, UInt8.ofNat d]⟩) (W.alloc (.cells #[.int .u8 (a : Int), .int .u8 (b : Int), .int .u8 (c : Int), .int .u8 (d : Int)] 5)) := by
  refine run_convert_bytes_back (P := Tryd.prog) _ 72 9 5 ⟨W.heap.size, 0, none⟩ 4 [UInt8.ofNat a, UInt8.ofNat b, UInt8.ofNat c, UInt8.ofNat d] Tryd.underlying72 Tryd.underlying5 Tryd.underlying9 (fun j hj => ?_)
  have h := cell_of_row (W.alloc (.cells #[.int .u8 (a : Int), .int .u8 (b : Int), .int .u8 (c : Int), .int .u8 (d : Int)] 5)) W.heap.size j _ 5 (0, 0) (heap_alloc_new W _)
  rw [show (⟨W.heap.size, 0, none⟩ : Addr).add j = ⟨W.heap.size, j, none⟩ by unfold Addr.add; split <;> simp_all, h]
  have hj' : j < 4 := hj
  rcases (by omega : j = 0 ∨ j = 1 ∨ j = 2 ∨ j = 3) with rfl | rfl | rfl | rfl <;> simp [UInt8.toNat_ofNat'] <;> omega
theorem told_list (x : Nat) (h : Bool) : joinL h [x] = [UInt8.ofNat (x / 2 ^ shN h 0), UInt8.ofNat (x / 2 ^ shN h 1), UInt8.ofNat (x / 2 ^ shN h 2), UInt8.ofNat (x / 2 ^ shN h 3)] := rfl
theorem u8_of (x y : Nat) (h : x % 256 = y % 256) : UInt8.ofNat x = UInt8.ofNat y := by
  apply UInt8.toNat.inj
  simpa [UInt8.toNat_ofNat'] using h
theorem rtold_any (x : Nat) (h : Bool) (hx : x < 4294967296) (w : World) :
    Calls Tryd.prog 68 #[.int .i64 x, .bool h] w fun e w' => e = .returned (.string ⟨(joinL h [x]).toArray⟩) ∧ Below w.heap.size w w' := by
  obtain ⟨a, ha⟩ : ∃ a, a = x / 16777216 := ⟨_, rfl⟩
  obtain ⟨b, hb⟩ : ∃ b, b = x / 65536 % 256 := ⟨_, rfl⟩
  obtain ⟨c, hc⟩ : ∃ c, c = x / 256 % 256 := ⟨_, rfl⟩
  obtain ⟨d, hd⟩ : ∃ d, d = x % 256 := ⟨_, rfl⟩
  have la : a < 256 := by omega
  have lb : b < 256 := by omega
  have lc : c < 256 := by omega
  have ld : d < 256 := by omega
  have ea : (x : Int) / 16777216 = (a : Int) := by omega
  have eb : (x : Int) / 65536 % 256 = (b : Int) := by omega
  have ec : (x : Int) / 256 % 256 = (c : Int) := by omega
  have ed : (x : Int) % 256 = (d : Int) := by omega
  have hh := told4 w a b c d la lb lc ld
  have hl := told4 w d c b a ld lc lb la
  have HT : Hid (joinL true [x] = [UInt8.ofNat a, UInt8.ofNat b, UInt8.ofNat c, UInt8.ofNat d]) := Lib.hid (by
    rw [told_list, u8_of (x / 2 ^ shN true 0) a (by show x / 16777216 % 256 = _; omega), u8_of (x / 2 ^ shN true 1) b (by show x / 65536 % 256 = _; omega), u8_of (x / 2 ^ shN true 2) c (by show x / 256 % 256 = _; omega), u8_of (x / 2 ^ shN true 3) d (by show x / 1 % 256 = _; omega)])
  have HF : Hid (joinL false [x] = [UInt8.ofNat d, UInt8.ofNat c, UInt8.ofNat b, UInt8.ofNat a]) := Lib.hid (by
    rw [told_list, u8_of (x / 2 ^ shN false 3) a (by show x / 16777216 % 256 = _; omega), u8_of (x / 2 ^ shN false 2) b (by show x / 65536 % 256 = _; omega), u8_of (x / 2 ^ shN false 1) c (by show x / 256 % 256 = _; omega), u8_of (x / 2 ^ shN false 0) d (by show x / 1 % 256 = _; omega)])
  clear ha hb hc hd
  cases h
  · rw [HF.out]
    clear HT HF hh
    go_enter Tryd.func68, Tryd.ntmps68
    go_wp2
    go_ret
    exact ⟨rfl, Below.alloc0 _ _⟩
  · rw [HT.out]
    clear HT HF hl
    go_enter Tryd.func68, Tryd.ntmps68
    go_wp2
    go_ret
    exact ⟨rfl, Below.alloc0 _ _⟩
theorem joinL_snoc (h : Bool) (xs : List Nat) (x : Nat) : joinL h (xs ++ [x]) = joinL h xs ++ joinL h [x] := by
  unfold joinL
  rw [List.length_append, show 4 * (xs.length + [x].length) = 4 * xs.length + 4 by simp; omega, List.range_add, List.map_append, List.map_map]
  congr 1
  · refine List.map_congr_left fun i hi => ?_
    rw [getD_app _ _ _ (by have := List.mem_range.1 hi; omega)]
  · refine List.map_congr_left fun i hi => ?_
    have hi4 : i < 4 := by simpa using hi
    show UInt8.ofNat ((xs ++ [x]).getD ((4 * xs.length + i) / 4) 0 / 2 ^ shN h ((4 * xs.length + i) % 4)) = _
    rw [show (4 * xs.length + i) / 4 = xs.length by omega, show (4 * xs.length + i) % 4 = i % 4 by omega, show i / 4 = 0 by omega]
    simp [List.getD_eq_getElem?_getD]
theorem rall_nats (A : Option Addr) (c : Nat) (xs : List Nat) (w : World) (hm : xs.length ≤ 9223372036854775807) (hs : Sl w A (ints xs)) (hok : ∀ x ∈ xs, x < 4294967296) :
    Calls Tryd.prog 60 #[.slice A xs.length c] w fun e w' => e = .returned (.bool true) ∧ w = w' := by
  have h := rall_any A c (xs.map (fun x : Nat => (x : Int))) w (by simpa using hm) (by rw [ints_map]; exact hs)
  rw [all_ok xs hok] at h
  simpa using h
theorem rjoin_any (A : Option Addr) (c : Nat) (xs : List Nat) (h : Bool) (w : World) (hm : xs.length ≤ 100000) (hs : Sl w A (ints xs)) (hok : ∀ x ∈ xs, x < 4294967296) :
    Calls Tryd.prog 44 #[.slice A xs.length c, .bool h] w fun e w' => e = .returned (.tuple #[.string ⟨(joinL h xs).toArray⟩, .bool true]) ∧ Below w.heap.size w w' := by
  have HOK := Lib.hid hok
  clear hok
  go_enter Tryd.func44, Tryd.ntmps44
  go_wp2_with (go_at_call 60; refine (rall_nats A c xs _ (by omega) hs HOK.out).mono ?_; rintro e w' ⟨rfl, rfl⟩)
  go_loopw [6, 7] (fun v i wr => ∃ (k : Nat) (o : List UInt8), k ≤ xs.length ∧ i = .int .i64 k ∧ Hid (o = joinL h (xs.take k)) ∧ Hid (o.length ≤ 400000) ∧ v = .string ⟨o.toArray⟩ ∧ Below w.heap.size w wr) (fun _ i _ => xs.length - (intOf i).toNat)
  case atStart => exact ⟨0, [], Nat.zero_le _, rfl, Lib.hid rfl, Lib.hid (by simp), rfl, Below.refl _ _⟩
  case round =>
    obtain ⟨k, o, hk, rfl, ho, hol, rfl, hb⟩ := hrel
    by_cases hlt : k < xs.length
    · obtain ⟨b, off, u, rfl, hu, hcell⟩ := (hs.keep hb).at_ (k := k) (by simpa [ints] using hlt)
      obtain ⟨x, hx, rfl⟩ : ∃ x, xs[k]? = some x ∧ .int .i64 (x : Int) = u := by simpa [ints] using hu
      have hxl : x < 4294967296 := HOK.out x (List.mem_of_getElem? hx)
      have HS := Lib.hid (show o ++ joinL h [x] = joinL h (xs.take (k + 1)) by rw [ho.out, ← joinL_snoc, rtake_snoc hx])
      have HN : Hid ((o ++ joinL h [x]).length ≤ 400000) := Lib.hid (by rw [HS.out, joinL_length]; simp; omega)
      have hA : ∀ W : World, (Op.stringOp .add ⟨o.toArray⟩ ⟨(joinL h [x]).toArray⟩).run Tryd.prog W = .ok (.string ⟨(o ++ joinL h [x]).toArray⟩) W := fun W => str_add o _ (by have := HN.out; rw [List.length_append] at this; omega) W
      clear hs hu hx ho hol
      go_wp2_with fail
      refine (rtold_any x h hxl _).mono ?_
      rintro e w1 ⟨rfl, hb1⟩
      have hb2 := hb.next' hb1
      clear hb hb1 hcell
      generalize hq : o ++ joinL h [x] = q at *
      generalize hq1 : joinL h [x] = q1 at *
      clear hq hq1
      go_wp2
      go_roundw
      case rel => exact ⟨k + 1, q, by omega, by go_num, HS, HN, rfl, hb2⟩
      case measure => simp [intOf]; omega
    · go_wp2
      go_ret2
      exact ⟨by rw [ho.out, List.take_of_length_le (by omega)]; rfl, hb⟩
end Go.Proofs.YtlkdofghhibmbaaDoor
