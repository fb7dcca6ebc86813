/-
  digest: the contract of Step.
-/
import Derived.Test.YtlkdofghhibmbaaDoorDig2
import Derived.Deep.RegionHeld3
import Derived.Deep.DeepCutAuto
import Derived.Deep.CutBlock
namespace Go.Proofs.YtlkdofghhibmbaaDoor
open Go.RowKit Go.Kx
set_option maxRecDepth 20000

def i64s (s : St) : Array Value := #[.int .i64 s.a, .int .i64 s.b, .int .i64 s.c, .int .i64 s.d, .int .i64 s.e, .int .i64 s.f, .int .i64 s.g, .int .i64 s.h]
theorem row8 {w : World} {g : Nat} {t : TypeId} {z : Value} (h : w.rowIs g t 8 (fun _ => z)) : w.cell? ⟨g, 0, none⟩ = some z ∧ w.cell? ⟨g, 1, none⟩ = some z ∧ w.cell? ⟨g, 2, none⟩ = some z ∧ w.cell? ⟨g, 3, none⟩ = some z ∧
    w.cell? ⟨g, 4, none⟩ = some z ∧ w.cell? ⟨g, 5, none⟩ = some z ∧ w.cell? ⟨g, 6, none⟩ = some z ∧ w.cell? ⟨g, 7, none⟩ = some z ∧ ∀ o, w.frozen? ⟨g, o, none⟩ = false :=
  ⟨h.cell (by omega), h.cell (by omega), h.cell (by omega), h.cell (by omega), h.cell (by omega), h.cell (by omega), h.cell (by omega), h.cell (by omega), h.frozen⟩
theorem row8_zero {w : World} {t : TypeId} {z : Value} : (w.alloc (.cells #[z, z, z, z, z, z, z, z] t)).rowIs w.heap.size t 8 (fun _ => z) := rowIs_new rfl
theorem row8_new {w : World} {t : TypeId} (m : St) : (w.alloc (.cells #[.int .u32 m.a, .int .u32 m.b, .int .u32 m.c, .int .u32 m.d, .int .u32 m.e, .int .u32 m.f, .int .u32 m.g, .int .u32 m.h] t)).rowIs w.heap.size t 8 (fun j => .int .u32 (m.at j : Nat)) :=
  World.rowIs_alloc w (rowA .u32 8 m.at) t (fun j => .int .u32 (m.at j : Nat)) (fun j hj => rowA_at .u32 8 m.at j (by simpa [rowA_size] using hj))
theorem at8 (m : St) (j : Nat) (hj : j < 8) : (if j = 7 then Value.int .u32 m.h else if j = 6 then Value.int .u32 m.g else if j = 5 then Value.int .u32 m.f else if j = 4 then Value.int .u32 m.e else if j = 3 then Value.int .u32 m.d else if j = 2 then Value.int .u32 m.c else
    if j = 1 then Value.int .u32 m.b else Value.int .u32 m.a) = Value.int .u32 (m.at j : Nat) := by
  rcases (by omega : j = 0 ∨ j = 1 ∨ j = 2 ∨ j = 3 ∨ j = 4 ∨ j = 5 ∨ j = 6 ∨ j = 7) with rfl | rfl | rfl | rfl | rfl | rfl | rfl | rfl <;> rfl
theorem row8_set {w : World} {g : Nat} {t : TypeId} {f : Nat → Value} (h : w.rowIs g t 8 f) (m : St) :
    ((((((((w.setCell ⟨g, 0, none⟩ (.int .u32 m.a)).setCell ⟨g, 1, none⟩ (.int .u32 m.b)).setCell ⟨g, 2, none⟩ (.int .u32 m.c)).setCell ⟨g, 3, none⟩ (.int .u32 m.d)).setCell ⟨g, 4, none⟩ (.int .u32 m.e)).setCell ⟨g, 5, none⟩ (.int .u32 m.f)).setCell ⟨g, 6, none⟩ (.int .u32 m.g)).setCell ⟨g, 7, none⟩ (.int .u32 m.h)).rowIs g t 8 (fun j => .int .u32 (m.at j : Nat)) := by
  refine ((((((((h.set 0 _).set 1 _).set 2 _).set 3 _).set 4 _).set 5 _).set 6 _).set 7 _).congr fun j hj => ?_
  rw [← at8 m j hj]
  rcases (by omega : j = 0 ∨ j = 1 ∨ j = 2 ∨ j = 3 ∨ j = 4 ∨ j = 5 ∨ j = 6 ∨ j = 7) with rfl | rfl | rfl | rfl | rfl | rfl | rfl | rfl <;> rfl
theorem below8_set {B : Nat} {w0 w : World} {g : Nat} (h : Below B w0 w) (hg : B ≤ g) (v0 v1 v2 v3 v4 v5 v6 v7 : Value) :
    Below B w0 ((((((((w.setCell ⟨g, 0, none⟩ v0).setCell ⟨g, 1, none⟩ v1).setCell ⟨g, 2, none⟩ v2).setCell ⟨g, 3, none⟩ v3).setCell ⟨g, 4, none⟩ v4).setCell ⟨g, 5, none⟩ v5).setCell ⟨g, 6, none⟩ v6).setCell ⟨g, 7, none⟩ v7) :=
  (((((((h.setCell hg _).setCell hg _).setCell hg _).setCell hg _).setCell hg _).setCell hg _).setCell hg _).setCell hg _
theorem add_at (s m : St) (k : Nat) (h : k < 8) : (s.add m).at k = (s.at k + m.at k) % 4294967296 := by
  rcases (by omega : k = 0 ∨ k = 1 ∨ k = 2 ∨ k = 3 ∨ k = 4 ∨ k = 5 ∨ k = 6 ∨ k = 7) with rfl | rfl | rfl | rfl | rfl | rfl | rfl | rfl <;> rfl
theorem addL_pair (x y : Nat) : addL [x, y] = (x + y) % 4294967296 := by simp [addL]
theorem Sl2 {w : World} {n : Nat} {x y : Value} (h0 : w.cell? ⟨n, 0, none⟩ = some x) (h1 : w.cell? ⟨n, 1, none⟩ = some y) : Sl w (some ⟨n, 0, none⟩) [x, y] := by
  refine .inr ⟨n, 0, rfl, block_lt_of_cell h0, fun j u hu => ?_⟩
  match j, hu with
  | 0, hu => simp at hu; subst hu; exact h0
  | 1, hu => simp at hu; subst hu; exact h1
theorem add_two (n x y : Nat) (hx : x < 4294967296) (hy : y < 4294967296) (w : World) (h0 : w.cell? ⟨n, 0, none⟩ = some (.int .i64 x)) (h1 : w.cell? ⟨n, 1, none⟩ = some (.int .i64 y)) :
    Calls Tryd.prog 50 #[.slice (some ⟨n, 0, none⟩) 2 2] w fun e w' => e = .returned (.tuple #[.int .i64 ((x + y) % 4294967296 : Nat), .bool true]) ∧ w = w' := by
  have h := add_any (some ⟨n, 0, none⟩) 2 [x, y] w (by simp) (Sl2 h0 h1) (by simp; omega)
  rw [addL_pair] at h
  exact h
theorem u32_i64 {x : Nat} (h : x < 4294967296) : IntKind.i64.wrap (x : Int) = (x : Int) := wrapNat (by omega)
theorem row8_size : (Tryd.prog.info? 63).map (·.size) = some 8 := by kernel_rfl
theorem St.l_lt {s : St} (h : s.ok) : ∀ x ∈ s.l, x < 4294967296 := by
  obtain ⟨ha, hb, hc, hd, he, hf, hg, hh⟩ := h
  intro x hx
  simp only [St.l, List.mem_cons, List.not_mem_nil, or_false] at hx
  rcases hx with rfl | rfl | rfl | rfl | rfl | rfl | rfl | rfl <;> assumption
set_option maxRecDepth 100000 in
set_option maxHeartbeats 8000000 in
theorem step_yes (s : St) (hs : s.ok) (blk : ByteArray) (hb : blk.size = 64) (w : World) (hK : Consts w) :
   Calls Tryd.prog 31 #[s.v, .string blk] w fun e w' => e = .returned (.tuple #[(stepL s blk.data.toList).v, .bool true]) ∧ Below w.heap.size w w' := by
  have hsl := Sl.new w 63 (i64s s)
  have hsl2 : Sl (w.alloc (.cells (i64s s) 63)) (some ⟨w.heap.size, 0, none⟩) (ints s.l) := hsl
  have HSL := Lib.hid (hsl2.keep (Below.alloc0 _ (.cells (rowA .i64 8 fun _ => 0) 63)))
  clear hsl hsl2
  unfold i64s at HSL
  have hll := St.l_lt hs
  have HLL := Lib.hid hll
  clear hll
  unfold St.v
  go_enter Tryd.func31, Tryd.ntmps31
  go_wp2_with fail
  refine (is_nats (some ⟨w.heap.size, 0, none⟩) 8 s.l _ (by simp [St.l]) HSL.out HLL.out).mono ?_
  rintro e w1 ⟨rfl, rfl⟩
  go_upto_region 3 with fail
  have hr1 := rowIs_new (w := w.alloc (.cells (i64s s) 63)) (t := 63) (n := 8) (z := .int .i64 0) (c := rowA .i64 8 fun _ => 0) rfl
  have hr0 := (World.rowIs_alloc w (i64s s) 63 (fun j => .int .i64 (s.at j : Nat)) (fun j hj => rowA_at .i64 8 s.at j hj)).alloc (.cells (rowA .i64 8 fun _ => 0) 63)
  have hbw := ((Below.refl w.heap.size w).alloc (Nat.le_refl _) (.cells (i64s s) 63)).alloc (by simp) (.cells (rowA .i64 8 fun _ => 0) 63)
  have hKW := hK.keep hbw
  have hsz : ((w.alloc (.cells (i64s s) 63)).alloc (.cells (rowA .i64 8 fun _ => 0) 63)).heap.size = w.heap.size + 1 + 1 := by simp
  rw [show (i64s s).size = 8 from rfl] at hr0
  rw [World.size_alloc] at hr1
  unfold i64s at hr1 hr0 hbw hKW hsz
  clear HSL hK
  generalize (w.alloc _).alloc _ = W at *
  have c0 := hr0.cell (i := 0) (by omega)
  have c1 := hr0.cell (i := 1) (by omega)
  have c2 := hr0.cell (i := 2) (by omega)
  have c3 := hr0.cell (i := 3) (by omega)
  have c4 := hr0.cell (i := 4) (by omega)
  have c5 := hr0.cell (i := 5) (by omega)
  have c6 := hr0.cell (i := 6) (by omega)
  have c7 := hr0.cell (i := 7) (by omega)
  simp only [St.at, St.l, List.getD_cons_zero, List.getD_cons_succ] at c0 c1 c2 c3 c4 c5 c6 c7
  have hlt : w.heap.size < W.heap.size := by omega
  have HSZ := Lib.hid hsz
  clear hsz
  obtain ⟨Wf, hWf⟩ : ∃ f, f = fun j => (blkW blk.data.toList).getD j 0 := ⟨_, rfl⟩
  have hsch : ∀ V : World, Calls Tryd.prog 53 #[.string blk] V fun e w' => e = .returned (.agg (rowA .u32 64 Wf)) ∧ Below V.heap.size V w' := by rw [hWf]; exact fun V => sched_any blk V hb
  have hWl : ∀ j, Wf j < 4294967296 := by rw [hWf]; exact blkW_lt blk
  obtain ⟨m, hm⟩ : ∃ m, mixN Wf s 64 = m := ⟨_, rfl⟩
  have HSCH := Lib.hid hsch
  have HWL := Lib.hid hWl
  have HWF := Lib.hid hWf
  clear hsch hWl hWf
  have HM := Lib.hid hm
  clear hm
  go_cut [6] (fun b wx => ∃ g : Nat, b = .pointer (some ⟨g, 0, none⟩) ∧ W.heap.size ≤ g ∧ wx.rowIs g 93 8 (fun j => .int .u32 (m.at j : Nat)) ∧ Below W.heap.size W wx)
  case first =>
    go_region_with (first
      | (go_at_call 53; refine (HSCH.out _).mono ?_; rintro e w1 ⟨rfl, hb1⟩; obtain ⟨hc1, hf1⟩ := bcell hb1; have hz1 := hb1.size; (try simp only [World.size_drew] at hc1 hf1 hz1); (try simp only [World.size_alloc] at hc1 hf1 hz1); (try simp only [World.size_drew] at hc1 hf1 hz1); (try have hz3 : W.heap.size < w1.heap.size := by omega); have hz5 : w.heap.size < w1.heap.size := (by omega))
      | (go_at_call 52; refine (mix_lit s hs Wf HWL.out m HM.out _ ?_).mono ?_; (exact hKW.keep (by first | exact (Below.drew0 _).next hb1 | exact ((Below.drew0 _).al _).next' hb1 | exact ((Below.drew0 _).next hb1).al _ | exact ((Below.alloc0 _ _).drew).next' hb1)); rintro e w2 ⟨rfl, hb2⟩; obtain ⟨hc2, hf2⟩ := bcell hb2; have hz2 := hb2.size; (try simp only [World.size_drew] at hc2 hf2 hz2); (try simp only [World.size_alloc] at hc2 hf2 hz2); (try simp only [World.size_drew] at hc2 hf2 hz2); (try have hz4 : W.heap.size < w2.heap.size := by omega)))
    all_goals (go_wp2_with fail; go_meet)
    all_goals have hB1 : Below W.heap.size W w1 := (by first | (with_reducible exact (Below.drew0 _).next hb1) | (with_reducible exact ((Below.alloc0 _ _).drew).next' hb1 (Nat.le_refl _)))
    all_goals have hB2 : Below W.heap.size W w2 := (by first | (with_reducible exact hB1.next hb2) | (with_reducible exact (hB1.al _).next' hb2 (Nat.le_refl _)))
    all_goals have hs1 := hB1.size
    all_goals have hs2 := hB2.size
    all_goals clear hc1 hf1 hc2 hf2
    all_goals refine ⟨_, rfl, ?_, ?_, ?_⟩
    all_goals first
      | omega
      | (with_reducible exact row8_new m)
      | (with_reducible exact hB2.al _)
      | (with_reducible exact row8_set (rowIs_keep row8_zero hb2) m)
      | (with_reducible exact row8_set (rowIs_keep (rowIs_keep (World.rowIs.drew row8_zero) hb1) hb2) m)
      | (with_reducible refine below8_set hB2 ?_ _ _ _ _ _ _ _ _; omega)
  case rest =>
    obtain ⟨g, rfl, hg, hrg, hbg⟩ := hcut
    have hr0' := rowIs_keep hr0 hbg
    have hr1' := rowIs_keep hr1 hbg
    have hbw' := hbw.next' hbg
    have hszc := hbg.size
    have hgl := hrg.lt
    have hsz := HSZ.out
    have hrn := rowIs_new (w := wc) (t := 63) (n := 8) (z := .int .i64 0) rfl
    have hr0n := hr0'.alloc (.cells (List.replicate 8 (Value.int .i64 0)).toArray 63)
    have hr1n := hr1'.alloc (.cells (List.replicate 8 (Value.int .i64 0)).toArray 63)
    have hrgn := hrg.alloc (.cells (List.replicate 8 (Value.int .i64 0)).toArray 63)
    have hbn := hbw'.alloc (by omega) (.cells (List.replicate 8 (Value.int .i64 0)).toArray 63)
    have hml : ∀ j, m.at j < 4294967296 := by rw [← HM.out]; exact St.at_lt (mixN_ok Wf hs 64)
    have hsl := St.at_lt hs
    have HML := Lib.hid hml
    have HSL := Lib.hid hsl
    have n1 : w.heap.size < wc.heap.size := by omega
    have n2 : w.heap.size + 1 < wc.heap.size := by omega
    have n3 : w.heap.size + 1 < g := by omega
    clear hr0' hr1' hrg hbw' hml hsl HWL HSCH hr0 hr1 hbw hKW c0 c1 c2 c3 c4 c5 c6 c7 hlt HLL hbg hg hszc HSZ hsz
    go_wp2_with fail
    have hNs : wc.heap.size < (wc.alloc (.cells (List.replicate 8 (Value.int .i64 0)).toArray 63)).heap.size := by simp
    generalize wc.heap.size = N at *
    go_loopw [8, 22] (fun _ i wr => ∃ k : Nat, k ≤ 8 ∧ i = .int .i64 k ∧ wr.rowIs w.heap.size 63 8 (fun j => .int .i64 (s.at j : Nat)) ∧ wr.rowIs (w.heap.size + 1) 63 8 (fun _ => .int .i64 0) ∧
      wr.rowIs g 93 8 (fun j => .int .u32 (m.at j : Nat)) ∧ wr.rowIs N 63 8 (fun j => .int .i64 (rowW (s.add m).at k j : Nat)) ∧ Below w.heap.size w wr ∧ N < wr.heap.size) (fun _ i _ => 8 - (intOf i).toNat)
    case atStart => exact ⟨0, by omega, rfl, hr0n, hr1n, hrgn, hrn, hbn, hNs⟩
    case round =>
      clear hr0n hr1n hrgn hrn hbn hNs
      obtain ⟨k, hk, rfl, q0, q1, qg, qn, qb, qs⟩ := hrel
      by_cases hl : k < 8
      · have d0 := q0.cell (i := k) hl
        have dg := qg.cell (i := k) hl
        have dn := qn.cell (i := k) hl
        have df := qn.frozen k
        have hxl := HSL.out k
        have hyl := HML.out k
        have HSET := Lib.hid (rowW_set (s.add m).at k)
        have HADD := Lib.hid (add_at s m k hl)
        generalize s.at k = x at *
        generalize m.at k = y at *
        generalize rowW (s.add m).at k k = z at *
        have hyw := u32_i64 hyl
        have m1 : ¬ w.heap.size = N := by omega
        have m2 : ¬ g = N := by omega
        have m3 : ¬ N = w.heap.size := by omega
        have m4 : ¬ N = g := by omega
        go_wp2
        go_region_held3 (fun w' => w'.cell? ⟨w.heap.size, k, none⟩ = some (.int .i64 x) ∧ w'.cell? ⟨g, k, none⟩ = some (.int .u32 y)) (go_keep)
          (first | (go_at_call 50; refine (add_two _ x y hxl hyl _ ?_ ?_).mono ?_; (simp); (simp); rintro e w' ⟨rfl, rfl⟩))
        go_wp2
        go_roundw
        case rel =>
          refine ⟨k + 1, by omega, by go_num, ((q0.setOther (by simpa using m1) _).alloc _).drew, ((q1.setOther (by simp; omega) _).alloc _).drew, ((qg.setOther (by simpa using m2) _).alloc _).drew, ?_,
            ((qb.setCell (p := ⟨N, k, none⟩) (by simp; omega) _).alloc (by simp; omega) _).drew, by simp; omega⟩
          refine (((qn.set k _).alloc _).drew).congr fun j _ => ?_
          rw [← HSET.out j, HADD.out]
          by_cases hjk : j = k
          · rw [if_pos hjk, if_pos hjk]; rfl
          · rw [if_neg hjk, if_neg hjk]
        case measure => simp [intOf]; omega
      · obtain rfl : k = 8 := by omega
        obtain ⟨c, h7, hcs, hc⟩ := rowIs_block qn
        obtain ⟨c0, h4, hcs0, hc0⟩ := rowIs_block q1
        have hinf : (Tryd.prog.info? 63).map (·.size) = some c.size := by rw [hcs]; exact row8_size
        have hold : c0.size = c.size := by rw [hcs, hcs0]
        have hall := all_one_ints hc
        have HC := Lib.hid hc
        clear hc hc0 hcs0 hcs
        go_wp2_with (first
          | (refine wpList_load_row rfl _ _ rfl N rfl _ _ _ _ h7 Tryd.underlying63 rfl hinf ?_)
          | (refine wpList_store_row rfl _ _ _ rfl (w.heap.size + 1) _ rfl rfl _ _ h4 hinf hold hall ?_))
        refine bodyPost_ret (v := .tuple #[.agg c, .bool true]) (results_cell_slot rfl _ _ (w.heap.size + 1) _ _ _ _ rfl (setRow_heap _ _ _ _ _ _ h4) Tryd.underlying63 rfl hinf _ rfl) rfl ⟨?_, qb.setRow (by omega) _⟩
        have he : c = rowA .i64 8 (s.add m).at := by
          rw [HC.out, rowA]
          refine congrArg List.toArray (List.map_congr_left fun j hj => ?_)
          rw [rowW_in _ (by simpa using hj)]
        rw [he, ← St.v_row, show stepL s blk.data.toList = s.add m by rw [stepL, ← HM.out, HWF.out]]
        rfl
theorem step_lit (s : St) (hs : s.ok) (blk : ByteArray) (hb : blk.size = 64) (t : St) (ht : stepL s blk.data.toList = t) (w : World) (hK : Consts w) :
   Calls Tryd.prog 31 #[.agg #[.int .i64 s.a, .int .i64 s.b, .int .i64 s.c, .int .i64 s.d, .int .i64 s.e, .int .i64 s.f, .int .i64 s.g, .int .i64 s.h], .string blk] w fun e w' =>
     e = .returned (.tuple #[.agg #[.int .i64 t.a, .int .i64 t.b, .int .i64 t.c, .int .i64 t.d, .int .i64 t.e, .int .i64 t.f, .int .i64 t.g, .int .i64 t.h], .bool true]) ∧ Below w.heap.size w w' := by
  subst ht
  exact step_yes s hs blk hb w hK
theorem row8_i64 {w : World} {g : Nat} {t : TypeId} {s : St} (h : w.rowIs g t 8 (fun j => .int .i64 (s.at j : Nat))) : w.cell? ⟨g, 0, none⟩ = some (.int .i64 s.a) ∧ w.cell? ⟨g, 1, none⟩ = some (.int .i64 s.b) ∧ w.cell? ⟨g, 2, none⟩ = some (.int .i64 s.c) ∧ w.cell? ⟨g, 3, none⟩ = some (.int .i64 s.d) ∧
    w.cell? ⟨g, 4, none⟩ = some (.int .i64 s.e) ∧ w.cell? ⟨g, 5, none⟩ = some (.int .i64 s.f) ∧ w.cell? ⟨g, 6, none⟩ = some (.int .i64 s.g) ∧ w.cell? ⟨g, 7, none⟩ = some (.int .i64 s.h) :=
  ⟨h.cell (by omega), h.cell (by omega), h.cell (by omega), h.cell (by omega), h.cell (by omega), h.cell (by omega), h.cell (by omega), h.cell (by omega)⟩
theorem at8i (m : St) (j : Nat) (hj : j < 8) : (if j = 7 then Value.int .i64 m.h else if j = 6 then Value.int .i64 m.g else if j = 5 then Value.int .i64 m.f else if j = 4 then Value.int .i64 m.e else if j = 3 then Value.int .i64 m.d else if j = 2 then Value.int .i64 m.c else
    if j = 1 then Value.int .i64 m.b else Value.int .i64 m.a) = Value.int .i64 (m.at j : Nat) := by
  rcases (by omega : j = 0 ∨ j = 1 ∨ j = 2 ∨ j = 3 ∨ j = 4 ∨ j = 5 ∨ j = 6 ∨ j = 7) with rfl | rfl | rfl | rfl | rfl | rfl | rfl | rfl <;> rfl
theorem row8_seti {w : World} {g : Nat} {t : TypeId} {f : Nat → Value} (h : w.rowIs g t 8 f) (m : St) :
    ((((((((w.setCell ⟨g, 0, none⟩ (.int .i64 m.a)).setCell ⟨g, 1, none⟩ (.int .i64 m.b)).setCell ⟨g, 2, none⟩ (.int .i64 m.c)).setCell ⟨g, 3, none⟩ (.int .i64 m.d)).setCell ⟨g, 4, none⟩ (.int .i64 m.e)).setCell ⟨g, 5, none⟩ (.int .i64 m.f)).setCell ⟨g, 6, none⟩ (.int .i64 m.g)).setCell ⟨g, 7, none⟩ (.int .i64 m.h)).rowIs g t 8 (fun j => .int .i64 (m.at j : Nat)) := by
  refine ((((((((h.set 0 _).set 1 _).set 2 _).set 3 _).set 4 _).set 5 _).set 6 _).set 7 _).congr fun j hj => ?_
  rw [← at8i m j hj]
  rcases (by omega : j = 0 ∨ j = 1 ∨ j = 2 ∨ j = 3 ∨ j = 4 ∨ j = 5 ∨ j = 6 ∨ j = 7) with rfl | rfl | rfl | rfl | rfl | rfl | rfl | rfl <;> rfl
theorem heap8_set {w : World} {g k : Nat} (h : k ≠ g) (v0 v1 v2 v3 v4 v5 v6 v7 : Value) :
    ((((((((w.setCell ⟨g, 0, none⟩ v0).setCell ⟨g, 1, none⟩ v1).setCell ⟨g, 2, none⟩ v2).setCell ⟨g, 3, none⟩ v3).setCell ⟨g, 4, none⟩ v4).setCell ⟨g, 5, none⟩ v5).setCell ⟨g, 6, none⟩ v6).setCell ⟨g, 7, none⟩ v7).heap[k]? = w.heap[k]? := by
  rw [heap_setCell_other _ _ _ _ h, heap_setCell_other _ _ _ _ h, heap_setCell_other _ _ _ _ h, heap_setCell_other _ _ _ _ h, heap_setCell_other _ _ _ _ h, heap_setCell_other _ _ _ _ h, heap_setCell_other _ _ _ _ h, heap_setCell_other _ _ _ _ h]
end Go.Proofs.YtlkdofghhibmbaaDoor
