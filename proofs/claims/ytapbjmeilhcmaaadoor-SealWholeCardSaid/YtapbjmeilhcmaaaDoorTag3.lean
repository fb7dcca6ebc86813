/-
  tag: the contract of left.
-/
import Derived.Test.YtapbjmeilhcmaaaDoorTag1
namespace Go.Proofs.YtapbjmeilhcmaaaDoor
open Go.RowKit Go.Kx
set_option maxRecDepth 20000

/-- The number that a block of five parts holds. -/
def valB (w : World) (b : Nat) : Nat := valN (ofF fun j => (intOf ((w.cell? ⟨b, j, none⟩).getD undef)).toNat)
theorem valB_row {w : World} {b : Nat} {n : Num} (h : w.rowIs b 47 5 (fun j => .int .u64 (n.at j : Nat))) : valB w b = valN n := by
  unfold valB
  have hc : ∀ j, j < 5 → (intOf ((w.cell? ⟨b, j, none⟩).getD undef)).toNat = n.at j := fun j hj => by
    rw [h.cell (i := j) hj]; simp [intOf]
  have e : ofF (fun j => (intOf ((w.cell? ⟨b, j, none⟩).getD undef)).toNat) = n := Num.ext (hc 0 (by omega)) (hc 1 (by omega)) (hc 2 (by omega)) (hc 3 (by omega)) (hc 4 (by omega))
  rw [e]
/-- A round's number ahead of its carry. -/
def topN (u : Nat) : Num := ⟨((canon u).a + 5 * ((canon u).e / 67108864)) % 18446744073709551616, (canon u).b, (canon u).c, (canon u).d, (canon u).e % 67108864⟩
theorem topN_ok (u : Nat) : okF (topN u).at := by
  have hb : (canon u).b < 67108864 := Nat.mod_lt _ (by omega)
  have hc : (canon u).c < 67108864 := Nat.mod_lt _ (by omega)
  have hd : (canon u).d < 67108864 := Nat.mod_lt _ (by omega)
  exact ok_at (Nat.mod_lt _ (by omega)) (by simp only [topN]; omega) (by simp only [topN]; omega) (by simp only [topN]; omega) (by simp only [topN]; omega)
theorem topN_car (u : Nat) : carN (topN u) = canon (foldV u) := carN_canon _
def fiveN (u : Nat) : Num := ⟨((canon u).a + 5) % 18446744073709551616, (canon u).b, (canon u).c, (canon u).d, (canon u).e⟩
theorem fiveN_ok (u : Nat) (h : (canon u).e < 18446744073709551616) : okF (fiveN u).at := by
  have hb : (canon u).b < 67108864 := Nat.mod_lt _ (by omega)
  have hc : (canon u).c < 67108864 := Nat.mod_lt _ (by omega)
  have hd : (canon u).d < 67108864 := Nat.mod_lt _ (by omega)
  exact ok_at (Nat.mod_lt _ (by omega)) (by simp only [fiveN]; omega) (by simp only [fiveN]; omega) (by simp only [fiveN]; omega) (by simp only [fiveN]; omega)
theorem num_row_set {w : World} {b : Nat} {n m : Num} {k : Nat} {x : Nat} (h : w.rowIs b 47 5 (fun j => .int .u64 (n.at j : Nat))) (hm : ∀ j, j < 5 → m.at j = if j = k then x else n.at j) :
    (w.setCell ⟨b, k, none⟩ (.int .u64 x)).rowIs b 47 5 (fun j => .int .u64 (m.at j : Nat)) :=
  (h.set k _).congr fun j hj => by
    rw [hm j hj]
    split <;> rfl
theorem nv_of_heap {w : World} {b : Nat} {f : Nat → Nat} (h : w.heap[b]? = some (.cells (nv f) 47 (0, 0))) : w.rowIs b 47 5 (fun j => .int .u64 (f j : Nat)) :=
  ⟨nv f, h, nv_size f, fun i hi => rowA_at .u64 5 f i hi⟩
theorem canon_lt (u j : Nat) (h : (canon u).e < 18446744073709551616) : (canon u).at j < 18446744073709551616 := ok_canon u h j
set_option maxHeartbeats 4000000 in
theorem left_any (n : Num) (hn : okF n.at) (d : Array Value) (hd : d = nv n.at) (r : Array Value) (hr : r = nv (canon (leftV n)).at) (w : World) :
    Calls Tryd.prog 37 #[.agg d] w fun e w' => e = .returned (.agg r) ∧ Below w.heap.size w w' := by
  have hrs : r.size = 5 := by rw [hr, nv_size]
  have hds : d.size = 5 := by rw [hd, nv_size]
  have hall : r.all (·.oneCell') = true := by rw [hr]; exact nv_all _
  have hinf : (Tryd.prog.info? 47).map (·.size) = some r.size := by rw [hrs]; exact num_info
  have hinfd : (Tryd.prog.info? 47).map (·.size) = some d.size := by rw [hds]; exact num_info
  obtain ⟨u0, hu0⟩ : ∃ u0, valN (carN n) = u0 := ⟨_, rfl⟩
  have hE0 : (canon u0).e < 18446744073709551616 := by rw [← hu0, ← carN_canon]; exact carN_e n
  obtain ⟨c0, hc0⟩ : ∃ c0, c0 = nv (canon u0).at := ⟨_, rfl⟩
  have HCAR0 : Hid (∀ V : World, Calls Tryd.prog 34 #[.agg d] V fun e w' => e = .returned (.agg c0) ∧ Below V.heap.size V w') :=
    Lib.hid fun V => car_n n hn d hd c0 (by rw [hc0, carN_canon n, hu0]) V
  have hinfc : (Tryd.prog.info? 47).map (·.size) = some c0.size := by rw [hc0, nv_size]; exact num_info
  have hallc : c0.all (·.oneCell') = true := by rw [hc0]; exact nv_all _
  have holdc : d.size = c0.size := by rw [hc0, nv_size, hds]
  have HR : Hid (r = nv (canon (u0 % bigP)).at) := Lib.hid (by rw [hr, leftV, hu0])
  have HC0 := Lib.hid hc0
  have hg0 : ((w.alloc (.cells d 47)).alloc (.cells zero5 47)).heap[w.heap.size]? = some (.cells d 47 (0, 0)) := (Below.heap_alloc _ _ _ (by simp)).trans (heap_alloc_new w _)
  have hg1 : ((w.alloc (.cells d 47)).alloc (.cells zero5 47)).heap[w.heap.size + 1]? = some (.cells zero5 47 (0, 0)) := by
    have := heap_alloc_new (w.alloc (.cells d 47)) (.cells zero5 47)
    rwa [World.size_alloc] at this
  have hbw := (Below.alloc0 w (.cells d 47)).al (.cells zero5 47)
  have hsz : ((w.alloc (.cells d 47)).alloc (.cells zero5 47)).heap.size = w.heap.size + 1 + 1 := by simp
  unfold zero5 at hg0 hg1 hbw hsz
  clear hd hr hc0 hu0
  go_enter Tryd.func37, Tryd.ntmps37
  go_wp2_with (refine wpList_load_row rfl _ _ rfl w.heap.size rfl _ _ _ _ hg0 Tryd.underlying47 rfl hinfd ?_)
  generalize ((w.alloc _).alloc _) = W at *
  refine (HCAR0.out _).mono ?_
  rintro e w1 ⟨rfl, hb1⟩
  have hs0 : w.heap.size < W.heap.size := by omega
  have hs1 : w.heap.size + 1 < W.heap.size := by omega
  have k0 := (hb1.block _ hs0).trans hg0
  have k1 := (hb1.block _ hs1).trans hg1
  have kb := hbw.next' hb1 (by omega)
  clear hb1 hg0 hg1 hbw hsz hs0 hs1
  go_wp2_with (refine wpList_store_row rfl _ _ _ rfl w.heap.size _ rfl rfl _ _ k0 hinfc holdc hallc ?_)
  obtain ⟨zz, hzs, k1⟩ : ∃ zz : Array Value, zz.size = 5 ∧ w1.heap[w.heap.size + 1]? = some (.cells zz 47 (0, 0)) := ⟨_, rfl, k1⟩
  have m0 := setRow_heap _ w.heap.size _ c0 _ _ k0
  have m1 := (setRow_other w1 w.heap.size (w.heap.size + 1) c0 (by omega)).trans k1
  have mb := kb.setRow (Nat.le_refl _) c0
  have mr := nv_of_heap (f := (canon u0).at) (by rw [← HC0.out]; exact m0)
  clear m0 k0 k1 kb hinfc hallc holdc HC0 HCAR0 hinfd
  generalize World.setRow _ _ _ = W0 at *
  go_loopw [7] (fun _ wr => ∃ u : Nat, Hid (u % bigP = u0 % bigP) ∧ (canon u).e < 18446744073709551616 ∧ wr.rowIs w.heap.size 47 5 (fun j => .int .u64 ((canon u).at j : Nat)) ∧ wr.heap[w.heap.size + 1]? = some (.cells zz 47 (0, 0)) ∧ Below w.heap.size w wr) (fun _ wr => valB wr w.heap.size)
  case atStart => exact ⟨u0, Lib.hid rfl, hE0, mr, m1, mb⟩
  case round =>
    clear mr m1 mb hE0
    obtain ⟨u, hu, hE, hrow, hzr, hb⟩ := hrel
    have c4 : wr.cell? ⟨w.heap.size, 4, none⟩ = some (.int .u64 ((canon u).e : Nat)) := hrow.cell (i := 4) (by omega)
    have f4 := hrow.frozen 4
    by_cases hT : 67108863 < (canon u).e
    · have c0 : wr.cell? ⟨w.heap.size, 0, none⟩ = some (.int .u64 ((canon u).a : Nat)) := hrow.cell (i := 0) (by omega)
      have f0 := hrow.frozen 0
      have hT' : (67108863 : Int) < (((canon u).e : Nat) : Int) := by omega
      have hlt := foldV_lt u hE hT
      have hmod := foldV_mod u hE
      have hval := valB_row hrow
      rw [valN_canon] at hval
      have HNEW : Hid (foldV u % bigP = u0 % bigP) := Lib.hid (by rw [hmod, hu.out])
      have hE1 : (canon (foldV u)).e < 18446744073709551616 := Nat.lt_of_le_of_lt (canon_e_le (Nat.le_of_lt hlt)) hE
      have hto := topN_ok u
      have htc := topN_car u
      have hta : ∀ j, j < 5 → (topN u).at j = if j = 4 then (canon u).e % 67108864 else if j = 0 then ((canon u).a + 5 * ((canon u).e / 67108864)) % 18446744073709551616 else (canon u).at j := fun j hj => by
        have : j = 0 ∨ j = 1 ∨ j = 2 ∨ j = 3 ∨ j = 4 := by omega
        rcases this with rfl | rfl | rfl | rfl | rfl <;> rfl
      obtain ⟨cu, hcu⟩ : ∃ cu, cu = (canon u).at := ⟨_, rfl⟩
      rw [← hcu] at hrow hta
      generalize (canon u).e = xe at *
      generalize (canon u).a = xa at *
      have ea := and_full xe hE
      have ew : IntKind.u64.wrap ((xa : Int) + IntKind.u64.wrap (5 * ((xe : Int) / 67108864))) = (((xa + 5 * (xe / 67108864)) % 18446744073709551616 : Nat) : Int) := by
        rw [show IntKind.u64.wrap (5 * ((xe : Int) / 67108864)) = ((5 * (xe / 67108864) : Nat) : Int) by rw [IntKind.wrap_u64]; omega, ← wrapU64]; congr 1
      generalize htn : topN u = tn at *
      generalize hfu : foldV u = fu at *
      generalize (xa + 5 * (xe / 67108864)) % 18446744073709551616 = xz at *
      obtain ⟨d1, hd1⟩ : ∃ d1, d1 = nv tn.at := ⟨_, rfl⟩
      obtain ⟨d2, hd2⟩ : ∃ d2, d2 = nv (canon fu).at := ⟨_, rfl⟩
      have HCAR : Hid (∀ V : World, Calls Tryd.prog 34 #[.agg d1] V fun e w' => e = .returned (.agg d2) ∧ Below V.heap.size V w') :=
        Lib.hid fun V => car_n tn hto d1 hd1 d2 (by rw [hd2, htc]) V
      have hinf1 : (Tryd.prog.info? 47).map (·.size) = some d1.size := by rw [hd1, nv_size]; exact num_info
      have hinf2 : (Tryd.prog.info? 47).map (·.size) = some d2.size := by rw [hd2, nv_size]; exact num_info
      have hold2 : d1.size = d2.size := by rw [hd1, hd2, nv_size, nv_size]
      have hall2 : d2.all (·.oneCell') = true := by rw [hd2]; exact nv_all _
      have HD1 := Lib.hid hd1
      have HD2 := Lib.hid hd2
      have HTA := Lib.hid hta
      clear hd1 hd2 hta hto htc htn hfu hmod hcu hT
      go_wp2
      refine wp_region_still_tail 8 (by kernel_rfl) (by kernel_rfl) ?_
      simp only [List.take_succ_cons, List.take_zero, List.drop_succ_cons, List.drop_zero]
      repeat still_step
      refine wpStill_nil ?_
      have hrD := hrow.drew
      have zD : wr.drew.heap[w.heap.size + 1]? = some (.cells zz 47 (0, 0)) := hzr
      have hbD := hb.drew
      have x0 : wr.drew.cell? ⟨w.heap.size, 0, none⟩ = some (.int .u64 xa) := c0
      have x4 : wr.drew.cell? ⟨w.heap.size, 4, none⟩ = some (.int .u64 xe) := c4
      have y0 := hrD.frozen 0
      have y4 := hrD.frozen 4
      change wpList _ _ _ _ _ wr.drew
      clear hrow hzr hb c0 c4 f0 f4 ew
      generalize wr.drew = w2 at *
      generalize xe % 67108864 = xy at *
      have h1 : ((w2.setCell ⟨w.heap.size, 0, none⟩ (.int .u64 xz)).setCell ⟨w.heap.size, 4, none⟩ (.int .u64 xy)).heap[w.heap.size]? = some (.cells d1 47 (0, 0)) := by
        rw [HD1.out]
        refine nv_heap (((hrD.set 0 (.int .u64 xz)).set 4 (.int .u64 xy)).congr fun j hj => ?_)
        rw [HTA.out j hj]
        by_cases j4 : j = 4
        · rw [if_pos j4, if_pos j4]
        · rw [if_neg j4, if_neg j4]
          by_cases j0 : j = 0
          · rw [if_pos j0, if_pos j0]
          · rw [if_neg j0, if_neg j0]
      have z1 : ((w2.setCell ⟨w.heap.size, 0, none⟩ (.int .u64 xz)).setCell ⟨w.heap.size, 4, none⟩ (.int .u64 xy)).heap[w.heap.size + 1]? = some (.cells zz 47 (0, 0)) := by
        rw [Below.heap_setCell _ _ _ _ (by simp), Below.heap_setCell _ _ _ _ (by simp)]; exact zD
      have b1 := (hbD.setCell (p := ⟨w.heap.size, 0, none⟩) (by simp) (.int .u64 xz)).setCell (p := ⟨w.heap.size, 4, none⟩) (by simp) (.int .u64 xy)
      clear hrD zD hbD HTA
      go_wp2_with (refine wpList_load_row rfl _ _ rfl w.heap.size rfl _ _ _ _ h1 Tryd.underlying47 rfl hinf1 ?_)
      generalize ((w2.setCell _ _).setCell _ _) = w3 at *
      refine (HCAR.out _).mono ?_
      rintro e w4 ⟨rfl, hb4⟩
      have q1 := (hb4.block _ (by have := b1.size; have := (Array.getElem?_eq_some_iff.1 h1).1; omega)).trans h1
      have q2 := (hb4.block _ (Array.getElem?_eq_some_iff.1 z1).1).trans z1
      have qb := b1.next' hb4
      clear h1 z1 b1 hb4 x0 x4 y0 y4
      have r1 := nv_of_heap (f := (canon fu).at) (by rw [← HD2.out]; exact setRow_heap _ w.heap.size _ d2 _ _ q1)
      have r2 := (setRow_other w4 w.heap.size (w.heap.size + 1) d2 (by omega)).trans q2
      have rb := qb.setRow (Nat.le_refl _) d2
      have hval2 := valB_row r1
      rw [valN_canon] at hval2
      clear q2 qb
      go_wp2_with (refine wpList_store_row rfl _ _ _ rfl w.heap.size _ rfl rfl _ _ q1 hinf2 hold2 hall2 ?_)
      simp only [Act.put]
      go_roundw
      case rel => exact ⟨fu, HNEW, hE1, r1, r2, rb⟩
      case measure => rw [hval, hval2]; exact hlt
    · have hT' : ¬ (67108863 : Int) < (((canon u).e : Nat) : Int) := by omega
      have hN := nv_heap hrow
      have lN := hrow.lt
      have lZ := (Array.getElem?_eq_some_iff.1 hzr).1
      have hA := heap_alloc_new wr (.cells zero5 47)
      have hAN := (Below.heap_alloc wr (.cells zero5 47) _ lN).trans hN
      have hAZ := (Below.heap_alloc wr (.cells zero5 47) _ lZ).trans hzr
      have hAb := hb.al (.cells zero5 47)
      obtain ⟨cu, hcu⟩ : ∃ cu, cu = nv (canon u).at := ⟨_, rfl⟩
      obtain ⟨d1, hd1⟩ : ∃ d1, d1 = nv (fiveN u).at := ⟨_, rfl⟩
      obtain ⟨d2, hd2⟩ : ∃ d2, d2 = nv (moreN u).at := ⟨_, rfl⟩
      have HCAR : Hid (∀ V : World, Calls Tryd.prog 34 #[.agg d1] V fun e w' => e = .returned (.agg d2) ∧ Below V.heap.size V w') :=
        Lib.hid fun V => car_n (fiveN u) (fiveN_ok u hE) d1 hd1 d2 hd2 V
      have hinfu : (Tryd.prog.info? 47).map (·.size) = some cu.size := by rw [hcu, nv_size]; exact num_info
      have hinf1 : (Tryd.prog.info? 47).map (·.size) = some d1.size := by rw [hd1, nv_size]; exact num_info
      have hinf2 : (Tryd.prog.info? 47).map (·.size) = some d2.size := by rw [hd2, nv_size]; exact num_info
      have hold0 : zero5.size = cu.size := by rw [hcu, nv_size]; rfl
      have hold2 : d1.size = d2.size := by rw [hd1, hd2, nv_size, nv_size]
      have hallu : cu.all (·.oneCell') = true := by rw [hcu]; exact nv_all _
      have hall2 : d2.all (·.oneCell') = true := by rw [hd2]; exact nv_all _
      have HM : Hid (67108863 < (moreN u).e → nv (⟨(moreN u).a, (moreN u).b, (moreN u).c, (moreN u).d, (moreN u).e % 67108864⟩ : Num).at = r) := Lib.hid fun h => by rw [left_more hT h, hu.out, HR.out]
      have HS : Hid (¬ 67108863 < (moreN u).e → cu = r) := Lib.hid fun h => by rw [hcu, left_same hT h, hu.out, HR.out]
      rw [← hcu] at hN hAN
      have hFat : ∀ j, j < 5 → (fiveN u).at j = if j = 0 then ((canon u).a + 5) % 18446744073709551616 else (canon u).at j := fun j hj => by
        have : j = 0 ∨ j = 1 ∨ j = 2 ∨ j = 3 ∨ j = 4 := by omega
        rcases this with rfl | rfl | rfl | rfl | rfl <;> rfl
      have hMat : ∀ j, j < 5 → (⟨(moreN u).a, (moreN u).b, (moreN u).c, (moreN u).d, (moreN u).e % 67108864⟩ : Num).at j = if j = 4 then (moreN u).e % 67108864 else (moreN u).at j := fun j hj => by
        have : j = 0 ∨ j = 1 ∨ j = 2 ∨ j = 3 ∨ j = 4 := by omega
        rcases this with rfl | rfl | rfl | rfl | rfl <;> rfl
      have hMe : (moreN u).e < 18446744073709551616 := carN_e _
      have HFAT := Lib.hid hFat
      have HMAT := Lib.hid hMat
      have HD1 := Lib.hid hd1
      have HD2 := Lib.hid hd2
      have HCU := Lib.hid hcu
      unfold zero5 at hA hAN hAZ hAb hold0
      clear hFat hMat hd1 hd2 hcu hu hT
      have hV := setRow_heap _ wr.heap.size _ cu _ _ hA
      have hVr := nv_of_heap (f := (canon u).at) (by rw [← HCU.out]; exact hV)
      have hVc : World.cell? _ ⟨wr.heap.size, 0, none⟩ = some (.int .u64 ((canon u).a : Nat)) := hVr.cell (i := 0) (by omega)
      have hVf := hVr.frozen 0
      have hVN := (setRow_other _ wr.heap.size w.heap.size cu (by omega)).trans hAN
      have hVZ := (setRow_other _ wr.heap.size (w.heap.size + 1) cu (by omega)).trans hAZ
      have hVb := hAb.setRow (g := wr.heap.size) (by omega) cu
      generalize (canon u).a = xa at *
      have ew : IntKind.u64.wrap ((xa : Int) + 5) = (((xa + 5) % 18446744073709551616 : Nat) : Int) := by rw [← wrapU64]; congr 1
      generalize (xa + 5) % 18446744073709551616 = xz at *
      have h1 := nv_heap (f := (fiveN u).at) ((hVr.set 0 (.int .u64 xz)).congr fun j hj => by
        rw [HFAT.out j hj]
        by_cases j0 : j = 0
        · rw [if_pos j0, if_pos j0]
        · rw [if_neg j0, if_neg j0])
      rw [← HD1.out] at h1
      have hWN := (Below.heap_setCell _ ⟨wr.heap.size, 0, none⟩ (.int .u64 xz) _ (by simp; omega)).trans hVN
      have hWZ := (Below.heap_setCell _ ⟨wr.heap.size, 0, none⟩ (.int .u64 xz) _ (by simp; omega)).trans hVZ
      have hWb := hVb.setCell (p := ⟨wr.heap.size, 0, none⟩) (by simp; omega) (.int .u64 xz)
      clear hVN hVZ hVb hAN hAZ hAb hVr hV
      go_wp2_with (first
        | (refine wpList_load_row rfl _ _ rfl w.heap.size rfl _ _ _ _ hN Tryd.underlying47 rfl hinfu ?_)
        | (refine wpList_store_row rfl _ _ _ rfl wr.heap.size _ rfl rfl _ _ hA hinfu hold0 hallu ?_)
        | (refine wpList_load_row rfl _ _ rfl wr.heap.size rfl _ _ _ _ h1 Tryd.underlying47 rfl hinf1 ?_))
      clear hVc hVf hA
      generalize World.setCell _ _ _ = w2 at *
      refine (HCAR.out _).mono ?_
      rintro e w4 ⟨rfl, hb4⟩
      have q1 := (hb4.block _ (Array.getElem?_eq_some_iff.1 h1).1).trans h1
      have qN := (hb4.block _ (Array.getElem?_eq_some_iff.1 hWN).1).trans hWN
      have qZ := (hb4.block _ (Array.getElem?_eq_some_iff.1 hWZ).1).trans hWZ
      have qb := hWb.next' hb4
      clear h1 hWN hWZ hWb hb4 hN
      have r1 := nv_of_heap (f := (moreN u).at) (by rw [← HD2.out]; exact setRow_heap _ wr.heap.size _ d2 _ _ q1)
      have rN := (setRow_other w4 wr.heap.size w.heap.size d2 (by omega)).trans qN
      have rZ := (setRow_other w4 wr.heap.size (w.heap.size + 1) d2 (by omega)).trans qZ
      have rb := qb.setRow (g := wr.heap.size) (by omega) d2
      have rc : World.cell? _ ⟨wr.heap.size, 4, none⟩ = some (.int .u64 ((moreN u).e : Nat)) := r1.cell (i := 4) (by omega)
      have rf := r1.frozen 4
      clear qN qZ qb
      have hinfz : (Tryd.prog.info? 47).map (·.size) = some r.size := hinf
      have holdz : zz.size = r.size := by rw [hzs, hrs]
      by_cases hM : 67108863 < (moreN u).e
      · have hM' : (67108863 : Int) < (((moreN u).e : Nat) : Int) := by omega
        have hre := HM.out hM
        have ea := and_full (moreN u).e hMe
        have h5 := nv_heap (f := (⟨(moreN u).a, (moreN u).b, (moreN u).c, (moreN u).d, (moreN u).e % 67108864⟩ : Num).at) ((r1.set 4 (.int .u64 ((moreN u).e % 67108864 : Nat))).congr fun j hj => by
          rw [HMAT.out j hj]
          by_cases j0 : j = 4
          · rw [if_pos j0, if_pos j0]
          · rw [if_neg j0, if_neg j0])
        rw [hre] at h5
        have h5Z := (Below.heap_setCell _ ⟨wr.heap.size, 4, none⟩ (.int .u64 ((moreN u).e % 67108864 : Nat)) _ (by simp; omega)).trans rZ
        have h5b := rb.setCell (p := ⟨wr.heap.size, 4, none⟩) (by simp; omega) (.int .u64 ((moreN u).e % 67108864 : Nat))
        clear r1 rN rZ rb hre HM HS HMAT HFAT
        generalize (moreN u).e % 67108864 = xy at *
        generalize (moreN u).e = xe at *
        go_wp2_with (first
          | (refine wpList_store_row rfl _ _ _ rfl wr.heap.size _ rfl rfl _ _ q1 hinf2 hold2 hall2 ?_)
          | (refine wpList_load_row rfl _ _ rfl wr.heap.size rfl _ _ _ _ h5 Tryd.underlying47 rfl hinfz ?_)
          | (refine wpList_store_row rfl _ _ _ rfl (w.heap.size + 1) _ rfl rfl _ _ h5Z hinfz holdz hall ?_))
        exact bodyPost_ret (v := .agg r) (results_cell_row rfl _ _ (w.heap.size + 1) _ _ _ _ rfl (setRow_heap _ _ _ _ _ _ h5Z) Tryd.underlying47 rfl hinf) rfl ⟨rfl, h5b.setRow (by omega) _⟩
      · have hM' : ¬ (67108863 : Int) < (((moreN u).e : Nat) : Int) := by omega
        have hre := HS.out hM
        clear r1 HM HS HMAT HFAT
        subst hre
        generalize (moreN u).e = xe at *
        go_wp2_with (first
          | (refine wpList_store_row rfl _ _ _ rfl wr.heap.size _ rfl rfl _ _ q1 hinf2 hold2 hall2 ?_)
          | (refine wpList_load_row rfl _ _ rfl w.heap.size rfl _ _ _ _ rN Tryd.underlying47 rfl hinfz ?_)
          | (refine wpList_store_row rfl _ _ _ rfl (w.heap.size + 1) _ rfl rfl _ _ rZ hinfz holdz hall ?_))
        exact bodyPost_ret (v := .agg cu) (results_cell_row rfl _ _ (w.heap.size + 1) _ _ _ _ rfl (setRow_heap _ _ _ _ _ _ rZ) Tryd.underlying47 rfl hinf) rfl ⟨rfl, rb.setRow (by omega) _⟩
end Go.Proofs.YtapbjmeilhcmaaaDoor
