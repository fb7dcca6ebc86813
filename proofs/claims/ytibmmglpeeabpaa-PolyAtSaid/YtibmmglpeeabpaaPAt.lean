/-
  keyholelaw08.PolyAt: the walk.
-/
import Derived.Test.YtibmmglpeeabpaaPly11
namespace Go.Proofs.Ytibmmglpeeabpaa
open Go.RowKit Go.Kx
set_option maxRecDepth 20000

theorem at_law {xs ys : List Int} {j : Nat} (hj : j < xs.length) (h : okT xs ys (xs.getD j 0) = true) : throughA xs ys (xs.getD j 0) = ((toG (ys.getD j 0)).v, true) ∧ ys.length = xs.length ∧ dig (ys.getD j 0) = true := by
  have h0 := h
  simp only [okT, okWt, Bool.and_eq_true, decide_eq_true_eq] at h
  obtain ⟨⟨⟨⟨⟨⟨p1, p2⟩, p3⟩, hx⟩, p4⟩, hl⟩, hy⟩ := h
  refine ⟨?_, hl, allI_at hy (by omega)⟩
  rw [throughA, if_pos h0, thI_thr hl]
  congr 2
  have e2 : ((gs xs).zip (gs ys)).map Prod.fst = gs xs := by rw [List.map_fst_zip]; rw [gs_length, gs_length]; omega
  refine Gf.thr_at _ _ (by rw [List.nil_append, e2]; exact gs_nodup p3 p4) ?_
  have h1 := gs_at hj
  have h2 := gs_at (xs := ys) (i := j) (by omega)
  exact List.mem_of_getElem? ((List.getElem?_zip_eq_some (z := (toG (xs.getD j 0), toG (ys.getD j 0)))).2 ⟨h1, h2⟩)
def swI (xs : List Int) (x : Int) (k : Nat) : Gf.G := Gf.sumG ((List.range k).map fun i => wgtI xs i x)
theorem swI_succ (xs : List Int) (x : Int) (k : Nat) (hk : k < xs.length) : addA ((swI xs x k).v : Nat) ((wgtsI xs x).getD k 0) = ((swI xs x (k + 1)).v, true) := by
  rw [wgtsI_at hk, addA_G]
  unfold swI
  rw [List.range_succ, List.map_append, Gf.sumG_append]
  show _ = (Gf.G.v (_ + (_ + 0)), _)
  rw [Gf.G.add_zero]
theorem swI_one {xs : List Int} {x : Int} (h : okWt xs x = true) : (swI xs x xs.length).v = 1 := by
  simp only [okWt, Bool.and_eq_true, decide_eq_true_eq] at h
  obtain ⟨⟨⟨⟨p1, p2⟩, p3⟩, hx⟩, p4⟩ := h
  have e : swI xs x xs.length = thI xs (xs.map fun _ => 1) x xs.length := by
    unfold swI thI
    congr 1
    refine List.map_congr_left fun j hj => ?_
    have hjl : j < xs.length := List.mem_range.1 hj
    have e1 : (xs.map fun _ => (1 : Int)).getD j 0 = 1 := by simp [List.getD, hjl]
    rw [e1]
    exact (Gf.G.one_mul _).symm
  rw [e, thI_thr (by simp)]
  have hz : (gs xs).zip (gs (xs.map fun _ => 1)) = (gs xs).map fun a => (a, Gf.ev [1] a) := by
    unfold gs
    induction xs with
    | nil => rfl
    | cons a r ih =>
      clear p1 p2 p3 p4 e
      rw [List.map_cons, List.map_cons, List.map_cons, List.zip_cons_cons, List.map_cons]
      congr 1
      · have e0 : Gf.ev [1] (toG a) = 1 := by
          show 1 + toG a * 0 = 1
          rw [Gf.G.mul_zero, Gf.G.add_zero]
        rw [e0]; rfl
      · clear ih
        induction r with
        | nil => rfl
        | cons b r ih =>
          rw [List.map_cons, List.map_cons, List.map_cons, List.zip_cons_cons, List.map_cons, ih]
          congr 1
          have e0 : Gf.ev [1] (toG b) = 1 := by
            show 1 + toG b * 0 = 1
            rw [Gf.G.mul_zero, Gf.G.add_zero]
          rw [e0]; rfl
  rw [hz, Gf.thr_ev [1] _ (gs_nodup p3 p4) (by rw [gs_length]; exact p1)]
  show (1 + toG x * 0 : Gf.G).v = 1
  rw [Gf.G.mul_zero, Gf.G.add_zero]
  rfl
/-- What the sum of the weights that are told is. -/
theorem sum_law (xs : List Int) (x : Int) : ∃ N : Nat → Nat, N 0 = 0 ∧ (∀ k, k < (weightsA xs x).1.length → addA (N k : Nat) ((weightsA xs x).1.getD k 0) = (N (k + 1), true)) ∧
    ((weightsA xs x).2 = true → N (weightsA xs x).1.length = 1 ∧ (weightsA xs x).1.length = xs.length) := by
  cases h : okWt xs x with
  | false =>
    rw [weightsA_no h]
    exact ⟨fun _ => 0, rfl, fun k hk => absurd hk (by simp), fun h => by cases h⟩
  | true =>
    have hok : weightsA xs x = (wgtsI xs x, true) := by rw [weightsA, if_pos h]
    rw [hok]
    refine ⟨fun k => (swI xs x k).v, rfl, fun k hk => swI_succ xs x k (by rw [← wgtsI_length xs x]; exact hk), fun _ => ⟨?_, wgtsI_length xs x⟩⟩
    show (swI xs x (wgtsI xs x).length).v = 1
    rw [wgtsI_length, swI_one h]
theorem weightsA_le (xs : List Int) (x : Int) : (weightsA xs x).1.length ≤ xs.length := by
  unfold weightsA
  split
  · rw [wgtsI_length]; exact Nat.le_refl _
  · exact Nat.zero_le _
set_option maxHeartbeats 4000000 in
theorem at_yes (xs ys : List Int) (i x : Int) (A B : Option Addr) (c d : Nat) (hl : xs.length ≤ 9223372036854775807) (hl2 : ys.length ≤ 9223372036854775807) (w : World) (hs : Sl w A (intsI xs)) (hs2 : Sl w B (intsI ys)) :
    Calls Try.prog 4 #[.slice A xs.length c, .slice B ys.length d, .int .i64 i, .int .i64 x] w fun e w' => e = .returned (.bool true) ∧ Below w.heap.size w w' := by
  by_cases hx : 20 < xs.length ∨ (¬ 20 < xs.length ∧ i < 0) ∨ (¬ 20 < xs.length ∧ ¬ i < 0 ∧ (xs.length : Int) ≤ i)
  · rcases hx with h0 | ⟨h0, h1⟩ | ⟨h0, h1, h2⟩
    all_goals
      go_enter Try.func4, Try.ntmps4
      go_wp2_with fail
      refine (polys_any _).mono ?_
      rintro e w1 ⟨rfl, hb⟩
      go_wp2
      go_ret
      exact ⟨rfl, hb⟩
  · obtain ⟨j, rfl⟩ : ∃ j : Nat, i = j := ⟨i.toNat, by omega⟩
    have hj : j < xs.length := by omega
    have h20 : xs.length ≤ 20 := by omega
    clear hx
    obtain ⟨b, off, rfl, hc⟩ := sl_int hs hj
    obtain ⟨N, hN0, hNs, hNe⟩ := sum_law xs x
    have hwl := weightsA_le xs x
    have hlaw : okT xs ys (xs.getD j 0) = true → throughA xs ys (xs.getD j 0) = ((toG (ys.getD j 0)).v, true) ∧ ys.length = xs.length ∧ dig (ys.getD j 0) = true := at_law hj
    have hno : okT xs ys (xs.getD j 0) = false → throughA xs ys (xs.getD j 0) = (0, false) := throughA_no
    generalize xs.getD j 0 = z at *
    have HT : Hid (∀ V, Sl V (some ⟨b, off, none⟩) (intsI xs) → Sl V B (intsI ys) → Calls Try.prog 9 #[.slice (some ⟨b, off, none⟩) xs.length c, .slice B ys.length d, .int .i64 z] V fun e w' => e = two (throughA xs ys z) ∧ Below V.heap.size V w') := Lib.hid (fun V h1 h2 => through_any xs ys z _ B c d hl hl2 V h1 h2)
    have HW : Hid (∀ V, Sl V (some ⟨b, off, none⟩) (intsI xs) → Calls Try.prog 11 #[.slice (some ⟨b, off, none⟩) xs.length c, .int .i64 x] V fun e w' => Wts V w' (weightsA xs x) e) := Lib.hid (fun V h1 => weights_any xs x _ c hl V h1)
    generalize weightsA xs x = ww at *
    obtain ⟨ws, f⟩ := ww
    dsimp only at hNs hNe HW hwl
    have HN0 := Lib.hid hN0
    have HNS := Lib.hid hNs
    have HNE := Lib.hid hNe
    clear hN0 hNs hNe
    have HLOOP : Hid (f = true → N ws.length = 1 ∧ ws.length = xs.length) := HNE
    cases ho : okT xs ys z with
    | false =>
      rw [hno ho] at HT
      clear hno hlaw ho
      cases f with
      | false =>
        go_enter Try.func4, Try.ntmps4
        go_wp2_with fail
        refine (HT.out _ hs hs2).mono ?_
        rintro e w1 ⟨rfl, hb⟩
        replace hs := hs.keep hb
        replace hs2 := hs2.keep hb
        unfold two
        go_wp2_with fail
        refine (HW.out _ hs).mono ?_
        rintro e w2 ⟨⟨C, cc, rfl, hs3⟩, hb2⟩
        replace hb := hb.next' hb2
        replace hs2 := hs2.keep hb2
        clear hb2
        dsimp only at hs3 ⊢
        go_wp2
        go_loop [13, 14] (fun n i => ∃ k : Nat, i = .int .i64 k ∧ k ≤ ws.length ∧ n = .int .i64 (N k : Nat)) (fun _ i => ws.length - (intOf i).toNat)
        case atStart => exact ⟨0, rfl, by omega, by rw [HN0.out]; rfl⟩
        case round =>
          obtain ⟨k, rfl, hk, rfl⟩ := hrel
          by_cases hlt : k < ws.length
          · obtain ⟨b2, off2, rfl, hc2⟩ := sl_int hs3 hlt
            have hA := Lib.hid (HNS.out k hlt)
            generalize ws.getD k 0 = v at *
            generalize hq : N (k + 1) = q at *
            have HQ := Lib.hid hq
            clear hq
            generalize N k = p at *
            go_wp2_with fail
            refine (fadd_any (p : Nat) v _).mono ?_
            rw [hA.out]
            rintro e w5 ⟨rfl, rfl⟩
            unfold two
            go_wp2
            go_round
            case rel => exact ⟨k + 1, by go_num, by omega, by rw [HQ.out]⟩
            case measure => simp [intOf]; omega
          · obtain rfl : k = ws.length := by omega
            go_wp2_with fail
            refine (polys_any _).mono ?_
            rintro e w6 ⟨rfl, hb6⟩
            replace hb := hb.next' hb6
            go_wp2
            go_ret
            exact ⟨rfl, hb⟩
      | true =>
        obtain ⟨e1, e2⟩ := HLOOP.out rfl
        have t1 : ((N ws.length : Nat) : Int) = 1 := by omega
        have T1 := Lib.hid t1
        have E2 := Lib.hid e2
        clear e1 e2 t1
        go_enter Try.func4, Try.ntmps4
        go_wp2_with fail
        refine (HT.out _ hs hs2).mono ?_
        rintro e w1 ⟨rfl, hb⟩
        replace hs := hs.keep hb
        replace hs2 := hs2.keep hb
        unfold two
        go_wp2_with fail
        refine (HW.out _ hs).mono ?_
        rintro e w2 ⟨⟨C, cc, rfl, hs3⟩, hb2⟩
        replace hb := hb.next' hb2
        replace hs2 := hs2.keep hb2
        clear hb2
        dsimp only at hs3 ⊢
        go_wp2
        go_loop [13, 14] (fun n i => ∃ k : Nat, i = .int .i64 k ∧ k ≤ ws.length ∧ n = .int .i64 (N k : Nat)) (fun _ i => ws.length - (intOf i).toNat)
        case atStart => exact ⟨0, rfl, by omega, by rw [HN0.out]; rfl⟩
        case round =>
          obtain ⟨k, rfl, hk, rfl⟩ := hrel
          by_cases hlt : k < ws.length
          · obtain ⟨b2, off2, rfl, hc2⟩ := sl_int hs3 hlt
            have hA := Lib.hid (HNS.out k hlt)
            generalize ws.getD k 0 = v at *
            generalize hq : N (k + 1) = q at *
            have HQ := Lib.hid hq
            clear hq
            generalize N k = p at *
            go_wp2_with fail
            refine (fadd_any (p : Nat) v _).mono ?_
            rw [hA.out]
            rintro e w5 ⟨rfl, rfl⟩
            unfold two
            go_wp2
            go_round
            case rel => exact ⟨k + 1, by go_num, by omega, by rw [HQ.out]⟩
            case measure => simp [intOf]; omega
          · obtain rfl : k = ws.length := by omega
            rw [T1.out]
            have t3 : ((ws.length : Int) == (xs.length : Int)) = true := by have := E2.out; simp; omega
            go_wp2_with fail
            refine (polys_any _).mono ?_
            rintro e w6 ⟨rfl, hb6⟩
            replace hb := hb.next' hb6
            go_wp2
            go_ret
            exact ⟨rfl, hb⟩
    | true =>
      obtain ⟨l1, l2, l3⟩ := hlaw ho
      rw [l1] at HT
      clear hno hlaw ho l1
      obtain ⟨b', off', rfl, hcy⟩ := sl_int hs2 (k := j) (by omega)
      have hjy : (j : Int) < (ys.length : Int) := by omega
      clear l2
      generalize ys.getD j 0 = y at *
      have hty := toG_v l3
      generalize (toG y).v = yv at *
      subst hty
      clear l3
      cases f with
      | false =>
        go_enter Try.func4, Try.ntmps4
        go_wp2_with fail
        refine (HT.out _ hs hs2).mono ?_
        rintro e w1 ⟨rfl, hb⟩
        replace hs := hs.keep hb
        replace hs2 := hs2.keep hb
        unfold two
        go_wp2_with fail
        refine (HW.out _ hs).mono ?_
        rintro e w2 ⟨⟨C, cc, rfl, hs3⟩, hb2⟩
        replace hb := hb.next' hb2
        replace hs2 := hs2.keep hb2
        replace hcy := (hb.cell (p := ⟨b', off' + j, none⟩) (block_lt_of_cell hcy)).trans hcy
        clear hb2
        dsimp only at hs3 ⊢
        go_wp2
        go_loop [13, 14] (fun n i => ∃ k : Nat, i = .int .i64 k ∧ k ≤ ws.length ∧ n = .int .i64 (N k : Nat)) (fun _ i => ws.length - (intOf i).toNat)
        case atStart => exact ⟨0, rfl, by omega, by rw [HN0.out]; rfl⟩
        case round =>
          obtain ⟨k, rfl, hk, rfl⟩ := hrel
          by_cases hlt : k < ws.length
          · obtain ⟨b2, off2, rfl, hc2⟩ := sl_int hs3 hlt
            have hA := Lib.hid (HNS.out k hlt)
            generalize ws.getD k 0 = v at *
            generalize hq : N (k + 1) = q at *
            have HQ := Lib.hid hq
            clear hq
            generalize N k = p at *
            go_wp2_with fail
            refine (fadd_any (p : Nat) v _).mono ?_
            rw [hA.out]
            rintro e w5 ⟨rfl, rfl⟩
            unfold two
            go_wp2
            go_round
            case rel => exact ⟨k + 1, by go_num, by omega, by rw [HQ.out]⟩
            case measure => simp [intOf]; omega
          · obtain rfl : k = ws.length := by omega
            go_wp2_with fail
            refine (polys_any _).mono ?_
            rintro e w6 ⟨rfl, hb6⟩
            replace hb := hb.next' hb6
            go_wp2
            go_ret
            exact ⟨rfl, hb⟩
      | true =>
        obtain ⟨e1, e2⟩ := HLOOP.out rfl
        have t1 : ((N ws.length : Nat) : Int) = 1 := by omega
        have T1 := Lib.hid t1
        have E2 := Lib.hid e2
        clear e1 e2 t1
        go_enter Try.func4, Try.ntmps4
        go_wp2_with fail
        refine (HT.out _ hs hs2).mono ?_
        rintro e w1 ⟨rfl, hb⟩
        replace hs := hs.keep hb
        replace hs2 := hs2.keep hb
        unfold two
        go_wp2_with fail
        refine (HW.out _ hs).mono ?_
        rintro e w2 ⟨⟨C, cc, rfl, hs3⟩, hb2⟩
        replace hb := hb.next' hb2
        replace hs2 := hs2.keep hb2
        replace hcy := (hb.cell (p := ⟨b', off' + j, none⟩) (block_lt_of_cell hcy)).trans hcy
        clear hb2
        dsimp only at hs3 ⊢
        go_wp2
        go_loop [13, 14] (fun n i => ∃ k : Nat, i = .int .i64 k ∧ k ≤ ws.length ∧ n = .int .i64 (N k : Nat)) (fun _ i => ws.length - (intOf i).toNat)
        case atStart => exact ⟨0, rfl, by omega, by rw [HN0.out]; rfl⟩
        case round =>
          obtain ⟨k, rfl, hk, rfl⟩ := hrel
          by_cases hlt : k < ws.length
          · obtain ⟨b2, off2, rfl, hc2⟩ := sl_int hs3 hlt
            have hA := Lib.hid (HNS.out k hlt)
            generalize ws.getD k 0 = v at *
            generalize hq : N (k + 1) = q at *
            have HQ := Lib.hid hq
            clear hq
            generalize N k = p at *
            go_wp2_with fail
            refine (fadd_any (p : Nat) v _).mono ?_
            rw [hA.out]
            rintro e w5 ⟨rfl, rfl⟩
            unfold two
            go_wp2
            go_round
            case rel => exact ⟨k + 1, by go_num, by omega, by rw [HQ.out]⟩
            case measure => simp [intOf]; omega
          · obtain rfl : k = ws.length := by omega
            rw [T1.out]
            have t3 : ((ws.length : Int) == (xs.length : Int)) = true := by have := E2.out; simp; omega
            go_wp2_with fail
            refine (polys_any _).mono ?_
            rintro e w6 ⟨rfl, hb6⟩
            replace hb := hb.next' hb6
            go_wp2
            go_ret
            exact ⟨rfl, hb⟩
end Go.Proofs.Ytibmmglpeeabpaa
