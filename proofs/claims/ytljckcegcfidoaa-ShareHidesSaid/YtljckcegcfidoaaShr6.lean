/-
  share: the contract of sum.
-/
import Derived.Test.YtljckcegcfidoaaShr5
namespace Go.Proofs.Ytljckcegcfidoaa
open Go.RowKit Go.Kx
set_option maxRecDepth 20000

/-- The sum of the first k rows, each times its weight. -/
def accR (ws : List Int) (F : Nat → Nat → Gf.G) (k j : Nat) : Gf.G := Gf.sumG ((List.range k).map fun i => toG (ws.getD i 0) * F i j)
theorem accR_succ (ws : List Int) (F : Nat → Nat → Gf.G) (k j : Nat) : accR ws F (k + 1) j = accR ws F k j + toG (ws.getD k 0) * F k j := by
  unfold accR
  rw [List.range_succ, List.map_append, Gf.sumG_append]
  show _ + (_ + 0) = _
  rw [Gf.G.add_zero]
theorem sl_old {w : World} {A : Option Addr} {vs : List Value} (h : Sl w A vs) {b off : Nat} (e : A = some ⟨b, off, none⟩) (hv : 0 < vs.length) : b < w.heap.size := by
  rcases h with h | ⟨b', off', e', hlt, _⟩
  · subst h; simp at hv
  · rw [e] at e'
    cases e'
    exact hlt
set_option maxHeartbeats 4000000 in
theorem ssum_any (g M n : Nat) (F : Nat → Nat → Gf.G) (ws : List Int) (A : Option Addr) (c : Nat) (hn : ws.length = n) (hn2 : n ≤ 255) (hd : allI dig ws = true) (w : World) (hf : Fld w g) (hr : Rws w M n F) (hs : Sl w A (intsI ws)) :
    Calls Try.prog 35 #[.pointer (some ⟨g, 0, none⟩), .slice (some ⟨M, 0, none⟩) n n, .slice A n c] w fun e w' => e = .returned (.agg (rowV (accR ws F n))) ∧ Below w.heap.size w w' := by
  have HN := Lib.hid hn
  have hz : zero32 = rowV (accR ws F 0) := by
    show _ = rowV fun _ => 0
    rw [rowV, rowA, zero32_eq]
    congr 1
  obtain ⟨z, hzz, hzs⟩ : ∃ z : Array Value, zero32 = z ∧ z.size = 32 := ⟨_, rfl, rfl⟩
  have hg0 : ((w.alloc (.cells zero32 52)).alloc (.cells zero32 52)).heap[w.heap.size]? = some (.cells zero32 52 (0, 0)) :=
    (Below.heap_alloc _ _ _ (by simp)).trans (heap_alloc_new w _)
  have hg1 : ((w.alloc (.cells zero32 52)).alloc (.cells zero32 52)).heap[w.heap.size + 1]? = some (.cells zero32 52 (0, 0)) := by
    have := heap_alloc_new (w.alloc (.cells zero32 52)) (.cells zero32 52)
    rwa [World.size_alloc] at this
  have hb0 : Below w.heap.size w ((w.alloc (.cells zero32 52)).alloc (.cells zero32 52)) := (Below.alloc0 _ _).al _
  replace hg0 := hg0.trans (congrArg (fun d => some (Obj.cells d 52 (0, 0))) hzz)
  replace hg1 := hg1.trans (congrArg (fun d => some (Obj.cells d 52 (0, 0))) hz)
  clear hz hzz hn
  unfold zero32 at hg0 hg1 hb0
  go_enter Try.func35, Try.ntmps35
  go_wp2
  generalize World.alloc (World.alloc w _) _ = W at *
  have hS1 : w.heap.size + 1 < W.heap.size := (Array.getElem?_eq_some_iff.1 hg1).1
  go_loopw [12] (fun i wr => ∃ k : Nat, k ≤ n ∧ i = .int .i64 (k : Int) ∧ wr.heap[w.heap.size + 1]? = some (.cells (rowV (accR ws F k)) 52 (0, 0)) ∧ wr.heap[w.heap.size]? = some (.cells z 52 (0, 0)) ∧ Below w.heap.size w wr) (fun i _ => n - (intOf i).toNat)
  case atStart => exact ⟨0, by omega, rfl, hg1, hg0, hb0⟩
  case round =>
    clear hg1 hg0 hb0 hS1
    obtain ⟨k, hk, rfl, hg1, hg0, hb⟩ := hrel
    by_cases hlt : k < n
    · have hltn : k < ws.length := by rw [HN.out]; exact hlt
      obtain ⟨b, off, rfl, hx⟩ := sl_int (hs.keep hb) hltn
      have hbw : b < w.heap.size := sl_old hs rfl (by rw [intsI_length]; omega)
      have hxd := allI_at hd hltn
      have hrg := (hr.keep hb).range hlt
      have hinfR := row_info' (F k)
      have hallR := rowV_one (F k)
      have hzd : zero32.size = (rowV (F k)).size := by rw [rowV_size]; rfl
      have hinfS := row_info' (accR ws F k)
      have hinf2 := row_info' (accR ws F (k + 1))
      have hall2 := rowV_one (accR ws F (k + 1))
      have hsz2 : (rowV (accR ws F k)).size = (rowV (accR ws F (k + 1))).size := by rw [rowV_size, rowV_size]
      have hfr := hf.keep hb
      obtain ⟨x, hxx⟩ : ∃ x, ws.getD k 0 = x := ⟨_, rfl⟩
      have HT : Hid (∀ V, Fld V g → Calls Try.prog 44 #[.agg (rowV (F k)), .pointer (some ⟨g, 0, none⟩), .int .i64 x] V fun e w' => e = .returned (.agg (rowV fun j => toG x * F k j)) ∧ Below V.heap.size V w') :=
        Lib.hid (fun V hV => stimes_any (F k) g x (by rw [← hxx]; exact hxd) V hV)
      have HP : Hid (∀ V, Calls Try.prog 43 #[.agg (rowV (accR ws F k)), .agg (rowV fun j => toG x * F k j)] V fun e w' => e = .returned (.agg (rowV (accR ws F (k + 1)))) ∧ Below V.heap.size V w') := Lib.hid (fun V => by
        have h := splus_any (accR ws F k) (fun j => toG x * F k j) V
        rw [rowV_congr (R := fun j => accR ws F k j + toG x * F k j) (S := accR ws F (k + 1)) (fun j _ => by rw [accR_succ, hxx])] at h
        exact h)
      rw [hxx] at hx
      clear hxx hxd
      generalize (rowV fun j => toG x * F k j) = dT at *
      generalize rowV (F k) = dR at *
      generalize hD1 : rowV (accR ws F k) = dS at *
      clear hD1
      obtain ⟨d2, hD2⟩ : ∃ d, rowV (accR ws F (k + 1)) = d := ⟨_, rfl⟩
      have HD2 := Lib.hid hD2
      rw [hD2] at HP hinf2 hall2 hsz2
      clear hD2
      have hinfl : (Try.prog.info? 52).map (·.size) = some dR.toList.length := hinfR
      have hz0 : (wr.alloc (.cells zero32 52)).heap[wr.heap.size]? = some (.cells zero32 52 (0, 0)) := heap_alloc_new _ _
      have hP1 := setRow_heap _ wr.heap.size _ dR _ _ hz0
      have hkz := (Below.alloc0 wr (.cells zero32 52)).setRow (Nat.le_refl _) dR
      have hg1' := (hkz.block _ (Array.getElem?_eq_some_iff.1 hg1).1).trans hg1
      have hg0' := (hkz.block _ (Array.getElem?_eq_some_iff.1 hg0).1).trans hg0
      have hx' := (hkz.cell (p := ⟨b, off + k, none⟩) (block_lt_of_cell hx)).trans hx
      have hf' := hfr.keep hkz
      have hb' := hb.next' hkz
      have hPS : w.heap.size + 1 < wr.heap.size := (Array.getElem?_eq_some_iff.1 hg1).1
      unfold zero32 at hz0 hP1 hzd hg1' hg0' hx' hf' hb'
      clear hkz
      go_wp2_with (first
        | (refine wpList_load_mid rfl _ _ rfl M (k * 32) rfl _ _ hrg Try.underlying52 rfl hinfl ?_)
        | (refine wpList_store_row rfl _ _ _ rfl wr.heap.size dR rfl rfl _ _ hz0 hinfR hzd hallR ?_))
      clear hg1 hg0 hx hb hrg hz0 hzd hfr
      generalize World.setRow _ _ dR = W1 at *
      generalize wr.heap.size = P at *
      refine Uptot.begin_ [9] (fun V : World => V.heap[P]? = some (.cells dR 52 (0, 0)) ∧ V.cell? ⟨b, off + k, none⟩ = some (.int .i64 x)) (fun V : World => V.heap[w.heap.size + 1]? = some (.cells dS 52 (0, 0))) (by kernel_rfl) ?_
      have hbV : Below W1.heap.size W1 W1.drew := Below.drew0 W1
      have hST : (W1.drew.heap[P]? = some (.cells dR 52 (0, 0)) ∧ W1.drew.cell? ⟨b, off + k, none⟩ = some (.int .i64 x)) ∧ W1.drew.heap[w.heap.size + 1]? = some (.cells dS 52 (0, 0)) := ⟨⟨hP1, hx'⟩, hg1'⟩
      have hfV := hf'.keep hbV
      clear hP1 hx' hg1' hf'
      generalize W1.drew = V at *
      refine Uptot.take (i := 0) rfl (by kernel_rfl) (by kernel_rfl) (by kernel_rfl) (by kernel_rfl) (fun _ _ _ h => h) (yields_load_row rfl _ _ rfl (w.heap.size + 1) rfl _ _ _ _ (fun _ h => h.2) Try.underlying52 rfl hinfS) hST ?_
      try simp only [Act.put, List.setIfInBounds_toArray, List.set_cons_zero, List.set_cons_succ]
      refine Uptot.takeS (i := 1) rfl (by kernel_rfl) (by kernel_rfl) (by kernel_rfl) (by kernel_rfl) (fun _ _ _ h => h) (yields_load_row rfl _ _ rfl P rfl _ _ _ _ (fun _ h => h.1) Try.underlying52 rfl hinfR) hST ?_
      try simp only [Act.put, List.setIfInBounds_toArray, List.set_cons_zero, List.set_cons_succ]
      refine Uptot.takeS (i := 2) (v := ?_) rfl (by kernel_rfl) (by kernel_rfl) (by kernel_rfl) (by kernel_rfl) (fun _ _ _ h => h) (Or.inl ⟨by rfl, ?_⟩) hST ?_
      rotate_left 1
      · intro w9 hSw; (try dsimp only at hSw); obtain ⟨s1', s2'⟩ := hSw; go_simp; (try with_reducible rfl)
      try simp only [Act.put, List.setIfInBounds_toArray, List.set_cons_zero, List.set_cons_succ]
      refine Uptot.takeS (i := 3) (v := ?_) rfl (by kernel_rfl) (by kernel_rfl) (by kernel_rfl) (by kernel_rfl) (fun _ _ _ h => h) (Or.inl ⟨by rfl, ?_⟩) hST ?_
      rotate_left 1
      · intro w9 hSw; (try dsimp only at hSw); obtain ⟨s1', s2'⟩ := hSw; go_simp; (try with_reducible rfl)
      try simp only [Act.put, List.setIfInBounds_toArray, List.set_cons_zero, List.set_cons_succ]
      refine Uptot.takeS (i := 4) (v := ?_) rfl (by kernel_rfl) (by kernel_rfl) (by kernel_rfl) (by kernel_rfl) (fun _ _ _ h => h) (Or.inl ⟨by rfl, ?_⟩) hST ?_
      rotate_left 1
      · intro w9 hSw; (try dsimp only at hSw); obtain ⟨s1', s2'⟩ := hSw; go_simp; (try with_reducible rfl)
      try simp only [Act.put, List.setIfInBounds_toArray, List.set_cons_zero, List.set_cons_succ]
      refine Uptot.takeS (i := 5) (v := ?_) rfl (by kernel_rfl) (by kernel_rfl) (by kernel_rfl) (by kernel_rfl) (fun _ _ _ h => h) (Or.inl ⟨by rfl, ?_⟩) hST ?_
      rotate_left 1
      · intro w9 hSw; (try dsimp only at hSw); obtain ⟨s1', s2'⟩ := hSw; go_simp; (try with_reducible rfl)
      try simp only [Act.put, List.setIfInBounds_toArray, List.set_cons_zero, List.set_cons_succ]
      refine Uptot.takeS (i := 6) (v := ?_) rfl (by kernel_rfl) (by kernel_rfl) (by kernel_rfl) (by kernel_rfl) (fun _ _ _ h => h) (Or.inl ⟨by rfl, ?_⟩) hST ?_
      rotate_left 1
      · intro w9 hSw; (try dsimp only at hSw); obtain ⟨s1', s2'⟩ := hSw; go_simp; (try with_reducible rfl)
      try simp only [Act.put, List.setIfInBounds_toArray, List.set_cons_zero, List.set_cons_succ]
      refine Uptot.one (i := 7) rfl (by kernel_rfl) (fun K hK9 => ?_)
      go_simp
      go_at_call 44
      refine (HT.out _ hfV).mono ?_
      rintro e' V9 ⟨rfl, hb9⟩
      replace hST : (V9.heap[P]? = some (.cells dR 52 (0, 0)) ∧ V9.cell? ⟨b, off + k, none⟩ = some (.int .i64 x)) ∧ V9.heap[w.heap.size + 1]? = some (.cells dS 52 (0, 0)) :=
        ⟨⟨(hb9.block _ (Array.getElem?_eq_some_iff.1 hST.1.1).1).trans hST.1.1, (hb9.cell (p := ⟨b, off + k, none⟩) (block_lt_of_cell hST.1.2)).trans hST.1.2⟩, (hb9.block _ (Array.getElem?_eq_some_iff.1 hST.2).1).trans hST.2⟩
      replace hbV := hbV.next hb9
      refine hK9.out _ _ (Cond.ahead hST) ?_
      clear hK9 K hb9
      clear hfV
      try simp only [Act.put, List.setIfInBounds_toArray, List.set_cons_zero, List.set_cons_succ]
      refine Uptot.one (i := 8) rfl (by kernel_rfl) (fun K hK9 => ?_)
      go_simp
      go_at_call 43
      refine (HP.out _).mono ?_
      rintro e' V10 ⟨rfl, hb9⟩
      replace hST : (V10.heap[P]? = some (.cells dR 52 (0, 0)) ∧ V10.cell? ⟨b, off + k, none⟩ = some (.int .i64 x)) ∧ V10.heap[w.heap.size + 1]? = some (.cells dS 52 (0, 0)) :=
        ⟨⟨(hb9.block _ (Array.getElem?_eq_some_iff.1 hST.1.1).1).trans hST.1.1, (hb9.cell (p := ⟨b, off + k, none⟩) (block_lt_of_cell hST.1.2)).trans hST.1.2⟩, (hb9.block _ (Array.getElem?_eq_some_iff.1 hST.2).1).trans hST.2⟩
      replace hbV := hbV.next hb9
      refine hK9.out _ _ (Cond.ahead hST) ?_
      clear hK9 K hb9
      try simp only [Act.put, List.setIfInBounds_toArray, List.set_cons_zero, List.set_cons_succ]
      refine Uptot.one (i := 9) rfl (by kernel_rfl) (fun K hK9 => ?_)
      rw [wanted_plain rfl, if_pos rfl]
      refine wp_store_row _ _ _ rfl (w.heap.size + 1) d2 rfl rfl _ _ hST.2 hinf2 hsz2 hall2 ?_
      have hnew := setRow_heap _ (w.heap.size + 1) _ d2 _ _ hST.2
      have hz9 := (setRow_other V10 (w.heap.size + 1) w.heap.size d2 (by omega)).trans ((hbV.block _ (Array.getElem?_eq_some_iff.1 hg0').1).trans hg0')
      have hbE := (hb'.next' hbV).setRow (g := w.heap.size + 1) (by omega) d2
      have hSS : (V10.setRow (w.heap.size + 1) d2).heap[P]? = some (.cells dR 52 (0, 0)) ∧ (V10.setRow (w.heap.size + 1) d2).cell? ⟨b, off + k, none⟩ = some (.int .i64 x) :=
        ⟨(setRow_other V10 (w.heap.size + 1) P d2 (by omega)).trans hST.1.1, ((((Below.refl _ V10).setRow (g := w.heap.size + 1) (Nat.le_refl _) d2).cell (p := ⟨b, off + k, none⟩) (by show b < _; omega))).trans hST.1.2⟩
      refine hK9.out _ _ (Cond.behind hSS (by kernel_rfl)) ?_
      clear hK9 K
      try simp only [Act.put]
      refine Uptot.done (by kernel_rfl) ?_ _
      clear hSS hST hbV hb' hg0'
      generalize World.setRow _ _ d2 = V11 at *
      rw [← HD2.out] at hnew
      go_wp2
      go_roundw
      case rel => exact ⟨k + 1, by omega, by go_num, hnew, hz9, hbE⟩
      case measure => simp [intOf]; omega
    · obtain rfl : k = n := by omega
      obtain ⟨d, hD⟩ : ∃ d, rowV (accR ws F k) = d := ⟨_, rfl⟩
      have HD := Lib.hid hD
      have hinf := row_info' (accR ws F k)
      have hall := rowV_one (accR ws F k)
      have hds := rowV_size (accR ws F k)
      rw [hD] at hg1 hinf hall hds
      clear hD
      have hzd : z.size = d.size := by rw [hzs, hds]
      clear hds
      go_wp2_with (first
        | (refine wpList_load_row rfl _ _ rfl (w.heap.size + 1) rfl _ _ _ _ hg1 Try.underlying52 rfl hinf ?_)
        | (refine wpList_store_row rfl _ _ _ rfl w.heap.size _ rfl rfl _ _ hg0 hinf hzd hall ?_))
      exact bodyPost_ret (v := .agg d) (results_cell_row rfl _ _ w.heap.size _ _ _ _ rfl (setRow_heap _ _ _ _ _ _ hg0) Try.underlying52 rfl hinf) rfl ⟨by rw [HD.out], hb.setRow (Nat.le_refl _) _⟩
end Go.Proofs.Ytljckcegcfidoaa
