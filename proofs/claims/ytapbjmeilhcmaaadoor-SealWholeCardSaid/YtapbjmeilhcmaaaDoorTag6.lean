/-
  tag: the contracts of step and Step.
-/
import Derived.Test.YtapbjmeilhcmaaaDoorTag2
import Derived.Test.YtapbjmeilhcmaaaDoorTag5
namespace Go.Proofs.YtapbjmeilhcmaaaDoor
open Go.RowKit Go.Kx
set_option maxRecDepth 20000

theorem carK_congr {f g : Nat → Nat} (h : ∀ j, j < 5 → f j = g j) (k : Nat) (hk : k ≤ 4) : ∀ j, j < 5 → carK f k j = carK g k j := by
  induction k with
  | zero => exact h
  | succ k ih =>
    intro j hj
    have ih' := ih (by omega)
    simp only [carK]
    rw [ih' k (by omega), ih' (k + 1) (by omega), ih' j hj]
theorem plus_v (a b : Nat) (ha : a < 87112285931760246646623899502532662132736) (hb : b < 87112285931760246646623899502532662132736) (d : Array Value) (hd : d = nv (canon a).at) (c : Array Value) (hc : c = nv (canon b).at) (r : Array Value) (hr : r = nv (canon (a + b)).at) (w : World) :
    Calls Tryd.prog 24 #[.agg d, .agg c] w fun e w' => e = .returned (.agg r) ∧ Below w.heap.size w w' := by
  refine plus_any _ _ d hd c hc r ?_ w
  rw [hr, ← add_canon a b (small_e ha) (small_e hb), carN, nv_ofF]
  exact nv_congr fun j hj => carK_congr (fun i hi => at_ofF _ i hi) 4 (by omega) j hj
theorem digT_small (l : List UInt8) (h : l.length ≤ 17) : digT l < 87112285931760246646623899502532662132736 := Nat.lt_of_lt_of_le (digT_lt l) (Nat.le_trans (Nat.pow_le_pow_right (by omega) h) (by decide))
theorem stepV_small (a b : Nat) (p : List UInt8) : stepV a b p < 87112285931760246646623899502532662132736 := Nat.lt_trans (stepV_lt a b p) bigP_small
theorem nv_inf {d : Array Value} {f : Nat → Nat} (hd : d = nv f) : (Tryd.prog.info? 47).map (·.size) = some d.size := by rw [hd, nv_size]; exact num_info
theorem nv_all' {d : Array Value} {f : Nat → Nat} (hd : d = nv f) : d.all (·.oneCell') = true := by rw [hd]; exact nv_all f
set_option maxHeartbeats 2000000 in
theorem step_any (a b : Nat) (ha : a < bigP) (p : ByteArray) (hp : p.size ≤ 16) (d : Array Value) (hd : d = nv (canon a).at) (c : Array Value) (hc : c = nv (canon b).at) (r : Array Value) (hr : r = nv (canon (stepV a b p.data.toList)).at) (w : World) :
    Calls Tryd.prog 23 #[.agg d, .agg c, .string p] w fun e w' => e = .returned (.agg r) ∧ Below w.heap.size w w' := by
  have has : a < 87112285931760246646623899502532662132736 := Nat.lt_trans ha bigP_small
  obtain ⟨q, hq⟩ : ∃ q : ByteArray, p ++ ⟨#[1]⟩ = q := ⟨_, rfl⟩
  have hqs : q.size = p.size + 1 := by rw [← hq, ByteArray.size_append]; rfl
  have hql : q.data.toList = p.data.toList ++ [1] := by rw [← hq]; simp
  have hadd : ∀ V : World, (Op.stringOp .add p ⟨#[1]⟩).run Tryd.prog V = .ok (.string q) V := fun V => by rw [← hq]; exact run_string_add_sum V p _ (by show p.size + 1 ≤ _; omega)
  obtain ⟨y, hy⟩ : ∃ y, digT (p.data.toList ++ [1]) = y := ⟨_, rfl⟩
  have hys : y < 87112285931760246646623899502532662132736 := by rw [← hy]; exact digT_small _ (by simp; omega)
  obtain ⟨t1, ht1⟩ : ∃ t1, t1 = nv (canon y).at := ⟨_, rfl⟩
  obtain ⟨t2, ht2⟩ : ∃ t2, t2 = nv (canon (a + y)).at := ⟨_, rfl⟩
  obtain ⟨t3, ht3⟩ : ∃ t3, t3 = nv (prodN (canon (a + y)) (canon b)).at := ⟨_, rfl⟩
  have HTEXT : Hid (∀ V : World, Calls Tryd.prog 21 #[.string q] V fun e w' => e = .returned (.agg t1) ∧ Below V.heap.size V w') :=
    Lib.hid fun V => ofText_any q (by omega) t1 (by rw [hql, hy]; exact ht1) V
  have HPLUS : Hid (∀ V : World, Calls Tryd.prog 24 #[.agg d, .agg t1] V fun e w' => e = .returned (.agg t2) ∧ Below V.heap.size V w') :=
    Lib.hid fun V => plus_v a y has hys d hd t1 ht1 t2 ht2 V
  have HTIMES : Hid (∀ V : World, Calls Tryd.prog 36 #[.agg t2, .agg c] V fun e w' => e = .returned (.agg t3) ∧ Below V.heap.size V w') :=
    Lib.hid fun V => times_any _ _ t2 ht2 c hc t3 (by rw [ht3, prodN, nv_ofF]) V
  have HLEFT : Hid (∀ V : World, Calls Tryd.prog 37 #[.agg t3] V fun e w' => e = .returned (.agg r) ∧ Below V.heap.size V w') :=
    Lib.hid fun V => left_any _ (prodN_ok _ _) t3 ht3 r (by rw [hr, stepV, hy]) V
  have hinfd := nv_inf hd
  have hinfc := nv_inf hc
  have hinf := nv_inf hr
  have hall := nv_all' hr
  have hold : zero5.size = r.size := by rw [hr, nv_size]; rfl
  have hg0 : (((w.alloc (.cells d 47)).alloc (.cells c 47)).alloc (.cells zero5 47)).heap[w.heap.size]? = some (.cells d 47 (0, 0)) := by
    rw [Below.heap_alloc _ _ _ (by simp; omega), Below.heap_alloc _ _ _ (by simp)]
    exact heap_alloc_new w _
  have hg1 : (((w.alloc (.cells d 47)).alloc (.cells c 47)).alloc (.cells zero5 47)).heap[w.heap.size + 1]? = some (.cells c 47 (0, 0)) := by
    rw [Below.heap_alloc _ _ _ (by simp)]
    have := heap_alloc_new (w.alloc (.cells d 47)) (.cells c 47)
    rwa [World.size_alloc] at this
  have hg2 : (((w.alloc (.cells d 47)).alloc (.cells c 47)).alloc (.cells zero5 47)).heap[w.heap.size + 1 + 1]? = some (.cells zero5 47 (0, 0)) := by
    have := heap_alloc_new ((w.alloc (.cells d 47)).alloc (.cells c 47)) (.cells zero5 47)
    rwa [World.size_alloc, World.size_alloc] at this
  have hbw := ((Below.alloc0 w (.cells d 47)).al (.cells c 47)).al (.cells zero5 47)
  unfold zero5 at hg0 hg1 hg2 hbw hold
  clear hd hc hr ht1 ht2 ht3 hy hys hq hql hqs
  go_enter Tryd.func23, Tryd.ntmps23
  go_wp2
  generalize (((w.alloc _).alloc _).alloc _) = W at *
  refine Uptot.begin_ [] (fun w' : World => w'.heap[w.heap.size]? = some (.cells d 47 (0, 0)) ∧ w'.heap[w.heap.size + 1]? = some (.cells c 47 (0, 0))) (fun _ : World => True) (by kernel_rfl) ?_
  have hST : (W.drew.heap[w.heap.size]? = some (.cells d 47 (0, 0)) ∧ W.drew.heap[w.heap.size + 1]? = some (.cells c 47 (0, 0))) ∧ True := ⟨⟨hg0, hg1⟩, trivial⟩
  have hz : W.drew.heap[w.heap.size + 1 + 1]? = _ := hg2
  have hb := hbw.drew
  clear hg0 hg1 hg2 hbw
  generalize W.drew = V2 at *
  refine Uptot.takeS (i := 0) rfl (by kernel_rfl) (by kernel_rfl) (by kernel_rfl) (by kernel_rfl) (fun _ _ _ h => h) (yields_load_row rfl _ _ rfl w.heap.size rfl _ _ _ _ (fun _ h => h.1) Tryd.underlying47 rfl hinfd) hST ?_
  try simp only [Act.put, List.setIfInBounds_toArray, List.set_cons_zero, List.set_cons_succ]
  refine Uptot.takeS (i := 5) rfl (by kernel_rfl) (by kernel_rfl) (by kernel_rfl) (by kernel_rfl) (fun _ _ _ h => h) (yields_load_row rfl _ _ rfl (w.heap.size + 1) rfl _ _ _ _ (fun _ h => h.2) Tryd.underlying47 rfl hinfc) hST ?_
  try simp only [Act.put, List.setIfInBounds_toArray, List.set_cons_zero, List.set_cons_succ]
  refine Uptot.one (i := 1) rfl (by kernel_rfl) (fun K hK => ?_)
  go_simp
  refine hK.out _ _ (Cond.ahead hST) ?_
  clear hK K
  try simp only [Act.put, List.setIfInBounds_toArray, List.set_cons_zero, List.set_cons_succ]
  refine Uptot.one (i := 2) rfl (by kernel_rfl) (fun K hK => ?_)
  go_simp
  refine hK.out _ _ (Cond.ahead hST) ?_
  clear hK K
  try simp only [Act.put, List.setIfInBounds_toArray, List.set_cons_zero, List.set_cons_succ]
  refine Uptot.one (i := 3) rfl (by kernel_rfl) (fun K hK => ?_)
  go_simp
  go_at_call 21
  refine (HTEXT.out _).mono ?_
  rintro e' w3 ⟨rfl, hb3⟩
  have hST3 : (w3.heap[w.heap.size]? = some (.cells d 47 (0, 0)) ∧ w3.heap[w.heap.size + 1]? = some (.cells c 47 (0, 0))) ∧ True := ⟨⟨(hb3.block _ (Array.getElem?_eq_some_iff.1 hST.1.1).1).trans hST.1.1, (hb3.block _ (Array.getElem?_eq_some_iff.1 hST.1.2).1).trans hST.1.2⟩, trivial⟩
  have hz3 := (hb3.block _ (Array.getElem?_eq_some_iff.1 hz).1).trans hz
  have hbw3 := hb.next' hb3
  clear hST hz hb hb3
  refine hK.out _ _ (Cond.ahead hST3) ?_
  clear hK K
  try simp only [Act.put, List.setIfInBounds_toArray, List.set_cons_zero, List.set_cons_succ]
  refine Uptot.one (i := 4) rfl (by kernel_rfl) (fun K hK => ?_)
  go_simp
  go_at_call 24
  refine (HPLUS.out _).mono ?_
  rintro e' w4 ⟨rfl, hb3⟩
  have hST4 : (w4.heap[w.heap.size]? = some (.cells d 47 (0, 0)) ∧ w4.heap[w.heap.size + 1]? = some (.cells c 47 (0, 0))) ∧ True := ⟨⟨(hb3.block _ (Array.getElem?_eq_some_iff.1 hST3.1.1).1).trans hST3.1.1, (hb3.block _ (Array.getElem?_eq_some_iff.1 hST3.1.2).1).trans hST3.1.2⟩, trivial⟩
  have hz4 := (hb3.block _ (Array.getElem?_eq_some_iff.1 hz3).1).trans hz3
  have hbw4 := hbw3.next' hb3
  clear hST3 hz3 hbw3 hb3
  refine hK.out _ _ (Cond.ahead hST4) ?_
  clear hK K
  try simp only [Act.put, List.setIfInBounds_toArray, List.set_cons_zero, List.set_cons_succ]
  refine Uptot.one (i := 6) rfl (by kernel_rfl) (fun K hK => ?_)
  go_simp
  go_at_call 36
  refine (HTIMES.out _).mono ?_
  rintro e' w6 ⟨rfl, hb3⟩
  have hST6 : (w6.heap[w.heap.size]? = some (.cells d 47 (0, 0)) ∧ w6.heap[w.heap.size + 1]? = some (.cells c 47 (0, 0))) ∧ True := ⟨⟨(hb3.block _ (Array.getElem?_eq_some_iff.1 hST4.1.1).1).trans hST4.1.1, (hb3.block _ (Array.getElem?_eq_some_iff.1 hST4.1.2).1).trans hST4.1.2⟩, trivial⟩
  have hz6 := (hb3.block _ (Array.getElem?_eq_some_iff.1 hz4).1).trans hz4
  have hbw6 := hbw4.next' hb3
  clear hST4 hz4 hbw4 hb3
  refine hK.out _ _ (Cond.ahead hST6) ?_
  clear hK K
  try simp only [Act.put, List.setIfInBounds_toArray, List.set_cons_zero, List.set_cons_succ]
  refine Uptot.one (i := 7) rfl (by kernel_rfl) (fun K hK => ?_)
  go_simp
  go_at_call 37
  refine (HLEFT.out _).mono ?_
  rintro e' w7 ⟨rfl, hb3⟩
  have hST7 : (w7.heap[w.heap.size]? = some (.cells d 47 (0, 0)) ∧ w7.heap[w.heap.size + 1]? = some (.cells c 47 (0, 0))) ∧ True := ⟨⟨(hb3.block _ (Array.getElem?_eq_some_iff.1 hST6.1.1).1).trans hST6.1.1, (hb3.block _ (Array.getElem?_eq_some_iff.1 hST6.1.2).1).trans hST6.1.2⟩, trivial⟩
  have hz7 := (hb3.block _ (Array.getElem?_eq_some_iff.1 hz6).1).trans hz6
  have hbw7 := hbw6.next' hb3
  clear hST6 hz6 hbw6 hb3
  refine hK.out _ _ (Cond.ahead hST7) ?_
  clear hK K
  try simp only [Act.put, List.setIfInBounds_toArray, List.set_cons_zero, List.set_cons_succ]
  have hST8 : ((w7.setRow (w.heap.size + 1 + 1) r).heap[w.heap.size]? = some (.cells d 47 (0, 0)) ∧ (w7.setRow (w.heap.size + 1 + 1) r).heap[w.heap.size + 1]? = some (.cells c 47 (0, 0))) ∧ True :=
    ⟨⟨(setRow_other _ _ _ _ (by omega)).trans hST7.1.1, (setRow_other _ _ _ _ (by omega)).trans hST7.1.2⟩, trivial⟩
  refine Uptot.one (i := 8) rfl (by kernel_rfl) (fun K hK => ?_)
  rw [wanted_plain rfl, if_pos rfl]
  refine wp_store_row _ _ _ rfl (w.heap.size + 1 + 1) _ rfl rfl _ _ hz7 hinf hold hall ?_
  refine hK.out _ _ (Cond.ahead hST8) ?_
  clear hK K
  refine Uptot.done (by kernel_rfl) ?_ _
  go_wp2
  exact bodyPost_ret (v := .agg r) (results_cell_row rfl _ _ (w.heap.size + 1 + 1) _ _ _ _ rfl (setRow_heap _ _ _ _ _ _ hz7) Tryd.underlying47 rfl hinf) rfl ⟨rfl, hbw7.setRow (by omega) _⟩
end Go.Proofs.YtapbjmeilhcmaaaDoor
