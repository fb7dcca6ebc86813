/-
  tag: the contract of Tag.
-/
import Derived.Test.YtapbjmeilhcmaaaDoorTag8
import Derived.Test.YtapbjmeilhcmaaaDoorRowIn
import Derived.RangeFuncBox
import Derived.RangeFuncFrom
namespace Go.Proofs.YtapbjmeilhcmaaaDoor
open Go.RowKit Go.Kx Go.Shelf
set_option maxRecDepth 20000
attribute [local go_sem] Oper.semAt_some

theorem tag_no (key s : ByteArray) (hk : key.size ≠ 32) (w : World) :
    Calls Tryd.prog 11 #[.string key, .string s] w fun e w' => e = .returned (.tuple #[.string ⟨#[]⟩, .int .i64 1]) ∧ Below w.heap.size w w' := by
  have hne : ((key.size : Int) != 32) = true := by rw [bne_iff_ne]; omega
  go_enter Tryd.func11, Tryd.ntmps11
  go_wp2
  go_ret2
  exact ⟨rfl, Below.refl _ _⟩
theorem KpB1_t {b1 : Nat} {A B C : World} (h : KpB1 b1 A B) (k : KpB1 b1 B C) : KpB1 b1 A C := k.trans h
theorem KpB1_b {b1 : Nat} {w : World} (h1 : b1 < w.heap.size) (W : World) (l : Nat) (o o' : Obj) (hl : w.heap.size ≤ l) (_ : W.heap[l]? = some o) (_ : o.isCells = false) (_ : o.isWalk = false) : KpB1 b1 W (W.putObj l o') :=
  World.putObj_heap_other (by omega)
theorem ownFrom_heap {β : Type} {B k : Nat} (hk : k < B) (o : β → Obj) : OwnFrom B (fun (s : β) W => W.heap[k]? = some (o s)) := fun s W W' row hs hg hr =>
  (hg.block k (Array.getElem?_eq_some_iff.1 hs).1 (by rintro e; have := (hr k e.symm).1; omega)).trans hs
theorem others_setRow {W : World} {g : Nat} {old cs : Array Value} {t : TypeId} {fr : Nat × Nat} (h : W.heap[g]? = some (.cells old t fr)) : KeepsOthers W (W.setRow g cs) :=
  ⟨by simp, fun k o hk ho => by
    by_cases e : k = g
    · subst e
      rw [h] at hk
      obtain rfl := Option.some.inj hk
      cases ho
    · exact (setRow_other W g k cs e).trans hk⟩
theorem zero5_acc (R : Nat) : zero5 = nv (canon (accP R [])).at := zero5_eq.trans (nv_congr fun j _ => (canon_zero j).symm)
/-- Only the end of an operation that goes on. -/
def onNormal (Q : Exit → Act → World → Prop) : Exit → Act → World → Prop
  | .normal, a, w => Q .normal a w
  | _, _, _ => False
theorem onNormal_out {Q : Exit → Act → World → Prop} : ∀ e a w, onNormal Q e a w → Q e a w
  | .normal, _, _, h => h
theorem onNormal_in {Q : Exit → Act → World → Prop} {a : Act} {w : World} (h : Q .normal a w) : onNormal Q .normal a w := h
set_option maxHeartbeats 2000000 in
theorem tag_yes (key s : ByteArray) (hk : key.size = 32) (hs : s.size ≤ 8200) (r : ByteArray) (hr : ⟨(lowL (tagV key.data.toList s.data.toList)).toArray⟩ = r) (w : World) :
    Calls Tryd.prog 11 #[.string key, .string s] w fun e w' => e = .returned (.tuple #[.string r, .int .i64 0]) ∧ Below w.heap.size w w' := by
  refine (callsIn_wide (n := 3)).1 ?_
  refine callsIn_of_wp_marks Tryd.func11 rfl trivial ?_ rfl
  simp only [Tryd.ntmps11, List.size_toArray, List.length_cons, List.length_nil, Nat.reduceAdd, Nat.reduceSub, Array.replicate_succ, Array.replicate_zero, List.push_toArray, List.append_toArray, List.nil_append, List.cons_append]
  have hkl : key.data.toList.length = 32 := by simpa using hk
  obtain ⟨k1, hk1⟩ : ∃ k1, key.extract 0 16 = k1 := ⟨_, rfl⟩
  obtain ⟨k2, hk2⟩ : ∃ k2, key.extract 16 key.size = k2 := ⟨_, rfl⟩
  have hl1 : k1.data.toList = key.data.toList.take 16 := by rw [← hk1, str_ext]; rfl
  have hl2 : k2.data.toList = key.data.toList.drop 16 := by rw [← hk2, str_ext, List.take_of_length_le (by simp)]
  have hz1 : k1.size = 16 := by have : k1.data.toList.length = 16 := by rw [hl1, List.length_take]; omega
                                simpa using this
  have hz2 : k2.size = 16 := by have : k2.data.toList.length = 16 := by rw [hl2, List.length_drop]; omega
                                simpa using this
  have hs1 : ∀ V : World, (Instr.slice 9 (.string key) none (some (.int .i64 16)) none).run Tryd.prog V = .ok (.string k1) V := fun V => by rw [← hk1]; exact str_to Tryd.underlying9 key 16 (by omega) V
  have hs2 : ∀ V : World, (Instr.slice 9 (.string key) (some (.int .i64 16)) none none).run Tryd.prog V = .ok (.string k2) V := fun V => by rw [← hk2]; exact str_from Tryd.underlying9 key 16 (by omega) V
  obtain ⟨c, hc⟩ : ∃ c : ByteArray, ⟨(clampL k1.data.toList).toArray⟩ = c := ⟨_, rfl⟩
  have hcl : c.data.toList = clampL k1.data.toList := by rw [← hc]
  have hcz : c.size = 16 := by rw [← hc, size_mk, clampL_length]; simpa using hz1
  obtain ⟨R, hR⟩ : ∃ R, digT c.data.toList = R := ⟨_, rfl⟩
  obtain ⟨E, hE⟩ : ∃ E, digT k2.data.toList = E := ⟨_, rfl⟩
  obtain ⟨A, hA⟩ : ∃ A, accV R s.data.toList (partsN s.size) = A := ⟨_, rfl⟩
  have hAl : A < bigP := by rw [← hA]; exact accV_lt _ _ _
  have hEl : E < 256 ^ 16 := by rw [← hE]; have := digT_lt k2.data.toList; rwa [show k2.data.toList.length = 16 by simpa using hz2] at this
  obtain ⟨dR, hdR⟩ : ∃ d, d = nv (canon R).at := ⟨_, rfl⟩
  obtain ⟨dE, hdE⟩ : ∃ d, d = nv (canon E).at := ⟨_, rfl⟩
  obtain ⟨dA, hdA⟩ : ∃ d, d = nv (canon A).at := ⟨_, rfl⟩
  obtain ⟨dS, hdS⟩ : ∃ d, d = nv (canon (A + E)).at := ⟨_, rfl⟩
  have HCL : Hid (∀ V : World, Calls Tryd.prog 20 #[.string k1] V fun e w' => e = .returned (.tuple #[.string c, .bool true]) ∧ Below V.heap.size V w') := Lib.hid fun V => Clamp_yes k1 hz1 c hc V
  have HTR : Hid (∀ V : World, Calls Tryd.prog 21 #[.string c] V fun e w' => e = .returned (.agg dR) ∧ Below V.heap.size V w') := Lib.hid fun V => ofText_any c (by omega) dR (by rw [hR]; exact hdR) V
  have HTE : Hid (∀ V : World, Calls Tryd.prog 21 #[.string k2] V fun e w' => e = .returned (.agg dE) ∧ Below V.heap.size V w') := Lib.hid fun V => ofText_any k2 (by omega) dE (by rw [hE]; exact hdE) V
  have hPs : (256 : Nat) ^ 16 < 87112285931760246646623899502532662132736 := by decide
  have HPL : Hid (∀ V : World, Calls Tryd.prog 24 #[.agg dA, .agg dE] V fun e w' => e = .returned (.agg dS) ∧ Below V.heap.size V w') :=
    Lib.hid fun V => plus_v A E (Nat.lt_trans hAl bigP_small) (Nat.lt_trans hEl hPs) dA hdA dE hdE dS hdS V
  have hSl : A + E < 87112285931760246646623899502532662132736 := Nat.lt_trans (Nat.add_lt_add hAl hEl) (by decide)
  have HLW : Hid (∀ V : World, Calls Tryd.prog 25 #[.agg dS] V fun e w' => e = .returned (.string r) ∧ Below V.heap.size V w') :=
    Lib.hid fun V => lowest_any (A + E) hSl dS hdS r (by rw [← hr, tagV, show s.data.toList.length = s.size by simp, ← hl1, ← hl2, ← hcl, hR, hE, hA]) V
  have hmf : ∀ (fn : Fn) (first cap : Array Value) (w : World), (Instr.makeFunc fn first cap).run Tryd.prog w = .ok (.func fn first cap) w := fun _ _ _ _ => rfl
  have hne : ((key.size : Int) != 32) = false := by rw [hk]; rfl
  have hsz : ¬ (8200 : Int) < (s.size : Int) := by omega
  have hinfR := nv_inf hdR
  have hinfA := nv_inf hdA
  have hallR := nv_all' hdR
  have holdR : zero5.size = dR.size := by rw [hdR, nv_size]; rfl
  have hst : ∀ V : World, (V.alloc (.cells zero5 47)).heap[V.heap.size]? = some (.cells zero5 47 (0, 0)) := fun V => heap_alloc_new V _
  have HDA := Lib.hid hdA
  have HDR := Lib.hid hdR
  have HA := Lib.hid hA
  unfold zero5 at holdR hst
  clear hk1 hk2 hl1 hl2 hc hcl hcz hR hE hA hdR hdE hdA hdS hEl hSl hkl hk hPs
  gi_wp2_with (first
    | (refine ⟨trivial, ?_⟩; gi_at_call 20; refine (callsIn_wide.2 (HCL.out _)).mono ?_; rintro e w1 ⟨rfl, hb1⟩)
    | (refine ⟨trivial, ?_⟩; gi_at_call 21; refine (callsIn_wide.2 (HTR.out _)).mono ?_; rintro e w2 ⟨rfl, hb2⟩)
    | (refine wpListIn_store_row rfl _ _ _ rfl w2.heap.size _ rfl rfl _ _ (hst w2) hinfR holdR hallR ?_))
  have hbw2 := hb1.next hb2
  have v0 := setRow_heap _ w2.heap.size _ dR _ _ (hst w2)
  have hb3 := (hbw2.al (.cells zero5 47)).setRow (g := w2.heap.size) hbw2.size dR
  unfold zero5 at hb3
  have hsz3 : (World.setRow (w2.alloc (.cells zero5 47)) w2.heap.size dR).heap.size = w2.heap.size + 1 := by simp
  unfold zero5 at hsz3
  have hNB := hbw2.size
  clear hb1 hb2 hbw2
  generalize hB : w2.heap.size = B at *
  generalize hX : World.setRow _ B dR = X at *
  clear hX hB
  have va : (X.alloc (.cells zero5 47)).heap[B + 1]? = some (.cells (nv (canon (accP R [])).at) 47 (0, 0)) := by rw [← hsz3, ← zero5_acc]; exact zero5_heap X
  have vr := (Below.heap_alloc X (.cells zero5 47) B (by omega)).trans v0
  have hb4 := hb3.al (.cells zero5 47)
  have hsz4 : (X.alloc (.cells zero5 47)).heap.size = B + 2 := by simp [hsz3]
  unfold zero5 at va vr hb4 hsz4
  clear v0 hb3
  generalize X.alloc _ = Y at *
  gi_wp2_with (refine ⟨trivial, ?_⟩; gi_at_call 22; refine (callsIn_wide.2 (parts_any s _)).mono ?_; rintro e w3 ⟨rfl, rfl⟩)
  have wa := (Below.heap_alloc Y (.cells #[.string s] 9) (B + 1) (by omega)).trans va
  have wr := (Below.heap_alloc Y (.cells #[.string s] 9) B (by omega)).trans vr
  have hb5 := hb4.al (.cells #[.string s] 9)
  have hsz5 : (Y.alloc (.cells #[.string s] 9)).heap.size = B + 3 := by simp [hsz4]
  have hc5 : (Y.alloc (.cells #[.string s] 9)).cell? ⟨B + 2, 0, none⟩ = some (.string s) := by rw [← hsz4]; go_simp
  have ws : (Y.alloc (.cells #[.string s] 9)).heap[B + 2]? = some (.cells #[.string s] 9 (0, 0)) := by rw [← hsz4]; exact heap_alloc_new Y _
  clear va vr hb4 hsz4
  generalize Y.alloc _ = V at *
  clear hst
  obtain ⟨N, hN⟩ : ∃ N, N = w.heap.size := ⟨_, rfl⟩
  rw [← hN] at hb5 hNB
  have HN := Lib.hid hN
  have HV : Hid (V.heap.size = B + 3) := Lib.hid hsz5
  clear hN hsz3
  refine wpIn_rangeFunc_ownF rfl (by omega) (gf := 35) (lb := #[.pointer (some ⟨B + 2, 0, none⟩)]) rfl trivial
    (enters_of Tryd.func35 (by kernel_rfl) rfl) (parts1_in 2 (by omega) (B + 2) s hs V hc5) KpB1_t (KpB1_b (by omega)) (Below.refl _ _) (fun _ => rfl)
    (fun pre W => (W.heap[B]? = some (.cells dR 47 (0, 0)) ∧ W.heap[B + 1]? = some (.cells (nv (canon (accP R pre)).at) 47 (0, 0)) ∧ W.heap[B + 2]? = some (.cells #[.string s] 9 (0, 0))) ∧ Below N w W)
    (fun _ _ _ => False)
    (OwnFrom.and (OwnFrom.and (ownFrom_heap (by omega) _) (OwnFrom.and (ownFrom_heap (by omega) _) (ownFrom_heap (by omega) _))) (ownFrom_below (Nat.le_of_eq HN.out) (by omega)))
    (fun _ _ _ _ _ h => h.elim)
    ⟨⟨wr, wa, ws⟩, hb5⟩
    (fun x => { tmps := #[.string key, .string s, undef, undef, .string ⟨#[]⟩, .int .i64 0, .string c, .bool true, .pointer (some ⟨B, 0, none⟩), .pointer (some ⟨B + 1, 0, none⟩), .string x.1, .string key,
      .int .i64 key.size, .bool false, .string s, .int .i64 s.size, .bool false, .tuple #[.string c, .bool true], .string key, .string k1, .tuple #[.string c, .bool true], .string c, .bool true, .string c,
      .agg dR, .string s, .func (.func 35) #[] #[.pointer (some ⟨B + 2, 0, none⟩)], .string x.1, undef, undef, undef, undef, undef, undef, undef, undef, undef, undef], defers := [] }) ?assign ?body ?done ?stop
  case assign =>
    intro q x W K hKx
    gi_wp2
    exact hKx
  case body =>
    rintro q pre x W ⟨⟨hr0, ha0, hs0⟩, hbW⟩ hlen
    have hacc := accP_lt R pre
    have hsn := accP_snoc R pre x
    obtain ⟨d1, hd1⟩ : ∃ d, d = nv (canon (accP R pre)).at := ⟨_, rfl⟩
    obtain ⟨d2, hd2⟩ : ∃ d, d = nv (canon (accP R (pre ++ [x]))).at := ⟨_, rfl⟩
    have HST : Hid (∀ V : World, Calls Tryd.prog 23 #[.agg d1, .agg dR, .string x.1] V fun e w' => e = .returned (.agg d2) ∧ Below V.heap.size V w') :=
      Lib.hid fun V => step_any _ _ hacc x.1 x.2 d1 hd1 dR HDR.out d2 (by rw [hd2, hsn]) V
    have hinf1 := nv_inf hd1
    have hinf2 := nv_inf hd2
    have hall2 := nv_all' hd2
    have hold2 : d1.size = d2.size := by rw [hd1, hd2, nv_size, nv_size]
    rw [← hd1] at ha0
    have HD2 := Lib.hid hd2
    clear hd1 hd2 hacc hsn hlen wr wa ws hb5 hc5 hsz5
    gi_wp2_with (first
      | (refine wpListIn_load_row rfl _ _ rfl (B + 1) rfl _ _ _ _ ha0 Tryd.underlying47 rfl hinf1 ?_)
      | (refine wpListIn_load_row rfl _ _ rfl B rfl _ _ _ _ hr0 Tryd.underlying47 rfl hinfR ?_)
      | (refine ⟨trivial, ?_⟩; gi_at_call 23; refine (CallsIn.inRound q (callsIn_wide.2 (HST.out W))).mono ?_; rintro e W2 ⟨rfl, hb2⟩; have ha2 := (hb2.block _ (Array.getElem?_eq_some_iff.1 ha0).1).trans ha0)
      | (refine wpListIn_store_row rfl _ _ _ rfl (B + 1) _ rfl rfl _ _ ha2 hinf2 hold2 hall2 ?_))
    have hs2 := (hb2.block _ (Array.getElem?_eq_some_iff.1 hs0).1).trans hs0
    have hr2 := (hb2.block _ (Array.getElem?_eq_some_iff.1 hr0).1).trans hr0
    refine ⟨(others_of_below hb2).trans (others_setRow ha2), ?_, ⟨(setRow_other _ _ _ _ (by omega)).trans hr2, ?_, (setRow_other _ _ _ _ (by omega)).trans hs2⟩, (hbW.next' hb2 (Nat.le_of_eq HN.out)).setRow (g := B + 1) (by omega) d2⟩
    · show _ = _
      rw [hs0]
      exact (setRow_other _ _ _ _ (by omega)).trans hs2
    · show _ = _
      rw [← HD2.out]
      exact setRow_heap _ _ _ _ _ _ ha2
  case done =>
    rintro D xs W hD rfl ⟨⟨hr0, ha0, hs0⟩, hbW⟩ hKd
    rw [accP_parts, HA.out, ← HDA.out] at ha0
    clear wr wa ws hb5 hc5 hsz5
    gi_wp2_with fail
    refine wpIn_wide.2 ?_
    refine Code.wp_mono onNormal_out ?_
    refine Uptot.begin_ [] (fun w' : World => w'.heap[B + 1]? = some (.cells dA 47 (0, 0)) ∧ w'.heap[D]? = some (.deferred (some []))) (fun _ : World => True) (by kernel_rfl) ?_
    have hS : (W.drew.heap[B + 1]? = some (.cells dA 47 (0, 0)) ∧ W.drew.heap[D]? = some (.deferred (some []))) ∧ True := ⟨⟨ha0, hKd⟩, trivial⟩
    have hB : Below N w W.drew := hbW.drew
    clear hr0 ha0 hs0 hbW hKd
    generalize W.drew = V2 at *
    refine Uptot.takeS (i := 0) rfl (by kernel_rfl) (by kernel_rfl) (by kernel_rfl) (by kernel_rfl) (fun _ _ _ h => h) (yields_load_row rfl _ _ rfl (B + 1) rfl _ _ _ _ (fun _ h => h.1) Tryd.underlying47 rfl hinfA) hS ?_
    try simp only [Act.put, List.setIfInBounds_toArray, List.set_cons_zero, List.set_cons_succ]
    refine Uptot.one (i := 1) rfl (by kernel_rfl) (fun K hK => ?_)
    go_simp
    refine hK.out _ _ (Cond.ahead hS) ?_
    clear hK K
    try simp only [Act.put, List.setIfInBounds_toArray, List.set_cons_zero, List.set_cons_succ]
    refine Uptot.one (i := 2) rfl (by kernel_rfl) (fun K hK => ?_)
    go_simp
    refine hK.out _ _ (Cond.ahead hS) ?_
    clear hK K
    try simp only [Act.put, List.setIfInBounds_toArray, List.set_cons_zero, List.set_cons_succ]
    refine Uptot.one (i := 3) rfl (by kernel_rfl) (fun K hK => ?_)
    go_simp
    go_at_call 21
    refine (HTE.out _).mono ?_
    rintro e' w5 ⟨rfl, hbx⟩
    have hS2 : (w5.heap[B + 1]? = some (.cells dA 47 (0, 0)) ∧ w5.heap[D]? = some (.deferred (some []))) ∧ True := ⟨⟨(hbx.block _ (Array.getElem?_eq_some_iff.1 hS.1.1).1).trans hS.1.1, (hbx.block _ (Array.getElem?_eq_some_iff.1 hS.1.2).1).trans hS.1.2⟩, trivial⟩
    have hB2 := hB.next' hbx (Nat.le_of_eq HN.out)
    clear hbx hS hB
    refine hK.out _ _ (Cond.ahead hS2) ?_
    clear hK K
    try simp only [Act.put, List.setIfInBounds_toArray, List.set_cons_zero, List.set_cons_succ]
    refine Uptot.one (i := 4) rfl (by kernel_rfl) (fun K hK => ?_)
    go_simp
    go_at_call 24
    refine (HPL.out _).mono ?_
    rintro e' w6 ⟨rfl, hbx⟩
    have hS22 : (w6.heap[B + 1]? = some (.cells dA 47 (0, 0)) ∧ w6.heap[D]? = some (.deferred (some []))) ∧ True := ⟨⟨(hbx.block _ (Array.getElem?_eq_some_iff.1 hS2.1.1).1).trans hS2.1.1, (hbx.block _ (Array.getElem?_eq_some_iff.1 hS2.1.2).1).trans hS2.1.2⟩, trivial⟩
    have hB22 := hB2.next' hbx (Nat.le_of_eq HN.out)
    clear hbx hS2 hB2
    refine hK.out _ _ (Cond.ahead hS22) ?_
    clear hK K
    try simp only [Act.put, List.setIfInBounds_toArray, List.set_cons_zero, List.set_cons_succ]
    refine Uptot.one (i := 5) rfl (by kernel_rfl) (fun K hK => ?_)
    go_simp
    go_at_call 25
    refine (HLW.out _).mono ?_
    rintro e' w7 ⟨rfl, hbx⟩
    have hS222 : (w7.heap[B + 1]? = some (.cells dA 47 (0, 0)) ∧ w7.heap[D]? = some (.deferred (some []))) ∧ True := ⟨⟨(hbx.block _ (Array.getElem?_eq_some_iff.1 hS22.1.1).1).trans hS22.1.1, (hbx.block _ (Array.getElem?_eq_some_iff.1 hS22.1.2).1).trans hS22.1.2⟩, trivial⟩
    have hB222 := hB22.next' hbx (Nat.le_of_eq HN.out)
    clear hbx hS22 hB22
    refine hK.out _ _ (Cond.ahead hS222) ?_
    clear hK K
    try simp only [Act.put, List.setIfInBounds_toArray, List.set_cons_zero, List.set_cons_succ]
    refine Uptot.one (i := 6) rfl (by kernel_rfl) (fun K hK => ?_)
    go_simp
    refine hK.out _ _ (Cond.ahead hS222) ?_
    clear hK K
    try simp only [Act.put, List.setIfInBounds_toArray, List.set_cons_zero, List.set_cons_succ]
    refine Uptot.one (i := 7) rfl (by kernel_rfl) (fun K hK => ?_)
    go_simp
    refine hK.out _ _ (Cond.ahead hS222) ?_
    clear hK K
    try simp only [Act.put, List.setIfInBounds_toArray, List.set_cons_zero, List.set_cons_succ]
    refine Uptot.done (by kernel_rfl) (onNormal_in ?_) _
    have hDD := hS222.1.2
    have hDl := (Array.getElem?_eq_some_iff.1 hDD).1
    gi_wp2
    refine ⟨by simp, .inl ⟨_, _, rfl, run_takeDeferred hDD, ?_⟩⟩
    have hbd : Below w.heap.size w (w7.putObj D (.deferred none)) := by
      rw [← HN.out]
      exact hB222.grown (grownBy_putObj' w7 D _) (by have := hB222.size; have := HN.out; omega) (fun k e => by cases e; have := HV.out; omega)
    exact ⟨_, results_tmp2 rfl _ _ _, rfl, hbd⟩
  case stop =>
    rintro D c pre W hD hpre h hKd
    exact h.elim
end Go.Proofs.YtapbjmeilhcmaaaDoor
