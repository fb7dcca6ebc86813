/-
  Merged by program: Tqb, Tqc, Dig3, Shelf, Dig5, Dig6, Dig7, Tqd, Unl, Ref1, Ref2, Ref3, Ref4.
-/
import Derived.Test.YtgcohoonhklkbaaDoorM4
import Derived.RangeFuncBox
import Derived.RangeFuncFrom
import Derived.Lib.QuietBelow
import Derived.Test.YtgcohoonhklkbaaDoorM3
import Derived.Deep.RegionHeld3
import Derived.Deep.DeepCutAuto
import Derived.Deep.CutBlock
import Derived.Shelf.Strings.Repeat
import Derived.Test.YtgcohoonhklkbaaDoorProg
import Derived.Test.YtgcohoonhklkbaaDoorM1
import Derived.Shelf.Abstract
import Derived.Shelf.RegionOpen
import Derived.OwnWalkIn
import Derived.TacticsInMore
import Derived.LoopNIn
import Derived.LoopIn
import Derived.Lib.SlBytesRow
import Derived.Lib.IndexBytes
import Derived.Test.YtgcohoonhklkbaaDoorM2
import Derived.Deep.AppendLies

/-
  tree: the contract of Collide (of texts that have digests).
-/
namespace Go.Proofs.YtgcohoonhklkbaaDoor
open Go.RowKit Go.Kx Go.Shelf Go.Trm
set_option maxRecDepth 20000
attribute [local go_sem] Oper.semAt_some

set_option maxHeartbeats 4000000 in
theorem tcollide_main (HD : DSumH) (l m : List ByteArray) (d : Nat) (hd : l.length = 2 ^ d) (hlm : l.length = m.length) (hd10 : d ≤ 10) (hne : l ≠ m) (hsl : ∀ s ∈ l, s.size ≤ 999999999) (hsm : ∀ s ∈ m, s.size ≤ 999999999) (A B : Option Addr) (c c' : Nat)
    (ans : Option (Txt × Txt)) (hans : colA l m = ans) (w : World) (hK : Consts w) (hA : Sl w A (strsV l)) (hB : Sl w B (strsV m)) :
    Calls Tryd.prog 23 #[.slice A l.length c, .slice B m.length c'] w fun e w' => e = .returned (outV ans) ∧ Below w.heap.size w w' := by
  refine (callsIn_wide (n := 3)).1 ?_
  refine callsIn_of_wp_marks Tryd.func23 rfl trivial ?_ rfl
  simp only [Tryd.ntmps23, List.size_toArray, List.length_cons, List.length_nil, Nat.reduceAdd, Nat.reduceSub, Array.replicate_succ, Array.replicate_zero, List.push_toArray, List.append_toArray, List.nil_append, List.cons_append]
  have hdm : m.length = 2 ^ d := by rw [← hlm]; exact hd
  have HMAY := Lib.hid fun V => tmay_yes ⟨d, hd10, hd⟩ A c V
  have HEQL := Lib.hid (equal_any A B c c' l m w (by have := may_pos ⟨d, hd10, hd⟩; omega) false (by rw [decide_eq_false hne]) hlm hA hB)
  have HOV1 := Lib.hid fun V hKV hAV => over_any HD l d hd hd10 (fun s hs => by have := hsl s hs; omega) A c V hAV hKV
  have HOV2 := Lib.hid fun V hKV hBV => over_any HD m d hdm hd10 (fun s hs => by have := hsm s hs; omega) B c' V hBV hKV
  obtain ⟨r1, hr1⟩ : ∃ r, toB (rootL sumH (txtsL l) d) = r := ⟨_, rfl⟩
  obtain ⟨r2, hr2⟩ : ∃ r, toB (rootL sumH (txtsL m) d) = r := ⟨_, rfl⟩
  have HRT1 := Lib.hid fun v V hv => root_any l d hd hd10 A l.length c v r1 hr1 V hv
  have HRT2 := Lib.hid fun v V hv => root_any m d hdm hd10 B m.length c' v r2 hr2 V hv
  have HAh := Lib.hid hA
  have HBh := Lib.hid hB
  have HKh := Lib.hid hK
  have HL := Lib.hid hd
  have HLM := Lib.hid hdm
  have HSL := Lib.hid hsl
  have HSM := Lib.hid hsm
  have HNE := Lib.hid hne
  have HLEN := Lib.hid hlm
  have HANS := Lib.hid hans
  have HR1 := Lib.hid hr1
  have HR2 := Lib.hid hr2
  obtain ⟨n, hn⟩ : ∃ n, l.length = n := ⟨_, rfl⟩
  have hn2 : m.length = n := by rw [← hlm]; exact hn
  have HN := Lib.hid hn
  have HN2 := Lib.hid hn2
  have hn9 : n ≤ 1024 := by rw [← hn, hd]; have : 2 ^ d ≤ 2 ^ 10 := Nat.pow_le_pow_right (by omega) hd10; omega
  rw [hn] at HMAY HEQL HOV1 HRT1 ⊢
  rw [hn2] at HEQL HOV2 HRT2 ⊢
  clear hd hA hB hn hn2 hlm hdm hne hans hr1 hr2 hsl hsm HD
  have hnn : ((n : Int) != (n : Int)) = false := by simp
  gi_wp2_with fail
  refine wpIn_wide.2 (wp_scope_straight ((wpIn_wide (n := 3)).1 ?_))
  gi_wp2_with (refine ⟨trivial, ?_⟩; gi_at_call 28; refine (callsIn_wide.2 (HMAY.out _)).mono ?_; rintro e w1 ⟨rfl, rfl⟩)
  refine ⟨trivial, ?_⟩
  gi_at_call 42
  refine (callsIn_wide.2 HEQL.out).mono ?_
  rintro e w1 ⟨rfl, q1, rfl⟩
  have hb0 : Below w.heap.size w (w.drewN q1) := Below.drewN0 _ _
  generalize w.drewN q1 = W1 at *
  gi_wp2_with fail
  refine ⟨trivial, ?_⟩
  gi_at_call 29
  refine (callsIn_wide.2 (HOV1.out _ (hK.keep hb0) (HAh.out.keep hb0))).mono ?_
  rintro e w2 ⟨v1, rfl, hat1, hb1⟩
  obtain ⟨g1, cg1, rfl, hg1, hund1⟩ := hat1.under hd10
  have hb02 := hb0.next hb1
  have HAT1 := Lib.hid hat1
  have HUN1 := Lib.hid hund1
  clear hat1 hund1
  obtain ⟨x, hx⟩ : ∃ x, d + 1 = x := ⟨_, rfl⟩
  have HX := Lib.hid hx
  have hx0 : 0 < x := by omega
  have hxl : x ≤ 11 := by omega
  rw [hx] at HAT1 HUN1 ⊢
  gi_wp2_with fail
  refine ⟨trivial, ?_⟩
  gi_at_call 29
  refine (callsIn_wide.2 (HOV2.out _ (hK.keep hb02) (HBh.out.keep hb02))).mono ?_
  rintro e w3 ⟨v2, rfl, hat2, hb2⟩
  obtain ⟨g2, cg2, rfl, hg2, hund2⟩ := hat2.under hd10
  have hb03 := hb02.next hb2
  have HAT2 := Lib.hid hat2
  have HUN2 := Lib.hid hund2
  clear hat2 hund2
  rw [hx] at HAT2 HUN2 ⊢
  clear hx
  obtain ⟨V, hV⟩ : ∃ V, (w3.alloc (.cells #[.slice A n c, .slice (some ⟨g1, 0, none⟩) x cg1] 44)).alloc (.cells #[.slice B n c', .slice (some ⟨g2, 0, none⟩) x cg2] 44) = V := ⟨_, rfl⟩
  have hbV : Below w3.heap.size w3 V := by rw [← hV]; exact (Below.alloc0 _ _).alloc (by simp) _
  have hRV : V.heap[w3.heap.size]? = some (.cells #[.slice A n c, .slice (some ⟨g1, 0, none⟩) x cg1] 44) := by rw [← hV]; exact (Below.heap_alloc _ _ _ (by simp)).trans (heap_alloc_new w3 _)
  have hSV : V.heap[w3.heap.size + 1]? = some (.cells #[.slice B n c', .slice (some ⟨g2, 0, none⟩) x cg2] 44) := by
    rw [← hV]
    have h := heap_alloc_new (w3.alloc (.cells #[.slice A n c, .slice (some ⟨g1, 0, none⟩) x cg1] 44)) (.cells #[.slice B n c', .slice (some ⟨g2, 0, none⟩) x cg2] 44)
    rwa [World.size_alloc] at h
  gi_wp2_with fail
  clear hV
  have hb5 := hb03.next hbV
  have HAV1 := Lib.hid (HAT1.out.keep (hb2.next hbV))
  have HAV2 := Lib.hid (HAT2.out.keep hbV)
  have HUV1 := Lib.hid (show ∀ q, q ≤ d → ∀ U, Below V.heap.size V U → Under U l (some ⟨g1, 0, none⟩) x q from fun q hq U hU h' hh => by
    obtain ⟨g4, u4, e4, l4, l5, c4, r4⟩ := HUN1.out q hq h' hh
    have hbU := (hb2.next hbV).next hU
    exact ⟨g4, u4, e4, l4, l5, (hbU.cell (p := ⟨g4, h', none⟩) (block_lt_of_cell c4)).trans c4, r4.keep hbU⟩)
  have HUV2 := Lib.hid (show ∀ q, q ≤ d → ∀ U, Below V.heap.size V U → Under U m (some ⟨g2, 0, none⟩) x q from fun q hq U hU h' hh => by
    obtain ⟨g4, u4, e4, l4, l5, c4, r4⟩ := HUN2.out q hq h' hh
    have hbU := hbV.next hU
    exact ⟨g4, u4, e4, l4, l5, (hbU.cell (p := ⟨g4, h', none⟩) (block_lt_of_cell c4)).trans c4, r4.keep hbU⟩)
  clear HAT1 HAT2 HUN1 HUN2 hbV hb03 hb02 hb0 hb1 hb2 hg1 hg2
  generalize w3.heap.size = R at *
  have hl0 : ∀ d' os, (Go.Sort.grow (redrawn V d') os).cell? ⟨R, 0, none⟩ = some (.slice A n c) := cell_regrown (by rw [cell_of_row _ _ _ _ _ _ hRV]; rfl)
  have hl1 : ∀ d' os, (Go.Sort.grow (redrawn V d') os).cell? ⟨R, 1, none⟩ = some (.slice (some ⟨g1, 0, none⟩) x cg1) := cell_regrown (by rw [cell_of_row _ _ _ _ _ _ hRV]; rfl)
  have hl2 : ∀ d' os, (Go.Sort.grow (redrawn V d') os).cell? ⟨R + 1, 0, none⟩ = some (.slice B n c') := cell_regrown (by rw [cell_of_row _ _ _ _ _ _ hSV]; rfl)
  have hl3 : ∀ d' os, (Go.Sort.grow (redrawn V d') os).cell? ⟨R + 1, 1, none⟩ = some (.slice (some ⟨g2, 0, none⟩) x cg2) := cell_regrown (by rw [cell_of_row _ _ _ _ _ _ hSV]; rfl)
  have c1 : ∀ d' os, Calls Tryd.prog 30 #[.agg #[.slice A n c, .slice (some ⟨g1, 0, none⟩) x cg1]] (Go.Sort.grow (redrawn V d') os) fun e w'' => e = .returned (.string r1) ∧ ∃ p : Regrown, w'' = Go.Sort.grow (redrawn V p.d) p.os := fun d' os => Calls.regrown_of (HRT1.out _ _ (HAV1.out.keep (below_regrown V d' os)))
  have c2 : ∀ d' os, Calls Tryd.prog 30 #[.agg #[.slice B n c', .slice (some ⟨g2, 0, none⟩) x cg2]] (Go.Sort.grow (redrawn V d') os) fun e w'' => e = .returned (.string r2) ∧ ∃ p : Regrown, w'' = Go.Sort.grow (redrawn V p.d) p.os := fun d' os => Calls.regrown_of (HRT2.out _ _ (HAV2.out.keep (below_regrown V d' os)))
  have hbN : w.heap.size ≤ V.heap.size := hb5.size
  by_cases hrr : r1 = r2
  rotate_left
  · have hse : (r1.toList == r2.toList) = false := by rw [str_eq, decide_eq_false hrr]
    have HNO : Hid (ans = none) := Lib.hid (by
      rw [← HANS.out, colA_no]
      rintro d' ⟨e1, e2, e3, e4, e5⟩
      have e6 : d = d' := by rw [HL.out] at e2; exact (Nat.pow_right_inj (by omega)).1 e2
      subst e6
      exact hrr (by rw [← HR1.out, ← HR2.out, root_same l HSL.out, root_same m HSM.out, e5]))
    clear hrr
    refine wpIn_wide.2 (wp_region_quiet_below (by kernel_rfl) (by kernel_rfl) ?_)
    repeat (quiet_step (first | with_reducible exact c1 _ _ | with_reducible exact c2 _ _))
    refine wpQuiet_nil ?_
    intro _ hw'
    obtain ⟨⟨dq, osq⟩, hw''⟩ := hw'
    subst hw''
    have hb6 := hb5.trans ((below_regrown V dq osq).mono hbN)
    clear hl0 hl1 hl2 hl3 c1 c2
    generalize Go.Sort.grow (redrawn V dq) osq = V6 at *
    gi_wp2
    rw [Exit.noGoto_ret]
    exact ⟨_, results_tmp3 rfl _ _ _, by rw [HNO.out]; rfl, hb6⟩
  · have hse : (r1.toList == r2.toList) = true := by rw [str_eq, decide_eq_true hrr]
    refine wpIn_wide.2 (wp_region_quiet_below (by kernel_rfl) (by kernel_rfl) ?_)
    have HRR := Lib.hid hrr
    clear hrr
    repeat (quiet_step (first | with_reducible exact c1 _ _ | with_reducible exact c2 _ _))
    refine wpQuiet_nil ?_
    intro _ hw'
    obtain ⟨⟨dq, osq⟩, hw''⟩ := hw'
    subst hw''
    have hq := below_regrown V dq osq
    have hb6 := hb5.trans (hq.mono hbN)
    have hR6 := heap_keepB hRV hq
    have hS6 := heap_keepB hSV hq
    clear hl0 hl1 hl2 hl3 c1 c2 hRV hSV hbN
    generalize Go.Sort.grow (redrawn V dq) osq = V6 at *
    have HU61 : Hid (∀ q, q ≤ d → ∀ U, Below V6.heap.size V6 U → Under U l (some ⟨g1, 0, none⟩) x q) := Lib.hid fun q hq9 U hU => HUV1.out q hq9 U (hq.next hU)
    have HU62 : Hid (∀ q, q ≤ d → ∀ U, Below V6.heap.size V6 U → Under U m (some ⟨g2, 0, none⟩) x q) := Lib.hid fun q hq9 U hU => HUV2.out q hq9 U (hq.next hU)
    have HRV6 := Lib.hid hR6
    have HSV6 := Lib.hid hS6
    have HA6 : Hid (DigsAt V6 (.slice (some ⟨g1, 0, none⟩) x cg1) d l) := Lib.hid (HAV1.out.keep hq)
    clear hq HUV1 HUV2 HAV1 HAV2
    obtain ⟨V7, hV7⟩ : ∃ V7, (V6.alloc (.cells #[.string ⟨#[]⟩] 9)).alloc (.cells #[.string ⟨#[]⟩] 9) = V7 := ⟨_, rfl⟩
    have hb67 : Below V6.heap.size V6 V7 := by rw [← hV7]; exact (Below.alloc0 _ _).alloc (by simp) _
    have hx7 : V7.heap[V6.heap.size]? = some (.cells #[.string ⟨#[]⟩] 9) := by rw [← hV7]; exact (Below.heap_alloc _ _ _ (by simp)).trans (heap_alloc_new V6 _)
    have hy7 : V7.heap[V6.heap.size + 1]? = some (.cells #[.string ⟨#[]⟩] 9) := by
      rw [← hV7]
      have h := heap_alloc_new (V6.alloc (.cells #[.string ⟨#[]⟩] 9)) (.cells #[.string ⟨#[]⟩] 9)
      rwa [World.size_alloc] at h
    have hR7 := heap_keepB hR6 hb67
    have q0 : V7.cell? ⟨R, 0, none⟩ = some (.slice A n c) := by rw [cell_of_row _ _ _ _ _ _ hR7]; rfl
    have q1 : V7.cell? ⟨R, 1, none⟩ = some (.slice (some ⟨g1, 0, none⟩) x cg1) := by rw [cell_of_row _ _ _ _ _ _ hR7]; rfl
    obtain ⟨w9, hw9⟩ : ∃ w9, (V7.alloc (.cells #[.slice A n c, .slice (some ⟨g1, 0, none⟩) x cg1] 44)).alloc (.cells #[.slice (some ⟨g1, 0, none⟩) x cg1] 42) = w9 := ⟨_, rfl⟩
    have hb79 : Below V7.heap.size V7 w9 := by rw [← hw9]; exact (Below.alloc0 _ _).alloc (by simp) _
    have hB9 : w9.heap[V7.heap.size + 1]? = some (.cells #[.slice (some ⟨g1, 0, none⟩) x cg1] 42) := by
      rw [← hw9]
      have h := heap_alloc_new (V7.alloc (.cells #[.slice A n c, .slice (some ⟨g1, 0, none⟩) x cg1] 44)) (.cells #[.slice (some ⟨g1, 0, none⟩) x cg1] 42)
      rwa [World.size_alloc] at h
    gi_wp2_with fail
    refine wpIn_label ?_
    gi_wp2_with fail
    refine ⟨trivial, ?_⟩
    gi_at_call 43
    refine (callsIn_wide.2 (downward_any _ _ _ _ _ _ V7)).mono ?_
    rw [hw9]
    rintro e w9' ⟨rfl, rfl⟩
    gi_wp2_with fail
    have hb69 := hb67.next hb79
    have hx9 := heap_keepB hx7 hb79
    have hy9 := heap_keepB hy7 hb79
    have hR9 := heap_keepB hR6 hb69
    have hS9 := heap_keepB hS6 hb69
    have HA9 := HA6.out
    obtain ⟨gg, cgg, he2, hgg, -⟩ := HA9.under hd10
    obtain ⟨rfl, -, rfl⟩ : g1 = gg ∧ x = d + 1 ∧ cg1 = cgg := by simpa using he2
    obtain ⟨U, hU⟩ : ∃ U : Nat → Value, ∀ q, q < x → w9.cell? ⟨g1, q, none⟩ = some (U q) ∧ ∃ gy cy, U q = .slice (some ⟨gy, 0, none⟩) (2 ^ (d - q)) cy := by
      refine ⟨fun q => (w9.cell? ⟨g1, q, none⟩).getD undef, fun q hq => ?_⟩
      obtain ⟨g3, c3, e3, -, h3⟩ := HA9
      obtain ⟨rfl, -, rfl⟩ : g1 = g3 ∧ x = d + 1 ∧ cg1 = c3 := by simpa using e3
      have hqd : q ≤ d := by have := HX.out; omega
      obtain ⟨u, hu, gy, cy, e4, -, -⟩ := h3 q hqd
      have hu9 := (hb69.cell (p := ⟨g1, q, none⟩) (block_lt_of_cell hu)).trans hu
      show w9.cell? ⟨g1, q, none⟩ = some ((w9.cell? ⟨g1, q, none⟩).getD undef) ∧ _
      rw [hu9]
      refine ⟨rfl, gy, cy, ?_⟩
      show (w9.cell? ⟨g1, q, none⟩).getD undef = _
      rw [hu9]
      show u = _
      rw [e4, rowH_length l HL.out hqd]
    have HUF := Lib.hid fun q hq => (hU q hq).2
    have hU' := fun q hq => (hU q hq).1
    have HUND1 : Hid (∀ (q j : Nat) (z : ByteArray), q < x → j < 2 ^ (d - q) → undT l q j = z.data.toList → ∀ V, Below V6.heap.size V6 V → Calls Tryd.prog 44 #[.agg #[.slice A n c, .slice (some ⟨g1, 0, none⟩) x cg1], .int .i64 (q : Int), .int .i64 (j : Int)] V fun e w' => e = .returned (.string z) ∧ Below V.heap.size V w') := Lib.hid fun q j z hq hj hz V hV => by
      have hqd : q ≤ d := by have := HX.out; omega
      have h := under_any l d HL.out hd10 (fun s hs => by have := HSL.out s hs; omega) A (some ⟨g1, 0, none⟩) c x cg1 q j hqd hj z hz V (HAh.out.keep (hb6.trans (hV.mono hb6.size))) (HU61.out q hqd V hV)
      rw [HN.out] at h
      exact h
    have HUND2 : Hid (∀ (q j : Nat) (z : ByteArray), q < x → j < 2 ^ (d - q) → undT m q j = z.data.toList → ∀ V, Below V6.heap.size V6 V → Calls Tryd.prog 44 #[.agg #[.slice B n c', .slice (some ⟨g2, 0, none⟩) x cg2], .int .i64 (q : Int), .int .i64 (j : Int)] V fun e w' => e = .returned (.string z) ∧ Below V.heap.size V w') := Lib.hid fun q j z hq hj hz V hV => by
      have hqd : q ≤ d := by have := HX.out; omega
      have h := under_any m d HLM.out hd10 (fun s hs => by have := HSM.out s hs; omega) B (some ⟨g2, 0, none⟩) c' x cg2 q j hqd hj z hz V (HBh.out.keep (hb6.trans (hV.mono hb6.size))) (HU62.out q hqd V hV)
      rw [HN2.out] at h
      exact h
    have HOK : Hid (colOk l m d) := Lib.hid ⟨HLEN.out, HL.out, hd10, HNE.out, by
      have e := HRR.out
      rw [← HR1.out, ← HR2.out, root_same l HSL.out, root_same m HSM.out] at e
      exact toB_inj e⟩
    have HFOUND : Hid (∀ y k, y < x → (∀ r, y < r → r < x → ∀ j, j < 2 ^ (d - r) → undT l r j = undT m r j) → k < 2 ^ (d - y) → (∀ j, j < k → undT l y j = undT m y j) → undT l y k ≠ undT m y k → ans = some (undT l y k, undT m y k)) := Lib.hid fun y k hy h1 hk h2 h3 => by
      rw [← HANS.out, colA_yes HOK.out, HX.out, undT_below l HSL.out, undT_below m HSM.out]
      refine colD_at hy (fun r hr1 hr2 j hj => ?_) hk (fun j hj => ?_) ?_
      · rw [← undT_below l HSL.out, ← undT_below m HSM.out]; exact h1 r hr1 hr2 j hj
      · rw [← undT_below l HSL.out, ← undT_below m HSM.out]; exact h2 j hj
      · rw [← undT_below l HSL.out, ← undT_below m HSM.out]; exact h3
    have HEND : Hid ((∀ j, j < 2 ^ (d - 0) → undT l 0 j = undT m 0 j) → False) := Lib.hid fun h => HNE.out (leaves_unlike HLEN.out fun j hj => h j (by rw [Nat.sub_zero, ← HL.out]; exact hj))
    have HPOW : Hid (∀ q, 2 ^ (d - q) ≤ 1024) := Lib.hid fun q => by have : 2 ^ (d - q) ≤ 2 ^ 10 := Nat.pow_le_pow_right (by omega) (by omega); omega
    have hRX : R + 1 < V6.heap.size := (Array.getElem?_eq_some_iff.1 hS6).1
    have hX9 : V6.heap.size + 1 < w9.heap.size := (Array.getElem?_eq_some_iff.1 hy9).1
    have hb1l : V7.heap.size + 1 < w9.heap.size := (Array.getElem?_eq_some_iff.1 hB9).1
    have hb1X : V6.heap.size + 1 < V7.heap.size + 1 := by have := (Array.getElem?_eq_some_iff.1 hy7).1; omega
    have hgX : g1 < V6.heap.size := hgg
    have hgl : g1 < w9.heap.size := Nat.lt_of_lt_of_le hgg hb69.size
    have hbN : w.heap.size ≤ V6.heap.size := hb6.size
    have HB6 := Lib.hid hb6
    clear hR6 hS6 HA6 hb67 hx7 hy7 hR7 q0 q1 hw9 hb79 hV7 HA9 he2 hgg hU HU61 HU62 hb6 HMAY HEQL HOV1 HOV2 HRT1 HRT2 hse hb5
    have hX6 : ∃ X, V6.heap.size = X := ⟨_, rfl⟩
    obtain ⟨X, hX6⟩ := hX6
    have HX6 := Lib.hid hX6
    rw [hX6] at hx9 hy9 hb69 HUND1 HUND2 hRX hX9 hb1X hgX hbN ⊢
    clear hX6
    generalize V7.heap.size + 1 = b1 at *
    refine wpIn_rangeFunc_ownF (α := {y : Nat // y < x}) rfl (by omega) (gf := 74) (lb := #[.pointer (some ⟨b1, 0, none⟩)]) rfl trivial
      (enters_of Tryd.func74 (by kernel_rfl) rfl) (downward1_in 2 (by omega) b1 g1 x cg1 hx0 hxl U w9 (cell0 hB9) hU') KpDn_t (KpDn_b hb1l hgl) (Below.refl _ _) (fun _ => rfl)
      (fun pre W => (Below X V6 W ∧ w9.heap.size ≤ W.heap.size ∧ ∃ p q : ByteArray, W.heap[X]? = some (.cells #[.string p] 9 (0, 0)) ∧ W.heap[X + 1]? = some (.cells #[.string q] 9 (0, 0))) ∧ ∀ r ∈ pre, ∀ j, j < 2 ^ (d - r.1) → undT l r.1 j = undT m r.1 j)
      (fun cd pre W => (cd = .exit 0 ∧ ∃ pre0 y k, pre = pre0 ++ [y] ∧ (∀ r ∈ pre0, ∀ j, j < 2 ^ (d - r.1) → undT l r.1 j = undT m r.1 j) ∧ k < 2 ^ (d - y.1) ∧ (∀ j, j < k → undT l y.1 j = undT m y.1 j) ∧ undT l y.1 k ≠ undT m y.1 k ∧
        W.heap[X]? = some (.cells #[.string (toB (undT l y.1 k))] 9 (0, 0)) ∧ W.heap[X + 1]? = some (.cells #[.string (toB (undT m y.1 k))] 9 (0, 0))) ∧ Below X V6 W)
      (fun pre W W' row hs hg hr => by
        obtain ⟨⟨h1, h2, p, q, h3, h4⟩, h5⟩ := hs
        exact ⟨⟨ownFrom_below (B := w9.heap.size) (Nat.le_of_eq HX6.out.symm) (by omega) pre W W' row h1 hg hr, Nat.le_trans h2 hg.size, p, q, (hg.block _ (Array.getElem?_eq_some_iff.1 h3).1 (by rintro e; have := (hr _ e.symm).1; omega)).trans h3, (hg.block _ (Array.getElem?_eq_some_iff.1 h4).1 (by rintro e; have := (hr _ e.symm).1; omega)).trans h4⟩, h5⟩)
      (fun cd pre W W' row hs hg hr => by
        obtain ⟨⟨rfl, pre0, y, k, e, h1, h2, h3, h4, h5, h6⟩, h7⟩ := hs
        exact ⟨⟨rfl, pre0, y, k, e, h1, h2, h3, h4, (hg.block _ (Array.getElem?_eq_some_iff.1 h5).1 (by rintro e; have := (hr _ e.symm).1; omega)).trans h5, (hg.block _ (Array.getElem?_eq_some_iff.1 h6).1 (by rintro e; have := (hr _ e.symm).1; omega)).trans h6⟩,
          ownFrom_below (B := w9.heap.size) (Nat.le_of_eq HX6.out.symm) (by omega) pre W W' row h7 hg hr⟩)
      ⟨⟨hb69, Nat.le_refl _, _, _, hx9, hy9⟩, by simp⟩
      (fun y => { tmps := #[.slice A n c, .slice B n c', undef, undef, .string ⟨#[]⟩, .string ⟨#[]⟩, .bool false, .pointer (some ⟨R, 0, none⟩), .pointer (some ⟨R + 1, 0, none⟩), .pointer (some ⟨X, 0, none⟩), .pointer (some ⟨X + 1, 0, none⟩), .int .i64 (y.1 : Int), U y.1, undef, .slice A n c, .int .i64 (n : Int), .slice B n c', .int .i64 (n : Int), .bool false, .bool false, .slice A n c, .bool true, .bool false, .bool false, .bool false, .slice A n c, .slice B n c', .bool false, .bool false, .slice A n c, .agg #[.slice A n c, .slice (some ⟨g1, 0, none⟩) x cg1], .slice B n c', .agg #[.slice B n c', .slice (some ⟨g2, 0, none⟩) x cg2], .agg #[.slice A n c, .slice (some ⟨g1, 0, none⟩) x cg1], .string r1, .agg #[.slice B n c', .slice (some ⟨g2, 0, none⟩) x cg2], .string r2, .bool false, .agg #[.slice A n c, .slice (some ⟨g1, 0, none⟩) x cg1], .func (.func 74) #[] #[.pointer (some ⟨b1, 0, none⟩)], .int .i64 (y.1 : Int), U y.1, undef, undef, undef, undef, undef, undef, undef, undef, undef, undef, undef, undef, undef, undef, undef, undef, undef, undef, undef], defers := [] }) ?assign ?body ?done ?stop
    case assign =>
      intro q y W K hKy
      gi_wp2
      exact hKy
    case body =>
      rintro q pre ⟨y, hy⟩ W ⟨⟨hbW, hszW, p0, p1, hxW, hyW⟩, heq⟩ hlen
      obtain ⟨gy, cy, hUy⟩ := HUF.out y hy
      have hpow := HPOW.out y
      have HEQ := Lib.hid heq
      have HU1 := HUND1.out y
      have HU2' := HUND2.out y
      obtain ⟨M, hM⟩ : ∃ M, 2 ^ (d - y) = M := ⟨_, rfl⟩
      rw [hM] at hUy hpow HU1 HU2'
      have HM := Lib.hid hM
      have HU1h := Lib.hid fun j z h1 h2 => HU1 j z hy h1 h2
      have HU2h := Lib.hid fun j z h1 h2 => HU2' j z hy h1 h2
      have hko0 := KeepsOthers.refl W
      have hkp0 : KpDn b1 g1 W W := ⟨rfl, rfl⟩
      clear heq hM HU1 HU2'
      simp only [hUy]
      gi_wp2_with fail
      gi_loopw [44] (fun i wr => ∃ (k : Nat) (p1 p2 : ByteArray), i = .int .i64 (k : Int) ∧ k ≤ M ∧ Below X V6 wr ∧ w9.heap.size ≤ wr.heap.size ∧ wr.heap[X]? = some (.cells #[.string p1] 9 (0, 0)) ∧ wr.heap[X + 1]? = some (.cells #[.string p2] 9 (0, 0)) ∧ KeepsOthers W wr ∧ KpDn b1 g1 W wr ∧ Hid (∀ j, j < k → undT l y j = undT m y j)) (fun i _ => M - (intOf i).toNat)
      case atStart => exact ⟨0, p0, p1, rfl, by omega, hbW, hszW, hxW, hyW, hko0, hkp0, Lib.hid (fun j h => by omega)⟩
      case round =>
        clear hbW hszW hxW hyW hko0 hkp0
        obtain ⟨k, p2, p3, rfl, hk, hb, hsz, hxx, hyy, hko, hkp, heqk⟩ := hrel
        by_cases hlt : k < M
        · obtain ⟨z, hz⟩ : ∃ z : ByteArray, undT l y k = z.data.toList := ⟨toB (undT l y k), (toB_list _).symm⟩
          obtain ⟨u, hu⟩ : ∃ u : ByteArray, undT m y k = u.data.toList := ⟨toB (undT m y k), (toB_list _).symm⟩
          have HU1 := HU1h.out k z hlt hz
          have HU2 := HU2h.out k u hlt hu
          have HZ := Lib.hid hz
          have HU9 := Lib.hid hu
          have hRw := (hb.block R (by omega)).trans HRV6.out
          have hSw := (hb.block (R + 1) (by omega)).trans HSV6.out
          have r0 : wr.cell? ⟨R, 0, none⟩ = some (.slice A n c) := by rw [cell_of_row _ _ _ _ _ _ hRw]; rfl
          have r1' : wr.cell? ⟨R, 1, none⟩ = some (.slice (some ⟨g1, 0, none⟩) x cg1) := by rw [cell_of_row _ _ _ _ _ _ hRw]; rfl
          have r2' : wr.cell? ⟨R + 1, 0, none⟩ = some (.slice B n c') := by rw [cell_of_row _ _ _ _ _ _ hSw]; rfl
          have r3 : wr.cell? ⟨R + 1, 1, none⟩ = some (.slice (some ⟨g2, 0, none⟩) x cg2) := by rw [cell_of_row _ _ _ _ _ _ hSw]; rfl
          clear hz hu hRw hSw
          have hkI : (k : Int) < (M : Int) := by omega
          gi_wp2_with fail
          refine Uptot.begin_round [] (fun w' : World => w'.cell? ⟨R, 0, none⟩ = some (.slice A n c) ∧ w'.cell? ⟨R, 1, none⟩ = some (.slice (some ⟨g1, 0, none⟩) x cg1) ∧ w'.cell? ⟨R + 1, 0, none⟩ = some (.slice B n c') ∧ w'.cell? ⟨R + 1, 1, none⟩ = some (.slice (some ⟨g2, 0, none⟩) x cg2)) (fun _ => True) (by kernel_rfl) (by kernel_rfl) ?_
          have hST : (wr.drew.cell? ⟨R, 0, none⟩ = some (.slice A n c) ∧ wr.drew.cell? ⟨R, 1, none⟩ = some (.slice (some ⟨g1, 0, none⟩) x cg1) ∧ wr.drew.cell? ⟨R + 1, 0, none⟩ = some (.slice B n c') ∧ wr.drew.cell? ⟨R + 1, 1, none⟩ = some (.slice (some ⟨g2, 0, none⟩) x cg2)) ∧ True := ⟨⟨r0, r1', r2', r3⟩, trivial⟩
          replace hb := hb.drew
          replace hxx : wr.drew.heap[X]? = _ := hxx
          replace hyy : wr.drew.heap[X + 1]? = _ := hyy
          replace hko := hko.trans (others_of_below (Below.drew0 wr))
          replace hkp : KpDn b1 g1 W wr.drew := hkp
          replace hsz : w9.heap.size ≤ wr.drew.heap.size := hsz
          clear r0 r1' r2' r3
          generalize hV2 : wr.drew = V2 at *
          clear hV2
          refine Uptot.takeS (i := 0) (v := ?_) rfl (by kernel_rfl) (by kernel_rfl) (by kernel_rfl) (by kernel_rfl) (fun _ _ _ h => h) (Or.inl ⟨by rfl, ?_⟩) hST ?_
          rotate_left 1
          · intro w9 hSw; (try dsimp only at hSw); obtain ⟨h91, h92, h93, h94⟩ := hSw; go_simp; (try with_reducible rfl)
          try simp only [Act.put, List.setIfInBounds_toArray, List.set_cons_zero, List.set_cons_succ]
          refine Uptot.takeS (i := 1) (v := ?_) rfl (by kernel_rfl) (by kernel_rfl) (by kernel_rfl) (by kernel_rfl) (fun _ _ _ h => h) (Or.inl ⟨by rfl, ?_⟩) hST ?_
          rotate_left 1
          · intro w9 hSw; (try dsimp only at hSw); obtain ⟨h91, h92, h93, h94⟩ := hSw; go_simp; (try with_reducible rfl)
          try simp only [Act.put, List.setIfInBounds_toArray, List.set_cons_zero, List.set_cons_succ]
          refine Uptot.takeS (i := 2) (v := ?_) rfl (by kernel_rfl) (by kernel_rfl) (by kernel_rfl) (by kernel_rfl) (fun _ _ _ h => h) (Or.inl ⟨by rfl, ?_⟩) hST ?_
          rotate_left 1
          · intro w9 hSw; (try dsimp only at hSw); obtain ⟨h91, h92, h93, h94⟩ := hSw; go_simp; (try with_reducible rfl)
          try simp only [Act.put, List.setIfInBounds_toArray, List.set_cons_zero, List.set_cons_succ]
          refine Uptot.takeS (i := 4) (v := ?_) rfl (by kernel_rfl) (by kernel_rfl) (by kernel_rfl) (by kernel_rfl) (fun _ _ _ h => h) (Or.inl ⟨by rfl, ?_⟩) hST ?_
          rotate_left 1
          · intro w9 hSw; (try dsimp only at hSw); obtain ⟨h91, h92, h93, h94⟩ := hSw; go_simp; (try with_reducible rfl)
          try simp only [Act.put, List.setIfInBounds_toArray, List.set_cons_zero, List.set_cons_succ]
          refine Uptot.takeS (i := 5) (v := ?_) rfl (by kernel_rfl) (by kernel_rfl) (by kernel_rfl) (by kernel_rfl) (fun _ _ _ h => h) (Or.inl ⟨by rfl, ?_⟩) hST ?_
          rotate_left 1
          · intro w9 hSw; (try dsimp only at hSw); obtain ⟨h91, h92, h93, h94⟩ := hSw; go_simp; (try with_reducible rfl)
          try simp only [Act.put, List.setIfInBounds_toArray, List.set_cons_zero, List.set_cons_succ]
          refine Uptot.takeS (i := 6) (v := ?_) rfl (by kernel_rfl) (by kernel_rfl) (by kernel_rfl) (by kernel_rfl) (fun _ _ _ h => h) (Or.inl ⟨by rfl, ?_⟩) hST ?_
          rotate_left 1
          · intro w9 hSw; (try dsimp only at hSw); obtain ⟨h91, h92, h93, h94⟩ := hSw; go_simp; (try with_reducible rfl)
          try simp only [Act.put, List.setIfInBounds_toArray, List.set_cons_zero, List.set_cons_succ]
          refine Uptot.one (i := 3) rfl (by kernel_rfl) (fun K hK9 => ?_)
          go_simp
          go_at_call 44
          refine (HU1 V2 hb).mono ?_
          rintro e V3 ⟨rfl, hs3⟩
          replace hST : (V3.cell? ⟨R, 0, none⟩ = some (.slice A n c) ∧ V3.cell? ⟨R, 1, none⟩ = some (.slice (some ⟨g1, 0, none⟩) x cg1) ∧ V3.cell? ⟨R + 1, 0, none⟩ = some (.slice B n c') ∧ V3.cell? ⟨R + 1, 1, none⟩ = some (.slice (some ⟨g2, 0, none⟩) x cg2)) ∧ True := ⟨⟨(hs3.cell (p := ⟨R, 0, none⟩) (block_lt_of_cell hST.1.1)).trans hST.1.1, (hs3.cell (p := ⟨R, 1, none⟩) (block_lt_of_cell hST.1.2.1)).trans hST.1.2.1, (hs3.cell (p := ⟨R + 1, 0, none⟩) (block_lt_of_cell hST.1.2.2.1)).trans hST.1.2.2.1, (hs3.cell (p := ⟨R + 1, 1, none⟩) (block_lt_of_cell hST.1.2.2.2)).trans hST.1.2.2.2⟩, trivial⟩
          replace hb := hb.next' hs3 (Nat.le_of_eq HX6.out.symm)
          replace hxx := heap_keepB hxx hs3
          replace hyy := heap_keepB hyy hs3
          replace hko := hko.trans (others_of_below hs3)
          replace hkp := KpDn_t hkp ⟨hs3.block _ (Nat.lt_of_lt_of_le hb1l hsz), hs3.block _ (Nat.lt_of_lt_of_le hgl hsz)⟩
          replace hsz := Nat.le_trans hsz hs3.size
          clear hs3
          refine hK9.out _ _ (Cond.ahead hST) ?_
          clear hK9 K
          try simp only [Act.put, List.setIfInBounds_toArray, List.set_cons_zero, List.set_cons_succ]
          refine Uptot.one (i := 7) rfl (by kernel_rfl) (fun K hK9 => ?_)
          go_simp
          go_at_call 44
          refine (HU2 V3 hb).mono ?_
          rintro e V4 ⟨rfl, hs4⟩
          replace hST : (V4.cell? ⟨R, 0, none⟩ = some (.slice A n c) ∧ V4.cell? ⟨R, 1, none⟩ = some (.slice (some ⟨g1, 0, none⟩) x cg1) ∧ V4.cell? ⟨R + 1, 0, none⟩ = some (.slice B n c') ∧ V4.cell? ⟨R + 1, 1, none⟩ = some (.slice (some ⟨g2, 0, none⟩) x cg2)) ∧ True := ⟨⟨(hs4.cell (p := ⟨R, 0, none⟩) (block_lt_of_cell hST.1.1)).trans hST.1.1, (hs4.cell (p := ⟨R, 1, none⟩) (block_lt_of_cell hST.1.2.1)).trans hST.1.2.1, (hs4.cell (p := ⟨R + 1, 0, none⟩) (block_lt_of_cell hST.1.2.2.1)).trans hST.1.2.2.1, (hs4.cell (p := ⟨R + 1, 1, none⟩) (block_lt_of_cell hST.1.2.2.2)).trans hST.1.2.2.2⟩, trivial⟩
          replace hb := hb.next' hs4 (Nat.le_of_eq HX6.out.symm)
          replace hxx := heap_keepB hxx hs4
          replace hyy := heap_keepB hyy hs4
          replace hko := hko.trans (others_of_below hs4)
          replace hkp := KpDn_t hkp ⟨hs4.block _ (Nat.lt_of_lt_of_le hb1l hsz), hs4.block _ (Nat.lt_of_lt_of_le hgl hsz)⟩
          replace hsz := Nat.le_trans hsz hs4.size
          clear hs4
          refine hK9.out _ _ (Cond.ahead hST) ?_
          clear hK9 K
          try simp only [Act.put, List.setIfInBounds_toArray, List.set_cons_zero, List.set_cons_succ]
          have z0 := cell0 hxx
          have f0 := froz0 (o := 0) hxx
          refine Uptot.one (i := 8) rfl (by kernel_rfl) (fun K hK9 => ?_)
          go_simp
          replace hST : ((V4.setCell ⟨X, 0, none⟩ (.string z)).cell? ⟨R, 0, none⟩ = some (.slice A n c) ∧ (V4.setCell ⟨X, 0, none⟩ (.string z)).cell? ⟨R, 1, none⟩ = some (.slice (some ⟨g1, 0, none⟩) x cg1) ∧ (V4.setCell ⟨X, 0, none⟩ (.string z)).cell? ⟨R + 1, 0, none⟩ = some (.slice B n c') ∧ (V4.setCell ⟨X, 0, none⟩ (.string z)).cell? ⟨R + 1, 1, none⟩ = some (.slice (some ⟨g2, 0, none⟩) x cg2)) ∧ True := ⟨⟨(World.cell?_setCell_other _ _ _ _ (by simp <;> omega)).trans hST.1.1, (World.cell?_setCell_other _ _ _ _ (by simp <;> omega)).trans hST.1.2.1, (World.cell?_setCell_other _ _ _ _ (by simp <;> omega)).trans hST.1.2.2.1, (World.cell?_setCell_other _ _ _ _ (by simp <;> omega)).trans hST.1.2.2.2⟩, trivial⟩
          replace hb := hb.setCell (p := ⟨X, 0, none⟩) (by simp <;> omega) (.string z)
          replace hxx := (heap_setCell_same V4 X 0 _ _ (.string z) hxx).trans rfl
          replace hyy := (Below.heap_setCell V4 ⟨X, 0, none⟩ (.string z) (X + 1) (by simp)).trans hyy
          replace hko := hko.trans (KeepsOthers.setCell V4 ⟨X, 0, none⟩ (.string z))
          replace hkp := KpDn_t hkp ⟨Below.heap_setCell V4 ⟨X, 0, none⟩ (.string z) b1 (by simp only []; omega), Below.heap_setCell V4 ⟨X, 0, none⟩ (.string z) g1 (by simp only []; omega)⟩
          replace hsz : w9.heap.size ≤ (V4.setCell ⟨X, 0, none⟩ (.string z)).heap.size := by simpa using hsz
          clear z0 f0
          refine hK9.out _ _ (Cond.ahead hST) ?_
          clear hK9 K
          try simp only [Act.put, List.setIfInBounds_toArray, List.set_cons_zero, List.set_cons_succ]
          have z1 := cell0 hyy
          have f1 := froz0 (o := 0) hyy
          refine Uptot.one (i := 9) rfl (by kernel_rfl) (fun K hK9 => ?_)
          go_simp
          replace hST : (((V4.setCell ⟨X, 0, none⟩ (.string z)).setCell ⟨X + 1, 0, none⟩ (.string u)).cell? ⟨R, 0, none⟩ = some (.slice A n c) ∧ ((V4.setCell ⟨X, 0, none⟩ (.string z)).setCell ⟨X + 1, 0, none⟩ (.string u)).cell? ⟨R, 1, none⟩ = some (.slice (some ⟨g1, 0, none⟩) x cg1) ∧ ((V4.setCell ⟨X, 0, none⟩ (.string z)).setCell ⟨X + 1, 0, none⟩ (.string u)).cell? ⟨R + 1, 0, none⟩ = some (.slice B n c') ∧ ((V4.setCell ⟨X, 0, none⟩ (.string z)).setCell ⟨X + 1, 0, none⟩ (.string u)).cell? ⟨R + 1, 1, none⟩ = some (.slice (some ⟨g2, 0, none⟩) x cg2)) ∧ True := ⟨⟨(World.cell?_setCell_other _ _ _ _ (by simp <;> omega)).trans hST.1.1, (World.cell?_setCell_other _ _ _ _ (by simp <;> omega)).trans hST.1.2.1, (World.cell?_setCell_other _ _ _ _ (by simp <;> omega)).trans hST.1.2.2.1, (World.cell?_setCell_other _ _ _ _ (by simp <;> omega)).trans hST.1.2.2.2⟩, trivial⟩
          replace hb := hb.setCell (p := ⟨X + 1, 0, none⟩) (by simp <;> omega) (.string u)
          replace hyy := (heap_setCell_same (V4.setCell ⟨X, 0, none⟩ (.string z)) (X + 1) 0 _ _ (.string u) hyy).trans rfl
          replace hxx := (Below.heap_setCell (V4.setCell ⟨X, 0, none⟩ (.string z)) ⟨X + 1, 0, none⟩ (.string u) X (by simp)).trans hxx
          replace hko := hko.trans (KeepsOthers.setCell (V4.setCell ⟨X, 0, none⟩ (.string z)) ⟨X + 1, 0, none⟩ (.string u))
          replace hkp := KpDn_t hkp ⟨Below.heap_setCell (V4.setCell ⟨X, 0, none⟩ (.string z)) ⟨X + 1, 0, none⟩ (.string u) b1 (by simp only []; omega), Below.heap_setCell (V4.setCell ⟨X, 0, none⟩ (.string z)) ⟨X + 1, 0, none⟩ (.string u) g1 (by simp only []; omega)⟩
          replace hsz : w9.heap.size ≤ ((V4.setCell ⟨X, 0, none⟩ (.string z)).setCell ⟨X + 1, 0, none⟩ (.string u)).heap.size := by simpa using hsz
          clear z1 f1
          refine hK9.out _ _ (Cond.ahead hST) ?_
          clear hK9 K
          try simp only [Act.put, List.setIfInBounds_toArray, List.set_cons_zero, List.set_cons_succ]
          refine Uptot.done (by kernel_rfl) ?_ _
          refine plainEnd_in ?_
          clear hST
          generalize hF : ((V4.setCell ⟨X, 0, none⟩ (.string z)).setCell ⟨X + 1, 0, none⟩ (.string u)) = F at *
          clear hF
          all_goals
            have z0 := cell0 hxx
            have z1 := cell0 hyy
            by_cases hzu : z = u
            · have hse : (z.toList == u.toList) = true := by rw [str_eq, decide_eq_true hzu]
              have HK1 : Hid (∀ j, j < k + 1 → undT l y j = undT m y j) := Lib.hid fun j hj => by
                rcases (by omega : j < k ∨ j = k) with h | rfl
                · exact heqk.out j h
                · rw [HZ.out, HU9.out, hzu]
              gi_wp2
              go_roundw
              case rel => exact ⟨k + 1, z, u, by go_num, by omega, hb, hsz, hxx, hyy, hko, hkp, HK1⟩
              case measure => simp [intOf] <;> omega
            · have hse : (z.toList == u.toList) = false := by rw [str_eq, decide_eq_false hzu]
              gi_wp2
              refine ⟨hko, ⟨rfl, pre, ⟨y, hy⟩, k, rfl, HEQ.out, by rw [HM.out]; exact hlt, heqk.out, ?_, ?_, ?_⟩, hb⟩
              · show undT l y k ≠ undT m y k
                rw [HZ.out, HU9.out]
                exact fun e => hzu (ByteArray.ext (Array.toList_inj.1 e))
              · show _ = some (Obj.cells #[.string (toB (undT l y k))] 9 (0, 0))
                rw [HZ.out, toB_eq]
                exact hxx
              · show _ = some (Obj.cells #[.string (toB (undT m y k))] 9 (0, 0))
                rw [HU9.out, toB_eq]
                exact hyy
        · obtain rfl : k = M := by omega
          gi_wp2
          refine ⟨hko, hkp, ⟨hb, hsz, p2, p3, hxx, hyy⟩, fun r hr j hj => ?_⟩
          rcases List.mem_append.1 hr with h | h
          · exact HEQ.out r h j hj
          · obtain rfl := List.mem_singleton.1 h
            exact heqk.out j (by rw [← HM.out]; exact hj)
    case done =>
      rintro D xs W hD rfl ⟨_, heq⟩ hKd
      exact (HEND.out fun j hj => heq ⟨0, hx0⟩ (downS_mem hx0 x hx0 (by omega)) j hj).elim
    case stop =>
      rintro D cd pre W hD hpre ⟨⟨rfl, pre0, y, k, rfl, h1, h2, h3, h4, h5, h6⟩, h7⟩ hKd
      obtain ⟨k0, hk, hk2, hk3⟩ := downS_split hx0 hpre
      have HANS2 := Lib.hid (HFOUND.out y.1 k y.2 (fun r hr1 hr2 => h1 ⟨r, hr2⟩ (by rw [hk2]; exact downS_mem hx0 k0 hr2 (by omega))) h2 h3 h4)
      obtain ⟨z, hz⟩ : ∃ z : ByteArray, toB (undT l y.1 k) = z := ⟨_, rfl⟩
      obtain ⟨u, hu⟩ : ∃ u : ByteArray, toB (undT m y.1 k) = u := ⟨_, rfl⟩
      rw [hz] at h5
      rw [hu] at h6
      have HZ := Lib.hid hz
      have HU9 := Lib.hid hu
      have z0 := cell0 h5
      have z1 := cell0 h6
      clear hk2 hk3 h1 h2 h3 h4 hz hu hpre
      have hb7 := HB6.out.trans (h7.mono hbN)
      gi_wp2_with fail
      refine wpIn_wide.2 (wp_region_quiet_below (by kernel_rfl) (by kernel_rfl) ?_)
      have hl0 : ∀ d' os, (Go.Sort.grow (redrawn W d') os).cell? ⟨X, 0, none⟩ = some (.string z) := cell_regrown z0
      have hl1 : ∀ d' os, (Go.Sort.grow (redrawn W d') os).cell? ⟨X + 1, 0, none⟩ = some (.string u) := cell_regrown z1
      repeat (quiet_step (fail))
      refine wpQuiet_nil ?_
      intro _ hw'
      obtain ⟨⟨dq, osq⟩, hw''⟩ := hw'
      subst hw''
      have hq := below_regrown W dq osq
      have hb8 := hb7.trans (hq.mono hb7.size)
      have hKd2 := heap_keepB hKd hq
      clear hl0 hl1 z0 z1
      generalize Go.Sort.grow (redrawn W dq) osq = W2 at *
      gi_wp2
      rw [Exit.noGoto_ret]
      have hbd : Below w.heap.size w (W2.putObj D (.deferred none)) := hb8.grown (grownBy_putObj' W2 D _) (by have := hb8.size; omega) (fun k e => by cases e; omega)
      refine ⟨by simp, .inl ⟨_, _, rfl, run_takeDeferred hKd2, ?_⟩⟩
      exact ⟨_, results_tmp3 rfl _ _ _, by rw [HANS2.out]; simp only [outV]; rw [HZ.out, HU9.out]; rfl, hbd⟩
end Go.Proofs.YtgcohoonhklkbaaDoor

/-
  tree: the program's words as the laws' walks want them (of texts that have digests), and the contract of Trace of any texts.
-/
namespace Go.Proofs.YtgcohoonhklkbaaDoor
open Go.RowKit Go.Kx Go.Trm
set_option maxRecDepth 20000

theorem ttrace_any (HD : DSumH) (l : List ByteArray) (hz : l.length ≤ 9223372036854775807) (hsl : ∀ s ∈ l, s.size ≤ 140737488351232) (i : Int) (s : ByteArray) (hs : s.size ≤ 140737488351232) (path : List ByteArray) (hzp : path.length ≤ 9223372036854775807) (A B : Option Addr) (c c' : Nat)
    (ans : Option (Txt × Txt)) (hans : trcH l i s path = ans) (w : World) (hK : Consts w) (hA : Sl w A (strsV l)) (hB : Sl w B (strsV path)) :
    Calls Tryd.prog 25 #[.slice A l.length c, .int .i64 i, .string s, .slice B path.length c'] w fun e w' => e = .returned (outV ans) ∧ Below w.heap.size w w' := by
  by_cases h : mayN l.length
  · obtain ⟨d, hd10, hd⟩ := h
    exact ttrace_main HD l d hd hd10 hsl i s hs path hzp A B c c' ans hans w hK hA hB
  · rw [trcH_no fun n d _ ho => h ⟨d, ho.2.1, ho.1⟩] at hans
    subst hans
    exact trace_may l i s path A B c c' hz h w
theorem tcollide_any (HD : DSumH) (l m : List ByteArray) (hz : l.length ≤ 9223372036854775807) (hsl : ∀ s ∈ l, s.size ≤ 999999999) (hsm : ∀ s ∈ m, s.size ≤ 999999999) (A B : Option Addr) (c c' : Nat)
    (ans : Option (Txt × Txt)) (hans : colA l m = ans) (w : World) (hK : Consts w) (hA : Sl w A (strsV l)) (hB : Sl w B (strsV m)) :
    Calls Tryd.prog 23 #[.slice A l.length c, .slice B m.length c'] w fun e w' => e = .returned (outV ans) ∧ Below w.heap.size w w' := by
  by_cases h : l.length = m.length ∧ mayN l.length ∧ l ≠ m
  · obtain ⟨hlm, ⟨d, hd10, hd⟩, hne⟩ := h
    exact tcollide_main HD l m d hd hlm hd10 hne hsl hsm A B c c' ans hans w hK hA hB
  · rw [colA_no fun d ho => h ⟨ho.1, ⟨d, ho.2.2.1, ho.2.1⟩, ho.2.2.2.1⟩] at hans
    subst hans
    exact tcollide_early l m A B c c' hz h w hA hB

/-! ### of texts that have digests -/
theorem rootH_same (l : List ByteArray) (hl : ∀ s ∈ l, s.size ≤ 999999999) : rootH l = rootR l := by
  unfold rootH rootR
  rw [root_same l hl]
theorem pathH_same (l : List ByteArray) (hl : ∀ s ∈ l, s.size ≤ 999999999) (i : Int) : pathH l i = pathR l i := by
  unfold pathH pathR
  rw [path_same l hl]
theorem leaf_le (s : ByteArray) (hs : s.size ≤ 999999999) : (ofLeafL s.data.toList).length ≤ 1000000000 := by
  have : s.data.toList.length = s.size := by simp
  simp only [ofLeafL, List.length_cons]
  omega
theorem ok_le {i : Int} {path : List ByteArray} (h : wayOk i path) : ∀ p ∈ txtsL path, p.length ≤ 32 := fun p hp => by
  obtain ⟨q, hq, rfl⟩ := List.mem_map.1 hp
  have := h.2.2.2 q hq
  simp
  omega
theorem climbH_same (i : Int) (s : ByteArray) (hs : s.size ≤ 999999999) (path : List ByteArray) : climbH i s path = climbR i s path := by
  by_cases h : wayOk i path
  · rw [climbH_yes h, climbR_yes h, (ways_same _ _ _ (leaf_le s hs) (ok_le h)).2]
  · rw [climbH_no h, climbR_no h]
theorem path_le (l : List Txt) (i d : Nat) : ∀ p ∈ pathL sumL l i d, p.length ≤ 32 := fun p hp => by
  obtain ⟨q, -, rfl⟩ := List.mem_map.1 hp
  rw [List.getD]
  cases h : (rowL sumL l q)[partN (i / 2 ^ q)]? with
  | none => simp
  | some x => exact rows_le l q x (List.mem_of_getElem? h)
theorem trcHok_iff {l : List ByteArray} (hl : ∀ s ∈ l, s.size ≤ 999999999) {n d : Nat} {s : ByteArray} (hs : s.size ≤ 999999999) {path : List ByteArray} : trcHok l n d s path ↔ trcOk l n d s path := by
  constructor
  · rintro ⟨h1, h2, h3, h4, h5, h6, h7⟩
    exact ⟨h1, h2, h3, h4, h5, h6, by rw [← root_same l hl, ← (ways_same _ _ _ (leaf_le s hs) (ok_le h6)).2, h7]⟩
  · rintro ⟨h1, h2, h3, h4, h5, h6, h7⟩
    exact ⟨h1, h2, h3, h4, h5, h6, by rw [root_same l hl, (ways_same _ _ _ (leaf_le s hs) (ok_le h6)).2, h7]⟩
theorem trcH_same (l : List ByteArray) (hl : ∀ s ∈ l, s.size ≤ 999999999) (i : Int) (s : ByteArray) (hs : s.size ≤ 999999999) (path : List ByteArray) : trcH l i s path = trcA l i s path := by
  by_cases h : 0 ≤ i ∧ trcOk l i.toNat path.length s path
  · obtain ⟨h0, h⟩ := h
    obtain ⟨n, rfl⟩ := Int.eq_ofNat_of_zero_le h0
    rw [Int.toNat_natCast] at h
    have hx : ((txtsL l).getD n []).length ≤ 999999999 := by
      rw [txtsL_get l h.2.2.1]
      have := hl _ (List.getElem_mem h.2.2.1)
      simpa using this
    rw [trcH_yes ((trcHok_iff hl hs).2 h), trcA_yes h, wayA, wayB, (ways_same _ _ _ (leaf_le s hs) (ok_le h.2.2.2.2.2.1)).1, path_same l hl, (ways_same _ _ _ (by simp only [ofLeafL, List.length_cons]; omega) (path_le _ _ _)).1]
  · rw [trcA, if_neg h, trcH, if_neg]
    rintro ⟨h1, h2⟩
    exact h ⟨h1, (trcHok_iff hl hs).1 h2⟩
theorem treeW_paid (HD : DSumH) : TreeW 1000 where
  leaf s d hs hd w hK := tleaf_any HD s d (by omega) (by rw [← hd, leafL, leafL, sumH_short (leaf_le s (by omega))]) w hK
  node a b d ha hb hd w hK := tnode_any HD a b d (by omega) (by omega) (by
    rw [← hd, nodeL, nodeL, sumH_short]
    have h1 : a.data.toList.length = a.size := by simp
    have h2 : b.data.toList.length = b.size := by simp
    simp only [ofNodeL, List.length_cons, List.length_append]
    omega) w hK
  root l A c r k hz hs hr w hK hA := troot_any HD l A c (by omega) (fun s h => by have := hs s h; omega) r k (by rw [rootH_same l fun s h => by have := hs s h; omega]; exact hr) w hK hA
  path l A c i ps k hz hs hr w hK hA := tpath_any HD l A c (by omega) (fun s h => by have := hs s h; omega) i ps k (by rw [pathH_same l fun s h => by have := hs s h; omega]; exact hr) w hK hA
  climb i s path A c r k hz hs hr w hK hA := tclimb_any HD i s (by omega) path A c (by omega) r k (by rw [climbH_same i s (by omega)]; exact hr) w hK hA
  check root i s path A c r k b hz hs hr hb w hK hA := tcheck_any HD root i s (by omega) path A c (by omega) r k (by rw [climbH_same i s (by omega)]; exact hr) b hb w hK hA
  collide l m A B c c' ans hz hz2 hs hs2 hans w hK hA hB := tcollide_any HD l m (by omega) (fun s h => by have := hs s h; omega) (fun s h => by have := hs2 s h; omega) A B c c' ans hans w hK hA hB
  trace l i s path A B c c' ans hz hz2 hs hs2 hans w hK hA hB := ttrace_any HD l (by omega) (fun s h => by have := hs s h; omega) i s (by omega) path (by omega) A B c c' ans (by rw [trcH_same l (fun s h => by have := hs s h; omega) i s (by omega)]; exact hans) w hK hA hB
end Go.Proofs.YtgcohoonhklkbaaDoor

/-
  digest: the contract of Step.
-/
namespace Go.Proofs.YtgcohoonhklkbaaDoor
open Go.RowKit Go.Kx
set_option maxRecDepth 20000

def i64s (s : St) : Array Value := #[.int .i64 s.a, .int .i64 s.b, .int .i64 s.c, .int .i64 s.d, .int .i64 s.e, .int .i64 s.f, .int .i64 s.g, .int .i64 s.h]
theorem row8 {w : World} {g : Nat} {t : TypeId} {z : Value} (h : w.rowIs g t 8 (fun _ => z)) : w.cell? ⟨g, 0, none⟩ = some z ∧ w.cell? ⟨g, 1, none⟩ = some z ∧ w.cell? ⟨g, 2, none⟩ = some z ∧ w.cell? ⟨g, 3, none⟩ = some z ∧
    w.cell? ⟨g, 4, none⟩ = some z ∧ w.cell? ⟨g, 5, none⟩ = some z ∧ w.cell? ⟨g, 6, none⟩ = some z ∧ w.cell? ⟨g, 7, none⟩ = some z ∧ ∀ o, w.frozen? ⟨g, o, none⟩ = false :=
  ⟨h.cell (by omega), h.cell (by omega), h.cell (by omega), h.cell (by omega), h.cell (by omega), h.cell (by omega), h.cell (by omega), h.cell (by omega), h.frozen⟩
theorem row8_zero {w : World} {t : TypeId} {z : Value} : (w.alloc (.cells #[z, z, z, z, z, z, z, z] t)).rowIs w.heap.size t 8 (fun _ => z) := rowIs_new rfl
theorem row8_new {w : World} {t : TypeId} (m : St) : (w.alloc (.cells #[.int .u32 m.a, .int .u32 m.b, .int .u32 m.c, .int .u32 m.d, .int .u32 m.e, .int .u32 m.f, .int .u32 m.g, .int .u32 m.h] t)).rowIs w.heap.size t 8 (fun j => .int .u32 (m.at j : Nat)) :=
  World.rowIs_alloc w (rowA .u32 8 m.at) t (fun j => .int .u32 (m.at j : Nat)) (fun j hj => rowA_at .u32 8 m.at j (by simpa [rowA_size] using hj))
theorem at8 (m : St) (j : Nat) (hj : j < 8) : (if j = 7 then Value.int .u32 m.h else if j = 6 then Value.int .u32 m.g else if j = 5 then Value.int .u32 m.f else if j = 4 then Value.int .u32 m.e else if j = 3 then Value.int .u32 m.d else if j = 2 then Value.int .u32 m.c else
    if j = 1 then Value.int .u32 m.b else Value.int .u32 m.a) = Value.int .u32 (m.at j : Nat) := by
  rcases (by omega : j = 0 ∨ j = 1 ∨ j = 2 ∨ j = 3 ∨ j = 4 ∨ j = 5 ∨ j = 6 ∨ j = 7) with rfl | rfl | rfl | rfl | rfl | rfl | rfl | rfl <;> rfl
theorem row8_set {w : World} {g : Nat} {t : TypeId} {f : Nat → Value} (h : w.rowIs g t 8 f) (m : St) :
    ((((((((w.setCell ⟨g, 0, none⟩ (.int .u32 m.a)).setCell ⟨g, 1, none⟩ (.int .u32 m.b)).setCell ⟨g, 2, none⟩ (.int .u32 m.c)).setCell ⟨g, 3, none⟩ (.int .u32 m.d)).setCell ⟨g, 4, none⟩ (.int .u32 m.e)).setCell ⟨g, 5, none⟩ (.int .u32 m.f)).setCell ⟨g, 6, none⟩ (.int .u32 m.g)).setCell ⟨g, 7, none⟩ (.int .u32 m.h)).rowIs g t 8 (fun j => .int .u32 (m.at j : Nat)) := by
  refine ((((((((h.set 0 _).set 1 _).set 2 _).set 3 _).set 4 _).set 5 _).set 6 _).set 7 _).congr fun j hj => ?_
  rw [← at8 m j hj]
  rcases (by omega : j = 0 ∨ j = 1 ∨ j = 2 ∨ j = 3 ∨ j = 4 ∨ j = 5 ∨ j = 6 ∨ j = 7) with rfl | rfl | rfl | rfl | rfl | rfl | rfl | rfl <;> rfl
theorem below8_set {B : Nat} {w0 w : World} {g : Nat} (h : Below B w0 w) (hg : B ≤ g) (v0 v1 v2 v3 v4 v5 v6 v7 : Value) :
    Below B w0 ((((((((w.setCell ⟨g, 0, none⟩ v0).setCell ⟨g, 1, none⟩ v1).setCell ⟨g, 2, none⟩ v2).setCell ⟨g, 3, none⟩ v3).setCell ⟨g, 4, none⟩ v4).setCell ⟨g, 5, none⟩ v5).setCell ⟨g, 6, none⟩ v6).setCell ⟨g, 7, none⟩ v7) :=
  (((((((h.setCell hg _).setCell hg _).setCell hg _).setCell hg _).setCell hg _).setCell hg _).setCell hg _).setCell hg _
theorem add_at (s m : St) (k : Nat) (h : k < 8) : (s.add m).at k = (s.at k + m.at k) % 4294967296 := by
  rcases (by omega : k = 0 ∨ k = 1 ∨ k = 2 ∨ k = 3 ∨ k = 4 ∨ k = 5 ∨ k = 6 ∨ k = 7) with rfl | rfl | rfl | rfl | rfl | rfl | rfl | rfl <;> rfl
theorem addL_pair (x y : Nat) : addL [x, y] = (x + y) % 4294967296 := by simp [addL]
theorem Sl2 {w : World} {n : Nat} {x y : Value} (h0 : w.cell? ⟨n, 0, none⟩ = some x) (h1 : w.cell? ⟨n, 1, none⟩ = some y) : Sl w (some ⟨n, 0, none⟩) [x, y] := by
  refine .inr ⟨n, 0, rfl, block_lt_of_cell h0, fun j u hu => ?_⟩
  match j, hu with
  | 0, hu => simp at hu; subst hu; exact h0
  | 1, hu => simp at hu; subst hu; exact h1
theorem add_two (n x y : Nat) (hx : x < 4294967296) (hy : y < 4294967296) (w : World) (h0 : w.cell? ⟨n, 0, none⟩ = some (.int .i64 x)) (h1 : w.cell? ⟨n, 1, none⟩ = some (.int .i64 y)) :
    Calls Tryd.prog 63 #[.slice (some ⟨n, 0, none⟩) 2 2] w fun e w' => e = .returned (.tuple #[.int .i64 ((x + y) % 4294967296 : Nat), .bool true]) ∧ w = w' := by
  have h := add_any (some ⟨n, 0, none⟩) 2 [x, y] w (by simp) (Sl2 h0 h1) (by simp; omega)
  rw [addL_pair] at h
  exact h
theorem u32_i64 {x : Nat} (h : x < 4294967296) : IntKind.i64.wrap (x : Int) = (x : Int) := wrapNat (by omega)
theorem row8_size : (Tryd.prog.info? 59).map (·.size) = some 8 := by kernel_rfl
theorem St.l_lt {s : St} (h : s.ok) : ∀ x ∈ s.l, x < 4294967296 := by
  obtain ⟨ha, hb, hc, hd, he, hf, hg, hh⟩ := h
  intro x hx
  simp only [St.l, List.mem_cons, List.not_mem_nil, or_false] at hx
  rcases hx with rfl | rfl | rfl | rfl | rfl | rfl | rfl | rfl <;> assumption
set_option maxRecDepth 100000 in
set_option maxHeartbeats 8000000 in
theorem step_yes (s : St) (hs : s.ok) (blk : ByteArray) (hb : blk.size = 64) (w : World) (hK : Consts w) :
   Calls Tryd.prog 49 #[s.v, .string blk] w fun e w' => e = .returned (.tuple #[(stepL s blk.data.toList).v, .bool true]) ∧ Below w.heap.size w w' := by
  have hsl := Sl.new w 59 (i64s s)
  have hsl2 : Sl (w.alloc (.cells (i64s s) 59)) (some ⟨w.heap.size, 0, none⟩) (ints s.l) := hsl
  have HSL := Lib.hid (hsl2.keep (Below.alloc0 _ (.cells (rowA .i64 8 fun _ => 0) 59)))
  clear hsl hsl2
  unfold i64s at HSL
  have hll := St.l_lt hs
  have HLL := Lib.hid hll
  clear hll
  unfold St.v
  go_enter Tryd.func49, Tryd.ntmps49
  go_wp2_with fail
  refine (is_nats (some ⟨w.heap.size, 0, none⟩) 8 s.l _ (by simp [St.l]) HSL.out HLL.out).mono ?_
  rintro e w1 ⟨rfl, rfl⟩
  go_upto_region 3 with fail
  have hr1 := rowIs_new (w := w.alloc (.cells (i64s s) 59)) (t := 59) (n := 8) (z := .int .i64 0) (c := rowA .i64 8 fun _ => 0) rfl
  have hr0 := (World.rowIs_alloc w (i64s s) 59 (fun j => .int .i64 (s.at j : Nat)) (fun j hj => rowA_at .i64 8 s.at j hj)).alloc (.cells (rowA .i64 8 fun _ => 0) 59)
  have hbw := ((Below.refl w.heap.size w).alloc (Nat.le_refl _) (.cells (i64s s) 59)).alloc (by simp) (.cells (rowA .i64 8 fun _ => 0) 59)
  have hKW := hK.keep hbw
  have hsz : ((w.alloc (.cells (i64s s) 59)).alloc (.cells (rowA .i64 8 fun _ => 0) 59)).heap.size = w.heap.size + 1 + 1 := by simp
  rw [show (i64s s).size = 8 from rfl] at hr0
  rw [World.size_alloc] at hr1
  unfold i64s at hr1 hr0 hbw hKW hsz
  clear HSL hK
  generalize (w.alloc _).alloc _ = W at *
  have c0 := hr0.cell (i := 0) (by omega)
  have c1 := hr0.cell (i := 1) (by omega)
  have c2 := hr0.cell (i := 2) (by omega)
  have c3 := hr0.cell (i := 3) (by omega)
  have c4 := hr0.cell (i := 4) (by omega)
  have c5 := hr0.cell (i := 5) (by omega)
  have c6 := hr0.cell (i := 6) (by omega)
  have c7 := hr0.cell (i := 7) (by omega)
  simp only [St.at, St.l, List.getD_cons_zero, List.getD_cons_succ] at c0 c1 c2 c3 c4 c5 c6 c7
  have hlt : w.heap.size < W.heap.size := by omega
  have HSZ := Lib.hid hsz
  clear hsz
  obtain ⟨Wf, hWf⟩ : ∃ f, f = fun j => (blkW blk.data.toList).getD j 0 := ⟨_, rfl⟩
  have hsch : ∀ V : World, Calls Tryd.prog 62 #[.string blk] V fun e w' => e = .returned (.agg (rowA .u32 64 Wf)) ∧ Below V.heap.size V w' := by rw [hWf]; exact fun V => sched_any blk V hb
  have hWl : ∀ j, Wf j < 4294967296 := by rw [hWf]; exact blkW_lt blk
  obtain ⟨m, hm⟩ : ∃ m, mixN Wf s 64 = m := ⟨_, rfl⟩
  have HSCH := Lib.hid hsch
  have HWL := Lib.hid hWl
  have HWF := Lib.hid hWf
  clear hsch hWl hWf
  have HM := Lib.hid hm
  clear hm
  go_cut [6] (fun b wx => ∃ g : Nat, b = .pointer (some ⟨g, 0, none⟩) ∧ W.heap.size ≤ g ∧ wx.rowIs g 74 8 (fun j => .int .u32 (m.at j : Nat)) ∧ Below W.heap.size W wx)
  case first =>
    go_region_with (first
      | (go_at_call 62; refine (HSCH.out _).mono ?_; rintro e w1 ⟨rfl, hb1⟩; obtain ⟨hc1, hf1⟩ := bcell hb1; have hz1 := hb1.size; (try simp only [World.size_drew] at hc1 hf1 hz1); (try simp only [World.size_alloc] at hc1 hf1 hz1); (try simp only [World.size_drew] at hc1 hf1 hz1); (try have hz3 : W.heap.size < w1.heap.size := by omega); have hz5 : w.heap.size < w1.heap.size := (by omega))
      | (go_at_call 61; refine (mix_lit s hs Wf HWL.out m HM.out _ ?_).mono ?_; (exact hKW.keep (by first | exact (Below.drew0 _).next hb1 | exact ((Below.drew0 _).al _).next' hb1 | exact ((Below.drew0 _).next hb1).al _ | exact ((Below.alloc0 _ _).drew).next' hb1)); rintro e w2 ⟨rfl, hb2⟩; obtain ⟨hc2, hf2⟩ := bcell hb2; have hz2 := hb2.size; (try simp only [World.size_drew] at hc2 hf2 hz2); (try simp only [World.size_alloc] at hc2 hf2 hz2); (try simp only [World.size_drew] at hc2 hf2 hz2); (try have hz4 : W.heap.size < w2.heap.size := by omega)))
    all_goals (go_wp2_with fail; go_meet)
    all_goals have hB1 : Below W.heap.size W w1 := (by first | (with_reducible exact (Below.drew0 _).next hb1) | (with_reducible exact ((Below.alloc0 _ _).drew).next' hb1 (Nat.le_refl _)))
    all_goals have hB2 : Below W.heap.size W w2 := (by first | (with_reducible exact hB1.next hb2) | (with_reducible exact (hB1.al _).next' hb2 (Nat.le_refl _)))
    all_goals have hs1 := hB1.size
    all_goals have hs2 := hB2.size
    all_goals clear hc1 hf1 hc2 hf2
    all_goals refine ⟨_, rfl, ?_, ?_, ?_⟩
    all_goals first
      | omega
      | (with_reducible exact row8_new m)
      | (with_reducible exact hB2.al _)
      | (with_reducible exact row8_set (rowIs_keep row8_zero hb2) m)
      | (with_reducible exact row8_set (rowIs_keep (rowIs_keep (World.rowIs.drew row8_zero) hb1) hb2) m)
      | (with_reducible refine below8_set hB2 ?_ _ _ _ _ _ _ _ _; omega)
  case rest =>
    obtain ⟨g, rfl, hg, hrg, hbg⟩ := hcut
    have hr0' := rowIs_keep hr0 hbg
    have hr1' := rowIs_keep hr1 hbg
    have hbw' := hbw.next' hbg
    have hszc := hbg.size
    have hgl := hrg.lt
    have hsz := HSZ.out
    have hrn := rowIs_new (w := wc) (t := 59) (n := 8) (z := .int .i64 0) rfl
    have hr0n := hr0'.alloc (.cells (List.replicate 8 (Value.int .i64 0)).toArray 59)
    have hr1n := hr1'.alloc (.cells (List.replicate 8 (Value.int .i64 0)).toArray 59)
    have hrgn := hrg.alloc (.cells (List.replicate 8 (Value.int .i64 0)).toArray 59)
    have hbn := hbw'.alloc (by omega) (.cells (List.replicate 8 (Value.int .i64 0)).toArray 59)
    have hml : ∀ j, m.at j < 4294967296 := by rw [← HM.out]; exact St.at_lt (mixN_ok Wf hs 64)
    have hsl := St.at_lt hs
    have HML := Lib.hid hml
    have HSL := Lib.hid hsl
    have n1 : w.heap.size < wc.heap.size := by omega
    have n2 : w.heap.size + 1 < wc.heap.size := by omega
    have n3 : w.heap.size + 1 < g := by omega
    clear hr0' hr1' hrg hbw' hml hsl HWL HSCH hr0 hr1 hbw hKW c0 c1 c2 c3 c4 c5 c6 c7 hlt HLL hbg hg hszc HSZ hsz
    go_wp2_with fail
    have hNs : wc.heap.size < (wc.alloc (.cells (List.replicate 8 (Value.int .i64 0)).toArray 59)).heap.size := by simp
    generalize wc.heap.size = N at *
    go_loopw [8, 22] (fun _ i wr => ∃ k : Nat, k ≤ 8 ∧ i = .int .i64 k ∧ wr.rowIs w.heap.size 59 8 (fun j => .int .i64 (s.at j : Nat)) ∧ wr.rowIs (w.heap.size + 1) 59 8 (fun _ => .int .i64 0) ∧
      wr.rowIs g 74 8 (fun j => .int .u32 (m.at j : Nat)) ∧ wr.rowIs N 59 8 (fun j => .int .i64 (rowW (s.add m).at k j : Nat)) ∧ Below w.heap.size w wr ∧ N < wr.heap.size) (fun _ i _ => 8 - (intOf i).toNat)
    case atStart => exact ⟨0, by omega, rfl, hr0n, hr1n, hrgn, hrn, hbn, hNs⟩
    case round =>
      clear hr0n hr1n hrgn hrn hbn hNs
      obtain ⟨k, hk, rfl, q0, q1, qg, qn, qb, qs⟩ := hrel
      by_cases hl : k < 8
      · have d0 := q0.cell (i := k) hl
        have dg := qg.cell (i := k) hl
        have dn := qn.cell (i := k) hl
        have df := qn.frozen k
        have hxl := HSL.out k
        have hyl := HML.out k
        have HSET := Lib.hid (rowW_set (s.add m).at k)
        have HADD := Lib.hid (add_at s m k hl)
        generalize s.at k = x at *
        generalize m.at k = y at *
        generalize rowW (s.add m).at k k = z at *
        have hyw := u32_i64 hyl
        have m1 : ¬ w.heap.size = N := by omega
        have m2 : ¬ g = N := by omega
        have m3 : ¬ N = w.heap.size := by omega
        have m4 : ¬ N = g := by omega
        go_wp2
        go_region_held3 (fun w' => w'.cell? ⟨w.heap.size, k, none⟩ = some (.int .i64 x) ∧ w'.cell? ⟨g, k, none⟩ = some (.int .u32 y)) (go_keep)
          (first | (go_at_call 63; refine (add_two _ x y hxl hyl _ ?_ ?_).mono ?_; (simp); (simp); rintro e w' ⟨rfl, rfl⟩))
        go_wp2
        go_roundw
        case rel =>
          refine ⟨k + 1, by omega, by go_num, ((q0.setOther (by simpa using m1) _).alloc _).drew, ((q1.setOther (by simp; omega) _).alloc _).drew, ((qg.setOther (by simpa using m2) _).alloc _).drew, ?_,
            ((qb.setCell (p := ⟨N, k, none⟩) (by simp; omega) _).alloc (by simp; omega) _).drew, by simp; omega⟩
          refine (((qn.set k _).alloc _).drew).congr fun j _ => ?_
          rw [← HSET.out j, HADD.out]
          by_cases hjk : j = k
          · rw [if_pos hjk, if_pos hjk]; rfl
          · rw [if_neg hjk, if_neg hjk]
        case measure => simp [intOf]; omega
      · obtain rfl : k = 8 := by omega
        obtain ⟨c, h7, hcs, hc⟩ := rowIs_block qn
        obtain ⟨c0, h4, hcs0, hc0⟩ := rowIs_block q1
        have hinf : (Tryd.prog.info? 59).map (·.size) = some c.size := by rw [hcs]; exact row8_size
        have hold : c0.size = c.size := by rw [hcs, hcs0]
        have hall := all_one_ints hc
        have HC := Lib.hid hc
        clear hc hc0 hcs0 hcs
        go_wp2_with (first
          | (refine wpList_load_row rfl _ _ rfl N rfl _ _ _ _ h7 Tryd.underlying59 rfl hinf ?_)
          | (refine wpList_store_row rfl _ _ _ rfl (w.heap.size + 1) _ rfl rfl _ _ h4 hinf hold hall ?_))
        refine bodyPost_ret (v := .tuple #[.agg c, .bool true]) (results_cell_slot rfl _ _ (w.heap.size + 1) _ _ _ _ rfl (setRow_heap _ _ _ _ _ _ h4) Tryd.underlying59 rfl hinf _ rfl) rfl ⟨?_, qb.setRow (by omega) _⟩
        have he : c = rowA .i64 8 (s.add m).at := by
          rw [HC.out, rowA]
          refine congrArg List.toArray (List.map_congr_left fun j hj => ?_)
          rw [rowW_in _ (by simpa using hj)]
        rw [he, ← St.v_row, show stepL s blk.data.toList = s.add m by rw [stepL, ← HM.out, HWF.out]]
        rfl
theorem step_lit (s : St) (hs : s.ok) (blk : ByteArray) (hb : blk.size = 64) (t : St) (ht : stepL s blk.data.toList = t) (w : World) (hK : Consts w) :
   Calls Tryd.prog 49 #[.agg #[.int .i64 s.a, .int .i64 s.b, .int .i64 s.c, .int .i64 s.d, .int .i64 s.e, .int .i64 s.f, .int .i64 s.g, .int .i64 s.h], .string blk] w fun e w' =>
     e = .returned (.tuple #[.agg #[.int .i64 t.a, .int .i64 t.b, .int .i64 t.c, .int .i64 t.d, .int .i64 t.e, .int .i64 t.f, .int .i64 t.g, .int .i64 t.h], .bool true]) ∧ Below w.heap.size w w' := by
  subst ht
  exact step_yes s hs blk hb w hK
theorem row8_i64 {w : World} {g : Nat} {t : TypeId} {s : St} (h : w.rowIs g t 8 (fun j => .int .i64 (s.at j : Nat))) : w.cell? ⟨g, 0, none⟩ = some (.int .i64 s.a) ∧ w.cell? ⟨g, 1, none⟩ = some (.int .i64 s.b) ∧ w.cell? ⟨g, 2, none⟩ = some (.int .i64 s.c) ∧ w.cell? ⟨g, 3, none⟩ = some (.int .i64 s.d) ∧
    w.cell? ⟨g, 4, none⟩ = some (.int .i64 s.e) ∧ w.cell? ⟨g, 5, none⟩ = some (.int .i64 s.f) ∧ w.cell? ⟨g, 6, none⟩ = some (.int .i64 s.g) ∧ w.cell? ⟨g, 7, none⟩ = some (.int .i64 s.h) :=
  ⟨h.cell (by omega), h.cell (by omega), h.cell (by omega), h.cell (by omega), h.cell (by omega), h.cell (by omega), h.cell (by omega), h.cell (by omega)⟩
theorem at8i (m : St) (j : Nat) (hj : j < 8) : (if j = 7 then Value.int .i64 m.h else if j = 6 then Value.int .i64 m.g else if j = 5 then Value.int .i64 m.f else if j = 4 then Value.int .i64 m.e else if j = 3 then Value.int .i64 m.d else if j = 2 then Value.int .i64 m.c else
    if j = 1 then Value.int .i64 m.b else Value.int .i64 m.a) = Value.int .i64 (m.at j : Nat) := by
  rcases (by omega : j = 0 ∨ j = 1 ∨ j = 2 ∨ j = 3 ∨ j = 4 ∨ j = 5 ∨ j = 6 ∨ j = 7) with rfl | rfl | rfl | rfl | rfl | rfl | rfl | rfl <;> rfl
theorem row8_seti {w : World} {g : Nat} {t : TypeId} {f : Nat → Value} (h : w.rowIs g t 8 f) (m : St) :
    ((((((((w.setCell ⟨g, 0, none⟩ (.int .i64 m.a)).setCell ⟨g, 1, none⟩ (.int .i64 m.b)).setCell ⟨g, 2, none⟩ (.int .i64 m.c)).setCell ⟨g, 3, none⟩ (.int .i64 m.d)).setCell ⟨g, 4, none⟩ (.int .i64 m.e)).setCell ⟨g, 5, none⟩ (.int .i64 m.f)).setCell ⟨g, 6, none⟩ (.int .i64 m.g)).setCell ⟨g, 7, none⟩ (.int .i64 m.h)).rowIs g t 8 (fun j => .int .i64 (m.at j : Nat)) := by
  refine ((((((((h.set 0 _).set 1 _).set 2 _).set 3 _).set 4 _).set 5 _).set 6 _).set 7 _).congr fun j hj => ?_
  rw [← at8i m j hj]
  rcases (by omega : j = 0 ∨ j = 1 ∨ j = 2 ∨ j = 3 ∨ j = 4 ∨ j = 5 ∨ j = 6 ∨ j = 7) with rfl | rfl | rfl | rfl | rfl | rfl | rfl | rfl <;> rfl
theorem heap8_set {w : World} {g k : Nat} (h : k ≠ g) (v0 v1 v2 v3 v4 v5 v6 v7 : Value) :
    ((((((((w.setCell ⟨g, 0, none⟩ v0).setCell ⟨g, 1, none⟩ v1).setCell ⟨g, 2, none⟩ v2).setCell ⟨g, 3, none⟩ v3).setCell ⟨g, 4, none⟩ v4).setCell ⟨g, 5, none⟩ v5).setCell ⟨g, 6, none⟩ v6).setCell ⟨g, 7, none⟩ v7).heap[k]? = w.heap[k]? := by
  rw [heap_setCell_other _ _ _ _ h, heap_setCell_other _ _ _ _ h, heap_setCell_other _ _ _ _ h, heap_setCell_other _ _ _ _ h, heap_setCell_other _ _ _ _ h, heap_setCell_other _ _ _ _ h, heap_setCell_other _ _ _ _ h, heap_setCell_other _ _ _ _ h]
end Go.Proofs.YtgcohoonhklkbaaDoor

/-
  The contracts of the library that this program calls, laid at its numbers (in plain words, by the tool of the shelf).
-/
namespace Go.Proofs
open Go.Shelf
def Tryd.lays105_ren : Go.Shelf.Ren := ⟨fun | 105 => 58 | 212 => 75 | 99 => 76 | 165 => 77 | 166 => 78 | 170 => 79 | 169 => 80 | 263 => 89 | 264 => 90 | 206 => 91 | 240 => 92 | 241 => 93 | 276 => 96 | 277 => 97 | n => n, fun | 9 => 9 | 3 => 3 | 4 => 4 | 20 => 20 | 0 => 0 | 46 => 83 | 109 => 93 | 5 => 5 | 72 => 98 | 76 => 101 | 51 => 73 | 146 => 108 | 53 => 110 | 148 => 111 | 70 => 96 | 37 => 82 | 75 => 100 | 127 => 113 | 164 => 115 | 80 => 46 | n => n, fun | n => n⟩
theorem Tryd.lays105 : Go.Proofs.Lays.n105 Tryd.prog Tryd.lays105_ren := {
  mixed := by kernel_rfl
  f99 := Tryd.func76.trans (congrArg some (by kernel_rfl))
  f105 := Tryd.func58.trans (congrArg some (by kernel_rfl))
  f165 := Tryd.func77.trans (congrArg some (by kernel_rfl))
  f166 := Tryd.func78.trans (congrArg some (by kernel_rfl))
  f169 := Tryd.func80.trans (congrArg some (by kernel_rfl))
  f170 := Tryd.func79.trans (congrArg some (by kernel_rfl))
  f206 := Tryd.func91.trans (congrArg some (by kernel_rfl))
  f212 := Tryd.func75.trans (congrArg some (by kernel_rfl))
  f240 := Tryd.func92.trans (congrArg some (by kernel_rfl))
  f241 := Tryd.func93.trans (congrArg some (by kernel_rfl))
  f263 := Tryd.func89.trans (congrArg some (by kernel_rfl))
  f264 := Tryd.func90.trans (congrArg some (by kernel_rfl))
  f276 := Tryd.func96.trans (congrArg some (by kernel_rfl))
  f277 := Tryd.func97.trans (congrArg some (by kernel_rfl))
  t0 := Tryd.underlying0
  a0 := Tryd.isAgg0
  z0 := Tryd.sizeOf0
  v0 := Tryd.zeroValue0
  t3 := Tryd.underlying3
  a3 := Tryd.isAgg3
  z3 := Tryd.sizeOf3
  v3 := Tryd.zeroValue3
  t4 := Tryd.underlying4
  a4 := Tryd.isAgg4
  z4 := Tryd.sizeOf4
  v4 := Tryd.zeroValue4
  t5 := Tryd.underlying5
  a5 := Tryd.isAgg5
  z5 := Tryd.sizeOf5
  v5 := Tryd.zeroValue5
  t9 := Tryd.underlying9
  a9 := Tryd.isAgg9
  z9 := Tryd.sizeOf9
  v9 := Tryd.zeroValue9
  t20 := Tryd.underlying20
  a20 := Tryd.isAgg20
  z20 := Tryd.sizeOf20
  v20 := Tryd.zeroValue20
  t37 := Tryd.underlying82
  a37 := Tryd.isAgg82
  z37 := Tryd.sizeOf82
  v37 := Tryd.zeroValue82
  t46 := Tryd.underlying83
  a46 := Tryd.isAgg83
  z46 := Tryd.sizeOf83
  v46 := Tryd.zeroValue83
  t51 := Tryd.underlying73
  a51 := Tryd.isAgg73
  z51 := Tryd.sizeOf73
  v51 := Tryd.zeroValue73
  t53 := Tryd.underlying110
  a53 := Tryd.isAgg110
  z53 := Tryd.sizeOf110
  v53 := Tryd.zeroValue110
  t70 := Tryd.underlying96
  a70 := Tryd.isAgg96
  z70 := Tryd.sizeOf96
  v70 := Tryd.zeroValue96
  t72 := Tryd.underlying98
  a72 := Tryd.isAgg98
  z72 := Tryd.sizeOf98
  v72 := Tryd.zeroValue98
  t75 := Tryd.underlying100
  a75 := Tryd.isAgg100
  z75 := Tryd.sizeOf100
  v75 := Tryd.zeroValue100
  t76 := Tryd.underlying101
  a76 := Tryd.isAgg101
  z76 := Tryd.sizeOf101
  v76 := Tryd.zeroValue101
  t109 := Tryd.underlying93
  a109 := Tryd.isAgg93
  z109 := Tryd.sizeOf93
  v109 := Tryd.zeroValue93
  t127 := Tryd.underlying113
  a127 := Tryd.isAgg113
  z127 := Tryd.sizeOf113
  v127 := Tryd.zeroValue113
  t146 := Tryd.underlying108
  a146 := Tryd.isAgg108
  z146 := Tryd.sizeOf108
  v146 := Tryd.zeroValue108
  t148 := Tryd.underlying111
  a148 := Tryd.isAgg111
  z148 := Tryd.sizeOf111
  v148 := Tryd.zeroValue111
  t164 := Tryd.underlying115
  a164 := Tryd.isAgg115
  z164 := Tryd.sizeOf115
  v164 := Tryd.zeroValue115 }
theorem Tryd.Builder_Extra_105 : Builder.Extra Tryd.prog Tryd.lays105_ren := {
  sizeBuilder := by kernel_rfl
  liesBuilder := by kernel_rfl
  t5 := Tryd.underlying5
  a5 := Tryd.isAgg5
  z5 := Tryd.sizeOf5
  v5 := Tryd.zeroValue5
  infoByte := by kernel_rfl
  cellsByte := by kernel_rfl
  sizeByte := by kernel_rfl
  neB5 := by decide }
open Go.RowKit Go.Lib in
theorem Tryd.strings_Repeat_main (s : ByteArray) (c : Nat) (w : World) (hc2 : 2 ≤ c) (hc : c ≤ 9223372036854775807) (hlen : s.size * c ≤ 140737488355328) (h0 : 0 < s.size) :
    Calls Tryd.prog 58 #[.string s, .int .i64 c] w fun e w' => e = .returned (.string ⟨(Lib.repeatL s.data.toList c).toArray⟩) ∧ Below w.heap.size w w' := Any.strings_Repeat_main Tryd.lays105 Tryd.Builder_Extra_105 s c w hc2 hc hlen h0
open Go.RowKit Go.Lib in
theorem Tryd.strings_Repeat (s : ByteArray) (c : Nat) (w : World) (hc : c ≤ 9223372036854775807) (hlen : s.size * c ≤ 140737488355328) :
    Calls Tryd.prog 58 #[.string s, .int .i64 c] w fun e w' => e = .returned (.string ⟨(Lib.repeatL s.data.toList c).toArray⟩) ∧ Below w.heap.size w w' := Any.strings_Repeat Tryd.lays105 Tryd.Builder_Extra_105 s c w hc hlen
end Go.Proofs

/-
  digest: the contract of Pad.
-/
namespace Go.Proofs.YtgcohoonhklkbaaDoor
open Go.RowKit Go.Kx
set_option maxRecDepth 20000

theorem repeat0 (z : Nat) : Lib.repeatL [0] z = List.replicate z 0 := by
  induction z with
  | zero => rfl
  | succ z ih => rw [Lib.repeatL, ih]; rfl
theorem pad_no (n : Int) (hn : n < 0 ∨ 1000000000 < n) (w : World) :
    Calls Tryd.prog 46 #[.int .i64 n] w fun e w' => e = .returned (.tuple #[.string ⟨#[]⟩, .bool false]) ∧ w = w' := by
  by_cases h : n < 0
  · go_enter Tryd.func46, Tryd.ntmps46
    go_wp2
    go_ret2
    exact ⟨rfl, rfl⟩
  · have h2 : 1000000000 < n := by omega
    go_enter Tryd.func46, Tryd.ntmps46
    go_wp2
    go_ret2
    exact ⟨rfl, rfl⟩

set_option maxHeartbeats 1000000 in
theorem pad_yes (n : Nat) (hn : n ≤ 1000000000) (w : World) :
    Calls Tryd.prog 46 #[.int .i64 n] w fun e w' => e = .returned (.tuple #[.string ⟨(padL n).toArray⟩, .bool true]) ∧ Below w.heap.size w w' := by
  have h1 : ¬ (n : Int) < 0 := by omega
  have h2 : ¬ 1000000000 < (n : Int) := by omega
  have e1 : (8 * (n : Int)) / 4294967296 = ((8 * n / 4294967296 : Nat) : Int) := by omega
  have e2 : (8 * (n : Int)) % 4294967296 = ((8 * n % 4294967296 : Nat) : Int) := by omega
  have hl := joinL_length true [8 * n / 4294967296, 8 * n % 4294967296]
  have hx : ∀ x ∈ [8 * n / 4294967296, 8 * n % 4294967296], x < 4294967296 := by simp; omega
  have HP := Lib.hid (show padL n = 128 :: (List.replicate ((64 - (n + 9) % 64) % 64) 0 ++ joinL true [8 * n / 4294967296, 8 * n % 4294967296]) from rfl)
  generalize 8 * n / 4294967296 = a at *
  generalize 8 * n % 4294967296 = b at *
  go_enter Tryd.func46, Tryd.ntmps46
  go_wp2_with fail
  refine (join_any _ _ [a, b] true _ (by simp) (Sl.new _ _ _) hx).mono ?_
  rintro e w1 ⟨rfl, hb1⟩
  go_wp2_with fail
  have e3 : (-(((n : Int) + 1 + 8) % 64) % 64) = (((64 - (n + 9) % 64) % 64 : Nat) : Int) := by omega
  have hz : (64 - (n + 9) % 64) % 64 < 64 := Nat.mod_lt _ (by omega)
  rw [e3]
  clear e3
  generalize (64 - (n + 9) % 64) % 64 = z at *
  have hrep := repeat0 z
  have hA : ∀ W : World, (Op.stringOp .add ⟨#[128]⟩ ⟨(List.replicate z 0).toArray⟩).run Tryd.prog W = .ok (.string ⟨(128 :: List.replicate z 0).toArray⟩) W := fun W => str_add [128] _ (by simp; omega) W
  have hB : ∀ W : World, (Op.stringOp .add ⟨(128 :: List.replicate z 0).toArray⟩ ⟨(joinL true [a, b]).toArray⟩).run Tryd.prog W = .ok (.string ⟨(padL n).toArray⟩) W := fun W => by
    rw [HP.out]
    exact str_add (128 :: List.replicate z 0) _ (by rw [hl]; simp; omega) W
  refine (Tryd.strings_Repeat ⟨#[0]⟩ z _ (by omega) (by simp [ByteArray.size]; omega)).mono ?_
  rintro e w2 ⟨rfl, hb2⟩
  rw [show (ByteArray.mk #[0]).data.toList = [0] from rfl, hrep]
  clear hrep
  generalize hq : (128 :: List.replicate z (0 : UInt8)).toArray = q at *
  clear hq
  generalize (List.replicate z (0 : UInt8)).toArray = r at *
  generalize hpad : (padL n).toArray = pd at *
  have HPD := Lib.hid hpad
  clear hpad
  go_wp2
  go_ret2
  exact ⟨by rw [HPD.out]; rfl, (Below.alloc0 _ _).next (hb1.next hb2)⟩
end Go.Proofs.YtgcohoonhklkbaaDoor

/-
  digest: the contracts of blocks (a text's blocks, one behind the other) and of Sum.
-/
namespace Go.Proofs.YtgcohoonhklkbaaDoor
open Go.RowKit Go.Kx Go.Shelf
set_option maxRecDepth 20000
attribute [local go_sem] Oper.semAt_some

theorem blocks_any (s p : ByteArray) (w : World) :
    Calls Tryd.prog 48 #[.string s, .string p] w fun e w' => e = .returned (.func (.func 59) #[] #[.pointer (some ⟨w.heap.size, 0, none⟩), .pointer (some ⟨w.heap.size + 1, 0, none⟩)]) ∧
      (w.alloc (.cells #[.string s] 9)).alloc (.cells #[.string p] 9) = w' := by
  go_enter Tryd.func48, Tryd.ntmps48
  go_wp2
  go_ret
  exact ⟨rfl, rfl⟩

def chunkB (l : List UInt8) (k : Nat) : ByteArray := ⟨(chunkAt l k).toArray⟩
def chunksB (l : List UInt8) : List ByteArray := (List.range (l.length / 64)).map (chunkB l)
theorem chunksB_take (l : List UInt8) (k : Nat) (h : k < l.length / 64) : (chunksB l).take k ++ [chunkB l k] = (chunksB l).take (k + 1) := by
  rw [List.take_add_one, chunksB, List.getElem?_map, List.getElem?_range h]; rfl
theorem chunksB_all (l : List UInt8) (k : Nat) (h : l.length / 64 ≤ k) : (chunksB l).take k = chunksB l := List.take_of_length_le (by simp [chunksB]; omega)
theorem chunksB_size (l : List UInt8) (pre : List ByteArray) (x : ByteArray) (h : pre ++ [x] <+: chunksB l) : x.size = 64 := by
  have hm : x ∈ chunksB l := h.subset (by simp)
  obtain ⟨k, hk, rfl⟩ := List.mem_map.1 hm
  rw [chunkB, size_mk, chunkAt, List.length_take, List.length_drop]
  have := List.mem_range.1 hk
  omega
def strAt (w : World) (b : Nat) : Nat := match w.cell? ⟨b, 0, none⟩ with | some (.string t) => t.size | _ => 0
theorem strAt_eq {w : World} {b : Nat} {t : ByteArray} (h : w.cell? ⟨b, 0, none⟩ = some (.string t)) : strAt w b = t.size := by simp [strAt, h]

set_option maxHeartbeats 1000000 in
theorem blocks1_in (F : Fence) (n : Nat) (hf : F.fn 59) (hro : F.round = none) (hn : 1 ≤ n) (b1 b2 : Nat) (s p : ByteArray) (w : World) (h1 : w.cell? ⟨b1, 0, none⟩ = some (.string s)) (h1f : w.frozen? ⟨b1, 0, none⟩ = false)
    (h2 : w.cell? ⟨b2, 0, none⟩ = some (.string p)) (hne : b1 ≠ b2) (hp : p.size ≤ 1000) (hm : (s.data.toList ++ p.data.toList).length % 64 = 0) :
    SeqCell F n Tryd.prog 59 #[.pointer (some ⟨b1, 0, none⟩), .pointer (some ⟨b2, 0, none⟩)] (fun x : ByteArray => #[.string x]) b1 (fun k => k = b1 ∨ k = b2) (chunksB (s.data.toList ++ p.data.toList)) w := by
  intro l J W hW hJ hY h0
  have k1 := block_lt_of_cell h1
  have k2 := block_lt_of_cell h2
  have c1 := (hW.cell (p := ⟨b1, 0, none⟩) k1).trans h1
  have c2 := (hW.cell (p := ⟨b2, 0, none⟩) k2).trans h2
  have f1 := (hW.frozen (p := ⟨b1, 0, none⟩) k1).trans h1f
  refine callsIn_of_wp Tryd.func59 rfl hf ?_ hro
  simp only [Tryd.ntmps59, List.size_toArray, List.length_cons, List.length_nil, Nat.reduceAdd, Nat.reduceSub, Array.replicate_succ, Array.replicate_zero, List.push_toArray, List.append_toArray, List.nil_append, List.cons_append]
  gi_wp2
  gi_loopw [5] (fun _ wr => ∃ (k : Nat) (t : ByteArray), 64 * k ≤ s.data.toList.length ∧ wr.cell? ⟨b1, 0, none⟩ = some (.string t) ∧ t.data.toList = s.data.toList.drop (64 * k) ∧ wr.frozen? ⟨b1, 0, none⟩ = false ∧ wr.cell? ⟨b2, 0, none⟩ = some (.string p) ∧
      J ((chunksB (s.data.toList ++ p.data.toList)).take k) wr) (fun _ wr => strAt wr b1)
  case atStart => exact ⟨0, s, by omega, c1, by simp, f1, c2, by simpa using h0⟩
  case round =>
    obtain ⟨k, t, hk, ht, htl, hf1, ht2, hJk⟩ := hrel
    have hts : t.size = s.data.toList.length - 64 * k := by rw [show t.size = t.data.toList.length by simp, htl, List.length_drop]
    by_cases hl : 64 ≤ t.size
    · have hx : t.extract 0 64 = chunkB (s.data.toList ++ p.data.toList) k := by
        apply ByteArray.ext
        apply Array.toList_inj.1
        rw [Lib.extract_data]
        simp only [List.drop_zero, Nat.sub_zero, chunkB, chunkAt, htl]
        rw [List.drop_append_of_le_length hk, List.take_append_of_le_length (by rw [List.length_drop]; omega)]
      have hpre : (chunksB (s.data.toList ++ p.data.toList)).take k ++ [t.extract 0 64] = (chunksB (s.data.toList ++ p.data.toList)).take (k + 1) := by
        rw [hx]
        exact chunksB_take _ k (by rw [List.length_append]; omega)
      have HPRE := Lib.hid hpre
      have HTL := Lib.hid htl
      have HTS := Lib.hid hts
      clear hx htl hts hpre
      obtain ⟨fn, tmps, assign, body, hy, hR⟩ := hY _ (t.extract 0 64) wr (HPRE.out ▸ List.take_prefix _ _) hJk
      gi_wp2
      refine hR.mono ?_
      rintro e W' ⟨rfl, hJ', hk'⟩
      have b1l := block_lt_of_cell ht
      have b2l := block_lt_of_cell ht2
      have ht' : W'.cell? ⟨b1, 0, none⟩ = some (.string t) := (cell_of_heap (hk' b1 (.inl rfl)) 0).trans ht
      have hf' : W'.frozen? ⟨b1, 0, none⟩ = false := (frozen_of_heap (hk' b1 (.inl rfl)) 0).trans hf1
      have ht2' : W'.cell? ⟨b2, 0, none⟩ = some (.string p) := (cell_of_heap (hk' b2 (.inr rfl)) 0).trans ht2
      have HT := Lib.hid (strAt_eq ht)
      clear hy hR ht hf1 ht2
      gi_wp2
      go_roundw
      case rel =>
        have htl := HTL.out
        have hts := HTS.out
        rw [HPRE.out] at hJ'
        refine ⟨k + 1, t.extract 64 t.size, by omega, World.cell?_setCell_same' _ _ _ (by rw [ht']; rfl), ?_, by rw [World.frozen?_setCell]; exact hf', ?_, hJ _ _ _ hJ'⟩
        · rw [Lib.extract_to_end, htl, List.drop_drop]; rfl
        · rw [World.cell?_setCell_other _ _ _ _ (by simp)]; exact ht2'
      case measure =>
        rw [strAt_eq (t := t.extract 64 t.size) (World.cell?_setCell_same' _ _ _ (by rw [ht']; rfl)), HT.out]
        simp; omega
    · have hadd : ∀ V : World, (Op.stringOp .add t p).run Tryd.prog V = .ok (.string (t ++ p)) V := fun V => run_string_add_sum V t p (by omega)
      have hl' : ¬ (64 : Int) ≤ (t.size : Int) := by omega
      have htp : (t ++ p).data.toList = (s.data.toList ++ p.data.toList).drop (64 * k) := by
        rw [show (t ++ p).data.toList = t.data.toList ++ p.data.toList by simp, htl, List.drop_append_of_le_length hk]
      have HTP := Lib.hid htp
      clear htl hts htp
      have hk2 : 64 * k ≤ (s.data.toList ++ p.data.toList).length := by rw [List.length_append]; omega
      clear hk
      generalize hL : (s.data.toList ++ p.data.toList) = L at *
      have HL := Lib.hid hL
      clear hL
      gi_wp2
      clear hadd
      gi_loopw [4] (fun v wr => ∃ (j : Nat) (r : ByteArray), v = .string r ∧ 64 * j ≤ L.length ∧ r.data.toList = L.drop (64 * j) ∧ J ((chunksB L).take j) wr) (fun v _ => match v with | .string r => r.size | _ => 0)
      case atStart => exact ⟨k, t ++ p, rfl, hk2, HTP.out, hJk⟩
      case round =>
        obtain ⟨j, r, rfl, hj, hrl, hJj⟩ := hrel
        have hrs : r.size = L.length - 64 * j := by rw [show r.size = r.data.toList.length by simp, hrl, List.length_drop]
        by_cases h0 : 64 * j = L.length
        · have he : r.toList.isEmpty = true := by rw [Lib.toList_data, hrl, h0, List.drop_length]; rfl
          have hall := chunksB_all L j (by omega)
          rw [hall] at hJj
          clear hrl hrs h0
          gi_wp2
          go_end0
          exact ⟨⟨_, rfl⟩, by rw [HL.out]; exact hJj⟩
        · have he : r.toList.isEmpty = false := by
            rw [Lib.toList_data, hrl, List.isEmpty_eq_false_iff]
            intro e
            have := congrArg List.length e
            rw [List.length_drop, List.length_nil] at this
            omega
          have h64 : 64 ≤ r.size := by omega
          have hx : r.extract 0 64 = chunkB L j := by
            apply ByteArray.ext
            apply Array.toList_inj.1
            rw [Lib.extract_data]
            simp only [List.drop_zero, Nat.sub_zero, chunkB, chunkAt, hrl]
          have hpre : (chunksB L).take j ++ [r.extract 0 64] = (chunksB L).take (j + 1) := by
            rw [hx]
            exact chunksB_take _ j (by omega)
          have HPRE := Lib.hid hpre
          have HRL := Lib.hid hrl
          have HRS := Lib.hid hrs
          clear hrl hrs hx hpre
          obtain ⟨fn, tmps, assign, body, hy, hR⟩ := hY _ (r.extract 0 64) wr (HPRE.out ▸ List.take_prefix _ _) hJj
          gi_wp2
          refine hR.mono ?_
          rintro e W' ⟨rfl, hJ', hk'⟩
          clear hy hR
          rw [HPRE.out] at hJ'
          gi_wp2
          go_roundw
          case rel => exact ⟨j + 1, r.extract 64 r.size, rfl, by have := HRS.out; omega, by rw [Lib.extract_to_end, HRL.out, List.drop_drop]; rfl, hJ'⟩
          case measure => simp; omega
end Go.Proofs.YtgcohoonhklkbaaDoor

/-
  digest: the contracts of Start and Sum.
-/
namespace Go.Proofs.YtgcohoonhklkbaaDoor
open Go.RowKit Go.Kx Go.Shelf
set_option maxRecDepth 20000
attribute [local go_sem] Oper.semAt_some

theorem start_any (w : World) : Calls Tryd.prog 47 #[] w fun e w' => e = .returned st0.v ∧ Below w.heap.size w w' := by
  go_enter Tryd.func47, Tryd.ntmps47
  go_wp2
  have hinf : (Tryd.prog.info? 59).map (·.size) = some (i64s st0).size := row8_size
  refine bodyPost_ret (v := st0.v) (results_cell_row rfl _ _ w.heap.size _ (i64s st0) _ _ rfl (by exact World.alloc_heap_new w _) Tryd.underlying59 rfl hinf) rfl ⟨rfl, Below.alloc0 _ _⟩

theorem pad_mod (n : Nat) : (n + (padL n).length) % 64 = 0 := by
  simp only [padL, List.length_cons, List.length_append, List.length_replicate, joinL_length, List.length_nil]
  omega
theorem pad_le (n : Nat) : (padL n).length ≤ 72 ∧ 9 ≤ (padL n).length := by
  simp only [padL, List.length_cons, List.length_append, List.length_replicate, joinL_length, List.length_nil]
  omega
def foldS (xs : List ByteArray) : St := xs.foldl (fun s b => stepL s b.data.toList) st0
theorem foldS_snoc (xs : List ByteArray) (x : ByteArray) : foldS (xs ++ [x]) = stepL (foldS xs) x.data.toList := by simp [foldS]
theorem st0_ok : st0.ok := by unfold St.ok; decide
theorem foldS_ok (xs : List ByteArray) : (foldS xs).ok := by
  rcases List.eq_nil_or_concat xs with rfl | ⟨ys, y, rfl⟩
  · exact st0_ok
  · rw [List.concat_eq_append, foldS_snoc]; exact stepL_ok _ _
theorem foldS_chunks (l : List UInt8) : foldS (chunksB l) = (chunks l).foldl stepL st0 := by
  unfold foldS chunksB chunks
  rw [List.foldl_map, List.foldl_map]
  rfl

set_option maxHeartbeats 2000000 in
theorem sum_any (s : ByteArray) (hs : s.size ≤ 1000000000) (w : World) (hK : Consts w) :
    Calls Tryd.prog 27 #[.string s] w fun e w' => e = .returned (.string ⟨(sumL s.data.toList).toArray⟩) ∧ Below w.heap.size w w' := by
  refine (callsIn_wide (n := 3)).1 ?_
  refine callsIn_of_wp_marks Tryd.func27 rfl trivial ?_ rfl
  simp only [Tryd.ntmps27, List.size_toArray, List.length_cons, List.length_nil, Nat.reduceAdd, Nat.reduceSub, Array.replicate_succ, Array.replicate_zero, List.push_toArray, List.append_toArray, List.nil_append, List.cons_append]
  obtain ⟨p, hp⟩ : ∃ p : ByteArray, p = ⟨(padL s.size).toArray⟩ := ⟨_, rfl⟩
  have hpad : ∀ V : World, Calls Tryd.prog 46 #[.int .i64 (s.size : Int)] V fun e w' => e = .returned (.tuple #[.string p, .bool true]) ∧ Below V.heap.size V w' := by rw [hp]; exact fun V => pad_yes s.size hs V
  have hpl : p.data.toList = padL s.size := by rw [hp]
  have hps : p.size ≤ 1000 := by have := (pad_le s.size).1; rw [hp, size_mk]; omega
  have hpm : (s.data.toList ++ p.data.toList).length % 64 = 0 := by rw [hpl, List.length_append]; exact pad_mod s.size
  have HPAD := Lib.hid hpad
  have HPL := Lib.hid hpl
  have HPM := Lib.hid hpm
  clear hp hpad hpl hpm
  gi_wp2_with (first
    | (refine ⟨trivial, ?_⟩; gi_at_call 46; refine (callsIn_wide.2 (HPAD.out w)).mono ?_; rintro e w1 ⟨rfl, hb1⟩)
    | (refine ⟨trivial, ?_⟩; gi_at_call 47; refine (callsIn_wide.2 (start_any _)).mono ?_; rintro e w2 ⟨rfl, hb2⟩; unfold St.v)
    | (refine ⟨trivial, ?_⟩; gi_at_call 48; refine (callsIn_wide.2 (blocks_any s p _)).mono ?_; rintro e w3 ⟨rfl, rfl⟩))
  have hbw : Below w.heap.size w w2 := hb1.next hb2
  have hs1 := hb1.size
  have hs2 := hb2.size
  clear hb1 hb2
  have hW : Below w.heap.size w (((w2.alloc (.cells (i64s st0) 59)).alloc (.cells #[.string s] 9)).alloc (.cells #[.string p] 9)) :=
    ((hbw.alloc (by omega) _).alloc (by simp; omega) _).alloc (by simp; omega) _
  have hr : (((w2.alloc (.cells (i64s st0) 59)).alloc (.cells #[.string s] 9)).alloc (.cells #[.string p] 9)).rowIs w2.heap.size 59 8 (fun j => .int .i64 ((foldS []).at j : Nat)) :=
    ((World.rowIs_alloc w2 (i64s st0) 59 (fun j => .int .i64 (st0.at j : Nat)) (fun j hj => rowA_at .i64 8 st0.at j hj)).alloc _).alloc _
  have hc1 : (((w2.alloc (.cells (i64s st0) 59)).alloc (.cells #[.string s] 9)).alloc (.cells #[.string p] 9)).cell? ⟨w2.heap.size + 1, 0, none⟩ = some (.string s) := by go_simp
  have hf1 : (((w2.alloc (.cells (i64s st0) 59)).alloc (.cells #[.string s] 9)).alloc (.cells #[.string p] 9)).frozen? ⟨w2.heap.size + 1, 0, none⟩ = false := by go_simp
  have hc2 : (((w2.alloc (.cells (i64s st0) 59)).alloc (.cells #[.string s] 9)).alloc (.cells #[.string p] 9)).cell? ⟨w2.heap.size + 1 + 1, 0, none⟩ = some (.string p) := by go_simp
  have hsz : (((w2.alloc (.cells (i64s st0) 59)).alloc (.cells #[.string s] 9)).alloc (.cells #[.string p] 9)).heap.size = w2.heap.size + 1 + 1 + 1 := by simp
  unfold i64s at hW hr hc1 hf1 hc2 hsz
  generalize (((w2.alloc _).alloc _).alloc _) = W at *
  generalize w2.heap.size = N at *
  obtain ⟨L, hL⟩ : ∃ L, L = s.data.toList ++ p.data.toList := ⟨_, rfl⟩
  refine wpIn_range_cell (xs := chunksB (s.data.toList ++ p.data.toList)) rfl (by omega) (gf := 59) (lb := #[.pointer (some ⟨N + 1, 0, none⟩), .pointer (some ⟨N + 1 + 1, 0, none⟩)]) rfl trivial
    (enters_of Tryd.func59 (by kernel_rfl) rfl) (B := N + 1) (encs := fun x => #[.string x]) (by omega) (fun k hk => by omega) (blocks1_in Fence.wide 2 trivial rfl (by omega) (N + 1) (N + 1 + 1) s p W hc1 hf1 hc2 (by omega) hps HPM.out) (fun _ => rfl)
    (fun pre V => V.rowIs N 59 8 (fun j => .int .i64 ((foldS pre).at j : Nat)) ∧ Below w.heap.size w V ∧ N + 1 + 1 < V.heap.size)
    (fun pre A v h => ⟨h.1.setOther (by simp) v, h.2.1.setCell (p := ⟨N + 1, 0, none⟩) (by simp; omega) v, by simpa using h.2.2⟩)
    (fun pre A A' h hb => ⟨h.1.of_block (hb.block _ (by omega)), h.2.1.trans (hb.mono (by omega)), Nat.lt_of_lt_of_le h.2.2 hb.size⟩) ⟨hr, hW, by omega⟩
    (fun x => { tmps := #[.string s, undef, .string ⟨#[]⟩, .string p, .bool true, .pointer (some ⟨N, 0, none⟩), .string x, undef, undef, .tuple #[.string p, .bool true], .string s, .int .i64 s.size, .tuple #[.string p, .bool true], .string p, .bool true, .bool true, .bool false,
      .agg #[.int .i64 st0.a, .int .i64 st0.b, .int .i64 st0.c, .int .i64 st0.d, .int .i64 st0.e, .int .i64 st0.f, .int .i64 st0.g, .int .i64 st0.h], .string s, .string p,
      .func (.func 59) #[] #[.pointer (some ⟨N + 1, 0, none⟩), .pointer (some ⟨N + 1 + 1, 0, none⟩)], .string x, undef, undef, undef, undef, undef, undef, undef, undef, undef, undef, undef, undef], defers := [] }) ?assign ?body ?done
  case assign =>
    intro l x V K hKx
    gi_wp2
    exact hKx
  case body =>
    rintro l pre x V hpx ⟨hrv, hbv, hsv⟩
    have hx := chunksB_size _ _ _ hpx
    have hok := foldS_ok pre
    have HN := Lib.hid (foldS_snoc pre x)
    have hcons : Consts V := hK.keep hbv
    have hNV := hrv.lt
    have HSV := Lib.hid hsv
    clear hsv
    generalize foldS (pre ++ [x]) = S' at *
    generalize foldS pre = S at *
    obtain ⟨c0, c1, c2, c3, c4, c5, c6, c7⟩ := row8_i64 hrv
    gi_wp2_with (refine ⟨trivial, ?_⟩; gi_at_call 49; refine (CallsIn.inRound l (callsIn_wide.2 (step_lit S hok x hx S' HN.out.symm V hcons))).mono ?_; rintro e V2 ⟨rfl, hb2⟩; clear c0 c1 c2 c3 c4 c5 c6 c7; have hr2 := rowIs_keep hrv hb2; obtain ⟨d0, d1, d2, d3, d4, d5, d6, d7⟩ := row8_i64 hr2; have df := hr2.frozen)
    have hsv := HSV.out
    refine ⟨(others_of_below hb2).trans ((((((((KeepsOthers.setCell _ _ _).trans (KeepsOthers.setCell _ _ _)).trans (KeepsOthers.setCell _ _ _)).trans (KeepsOthers.setCell _ _ _)).trans (KeepsOthers.setCell _ _ _)).trans (KeepsOthers.setCell _ _ _)).trans (KeepsOthers.setCell _ _ _)).trans (KeepsOthers.setCell _ _ _)),
      ⟨(heap8_set (k := N + 1) (by omega) _ _ _ _ _ _ _ _).trans (hb2.block (N + 1) (by omega)), (heap8_set (k := N + 1 + 1) (by omega) _ _ _ _ _ _ _ _).trans (hb2.block (N + 1 + 1) (by omega))⟩, row8_seti hr2 S', below8_set (hbv.next' hb2) (by omega) _ _ _ _ _ _ _ _, ?_⟩
    have h1 := hb2.size
    have h2 := HSV.out
    omega
  case done =>
    rintro D V hD ⟨hrv, hbv, hsv⟩ hKd
    have hok := foldS_ok (chunksB (s.data.toList ++ p.data.toList))
    have hsl : Sl V (some ⟨N, 0, none⟩) (ints (foldS (chunksB (s.data.toList ++ p.data.toList))).l) := Sl_of_row hrv
    have HR := Lib.hid (show sumL s.data.toList = joinL true (foldS (chunksB (s.data.toList ++ p.data.toList))).l by
      rw [sumL, foldS_chunks, HPL.out]; rfl)
    generalize foldS (chunksB (s.data.toList ++ p.data.toList)) = S at *
    have hDV := (Array.getElem?_eq_some_iff.1 hKd).1
    gi_wp2_with (refine ⟨trivial, ?_⟩; gi_at_call 50; refine (callsIn_wide.2 (join_any (some ⟨N, 0, none⟩) 8 S.l true V (by simp [St.l]) hsl (St.l_lt hok))).mono ?_; rintro e V3 ⟨rfl, hb3⟩)
    have hK3 := (hb3.block D hDV).trans hKd
    refine ⟨by simp, .inl ⟨_, _, rfl, run_takeDeferred hK3, ?_⟩⟩
    have hbd : Below w.heap.size w (V3.putObj D (.deferred none)) := (hbv.next' hb3).trans ((Below.refl w.heap.size V3).grown (grownBy_putObj' V3 D _) (by have := hbv.size; have := hb3.size; omega) (fun k e => by cases e; omega))
    exact ⟨_, results_tmp rfl _ _ _, by rw [HR.out]; rfl, hbd⟩
end Go.Proofs.YtgcohoonhklkbaaDoor

/-
  digest.Sum of any text, as tree's contracts want it.
-/
namespace Go.Proofs.YtgcohoonhklkbaaDoor
open Go.RowKit Go.Kx Go.Trm
set_option maxRecDepth 20000

theorem sum_no (s : ByteArray) (hs : 1000000000 < s.size) (w : World) :
    Calls Tryd.prog 27 #[.string s] w fun e w' => e = .returned (.string ⟨#[]⟩) ∧ w = w' := by
  have hpad := pad_no (s.size : Int) (.inr (by omega)) w
  go_enter Tryd.func27, Tryd.ntmps27
  go_wp2_with fail
  refine hpad.mono ?_
  rintro e w1 ⟨rfl, rfl⟩
  go_wp2
  go_ret
  exact ⟨rfl, rfl⟩
theorem dsumH_paid : DSumH := fun s d _ hd w hK => by
  by_cases h : s.size ≤ 1000000000
  · have h1 := sum_any s h w hK
    rw [sumH_short (by simpa using h)] at hd
    rw [hd, mk_list] at h1
    exact h1
  · have hz : d = ⟨#[]⟩ := by
      unfold sumH at hd
      rw [if_neg (by simpa using h)] at hd
      exact ByteArray.ext (Array.toList_inj.1 hd.symm)
    subst hz
    exact (sum_no s (by omega) w).mono fun e w' ⟨he, hw⟩ => ⟨he, hw ▸ Below.refl _ _⟩
end Go.Proofs.YtgcohoonhklkbaaDoor

/-
  keyholeref01.Unlike: the contract (a part of Ref1: never beside it).
-/
namespace Go.Proofs.YtgcohoonhklkbaaDoor
open Go.RowKit Go.Kx
set_option maxRecDepth 20000

theorem mod_up (x i : Nat) : x % 2 ^ (i + 1) = x % 2 ^ i + 2 ^ i * (x / 2 ^ i % 2) := by rw [Nat.pow_succ, Nat.mod_mul]
theorem div_up (x i : Nat) : x / 2 ^ i / 2 = x / 2 ^ (i + 1) := by rw [Nat.div_div_eq_div_mul, Nat.pow_succ]
theorem bit_of (x i : Nat) : x / 2 ^ i % 2 = (x.testBit i).toNat := by rw [Nat.testBit_eq_decide_div_mod_eq]; rcases Nat.mod_two_eq_zero_or_one (x / 2 ^ i) with h | h <;> simp [h]
theorem xor_up (a b i : Nat) : (a ^^^ b) / 2 ^ i % 2 = if a / 2 ^ i % 2 = b / 2 ^ i % 2 then 0 else 1 := by
  rw [bit_of, bit_of, bit_of, Nat.testBit_xor]
  cases a.testBit i <;> cases b.testBit i <;> rfl
theorem pow_le32 {i : Nat} (h : i ≤ 32) : 2 ^ i ≤ 4294967296 := Nat.pow_le_pow_right (by omega) h
theorem unlike_any (a b : Nat) (ha : a < 4294967296) (hb : b < 4294967296) (w : World) :
    Calls Tryd.prog 68 #[.int .i64 a, .int .i64 b] w fun e w' => e = .returned (.int .i64 (a ^^^ b : Nat)) ∧ w' = w := by
  go_enter Tryd.func68, Tryd.ntmps68
  go_wp2
  go_loop [0, 1, 5, 6, 7] (fun va vb vn vw vi => ∃ k A B n q : Nat, k ≤ 32 ∧ vi = .int .i64 k ∧ Hid (A = a / 2 ^ k) ∧ Hid (B = b / 2 ^ k) ∧ Hid (n = (a ^^^ b) % 2 ^ k) ∧ Hid (q = 2 ^ k) ∧ va = .int .i64 A ∧ vb = .int .i64 B ∧ vn = .int .i64 n ∧ vw = .int .i64 q) (fun _ _ _ _ i => 32 - (intOf i).toNat)
  case atStart => exact ⟨0, a, b, 0, 1, by omega, rfl, Lib.hid (by simp), Lib.hid (by simp), Lib.hid (by omega), Lib.hid rfl, rfl, rfl, rfl, rfl⟩
  case round =>
    obtain ⟨k, A, B, n, q, hk, rfl, hA, hB, hn, hq, rfl, rfl, rfl, rfl⟩ := hrel
    have hAl : A < 4294967296 := by rw [hA.out]; exact Nat.lt_of_le_of_lt (Nat.div_le_self _ _) ha
    have hBl : B < 4294967296 := by rw [hB.out]; exact Nat.lt_of_le_of_lt (Nat.div_le_self _ _) hb
    have hql : q ≤ 4294967296 := by rw [hq.out]; exact pow_le32 hk
    have hnl : n < 4294967296 := by rw [hn.out]; exact Nat.lt_of_le_of_lt (Nat.mod_le _ _) (Nat.xor_lt_two_pow (n := 32) ha hb)
    by_cases hl : k < 32
    · have hA' : Hid (A / 2 = a / 2 ^ (k + 1)) := Lib.hid (by rw [hA.out, div_up])
      have hB' : Hid (B / 2 = b / 2 ^ (k + 1)) := Lib.hid (by rw [hB.out, div_up])
      have hq' : Hid (2 * q = 2 ^ (k + 1)) := Lib.hid (by rw [hq.out, Nat.pow_succ, Nat.mul_comm])
      by_cases hp : A % 2 = B % 2
      · have hn' : Hid (n = (a ^^^ b) % 2 ^ (k + 1)) := Lib.hid (by rw [mod_up, xor_up, ← hA.out, ← hB.out, if_pos hp, ← hn.out]; rfl)
        have ht : ((A : Int) % 2 != (B : Int) % 2) = false := by simp; omega
        clear hA hB hn hq hp
        go_wp2
        go_round
        case rel => exact ⟨k + 1, A / 2, B / 2, n, 2 * q, by omega, by go_num, hA', hB', hn', hq', by go_num, by go_num, by go_num, by go_num⟩
        case measure => simp [intOf]; omega
      · have hn' : Hid (n + q = (a ^^^ b) % 2 ^ (k + 1)) := Lib.hid (by rw [mod_up, xor_up, ← hA.out, ← hB.out, if_neg hp, ← hn.out, ← hq.out]; omega)
        have ht : ((A : Int) % 2 != (B : Int) % 2) = true := by simp; omega
        clear hA hB hn hq hp
        go_wp2
        go_round
        case rel => exact ⟨k + 1, A / 2, B / 2, n + q, 2 * q, by omega, by go_num, hA', hB', hn', hq', by go_num, by go_num, by go_num, by go_num⟩
        case measure => simp [intOf]; omega
    · obtain rfl : k = 32 := by omega
      go_wp2
      go_ret
      exact ⟨ret_int (by rw [hn.out, Nat.mod_eq_of_lt (Nat.xor_lt_two_pow (n := 32) ha hb)]), rfl⟩
theorem unlike_v (a b : Nat) (ha : a < 4294967296) (hb : b < 4294967296) (y : Nat) (hy : a ^^^ b = y) (w : World) :
    Calls Tryd.prog 68 #[.int .i64 a, .int .i64 b] w fun e w' => e = .returned (.int .i64 (y : Nat)) ∧ w' = w := by
  subst hy; exact unlike_any a b ha hb w
end Go.Proofs.YtgcohoonhklkbaaDoor

/-
  keyholeref01 and keyholeref02: the contracts of what only computes: digits one by one, turns, falls, sums.
-/
namespace Go.Proofs.YtgcohoonhklkbaaDoor
open Go.RowKit Go.Kx

theorem and_up (a b i : Nat) : (a &&& b) / 2 ^ i % 2 = if a / 2 ^ i % 2 = 1 ∧ b / 2 ^ i % 2 = 1 then 1 else 0 := by
  rw [bit_of, bit_of, bit_of, Nat.testBit_and]
  cases a.testBit i <;> cases b.testBit i <;> rfl
theorem both_any (a b : Nat) (ha : a < 4294967296) (hb : b < 4294967296) (w : World) :
    Calls Tryd.prog 69 #[.int .i64 a, .int .i64 b] w fun e w' => e = .returned (.int .i64 (a &&& b : Nat)) ∧ w' = w := by
  go_enter Tryd.func69, Tryd.ntmps69
  go_wp2
  go_loop [0, 1, 5, 6, 7] (fun va vb vn vw vi => ∃ k A B n q : Nat, k ≤ 32 ∧ vi = .int .i64 k ∧ Hid (A = a / 2 ^ k) ∧ Hid (B = b / 2 ^ k) ∧ Hid (n = (a &&& b) % 2 ^ k) ∧ Hid (q = 2 ^ k) ∧ va = .int .i64 A ∧ vb = .int .i64 B ∧ vn = .int .i64 n ∧ vw = .int .i64 q) (fun _ _ _ _ i => 32 - (intOf i).toNat)
  case atStart => exact ⟨0, a, b, 0, 1, by omega, rfl, Lib.hid (by simp), Lib.hid (by simp), Lib.hid (by omega), Lib.hid rfl, rfl, rfl, rfl, rfl⟩
  case round =>
    obtain ⟨k, A, B, n, q, hk, rfl, hA, hB, hn, hq, rfl, rfl, rfl, rfl⟩ := hrel
    have hAl : A < 4294967296 := by rw [hA.out]; exact Nat.lt_of_le_of_lt (Nat.div_le_self _ _) ha
    have hBl : B < 4294967296 := by rw [hB.out]; exact Nat.lt_of_le_of_lt (Nat.div_le_self _ _) hb
    have hql : q ≤ 4294967296 := by rw [hq.out]; exact pow_le32 hk
    have hnl : n < 4294967296 := by rw [hn.out]; exact Nat.lt_of_le_of_lt (Nat.mod_le _ _) (Nat.and_lt_two_pow (n := 32) a hb)
    by_cases hl : k < 32
    · have hA' : Hid (A / 2 = a / 2 ^ (k + 1)) := Lib.hid (by rw [hA.out, div_up])
      have hB' : Hid (B / 2 = b / 2 ^ (k + 1)) := Lib.hid (by rw [hB.out, div_up])
      have hq' : Hid (2 * q = 2 ^ (k + 1)) := Lib.hid (by rw [hq.out, Nat.pow_succ, Nat.mul_comm])
      by_cases hp : A % 2 = 1 ∧ B % 2 = 1
      · have hn' : Hid (n + q = (a &&& b) % 2 ^ (k + 1)) := Lib.hid (by rw [mod_up, and_up, ← hA.out, ← hB.out, if_pos hp, ← hn.out, ← hq.out]; omega)
        have t1 : ((A : Int) % 2 == 1) = true := by simp; omega
        have t2 : ((B : Int) % 2 == 1) = true := by simp; omega
        clear hA hB hn hq hp
        go_wp2
        go_round
        case rel => exact ⟨k + 1, A / 2, B / 2, n + q, 2 * q, by omega, by go_num, hA', hB', hn', hq', by go_num, by go_num, by go_num, by go_num⟩
        case measure => simp [intOf]; omega
      · have hn' : Hid (n = (a &&& b) % 2 ^ (k + 1)) := Lib.hid (by rw [mod_up, and_up, ← hA.out, ← hB.out, if_neg hp, ← hn.out]; rfl)
        by_cases hp1 : A % 2 = 1
        · have t1 : ((A : Int) % 2 == 1) = true := by simp; omega
          have t2 : ((B : Int) % 2 == 1) = false := by simp; omega
          clear hA hB hn hq hp hp1
          go_wp2
          go_round
          case rel => exact ⟨k + 1, A / 2, B / 2, n, 2 * q, by omega, by go_num, hA', hB', hn', hq', by go_num, by go_num, by go_num, by go_num⟩
          case measure => simp [intOf]; omega
        · have t1 : ((A : Int) % 2 == 1) = false := by simp; omega
          clear hA hB hn hq hp hp1
          go_wp2
          go_round
          case rel => exact ⟨k + 1, A / 2, B / 2, n, 2 * q, by omega, by go_num, hA', hB', hn', hq', by go_num, by go_num, by go_num, by go_num⟩
          case measure => simp [intOf]; omega
    · obtain rfl : k = 32 := by omega
      go_wp2
      go_ret
      exact ⟨ret_int (by rw [hn.out, Nat.mod_eq_of_lt (Nat.and_lt_two_pow (n := 32) a hb)]), rfl⟩
theorem rotN_step (x k : Nat) (hx : x < 4294967296) (hk : k < 32) : rotN x (k + 1) = 2 * rotN x k % 4294967296 + 2 * rotN x k / 4294967296 := by
  have hp : 2 ^ k * (2 * 2 ^ (31 - k)) = 4294967296 := by
    have : 2 ^ k * 2 ^ (32 - k) = 4294967296 := by rw [← Nat.pow_add, show k + (32 - k) = 32 from by omega]
    rw [← this, show 32 - k = (31 - k) + 1 by omega, Nat.pow_succ 2 (31 - k), Nat.mul_comm 2]
  have e1 : 2 ^ (32 - k) = 2 * 2 ^ (31 - k) := by rw [show 32 - k = (31 - k) + 1 by omega, Nat.pow_succ, Nat.mul_comm]
  have e2 : 2 ^ (k + 1) = 2 * 2 ^ k := by rw [Nat.pow_succ, Nat.mul_comm]
  unfold rotN
  rw [show 32 - (k + 1) = 31 - k by omega, e1, e2]
  have hA : 0 < 2 ^ k := Nat.two_pow_pos _
  have hB : 0 < 2 ^ (31 - k) := Nat.two_pow_pos _
  generalize 2 ^ k = A at *
  generalize 2 ^ (31 - k) = C at *
  have hq : x / (2 * C) < A := by rw [Nat.div_lt_iff_lt_mul (by omega), hp]; exact hx
  have hd := Nat.div_add_mod x (2 * C)
  have hr : x % (2 * C) < 2 * C := Nat.mod_lt _ (by omega)
  generalize x / (2 * C) = q at *
  generalize x % (2 * C) = r at *
  obtain ⟨t, r', ht, hr', rfl⟩ : ∃ t r', t < 2 ∧ r' < C ∧ r = t * C + r' := ⟨r / C, r % C, by rw [Nat.div_lt_iff_lt_mul hB]; omega, Nat.mod_lt _ hB, (Nat.div_add_mod' r C).symm⟩
  have c1 : 2 * C * q = C * (2 * q) := by ac_rfl
  have hx2 : x = C * (2 * q + t) + r' := by rw [← hd, Nat.mul_add, Nat.mul_comm t C]; omega
  have hACp : A * C * 2 = 4294967296 := by rw [← hp]; ac_rfl
  have f1 : x / C = 2 * q + t := by rw [hx2, Nat.mul_add_div hB, Nat.div_eq_of_lt hr']; rfl
  have c2 : 2 * C * q * A = A * (2 * C) * q := by ac_rfl
  have c3 : (2 * C * q + (t * C + r')) * A = (t * C + r') * A + 4294967296 * q := by rw [Nat.add_mul, c2, hp, Nat.add_comm]
  have f2 : x * A % 4294967296 = (t * C + r') * A := by
    rw [← hd, c3, Nat.add_mul_mod_self_left]
    apply Nat.mod_eq_of_lt
    rw [← hp, Nat.mul_comm A]
    exact Nat.mul_lt_mul_of_pos_right hr hA
  have c4 : C * (2 * q + t) * (2 * A) = A * C * 2 * (2 * q + t) := by ac_rfl
  have c5 : (C * (2 * q + t) + r') * (2 * A) = r' * (2 * A) + 4294967296 * (2 * q + t) := by rw [Nat.add_mul, c4, hACp, Nat.add_comm]
  have c6 : A * C * 2 = C * (2 * A) := by ac_rfl
  have f3 : x * (2 * A) % 4294967296 = r' * (2 * A) := by
    rw [hx2, c5, Nat.add_mul_mod_self_left]
    apply Nat.mod_eq_of_lt
    rw [← hACp, c6]
    exact Nat.mul_lt_mul_of_pos_right hr' (by omega)
  rw [f1, f2, f3]
  have g1 : 2 * ((t * C + r') * A + q) = 4294967296 * t + (r' * (2 * A) + 2 * q) := by
    have e3 : 2 * (t * C * A) = A * C * 2 * t := by ac_rfl
    have e4 : 2 * (r' * A) = r' * (2 * A) := by ac_rfl
    rw [Nat.mul_add, Nat.add_mul, Nat.mul_add, e3, e4, hACp]
    omega
  have g2 : r' * (2 * A) + 2 * q < 4294967296 := by
    have h1 : (r' + 1) * (2 * A) ≤ C * (2 * A) := Nat.mul_le_mul_right _ hr'
    rw [← c6, hACp, Nat.add_mul, Nat.one_mul] at h1
    omega
  rw [g1, Nat.mul_add_mod, Nat.mod_eq_of_lt g2, Nat.mul_add_div (by omega), Nat.div_eq_of_lt g2]
  omega
theorem rotN_0 (x : Nat) (hx : x < 4294967296) : rotN x 0 = x := by show x * 1 % 4294967296 + x / 4294967296 = x; omega
theorem rturned_any (x n : Nat) (hx : x < 4294967296) (hn : n ≤ 32) (w : World) :
    Calls Tryd.prog 88 #[.int .i64 x, .int .i64 n] w fun e w' => e = .returned (.int .i64 (rotN x n : Nat)) ∧ w' = w := by
  go_enter Tryd.func88, Tryd.ntmps88
  go_wp2
  go_loop [0, 5] (fun vx vi => ∃ k y : Nat, k ≤ n ∧ vi = .int .i64 k ∧ Hid (y = rotN x k) ∧ vx = .int .i64 y) (fun _ i => n - (intOf i).toNat)
  case atStart => exact ⟨0, x, by omega, rfl, Lib.hid (rotN_0 x hx).symm, rfl⟩
  case round =>
    obtain ⟨k, y, hk, rfl, hy, rfl⟩ := hrel
    have hyl : y < 4294967296 := by rw [hy.out]; exact rotN_lt x k hx (by omega)
    by_cases hl : k < n
    · have hy' : Hid (2 * y % 4294967296 + 2 * y / 4294967296 = rotN x (k + 1)) := Lib.hid (by rw [rotN_step x k hx (by omega), hy.out])
      clear hy
      go_wp2
      go_round
      case rel => exact ⟨k + 1, 2 * y % 4294967296 + 2 * y / 4294967296, by omega, by go_num, hy', by go_num⟩
      case measure => simp [intOf]; omega
    · obtain rfl : n = k := by omega
      go_wp2
      go_ret
      exact ⟨ret_int (by rw [hy.out]), rfl⟩
theorem sum2_any (a b : Nat) (ha : a < 4294967296) (hb : b < 4294967296) (w : World) :
    Calls Tryd.prog 87 #[.int .i64 a, .int .i64 b] w fun e w' => e = .returned (.int .i64 ((a + b) % 4294967296 : Nat)) ∧ w' = w := by
  go_enter Tryd.func87, Tryd.ntmps87
  go_wp2
  go_ret
  exact ⟨ret_int (by first | rfl | omega), rfl⟩
end Go.Proofs.YtgcohoonhklkbaaDoor

/-
  keyholeref01.Is, All, keyholeref02.three, back, fall, add: contracts.
-/
namespace Go.Proofs.YtgcohoonhklkbaaDoor
open Go.RowKit Go.Kx
set_option maxRecDepth 20000

theorem ris_any (x : Int) (w : World) : Calls Tryd.prog 84 #[.int .i64 x] w fun e w' => e = .returned (.bool (okW x)) ∧ w' = w := by
  by_cases h0 : x < 0
  · have e := Lib.hid (okW_lo h0)
    go_enter Tryd.func84, Tryd.ntmps84
    go_wp2
    go_ret
    exact ⟨ret_bool (by first | (rw [e.out]; done) | (rw [e.out]; simp; omega)), rfl⟩
  · by_cases h1 : 4294967295 < x
    · have e := Lib.hid (okW_hi h1)
      go_enter Tryd.func84, Tryd.ntmps84
      go_wp2
      go_ret
      exact ⟨ret_bool (by first | (rw [e.out]; done) | (rw [e.out]; simp; omega)), rfl⟩
    · have e := Lib.hid (okW_t (x := x) (by omega) (by omega))
      go_enter Tryd.func84, Tryd.ntmps84
      go_wp2
      go_ret
      exact ⟨ret_bool (by first | (rw [e.out]; done) | (rw [e.out]; simp; omega)), rfl⟩
theorem rall_any (A : Option Addr) (c : Nat) (xs : List Int) (w : World) (hm : xs.length ≤ 9223372036854775807) (hs : Sl w A (xs.map (.int .i64))) :
    Calls Tryd.prog 65 #[.slice A xs.length c] w fun e w' => e = .returned (.bool (xs.all okW)) ∧ w = w' := by
  go_enter Tryd.func65, Tryd.ntmps65
  go_wp2
  go_loop [3] (fun i => ∃ k : Nat, k ≤ xs.length ∧ i = .int .i64 k ∧ (xs.take k).all okW = true) (fun i => xs.length - (intOf i).toNat)
  case atStart => exact ⟨0, Nat.zero_le _, rfl, rfl⟩
  case round =>
    obtain ⟨k, hk, rfl, ha⟩ := hrel
    by_cases hlt : k < xs.length
    · obtain ⟨b, off, u, rfl, hu, hcell⟩ := hs.at_ (k := k) (by simpa using hlt)
      obtain ⟨x, hx, rfl⟩ : ∃ x, xs[k]? = some x ∧ .int .i64 x = u := by simpa using hu
      have HB := Lib.hid (@all_bad xs k x hx)
      have HG := Lib.hid (all_snoc hx ha)
      clear ha hs hx hu
      by_cases h0 : okW x = true
      · go_wp2_with (go_at_call 84; refine (ris_any x _).mono ?_; rintro e w' ⟨rfl, rfl⟩; rw [h0])
        go_round
        case rel => exact ⟨k + 1, by omega, by go_num, HG.out h0⟩
        case measure => simp [intOf]; omega
      · have h1 : okW x = false := by simpa using h0
        go_wp2_with (go_at_call 84; refine (ris_any x _).mono ?_; rintro e w' ⟨rfl, rfl⟩; rw [h1])
        go_ret
        exact ⟨ret_bool (HB.out h1).symm, rfl⟩
    · go_wp2
      go_ret
      exact ⟨ret_bool (by rw [List.take_of_length_le (by omega)] at ha; exact ha.symm), rfl⟩
theorem three_any (a b c : Nat) (ha : a < 4294967296) (hb : b < 4294967296) (hc : c < 4294967296) (w : World) :
    Calls Tryd.prog 70 #[.int .i64 a, .int .i64 b, .int .i64 c] w fun e w' => e = .returned (.int .i64 ((a ^^^ b) ^^^ c : Nat)) ∧ w' = w := by
  go_enter Tryd.func70, Tryd.ntmps70
  go_wp2_with fail
  refine (unlike_any a b ha hb _).mono ?_
  rintro e w' ⟨rfl, rfl⟩
  have hab := xor_lt ha hb
  generalize hy : a ^^^ b = y at *
  have HY := Lib.hid hy
  clear hy
  go_wp2_with fail
  refine (unlike_any y c hab hc _).mono ?_
  rintro e w' ⟨rfl, rfl⟩
  go_wp2
  go_ret
  exact ⟨ret_int (by rw [HY.out]), rfl⟩
theorem rback_any (x n : Nat) (m : Int) (hm : m = (n : Int)) (hx : x < 4294967296) (hn : n ≤ 32) (w : World) :
    Calls Tryd.prog 72 #[.int .i64 x, .int .i64 m] w fun e w' => e = .returned (.int .i64 (bk x n : Nat)) ∧ w' = w := by
  subst hm
  have e32 : (32 : Int) - (n : Int) = ((32 - n : Nat) : Int) := by omega
  have HB := Lib.hid (show bk x n = rotN x (32 - n) from rfl)
  have hl : 32 - n ≤ 32 := by omega
  go_enter Tryd.func72, Tryd.ntmps72
  go_wp2_with fail
  refine (rturned_any x (32 - n) hx hl _).mono ?_
  rintro e w' ⟨rfl, rfl⟩
  go_wp2
  go_ret
  exact ⟨ret_int (by rw [HB.out]), rfl⟩
theorem fall_any (x n : Nat) (m : Int) (hm : m = (n : Int)) (hx : x < 4294967296) (hn : n ≤ 32) (w : World) :
    Calls Tryd.prog 86 #[.int .i64 x, .int .i64 m] w fun e w' => e = .returned (.int .i64 (x / 2 ^ n : Nat)) ∧ w' = w := by
  subst hm
  go_enter Tryd.func86, Tryd.ntmps86
  go_wp2
  go_loop [0, 5] (fun vx vi => ∃ k y : Nat, k ≤ n ∧ vi = .int .i64 k ∧ Hid (y = x / 2 ^ k) ∧ vx = .int .i64 y) (fun _ i => n - (intOf i).toNat)
  case atStart => exact ⟨0, x, by omega, rfl, Lib.hid (by simp), rfl⟩
  case round =>
    obtain ⟨k, y, hk, rfl, hy, rfl⟩ := hrel
    have hyl : y < 4294967296 := by rw [hy.out]; exact Nat.lt_of_le_of_lt (Nat.div_le_self _ _) hx
    by_cases hl : k < n
    · have hy' : Hid (y / 2 = x / 2 ^ (k + 1)) := Lib.hid (by rw [hy.out, div_up])
      clear hy
      go_wp2
      go_round
      case rel => exact ⟨k + 1, y / 2, by omega, by go_num, hy', by go_num⟩
      case measure => simp [intOf]; omega
    · obtain rfl : n = k := by omega
      go_wp2
      go_ret
      exact ⟨ret_int (by rw [hy.out, Int.natCast_ediv, Int.natCast_pow]; rfl), rfl⟩
theorem radd_any (A : Option Addr) (c : Nat) (xs : List Nat) (w : World) (hm : xs.length ≤ 9223372036854775807) (hx : ∀ x ∈ xs, x < 4294967296) (hs : Sl w A (ints xs)) :
    Calls Tryd.prog 71 #[.slice A xs.length c] w fun e w' => e = .returned (.int .i64 (addL xs : Nat)) ∧ w' = w := by
  go_enter Tryd.func71, Tryd.ntmps71
  go_wp2
  go_loop [3, 4] (fun vn vi => ∃ k n : Nat, k ≤ xs.length ∧ vi = .int .i64 k ∧ Hid (n = addL (xs.take k)) ∧ n < 4294967296 ∧ vn = .int .i64 n) (fun _ i => xs.length - (intOf i).toNat)
  case atStart => exact ⟨0, 0, Nat.zero_le _, rfl, Lib.hid rfl, by omega, rfl⟩
  case round =>
    obtain ⟨k, n, hk, rfl, hn, hnl, rfl⟩ := hrel
    by_cases hlt : k < xs.length
    · obtain ⟨b, off, u, rfl, hu, hcell⟩ := hs.at_ (k := k) (by simpa [ints] using hlt)
      obtain ⟨x, hxk, rfl⟩ : ∃ x, xs[k]? = some x ∧ .int .i64 (x : Int) = u := by simpa [ints] using hu
      have hxl : x < 4294967296 := hx x (List.mem_of_getElem? hxk)
      have HN := Lib.hid (show (n + x) % 4294967296 = addL (xs.take (k + 1)) by rw [List.take_add_one, hxk, Option.toList_some, addL_snoc, hn.out])
      clear hs hu hxk hn
      go_wp2_with fail
      refine (sum2_any n x hnl hxl _).mono ?_
      rintro e w' ⟨rfl, rfl⟩
      have hl2 : (n + x) % 4294967296 < 4294967296 := Nat.mod_lt _ (by omega)
      generalize (n + x) % 4294967296 = y at *
      go_wp2
      go_round
      case rel => exact ⟨k + 1, y, by omega, by go_num, HN, hl2, rfl⟩
      case measure => simp [intOf]; omega
    · go_wp2
      go_ret
      exact ⟨ret_int (by rw [hn.out, List.take_of_length_le (by omega)]), rfl⟩
end Go.Proofs.YtgcohoonhklkbaaDoor

/-
  keyholeref01.word, Cut: contracts.
-/
namespace Go.Proofs.YtgcohoonhklkbaaDoor
open Go.RowKit Go.Kx
set_option maxRecDepth 20000

def bAt (s : ByteArray) (j : Nat) : Nat := (s.data.toList.getD j 0).toNat
def rwd (s : ByteArray) (at_ : Nat) (h : Bool) : Nat → Nat
  | 0 => 0
  | i + 1 => 256 * rwd s at_ h i + bAt s (if h then at_ + i else at_ + 3 - i)
theorem bAt_lt (s : ByteArray) (j : Nat) : bAt s j < 256 := UInt8.toNat_lt _
theorem bAt_at (s : ByteArray) (k : Nat) (h : k < s.size) : bAt s k = s[k].toNat := by
  unfold bAt
  rw [List.getD_eq_getElem?_getD, List.getElem?_eq_getElem (by simpa using h)]; rfl
theorem rwd_lt (s : ByteArray) (a : Nat) (h : Bool) (i : Nat) (hi : i ≤ 4) : rwd s a h i < 4294967296 := by
  have e : ∀ i, rwd s a h i < 256 ^ i := by
    intro i
    induction i with
    | zero => simp [rwd]
    | succ i ih => rw [rwd, Nat.pow_succ]; have := bAt_lt s (if h then a + i else a + 3 - i); omega
  exact Nat.lt_of_lt_of_le (e i) (Nat.pow_le_pow_right (n := 256) (by omega) hi)
theorem rwd_cut (s : ByteArray) (j : Nat) (h : Bool) (hj : 4 * j + 4 ≤ s.size) : rwd s (4 * j) h 4 = cutRow h s s.size j := by
  have e : ∀ i, i < s.size → byteAt s s.size i = bAt s i := fun i hi => by unfold byteAt bAt; rw [if_pos hi]
  unfold cutRow
  rw [e _ (by omega), e _ (by omega), e _ (by omega), e _ (by omega)]
  cases h
  · show 256 * (256 * (256 * (256 * 0 + bAt s (4 * j + 3 - 0)) + bAt s (4 * j + 3 - 1)) + bAt s (4 * j + 3 - 2)) + bAt s (4 * j + 3 - 3) = wd false (bAt s (4 * j)) (bAt s (4 * j + 1)) (bAt s (4 * j + 2)) (bAt s (4 * j + 3))
    simp only [Nat.add_sub_cancel, Nat.sub_zero, show 4 * j + 3 - 1 = 4 * j + 2 by omega, show 4 * j + 3 - 2 = 4 * j + 1 by omega]
    show _ = bAt s (4 * j + 3) * 16777216 + bAt s (4 * j + 2) * 65536 + bAt s (4 * j + 1) * 256 + bAt s (4 * j)
    omega
  · show 256 * (256 * (256 * (256 * 0 + bAt s (4 * j + 0)) + bAt s (4 * j + 1)) + bAt s (4 * j + 2)) + bAt s (4 * j + 3) = wd true (bAt s (4 * j)) (bAt s (4 * j + 1)) (bAt s (4 * j + 2)) (bAt s (4 * j + 3))
    simp only [Nat.add_zero]
    show _ = bAt s (4 * j) * 16777216 + bAt s (4 * j + 1) * 65536 + bAt s (4 * j + 2) * 256 + bAt s (4 * j + 3)
    omega
theorem rword_any (s : ByteArray) (a : Nat) (h : Bool) (w : World) (hs : s.size ≤ 1000000) (ha : a + 4 ≤ s.size) :
    Calls Tryd.prog 95 #[.string s, .int .i64 a, .bool h] w fun e w' => e = .returned (.int .i64 (rwd s a h 4 : Nat)) ∧ w' = w := by
  go_enter Tryd.func95, Tryd.ntmps95
  go_wp2
  go_loop [7, 8, 9] (fun vn vi _ => ∃ k n : Nat, k ≤ 4 ∧ vi = .int .i64 k ∧ Hid (n = rwd s a h k) ∧ n < 256 ^ k ∧ vn = .int .i64 n) (fun _ i _ => 4 - (intOf i).toNat)
  case atStart => exact ⟨0, 0, by omega, rfl, Lib.hid rfl, by simp, rfl⟩
  case round =>
    obtain ⟨k, n, hk, rfl, hn, hnl, rfl⟩ := hrel
    by_cases hlt : k < 4
    · have hnl2 : n < 16777216 := Nat.lt_of_lt_of_le hnl (show 256 ^ k ≤ 256 ^ 3 from Nat.pow_le_pow_right (by omega) (by omega))
      have hnl3 : ∀ b, b < 256 → 256 * n + b < 256 ^ (k + 1) := fun b hb => by rw [Nat.pow_succ]; omega
      have HNL := Lib.hid hnl3
      clear hnl hnl3
      cases h
      · have hp : (a : Int) + 3 - (k : Int) = ((a + 3 - k : Nat) : Int) := by omega
        have hj : a + 3 - k < s.size := by omega
        have HN := Lib.hid (show 256 * n + s[a + 3 - k].toNat = rwd s a false (k + 1) by rw [rwd, hn.out, ← bAt_at s _ hj]; rfl)
        have hb : s[a + 3 - k].toNat < 256 := UInt8.toNat_lt _
        have hbw : IntKind.i64.wrap ((s[a + 3 - k].toNat : Nat) : Int) = ((s[a + 3 - k].toNat : Nat) : Int) := IntWalk.i64_in _ (by omega)
        have hp0 : IntKind.i64.wrap ((a : Int) + 3 - (k : Int)) = (a : Int) + 3 - (k : Int) := IntWalk.i64_in _ (by omega)
        clear hn
        generalize a + 3 - k = j at *
        go_wp2
        go_round
        case rel => exact ⟨k + 1, 256 * n + s[j].toNat, by omega, by go_num, HN, HNL.out _ hb, by go_num⟩
        case measure => simp [intOf]; omega
      · have ht : ((a : Int) + (k : Int)).toNat = a + k := by omega
        have hj : a + k < s.size := by omega
        have HN := Lib.hid (show 256 * n + s[a + k].toNat = rwd s a true (k + 1) by rw [rwd, hn.out, ← bAt_at s _ hj]; rfl)
        have hb : s[a + k].toNat < 256 := UInt8.toNat_lt _
        have hbw : IntKind.i64.wrap ((s[a + k].toNat : Nat) : Int) = ((s[a + k].toNat : Nat) : Int) := IntWalk.i64_in _ (by omega)
        clear hn
        go_wp2
        go_round
        case rel => exact ⟨k + 1, 256 * n + s[a + k].toNat, by omega, by go_num, HN, HNL.out _ hb, by go_num⟩
        case measure => simp [intOf]; omega
    · obtain rfl : k = 4 := by omega
      go_wp2
      go_ret
      exact ⟨ret_int (by rw [hn.out]), rfl⟩
end Go.Proofs.YtgcohoonhklkbaaDoor

/-
  keyholeref01.Cut: the contract.
-/
namespace Go.Proofs.YtgcohoonhklkbaaDoor
open Go.RowKit Go.Kx
set_option maxRecDepth 20000

theorem ints_snoc (xs : List Nat) (x : Nat) : ints xs ++ [Value.int .i64 (x : Int)] = ints (xs ++ [x]) := by simp [ints]
theorem rtake_snoc {xs : List Nat} {k x : Nat} (h : xs[k]? = some x) : xs.take k ++ [x] = xs.take (k + 1) := by rw [List.take_add_one, h]; rfl
set_option maxHeartbeats 1000000 in
theorem rcut_any (s : ByteArray) (h : Bool) (w : World) (hs : s.size ≤ 1000000) (h4 : s.size % 4 = 0) :
    Calls Tryd.prog 85 #[.string s, .bool h] w fun e w' => ∃ v, e = .returned (.tuple #[v, .bool true]) ∧ w'.ownsRow w.heap.size 3 1 v (cutL h s).length (ints (cutL h s)) ∧ Below w.heap.size w w' := by
  obtain ⟨i0, hi, hz0, hz1, hz2⟩ := info_parts int_info
  have he : ((s.size : Int) % 4 != 0) = false := by simp; omega
  have HL := Lib.hid (cutL_length h s)
  have HC : Hid (∀ j, j < s.size / 4 → (cutL h s)[j]? = some (rwd s (4 * j) h 4)) := Lib.hid (fun j hj => by rw [rwd_cut s j h (by omega)]; simp [cutL, hj])
  have H4 := Lib.hid h4
  generalize cutL h s = xs at *
  go_enter Tryd.func85, Tryd.ntmps85
  go_wp2
  go_loopw [6, 7] (fun v i wr => ∃ k m : Nat, Hid (m = 4 * k) ∧ m ≤ s.size ∧ i = .int .i64 m ∧ wr.ownsRow w.heap.size 3 1 v k (ints (xs.take k)) ∧ Below w.heap.size w wr) (fun _ i _ => s.size - (intOf i).toNat)
  case atStart => exact ⟨0, 0, Lib.hid rfl, by omega, rfl, World.ownsRow_nil _ _ _ _, Below.refl _ _⟩
  case round =>
    obtain ⟨k, m, hm, hk, rfl, hown, hb⟩ := hrel
    clear h4 he
    by_cases hlt : m < s.size
    · have h4' : m + 4 ≤ s.size := by have h1 := hm.out; have h2 := H4.out; omega
      go_wp2_with fail
      refine (rword_any s m h _ hs h4').mono ?_
      rintro e w' ⟨rfl, rfl⟩
      have hxl := rwd_lt s m h 4 (by omega)
      have HX : Hid (xs[k]? = some (rwd s m h 4)) := Lib.hid (by rw [hm.out]; exact HC.out k (by have := hm.out; omega))
      generalize rwd s m h 4 = x at *
      go_wp2_with (first
        | (at_builtin; refine wpList_append_own _ rfl _ _ 67 rfl w.heap.size 3 i0 (.int .i64 0) 1 8 Tryd.underlying67 hi hz0 hz1 hz2 rfl (by decide) _ _ _ rfl (hown.alloc _) ⟨w'.heap.size, 0, none⟩ 1 1 [.int .i64 (x : Int)] rfl rfl ?c1 ?c2 ?c3 ?c4 ?c5 ?_)
        | go_in)
      case c1 =>
        intro j u hj
        match j, hj with
        | 0, hj => simp at hj; subst hj; simp [Addr.add]
      case c2 => intro u hu; simp at hu; subst hu; rfl
      case c3 => have h1 := hm.out; unfold maxLen; omega
      case c4 => have h1 := hm.out; omega
      case c5 => have h1 := hb.size; simp; omega
      · intro v' w1 hown' hgrow _
        have hb1 := own_below (hown.alloc _) (hb.al _) hgrow
        rw [ints_snoc, rtake_snoc HX.out] at hown'
        clear hown hgrow hb
        go_wp2
        go_roundw
        case rel => exact ⟨k + 1, m + 4, Lib.hid (by have h1 := hm.out; omega), by omega, by go_num, hown', hb1⟩
        case measure => simp [intOf]; omega
    · go_wp2
      go_ret2
      have hk2 : k = xs.length := by have h1 := hm.out; have h2 := HL.out; have h3 := H4.out; omega
      exact ⟨_, rfl, by subst hk2; simpa using hown, hb⟩
end Go.Proofs.YtgcohoonhklkbaaDoor
