/-
  Merged by program: Tq9, Tqa, Tqb, Trw, Tqc, TCl, TSh.
-/
import Derived.Test.YtgcohoonhklkbaaDoorM3
import Derived.RangeFuncBox
import Derived.RangeFuncFrom
import Derived.Lib.QuietBelow
import Derived.WalkMore
import Derived.Test.YtgcohoonhklkbaaDoorM2

/-
  tree: the contract of Trace (of any texts).
-/
namespace Go.Proofs.YtgcohoonhklkbaaDoor
open Go.RowKit Go.Kx Go.Shelf Go.Trm
set_option maxRecDepth 20000
attribute [local go_sem] Oper.semAt_some

set_option maxHeartbeats 4000000 in
theorem ttrace_main (HD : DSumH) (l : List ByteArray) (d : Nat) (hd : l.length = 2 ^ d) (hd10 : d ≤ 10) (hsl : ∀ s ∈ l, s.size ≤ 140737488351232) (i : Int) (s : ByteArray) (hs : s.size ≤ 140737488351232) (path : List ByteArray) (hzp : path.length ≤ 9223372036854775807) (A B : Option Addr) (c c' : Nat)
    (ans : Option (Txt × Txt)) (hans : trcH l i s path = ans) (w : World) (hK : Consts w) (hA : Sl w A (strsV l)) (hB : Sl w B (strsV path)) :
    Calls Tryd.prog 25 #[.slice A l.length c, .int .i64 i, .string s, .slice B path.length c'] w fun e w' => e = .returned (outV ans) ∧ Below w.heap.size w w' := by
  refine (callsIn_wide (n := 3)).1 ?_
  refine callsIn_of_wp_marks Tryd.func25 rfl trivial ?_ rfl
  simp only [Tryd.ntmps25, List.size_toArray, List.length_cons, List.length_nil, Nat.reduceAdd, Nat.reduceSub, Array.replicate_succ, Array.replicate_zero, List.push_toArray, List.append_toArray, List.nil_append, List.cons_append]
  have HMAY := Lib.hid fun V => tmay_yes ⟨d, hd10, hd⟩ A c V
  have HOVER := Lib.hid fun V hKV hAV => over_any HD l d hd hd10 hsl A c V hAV hKV
  obtain ⟨r, hr⟩ : ∃ r, toB (rootL sumH (txtsL l) d) = r := ⟨_, rfl⟩
  have HROOT := Lib.hid fun v V hv => root_any l d hd hd10 A l.length c v r hr V hv
  obtain ⟨t, kc, hck⟩ : ∃ t k, climbH i s path = (t, k) := ⟨_, _, rfl⟩
  obtain ⟨bb, hbb⟩ : ∃ bb : Bool, bb = (decide (kc = 0) && decide (t = r)) := ⟨_, rfl⟩
  have HCHECK := Lib.hid fun V hKV hBV => tcheck_any HD r i s hs path B c' hzp t kc hck bb hbb V hKV hBV
  have HAh := Lib.hid hA
  have HBh := Lib.hid hB
  have HKh := Lib.hid hK
  have HL := Lib.hid hd
  have HSL := Lib.hid hsl
  obtain ⟨n, hn⟩ : ∃ n, l.length = n := ⟨_, rfl⟩
  obtain ⟨m, hm⟩ : ∃ m, path.length = m := ⟨_, rfl⟩
  have HN := Lib.hid hn
  have HM := Lib.hid hm
  have hm9 : m ≤ 9223372036854775807 := by omega
  have hn9 : n ≤ 1024 := by rw [← hn, hd]; have : 2 ^ d ≤ 2 ^ 10 := Nat.pow_le_pow_right (by omega) hd10; omega
  rw [hn] at HMAY HOVER HROOT ⊢
  rw [hm] at HCHECK ⊢
  clear hd hA hB hn hm hzp
  obtain ⟨W4, hW4⟩ : ∃ W4, ((((w.alloc (.cells #[.int .i64 i] 3)).alloc (.cells #[.string ⟨#[]⟩] 9)).alloc (.cells #[.string ⟨#[]⟩] 9)).alloc (.cells #[.bool false] 4)) = W4 := ⟨_, rfl⟩
  have hb4 : Below w.heap.size w W4 := by rw [← hW4]; exact (((Below.alloc0 w _).alloc (by simp) _).alloc (by simp; omega) _).alloc (by simp; omega) _
  have hT4 : W4.heap[w.heap.size]? = some (.cells #[.int .i64 i] 3) ∧ W4.heap[w.heap.size + 1]? = some (.cells #[.string ⟨#[]⟩] 9) ∧ W4.heap[w.heap.size + 1 + 1]? = some (.cells #[.string ⟨#[]⟩] 9) ∧ W4.heap[w.heap.size + 1 + 1 + 1]? = some (.cells #[.bool false] 4) := by
    rw [← hW4]
    have h1 := heap_alloc_new w (.cells #[.int .i64 i] 3)
    have h2 := heap_alloc_new (w.alloc (.cells #[.int .i64 i] 3)) (.cells #[.string ⟨#[]⟩] 9)
    have h3 := heap_alloc_new ((w.alloc (.cells #[.int .i64 i] 3)).alloc (.cells #[.string ⟨#[]⟩] 9)) (.cells #[.string ⟨#[]⟩] 9)
    have h4 := heap_alloc_new (((w.alloc (.cells #[.int .i64 i] 3)).alloc (.cells #[.string ⟨#[]⟩] 9)).alloc (.cells #[.string ⟨#[]⟩] 9)) (.cells #[.bool false] 4)
    simp only [World.size_alloc] at h2 h3 h4
    refine ⟨?_, ?_, ?_, h4⟩
    · exact (Below.heap_alloc _ _ _ (by simp only [World.size_alloc]; omega)).trans ((Below.heap_alloc _ _ _ (by simp only [World.size_alloc]; omega)).trans ((Below.heap_alloc _ _ _ (by simp only [World.size_alloc]; omega)).trans h1))
    · exact (Below.heap_alloc _ _ _ (by simp only [World.size_alloc]; omega)).trans ((Below.heap_alloc _ _ _ (by simp only [World.size_alloc]; omega)).trans h2)
    · exact (Below.heap_alloc _ _ _ (by simp only [World.size_alloc]; omega)).trans h3
  gi_wp2_with (first
    | (refine ⟨trivial, ?_⟩; gi_at_call 28; refine (callsIn_wide.2 (HMAY.out _)).mono ?_; rintro e w1 ⟨rfl, rfl⟩)
    | (refine ⟨trivial, ?_⟩; gi_at_call 29; refine (callsIn_wide.2 (HOVER.out _ (hK.keep hb4) (HAh.out.keep hb4))).mono ?_; rintro e w1 ⟨v, rfl, hat, hb1⟩; obtain ⟨g, cg, rfl, hg, hund⟩ := hat.under hd10))
  have hR1 := heap_alloc_new w1 (.cells #[.slice A n c, .slice (some ⟨g, 0, none⟩) (d + 1) cg] 44)
  have hbR := Below.alloc0 w1 (.cells #[.slice A n c, .slice (some ⟨g, 0, none⟩) (d + 1) cg] 44)
  have hb14 := hb1.next hbR
  have hT5 : TrS w.heap.size w1.heap.size i A n c (.slice (some ⟨g, 0, none⟩) (d + 1) cg) ⟨#[]⟩ ⟨#[]⟩ false (w1.alloc (.cells #[.slice A n c, .slice (some ⟨g, 0, none⟩) (d + 1) cg] 44)) :=
    ⟨heap_keepB hT4.1 hb14, heap_keepB hT4.2.1 hb14, heap_keepB hT4.2.2.1 hb14, heap_keepB hT4.2.2.2 hb14, hR1⟩
  have hat5 := hat.keep hbR
  have hb5 := hb4.next hb14
  clear hR1 hbR hb14 hb1 hb4 hT4 hat hg hund hW4
  generalize World.alloc w1 _ = V at *
  generalize w1.heap.size = R at *
  have HAT := Lib.hid hat5
  have hat5' := hat5
  obtain ⟨g', cg', he, hg, hund⟩ := hat5'.under hd10
  obtain ⟨rfl, rfl⟩ : g = g' ∧ cg = cg' := by simpa using he
  have hl0 : ∀ d' os, (Go.Sort.grow (redrawn V d') os).cell? ⟨R, 0, none⟩ = some (.slice A n c) := cell_regrown (by rw [cell_of_row _ _ _ _ _ _ hT5.2.2.2.2]; rfl)
  have hl1 : ∀ d' os, (Go.Sort.grow (redrawn V d') os).cell? ⟨R, 1, none⟩ = some (.slice (some ⟨g, 0, none⟩) (d + 1) cg) := cell_regrown (by rw [cell_of_row _ _ _ _ _ _ hT5.2.2.2.2]; rfl)
  have hl2 : ∀ d' os, (Go.Sort.grow (redrawn V d') os).cell? ⟨w.heap.size, 0, none⟩ = some (.int .i64 i) := cell_regrown (cell0 hT5.1)
  have hbN : w.heap.size ≤ V.heap.size := hb5.size
  have hx1 : ((d + 1 : Nat) : Int) - 1 = (d : Int) := by omega
  obtain ⟨x, hx⟩ : ∃ x, d + 1 = x := ⟨_, rfl⟩
  have HX := Lib.hid hx
  have hxl : x ≤ 11 := by omega
  have hx0 : 0 < x := by omega
  rw [hx] at hT5 hl1 hx1 hund HAT ⊢
  have hwd : IntKind.i64.wrap (d : Int) = (d : Int) := IntWalk.i64_in _ (by omega)
  clear hat5 hat5' he hx
  have HKV := hK.keep hb5
  have HBV := HBh.out.keep hb5
  have HAV := HAh.out.keep hb5
  by_cases hmd : m = d
  rotate_left
  · have hne : ((m : Int) != (d : Int)) = true := by rw [bne_iff_ne]; omega
    have HANS : Hid (ans = none) := Lib.hid (by
      rw [← hans, trcH_no]
      rintro n' d' rfl ⟨e1, e2, e3, e4, e5, e6, e7⟩
      have : d = d' := by rw [HL.out] at e1; exact (Nat.pow_right_inj (by omega)).1 e1
      exact hmd (by rw [← HM.out, e4, this]))
    clear hans hck hbb hmd HKV HBV HAV
    refine wpIn_wide.2 (wp_region_quiet_below (by kernel_rfl) (by kernel_rfl) ?_)
    repeat (quiet_step (fail))
    refine wpQuiet_nil ?_
    intro _ hw'
    obtain ⟨⟨dq, osq⟩, hw''⟩ := hw'
    subst hw''
    have hq := below_regrown V dq osq
    have hT6 := hT5.keep hq
    have hb6 := hb5.trans (hq.mono hbN)
    clear hl0 hl1 hl2 hT5
    generalize Go.Sort.grow (redrawn V dq) osq = V6 at *
    have z1 := cell0 hT6.2.1
    have z2 := cell0 hT6.2.2.1
    have z3 := cell0 hT6.2.2.2.1
    have f1 := froz0 (o := 0) hT6.2.1
    have f2 := froz0 (o := 0) hT6.2.2.1
    have f3 := froz0 (o := 0) hT6.2.2.2.1
    gi_wp2
    obtain ⟨y1, y2, y3⟩ := trace_set (⟨#[]⟩ : ByteArray) ⟨#[]⟩ false z1 z2 z3
    exact ⟨_, trace_ret rfl rfl rfl y1 y2 y3, by rw [HANS.out]; rfl, trace_setB hb6 _ _ _⟩
  subst hmd
  have hne : ((m : Int) != (m : Int)) = false := by simp
  cases bb with
  | false =>
    have HANS : Hid (ans = none) := Lib.hid (by
      rw [← hans, trcH_no]
      rintro n' d' rfl ⟨e1, e2, e3, e4, e5, e6, e7⟩
      have e8 : m = d' := by rw [HL.out] at e1; exact (Nat.pow_right_inj (by omega)).1 e1
      subst e8
      rw [climbH_yes e6, Int.toNat_natCast, e7, hr] at hck
      have e9 := Prod.mk.inj hck
      rw [← e9.1, ← e9.2] at hbb
      simp at hbb)
    clear hans hck hbb
    have c1 : ∀ d' os, Calls Tryd.prog 30 #[.agg #[.slice A n c, .slice (some ⟨g, 0, none⟩) x cg]] (Go.Sort.grow (redrawn V d') os) fun e w'' => e = .returned (.string r) ∧ ∃ p : Regrown, w'' = Go.Sort.grow (redrawn V p.d) p.os := fun d' os => Calls.regrown_of (HROOT.out _ _ (HAT.out.keep (below_regrown V d' os)))
    have c2 : ∀ d' os, Calls Tryd.prog 21 #[.string r, .int .i64 i, .string s, .slice B m c'] (Go.Sort.grow (redrawn V d') os) fun e w'' => e = .returned (.bool false) ∧ ∃ p : Regrown, w'' = Go.Sort.grow (redrawn V p.d) p.os := fun d' os => Calls.regrown_of (HCHECK.out _ (HKV.keep (below_regrown V d' os)) (HBV.keep (below_regrown V d' os)))
    clear HKV HBV HAV
    refine wpIn_wide.2 (wp_region_quiet_below (by kernel_rfl) (by kernel_rfl) ?_)
    repeat (quiet_step (first | exact c1 _ _ | exact c2 _ _))
    clear c1 c2
    refine wpQuiet_nil ?_
    intro _ hw'
    obtain ⟨⟨dq, osq⟩, hw''⟩ := hw'
    subst hw''
    have hq := below_regrown V dq osq
    have hT6 := hT5.keep hq
    have hb6 := hb5.trans (hq.mono hbN)
    clear hl0 hl1 hl2 hT5
    generalize Go.Sort.grow (redrawn V dq) osq = V6 at *
    have z1 := cell0 hT6.2.1
    have z2 := cell0 hT6.2.2.1
    have z3 := cell0 hT6.2.2.2.1
    have f1 := froz0 (o := 0) hT6.2.1
    have f2 := froz0 (o := 0) hT6.2.2.1
    have f3 := froz0 (o := 0) hT6.2.2.2.1
    gi_wp2
    obtain ⟨y1, y2, y3⟩ := trace_set (⟨#[]⟩ : ByteArray) ⟨#[]⟩ false z1 z2 z3
    exact ⟨_, trace_ret rfl rfl rfl y1 y2 y3, by rw [HANS.out]; rfl, trace_setB hb6 _ _ _⟩
  | true =>
    have hb1 : kc = 0 ∧ t = r := by
      rw [eq_comm, Bool.and_eq_true, decide_eq_true_eq, decide_eq_true_eq] at hbb
      exact hbb
    obtain ⟨rfl, rfl⟩ := hb1
    have hok : wayOk i path := Classical.byContradiction fun h => by
      rw [climbH_no h] at hck
      have := (Prod.mk.inj hck).2
      omega
    obtain ⟨n', rfl⟩ := Int.eq_ofNat_of_zero_le hok.2.1
    have hnm : n' < 2 ^ m := by
      have h := hok.2.2.1
      rw [HM.out] at h
      have e : ((2 : Int) ^ m) = ((2 ^ m : Nat) : Int) := by push_cast; rfl
      omega
    have hnl : n' < l.length := by rw [HL.out]; exact hnm
    obtain ⟨p, hp⟩ : ∃ p, l[n'] = p := ⟨_, rfl⟩
    have hln : l[n']? = some p := by rw [List.getElem?_eq_getElem hnl, hp]
    obtain ⟨b5, o5, rfl, hcp⟩ := sl_strV HAV hnl
    rw [hp] at hcp
    have hl3 := cell_regrown hcp
    have hnI : (n' : Int) < (n : Int) := by have := HN.out; omega
    have hn0 : (0 : Int) ≤ (n' : Int) := by omega
    by_cases hps : p = s
    · have HANS : Hid (ans = none) := Lib.hid (by
        rw [← hans, trcH_no]
        rintro n1 d' e0 ⟨e1, e2, e3, e4, e5, e6, e7⟩
        obtain rfl : n' = n1 := by omega
        exact e5 (by rw [hln, hps]))
      have hse : (s.toList == p.toList) = true := by rw [str_eq, decide_eq_true hps.symm]
      clear hans hck hbb hps hln hp hok
      have c1 : ∀ d' os, Calls Tryd.prog 30 #[.agg #[.slice (some ⟨b5, o5, none⟩) n c, .slice (some ⟨g, 0, none⟩) x cg]] (Go.Sort.grow (redrawn V d') os) fun e w'' => e = .returned (.string t) ∧ ∃ p : Regrown, w'' = Go.Sort.grow (redrawn V p.d) p.os := fun d' os => Calls.regrown_of (HROOT.out _ _ (HAT.out.keep (below_regrown V d' os)))
      have c2 : ∀ d' os, Calls Tryd.prog 21 #[.string t, .int .i64 (n' : Int), .string s, .slice B m c'] (Go.Sort.grow (redrawn V d') os) fun e w'' => e = .returned (.bool true) ∧ ∃ p : Regrown, w'' = Go.Sort.grow (redrawn V p.d) p.os := fun d' os => Calls.regrown_of (HCHECK.out _ (HKV.keep (below_regrown V d' os)) (HBV.keep (below_regrown V d' os)))
      clear HKV HBV HAV
      refine wpIn_wide.2 (wp_region_quiet_below (by kernel_rfl) (by kernel_rfl) ?_)
      repeat (quiet_step (first | exact c1 _ _ | exact c2 _ _))
      clear c1 c2 hl3
      refine wpQuiet_nil ?_
      intro _ hw'
      obtain ⟨⟨dq, osq⟩, hw''⟩ := hw'
      subst hw''
      have hq := below_regrown V dq osq
      have hT6 := hT5.keep hq
      have hb6 := hb5.trans (hq.mono hbN)
      clear hl0 hl1 hl2 hT5
      generalize Go.Sort.grow (redrawn V dq) osq = V6 at *
      have z1 := cell0 hT6.2.1
      have z2 := cell0 hT6.2.2.1
      have z3 := cell0 hT6.2.2.2.1
      have f1 := froz0 (o := 0) hT6.2.1
      have f2 := froz0 (o := 0) hT6.2.2.1
      have f3 := froz0 (o := 0) hT6.2.2.2.1
      gi_wp2
      obtain ⟨y1, y2, y3⟩ := trace_set (⟨#[]⟩ : ByteArray) ⟨#[]⟩ false z1 z2 z3
      exact ⟨_, trace_ret rfl rfl rfl y1 y2 y3, by rw [HANS.out]; rfl, trace_setB hb6 _ _ _⟩
    · have hse : (s.toList == p.toList) = false := by rw [str_eq, decide_eq_false fun h => hps h.symm]
      have HPS := Lib.hid hps
      have HLN := Lib.hid hln
      have HOK := Lib.hid hok
      have HANS := Lib.hid hans
      have HCK := Lib.hid hck
      have HNL := Lib.hid hnl
      have HR := Lib.hid hr
      clear hps hln hok hans hck hbb hp hnl hr
      have c1 : ∀ d' os, Calls Tryd.prog 30 #[.agg #[.slice (some ⟨b5, o5, none⟩) n c, .slice (some ⟨g, 0, none⟩) x cg]] (Go.Sort.grow (redrawn V d') os) fun e w'' => e = .returned (.string t) ∧ ∃ p : Regrown, w'' = Go.Sort.grow (redrawn V p.d) p.os := fun d' os => Calls.regrown_of (HROOT.out _ _ (HAT.out.keep (below_regrown V d' os)))
      have c2 : ∀ d' os, Calls Tryd.prog 21 #[.string t, .int .i64 (n' : Int), .string s, .slice B m c'] (Go.Sort.grow (redrawn V d') os) fun e w'' => e = .returned (.bool true) ∧ ∃ p : Regrown, w'' = Go.Sort.grow (redrawn V p.d) p.os := fun d' os => Calls.regrown_of (HCHECK.out _ (HKV.keep (below_regrown V d' os)) (HBV.keep (below_regrown V d' os)))
      refine wpIn_wide.2 (wp_region_quiet_below (by kernel_rfl) (by kernel_rfl) ?_)
      repeat (quiet_step (first | exact c1 _ _ | exact c2 _ _))
      clear c1 c2 hl3
      refine wpQuiet_nil ?_
      intro _ hw'
      obtain ⟨⟨dq, osq⟩, hw''⟩ := hw'
      subst hw''
      have hq := below_regrown V dq osq
      have hT6 := hT5.keep hq
      have hb6 := hb5.trans (hq.mono hbN)
      clear hl0 hl1 hl2 hT5
      have HK6 := HKV.keep hq
      have HB6 := HBV.keep hq
      have HAT6 := Lib.hid (HAT.out.keep hq)
      generalize Go.Sort.grow (redrawn V dq) osq = V6 at *
      have z0 := cell0 hT6.1
      have hcl := climbed_any HD n' (by have h := HNL.out; have h2 := HN.out; omega) s hs path HOK.out.1 HOK.out.2.2.2 B c' V6 HK6 HB6
      unfold ClimbedP at hcl
      rw [HM.out] at hcl
      have HCL := Lib.hid hcl
      clear hcl HD hsl hs hcp hund
      gi_wp2_with (refine ⟨trivial, ?_⟩; gi_at_call 40; refine (callsIn_wide.2 HCL.out).mono ?_; rintro e w7 ⟨v, rfl, hown, hb7⟩; obtain ⟨g2, c2, rfl, hg2, hc2, hll, hco⟩ := own_join hown (by omega); have hfr : V6.heap.size ≤ g2 := (by obtain ⟨A4, c4, e4, -, h4⟩ := own_slf hown; obtain ⟨rfl, -⟩ := Value.slice.inj e4; exact h4 _ rfl); have hT7 := hT6.keep hb7; have q0 : w7.cell? ⟨R, 0, none⟩ = some (.slice (some ⟨b5, o5, none⟩) n c) := (by rw [cell_of_row _ _ _ _ _ _ hT7.2.2.2.2]; rfl); have q1 : w7.cell? ⟨R, 1, none⟩ = some (.slice (some ⟨g, 0, none⟩) x cg) := (by rw [cell_of_row _ _ _ _ _ _ hT7.2.2.2.2]; rfl); obtain ⟨w8, hw8⟩ : ∃ w8, w7.alloc (.cells #[.slice (some ⟨g2, 0, none⟩) (m + 1) c2] 22) = w8 := ⟨_, rfl⟩; have hb8 : Below w7.heap.size w7 w8 := (by rw [← hw8]; exact Below.alloc0 _ _); have q8 : w8.cell? ⟨R, 0, none⟩ = some (.slice (some ⟨b5, o5, none⟩) n c) := ((hb8.cell (p := ⟨R, 0, none⟩) (block_lt_of_cell q0)).trans q0); have q9 : w8.cell? ⟨R, 1, none⟩ = some (.slice (some ⟨g, 0, none⟩) x cg) := ((hb8.cell (p := ⟨R, 1, none⟩) (block_lt_of_cell q1)).trans q1))
      have hX8 : w8.heap[w7.heap.size]? = some (.cells #[.slice (some ⟨g2, 0, none⟩) (m + 1) c2] 22) := by rw [← hw8]; exact heap_alloc_new _ _
      obtain ⟨w9, hw9⟩ : ∃ w9, (w8.alloc (.cells #[.slice (some ⟨b5, o5, none⟩) n c, .slice (some ⟨g, 0, none⟩) x cg] 44)).alloc (.cells #[.slice (some ⟨g, 0, none⟩) x cg] 42) = w9 := ⟨_, rfl⟩
      have hb9 : Below w8.heap.size w8 w9 := by rw [← hw9]; exact (Below.alloc0 _ _).alloc (by simp) _
      have hB9 : w9.heap[w8.heap.size + 1]? = some (.cells #[.slice (some ⟨g, 0, none⟩) x cg] 42) := by
        rw [← hw9]
        have h := heap_alloc_new (w8.alloc (.cells #[.slice (some ⟨b5, o5, none⟩) n c, .slice (some ⟨g, 0, none⟩) x cg] 44)) (.cells #[.slice (some ⟨g, 0, none⟩) x cg] 42)
        rwa [World.size_alloc] at h
      gi_wp2_with (refine ⟨trivial, ?_⟩; gi_at_call 43; refine (callsIn_wide.2 (downward_any _ _ _ _ _ _ w8)).mono ?_; rw [hw9]; rintro e w9' ⟨rfl, rfl⟩)
      have hb69 : Below V6.heap.size V6 w9 := (hb7.next hb8).next hb9
      have hT9 := hT6.keep hb69
      have hX9 := heap_keepB hX8 hb9
      have hbw9 : Below w.heap.size w w9 := hb6.trans (hb69.mono hb6.size)
      have hN6 : w.heap.size + 4 ≤ V6.heap.size := by have := (Array.getElem?_eq_some_iff.1 hT6.2.2.2.1).1; omega
      have hg2N : w.heap.size + 4 ≤ g2 := Nat.le_trans hN6 hfr
      have hXN : w.heap.size + 4 ≤ w7.heap.size := Nat.le_trans hN6 hb7.size
      have hat9 := HAT6.out.keep hb69
      have HAV9 := Lib.hid ((HAV.keep hq).keep hb69)
      have HTXT : Hid (∀ j u, j ≤ m → wayTH n' s path j = u.data.toList → w9.cell? ⟨g2, j, none⟩ = some (.string u)) := Lib.hid fun j u hj hu => by
        have h1 := hco j u (by rw [waysBH_at n' s path (by rw [HM.out]; omega), hu, toB_eq])
        rw [Nat.zero_add] at h1
        have h2 := hb8.next hb9
        exact (h2.cell (p := ⟨g2, j, none⟩) hg2).trans h1
      obtain ⟨gg, cgg, he2, hgg, hund⟩ := hat9.under hd10
      obtain ⟨rfl, -, rfl⟩ : g = gg ∧ x = m + 1 ∧ cg = cgg := by simpa using he2
      obtain ⟨U, hU⟩ : ∃ U : Nat → Value, ∀ q, q < x → w9.cell? ⟨g, q, none⟩ = some (U q) := by
        refine ⟨fun q => (w9.cell? ⟨g, q, none⟩).getD undef, fun q hq => ?_⟩
        obtain ⟨g3, c3, e3, -, h3⟩ := hat9
        obtain ⟨rfl, -, rfl⟩ : g = g3 ∧ x = m + 1 ∧ cg = c3 := by simpa using e3
        obtain ⟨u, hu, -⟩ := h3 q (by have := HX.out; omega)
        show w9.cell? ⟨g, q, none⟩ = some ((w9.cell? ⟨g, q, none⟩).getD undef)
        rw [hu]
        rfl
      have HUND : Hid (∀ j z, j < x → undT l j (n' / 2 ^ j) = z.data.toList → ∀ V, Below w9.heap.size w9 V → Calls Tryd.prog 44 #[.agg #[.slice (some ⟨b5, o5, none⟩) n c, .slice (some ⟨g, 0, none⟩) x cg], .int .i64 (j : Int), .int .i64 ((n' / 2 ^ j : Nat) : Int)] V fun e w' => e = .returned (.string z) ∧ Below V.heap.size V w') := Lib.hid fun j z hj hz V hV => by
        have hjm : j ≤ m := by have := HX.out; omega
        have h := under_any l m HL.out hd10 HSL.out (some ⟨b5, o5, none⟩) (some ⟨g, 0, none⟩) c x cg j (n' / 2 ^ j) hjm (half_lt hnm hjm) z hz V (HAV9.out.keep hV) ?_
        · rw [HN.out] at h
          exact h
        · have h2 := hund j hjm
          rw [HX.out] at h2
          intro h' hh
          obtain ⟨g4, u4, e4, l4, l5, c4, r4⟩ := h2 h' hh
          exact ⟨g4, u4, e4, l4, l5, (hV.cell (p := ⟨g4, h', none⟩) (block_lt_of_cell c4)).trans c4, r4.keep hV⟩
      have HOKK : Hid (trcHok l n' m s path) := Lib.hid ⟨HL.out, hd10, HNL.out, HM.out, by rw [HLN.out]; exact fun e => HPS.out (Option.some.inj e), HOK.out, by
        have h := HCK.out
        rw [climbH_yes HOK.out, Int.toNat_natCast] at h
        have h2 := (Prod.mk.inj h).1
        rw [← HR.out] at h2
        exact toB_inj h2⟩
      have HWA : Hid (∀ j, j < x → (wayA l n' m).getD j [] = undT l j (n' / 2 ^ j)) := Lib.hid fun j hj => (und_way l HL.out (by rw [← HL.out]; exact HNL.out) j (by have := HX.out; omega)).symm
      have HDONE : Hid ((∀ j, j < x → undT l j (n' / 2 ^ j) = wayTH n' s path j) → ans = none) := Lib.hid fun h => by
        rw [← HANS.out, trcH_yes HOKK.out, HX.out]
        exact lastDiff_no fun j hj => by rw [HWA.out j hj, h j hj]; rfl
      have HSTOP : Hid (∀ k, k < x → (∀ j, k < j → j < x → undT l j (n' / 2 ^ j) = wayTH n' s path j) → undT l k (n' / 2 ^ k) ≠ wayTH n' s path k → ans = some (undT l k (n' / 2 ^ k), wayTH n' s path k)) := Lib.hid fun k hk h hne => by
        rw [← HANS.out, trcH_yes HOKK.out, HX.out]
        have h2 := lastDiff_at (a := wayA l n' m) (b := wayB n' s path) hk (by rw [HWA.out k hk]; exact hne) (fun j h1 h2 => by rw [HWA.out j h2, h j h1 h2]; rfl)
        rw [h2, HWA.out k hk]
        rfl
      have hN9 : w.heap.size < w9.heap.size := (Array.getElem?_eq_some_iff.1 hT9.1).1
      have hN93 : w.heap.size + 1 + 1 + 1 < w9.heap.size := (Array.getElem?_eq_some_iff.1 hT9.2.2.2.1).1
      have hb1l : w8.heap.size + 1 < w9.heap.size := (Array.getElem?_eq_some_iff.1 hB9).1
      have hgl : g < w9.heap.size := hgg
      clear hb69 hX8 hb9 hb8 hb7 hT6 hT7 hco hll hc2 hg2 hown q0 q1 q8 q9 hw8 hw9 hat9 he2 hund z0 HK6 HB6 HAT6 HCL hq HKV HBV HAV hb6 hN6 hfr hbN
      generalize w7.heap.size = X at *
      generalize w8.heap.size + 1 = b1 at *
      refine wpIn_rangeFunc_ownF (α := {y : Nat // y < x}) rfl (by omega) (gf := 74) (lb := #[.pointer (some ⟨b1, 0, none⟩)]) rfl trivial
        (enters_of Tryd.func74 (by kernel_rfl) rfl) (downward1_in 2 (by omega) b1 g x cg hx0 hxl U w9 (cell0 hB9) hU) KpDn_t (KpDn_b hb1l hgl) (Below.refl _ _) (fun _ => rfl)
        (fun pre W => Below w9.heap.size w9 W ∧ ∀ q ∈ pre, undT l q.1 (n' / 2 ^ q.1) = wayTH n' s path q.1)
        (fun cd pre W => (cd = .ret ∧ ∃ pre0 y, pre = pre0 ++ [y] ∧ (∀ q ∈ pre0, undT l q.1 (n' / 2 ^ q.1) = wayTH n' s path q.1) ∧ undT l y.1 (n' / 2 ^ y.1) ≠ wayTH n' s path y.1 ∧
          W.heap[w.heap.size + 1]? = some (.cells #[.string (toB (undT l y.1 (n' / 2 ^ y.1)))] 9 (0, 0)) ∧ W.heap[w.heap.size + 1 + 1]? = some (.cells #[.string (toB (wayTH n' s path y.1))] 9 (0, 0)) ∧ W.heap[w.heap.size + 1 + 1 + 1]? = some (.cells #[.bool true] 4 (0, 0))) ∧ Below w.heap.size w W)
        (fun pre W W' row hs hg hr => ⟨ownFrom_below (Nat.le_refl _) (Nat.le_refl _) pre W W' row hs.1 hg hr, hs.2⟩)
        (fun cd pre W W' row hs hg hr => by
          obtain ⟨⟨rfl, pre0, y, e, h1, h2, h3, h4, h5⟩, h6⟩ := hs
          exact ⟨⟨rfl, pre0, y, e, h1, h2, (hg.block _ (Array.getElem?_eq_some_iff.1 h3).1 (by rintro e; have := (hr _ e.symm).1; omega)).trans h3, (hg.block _ (Array.getElem?_eq_some_iff.1 h4).1 (by rintro e; have := (hr _ e.symm).1; omega)).trans h4, (hg.block _ (Array.getElem?_eq_some_iff.1 h5).1 (by rintro e; have := (hr _ e.symm).1; omega)).trans h5⟩,
            ownFrom_below (B := w9.heap.size) (Nat.le_refl _) (by omega) pre W W' row h6 hg hr⟩)
        ⟨Below.refl _ _, by simp⟩
        (fun y => { tmps := #[.slice (some ⟨b5, o5, none⟩) n c, .int .i64 (n' : Int), .string s, .slice B m c', undef, .pointer (some ⟨w.heap.size, 0, none⟩), undef, undef, .pointer (some ⟨w.heap.size + 1, 0, none⟩), .pointer (some ⟨w.heap.size + 1 + 1, 0, none⟩), .pointer (some ⟨w.heap.size + 1 + 1 + 1, 0, none⟩), .pointer (some ⟨R, 0, none⟩), .pointer (some ⟨X, 0, none⟩), .int .i64 (y.1 : Int), undef, .slice (some ⟨b5, o5, none⟩) n c, .bool true, .bool false, .slice (some ⟨b5, o5, none⟩) n c, .agg #[.slice (some ⟨b5, o5, none⟩) n c, .slice (some ⟨g, 0, none⟩) x cg], .slice B m c', .int .i64 (m : Int), .pointer (some ⟨R, 1, none⟩), .slice (some ⟨g, 0, none⟩) x cg, .int .i64 (x : Int), .int .i64 (m : Int), .bool false, .bool false, .agg #[.slice (some ⟨b5, o5, none⟩) n c, .slice (some ⟨g, 0, none⟩) x cg], .string t, .int .i64 (n' : Int), .string s, .slice B m c', .bool true, .bool false, .bool false, .bool false, .string s, .slice (some ⟨b5, o5, none⟩) n c, .int .i64 (n' : Int), .pointer (some ⟨b5, o5 + n', none⟩), .string p, .bool false, .bool false, .int .i64 (n' : Int), .string s, .slice B m c', .slice (some ⟨g2, 0, none⟩) (m + 1) c2, .agg #[.slice (some ⟨b5, o5, none⟩) n c, .slice (some ⟨g, 0, none⟩) x cg], .func (.func 74) #[] #[.pointer (some ⟨b1, 0, none⟩)], .int .i64 (y.1 : Int), U y.1, undef, undef, undef, undef, undef, undef, undef, undef, undef, undef, undef, undef, undef, undef, undef, undef, undef], defers := [] }) ?assign ?body ?done ?stop
      case assign =>
        intro q y W K hKy
        gi_wp2
        exact hKy
      case body =>
        rintro q pre ⟨j, hj⟩ W ⟨hbW, heq⟩ hlen
        have hT := hT9.keep hbW
        have r0 : W.cell? ⟨R, 0, none⟩ = some (.slice (some ⟨b5, o5, none⟩) n c) := by rw [cell_of_row _ _ _ _ _ _ hT.2.2.2.2]; rfl
        have r1 : W.cell? ⟨R, 1, none⟩ = some (.slice (some ⟨g, 0, none⟩) x cg) := by rw [cell_of_row _ _ _ _ _ _ hT.2.2.2.2]; rfl
        have r2 := cell0 hT.1
        obtain ⟨z, hz⟩ : ∃ z : ByteArray, undT l j (n' / 2 ^ j) = z.data.toList := ⟨toB (undT l j (n' / 2 ^ j)), (toB_list _).symm⟩
        obtain ⟨u, hu⟩ : ∃ u : ByteArray, wayTH n' s path j = u.data.toList := ⟨toB (wayTH n' s path j), (toB_list _).symm⟩
        have hund := HUND.out j z hj hz
        have hjm : j ≤ m := by have := HX.out; omega
        have ht9 := HTXT.out j u hjm hu
        have hjI : (j : Int) < ((m + 1 : Nat) : Int) := by omega
        obtain ⟨yy, hyy⟩ : ∃ yy : Nat, n' / 2 ^ j = yy := ⟨_, rfl⟩
        have hsh : (n' : Int) / 2 ^ j = (yy : Int) := by rw [← hyy]; push_cast; rfl
        have hj0 : (0 : Int) ≤ (j : Int) := by omega
        rw [hyy] at hund
        have HZ := Lib.hid hz
        have HU2 := Lib.hid hu
        have HEQ := Lib.hid heq
        clear hz hu heq hyy hT
        have hm1 : m + 1 ≤ 11 := by omega
        generalize hmm : m + 1 = mm at *
        have HMM := Lib.hid hmm
        clear hmm
        gi_wp2_with fail
        refine Uptot.begin_round [] (fun w' : World => w'.cell? ⟨R, 0, none⟩ = some (.slice (some ⟨b5, o5, none⟩) n c) ∧ w'.cell? ⟨R, 1, none⟩ = some (.slice (some ⟨g, 0, none⟩) x cg) ∧ w'.cell? ⟨w.heap.size, 0, none⟩ = some (.int .i64 (n' : Int))) (fun _ => True) (by kernel_rfl) (by kernel_rfl) ?_
        have hST : (W.drew.cell? ⟨R, 0, none⟩ = some (.slice (some ⟨b5, o5, none⟩) n c) ∧ W.drew.cell? ⟨R, 1, none⟩ = some (.slice (some ⟨g, 0, none⟩) x cg) ∧ W.drew.cell? ⟨w.heap.size, 0, none⟩ = some (.int .i64 (n' : Int))) ∧ True := ⟨⟨r0, r1, r2⟩, trivial⟩
        have hbD := hbW.drew
        have hbWD := Below.drew0 W
        clear r0 r1 r2
        generalize hV2 : W.drew = V2 at *
        clear hV2
        refine Uptot.takeS (i := 0) (v := ?_) rfl (by kernel_rfl) (by kernel_rfl) (by kernel_rfl) (by kernel_rfl) (fun _ _ _ h => h) (Or.inl ⟨by rfl, ?_⟩) hST ?_
        rotate_left 1
        · intro w9 hSw; (try dsimp only at hSw); obtain ⟨h91, h92, h93⟩ := hSw; go_simp; (try with_reducible rfl)
        try simp only [Act.put, List.setIfInBounds_toArray, List.set_cons_zero, List.set_cons_succ]
        refine Uptot.takeS (i := 1) (v := ?_) rfl (by kernel_rfl) (by kernel_rfl) (by kernel_rfl) (by kernel_rfl) (fun _ _ _ h => h) (Or.inl ⟨by rfl, ?_⟩) hST ?_
        rotate_left 1
        · intro w9 hSw; (try dsimp only at hSw); obtain ⟨h91, h92, h93⟩ := hSw; go_simp; (try with_reducible rfl)
        try simp only [Act.put, List.setIfInBounds_toArray, List.set_cons_zero, List.set_cons_succ]
        refine Uptot.takeS (i := 2) (v := ?_) rfl (by kernel_rfl) (by kernel_rfl) (by kernel_rfl) (by kernel_rfl) (fun _ _ _ h => h) (Or.inl ⟨by rfl, ?_⟩) hST ?_
        rotate_left 1
        · intro w9 hSw; (try dsimp only at hSw); obtain ⟨h91, h92, h93⟩ := hSw; go_simp; (try with_reducible rfl)
        try simp only [Act.put, List.setIfInBounds_toArray, List.set_cons_zero, List.set_cons_succ]
        refine Uptot.takeS (i := 3) (v := ?_) rfl (by kernel_rfl) (by kernel_rfl) (by kernel_rfl) (by kernel_rfl) (fun _ _ _ h => h) (Or.inl ⟨by rfl, ?_⟩) hST ?_
        rotate_left 1
        · intro w9 hSw; (try dsimp only at hSw); obtain ⟨h91, h92, h93⟩ := hSw; go_simp; (try with_reducible rfl)
        try simp only [Act.put, List.setIfInBounds_toArray, List.set_cons_zero, List.set_cons_succ]
        refine Uptot.takeS (i := 4) (v := ?_) rfl (by kernel_rfl) (by kernel_rfl) (by kernel_rfl) (by kernel_rfl) (fun _ _ _ h => h) (Or.inl ⟨by rfl, ?_⟩) hST ?_
        rotate_left 1
        · intro w9 hSw; (try dsimp only at hSw); obtain ⟨h91, h92, h93⟩ := hSw; go_simp; (try with_reducible rfl)
        try simp only [Act.put, List.setIfInBounds_toArray, List.set_cons_zero, List.set_cons_succ]
        refine Uptot.one (i := 5) rfl (by kernel_rfl) (fun K hK9 => ?_)
        go_simp
        go_at_call 44
        refine (hund V2 hbD).mono ?_
        rintro e V3 ⟨rfl, hs3⟩
        replace hST : (V3.cell? ⟨R, 0, none⟩ = some (.slice (some ⟨b5, o5, none⟩) n c) ∧ V3.cell? ⟨R, 1, none⟩ = some (.slice (some ⟨g, 0, none⟩) x cg) ∧ V3.cell? ⟨w.heap.size, 0, none⟩ = some (.int .i64 (n' : Int))) ∧ True := ⟨⟨(hs3.cell (p := ⟨R, 0, none⟩) (block_lt_of_cell hST.1.1)).trans hST.1.1, (hs3.cell (p := ⟨R, 1, none⟩) (block_lt_of_cell hST.1.2.1)).trans hST.1.2.1, (hs3.cell (p := ⟨w.heap.size, 0, none⟩) (block_lt_of_cell hST.1.2.2)).trans hST.1.2.2⟩, trivial⟩
        have hb3 := hbD.next hs3
        have hbW3 := hbWD.next hs3
        clear hund hs3 hbD hbWD
        refine hK9.out _ _ (Cond.ahead hST) ?_
        clear hK9 K
        try simp only [Act.put, List.setIfInBounds_toArray, List.set_cons_zero, List.set_cons_succ]
        refine Uptot.one (i := 6) rfl (by kernel_rfl) (fun K hK9 => ?_)
        go_simp
        refine hK9.out _ _ (Cond.ahead hST) ?_
        clear hK9 K
        try simp only [Act.put, List.setIfInBounds_toArray, List.set_cons_zero, List.set_cons_succ]
        refine Uptot.done (by kernel_rfl) ?_ _
        refine plainEnd_in ?_
        clear hST
        have hX3 := (hb3.block X (Array.getElem?_eq_some_iff.1 hX9).1).trans hX9
        have x3 := cell0 hX3
        have t3 := (hb3.cell (p := ⟨g2, j, none⟩) (block_lt_of_cell ht9)).trans ht9
        by_cases hzu : z = u
        · have hse : (z.toList == u.toList) = true := by rw [str_eq, decide_eq_true hzu]
          gi_wp2
          refine ⟨others_of_below hbW3, ⟨hbW3.block _ (Nat.lt_of_lt_of_le hb1l hbW.size), hbW3.block _ (Nat.lt_of_lt_of_le hgl hbW.size)⟩, hb3, ?_⟩
          intro q hq
          rcases List.mem_append.1 hq with h | h
          · exact HEQ.out q h
          · obtain rfl := List.mem_singleton.1 h
            show undT l j (n' / 2 ^ j) = wayTH n' s path j
            rw [HZ.out, HU2.out, hzu]
        · have hse : (z.toList == u.toList) = false := by rw [str_eq, decide_eq_false hzu]
          gi_wp2_with fail
          refine Uptot.begin_round [] (fun w' : World => w'.cell? ⟨X, 0, none⟩ = some (.slice (some ⟨g2, 0, none⟩) mm c2) ∧ w'.cell? ⟨g2, j, none⟩ = some (.string u)) (fun _ => True) (by kernel_rfl) (by kernel_rfl) ?_
          have hST : (V3.drew.cell? ⟨X, 0, none⟩ = some (.slice (some ⟨g2, 0, none⟩) mm c2) ∧ V3.drew.cell? ⟨g2, j, none⟩ = some (.string u)) ∧ True := ⟨⟨x3, t3⟩, trivial⟩
          have hT4 : TrS w.heap.size R (n' : Int) (some ⟨b5, o5, none⟩) n c (.slice (some ⟨g, 0, none⟩) x cg) ⟨#[]⟩ ⟨#[]⟩ false V3.drew := (hT9.keep hb3.drew)
          have hbW4 := hbW3.drew
          have hb94 := hb3.drew
          clear x3 t3 hb3 hbW3
          generalize hV4 : V3.drew = V4 at *
          clear hV4
          have z1 := cell0 hT4.2.1
          have z2 := cell0 hT4.2.2.1
          have z3 := cell0 hT4.2.2.2.1
          have f1 := froz0 (o := 0) hT4.2.1
          have f2 := froz0 (o := 0) hT4.2.2.1
          have f3 := froz0 (o := 0) hT4.2.2.2.1
          refine Uptot.takeS (i := 0) (v := ?_) rfl (by kernel_rfl) (by kernel_rfl) (by kernel_rfl) (by kernel_rfl) (fun _ _ _ h => h) (Or.inl ⟨by rfl, ?_⟩) hST ?_
          rotate_left 1
          · intro w9 hSw; (try dsimp only at hSw); obtain ⟨h91, h92⟩ := hSw; go_simp; (try with_reducible rfl)
          try simp only [Act.put, List.setIfInBounds_toArray, List.set_cons_zero, List.set_cons_succ]
          refine Uptot.takeS (i := 1) (v := ?_) rfl (by kernel_rfl) (by kernel_rfl) (by kernel_rfl) (by kernel_rfl) (fun _ _ _ h => h) (Or.inl ⟨by rfl, ?_⟩) hST ?_
          rotate_left 1
          · intro w9 hSw; (try dsimp only at hSw); obtain ⟨h91, h92⟩ := hSw; go_simp; (try with_reducible rfl)
          try simp only [Act.put, List.setIfInBounds_toArray, List.set_cons_zero, List.set_cons_succ]
          refine Uptot.takeS (i := 2) (v := ?_) rfl (by kernel_rfl) (by kernel_rfl) (by kernel_rfl) (by kernel_rfl) (fun _ _ _ h => h) (Or.inl ⟨by rfl, ?_⟩) hST ?_
          rotate_left 1
          · intro w9 hSw; (try dsimp only at hSw); obtain ⟨h91, h92⟩ := hSw; go_simp; (try with_reducible rfl)
          try simp only [Act.put, List.setIfInBounds_toArray, List.set_cons_zero, List.set_cons_succ]
          refine Uptot.takeS (i := 3) (v := ?_) rfl (by kernel_rfl) (by kernel_rfl) (by kernel_rfl) (by kernel_rfl) (fun _ _ _ h => h) (Or.inl ⟨by rfl, ?_⟩) hST ?_
          rotate_left 1
          · intro w9 hSw; (try dsimp only at hSw); obtain ⟨h91, h92⟩ := hSw; go_simp; (try with_reducible rfl)
          try simp only [Act.put, List.setIfInBounds_toArray, List.set_cons_zero, List.set_cons_succ]
          refine Uptot.takeS (i := 4) (v := ?_) rfl (by kernel_rfl) (by kernel_rfl) (by kernel_rfl) (by kernel_rfl) (fun _ _ _ h => h) (Or.inl ⟨by rfl, ?_⟩) hST ?_
          rotate_left 1
          · intro w9 hSw; (try dsimp only at hSw); obtain ⟨h91, h92⟩ := hSw; go_simp; (try with_reducible rfl)
          try simp only [Act.put, List.setIfInBounds_toArray, List.set_cons_zero, List.set_cons_succ]
          refine Uptot.one (i := 5) rfl (by kernel_rfl) (fun K hK9 => ?_)
          go_simp
          replace hST : ((V4.setCell ⟨w.heap.size + 1, 0, none⟩ (.string z)).cell? ⟨X, 0, none⟩ = some (.slice (some ⟨g2, 0, none⟩) mm c2) ∧ (V4.setCell ⟨w.heap.size + 1, 0, none⟩ (.string z)).cell? ⟨g2, j, none⟩ = some (.string u)) ∧ True := ⟨⟨(World.cell?_setCell_other _ _ _ _ (by simp <;> omega)).trans hST.1.1, (World.cell?_setCell_other _ _ _ _ (by simp <;> omega)).trans hST.1.2⟩, trivial⟩
          refine hK9.out _ _ (Cond.ahead hST) ?_
          clear hK9 K
          try simp only [Act.put, List.setIfInBounds_toArray, List.set_cons_zero, List.set_cons_succ]
          refine Uptot.one (i := 6) rfl (by kernel_rfl) (fun K hK9 => ?_)
          go_simp
          replace hST : (((V4.setCell ⟨w.heap.size + 1, 0, none⟩ (.string z)).setCell ⟨w.heap.size + 1 + 1, 0, none⟩ (.string u)).cell? ⟨X, 0, none⟩ = some (.slice (some ⟨g2, 0, none⟩) mm c2) ∧ ((V4.setCell ⟨w.heap.size + 1, 0, none⟩ (.string z)).setCell ⟨w.heap.size + 1 + 1, 0, none⟩ (.string u)).cell? ⟨g2, j, none⟩ = some (.string u)) ∧ True := ⟨⟨(World.cell?_setCell_other _ _ _ _ (by simp <;> omega)).trans hST.1.1, (World.cell?_setCell_other _ _ _ _ (by simp <;> omega)).trans hST.1.2⟩, trivial⟩
          refine hK9.out _ _ (Cond.ahead hST) ?_
          clear hK9 K
          try simp only [Act.put, List.setIfInBounds_toArray, List.set_cons_zero, List.set_cons_succ]
          refine Uptot.one (i := 7) rfl (by kernel_rfl) (fun K hK9 => ?_)
          go_simp
          replace hST : ((((V4.setCell ⟨w.heap.size + 1, 0, none⟩ (.string z)).setCell ⟨w.heap.size + 1 + 1, 0, none⟩ (.string u)).setCell ⟨w.heap.size + 1 + 1 + 1, 0, none⟩ (.bool true)).cell? ⟨X, 0, none⟩ = some (.slice (some ⟨g2, 0, none⟩) mm c2) ∧ (((V4.setCell ⟨w.heap.size + 1, 0, none⟩ (.string z)).setCell ⟨w.heap.size + 1 + 1, 0, none⟩ (.string u)).setCell ⟨w.heap.size + 1 + 1 + 1, 0, none⟩ (.bool true)).cell? ⟨g2, j, none⟩ = some (.string u)) ∧ True := ⟨⟨(World.cell?_setCell_other _ _ _ _ (by simp <;> omega)).trans hST.1.1, (World.cell?_setCell_other _ _ _ _ (by simp <;> omega)).trans hST.1.2⟩, trivial⟩
          refine hK9.out _ _ (Cond.ahead hST) ?_
          clear hK9 K
          try simp only [Act.put, List.setIfInBounds_toArray, List.set_cons_zero, List.set_cons_succ]
          refine Uptot.done (by kernel_rfl) ?_ _
          refine plainEnd_in ?_
          clear hST
          gi_wp2
          obtain ⟨y1, y2, y3⟩ := trace_heap z u true hT4.2.1 hT4.2.2.1 hT4.2.2.2.1
          refine ⟨(((others_of_below hbW4).trans (KeepsOthers.setCell _ _ _)).trans (KeepsOthers.setCell _ _ _)).trans (KeepsOthers.setCell _ _ _), ⟨rfl, pre, ⟨j, hj⟩, rfl, HEQ.out, ?_, ?_, ?_, y3⟩, trace_setB (hbw9.next hb94) z u true⟩
          · show undT l j (n' / 2 ^ j) ≠ wayTH n' s path j
            rw [HZ.out, HU2.out]
            exact fun e => hzu (ByteArray.ext (Array.toList_inj.1 e))
          · show _ = some (Obj.cells #[.string (toB (undT l j (n' / 2 ^ j)))] 9 (0, 0))
            rw [HZ.out, toB_eq]
            exact y1
          · show _ = some (Obj.cells #[.string (toB (wayTH n' s path j))] 9 (0, 0))
            rw [HU2.out, toB_eq]
            exact y2
      case done =>
        rintro D xs W hD rfl ⟨hbW, heq⟩ hKd
        have HNONE := Lib.hid (HDONE.out fun j hj => heq ⟨j, hj⟩ (downS_mem hx0 x hj (by omega)))
        have hT := hT9.keep hbW
        have z1 := cell0 hT.2.1
        have z2 := cell0 hT.2.2.1
        have z3 := cell0 hT.2.2.2.1
        have f1 := froz0 (o := 0) hT.2.1
        have f2 := froz0 (o := 0) hT.2.2.1
        have f3 := froz0 (o := 0) hT.2.2.2.1
        clear heq
        gi_wp2
        obtain ⟨y1, y2, y3⟩ := trace_heap (⟨#[]⟩ : ByteArray) ⟨#[]⟩ false hT.2.1 hT.2.2.1 hT.2.2.2.1
        have hKd2 := (Below.heap_setCell _ ⟨w.heap.size + 1 + 1 + 1, 0, none⟩ (.bool false) D (by simp; omega)).trans ((Below.heap_setCell _ ⟨w.heap.size + 1 + 1, 0, none⟩ (.string ⟨#[]⟩) D (by simp; omega)).trans ((Below.heap_setCell _ ⟨w.heap.size + 1, 0, none⟩ (.string ⟨#[]⟩) D (by simp; omega)).trans hKd))
        have hbS := trace_setB (hbw9.next hbW) ⟨#[]⟩ ⟨#[]⟩ false
        generalize (((W.setCell _ _).setCell _ _).setCell _ _) = W9 at *
        have hbd : Below w.heap.size w (W9.putObj D (.deferred none)) := hbS.grown (grownBy_putObj' W9 D _) (by have := hbS.size; omega) (fun k e => by cases e; omega)
        refine ⟨by simp, .inl ⟨_, _, rfl, run_takeDeferred hKd2, ?_⟩⟩
        exact ⟨_, trace_ret rfl rfl rfl (cell0 ((World.putObj_heap_other (by omega)).trans y1)) (cell0 ((World.putObj_heap_other (by omega)).trans y2)) (cell0 ((World.putObj_heap_other (by omega)).trans y3)), by rw [HNONE.out]; rfl, hbd⟩
      case stop =>
        rintro D cd pre W hD hpre ⟨⟨rfl, pre0, y, rfl, h1, h2, h3, h4, h5⟩, h6⟩ hKd
        obtain ⟨k, hk, hk2, hk3⟩ := downS_split hx0 hpre
        have HANS2 := Lib.hid (HSTOP.out y.1 y.2 (fun j hj1 hj2 => h1 ⟨j, hj2⟩ (by rw [hk2]; exact downS_mem hx0 k hj2 (by omega))) h2)
        clear hk2 hk3 h1 h2
        gi_wp2
        have hbd : Below w.heap.size w (W.putObj D (.deferred none)) := h6.grown (grownBy_putObj' W D _) (by have := h6.size; omega) (fun k e => by cases e; omega)
        refine ⟨by simp, .inl ⟨_, _, rfl, run_takeDeferred hKd, ?_⟩⟩
        exact ⟨_, trace_ret rfl rfl rfl (cell0 ((World.putObj_heap_other (by omega)).trans h3)) (cell0 ((World.putObj_heap_other (by omega)).trans h4)) (cell0 ((World.putObj_heap_other (by omega)).trans h5)), by rw [HANS2.out]; rfl, hbd⟩
end Go.Proofs.YtgcohoonhklkbaaDoor

/-
  tree: texts of which each has a digest (the document's answer); what Collide finds, as mathematics; Collide where it looks at nothing.
-/
namespace Go.Kx
section
variable {P : Program} {md : Region.Mode} {ls : List Oper} {Q : Exit → Act → World → Prop} {S T : World → Prop} {Ls : List Nat} {n : Nat} {l : Array Bool} {a : Act} {w : World}
/-- Either of two operations may come. -/
theorem Uptot.two {i j : Nat} {o p : Oper} {rest rest' : List Oper} (hi : ls.drop i = o :: rest) (hj : ls.drop j = p :: rest') (hr : Region.ready md ls.toArray l = [i, j])
    (h : ∀ K : Act → World → Prop, Shut (∀ a w, Cond S T Ls (l.setIfInBounds i true) w → Uptot P md ls.toArray Q S T Ls n (l.setIfInBounds i true) a w → K a w) → if Region.wanted o (yielded ls.toArray a.tmps) = true then Oper.wp P o a w K Q else K (a.put o.dst undef) w)
    (h' : ∀ K : Act → World → Prop, Shut (∀ a w, Cond S T Ls (l.setIfInBounds j true) w → Uptot P md ls.toArray Q S T Ls n (l.setIfInBounds j true) a w → K a w) → if Region.wanted p (yielded ls.toArray a.tmps) = true then Oper.wp P p a w K Q else K (a.put p.dst undef) w) :
    Uptot P md ls.toArray Q S T Ls (n + 1) l a w := ⟨fun h0 => (by rw [hr] at h0; cases h0), fun k hk => by
  rw [hr] at hk
  rcases List.mem_cons.1 hk with rfl | hk
  · exact wpOp_step (drop_at hi) fun K hK => h K fun a w h1 h2 => hK a w ⟨h1, h2⟩
  · obtain rfl := List.mem_singleton.1 hk
    exact wpOp_step (drop_at hj) fun K hK => h' K fun a w h1 h2 => hK a w ⟨h1, h2⟩⟩
end
end Go.Kx
namespace Go.Proofs.YtgcohoonhklkbaaDoor
open Go.RowKit Go.Kx Go.Trm
set_option maxRecDepth 20000

/-! ### texts that have digests -/
theorem pairs_same : ∀ (r : List Txt), (∀ x ∈ r, x.length ≤ 32) → pairsL sumH r = pairsL sumL r
  | [], _ => rfl
  | [_], _ => rfl
  | a :: b :: r, h => by
    have h1 := h a (by simp)
    have h2 := h b (by simp)
    rw [pairsL, pairsL, pairs_same r fun x hx => h x (by simp [hx]), nodeL, nodeL, sumH_short (by simp only [ofNodeL, List.length_cons, List.length_append]; omega)]
theorem pairs_le : ∀ (r : List Txt), ∀ x ∈ pairsL sumL r, x.length ≤ 32
  | [], x, h => by cases h
  | [_], x, h => by cases h
  | a :: b :: r, x, h => by
    rw [pairsL] at h
    rcases List.mem_cons.1 h with rfl | h
    · exact Nat.le_of_eq (sumT_length _)
    · exact pairs_le r x h
theorem rows_le (l : List Txt) : ∀ k, ∀ x ∈ rowL sumL l k, x.length ≤ 32
  | 0, x, h => by
    obtain ⟨y, -, rfl⟩ := List.mem_map.1 h
    exact Nat.le_of_eq (sumT_length _)
  | k + 1, x, h => pairs_le _ x h
theorem rows_same (l : List Txt) (hl : ∀ s ∈ l, s.length ≤ 999999999) : ∀ k, rowL sumH l k = rowL sumL l k
  | 0 => List.map_congr_left fun s hs => by rw [leafL, leafL, sumH_short (by have := hl s hs; simp only [ofLeafL, List.length_cons]; omega)]
  | k + 1 => by rw [rowL, rowL, rows_same l hl k, pairs_same _ (rows_le l k)]
theorem txts_le {l : List ByteArray} {N : Nat} (h : ∀ s ∈ l, s.size ≤ N) : ∀ x ∈ txtsL l, x.length ≤ N := fun x hx => by
  obtain ⟨s, hs, rfl⟩ := List.mem_map.1 hx
  have := h s hs
  simpa using this
theorem undT_below (l : List ByteArray) (hl : ∀ s ∈ l, s.size ≤ 999999999) (h k : Nat) : undT l h k = belowL (txtsL l) h k := by
  cases h with
  | zero => rfl
  | succ h => rw [undT, belowL, if_neg (by omega), Nat.add_sub_cancel, rows_same _ (txts_le hl)]
theorem root_same (l : List ByteArray) (hl : ∀ s ∈ l, s.size ≤ 999999999) (d : Nat) : rootL sumH (txtsL l) d = rootL sumL (txtsL l) d := by rw [rootL, rootL, rows_same _ (txts_le hl)]
theorem path_same (l : List ByteArray) (hl : ∀ s ∈ l, s.size ≤ 999999999) (i d : Nat) : pathL sumH (txtsL l) i d = pathL sumL (txtsL l) i d := by
  unfold pathL
  exact List.map_congr_left fun k _ => by rw [rows_same _ (txts_le hl)]
theorem ways_same : ∀ (ps : List Txt) (i : Nat) (x : Txt), x.length ≤ 1000000000 → (∀ p ∈ ps, p.length ≤ 32) → waysL sumH i x ps = waysL sumL i x ps ∧ climbL sumH i x ps = climbL sumL i x ps
  | [], _, x, hx, _ => ⟨rfl, by rw [climbL, climbL, sumH_short hx]⟩
  | p :: ps, i, x, hx, hp => by
    have e : stepW sumH i x p = stepW sumL i x p := by unfold stepW; rw [sumH_short hx]
    have hl : (stepW sumL i x p).length ≤ 1000000000 := by
      have h1 := hp p (by simp)
      unfold stepW ofNodeL
      split <;> simp only [List.length_cons, List.length_append, sumT_length] <;> omega
    have h := ways_same ps (i / 2) (stepW sumL i x p) hl fun q hq => hp q (by simp [hq])
    refine ⟨?_, ?_⟩
    · rw [waysL, waysL, e, h.1]
    · rw [climbL, climbL, e, h.2]

/-! ### what Collide finds -/
theorem colK_none {f g : Nat → Txt} : ∀ (n k : Nat), (∀ j, k ≤ j → j < k + n → f j = g j) → colK f g n k = none
  | 0, _, _ => rfl
  | n + 1, k, h => by
    rw [colK, if_pos (h k (Nat.le_refl _) (by omega))]
    exact colK_none n (k + 1) fun j h1 h2 => h j (by omega) (by omega)
theorem colK_some {f g : Nat → Txt} : ∀ (n k j : Nat), k ≤ j → j < k + n → (∀ i, k ≤ i → i < j → f i = g i) → f j ≠ g j → colK f g n k = some (f j, g j)
  | 0, k, j, h1, h2, _, _ => by omega
  | n + 1, k, j, h1, h2, h3, h4 => by
    by_cases hkj : k = j
    · subst hkj
      rw [colK, if_neg h4]
    · rw [colK, if_pos (h3 k (Nat.le_refl _) (by omega))]
      exact colK_some n (k + 1) j (by omega) (by omega) (fun i h5 h6 => h3 i (by omega) h6) h4
theorem colD_at {l m : List Txt} {d : Nat} : ∀ {n y k : Nat}, y < n → (∀ r, y < r → r < n → ∀ j, j < 2 ^ (d - r) → belowL l r j = belowL m r j) → k < 2 ^ (d - y) → (∀ j, j < k → belowL l y j = belowL m y j) → belowL l y k ≠ belowL m y k → colD l m d n = some (belowL l y k, belowL m y k)
  | n + 1, y, k, hy, h1, hk, h2, h3 => by
    by_cases hyn : y = n
    · subst hyn
      exact colD_some (colK_some _ 0 k (by omega) (by omega) (fun j _ hj => h2 j hj) h3)
    · rw [colD_none (colK_none _ 0 fun j _ hj => h1 n (by omega) (by omega) j (by omega))]
      exact colD_at (by omega) (fun r hr1 hr2 => h1 r hr1 (by omega)) hk h2 h3
/-- Unlike rows are unlike somewhere at the Leaves. -/
theorem leaves_unlike {l m : List ByteArray} (hlm : l.length = m.length) (h : ∀ j, j < l.length → undT l 0 j = undT m 0 j) : l = m := by
  refine List.ext_getElem hlm fun j h1 h2 => ?_
  have e := h j h1
  rw [undT, undT, txtsL_get l h1, txtsL_get m h2] at e
  exact ByteArray.ext (Array.toList_inj.1 (ofLeaf_inj e))

/-! ### where Collide looks at nothing -/
theorem tcollide_early (l m : List ByteArray) (A B : Option Addr) (c c' : Nat) (hz : l.length ≤ 9223372036854775807) (h : ¬ (l.length = m.length ∧ mayN l.length ∧ l ≠ m)) (w : World) (hA : Sl w A (strsV l)) (hB : Sl w B (strsV m)) :
    Calls Tryd.prog 23 #[.slice A l.length c, .slice B m.length c'] w fun e w' => e = .returned (outV none) ∧ Below w.heap.size w w' := by
  by_cases hl : l.length = m.length
  · have hne : ((l.length : Int) != (m.length : Int)) = false := by simp [hl]
    by_cases hm : mayN l.length
    · have hlm : l = m := Classical.byContradiction fun h2 => h ⟨hl, hm, h2⟩
      have hmay := tmay_yes hm A c w
      have htx := equal_any A B c c' l m w (by have := may_pos hm; omega) true (by rw [decide_eq_true hlm]) hl hA hB
      clear hlm h hA hB hm hl
      generalize l.length = x at *
      generalize m.length = y at *
      go_enter Tryd.func23, Tryd.ntmps23
      go_wp2_with fail
      go_step3
      go_wp2_with fail
      refine hmay.mono ?_
      rintro e w ⟨rfl, rfl⟩
      go_wp2_with fail
      refine htx.mono ?_
      rintro e w1 ⟨rfl, n, rfl⟩
      go_wp2
      rw [Exit.noGoto_ret]
      go_ret3
      exact ⟨rfl, Below.drewN0 _ _⟩
    · have hmay := tmay_no hm hz A c w
      clear h hA hB hm hl
      generalize l.length = x at *
      generalize m.length = y at *
      go_enter Tryd.func23, Tryd.ntmps23
      go_wp2_with fail
      go_step3
      go_wp2_with fail
      refine hmay.mono ?_
      rintro e w ⟨rfl, rfl⟩
      go_wp2
      rw [Exit.noGoto_ret]
      go_ret3
      exact ⟨rfl, Below.refl _ _⟩
  · have hne : ((l.length : Int) != (m.length : Int)) = true := by rw [bne_iff_ne]; omega
    clear h hA hB hl
    generalize l.length = x at *
    generalize m.length = y at *
    go_enter Tryd.func23, Tryd.ntmps23
    go_wp2_with fail
    go_step3
    go_wp2
    rw [Exit.noGoto_ret]
    go_ret3
    exact ⟨rfl, Below.refl _ _⟩
end Go.Proofs.YtgcohoonhklkbaaDoor

/-
  tree: the contract of Collide (of texts that have digests).
-/
namespace Go.Proofs.YtgcohoonhklkbaaDoor
open Go.RowKit Go.Kx Go.Shelf Go.Trm
set_option maxRecDepth 20000
attribute [local go_sem] Oper.semAt_some

set_option maxHeartbeats 4000000 in
theorem tcollide_main (HD : DSumH) (l m : List ByteArray) (d : Nat) (hd : l.length = 2 ^ d) (hlm : l.length = m.length) (hd10 : d ≤ 10) (hne : l ≠ m) (hsl : ∀ s ∈ l, s.size ≤ 999999999) (hsm : ∀ s ∈ m, s.size ≤ 999999999) (A B : Option Addr) (c c' : Nat)
    (ans : Option (Txt × Txt)) (hans : colA l m = ans) (w : World) (hK : Consts w) (hA : Sl w A (strsV l)) (hB : Sl w B (strsV m)) :
    Calls Tryd.prog 23 #[.slice A l.length c, .slice B m.length c'] w fun e w' => e = .returned (outV ans) ∧ Below w.heap.size w w' := by
  refine (callsIn_wide (n := 3)).1 ?_
  refine callsIn_of_wp_marks Tryd.func23 rfl trivial ?_ rfl
  simp only [Tryd.ntmps23, List.size_toArray, List.length_cons, List.length_nil, Nat.reduceAdd, Nat.reduceSub, Array.replicate_succ, Array.replicate_zero, List.push_toArray, List.append_toArray, List.nil_append, List.cons_append]
  have hdm : m.length = 2 ^ d := by rw [← hlm]; exact hd
  have HMAY := Lib.hid fun V => tmay_yes ⟨d, hd10, hd⟩ A c V
  have HEQL := Lib.hid (equal_any A B c c' l m w (by have := may_pos ⟨d, hd10, hd⟩; omega) false (by rw [decide_eq_false hne]) hlm hA hB)
  have HOV1 := Lib.hid fun V hKV hAV => over_any HD l d hd hd10 (fun s hs => by have := hsl s hs; omega) A c V hAV hKV
  have HOV2 := Lib.hid fun V hKV hBV => over_any HD m d hdm hd10 (fun s hs => by have := hsm s hs; omega) B c' V hBV hKV
  obtain ⟨r1, hr1⟩ : ∃ r, toB (rootL sumH (txtsL l) d) = r := ⟨_, rfl⟩
  obtain ⟨r2, hr2⟩ : ∃ r, toB (rootL sumH (txtsL m) d) = r := ⟨_, rfl⟩
  have HRT1 := Lib.hid fun v V hv => root_any l d hd hd10 A l.length c v r1 hr1 V hv
  have HRT2 := Lib.hid fun v V hv => root_any m d hdm hd10 B m.length c' v r2 hr2 V hv
  have HAh := Lib.hid hA
  have HBh := Lib.hid hB
  have HKh := Lib.hid hK
  have HL := Lib.hid hd
  have HLM := Lib.hid hdm
  have HSL := Lib.hid hsl
  have HSM := Lib.hid hsm
  have HNE := Lib.hid hne
  have HLEN := Lib.hid hlm
  have HANS := Lib.hid hans
  have HR1 := Lib.hid hr1
  have HR2 := Lib.hid hr2
  obtain ⟨n, hn⟩ : ∃ n, l.length = n := ⟨_, rfl⟩
  have hn2 : m.length = n := by rw [← hlm]; exact hn
  have HN := Lib.hid hn
  have HN2 := Lib.hid hn2
  have hn9 : n ≤ 1024 := by rw [← hn, hd]; have : 2 ^ d ≤ 2 ^ 10 := Nat.pow_le_pow_right (by omega) hd10; omega
  rw [hn] at HMAY HEQL HOV1 HRT1 ⊢
  rw [hn2] at HEQL HOV2 HRT2 ⊢
  clear hd hA hB hn hn2 hlm hdm hne hans hr1 hr2 hsl hsm HD
  have hnn : ((n : Int) != (n : Int)) = false := by simp
  gi_wp2_with fail
  refine wpIn_wide.2 (wp_scope_straight ((wpIn_wide (n := 3)).1 ?_))
  gi_wp2_with (refine ⟨trivial, ?_⟩; gi_at_call 28; refine (callsIn_wide.2 (HMAY.out _)).mono ?_; rintro e w1 ⟨rfl, rfl⟩)
  refine ⟨trivial, ?_⟩
  gi_at_call 42
  refine (callsIn_wide.2 HEQL.out).mono ?_
  rintro e w1 ⟨rfl, q1, rfl⟩
  have hb0 : Below w.heap.size w (w.drewN q1) := Below.drewN0 _ _
  generalize w.drewN q1 = W1 at *
  gi_wp2_with fail
  refine ⟨trivial, ?_⟩
  gi_at_call 29
  refine (callsIn_wide.2 (HOV1.out _ (hK.keep hb0) (HAh.out.keep hb0))).mono ?_
  rintro e w2 ⟨v1, rfl, hat1, hb1⟩
  obtain ⟨g1, cg1, rfl, hg1, hund1⟩ := hat1.under hd10
  have hb02 := hb0.next hb1
  have HAT1 := Lib.hid hat1
  have HUN1 := Lib.hid hund1
  clear hat1 hund1
  obtain ⟨x, hx⟩ : ∃ x, d + 1 = x := ⟨_, rfl⟩
  have HX := Lib.hid hx
  have hx0 : 0 < x := by omega
  have hxl : x ≤ 11 := by omega
  rw [hx] at HAT1 HUN1 ⊢
  gi_wp2_with fail
  refine ⟨trivial, ?_⟩
  gi_at_call 29
  refine (callsIn_wide.2 (HOV2.out _ (hK.keep hb02) (HBh.out.keep hb02))).mono ?_
  rintro e w3 ⟨v2, rfl, hat2, hb2⟩
  obtain ⟨g2, cg2, rfl, hg2, hund2⟩ := hat2.under hd10
  have hb03 := hb02.next hb2
  have HAT2 := Lib.hid hat2
  have HUN2 := Lib.hid hund2
  clear hat2 hund2
  rw [hx] at HAT2 HUN2 ⊢
  clear hx
  obtain ⟨V, hV⟩ : ∃ V, (w3.alloc (.cells #[.slice A n c, .slice (some ⟨g1, 0, none⟩) x cg1] 44)).alloc (.cells #[.slice B n c', .slice (some ⟨g2, 0, none⟩) x cg2] 44) = V := ⟨_, rfl⟩
  have hbV : Below w3.heap.size w3 V := by rw [← hV]; exact (Below.alloc0 _ _).alloc (by simp) _
  have hRV : V.heap[w3.heap.size]? = some (.cells #[.slice A n c, .slice (some ⟨g1, 0, none⟩) x cg1] 44) := by rw [← hV]; exact (Below.heap_alloc _ _ _ (by simp)).trans (heap_alloc_new w3 _)
  have hSV : V.heap[w3.heap.size + 1]? = some (.cells #[.slice B n c', .slice (some ⟨g2, 0, none⟩) x cg2] 44) := by
    rw [← hV]
    have h := heap_alloc_new (w3.alloc (.cells #[.slice A n c, .slice (some ⟨g1, 0, none⟩) x cg1] 44)) (.cells #[.slice B n c', .slice (some ⟨g2, 0, none⟩) x cg2] 44)
    rwa [World.size_alloc] at h
  gi_wp2_with fail
  clear hV
  have hb5 := hb03.next hbV
  have HAV1 := Lib.hid (HAT1.out.keep (hb2.next hbV))
  have HAV2 := Lib.hid (HAT2.out.keep hbV)
  have HUV1 := Lib.hid (show ∀ q, q ≤ d → ∀ U, Below V.heap.size V U → Under U l (some ⟨g1, 0, none⟩) x q from fun q hq U hU h' hh => by
    obtain ⟨g4, u4, e4, l4, l5, c4, r4⟩ := HUN1.out q hq h' hh
    have hbU := (hb2.next hbV).next hU
    exact ⟨g4, u4, e4, l4, l5, (hbU.cell (p := ⟨g4, h', none⟩) (block_lt_of_cell c4)).trans c4, r4.keep hbU⟩)
  have HUV2 := Lib.hid (show ∀ q, q ≤ d → ∀ U, Below V.heap.size V U → Under U m (some ⟨g2, 0, none⟩) x q from fun q hq U hU h' hh => by
    obtain ⟨g4, u4, e4, l4, l5, c4, r4⟩ := HUN2.out q hq h' hh
    have hbU := hbV.next hU
    exact ⟨g4, u4, e4, l4, l5, (hbU.cell (p := ⟨g4, h', none⟩) (block_lt_of_cell c4)).trans c4, r4.keep hbU⟩)
  clear HAT1 HAT2 HUN1 HUN2 hbV hb03 hb02 hb0 hb1 hb2 hg1 hg2
  generalize w3.heap.size = R at *
  have hl0 : ∀ d' os, (Go.Sort.grow (redrawn V d') os).cell? ⟨R, 0, none⟩ = some (.slice A n c) := cell_regrown (by rw [cell_of_row _ _ _ _ _ _ hRV]; rfl)
  have hl1 : ∀ d' os, (Go.Sort.grow (redrawn V d') os).cell? ⟨R, 1, none⟩ = some (.slice (some ⟨g1, 0, none⟩) x cg1) := cell_regrown (by rw [cell_of_row _ _ _ _ _ _ hRV]; rfl)
  have hl2 : ∀ d' os, (Go.Sort.grow (redrawn V d') os).cell? ⟨R + 1, 0, none⟩ = some (.slice B n c') := cell_regrown (by rw [cell_of_row _ _ _ _ _ _ hSV]; rfl)
  have hl3 : ∀ d' os, (Go.Sort.grow (redrawn V d') os).cell? ⟨R + 1, 1, none⟩ = some (.slice (some ⟨g2, 0, none⟩) x cg2) := cell_regrown (by rw [cell_of_row _ _ _ _ _ _ hSV]; rfl)
  have c1 : ∀ d' os, Calls Tryd.prog 30 #[.agg #[.slice A n c, .slice (some ⟨g1, 0, none⟩) x cg1]] (Go.Sort.grow (redrawn V d') os) fun e w'' => e = .returned (.string r1) ∧ ∃ p : Regrown, w'' = Go.Sort.grow (redrawn V p.d) p.os := fun d' os => Calls.regrown_of (HRT1.out _ _ (HAV1.out.keep (below_regrown V d' os)))
  have c2 : ∀ d' os, Calls Tryd.prog 30 #[.agg #[.slice B n c', .slice (some ⟨g2, 0, none⟩) x cg2]] (Go.Sort.grow (redrawn V d') os) fun e w'' => e = .returned (.string r2) ∧ ∃ p : Regrown, w'' = Go.Sort.grow (redrawn V p.d) p.os := fun d' os => Calls.regrown_of (HRT2.out _ _ (HAV2.out.keep (below_regrown V d' os)))
  have hbN : w.heap.size ≤ V.heap.size := hb5.size
  by_cases hrr : r1 = r2
  rotate_left
  · have hse : (r1.toList == r2.toList) = false := by rw [str_eq, decide_eq_false hrr]
    have HNO : Hid (ans = none) := Lib.hid (by
      rw [← HANS.out, colA_no]
      rintro d' ⟨e1, e2, e3, e4, e5⟩
      have e6 : d = d' := by rw [HL.out] at e2; exact (Nat.pow_right_inj (by omega)).1 e2
      subst e6
      exact hrr (by rw [← HR1.out, ← HR2.out, root_same l HSL.out, root_same m HSM.out, e5]))
    clear hrr
    refine wpIn_wide.2 (wp_region_quiet_below (by kernel_rfl) (by kernel_rfl) ?_)
    repeat (quiet_step (first | with_reducible exact c1 _ _ | with_reducible exact c2 _ _))
    refine wpQuiet_nil ?_
    intro _ hw'
    obtain ⟨⟨dq, osq⟩, hw''⟩ := hw'
    subst hw''
    have hb6 := hb5.trans ((below_regrown V dq osq).mono hbN)
    clear hl0 hl1 hl2 hl3 c1 c2
    generalize Go.Sort.grow (redrawn V dq) osq = V6 at *
    gi_wp2
    rw [Exit.noGoto_ret]
    exact ⟨_, results_tmp3 rfl _ _ _, by rw [HNO.out]; rfl, hb6⟩
  · have hse : (r1.toList == r2.toList) = true := by rw [str_eq, decide_eq_true hrr]
    refine wpIn_wide.2 (wp_region_quiet_below (by kernel_rfl) (by kernel_rfl) ?_)
    have HRR := Lib.hid hrr
    clear hrr
    repeat (quiet_step (first | with_reducible exact c1 _ _ | with_reducible exact c2 _ _))
    refine wpQuiet_nil ?_
    intro _ hw'
    obtain ⟨⟨dq, osq⟩, hw''⟩ := hw'
    subst hw''
    have hq := below_regrown V dq osq
    have hb6 := hb5.trans (hq.mono hbN)
    have hR6 := heap_keepB hRV hq
    have hS6 := heap_keepB hSV hq
    clear hl0 hl1 hl2 hl3 c1 c2 hRV hSV hbN
    generalize Go.Sort.grow (redrawn V dq) osq = V6 at *
    have HU61 : Hid (∀ q, q ≤ d → ∀ U, Below V6.heap.size V6 U → Under U l (some ⟨g1, 0, none⟩) x q) := Lib.hid fun q hq9 U hU => HUV1.out q hq9 U (hq.next hU)
    have HU62 : Hid (∀ q, q ≤ d → ∀ U, Below V6.heap.size V6 U → Under U m (some ⟨g2, 0, none⟩) x q) := Lib.hid fun q hq9 U hU => HUV2.out q hq9 U (hq.next hU)
    have HRV6 := Lib.hid hR6
    have HSV6 := Lib.hid hS6
    have HA6 : Hid (DigsAt V6 (.slice (some ⟨g1, 0, none⟩) x cg1) d l) := Lib.hid (HAV1.out.keep hq)
    clear hq HUV1 HUV2 HAV1 HAV2
    obtain ⟨V7, hV7⟩ : ∃ V7, (V6.alloc (.cells #[.string ⟨#[]⟩] 9)).alloc (.cells #[.string ⟨#[]⟩] 9) = V7 := ⟨_, rfl⟩
    have hb67 : Below V6.heap.size V6 V7 := by rw [← hV7]; exact (Below.alloc0 _ _).alloc (by simp) _
    have hx7 : V7.heap[V6.heap.size]? = some (.cells #[.string ⟨#[]⟩] 9) := by rw [← hV7]; exact (Below.heap_alloc _ _ _ (by simp)).trans (heap_alloc_new V6 _)
    have hy7 : V7.heap[V6.heap.size + 1]? = some (.cells #[.string ⟨#[]⟩] 9) := by
      rw [← hV7]
      have h := heap_alloc_new (V6.alloc (.cells #[.string ⟨#[]⟩] 9)) (.cells #[.string ⟨#[]⟩] 9)
      rwa [World.size_alloc] at h
    have hR7 := heap_keepB hR6 hb67
    have q0 : V7.cell? ⟨R, 0, none⟩ = some (.slice A n c) := by rw [cell_of_row _ _ _ _ _ _ hR7]; rfl
    have q1 : V7.cell? ⟨R, 1, none⟩ = some (.slice (some ⟨g1, 0, none⟩) x cg1) := by rw [cell_of_row _ _ _ _ _ _ hR7]; rfl
    obtain ⟨w9, hw9⟩ : ∃ w9, (V7.alloc (.cells #[.slice A n c, .slice (some ⟨g1, 0, none⟩) x cg1] 44)).alloc (.cells #[.slice (some ⟨g1, 0, none⟩) x cg1] 42) = w9 := ⟨_, rfl⟩
    have hb79 : Below V7.heap.size V7 w9 := by rw [← hw9]; exact (Below.alloc0 _ _).alloc (by simp) _
    have hB9 : w9.heap[V7.heap.size + 1]? = some (.cells #[.slice (some ⟨g1, 0, none⟩) x cg1] 42) := by
      rw [← hw9]
      have h := heap_alloc_new (V7.alloc (.cells #[.slice A n c, .slice (some ⟨g1, 0, none⟩) x cg1] 44)) (.cells #[.slice (some ⟨g1, 0, none⟩) x cg1] 42)
      rwa [World.size_alloc] at h
    gi_wp2_with fail
    refine wpIn_label ?_
    gi_wp2_with fail
    refine ⟨trivial, ?_⟩
    gi_at_call 43
    refine (callsIn_wide.2 (downward_any _ _ _ _ _ _ V7)).mono ?_
    rw [hw9]
    rintro e w9' ⟨rfl, rfl⟩
    gi_wp2_with fail
    have hb69 := hb67.next hb79
    have hx9 := heap_keepB hx7 hb79
    have hy9 := heap_keepB hy7 hb79
    have hR9 := heap_keepB hR6 hb69
    have hS9 := heap_keepB hS6 hb69
    have HA9 := HA6.out
    obtain ⟨gg, cgg, he2, hgg, -⟩ := HA9.under hd10
    obtain ⟨rfl, -, rfl⟩ : g1 = gg ∧ x = d + 1 ∧ cg1 = cgg := by simpa using he2
    obtain ⟨U, hU⟩ : ∃ U : Nat → Value, ∀ q, q < x → w9.cell? ⟨g1, q, none⟩ = some (U q) ∧ ∃ gy cy, U q = .slice (some ⟨gy, 0, none⟩) (2 ^ (d - q)) cy := by
      refine ⟨fun q => (w9.cell? ⟨g1, q, none⟩).getD undef, fun q hq => ?_⟩
      obtain ⟨g3, c3, e3, -, h3⟩ := HA9
      obtain ⟨rfl, -, rfl⟩ : g1 = g3 ∧ x = d + 1 ∧ cg1 = c3 := by simpa using e3
      have hqd : q ≤ d := by have := HX.out; omega
      obtain ⟨u, hu, gy, cy, e4, -, -⟩ := h3 q hqd
      have hu9 := (hb69.cell (p := ⟨g1, q, none⟩) (block_lt_of_cell hu)).trans hu
      show w9.cell? ⟨g1, q, none⟩ = some ((w9.cell? ⟨g1, q, none⟩).getD undef) ∧ _
      rw [hu9]
      refine ⟨rfl, gy, cy, ?_⟩
      show (w9.cell? ⟨g1, q, none⟩).getD undef = _
      rw [hu9]
      show u = _
      rw [e4, rowH_length l HL.out hqd]
    have HUF := Lib.hid fun q hq => (hU q hq).2
    have hU' := fun q hq => (hU q hq).1
    have HUND1 : Hid (∀ (q j : Nat) (z : ByteArray), q < x → j < 2 ^ (d - q) → undT l q j = z.data.toList → ∀ V, Below V6.heap.size V6 V → Calls Tryd.prog 44 #[.agg #[.slice A n c, .slice (some ⟨g1, 0, none⟩) x cg1], .int .i64 (q : Int), .int .i64 (j : Int)] V fun e w' => e = .returned (.string z) ∧ Below V.heap.size V w') := Lib.hid fun q j z hq hj hz V hV => by
      have hqd : q ≤ d := by have := HX.out; omega
      have h := under_any l d HL.out hd10 (fun s hs => by have := HSL.out s hs; omega) A (some ⟨g1, 0, none⟩) c x cg1 q j hqd hj z hz V (HAh.out.keep (hb6.trans (hV.mono hb6.size))) (HU61.out q hqd V hV)
      rw [HN.out] at h
      exact h
    have HUND2 : Hid (∀ (q j : Nat) (z : ByteArray), q < x → j < 2 ^ (d - q) → undT m q j = z.data.toList → ∀ V, Below V6.heap.size V6 V → Calls Tryd.prog 44 #[.agg #[.slice B n c', .slice (some ⟨g2, 0, none⟩) x cg2], .int .i64 (q : Int), .int .i64 (j : Int)] V fun e w' => e = .returned (.string z) ∧ Below V.heap.size V w') := Lib.hid fun q j z hq hj hz V hV => by
      have hqd : q ≤ d := by have := HX.out; omega
      have h := under_any m d HLM.out hd10 (fun s hs => by have := HSM.out s hs; omega) B (some ⟨g2, 0, none⟩) c' x cg2 q j hqd hj z hz V (HBh.out.keep (hb6.trans (hV.mono hb6.size))) (HU62.out q hqd V hV)
      rw [HN2.out] at h
      exact h
    have HOK : Hid (colOk l m d) := Lib.hid ⟨HLEN.out, HL.out, hd10, HNE.out, by
      have e := HRR.out
      rw [← HR1.out, ← HR2.out, root_same l HSL.out, root_same m HSM.out] at e
      exact toB_inj e⟩
    have HFOUND : Hid (∀ y k, y < x → (∀ r, y < r → r < x → ∀ j, j < 2 ^ (d - r) → undT l r j = undT m r j) → k < 2 ^ (d - y) → (∀ j, j < k → undT l y j = undT m y j) → undT l y k ≠ undT m y k → ans = some (undT l y k, undT m y k)) := Lib.hid fun y k hy h1 hk h2 h3 => by
      rw [← HANS.out, colA_yes HOK.out, HX.out, undT_below l HSL.out, undT_below m HSM.out]
      refine colD_at hy (fun r hr1 hr2 j hj => ?_) hk (fun j hj => ?_) ?_
      · rw [← undT_below l HSL.out, ← undT_below m HSM.out]; exact h1 r hr1 hr2 j hj
      · rw [← undT_below l HSL.out, ← undT_below m HSM.out]; exact h2 j hj
      · rw [← undT_below l HSL.out, ← undT_below m HSM.out]; exact h3
    have HEND : Hid ((∀ j, j < 2 ^ (d - 0) → undT l 0 j = undT m 0 j) → False) := Lib.hid fun h => HNE.out (leaves_unlike HLEN.out fun j hj => h j (by rw [Nat.sub_zero, ← HL.out]; exact hj))
    have HPOW : Hid (∀ q, 2 ^ (d - q) ≤ 1024) := Lib.hid fun q => by have : 2 ^ (d - q) ≤ 2 ^ 10 := Nat.pow_le_pow_right (by omega) (by omega); omega
    have hRX : R + 1 < V6.heap.size := (Array.getElem?_eq_some_iff.1 hS6).1
    have hX9 : V6.heap.size + 1 < w9.heap.size := (Array.getElem?_eq_some_iff.1 hy9).1
    have hb1l : V7.heap.size + 1 < w9.heap.size := (Array.getElem?_eq_some_iff.1 hB9).1
    have hb1X : V6.heap.size + 1 < V7.heap.size + 1 := by have := (Array.getElem?_eq_some_iff.1 hy7).1; omega
    have hgX : g1 < V6.heap.size := hgg
    have hgl : g1 < w9.heap.size := Nat.lt_of_lt_of_le hgg hb69.size
    have hbN : w.heap.size ≤ V6.heap.size := hb6.size
    have HB6 := Lib.hid hb6
    clear hR6 hS6 HA6 hb67 hx7 hy7 hR7 q0 q1 hw9 hb79 hV7 HA9 he2 hgg hU HU61 HU62 hb6 HMAY HEQL HOV1 HOV2 HRT1 HRT2 hse hb5
    have hX6 : ∃ X, V6.heap.size = X := ⟨_, rfl⟩
    obtain ⟨X, hX6⟩ := hX6
    have HX6 := Lib.hid hX6
    rw [hX6] at hx9 hy9 hb69 HUND1 HUND2 hRX hX9 hb1X hgX hbN ⊢
    clear hX6
    generalize V7.heap.size + 1 = b1 at *
    refine wpIn_rangeFunc_ownF (α := {y : Nat // y < x}) rfl (by omega) (gf := 74) (lb := #[.pointer (some ⟨b1, 0, none⟩)]) rfl trivial
      (enters_of Tryd.func74 (by kernel_rfl) rfl) (downward1_in 2 (by omega) b1 g1 x cg1 hx0 hxl U w9 (cell0 hB9) hU') KpDn_t (KpDn_b hb1l hgl) (Below.refl _ _) (fun _ => rfl)
      (fun pre W => (Below X V6 W ∧ w9.heap.size ≤ W.heap.size ∧ ∃ p q : ByteArray, W.heap[X]? = some (.cells #[.string p] 9 (0, 0)) ∧ W.heap[X + 1]? = some (.cells #[.string q] 9 (0, 0))) ∧ ∀ r ∈ pre, ∀ j, j < 2 ^ (d - r.1) → undT l r.1 j = undT m r.1 j)
      (fun cd pre W => (cd = .exit 0 ∧ ∃ pre0 y k, pre = pre0 ++ [y] ∧ (∀ r ∈ pre0, ∀ j, j < 2 ^ (d - r.1) → undT l r.1 j = undT m r.1 j) ∧ k < 2 ^ (d - y.1) ∧ (∀ j, j < k → undT l y.1 j = undT m y.1 j) ∧ undT l y.1 k ≠ undT m y.1 k ∧
        W.heap[X]? = some (.cells #[.string (toB (undT l y.1 k))] 9 (0, 0)) ∧ W.heap[X + 1]? = some (.cells #[.string (toB (undT m y.1 k))] 9 (0, 0))) ∧ Below X V6 W)
      (fun pre W W' row hs hg hr => by
        obtain ⟨⟨h1, h2, p, q, h3, h4⟩, h5⟩ := hs
        exact ⟨⟨ownFrom_below (B := w9.heap.size) (Nat.le_of_eq HX6.out.symm) (by omega) pre W W' row h1 hg hr, Nat.le_trans h2 hg.size, p, q, (hg.block _ (Array.getElem?_eq_some_iff.1 h3).1 (by rintro e; have := (hr _ e.symm).1; omega)).trans h3, (hg.block _ (Array.getElem?_eq_some_iff.1 h4).1 (by rintro e; have := (hr _ e.symm).1; omega)).trans h4⟩, h5⟩)
      (fun cd pre W W' row hs hg hr => by
        obtain ⟨⟨rfl, pre0, y, k, e, h1, h2, h3, h4, h5, h6⟩, h7⟩ := hs
        exact ⟨⟨rfl, pre0, y, k, e, h1, h2, h3, h4, (hg.block _ (Array.getElem?_eq_some_iff.1 h5).1 (by rintro e; have := (hr _ e.symm).1; omega)).trans h5, (hg.block _ (Array.getElem?_eq_some_iff.1 h6).1 (by rintro e; have := (hr _ e.symm).1; omega)).trans h6⟩,
          ownFrom_below (B := w9.heap.size) (Nat.le_of_eq HX6.out.symm) (by omega) pre W W' row h7 hg hr⟩)
      ⟨⟨hb69, Nat.le_refl _, _, _, hx9, hy9⟩, by simp⟩
      (fun y => { tmps := #[.slice A n c, .slice B n c', undef, undef, .string ⟨#[]⟩, .string ⟨#[]⟩, .bool false, .pointer (some ⟨R, 0, none⟩), .pointer (some ⟨R + 1, 0, none⟩), .pointer (some ⟨X, 0, none⟩), .pointer (some ⟨X + 1, 0, none⟩), .int .i64 (y.1 : Int), U y.1, undef, .slice A n c, .int .i64 (n : Int), .slice B n c', .int .i64 (n : Int), .bool false, .bool false, .slice A n c, .bool true, .bool false, .bool false, .bool false, .slice A n c, .slice B n c', .bool false, .bool false, .slice A n c, .agg #[.slice A n c, .slice (some ⟨g1, 0, none⟩) x cg1], .slice B n c', .agg #[.slice B n c', .slice (some ⟨g2, 0, none⟩) x cg2], .agg #[.slice A n c, .slice (some ⟨g1, 0, none⟩) x cg1], .string r1, .agg #[.slice B n c', .slice (some ⟨g2, 0, none⟩) x cg2], .string r2, .bool false, .agg #[.slice A n c, .slice (some ⟨g1, 0, none⟩) x cg1], .func (.func 74) #[] #[.pointer (some ⟨b1, 0, none⟩)], .int .i64 (y.1 : Int), U y.1, undef, undef, undef, undef, undef, undef, undef, undef, undef, undef, undef, undef, undef, undef, undef, undef, undef, undef, undef], defers := [] }) ?assign ?body ?done ?stop
    case assign =>
      intro q y W K hKy
      gi_wp2
      exact hKy
    case body =>
      rintro q pre ⟨y, hy⟩ W ⟨⟨hbW, hszW, p0, p1, hxW, hyW⟩, heq⟩ hlen
      obtain ⟨gy, cy, hUy⟩ := HUF.out y hy
      have hpow := HPOW.out y
      have HEQ := Lib.hid heq
      have HU1 := HUND1.out y
      have HU2' := HUND2.out y
      obtain ⟨M, hM⟩ : ∃ M, 2 ^ (d - y) = M := ⟨_, rfl⟩
      rw [hM] at hUy hpow HU1 HU2'
      have HM := Lib.hid hM
      have HU1h := Lib.hid fun j z h1 h2 => HU1 j z hy h1 h2
      have HU2h := Lib.hid fun j z h1 h2 => HU2' j z hy h1 h2
      have hko0 := KeepsOthers.refl W
      have hkp0 : KpDn b1 g1 W W := ⟨rfl, rfl⟩
      clear heq hM HU1 HU2'
      simp only [hUy]
      gi_wp2_with fail
      gi_loopw [44] (fun i wr => ∃ (k : Nat) (p1 p2 : ByteArray), i = .int .i64 (k : Int) ∧ k ≤ M ∧ Below X V6 wr ∧ w9.heap.size ≤ wr.heap.size ∧ wr.heap[X]? = some (.cells #[.string p1] 9 (0, 0)) ∧ wr.heap[X + 1]? = some (.cells #[.string p2] 9 (0, 0)) ∧ KeepsOthers W wr ∧ KpDn b1 g1 W wr ∧ Hid (∀ j, j < k → undT l y j = undT m y j)) (fun i _ => M - (intOf i).toNat)
      case atStart => exact ⟨0, p0, p1, rfl, by omega, hbW, hszW, hxW, hyW, hko0, hkp0, Lib.hid (fun j h => by omega)⟩
      case round =>
        clear hbW hszW hxW hyW hko0 hkp0
        obtain ⟨k, p2, p3, rfl, hk, hb, hsz, hxx, hyy, hko, hkp, heqk⟩ := hrel
        by_cases hlt : k < M
        · obtain ⟨z, hz⟩ : ∃ z : ByteArray, undT l y k = z.data.toList := ⟨toB (undT l y k), (toB_list _).symm⟩
          obtain ⟨u, hu⟩ : ∃ u : ByteArray, undT m y k = u.data.toList := ⟨toB (undT m y k), (toB_list _).symm⟩
          have HU1 := HU1h.out k z hlt hz
          have HU2 := HU2h.out k u hlt hu
          have HZ := Lib.hid hz
          have HU9 := Lib.hid hu
          have hRw := (hb.block R (by omega)).trans HRV6.out
          have hSw := (hb.block (R + 1) (by omega)).trans HSV6.out
          have r0 : wr.cell? ⟨R, 0, none⟩ = some (.slice A n c) := by rw [cell_of_row _ _ _ _ _ _ hRw]; rfl
          have r1' : wr.cell? ⟨R, 1, none⟩ = some (.slice (some ⟨g1, 0, none⟩) x cg1) := by rw [cell_of_row _ _ _ _ _ _ hRw]; rfl
          have r2' : wr.cell? ⟨R + 1, 0, none⟩ = some (.slice B n c') := by rw [cell_of_row _ _ _ _ _ _ hSw]; rfl
          have r3 : wr.cell? ⟨R + 1, 1, none⟩ = some (.slice (some ⟨g2, 0, none⟩) x cg2) := by rw [cell_of_row _ _ _ _ _ _ hSw]; rfl
          clear hz hu hRw hSw
          have hkI : (k : Int) < (M : Int) := by omega
          gi_wp2_with fail
          refine Uptot.begin_round [] (fun w' : World => w'.cell? ⟨R, 0, none⟩ = some (.slice A n c) ∧ w'.cell? ⟨R, 1, none⟩ = some (.slice (some ⟨g1, 0, none⟩) x cg1) ∧ w'.cell? ⟨R + 1, 0, none⟩ = some (.slice B n c') ∧ w'.cell? ⟨R + 1, 1, none⟩ = some (.slice (some ⟨g2, 0, none⟩) x cg2)) (fun _ => True) (by kernel_rfl) (by kernel_rfl) ?_
          have hST : (wr.drew.cell? ⟨R, 0, none⟩ = some (.slice A n c) ∧ wr.drew.cell? ⟨R, 1, none⟩ = some (.slice (some ⟨g1, 0, none⟩) x cg1) ∧ wr.drew.cell? ⟨R + 1, 0, none⟩ = some (.slice B n c') ∧ wr.drew.cell? ⟨R + 1, 1, none⟩ = some (.slice (some ⟨g2, 0, none⟩) x cg2)) ∧ True := ⟨⟨r0, r1', r2', r3⟩, trivial⟩
          replace hb := hb.drew
          replace hxx : wr.drew.heap[X]? = _ := hxx
          replace hyy : wr.drew.heap[X + 1]? = _ := hyy
          replace hko := hko.trans (others_of_below (Below.drew0 wr))
          replace hkp : KpDn b1 g1 W wr.drew := hkp
          replace hsz : w9.heap.size ≤ wr.drew.heap.size := hsz
          clear r0 r1' r2' r3
          generalize hV2 : wr.drew = V2 at *
          clear hV2
          refine Uptot.takeS (i := 0) (v := ?_) rfl (by kernel_rfl) (by kernel_rfl) (by kernel_rfl) (by kernel_rfl) (fun _ _ _ h => h) (Or.inl ⟨by rfl, ?_⟩) hST ?_
          rotate_left 1
          · intro w9 hSw; (try dsimp only at hSw); obtain ⟨h91, h92, h93, h94⟩ := hSw; go_simp; (try with_reducible rfl)
          try simp only [Act.put, List.setIfInBounds_toArray, List.set_cons_zero, List.set_cons_succ]
          refine Uptot.takeS (i := 1) (v := ?_) rfl (by kernel_rfl) (by kernel_rfl) (by kernel_rfl) (by kernel_rfl) (fun _ _ _ h => h) (Or.inl ⟨by rfl, ?_⟩) hST ?_
          rotate_left 1
          · intro w9 hSw; (try dsimp only at hSw); obtain ⟨h91, h92, h93, h94⟩ := hSw; go_simp; (try with_reducible rfl)
          try simp only [Act.put, List.setIfInBounds_toArray, List.set_cons_zero, List.set_cons_succ]
          refine Uptot.takeS (i := 2) (v := ?_) rfl (by kernel_rfl) (by kernel_rfl) (by kernel_rfl) (by kernel_rfl) (fun _ _ _ h => h) (Or.inl ⟨by rfl, ?_⟩) hST ?_
          rotate_left 1
          · intro w9 hSw; (try dsimp only at hSw); obtain ⟨h91, h92, h93, h94⟩ := hSw; go_simp; (try with_reducible rfl)
          try simp only [Act.put, List.setIfInBounds_toArray, List.set_cons_zero, List.set_cons_succ]
          refine Uptot.takeS (i := 4) (v := ?_) rfl (by kernel_rfl) (by kernel_rfl) (by kernel_rfl) (by kernel_rfl) (fun _ _ _ h => h) (Or.inl ⟨by rfl, ?_⟩) hST ?_
          rotate_left 1
          · intro w9 hSw; (try dsimp only at hSw); obtain ⟨h91, h92, h93, h94⟩ := hSw; go_simp; (try with_reducible rfl)
          try simp only [Act.put, List.setIfInBounds_toArray, List.set_cons_zero, List.set_cons_succ]
          refine Uptot.takeS (i := 5) (v := ?_) rfl (by kernel_rfl) (by kernel_rfl) (by kernel_rfl) (by kernel_rfl) (fun _ _ _ h => h) (Or.inl ⟨by rfl, ?_⟩) hST ?_
          rotate_left 1
          · intro w9 hSw; (try dsimp only at hSw); obtain ⟨h91, h92, h93, h94⟩ := hSw; go_simp; (try with_reducible rfl)
          try simp only [Act.put, List.setIfInBounds_toArray, List.set_cons_zero, List.set_cons_succ]
          refine Uptot.takeS (i := 6) (v := ?_) rfl (by kernel_rfl) (by kernel_rfl) (by kernel_rfl) (by kernel_rfl) (fun _ _ _ h => h) (Or.inl ⟨by rfl, ?_⟩) hST ?_
          rotate_left 1
          · intro w9 hSw; (try dsimp only at hSw); obtain ⟨h91, h92, h93, h94⟩ := hSw; go_simp; (try with_reducible rfl)
          try simp only [Act.put, List.setIfInBounds_toArray, List.set_cons_zero, List.set_cons_succ]
          refine Uptot.one (i := 3) rfl (by kernel_rfl) (fun K hK9 => ?_)
          go_simp
          go_at_call 44
          refine (HU1 V2 hb).mono ?_
          rintro e V3 ⟨rfl, hs3⟩
          replace hST : (V3.cell? ⟨R, 0, none⟩ = some (.slice A n c) ∧ V3.cell? ⟨R, 1, none⟩ = some (.slice (some ⟨g1, 0, none⟩) x cg1) ∧ V3.cell? ⟨R + 1, 0, none⟩ = some (.slice B n c') ∧ V3.cell? ⟨R + 1, 1, none⟩ = some (.slice (some ⟨g2, 0, none⟩) x cg2)) ∧ True := ⟨⟨(hs3.cell (p := ⟨R, 0, none⟩) (block_lt_of_cell hST.1.1)).trans hST.1.1, (hs3.cell (p := ⟨R, 1, none⟩) (block_lt_of_cell hST.1.2.1)).trans hST.1.2.1, (hs3.cell (p := ⟨R + 1, 0, none⟩) (block_lt_of_cell hST.1.2.2.1)).trans hST.1.2.2.1, (hs3.cell (p := ⟨R + 1, 1, none⟩) (block_lt_of_cell hST.1.2.2.2)).trans hST.1.2.2.2⟩, trivial⟩
          replace hb := hb.next' hs3 (Nat.le_of_eq HX6.out.symm)
          replace hxx := heap_keepB hxx hs3
          replace hyy := heap_keepB hyy hs3
          replace hko := hko.trans (others_of_below hs3)
          replace hkp := KpDn_t hkp ⟨hs3.block _ (Nat.lt_of_lt_of_le hb1l hsz), hs3.block _ (Nat.lt_of_lt_of_le hgl hsz)⟩
          replace hsz := Nat.le_trans hsz hs3.size
          clear hs3
          refine hK9.out _ _ (Cond.ahead hST) ?_
          clear hK9 K
          try simp only [Act.put, List.setIfInBounds_toArray, List.set_cons_zero, List.set_cons_succ]
          refine Uptot.one (i := 7) rfl (by kernel_rfl) (fun K hK9 => ?_)
          go_simp
          go_at_call 44
          refine (HU2 V3 hb).mono ?_
          rintro e V4 ⟨rfl, hs4⟩
          replace hST : (V4.cell? ⟨R, 0, none⟩ = some (.slice A n c) ∧ V4.cell? ⟨R, 1, none⟩ = some (.slice (some ⟨g1, 0, none⟩) x cg1) ∧ V4.cell? ⟨R + 1, 0, none⟩ = some (.slice B n c') ∧ V4.cell? ⟨R + 1, 1, none⟩ = some (.slice (some ⟨g2, 0, none⟩) x cg2)) ∧ True := ⟨⟨(hs4.cell (p := ⟨R, 0, none⟩) (block_lt_of_cell hST.1.1)).trans hST.1.1, (hs4.cell (p := ⟨R, 1, none⟩) (block_lt_of_cell hST.1.2.1)).trans hST.1.2.1, (hs4.cell (p := ⟨R + 1, 0, none⟩) (block_lt_of_cell hST.1.2.2.1)).trans hST.1.2.2.1, (hs4.cell (p := ⟨R + 1, 1, none⟩) (block_lt_of_cell hST.1.2.2.2)).trans hST.1.2.2.2⟩, trivial⟩
          replace hb := hb.next' hs4 (Nat.le_of_eq HX6.out.symm)
          replace hxx := heap_keepB hxx hs4
          replace hyy := heap_keepB hyy hs4
          replace hko := hko.trans (others_of_below hs4)
          replace hkp := KpDn_t hkp ⟨hs4.block _ (Nat.lt_of_lt_of_le hb1l hsz), hs4.block _ (Nat.lt_of_lt_of_le hgl hsz)⟩
          replace hsz := Nat.le_trans hsz hs4.size
          clear hs4
          refine hK9.out _ _ (Cond.ahead hST) ?_
          clear hK9 K
          try simp only [Act.put, List.setIfInBounds_toArray, List.set_cons_zero, List.set_cons_succ]
          have z0 := cell0 hxx
          have f0 := froz0 (o := 0) hxx
          refine Uptot.one (i := 8) rfl (by kernel_rfl) (fun K hK9 => ?_)
          go_simp
          replace hST : ((V4.setCell ⟨X, 0, none⟩ (.string z)).cell? ⟨R, 0, none⟩ = some (.slice A n c) ∧ (V4.setCell ⟨X, 0, none⟩ (.string z)).cell? ⟨R, 1, none⟩ = some (.slice (some ⟨g1, 0, none⟩) x cg1) ∧ (V4.setCell ⟨X, 0, none⟩ (.string z)).cell? ⟨R + 1, 0, none⟩ = some (.slice B n c') ∧ (V4.setCell ⟨X, 0, none⟩ (.string z)).cell? ⟨R + 1, 1, none⟩ = some (.slice (some ⟨g2, 0, none⟩) x cg2)) ∧ True := ⟨⟨(World.cell?_setCell_other _ _ _ _ (by simp <;> omega)).trans hST.1.1, (World.cell?_setCell_other _ _ _ _ (by simp <;> omega)).trans hST.1.2.1, (World.cell?_setCell_other _ _ _ _ (by simp <;> omega)).trans hST.1.2.2.1, (World.cell?_setCell_other _ _ _ _ (by simp <;> omega)).trans hST.1.2.2.2⟩, trivial⟩
          replace hb := hb.setCell (p := ⟨X, 0, none⟩) (by simp <;> omega) (.string z)
          replace hxx := (heap_setCell_same V4 X 0 _ _ (.string z) hxx).trans rfl
          replace hyy := (Below.heap_setCell V4 ⟨X, 0, none⟩ (.string z) (X + 1) (by simp)).trans hyy
          replace hko := hko.trans (KeepsOthers.setCell V4 ⟨X, 0, none⟩ (.string z))
          replace hkp := KpDn_t hkp ⟨Below.heap_setCell V4 ⟨X, 0, none⟩ (.string z) b1 (by simp only []; omega), Below.heap_setCell V4 ⟨X, 0, none⟩ (.string z) g1 (by simp only []; omega)⟩
          replace hsz : w9.heap.size ≤ (V4.setCell ⟨X, 0, none⟩ (.string z)).heap.size := by simpa using hsz
          clear z0 f0
          refine hK9.out _ _ (Cond.ahead hST) ?_
          clear hK9 K
          try simp only [Act.put, List.setIfInBounds_toArray, List.set_cons_zero, List.set_cons_succ]
          have z1 := cell0 hyy
          have f1 := froz0 (o := 0) hyy
          refine Uptot.one (i := 9) rfl (by kernel_rfl) (fun K hK9 => ?_)
          go_simp
          replace hST : (((V4.setCell ⟨X, 0, none⟩ (.string z)).setCell ⟨X + 1, 0, none⟩ (.string u)).cell? ⟨R, 0, none⟩ = some (.slice A n c) ∧ ((V4.setCell ⟨X, 0, none⟩ (.string z)).setCell ⟨X + 1, 0, none⟩ (.string u)).cell? ⟨R, 1, none⟩ = some (.slice (some ⟨g1, 0, none⟩) x cg1) ∧ ((V4.setCell ⟨X, 0, none⟩ (.string z)).setCell ⟨X + 1, 0, none⟩ (.string u)).cell? ⟨R + 1, 0, none⟩ = some (.slice B n c') ∧ ((V4.setCell ⟨X, 0, none⟩ (.string z)).setCell ⟨X + 1, 0, none⟩ (.string u)).cell? ⟨R + 1, 1, none⟩ = some (.slice (some ⟨g2, 0, none⟩) x cg2)) ∧ True := ⟨⟨(World.cell?_setCell_other _ _ _ _ (by simp <;> omega)).trans hST.1.1, (World.cell?_setCell_other _ _ _ _ (by simp <;> omega)).trans hST.1.2.1, (World.cell?_setCell_other _ _ _ _ (by simp <;> omega)).trans hST.1.2.2.1, (World.cell?_setCell_other _ _ _ _ (by simp <;> omega)).trans hST.1.2.2.2⟩, trivial⟩
          replace hb := hb.setCell (p := ⟨X + 1, 0, none⟩) (by simp <;> omega) (.string u)
          replace hyy := (heap_setCell_same (V4.setCell ⟨X, 0, none⟩ (.string z)) (X + 1) 0 _ _ (.string u) hyy).trans rfl
          replace hxx := (Below.heap_setCell (V4.setCell ⟨X, 0, none⟩ (.string z)) ⟨X + 1, 0, none⟩ (.string u) X (by simp)).trans hxx
          replace hko := hko.trans (KeepsOthers.setCell (V4.setCell ⟨X, 0, none⟩ (.string z)) ⟨X + 1, 0, none⟩ (.string u))
          replace hkp := KpDn_t hkp ⟨Below.heap_setCell (V4.setCell ⟨X, 0, none⟩ (.string z)) ⟨X + 1, 0, none⟩ (.string u) b1 (by simp only []; omega), Below.heap_setCell (V4.setCell ⟨X, 0, none⟩ (.string z)) ⟨X + 1, 0, none⟩ (.string u) g1 (by simp only []; omega)⟩
          replace hsz : w9.heap.size ≤ ((V4.setCell ⟨X, 0, none⟩ (.string z)).setCell ⟨X + 1, 0, none⟩ (.string u)).heap.size := by simpa using hsz
          clear z1 f1
          refine hK9.out _ _ (Cond.ahead hST) ?_
          clear hK9 K
          try simp only [Act.put, List.setIfInBounds_toArray, List.set_cons_zero, List.set_cons_succ]
          refine Uptot.done (by kernel_rfl) ?_ _
          refine plainEnd_in ?_
          clear hST
          generalize hF : ((V4.setCell ⟨X, 0, none⟩ (.string z)).setCell ⟨X + 1, 0, none⟩ (.string u)) = F at *
          clear hF
          all_goals
            have z0 := cell0 hxx
            have z1 := cell0 hyy
            by_cases hzu : z = u
            · have hse : (z.toList == u.toList) = true := by rw [str_eq, decide_eq_true hzu]
              have HK1 : Hid (∀ j, j < k + 1 → undT l y j = undT m y j) := Lib.hid fun j hj => by
                rcases (by omega : j < k ∨ j = k) with h | rfl
                · exact heqk.out j h
                · rw [HZ.out, HU9.out, hzu]
              gi_wp2
              go_roundw
              case rel => exact ⟨k + 1, z, u, by go_num, by omega, hb, hsz, hxx, hyy, hko, hkp, HK1⟩
              case measure => simp [intOf] <;> omega
            · have hse : (z.toList == u.toList) = false := by rw [str_eq, decide_eq_false hzu]
              gi_wp2
              refine ⟨hko, ⟨rfl, pre, ⟨y, hy⟩, k, rfl, HEQ.out, by rw [HM.out]; exact hlt, heqk.out, ?_, ?_, ?_⟩, hb⟩
              · show undT l y k ≠ undT m y k
                rw [HZ.out, HU9.out]
                exact fun e => hzu (ByteArray.ext (Array.toList_inj.1 e))
              · show _ = some (Obj.cells #[.string (toB (undT l y k))] 9 (0, 0))
                rw [HZ.out, toB_eq]
                exact hxx
              · show _ = some (Obj.cells #[.string (toB (undT m y k))] 9 (0, 0))
                rw [HU9.out, toB_eq]
                exact hyy
        · obtain rfl : k = M := by omega
          gi_wp2
          refine ⟨hko, hkp, ⟨hb, hsz, p2, p3, hxx, hyy⟩, fun r hr j hj => ?_⟩
          rcases List.mem_append.1 hr with h | h
          · exact HEQ.out r h j hj
          · obtain rfl := List.mem_singleton.1 h
            exact heqk.out j (by rw [← HM.out]; exact hj)
    case done =>
      rintro D xs W hD rfl ⟨_, heq⟩ hKd
      exact (HEND.out fun j hj => heq ⟨0, hx0⟩ (downS_mem hx0 x hx0 (by omega)) j hj).elim
    case stop =>
      rintro D cd pre W hD hpre ⟨⟨rfl, pre0, y, k, rfl, h1, h2, h3, h4, h5, h6⟩, h7⟩ hKd
      obtain ⟨k0, hk, hk2, hk3⟩ := downS_split hx0 hpre
      have HANS2 := Lib.hid (HFOUND.out y.1 k y.2 (fun r hr1 hr2 => h1 ⟨r, hr2⟩ (by rw [hk2]; exact downS_mem hx0 k0 hr2 (by omega))) h2 h3 h4)
      obtain ⟨z, hz⟩ : ∃ z : ByteArray, toB (undT l y.1 k) = z := ⟨_, rfl⟩
      obtain ⟨u, hu⟩ : ∃ u : ByteArray, toB (undT m y.1 k) = u := ⟨_, rfl⟩
      rw [hz] at h5
      rw [hu] at h6
      have HZ := Lib.hid hz
      have HU9 := Lib.hid hu
      have z0 := cell0 h5
      have z1 := cell0 h6
      clear hk2 hk3 h1 h2 h3 h4 hz hu hpre
      have hb7 := HB6.out.trans (h7.mono hbN)
      gi_wp2_with fail
      refine wpIn_wide.2 (wp_region_quiet_below (by kernel_rfl) (by kernel_rfl) ?_)
      have hl0 : ∀ d' os, (Go.Sort.grow (redrawn W d') os).cell? ⟨X, 0, none⟩ = some (.string z) := cell_regrown z0
      have hl1 : ∀ d' os, (Go.Sort.grow (redrawn W d') os).cell? ⟨X + 1, 0, none⟩ = some (.string u) := cell_regrown z1
      repeat (quiet_step (fail))
      refine wpQuiet_nil ?_
      intro _ hw'
      obtain ⟨⟨dq, osq⟩, hw''⟩ := hw'
      subst hw''
      have hq := below_regrown W dq osq
      have hb8 := hb7.trans (hq.mono hb7.size)
      have hKd2 := heap_keepB hKd hq
      clear hl0 hl1 z0 z1
      generalize Go.Sort.grow (redrawn W dq) osq = W2 at *
      gi_wp2
      rw [Exit.noGoto_ret]
      have hbd : Below w.heap.size w (W2.putObj D (.deferred none)) := hb8.grown (grownBy_putObj' W2 D _) (by have := hb8.size; omega) (fun k e => by cases e; omega)
      refine ⟨by simp, .inl ⟨_, _, rfl, run_takeDeferred hKd2, ?_⟩⟩
      exact ⟨_, results_tmp3 rfl _ _ _, by rw [HANS2.out]; simp only [outV]; rw [HZ.out, HU9.out]; rfl, hbd⟩
end Go.Proofs.YtgcohoonhklkbaaDoor

/-
  What the program's own words of tree tell (premises of the laws' walks), and roots of the laws over them.
-/
namespace Go.Proofs.YtgcohoonhklkbaaDoor
open Go.RowKit Go.Kx Go.Trm
set_option maxRecDepth 20000

/-- The program's words; N: the texts' greatest size. -/
structure TreeW (N : Nat) : Prop where
  leaf : ∀ (s d : ByteArray), s.size ≤ N → leafL sumL s.data.toList = d.data.toList → ∀ w, Consts w → Calls Tryd.prog 14 #[.string s] w fun e w' => e = .returned (.string d) ∧ Below w.heap.size w w'
  node : ∀ (a b d : ByteArray), a.size ≤ 900 → b.size ≤ 900 → nodeL sumL a.data.toList b.data.toList = d.data.toList → ∀ w, Consts w → Calls Tryd.prog 16 #[.string a, .string b] w fun e w' => e = .returned (.string d) ∧ Below w.heap.size w w'
  root : ∀ (l : List ByteArray) (A : Option Addr) (c : Nat) (r : ByteArray) (k : Int), l.length ≤ 1200 → (∀ s ∈ l, s.size ≤ N) → rootR l = (r, k) → ∀ w, Consts w → Sl w A (strsV l) →
    Calls Tryd.prog 9 #[.slice A l.length c] w fun e w' => e = .returned (.tuple #[.string r, .int .i64 k]) ∧ Below w.heap.size w w'
  path : ∀ (l : List ByteArray) (A : Option Addr) (c : Nat) (i : Int) (ps : List ByteArray) (k : Int), l.length ≤ 1200 → (∀ s ∈ l, s.size ≤ N) → pathR l i = (ps, k) → ∀ w, Consts w → Sl w A (strsV l) →
    Calls Tryd.prog 11 #[.slice A l.length c, .int .i64 i] w fun e w' => PathP ps k w e w'
  climb : ∀ (i : Int) (s : ByteArray) (path : List ByteArray) (A : Option Addr) (c : Nat) (r : ByteArray) (k : Int), path.length ≤ 1200 → s.size ≤ N → climbR i s path = (r, k) → ∀ w, Consts w → Sl w A (strsV path) →
    Calls Tryd.prog 19 #[.int .i64 i, .string s, .slice A path.length c] w fun e w' => e = .returned (.tuple #[.string r, .int .i64 k]) ∧ Below w.heap.size w w'
  check : ∀ (root : ByteArray) (i : Int) (s : ByteArray) (path : List ByteArray) (A : Option Addr) (c : Nat) (r : ByteArray) (k : Int) (b : Bool), path.length ≤ 1200 → s.size ≤ N → climbR i s path = (r, k) → b = (decide (k = 0) && decide (r = root)) → ∀ w, Consts w → Sl w A (strsV path) →
    Calls Tryd.prog 21 #[.string root, .int .i64 i, .string s, .slice A path.length c] w fun e w' => e = .returned (.bool b) ∧ Below w.heap.size w w'
  collide : ∀ (l m : List ByteArray) (A B : Option Addr) (c c' : Nat) (ans : Option (Txt × Txt)), l.length ≤ 1200 → m.length ≤ 1200 → (∀ s ∈ l, s.size ≤ N) → (∀ s ∈ m, s.size ≤ N) → colA l m = ans → ∀ w, Consts w → Sl w A (strsV l) → Sl w B (strsV m) →
    Calls Tryd.prog 23 #[.slice A l.length c, .slice B m.length c'] w fun e w' => e = .returned (outV ans) ∧ Below w.heap.size w w'
  trace : ∀ (l : List ByteArray) (i : Int) (s : ByteArray) (path : List ByteArray) (A B : Option Addr) (c c' : Nat) (ans : Option (Txt × Txt)), l.length ≤ 1200 → path.length ≤ 1200 → (∀ s ∈ l, s.size ≤ N) → s.size ≤ N → trcA l i s path = ans → ∀ w, Consts w → Sl w A (strsV l) → Sl w B (strsV path) →
    Calls Tryd.prog 25 #[.slice A l.length c, .int .i64 i, .string s, .slice B path.length c'] w fun e w' => e = .returned (outV ans) ∧ Below w.heap.size w w'

/-! ### the document's rows -/
def tA : ByteArray := ⟨#[97]⟩
def tB : ByteArray := ⟨#[98]⟩
def tC : ByteArray := ⟨#[99]⟩
theorem may2 : mayN [tA, tB].length := ⟨1, by omega, rfl⟩
theorem may3 : ¬ mayN [tA, tB, tC].length := by
  rintro ⟨d, -, h⟩
  have h2 : 3 = 2 ^ d := h
  rcases d with _ | _ | d
  · omega
  · omega
  · rw [Nat.pow_succ, Nat.pow_succ] at h2
    omega
/-- The digests of the document's rows. -/
theorem rows_doc (da db dr : ByteArray) (ha : leafL sumL tA.data.toList = da.data.toList) (hb : leafL sumL tB.data.toList = db.data.toList) (hr : nodeL sumL da.data.toList db.data.toList = dr.data.toList) :
    rootR [tA, tB] = (dr, 0) ∧ pathR [tA, tB] 1 = ([da], 0) ∧ climbR 1 tB [da] = (dr, 0) ∧ rootR [tA, tB, tC] = (⟨#[]⟩, 1) ∧ pathR [tA, tB, tC] 0 = ([], 1) := by
  have hdaz : da.size = 32 := by
    have h := sumT_length (ofLeafL tA.data.toList)
    rw [show sumL (ofLeafL tA.data.toList) = da.data.toList from ha] at h
    simpa using h
  have hrow : rowL sumL (txtsL [tA, tB]) 0 = [da.data.toList, db.data.toList] := by rw [← ha, ← hb]; rfl
  refine ⟨?_, ?_, ?_, rootR_no may3, pathR_no fun h => may3 h.1⟩
  · rw [rootR_yes (d := 1) rfl (by omega), rootL, rowL, hrow]
    simp only [pairsL, List.getD, List.getElem?_cons_zero, Option.getD_some]
    rw [hr, toB_eq]
  · have h := pathR_yes (l := [tA, tB]) (d := 1) (n := 1) rfl (by omega) (by simp)
    have h2 : pathL sumL (txtsL [tA, tB]) 1 1 = [da.data.toList] := by
      have e : (List.range 1) = [0] := rfl
      have ep : partN (1 / 2 ^ 0) = 0 := rfl
      rw [pathL, e, List.map_cons, List.map_nil, ep, hrow]
      rfl
    rw [h2, List.map_cons, List.map_nil, toB_eq] at h
    exact h
  · rw [climbR_yes (i := 1) ⟨by simp, by omega, by simp, by simp [hdaz]⟩]
    have h2 : climbL sumL (1 : Int).toNat (ofLeafL tB.data.toList) (txtsL [da]) = dr.data.toList := by
      rw [← hr, ← hb]
      rfl
    rw [h2, toB_eq]
set_option maxHeartbeats 4000000 in
theorem roots_true {N : Nat} (HT : TreeW N) (hN : 1 ≤ N) (w : World) (hK : Consts w) :
    Calls Tryd.prog 18 #[] w fun e w' => e = .returned (.bool true) ∧ Below w.heap.size w w' := by
  obtain ⟨da, ha⟩ : ∃ d : ByteArray, leafL sumL tA.data.toList = d.data.toList := ⟨toB (leafL sumL tA.data.toList), (toB_list _).symm⟩
  obtain ⟨db, hb⟩ : ∃ d : ByteArray, leafL sumL tB.data.toList = d.data.toList := ⟨toB (leafL sumL tB.data.toList), (toB_list _).symm⟩
  obtain ⟨dr, hr⟩ : ∃ d : ByteArray, nodeL sumL da.data.toList db.data.toList = d.data.toList := ⟨toB (nodeL sumL da.data.toList db.data.toList), (toB_list _).symm⟩
  obtain ⟨h1, h2, h3, h4, h5⟩ := rows_doc da db dr ha hb hr
  have hdaz : da.size = 32 := by
    have h := sumT_length (ofLeafL tA.data.toList)
    rw [show sumL (ofLeafL tA.data.toList) = da.data.toList from ha] at h
    simpa using h
  have hdbz : db.size = 32 := by
    have h := sumT_length (ofLeafL tB.data.toList)
    rw [show sumL (ofLeafL tB.data.toList) = db.data.toList from hb] at h
    simpa using h
  have hdrz : dr.size = 32 := by
    have h := sumT_length (ofNodeL da.data.toList db.data.toList)
    rw [show sumL (ofNodeL da.data.toList db.data.toList) = dr.data.toList from hr] at h
    simpa using h
  have hs2 : ∀ s ∈ [tA, tB], s.size ≤ N := fun s hs => by
    have : s.size = 1 := by
      rcases List.mem_cons.1 hs with rfl | hs
      · rfl
      · rcases List.mem_cons.1 hs with rfl | hs
        · rfl
        · cases hs
    omega
  have hs3 : ∀ s ∈ [tA, tB, tC], s.size ≤ N := fun s hs => by
    rcases List.mem_cons.1 hs with rfl | hs
    · exact hN
    · rcases List.mem_cons.1 hs with rfl | hs
      · exact hN
      · rcases List.mem_cons.1 hs with rfl | hs
        · exact hN
        · cases hs
  have R1 := Lib.hid fun A c => HT.root [tA, tB] A c dr 0 (by simp) hs2 h1
  have R2 := Lib.hid fun A c => HT.path [tA, tB] A c 1 [da] 0 (by simp) hs2 h2
  have R3 := Lib.hid fun A c => HT.climb 1 tB [da] A c dr 0 (by simp) (by exact hN) h3
  have R4 := Lib.hid fun A c => HT.root [tA, tB, tC] A c ⟨#[]⟩ 1 (by simp) hs3 h4
  have R5 := Lib.hid fun A c => HT.path [tA, tB, tC] A c 0 [] 1 (by simp) hs3 h5
  have R6 := Lib.hid fun A c => HT.check dr 1 tB [da] A c dr 0 true (by simp) (by exact hN) h3 (by simp)
  have R7 := Lib.hid (HT.leaf tA da (by exact hN) ha)
  have R8 := Lib.hid (HT.leaf tB db (by exact hN) hb)
  have R9 := Lib.hid (HT.node da db dr (by omega) (by omega) hr)
  clear h1 h2 h3 h4 h5 ha hb hr hs2 hs3 HT
  go_enter Tryd.func18, Tryd.ntmps18
  go_wp2_with fail
  have hb1 := Below.alloc0 w (.cells #[.string ⟨#[97]⟩, .string ⟨#[98]⟩] 9)
  have hS1 : Sl (w.alloc (.cells #[.string ⟨#[97]⟩, .string ⟨#[98]⟩] 9)) (some ⟨w.heap.size, 0, none⟩) (strsV [tA, tB]) := Sl.new' rfl
  have hc1 := R1.out _ 2 _ (hK.keep hb1) hS1
  refine hc1.mono ?_
  rintro e w1 ⟨rfl, hq1⟩
  have hb2 := hb1.next hq1
  have hS2 := hS1.keep hq1
  clear hc1 hq1 hb1 hS1
  go_wp2_with fail
  have hc2 := R2.out _ 2 _ (hK.keep hb2) hS2
  refine hc2.mono ?_
  rintro e w2 ⟨v, rfl, hown, hq2⟩
  obtain ⟨A1, c1, rfl, hA1⟩ := own_sl hown
  have hb3 := hb2.next hq2
  clear hc2 hq2 hb2 hS2 hown
  go_wp2_with fail
  have hc3 := R3.out A1 c1 _ (hK.keep hb3) hA1
  refine hc3.mono ?_
  rintro e w3 ⟨rfl, hq3⟩
  have hb4 := hb3.next hq3
  have hA3 := hA1.keep hq3
  clear hc3 hq3 hb3 hA1
  go_wp2_with fail
  have hq4 := Below.alloc0 w3 (.cells #[.string ⟨#[97]⟩, .string ⟨#[98]⟩, .string ⟨#[99]⟩] 9)
  have hS4 : Sl (w3.alloc (.cells #[.string ⟨#[97]⟩, .string ⟨#[98]⟩, .string ⟨#[99]⟩] 9)) (some ⟨w3.heap.size, 0, none⟩) (strsV [tA, tB, tC]) := Sl.new' rfl
  have hc4 := R4.out _ 3 _ (hK.keep (hb4.next hq4)) hS4
  refine hc4.mono ?_
  rintro e w4 ⟨rfl, hq4'⟩
  have hb5 := (hb4.next hq4).next hq4'
  have hA4 := hA3.keep (hq4.next hq4')
  clear hc4 hq4 hq4' hb4 hA3 hS4
  go_wp2_with fail
  have hq5 := Below.alloc0 w4 (.cells #[.string ⟨#[97]⟩, .string ⟨#[98]⟩, .string ⟨#[99]⟩] 9)
  have hS5 : Sl (w4.alloc (.cells #[.string ⟨#[97]⟩, .string ⟨#[98]⟩, .string ⟨#[99]⟩] 9)) (some ⟨w4.heap.size, 0, none⟩) (strsV [tA, tB, tC]) := Sl.new' rfl
  have hc5 := R5.out _ 3 _ (hK.keep (hb5.next hq5)) hS5
  refine hc5.mono ?_
  rintro e w5 ⟨v, rfl, hown, hq5'⟩
  obtain ⟨A2, c2, rfl, -⟩ := own_sl hown
  have hb6 := (hb5.next hq5).next hq5'
  have hA5 := hA4.keep (hq5.next hq5')
  clear hc5 hq5 hq5' hb5 hA4 hS5 hown
  have hd32 : ((dr.size : Int) == 32) = true := by rw [beq_iff_eq]; omega
  go_wp2_with fail
  refine (R7.out _ (hK.keep hb6)).mono ?_
  rintro e w6 ⟨rfl, hq6⟩
  have hb7 := hb6.next hq6
  have hA6 := hA5.keep hq6
  clear hq6 hb6 hA5
  go_wp2_with fail
  refine (R8.out _ (hK.keep hb7)).mono ?_
  rintro e w7 ⟨rfl, hq7⟩
  have hb8 := hb7.next hq7
  have hA7 := hA6.keep hq7
  clear hq7 hb7 hA6
  go_wp2_with fail
  refine (R9.out _ (hK.keep hb8)).mono ?_
  rintro e w8 ⟨rfl, hq8⟩
  have hb9 := hb8.next hq8
  have hA8 := hA7.keep hq8
  clear hq8 hb8 hA7
  go_wp2_with fail
  refine (R7.out _ (hK.keep hb9)).mono ?_
  rintro e w9 ⟨rfl, hq9⟩
  have hb10 := hb9.next hq9
  have hA9 := hA8.keep hq9
  clear hq9 hb9 hA8
  go_wp2_with fail
  have hq10 := Below.alloc0 w9 (.cells #[.string da] 9)
  have hS10 : Sl (w9.alloc (.cells #[.string da] 9)) (some ⟨w9.heap.size, 0, none⟩) (strsV [da]) := Sl.new' rfl
  have htx := texts_any A1 _ c1 1 [da] [da] _ (by simp) true (by simp) (hA9.keep hq10) hS10
  refine htx.mono ?_
  rintro e w10 ⟨rfl, n, rfl⟩
  have hb11 := (hb10.next hq10).next (Below.drewN0 _ n)
  have hA10 := (hA9.keep hq10).keep (Below.drewN0 _ n)
  clear htx hS10 hq10 hb10 hA9
  generalize (w9.alloc _).drewN n = w11 at *
  go_wp2_with fail
  refine (R6.out A1 c1 _ (hK.keep hb11) hA10).mono ?_
  rintro e w12 ⟨rfl, hq12⟩
  have hb12 := hb11.next hq12
  clear hq12 hb11 hA10
  go_wp2
  go_ret
  exact ⟨rfl, hb12⟩
end Go.Proofs.YtgcohoonhklkbaaDoor

/-
  tree: the program's words as the laws' walks want them (of texts that have digests), and the contract of Trace of any texts.
-/
namespace Go.Proofs.YtgcohoonhklkbaaDoor
open Go.RowKit Go.Kx Go.Trm
set_option maxRecDepth 20000

theorem ttrace_any (HD : DSumH) (l : List ByteArray) (hz : l.length ≤ 9223372036854775807) (hsl : ∀ s ∈ l, s.size ≤ 140737488351232) (i : Int) (s : ByteArray) (hs : s.size ≤ 140737488351232) (path : List ByteArray) (hzp : path.length ≤ 9223372036854775807) (A B : Option Addr) (c c' : Nat)
    (ans : Option (Txt × Txt)) (hans : trcH l i s path = ans) (w : World) (hK : Consts w) (hA : Sl w A (strsV l)) (hB : Sl w B (strsV path)) :
    Calls Tryd.prog 25 #[.slice A l.length c, .int .i64 i, .string s, .slice B path.length c'] w fun e w' => e = .returned (outV ans) ∧ Below w.heap.size w w' := by
  by_cases h : mayN l.length
  · obtain ⟨d, hd10, hd⟩ := h
    exact ttrace_main HD l d hd hd10 hsl i s hs path hzp A B c c' ans hans w hK hA hB
  · rw [trcH_no fun n d _ ho => h ⟨d, ho.2.1, ho.1⟩] at hans
    subst hans
    exact trace_may l i s path A B c c' hz h w
theorem tcollide_any (HD : DSumH) (l m : List ByteArray) (hz : l.length ≤ 9223372036854775807) (hsl : ∀ s ∈ l, s.size ≤ 999999999) (hsm : ∀ s ∈ m, s.size ≤ 999999999) (A B : Option Addr) (c c' : Nat)
    (ans : Option (Txt × Txt)) (hans : colA l m = ans) (w : World) (hK : Consts w) (hA : Sl w A (strsV l)) (hB : Sl w B (strsV m)) :
    Calls Tryd.prog 23 #[.slice A l.length c, .slice B m.length c'] w fun e w' => e = .returned (outV ans) ∧ Below w.heap.size w w' := by
  by_cases h : l.length = m.length ∧ mayN l.length ∧ l ≠ m
  · obtain ⟨hlm, ⟨d, hd10, hd⟩, hne⟩ := h
    exact tcollide_main HD l m d hd hlm hd10 hne hsl hsm A B c c' ans hans w hK hA hB
  · rw [colA_no fun d ho => h ⟨ho.1, ⟨d, ho.2.2.1, ho.2.1⟩, ho.2.2.2.1⟩] at hans
    subst hans
    exact tcollide_early l m A B c c' hz h w hA hB

/-! ### of texts that have digests -/
theorem rootH_same (l : List ByteArray) (hl : ∀ s ∈ l, s.size ≤ 999999999) : rootH l = rootR l := by
  unfold rootH rootR
  rw [root_same l hl]
theorem pathH_same (l : List ByteArray) (hl : ∀ s ∈ l, s.size ≤ 999999999) (i : Int) : pathH l i = pathR l i := by
  unfold pathH pathR
  rw [path_same l hl]
theorem leaf_le (s : ByteArray) (hs : s.size ≤ 999999999) : (ofLeafL s.data.toList).length ≤ 1000000000 := by
  have : s.data.toList.length = s.size := by simp
  simp only [ofLeafL, List.length_cons]
  omega
theorem ok_le {i : Int} {path : List ByteArray} (h : wayOk i path) : ∀ p ∈ txtsL path, p.length ≤ 32 := fun p hp => by
  obtain ⟨q, hq, rfl⟩ := List.mem_map.1 hp
  have := h.2.2.2 q hq
  simp
  omega
theorem climbH_same (i : Int) (s : ByteArray) (hs : s.size ≤ 999999999) (path : List ByteArray) : climbH i s path = climbR i s path := by
  by_cases h : wayOk i path
  · rw [climbH_yes h, climbR_yes h, (ways_same _ _ _ (leaf_le s hs) (ok_le h)).2]
  · rw [climbH_no h, climbR_no h]
theorem path_le (l : List Txt) (i d : Nat) : ∀ p ∈ pathL sumL l i d, p.length ≤ 32 := fun p hp => by
  obtain ⟨q, -, rfl⟩ := List.mem_map.1 hp
  rw [List.getD]
  cases h : (rowL sumL l q)[partN (i / 2 ^ q)]? with
  | none => simp
  | some x => exact rows_le l q x (List.mem_of_getElem? h)
theorem trcHok_iff {l : List ByteArray} (hl : ∀ s ∈ l, s.size ≤ 999999999) {n d : Nat} {s : ByteArray} (hs : s.size ≤ 999999999) {path : List ByteArray} : trcHok l n d s path ↔ trcOk l n d s path := by
  constructor
  · rintro ⟨h1, h2, h3, h4, h5, h6, h7⟩
    exact ⟨h1, h2, h3, h4, h5, h6, by rw [← root_same l hl, ← (ways_same _ _ _ (leaf_le s hs) (ok_le h6)).2, h7]⟩
  · rintro ⟨h1, h2, h3, h4, h5, h6, h7⟩
    exact ⟨h1, h2, h3, h4, h5, h6, by rw [root_same l hl, (ways_same _ _ _ (leaf_le s hs) (ok_le h6)).2, h7]⟩
theorem trcH_same (l : List ByteArray) (hl : ∀ s ∈ l, s.size ≤ 999999999) (i : Int) (s : ByteArray) (hs : s.size ≤ 999999999) (path : List ByteArray) : trcH l i s path = trcA l i s path := by
  by_cases h : 0 ≤ i ∧ trcOk l i.toNat path.length s path
  · obtain ⟨h0, h⟩ := h
    obtain ⟨n, rfl⟩ := Int.eq_ofNat_of_zero_le h0
    rw [Int.toNat_natCast] at h
    have hx : ((txtsL l).getD n []).length ≤ 999999999 := by
      rw [txtsL_get l h.2.2.1]
      have := hl _ (List.getElem_mem h.2.2.1)
      simpa using this
    rw [trcH_yes ((trcHok_iff hl hs).2 h), trcA_yes h, wayA, wayB, (ways_same _ _ _ (leaf_le s hs) (ok_le h.2.2.2.2.2.1)).1, path_same l hl, (ways_same _ _ _ (by simp only [ofLeafL, List.length_cons]; omega) (path_le _ _ _)).1]
  · rw [trcA, if_neg h, trcH, if_neg]
    rintro ⟨h1, h2⟩
    exact h ⟨h1, (trcHok_iff hl hs).1 h2⟩
theorem treeW_paid (HD : DSumH) : TreeW 1000 where
  leaf s d hs hd w hK := tleaf_any HD s d (by omega) (by rw [← hd, leafL, leafL, sumH_short (leaf_le s (by omega))]) w hK
  node a b d ha hb hd w hK := tnode_any HD a b d (by omega) (by omega) (by
    rw [← hd, nodeL, nodeL, sumH_short]
    have h1 : a.data.toList.length = a.size := by simp
    have h2 : b.data.toList.length = b.size := by simp
    simp only [ofNodeL, List.length_cons, List.length_append]
    omega) w hK
  root l A c r k hz hs hr w hK hA := troot_any HD l A c (by omega) (fun s h => by have := hs s h; omega) r k (by rw [rootH_same l fun s h => by have := hs s h; omega]; exact hr) w hK hA
  path l A c i ps k hz hs hr w hK hA := tpath_any HD l A c (by omega) (fun s h => by have := hs s h; omega) i ps k (by rw [pathH_same l fun s h => by have := hs s h; omega]; exact hr) w hK hA
  climb i s path A c r k hz hs hr w hK hA := tclimb_any HD i s (by omega) path A c (by omega) r k (by rw [climbH_same i s (by omega)]; exact hr) w hK hA
  check root i s path A c r k b hz hs hr hb w hK hA := tcheck_any HD root i s (by omega) path A c (by omega) r k (by rw [climbH_same i s (by omega)]; exact hr) b hb w hK hA
  collide l m A B c c' ans hz hz2 hs hs2 hans w hK hA hB := tcollide_any HD l m (by omega) (fun s h => by have := hs s h; omega) (fun s h => by have := hs2 s h; omega) A B c c' ans hans w hK hA hB
  trace l i s path A B c c' ans hz hz2 hs hs2 hans w hK hA hB := ttrace_any HD l (by omega) (fun s h => by have := hs s h; omega) i s (by omega) path (by omega) A B c c' ans (by rw [trcH_same l (fun s h => by have := hs s h; omega) i s (by omega)]; exact hans) w hK hA hB
end Go.Proofs.YtgcohoonhklkbaaDoor

/-
  TreeClimbs: the law's walk over the program's words.
-/
namespace Go.Proofs.YtgcohoonhklkbaaDoor
open Go.RowKit Go.Kx Go.Trm
set_option maxRecDepth 20000

theorem not_big {l : List ByteArray} (h : ¬ bigN l) : l.length ≤ 1100 ∧ ∀ s ∈ l, s.size ≤ 200 :=
  ⟨Nat.le_of_not_lt fun h2 => h (.inr (.inl h2)), fun s hs => Nat.le_of_not_lt fun h2 => h (.inr (.inr ⟨s, hs, h2⟩))⟩
set_option maxHeartbeats 2000000 in
theorem climbs_walk {N : Nat} (HT : TreeW N) (hN : 1000 ≤ N) (HS : RSum) (root : ByteArray) (i : Int) (s : ByteArray) (path : List ByteArray) (A : Option Addr) (c : Nat) (hr0 : root.size ≤ 9223372036854775807) (hs0 : s.size ≤ 9223372036854775807)
    (hz : path.length ≤ 9223372036854775807) (hzs : ∀ s ∈ path, s.size ≤ 9223372036854775807) (W : World) (hA : Sl W A (strsV path)) (hK : Consts W) :
    Calls Tryd.prog 4 #[.string root, .int .i64 i, .string s, .slice A path.length c] W fun e W' => e = .returned (.bool true) ∧ Below W.heap.size W W' := by
  have hbig := rbig_any path hz hzs A c W hA
  by_cases h1 : 100 < root.size
  · have t1 : (100 : Int) < (root.size : Int) := by omega
    clear hbig hzs hA
    generalize path.length = n at *
    go_enter Tryd.func4, Tryd.ntmps4
    go_wp2
    go_ret
    exact ⟨rfl, Below.refl _ _⟩
  have t1 : ¬ (100 : Int) < (root.size : Int) := by omega
  by_cases h2 : 300 < s.size
  · have t2 : (300 : Int) < (s.size : Int) := by omega
    clear hbig hzs hA
    generalize path.length = n at *
    go_enter Tryd.func4, Tryd.ntmps4
    go_wp2
    go_ret
    exact ⟨rfl, Below.refl _ _⟩
  have t2 : ¬ (300 : Int) < (s.size : Int) := by omega
  by_cases h3 : bigN path
  · generalize path.length = n at *
    go_enter Tryd.func4, Tryd.ntmps4
    go_wp2_with fail
    refine hbig.mono ?_
    rintro e w1 ⟨h, rfl⟩
    rcases h with ⟨-, rfl⟩ | ⟨h4, -⟩
    rotate_left
    · exact absurd h3 h4
    go_wp2
    go_ret
    exact ⟨rfl, Below.refl _ _⟩
  obtain ⟨g1, g2⟩ := not_big h3
  obtain ⟨r, k, hr⟩ : ∃ r k, climbR i s path = (r, k) := ⟨_, _, rfl⟩
  obtain ⟨b, hb⟩ : ∃ b : Bool, b = (decide (k = 0) && decide (r = root)) := ⟨_, rfl⟩
  have R1 := HT.climb i s path A c r k (by omega) (by omega) hr
  have R2 := rclimb_any HS i s path A c (by omega) (by omega) r k hr
  have R3 := HT.check root i s path A c r k b (by omega) (by omega) hr hb
  have R4 := rcheck_any HS root i s path A c (by omega) (by omega) r k hr b hb
  have R5 := fun V => roots_true HT (by omega) V
  have HA := Lib.hid hA
  have H1 := Lib.hid R1
  have H2 := Lib.hid R2
  have H3 := Lib.hid R3
  have H4 := Lib.hid R4
  have H5 := Lib.hid R5
  have H3B := Lib.hid h3
  clear R1 R2 R3 R4 R5 hb hr g2 h3 hzs hA HT HS
  generalize path.length = n at *
  go_enter Tryd.func4, Tryd.ntmps4
  go_wp2_with fail
  refine hbig.mono ?_
  rintro e W ⟨h, rfl⟩
  rcases h with ⟨h4, -⟩ | ⟨-, rfl⟩
  · exact absurd h4 H3B.out
  clear hbig
  go_wp2_with fail
  refine (H1.out _ hK HA.out).mono ?_
  rintro e w1 ⟨rfl, hb1⟩
  go_wp2_with fail
  refine (H2.out _ (HA.out.keep hb1)).mono ?_
  rintro e w2 ⟨rfl, hq⟩
  have hb2 := hb1.next hq
  clear hb1 hq
  go_wp2_with fail
  refine (H5.out _ (hK.keep hb2)).mono ?_
  rintro e w3 ⟨rfl, hq⟩
  have hb3 := hb2.next hq
  clear hb2 hq
  go_wp2_with fail
  refine (H3.out _ (hK.keep hb3) (HA.out.keep hb3)).mono ?_
  rintro e w4 ⟨rfl, hq⟩
  have hb4 := hb3.next hq
  clear hb3 hq
  go_wp2_with fail
  refine (H4.out _ (HA.out.keep hb4)).mono ?_
  rintro e w5 ⟨rfl, hq⟩
  have hb5 := hb4.next hq
  clear hb4 hq
  go_wp2
  go_ret
  exact ⟨rfl, hb5⟩
end Go.Proofs.YtgcohoonhklkbaaDoor

/-
  TreeShows: the law's walk over the program's words.
-/
namespace Go.Proofs.YtgcohoonhklkbaaDoor
open Go.RowKit Go.Kx Go.Trm
set_option maxRecDepth 20000

set_option maxHeartbeats 2000000 in
theorem shows_walk {N : Nat} (HT : TreeW N) (hN : 1000 ≤ N) (HS : RSum) (l m : List ByteArray) (i : Int) (s : ByteArray) (path : List ByteArray) (A B C : Option Addr) (c c' c'' : Nat) (hs0 : s.size ≤ 9223372036854775807)
    (hzl : l.length ≤ 9223372036854775807) (hzsl : ∀ s ∈ l, s.size ≤ 9223372036854775807) (hzm : m.length ≤ 9223372036854775807) (hzsm : ∀ s ∈ m, s.size ≤ 9223372036854775807) (hz : path.length ≤ 9223372036854775807) (hzs : ∀ s ∈ path, s.size ≤ 9223372036854775807)
    (W : World) (hA : Sl W A (strsV l)) (hB : Sl W B (strsV m)) (hC : Sl W C (strsV path)) (hK : Consts W) :
    Calls Tryd.prog 5 #[.slice A l.length c, .slice B m.length c', .int .i64 i, .string s, .slice C path.length c''] W fun e W' => e = .returned (.bool true) ∧ Below W.heap.size W W' := by
  have hbl := rbig_any l hzl hzsl A c W hA
  have hbm := rbig_any m hzm hzsm B c' W hB
  have hbp := rbig_any path hz hzs C c'' W hC
  by_cases b1 : bigN l
  · clear hbm hbp hA hB hC hzsl hzsm hzs
    generalize l.length = x at *
    generalize m.length = y at *
    generalize path.length = z at *
    go_enter Tryd.func5, Tryd.ntmps5
    go_wp2_with fail
    refine hbl.mono ?_
    rintro e w1 ⟨h, rfl⟩
    rcases h with ⟨-, rfl⟩ | ⟨h4, -⟩
    rotate_left
    · exact absurd b1 h4
    go_wp2
    go_ret
    exact ⟨rfl, Below.refl _ _⟩
  by_cases b2 : bigN m
  · clear hbp hA hB hC hzsl hzsm hzs
    generalize l.length = x at *
    generalize m.length = y at *
    generalize path.length = z at *
    go_enter Tryd.func5, Tryd.ntmps5
    go_wp2_with fail
    refine hbl.mono ?_
    rintro e W ⟨h, rfl⟩
    rcases h with ⟨h4, -⟩ | ⟨-, rfl⟩
    · exact absurd h4 b1
    go_wp2_with fail
    refine hbm.mono ?_
    rintro e W ⟨h, rfl⟩
    rcases h with ⟨-, rfl⟩ | ⟨h4, -⟩
    rotate_left
    · exact absurd b2 h4
    go_wp2
    go_ret
    exact ⟨rfl, Below.refl _ _⟩
  by_cases b3 : bigN path
  · clear hA hB hC hzsl hzsm hzs
    generalize l.length = x at *
    generalize m.length = y at *
    generalize path.length = z at *
    go_enter Tryd.func5, Tryd.ntmps5
    go_wp2_with fail
    refine hbl.mono ?_
    rintro e W ⟨h, rfl⟩
    rcases h with ⟨h4, -⟩ | ⟨-, rfl⟩
    · exact absurd h4 b1
    go_wp2_with fail
    refine hbm.mono ?_
    rintro e W ⟨h, rfl⟩
    rcases h with ⟨h4, -⟩ | ⟨-, rfl⟩
    · exact absurd h4 b2
    go_wp2_with fail
    refine hbp.mono ?_
    rintro e W ⟨h, rfl⟩
    rcases h with ⟨-, rfl⟩ | ⟨h4, -⟩
    rotate_left
    · exact absurd b3 h4
    go_wp2
    go_ret
    exact ⟨rfl, Below.refl _ _⟩
  obtain ⟨l1, l2⟩ := not_big b1
  obtain ⟨m1, m2⟩ := not_big b2
  obtain ⟨p1, p2⟩ := not_big b3
  obtain ⟨ans, hans⟩ : ∃ a, colA l m = a := ⟨_, rfl⟩
  obtain ⟨trc, htrc⟩ : ∃ a, trcA l i s path = a := ⟨_, rfl⟩
  have R1 := HT.collide l m A B c c' ans (by omega) (by omega) (fun s hs => by have := l2 s hs; omega) (fun s hs => by have := m2 s hs; omega) hans
  have R2 := rcollide_any HS l m A B c c' (by omega) (fun s hs => by have := l2 s hs; omega) (fun s hs => by have := m2 s hs; omega) ans hans
  have R5 := fun V => roots_true HT (by omega) V
  have B1 := Lib.hid b1
  have B2 := Lib.hid b2
  have B3 := Lib.hid b3
  have HA := Lib.hid hA
  have HB := Lib.hid hB
  have HC := Lib.hid hC
  by_cases h300 : 300 < s.size
  · have t1 : (300 : Int) < (s.size : Int) := by omega
    clear R1 R2 R5 hans htrc l2 m2 p2 b1 b2 b3 hA hB hC hzsl hzsm hzs
    generalize l.length = x at *
    generalize m.length = y at *
    generalize path.length = z at *
    go_enter Tryd.func5, Tryd.ntmps5
    go_wp2_with fail
    refine hbl.mono ?_
    rintro e W ⟨h, rfl⟩
    rcases h with ⟨h4, -⟩ | ⟨-, rfl⟩
    · exact absurd h4 B1.out
    go_wp2_with fail
    refine hbm.mono ?_
    rintro e W ⟨h, rfl⟩
    rcases h with ⟨h4, -⟩ | ⟨-, rfl⟩
    · exact absurd h4 B2.out
    go_wp2_with fail
    refine hbp.mono ?_
    rintro e W ⟨h, rfl⟩
    rcases h with ⟨h4, -⟩ | ⟨-, rfl⟩
    · exact absurd h4 B3.out
    go_wp2
    go_ret
    exact ⟨rfl, Below.refl _ _⟩
  have t1 : ¬ (300 : Int) < (s.size : Int) := by omega
  have R3 := HT.trace l i s path A C c c'' trc (by omega) (by omega) (fun s hs => by have := l2 s hs; omega) (by omega) htrc
  have R4 := rtrace_any HS l i s path A C c c'' (by omega) (by omega) (fun s hs => by have := l2 s hs; omega) (by omega) trc htrc
  unfold CollideP at R2
  have H5 := Lib.hid R5
  clear R5 hans htrc l2 m2 p2 b1 b2 b3 hA hB hC hzsl hzsm hzs HT HS
  generalize l.length = x at *
  generalize m.length = y at *
  generalize path.length = z at *
  rcases ans with _ | ⟨a1, a2⟩ <;> rcases trc with _ | ⟨r1, r2⟩
  all_goals
    simp only [outV] at R1 R2 R3 R4
    have H1 := Lib.hid R1
    have H2 := Lib.hid R2
    have H3 := Lib.hid R3
    have H4 := Lib.hid R4
    clear R1 R2 R3 R4
    go_enter Tryd.func5, Tryd.ntmps5
    go_wp2_with fail
    refine hbl.mono ?_
    rintro e W ⟨h, rfl⟩
    rcases h with ⟨h4, -⟩ | ⟨-, rfl⟩
    · exact absurd h4 B1.out
    go_wp2_with fail
    refine hbm.mono ?_
    rintro e W ⟨h, rfl⟩
    rcases h with ⟨h4, -⟩ | ⟨-, rfl⟩
    · exact absurd h4 B2.out
    go_wp2_with fail
    refine hbp.mono ?_
    rintro e W ⟨h, rfl⟩
    rcases h with ⟨h4, -⟩ | ⟨-, rfl⟩
    · exact absurd h4 B3.out
    clear hbl hbm hbp
    go_wp2_with fail
    refine (H1.out _ hK HA.out HB.out).mono ?_
    rintro e w1 ⟨rfl, hb1⟩
    go_wp2_with fail
    refine (H2.out _ (HA.out.keep hb1) (HB.out.keep hb1)).mono ?_
    rintro e w2 ⟨rfl, hq⟩
    have hb2 := hb1.next hq
    clear hb1 hq
    go_wp2_with fail
    refine (H3.out _ (hK.keep hb2) (HA.out.keep hb2) (HC.out.keep hb2)).mono ?_
    rintro e w3 ⟨rfl, hq⟩
    have hb3 := hb2.next hq
    clear hb2 hq
    go_wp2_with fail
    refine (H4.out _ (HA.out.keep hb3) (HC.out.keep hb3)).mono ?_
    rintro e w4 ⟨rfl, hq⟩
    have hb4 := hb3.next hq
    clear hb3 hq
    go_wp2_with fail
    refine (H5.out _ (hK.keep hb4)).mono ?_
    rintro e w5 ⟨rfl, hq⟩
    have hb5 := hb4.next hq
    clear hb4 hq
    go_wp2
    go_ret
    exact ⟨rfl, hb5⟩
end Go.Proofs.YtgcohoonhklkbaaDoor
