/-
  Merged by program: Slices, Tq7, Tq8, Rdr, Tq9, Tqa, Tqb.
-/
import Derived.Test.YtgcohoonhklkbaaDoorM1
import Derived.Test.YtgcohoonhklkbaaDoorM3
import Derived.Test.YtgcohoonhklkbaaDoorM2
import Derived.Shelf.Abstract
import Derived.Shelf.RegionOpen
import Derived.OwnWalkIn
import Derived.TacticsInMore
import Derived.LoopNIn
import Derived.LoopIn
import Derived.OrdersIn
import Derived.RangeFuncCalls
import Derived.RangeFuncBox
import Derived.RangeFuncFrom
import Derived.Lib.QuietBelow
import Derived.WalkMore

/-
  Parts of a string by slices (any program).
-/
namespace Go.Kx
open Go.RowKit

theorem str_mid {P : Program} {t : TypeId} (h : P.underlying t = some .string) (s : ByteArray) (lo hi : Nat) (h1 : lo ≤ hi) (h2 : hi ≤ s.size) (V : World) :
    (Instr.slice t (.string s) (some (.int .i64 (lo : Int))) (some (.int .i64 (hi : Int))) none).run P V = .ok (.string (s.extract lo hi)) V := by
  have e1 : (Instr.sliceBound (.int .i64 (hi : Int)) s.size .sliceAlen).run P V = .ok hi V := by
    simp only [Instr.sliceBound, asIntOf, Sem.run_bind, Sem.run_pure, Result.andThen_ok, if_pos (show 0 ≤ (hi : Int) ∧ (hi : Int) ≤ (s.size : Int) by omega), Int.toNat_natCast]
  have e2 : (Instr.sliceBound (.int .i64 (lo : Int)) hi .sliceB).run P V = .ok lo V := by
    simp only [Instr.sliceBound, asIntOf, Sem.run_bind, Sem.run_pure, Result.andThen_ok, if_pos (show 0 ≤ (lo : Int) ∧ (lo : Int) ≤ (hi : Int) by omega), Int.toNat_natCast]
  simp only [Instr.slice, Instr.sliceBounds, Sem.run_bind, run_underlying h, Result.andThen_ok, Option.isSome_none, Bool.false_eq_true, if_false, Sem.run_pure, e1, e2]
theorem str_to {P : Program} {t : TypeId} (h : P.underlying t = some .string) (s : ByteArray) (hi : Nat) (h2 : hi ≤ s.size) (V : World) :
    (Instr.slice t (.string s) none (some (.int .i64 (hi : Int))) none).run P V = .ok (.string (s.extract 0 hi)) V := by
  have e1 : (Instr.sliceBound (.int .i64 (hi : Int)) s.size .sliceAlen).run P V = .ok hi V := by
    simp only [Instr.sliceBound, asIntOf, Sem.run_bind, Sem.run_pure, Result.andThen_ok, if_pos (show 0 ≤ (hi : Int) ∧ (hi : Int) ≤ (s.size : Int) by omega), Int.toNat_natCast]
  simp only [Instr.slice, Instr.sliceBounds, Sem.run_bind, run_underlying h, Result.andThen_ok, Option.isSome_none, Bool.false_eq_true, if_false, Sem.run_pure, e1]
theorem str_from {P : Program} {t : TypeId} (h : P.underlying t = some .string) (s : ByteArray) (lo : Nat) (h1 : lo ≤ s.size) (V : World) :
    (Instr.slice t (.string s) (some (.int .i64 (lo : Int))) none none).run P V = .ok (.string (s.extract lo s.size)) V := by
  have e2 : (Instr.sliceBound (.int .i64 (lo : Int)) s.size .sliceB).run P V = .ok lo V := by
    simp only [Instr.sliceBound, asIntOf, Sem.run_bind, Sem.run_pure, Result.andThen_ok, if_pos (show 0 ≤ (lo : Int) ∧ (lo : Int) ≤ (s.size : Int) by omega), Int.toNat_natCast]
  simp only [Instr.slice, Instr.sliceBounds, Sem.run_bind, run_underlying h, Result.andThen_ok, Option.isSome_none, Bool.false_eq_true, if_false, Sem.run_pure, e2]
theorem str_ext (s : ByteArray) (i j : Nat) : (s.extract i j).data.toList = (s.data.toList.drop i).take (j - i) := by
  simp [Array.toList_extract, List.extract_eq_take_drop]
end Go.Kx

/-
  tree: slices.Equal of texts; downward: a slice of rows gone through from the last on (slices.Backward).
-/
namespace Go.Proofs.YtgcohoonhklkbaaDoor
open Go.RowKit Go.Kx Go.Shelf Go.Trm
set_option maxRecDepth 20000
attribute [local go_sem] Oper.semAt_some

theorem equal_any (A B : Option Addr) (c d : Nat) (xs ys : List ByteArray) (w : World) (hx : xs.length ≤ 1000000) (b : Bool) (hb : b = decide (xs = ys)) (hl : xs.length = ys.length) (hA : Sl w A (strsV xs)) (hB : Sl w B (strsV ys)) :
    Calls Tryd.prog 42 #[.slice A xs.length c, .slice B ys.length d] w fun e w' => e = .returned (.bool b) ∧ ∃ n, w' = w.drewN n := by
  have HB := Lib.hid hb
  clear hb
  have HL := Lib.hid hl
  have hne : ((xs.length : Int) != (ys.length : Int)) = false := by simp [hl]
  have HSA := Lib.hid hA
  have HSB := Lib.hid hB
  obtain ⟨n, hn⟩ : ∃ n, xs.length = n := ⟨_, rfl⟩
  obtain ⟨m, hm⟩ : ∃ m, ys.length = m := ⟨_, rfl⟩
  have HN := Lib.hid hn
  have HM := Lib.hid hm
  have hnm : m = n := by omega
  have hm6 : m ≤ 1000000 := by omega
  rw [hn, hm] at hne ⊢
  subst hnm
  clear hl hn hm hA hB
  go_enter Tryd.func42, Tryd.ntmps42
  go_wp2
  go_loopw [13] (fun i wr => ∃ k q : Nat, k ≤ m ∧ i = .int .i64 (k : Int) ∧ wr = w.drewN q ∧ xs.take k = ys.take k) (fun i _ => m - (intOf i).toNat)
  case atStart => exact ⟨0, 0, Nat.zero_le _, rfl, rfl, rfl⟩
  case round =>
    obtain ⟨k, q, hk, rfl, rfl, ht⟩ := hrel
    have HT := Lib.hid ht
    clear ht
    by_cases hlt : k < m
    · have hkx : k < xs.length := by rw [HN.out]; exact hlt
      have hky : k < ys.length := by rw [HM.out]; exact hlt
      obtain ⟨b1, o1, rfl, hc1⟩ := sl_strV HSA.out hkx
      obtain ⟨b2, o2, rfl, hc2⟩ := sl_strV HSB.out hky
      obtain ⟨x, hx1⟩ : ∃ x, xs[k] = x := ⟨_, rfl⟩
      obtain ⟨y, hy1⟩ : ∃ y, ys[k] = y := ⟨_, rfl⟩
      rw [hx1] at hc1
      rw [hy1] at hc2
      have e1 : Hid (xs[k]? = some x) := Lib.hid (by rw [List.getElem?_eq_getElem hkx, hx1])
      have e2 : Hid (ys[k]? = some y) := Lib.hid (by rw [List.getElem?_eq_getElem hky, hy1])
      have hk1 : (k : Int) < (m : Int) := by omega
      clear hkx hky hx1 hy1
      by_cases hxy : x = y
      · subst hxy
        have HE : Hid (xs.take (k + 1) = ys.take (k + 1)) := Lib.hid (takeB_eq e1.out e2.out HT.out)
        have hbq : (x.toList != x.toList) = false := by simp
        go_wp2
        go_quiet (fail)
        go_wp2
        go_roundw
        case rel => exact ⟨k + 1, _, by omega, by go_num, rfl, HE.out⟩
        case measure => simp [intOf]; omega
      · have hbq : (x.toList == y.toList) = false := by rw [str_eq, decide_eq_false hxy]
        have HF : Hid (b = false) := Lib.hid (by
          rw [HB.out, decide_eq_false]
          rintro rfl
          have := e1.out
          rw [e2.out] at this
          exact hxy (Option.some.inj this).symm)
        clear hxy
        go_wp2
        go_quiet (fail)
        go_wp2
        go_ret
        exact ⟨ret_bool HF.out.symm, _, World.drewN_drewN _ _ _⟩
    · obtain rfl : k = m := by omega
      have HF : Hid (b = true) := Lib.hid (by
        have h := HT.out
        rw [List.take_of_length_le (by rw [HN.out]; omega), List.take_of_length_le (by rw [HM.out]; omega)] at h
        rw [HB.out, decide_eq_true h])
      go_wp2
      go_ret
      exact ⟨ret_bool HF.out.symm, _, rfl⟩

/-! ### downward -/
theorem backward_any (a : Option Addr) (m c : Nat) (w : World) :
    Calls Tryd.prog 57 #[.slice a m c] w fun e w' => e = .returned (.func (.func 74) #[] #[.pointer (some ⟨w.heap.size, 0, none⟩)]) ∧ w.alloc (.cells #[.slice a m c] 42) = w' := by
  have hmf : ∀ (fn : Fn) (first cap : Array Value) (w : World), (Instr.makeFunc fn first cap).run Tryd.prog w = .ok (.func fn first cap) w := fun _ _ _ _ => rfl
  go_enter Tryd.func57, Tryd.ntmps57
  go_wp2
  go_ret
  exact ⟨rfl, rfl⟩
theorem downward_any (A a : Option Addr) (n c m c' : Nat) (w : World) :
    Calls Tryd.prog 43 #[.agg #[.slice A n c, .slice a m c']] w fun e w' => e = .returned (.func (.func 74) #[] #[.pointer (some ⟨w.heap.size + 1, 0, none⟩)]) ∧
      (w.alloc (.cells #[.slice A n c, .slice a m c'] 44)).alloc (.cells #[.slice a m c'] 42) = w' := by
  have hb := backward_any a m c' (w.alloc (.cells #[.slice A n c, .slice a m c'] 44))
  go_enter Tryd.func43, Tryd.ntmps43
  go_wp2_with fail
  refine hb.mono ?_
  rintro e w1 ⟨rfl, rfl⟩
  go_wp2
  go_ret
  exact ⟨by simp, rfl⟩
/-- What comes: from the last on. -/
def downS {n : Nat} (h0 : 0 < n) (k : Nat) : List {x : Nat // x < n} := (List.range k).map fun j => ⟨n - 1 - j, by omega⟩
theorem downS_succ {n : Nat} (h0 : 0 < n) (k : Nat) : downS h0 k ++ [⟨n - 1 - k, by omega⟩] = downS h0 (k + 1) := by simp [downS, List.range_succ]
theorem downS_length {n : Nat} (h0 : 0 < n) (k : Nat) : (downS h0 k).length = k := by simp [downS]
theorem downS_prefix {n : Nat} (h0 : 0 < n) (i j : Nat) : downS h0 i <+: downS h0 (i + j) := by
  induction j with
  | zero => exact List.prefix_rfl
  | succ j ih => exact ih.trans ⟨[⟨n - 1 - (i + j), by omega⟩], downS_succ h0 (i + j)⟩
theorem downS_le {n : Nat} (h0 : 0 < n) (i j : Nat) (h : i ≤ j) : downS h0 i <+: downS h0 j := by
  obtain ⟨m, rfl⟩ : ∃ m, j = i + m := ⟨j - i, by omega⟩
  exact downS_prefix h0 i m
/-- What a round keeps: the variable's block and the slice's. -/
def KpDn (b1 g : Nat) (A B : World) : Prop := B.heap[b1]? = A.heap[b1]? ∧ B.heap[g]? = A.heap[g]?
theorem KpDn_t {b1 g : Nat} {A B C : World} (h : KpDn b1 g A B) (k : KpDn b1 g B C) : KpDn b1 g A C := ⟨k.1.trans h.1, k.2.trans h.2⟩
theorem KpDn_b {b1 g : Nat} {w : World} (h1 : b1 < w.heap.size) (h2 : g < w.heap.size) (W : World) (l : Nat) (o o' : Obj) (hl : w.heap.size ≤ l) (_ : W.heap[l]? = some o) (_ : o.isCells = false) (_ : o.isWalk = false) : KpDn b1 g W (W.putObj l o') :=
  ⟨World.putObj_heap_other (by omega), World.putObj_heap_other (by omega)⟩
set_option maxHeartbeats 1000000 in
theorem downward1_in (n : Nat) (hn : 1 ≤ n) (b1 g m c : Nat) (h0 : 0 < m) (hm : m ≤ 11) (U : Nat → Value) (w : World) (h1 : w.cell? ⟨b1, 0, none⟩ = some (.slice (some ⟨g, 0, none⟩) m c)) (hU : ∀ x, x < m → w.cell? ⟨g, x, none⟩ = some (U x)) :
    SeqStopsK Fence.wide n Tryd.prog 74 #[.pointer (some ⟨b1, 0, none⟩)] (fun x : {x : Nat // x < m} => #[.int .i64 (x.1 : Int), U x.1]) (KpDn b1 g)
      (fun xs => xs = downS h0 m) (fun pre => pre <+: downS h0 m) m w := by
  intro q J Jx W hW hJ hJx hY hJ0
  have c1 := (hW.cell (p := ⟨b1, 0, none⟩) (block_lt_of_cell h1)).trans h1
  have HU : Hid (∀ x, x < m → W.cell? ⟨g, x, none⟩ = some (U x)) := Lib.hid fun x hx => (hW.cell (p := ⟨g, x, none⟩) (block_lt_of_cell (hU x hx))).trans (hU x hx)
  clear h1 hW hU
  have HG : ∀ V : World, V = W → Hid (V.heap[g]? = W.heap[g]?) := fun V e => Lib.hid (by rw [e])
  refine callsIn_of_wp Tryd.func74 rfl trivial ?_ rfl
  simp only [Tryd.ntmps74, List.size_toArray, List.length_cons, List.length_nil, Nat.reduceAdd, Nat.reduceSub, Array.replicate_succ, Array.replicate_zero, List.push_toArray, List.append_toArray, List.nil_append, List.cons_append]
  gi_wp2
  gi_loopw [3] (fun i wr => ∃ (k : Nat) (z : Int), k ≤ m ∧ i = .int .i64 z ∧ z = (m : Int) - 1 - k ∧ wr.cell? ⟨b1, 0, none⟩ = some (.slice (some ⟨g, 0, none⟩) m c) ∧ Hid (wr.heap[g]? = W.heap[g]?) ∧ J (downS h0 k) wr) (fun i _ => (intOf i + 1).toNat)
  case atStart => exact ⟨0, _, by omega, rfl, by omega, c1, HG _ rfl, hJ0⟩
  case round =>
    clear c1 hJ0 HG
    obtain ⟨k, z, hk, rfl, hz, c1, hg, hJk⟩ := hrel
    by_cases hlt : k < m
    · obtain ⟨p, hp⟩ : ∃ p : Nat, m - 1 - k = p := ⟨_, rfl⟩
      obtain rfl : z = (p : Int) := by omega
      have hpm : p < m := by omega
      have hcu : wr.cell? ⟨g, p, none⟩ = some (U p) := (cell_of_heap hg.out p).trans (HU.out p hpm)
      have HPS : Hid (downS h0 k ++ [⟨p, hpm⟩] = downS h0 (k + 1)) := Lib.hid (by subst hp; exact downS_succ h0 k)
      have HLEN : Hid ((downS h0 k).length < m) := Lib.hid (by rw [downS_length]; exact hlt)
      have HLE : Hid (downS h0 (k + 1) <+: downS h0 m) := Lib.hid (downS_le h0 _ _ hlt)
      have HZ := Lib.hid hz
      clear hp hz
      generalize hps : downS h0 k = ps at *
      obtain ⟨fn, tmps, assign, body, hy, hR⟩ := hY ps ⟨p, hpm⟩ wr hJk HLEN.out
      have t0 : (0 : Int) ≤ (p : Int) := by omega
      have t1 : (p : Int) < (m : Int) := by omega
      gi_wp2
      refine hR.mono ?_
      rintro e W' (⟨rfl, hJ', hk'⟩ | ⟨rfl, hJx'⟩)
      · have e1 : W'.cell? ⟨b1, 0, none⟩ = _ := (cell_of_heap hk'.1 0).trans c1
        have hg' : Hid (W'.heap[g]? = W.heap[g]?) := Lib.hid (hk'.2.trans hg.out)
        clear hy hR hk' c1 hcu hg
        rw [HPS.out] at hJ'
        gi_wp2
        go_roundw
        case rel => exact ⟨k + 1, _, by omega, rfl, by have := HZ.out; omega, e1, hg', hJ'⟩
        case measure => simp [intOf] <;> omega
      · clear hy hR
        rw [HPS.out] at hJx'
        gi_wp2
        refine bodyPost_ret (results_none rfl _ _ _) rfl ?_
        exact ⟨⟨_, rfl⟩, .inr ⟨_, HLE.out, hJx'⟩⟩
    · obtain rfl : k = m := by omega
      obtain rfl : z = -1 := by omega
      gi_wp2
      go_end0
      exact ⟨⟨_, rfl⟩, .inl ⟨_, rfl, hJk⟩⟩
end Go.Proofs.YtgcohoonhklkbaaDoor

/-
  tree: what Trace tells, as mathematics (of any texts); results out of three cells.
-/
namespace Go.Proofs.YtgcohoonhklkbaaDoor
open Go.RowKit Go.Kx Go.Trm
set_option maxRecDepth 20000

theorem run_loadVar_one {P : Program} {ty : TypeId} {d : TypeDesc} (hu : P.underlying ty = some d) (hd : (match d with | .struct _ | .array _ _ => true | _ => false) = false) {w : World} {a : Addr} {v : Value} (hc : w.cell? a = some v) : (loadVar ty a).run P w = .ok v w := by
  have hagg : (isAgg ty).run P w = .ok false w := by
    cases d <;> simp_all [isAgg, underlying, Sem.run_bind, Result.andThen]
  simp [loadVar, hagg, Sem.run_bind, Result.andThen, load]
  simp [Sem.run, hc]
theorem results_cell3 {P : Program} {fn : Func} {p q r : Tmp} {s t u : TypeId} (h : fn.results = #[.cell p s, .cell q t, .cell r u]) {tmps : Array Value} {w : World} {a b c : Addr} {x y z : Value}
    (hp : tmps.getD p undef = .pointer (some a)) (hq : tmps.getD q undef = .pointer (some b)) (hr : tmps.getD r undef = .pointer (some c))
    (h1 : (loadVar s a).run P w = .ok x w) (h2 : (loadVar t b).run P w = .ok y w) (h3 : (loadVar u c).run P w = .ok z w) :
    (results fn tmps).run P w = .ok (.tuple #[x, y, z]) w := by
  have hp' : tmps[p]?.getD undef = .pointer (some a) := by simpa using hp
  have hq' : tmps[q]?.getD undef = .pointer (some b) := by simpa using hq
  have hr' : tmps[r]?.getD undef = .pointer (some c) := by simpa using hr
  simp [results, h, hp', hq', hr', asAddr, h1, h2, h3, Sem.run_bind, Result.andThen]

/-! ### the way of a text that is there -/
theorem und_way (l : List ByteArray) {d n : Nat} (hl : l.length = 2 ^ d) (hn : n < 2 ^ d) : ∀ h, h ≤ d → undT l h (n / 2 ^ h) = (waysL sumH n (ofLeafL ((txtsL l).getD n [])) (pathL sumH (txtsL l) n d)).getD h []
  | 0, _ => by rw [waysL_zero, Nat.pow_zero, Nat.div_one]; rfl
  | h + 1, hh => by
    have hl' : (txtsL l).length = 2 ^ d := by rw [txtsL_length]; exact hl
    have hpk : (pathL sumH (txtsL l) n d).getD h [] = (rowL sumH (txtsL l) h).getD (partN (n / 2 ^ h)) [] := by
      rw [pathL, List.getD, List.getElem?_map, List.getElem?_range (by omega)]
      rfl
    rw [waysL_get sumH _ _ _ h (by rw [pathL_length]; omega), hpk]
    unfold stepW
    rw [ways_row sumH (txtsL l) hl' n hn h (by omega), undT, Nat.pow_succ, ← Nat.div_div_eq_div_mul]
    unfold partN
    by_cases h2 : n / 2 ^ h % 2 = 0
    · rw [if_pos h2, if_pos h2, two_even h2]
    · rw [if_neg h2, if_neg h2, two_odd h2, show n / 2 ^ h - 1 + 1 = n / 2 ^ h by generalize n / 2 ^ h = m at h2 ⊢; omega]
theorem lastDiff_at {a b : List Txt} : ∀ {n k : Nat}, k < n → a.getD k [] ≠ b.getD k [] → (∀ j, k < j → j < n → a.getD j [] = b.getD j []) → lastDiff a b n = some (a.getD k [], b.getD k [])
  | n + 1, k, hk, hne, h => by
    by_cases hn : k = n
    · subst hn
      rw [lastDiff, if_pos hne]
    · rw [lastDiff, if_neg (by simpa using h n (by omega) (by omega))]
      exact lastDiff_at (by omega) hne fun j h1 h2 => h j h1 (by omega)
theorem lastDiff_no {a b : List Txt} : ∀ {n : Nat}, (∀ j, j < n → a.getD j [] = b.getD j []) → lastDiff a b n = none
  | 0, _ => rfl
  | n + 1, h => by
    rw [lastDiff, if_neg (by simpa using h n (by omega))]
    exact lastDiff_no fun j hj => h j (by omega)
theorem downS_mem {m : Nat} (h0 : 0 < m) (k : Nat) {j : Nat} (hj : j < m) (h : m ≤ k + j) : (⟨j, hj⟩ : {x : Nat // x < m}) ∈ downS h0 k := by
  refine List.mem_map.2 ⟨m - 1 - j, List.mem_range.2 (by omega), ?_⟩
  exact Subtype.ext (by show m - 1 - (m - 1 - j) = j; omega)
theorem downS_split {m : Nat} (h0 : 0 < m) {pre : List {x : Nat // x < m}} {x : {x : Nat // x < m}} (h : pre ++ [x] <+: downS h0 m) : ∃ k, k < m ∧ pre = downS h0 k ∧ x.1 = m - 1 - k := by
  have hl := h.length_le
  rw [downS_length, List.length_append, List.length_singleton] at hl
  have hp := downS_le h0 (pre.length + 1) m hl
  have e : pre ++ [x] = downS h0 (pre.length + 1) := by
    rw [List.prefix_iff_eq_take.1 h, List.prefix_iff_eq_take.1 hp, downS_length, List.length_append, List.length_singleton]
  rw [← downS_succ] at e
  obtain ⟨e1, e2⟩ := List.append_inj e (by rw [downS_length])
  refine ⟨pre.length, by omega, e1, ?_⟩
  have := List.head_eq_of_cons_eq e2
  rw [this]

/-! ### when Trace looks -/
def trcHok (l : List ByteArray) (n d : Nat) (s : ByteArray) (path : List ByteArray) : Prop :=
  l.length = 2 ^ d ∧ d ≤ 10 ∧ n < l.length ∧ path.length = d ∧ l[n]? ≠ some s ∧ wayOk (n : Int) path ∧ climbL sumH n (ofLeafL s.data.toList) (txtsL path) = rootL sumH (txtsL l) d
/-- The two ways of a trace. -/
def wayA (l : List ByteArray) (n d : Nat) : List Txt := waysL sumH n (ofLeafL ((txtsL l).getD n [])) (pathL sumH (txtsL l) n d)
def wayB (n : Nat) (s : ByteArray) (path : List ByteArray) : List Txt := waysL sumH n (ofLeafL s.data.toList) (txtsL path)
open Classical in
noncomputable def trcH (l : List ByteArray) (i : Int) (s : ByteArray) (path : List ByteArray) : Option (Txt × Txt) :=
  if 0 ≤ i ∧ trcHok l i.toNat path.length s path then lastDiff (wayA l i.toNat path.length) (wayB i.toNat s path) (path.length + 1) else none
theorem trcH_yes {l : List ByteArray} {n d : Nat} {s : ByteArray} {path : List ByteArray} (h : trcHok l n d s path) : trcH l (n : Int) s path = lastDiff (wayA l n d) (wayB n s path) (d + 1) := by
  have hd : path.length = d := h.2.2.2.1
  subst hd
  rw [trcH, Int.toNat_natCast, if_pos ⟨by omega, h⟩]
theorem trcH_no {l : List ByteArray} {i : Int} {s : ByteArray} {path : List ByteArray} (h : ∀ n d : Nat, i = (n : Int) → ¬ trcHok l n d s path) : trcH l i s path = none := by
  rw [trcH, if_neg]
  rintro ⟨h1, h2⟩
  exact h _ _ (by omega) h2
/-- The cells that a call of Trace keeps: the place, the results, the rows. -/
def TrS (N R : Nat) (i : Int) (A : Option Addr) (n c : Nat) (vd : Value) (x y : ByteArray) (z : Bool) (V : World) : Prop :=
  V.heap[N]? = some (.cells #[.int .i64 i] 3) ∧ V.heap[N + 1]? = some (.cells #[.string x] 9) ∧ V.heap[N + 1 + 1]? = some (.cells #[.string y] 9) ∧ V.heap[N + 1 + 1 + 1]? = some (.cells #[.bool z] 4) ∧ V.heap[R]? = some (.cells #[.slice A n c, vd] 44)
theorem heap_keepB {V V' : World} {k : Nat} {o : Obj} (h : V.heap[k]? = some o) (hb : Below V.heap.size V V') : V'.heap[k]? = some o := (hb.block k (Array.getElem?_eq_some_iff.1 h).1).trans h
theorem TrS.keep {N R : Nat} {i : Int} {A : Option Addr} {n c : Nat} {vd : Value} {x y : ByteArray} {z : Bool} {V V' : World} (h : TrS N R i A n c vd x y z V) (hb : Below V.heap.size V V') : TrS N R i A n c vd x y z V' :=
  ⟨heap_keepB h.1 hb, heap_keepB h.2.1 hb, heap_keepB h.2.2.1 hb, heap_keepB h.2.2.2.1 hb, heap_keepB h.2.2.2.2 hb⟩
theorem cell0 {V : World} {b : Nat} {v : Value} {t : TypeId} (h : V.heap[b]? = some (.cells #[v] t)) : V.cell? ⟨b, 0, none⟩ = some v := by rw [cell_of_row _ _ _ _ _ _ h]; rfl
theorem froz0 {V : World} {b o : Nat} {cs : Array Value} {t : TypeId} (h : V.heap[b]? = some (.cells cs t)) : V.frozen? ⟨b, o, none⟩ = false := by unfold World.frozen?; rw [h]; simp
/-- The three results out of their cells. -/
theorem trace_ret {tmps : Array Value} {V : World} {b1 b2 b3 : Nat} {x y : ByteArray} {z : Bool} (hp : tmps.getD 8 undef = .pointer (some ⟨b1, 0, none⟩)) (hq : tmps.getD 9 undef = .pointer (some ⟨b2, 0, none⟩)) (hr : tmps.getD 10 undef = .pointer (some ⟨b3, 0, none⟩))
    (h1 : V.cell? ⟨b1, 0, none⟩ = some (.string x)) (h2 : V.cell? ⟨b2, 0, none⟩ = some (.string y)) (h3 : V.cell? ⟨b3, 0, none⟩ = some (.bool z)) : (results Tryd.f25 tmps).run Tryd.prog V = .ok (.tuple #[.string x, .string y, .bool z]) V :=
  results_cell3 rfl hp hq hr (run_loadVar_one Tryd.underlying9 rfl h1) (run_loadVar_one Tryd.underlying9 rfl h2) (run_loadVar_one Tryd.underlying4 rfl h3)
/-- Three stores of results, read back. -/
theorem trace_set {N : Nat} {V : World} {a b e : Value} (x y : ByteArray) (z : Bool) (z1 : V.cell? ⟨N + 1, 0, none⟩ = some a) (z2 : V.cell? ⟨N + 1 + 1, 0, none⟩ = some b) (z3 : V.cell? ⟨N + 1 + 1 + 1, 0, none⟩ = some e) :
    (((V.setCell ⟨N + 1, 0, none⟩ (.string x)).setCell ⟨N + 1 + 1, 0, none⟩ (.string y)).setCell ⟨N + 1 + 1 + 1, 0, none⟩ (.bool z)).cell? ⟨N + 1, 0, none⟩ = some (.string x) ∧
    (((V.setCell ⟨N + 1, 0, none⟩ (.string x)).setCell ⟨N + 1 + 1, 0, none⟩ (.string y)).setCell ⟨N + 1 + 1 + 1, 0, none⟩ (.bool z)).cell? ⟨N + 1 + 1, 0, none⟩ = some (.string y) ∧
    (((V.setCell ⟨N + 1, 0, none⟩ (.string x)).setCell ⟨N + 1 + 1, 0, none⟩ (.string y)).setCell ⟨N + 1 + 1 + 1, 0, none⟩ (.bool z)).cell? ⟨N + 1 + 1 + 1, 0, none⟩ = some (.bool z) := by
  have ne12 : (⟨N + 1 + 1, 0, none⟩ : Addr) ≠ ⟨N + 1, 0, none⟩ := by simp
  have ne13 : (⟨N + 1 + 1 + 1, 0, none⟩ : Addr) ≠ ⟨N + 1, 0, none⟩ := by simp
  have ne23 : (⟨N + 1 + 1 + 1, 0, none⟩ : Addr) ≠ ⟨N + 1 + 1, 0, none⟩ := by simp
  refine ⟨?_, ?_, ?_⟩
  · rw [World.cell?_setCell_other _ _ _ _ ne13, World.cell?_setCell_other _ _ _ _ ne12]
    exact World.cell?_setCell_same' _ _ _ (by rw [z1]; rfl)
  · rw [World.cell?_setCell_other _ _ _ _ ne23]
    exact World.cell?_setCell_same' _ _ _ (by rw [World.cell?_setCell_other _ _ _ _ ne12.symm, z2]; rfl)
  · exact World.cell?_setCell_same' _ _ _ (by rw [World.cell?_setCell_other _ _ _ _ ne23.symm, World.cell?_setCell_other _ _ _ _ ne13.symm, z3]; rfl)
theorem trace_setB {w V : World} (hb : Below w.heap.size w V) (x y : ByteArray) (z : Bool) : Below w.heap.size w (((V.setCell ⟨w.heap.size + 1, 0, none⟩ (.string x)).setCell ⟨w.heap.size + 1 + 1, 0, none⟩ (.string y)).setCell ⟨w.heap.size + 1 + 1 + 1, 0, none⟩ (.bool z)) :=
  ((hb.setCell (p := ⟨w.heap.size + 1, 0, none⟩) (by simp) _).setCell (p := ⟨w.heap.size + 1 + 1, 0, none⟩) (by simp; omega) _).setCell (p := ⟨w.heap.size + 1 + 1 + 1, 0, none⟩) (by simp; omega) _
/-- Three stores of results: the blocks. -/
theorem trace_heap {N : Nat} {V : World} {a b e : Value} {ta tb te : TypeId} (x y : ByteArray) (z : Bool) (z1 : V.heap[N + 1]? = some (.cells #[a] ta)) (z2 : V.heap[N + 1 + 1]? = some (.cells #[b] tb)) (z3 : V.heap[N + 1 + 1 + 1]? = some (.cells #[e] te)) :
    (((V.setCell ⟨N + 1, 0, none⟩ (.string x)).setCell ⟨N + 1 + 1, 0, none⟩ (.string y)).setCell ⟨N + 1 + 1 + 1, 0, none⟩ (.bool z)).heap[N + 1]? = some (.cells #[.string x] ta) ∧
    (((V.setCell ⟨N + 1, 0, none⟩ (.string x)).setCell ⟨N + 1 + 1, 0, none⟩ (.string y)).setCell ⟨N + 1 + 1 + 1, 0, none⟩ (.bool z)).heap[N + 1 + 1]? = some (.cells #[.string y] tb) ∧
    (((V.setCell ⟨N + 1, 0, none⟩ (.string x)).setCell ⟨N + 1 + 1, 0, none⟩ (.string y)).setCell ⟨N + 1 + 1 + 1, 0, none⟩ (.bool z)).heap[N + 1 + 1 + 1]? = some (.cells #[.bool z] te) := by
  refine ⟨?_, ?_, ?_⟩
  · exact (Below.heap_setCell _ ⟨N + 1 + 1 + 1, 0, none⟩ _ (N + 1) (by simp only []; omega)).trans ((Below.heap_setCell _ ⟨N + 1 + 1, 0, none⟩ _ (N + 1) (by simp only []; omega)).trans ((heap_setCell_same V (N + 1) 0 _ _ _ z1).trans rfl))
  · exact (Below.heap_setCell _ ⟨N + 1 + 1 + 1, 0, none⟩ _ (N + 1 + 1) (by simp only []; omega)).trans ((heap_setCell_same _ (N + 1 + 1) 0 _ _ _ ((Below.heap_setCell _ ⟨N + 1, 0, none⟩ _ (N + 1 + 1) (by simp only []; omega)).trans z2)).trans rfl)
  · exact (heap_setCell_same _ (N + 1 + 1 + 1) 0 _ _ _ ((Below.heap_setCell _ ⟨N + 1 + 1, 0, none⟩ _ (N + 1 + 1 + 1) (by simp only []; omega)).trans ((Below.heap_setCell _ ⟨N + 1, 0, none⟩ _ (N + 1 + 1 + 1) (by simp only []; omega)).trans z3))).trans rfl
theorem trace_may (l : List ByteArray) (i : Int) (s : ByteArray) (path : List ByteArray) (A B : Option Addr) (c c' : Nat) (hz : l.length ≤ 9223372036854775807) (h : ¬ mayN l.length) (w : World) :
    Calls Tryd.prog 25 #[.slice A l.length c, .int .i64 i, .string s, .slice B path.length c'] w fun e w' => e = .returned (outV none) ∧ Below w.heap.size w w' := by
  have hmay := fun V => tmay_no h hz A c V
  clear h
  generalize l.length = n at *
  generalize path.length = m at *
  go_enter Tryd.func25, Tryd.ntmps25
  go_wp2_with fail
  refine (hmay _).mono ?_
  rintro e w1 ⟨rfl, rfl⟩
  go_wp2
  exact bodyPost_ret (v := outV none) (trace_ret rfl rfl rfl (by go_simp) (by go_simp) (by go_simp)) rfl ⟨rfl, (((Below.alloc0 w _).alloc (by simp) _).alloc (by simp; omega) _).alloc (by simp; omega) _⟩
end Go.Proofs.YtgcohoonhklkbaaDoor

/-
  A region that draws, in a round of a range over a function (the wide fence; any program): walked as outside of one (Uptot), if it ends as it should.
-/
namespace Go.Kx
open Go

/-- Only a plain end. -/
def plainEnd (Q : Exit → Act → World → Prop) : Exit → Act → World → Prop
  | .normal, a, w => Q .normal a w
  | _, _, _ => False
theorem plainEnd_out {Q : Exit → Act → World → Prop} : ∀ e a w, plainEnd Q e a w → Q e a w
  | .normal, _, _, h => h
theorem plainEnd_in {Q : Exit → Act → World → Prop} {a : Act} {w : World} (h : Q .normal a w) : plainEnd Q .normal a w := h
theorem plainEnd_lets {Q : Exit → Act → World → Prop} (h : LetsOut (plainEnd Q)) : False := by
  obtain ⟨_, _, h⟩ := h
  exact h
/-- No operation is a defer statement. -/
def noDefers (ops : Array Oper) : Bool := ops.all fun o => match o.op with | .defer _ => false | _ => true
theorem noDefers_at {ops : Array Oper} (h : noDefers ops = true) {i : Nat} {o : Oper} (ho : ops[i]? = some o) : ∀ c, o.op ≠ .defer c := fun c e => by
  have h1 := Array.all_eq_true_iff_forall_mem.1 h o (Array.mem_of_getElem? ho)
  rw [e] at h1
  cases h1
theorem oper_round {P : Program} {o : Oper} {a : Act} {w : World} {K : Act → World → Prop} {Q : Exit → Act → World → Prop} {l n : Nat} (hd : ∀ c, o.op ≠ .defer c) (h : o.wp P a w K (plainEnd Q)) :
    o.wpIn (Fence.wide.inRound l) n P a w K Q := by
  refine ⟨fun _ _ => trivial, ?_⟩
  rw [Oper.semAt_plain _ _ _ hd]
  unfold Oper.wp at h
  generalize (execOp a.eval o).run P w = r at h
  cases r with
  | ok x w' =>
    cases x with
    | value v => exact h
    | skip => exact h
    | defer d => exact h
    | enter f args =>
      refine ⟨fun hdep => absurd hdep (by simp [Fence.wide]), CallsIn.inRound l (callsIn_wide.2 (Calls.mono h fun e w2 he => ?_))⟩
      cases e with
      | returned v => exact he
      | panicked c => exact he.elim
      | outgrown => exact (plainEnd_lets he).elim
    | row r args =>
      refine ⟨fun hdep => absurd hdep (by simp [Fence.wide]), fun c cs _ => ?_⟩
      obtain ⟨v, w2, hr, hs⟩ := h c cs
      exact ⟨v, w2, hr, stepsIn_wide.2 hs⟩
    | _ => exact h.elim
  | halt x w' =>
    cases x with
    | panic v => exact h.elim
    | _ => exact h.elim
theorem any_round {P : Program} {md : Region.Mode} {ops : Array Oper} {Q : Exit → Act → World → Prop} {l n : Nat} (hd : noDefers ops = true) : ∀ (fuel : Nat) (listed : Array Bool) (a : Act) (w : World),
    wpAny P md ops (plainEnd Q) fuel listed a w → wpAnyIn (Fence.wide.inRound l) n P md ops Q fuel listed a w
  | 0, _, _, _, h => h
  | fuel + 1, listed, a, w, h => by
    refine ⟨h.1, fun i hi => ?_⟩
    have h2 := h.2 i hi
    unfold wpOp at h2
    unfold wpOpIn
    split
    · rename_i he
      rw [he] at h2
      exact any_round hd fuel _ _ _ h2
    · rename_i o ho
      rw [ho] at h2
      simp only [] at h2
      split
      · rename_i hw
        rw [if_pos hw] at h2
        rcases h2 with h3 | ⟨_, h3⟩
        · exact Oper.wpIn_mono (fun a w h => any_round hd fuel _ a w h) (oper_round (noDefers_at hd ho) h3)
        · exact (plainEnd_lets h3).elim
      · rename_i hw
        rw [if_neg hw] at h2
        exact ⟨fun _ _ => trivial, any_round hd fuel _ _ _ h2⟩
theorem Uptot.begin_round {P : Program} {ls : List Oper} {a : Act} {w : World} {Q : Exit → Act → World → Prop} {id l n : Nat} (Ls : List Nat) (S T : World → Prop) (hm : P.follows .mixedOrders = true) (hd : noDefers ls.toArray = true)
    (h : Uptot P .any ls.toArray (plainEnd Q) S T Ls ls.length (Array.replicate ls.length false) a w.drew) : (Code.region id ls.toArray true).wpIn (Fence.wide.inRound l) n P Q a w := by
  refine wpIn_region_any hm (any_round hd _ _ _ _ (Uptot.any (S := S) (T := T) (Ls := Ls) _ _ _ _ ?_))
  simpa using h
end Go.Kx

/-
  tree: the contract of Trace (of any texts).
-/
namespace Go.Proofs.YtgcohoonhklkbaaDoor
open Go.RowKit Go.Kx Go.Shelf Go.Trm
set_option maxRecDepth 20000
attribute [local go_sem] Oper.semAt_some

set_option maxHeartbeats 4000000 in
theorem ttrace_main (HD : DSumH) (l : List ByteArray) (d : Nat) (hd : l.length = 2 ^ d) (hd10 : d ≤ 10) (hsl : ∀ s ∈ l, s.size ≤ 140737488351232) (i : Int) (s : ByteArray) (hs : s.size ≤ 140737488351232) (path : List ByteArray) (hzp : path.length ≤ 9223372036854775807) (A B : Option Addr) (c c' : Nat)
    (ans : Option (Txt × Txt)) (hans : trcH l i s path = ans) (w : World) (hK : Consts w) (hA : Sl w A (strsV l)) (hB : Sl w B (strsV path)) :
    Calls Tryd.prog 25 #[.slice A l.length c, .int .i64 i, .string s, .slice B path.length c'] w fun e w' => e = .returned (outV ans) ∧ Below w.heap.size w w' := by
  refine (callsIn_wide (n := 3)).1 ?_
  refine callsIn_of_wp_marks Tryd.func25 rfl trivial ?_ rfl
  simp only [Tryd.ntmps25, List.size_toArray, List.length_cons, List.length_nil, Nat.reduceAdd, Nat.reduceSub, Array.replicate_succ, Array.replicate_zero, List.push_toArray, List.append_toArray, List.nil_append, List.cons_append]
  have HMAY := Lib.hid fun V => tmay_yes ⟨d, hd10, hd⟩ A c V
  have HOVER := Lib.hid fun V hKV hAV => over_any HD l d hd hd10 hsl A c V hAV hKV
  obtain ⟨r, hr⟩ : ∃ r, toB (rootL sumH (txtsL l) d) = r := ⟨_, rfl⟩
  have HROOT := Lib.hid fun v V hv => root_any l d hd hd10 A l.length c v r hr V hv
  obtain ⟨t, kc, hck⟩ : ∃ t k, climbH i s path = (t, k) := ⟨_, _, rfl⟩
  obtain ⟨bb, hbb⟩ : ∃ bb : Bool, bb = (decide (kc = 0) && decide (t = r)) := ⟨_, rfl⟩
  have HCHECK := Lib.hid fun V hKV hBV => tcheck_any HD r i s hs path B c' hzp t kc hck bb hbb V hKV hBV
  have HAh := Lib.hid hA
  have HBh := Lib.hid hB
  have HKh := Lib.hid hK
  have HL := Lib.hid hd
  have HSL := Lib.hid hsl
  obtain ⟨n, hn⟩ : ∃ n, l.length = n := ⟨_, rfl⟩
  obtain ⟨m, hm⟩ : ∃ m, path.length = m := ⟨_, rfl⟩
  have HN := Lib.hid hn
  have HM := Lib.hid hm
  have hm9 : m ≤ 9223372036854775807 := by omega
  have hn9 : n ≤ 1024 := by rw [← hn, hd]; have : 2 ^ d ≤ 2 ^ 10 := Nat.pow_le_pow_right (by omega) hd10; omega
  rw [hn] at HMAY HOVER HROOT ⊢
  rw [hm] at HCHECK ⊢
  clear hd hA hB hn hm hzp
  obtain ⟨W4, hW4⟩ : ∃ W4, ((((w.alloc (.cells #[.int .i64 i] 3)).alloc (.cells #[.string ⟨#[]⟩] 9)).alloc (.cells #[.string ⟨#[]⟩] 9)).alloc (.cells #[.bool false] 4)) = W4 := ⟨_, rfl⟩
  have hb4 : Below w.heap.size w W4 := by rw [← hW4]; exact (((Below.alloc0 w _).alloc (by simp) _).alloc (by simp; omega) _).alloc (by simp; omega) _
  have hT4 : W4.heap[w.heap.size]? = some (.cells #[.int .i64 i] 3) ∧ W4.heap[w.heap.size + 1]? = some (.cells #[.string ⟨#[]⟩] 9) ∧ W4.heap[w.heap.size + 1 + 1]? = some (.cells #[.string ⟨#[]⟩] 9) ∧ W4.heap[w.heap.size + 1 + 1 + 1]? = some (.cells #[.bool false] 4) := by
    rw [← hW4]
    have h1 := heap_alloc_new w (.cells #[.int .i64 i] 3)
    have h2 := heap_alloc_new (w.alloc (.cells #[.int .i64 i] 3)) (.cells #[.string ⟨#[]⟩] 9)
    have h3 := heap_alloc_new ((w.alloc (.cells #[.int .i64 i] 3)).alloc (.cells #[.string ⟨#[]⟩] 9)) (.cells #[.string ⟨#[]⟩] 9)
    have h4 := heap_alloc_new (((w.alloc (.cells #[.int .i64 i] 3)).alloc (.cells #[.string ⟨#[]⟩] 9)).alloc (.cells #[.string ⟨#[]⟩] 9)) (.cells #[.bool false] 4)
    simp only [World.size_alloc] at h2 h3 h4
    refine ⟨?_, ?_, ?_, h4⟩
    · exact (Below.heap_alloc _ _ _ (by simp only [World.size_alloc]; omega)).trans ((Below.heap_alloc _ _ _ (by simp only [World.size_alloc]; omega)).trans ((Below.heap_alloc _ _ _ (by simp only [World.size_alloc]; omega)).trans h1))
    · exact (Below.heap_alloc _ _ _ (by simp only [World.size_alloc]; omega)).trans ((Below.heap_alloc _ _ _ (by simp only [World.size_alloc]; omega)).trans h2)
    · exact (Below.heap_alloc _ _ _ (by simp only [World.size_alloc]; omega)).trans h3
  gi_wp2_with (first
    | (refine ⟨trivial, ?_⟩; gi_at_call 28; refine (callsIn_wide.2 (HMAY.out _)).mono ?_; rintro e w1 ⟨rfl, rfl⟩)
    | (refine ⟨trivial, ?_⟩; gi_at_call 29; refine (callsIn_wide.2 (HOVER.out _ (hK.keep hb4) (HAh.out.keep hb4))).mono ?_; rintro e w1 ⟨v, rfl, hat, hb1⟩; obtain ⟨g, cg, rfl, hg, hund⟩ := hat.under hd10))
  have hR1 := heap_alloc_new w1 (.cells #[.slice A n c, .slice (some ⟨g, 0, none⟩) (d + 1) cg] 44)
  have hbR := Below.alloc0 w1 (.cells #[.slice A n c, .slice (some ⟨g, 0, none⟩) (d + 1) cg] 44)
  have hb14 := hb1.next hbR
  have hT5 : TrS w.heap.size w1.heap.size i A n c (.slice (some ⟨g, 0, none⟩) (d + 1) cg) ⟨#[]⟩ ⟨#[]⟩ false (w1.alloc (.cells #[.slice A n c, .slice (some ⟨g, 0, none⟩) (d + 1) cg] 44)) :=
    ⟨heap_keepB hT4.1 hb14, heap_keepB hT4.2.1 hb14, heap_keepB hT4.2.2.1 hb14, heap_keepB hT4.2.2.2 hb14, hR1⟩
  have hat5 := hat.keep hbR
  have hb5 := hb4.next hb14
  clear hR1 hbR hb14 hb1 hb4 hT4 hat hg hund hW4
  generalize World.alloc w1 _ = V at *
  generalize w1.heap.size = R at *
  have HAT := Lib.hid hat5
  have hat5' := hat5
  obtain ⟨g', cg', he, hg, hund⟩ := hat5'.under hd10
  obtain ⟨rfl, rfl⟩ : g = g' ∧ cg = cg' := by simpa using he
  have hl0 : ∀ d' os, (Go.Sort.grow (redrawn V d') os).cell? ⟨R, 0, none⟩ = some (.slice A n c) := cell_regrown (by rw [cell_of_row _ _ _ _ _ _ hT5.2.2.2.2]; rfl)
  have hl1 : ∀ d' os, (Go.Sort.grow (redrawn V d') os).cell? ⟨R, 1, none⟩ = some (.slice (some ⟨g, 0, none⟩) (d + 1) cg) := cell_regrown (by rw [cell_of_row _ _ _ _ _ _ hT5.2.2.2.2]; rfl)
  have hl2 : ∀ d' os, (Go.Sort.grow (redrawn V d') os).cell? ⟨w.heap.size, 0, none⟩ = some (.int .i64 i) := cell_regrown (cell0 hT5.1)
  have hbN : w.heap.size ≤ V.heap.size := hb5.size
  have hx1 : ((d + 1 : Nat) : Int) - 1 = (d : Int) := by omega
  obtain ⟨x, hx⟩ : ∃ x, d + 1 = x := ⟨_, rfl⟩
  have HX := Lib.hid hx
  have hxl : x ≤ 11 := by omega
  have hx0 : 0 < x := by omega
  rw [hx] at hT5 hl1 hx1 hund HAT ⊢
  have hwd : IntKind.i64.wrap (d : Int) = (d : Int) := IntWalk.i64_in _ (by omega)
  clear hat5 hat5' he hx
  have HKV := hK.keep hb5
  have HBV := HBh.out.keep hb5
  have HAV := HAh.out.keep hb5
  by_cases hmd : m = d
  rotate_left
  · have hne : ((m : Int) != (d : Int)) = true := by rw [bne_iff_ne]; omega
    have HANS : Hid (ans = none) := Lib.hid (by
      rw [← hans, trcH_no]
      rintro n' d' rfl ⟨e1, e2, e3, e4, e5, e6, e7⟩
      have : d = d' := by rw [HL.out] at e1; exact (Nat.pow_right_inj (by omega)).1 e1
      exact hmd (by rw [← HM.out, e4, this]))
    clear hans hck hbb hmd HKV HBV HAV
    refine wpIn_wide.2 (wp_region_quiet_below (by kernel_rfl) (by kernel_rfl) ?_)
    repeat (quiet_step (fail))
    refine wpQuiet_nil ?_
    intro _ hw'
    obtain ⟨⟨dq, osq⟩, hw''⟩ := hw'
    subst hw''
    have hq := below_regrown V dq osq
    have hT6 := hT5.keep hq
    have hb6 := hb5.trans (hq.mono hbN)
    clear hl0 hl1 hl2 hT5
    generalize Go.Sort.grow (redrawn V dq) osq = V6 at *
    have z1 := cell0 hT6.2.1
    have z2 := cell0 hT6.2.2.1
    have z3 := cell0 hT6.2.2.2.1
    have f1 := froz0 (o := 0) hT6.2.1
    have f2 := froz0 (o := 0) hT6.2.2.1
    have f3 := froz0 (o := 0) hT6.2.2.2.1
    gi_wp2
    obtain ⟨y1, y2, y3⟩ := trace_set (⟨#[]⟩ : ByteArray) ⟨#[]⟩ false z1 z2 z3
    exact ⟨_, trace_ret rfl rfl rfl y1 y2 y3, by rw [HANS.out]; rfl, trace_setB hb6 _ _ _⟩
  subst hmd
  have hne : ((m : Int) != (m : Int)) = false := by simp
  cases bb with
  | false =>
    have HANS : Hid (ans = none) := Lib.hid (by
      rw [← hans, trcH_no]
      rintro n' d' rfl ⟨e1, e2, e3, e4, e5, e6, e7⟩
      have e8 : m = d' := by rw [HL.out] at e1; exact (Nat.pow_right_inj (by omega)).1 e1
      subst e8
      rw [climbH_yes e6, Int.toNat_natCast, e7, hr] at hck
      have e9 := Prod.mk.inj hck
      rw [← e9.1, ← e9.2] at hbb
      simp at hbb)
    clear hans hck hbb
    have c1 : ∀ d' os, Calls Tryd.prog 30 #[.agg #[.slice A n c, .slice (some ⟨g, 0, none⟩) x cg]] (Go.Sort.grow (redrawn V d') os) fun e w'' => e = .returned (.string r) ∧ ∃ p : Regrown, w'' = Go.Sort.grow (redrawn V p.d) p.os := fun d' os => Calls.regrown_of (HROOT.out _ _ (HAT.out.keep (below_regrown V d' os)))
    have c2 : ∀ d' os, Calls Tryd.prog 21 #[.string r, .int .i64 i, .string s, .slice B m c'] (Go.Sort.grow (redrawn V d') os) fun e w'' => e = .returned (.bool false) ∧ ∃ p : Regrown, w'' = Go.Sort.grow (redrawn V p.d) p.os := fun d' os => Calls.regrown_of (HCHECK.out _ (HKV.keep (below_regrown V d' os)) (HBV.keep (below_regrown V d' os)))
    clear HKV HBV HAV
    refine wpIn_wide.2 (wp_region_quiet_below (by kernel_rfl) (by kernel_rfl) ?_)
    repeat (quiet_step (first | exact c1 _ _ | exact c2 _ _))
    clear c1 c2
    refine wpQuiet_nil ?_
    intro _ hw'
    obtain ⟨⟨dq, osq⟩, hw''⟩ := hw'
    subst hw''
    have hq := below_regrown V dq osq
    have hT6 := hT5.keep hq
    have hb6 := hb5.trans (hq.mono hbN)
    clear hl0 hl1 hl2 hT5
    generalize Go.Sort.grow (redrawn V dq) osq = V6 at *
    have z1 := cell0 hT6.2.1
    have z2 := cell0 hT6.2.2.1
    have z3 := cell0 hT6.2.2.2.1
    have f1 := froz0 (o := 0) hT6.2.1
    have f2 := froz0 (o := 0) hT6.2.2.1
    have f3 := froz0 (o := 0) hT6.2.2.2.1
    gi_wp2
    obtain ⟨y1, y2, y3⟩ := trace_set (⟨#[]⟩ : ByteArray) ⟨#[]⟩ false z1 z2 z3
    exact ⟨_, trace_ret rfl rfl rfl y1 y2 y3, by rw [HANS.out]; rfl, trace_setB hb6 _ _ _⟩
  | true =>
    have hb1 : kc = 0 ∧ t = r := by
      rw [eq_comm, Bool.and_eq_true, decide_eq_true_eq, decide_eq_true_eq] at hbb
      exact hbb
    obtain ⟨rfl, rfl⟩ := hb1
    have hok : wayOk i path := Classical.byContradiction fun h => by
      rw [climbH_no h] at hck
      have := (Prod.mk.inj hck).2
      omega
    obtain ⟨n', rfl⟩ := Int.eq_ofNat_of_zero_le hok.2.1
    have hnm : n' < 2 ^ m := by
      have h := hok.2.2.1
      rw [HM.out] at h
      have e : ((2 : Int) ^ m) = ((2 ^ m : Nat) : Int) := by push_cast; rfl
      omega
    have hnl : n' < l.length := by rw [HL.out]; exact hnm
    obtain ⟨p, hp⟩ : ∃ p, l[n'] = p := ⟨_, rfl⟩
    have hln : l[n']? = some p := by rw [List.getElem?_eq_getElem hnl, hp]
    obtain ⟨b5, o5, rfl, hcp⟩ := sl_strV HAV hnl
    rw [hp] at hcp
    have hl3 := cell_regrown hcp
    have hnI : (n' : Int) < (n : Int) := by have := HN.out; omega
    have hn0 : (0 : Int) ≤ (n' : Int) := by omega
    by_cases hps : p = s
    · have HANS : Hid (ans = none) := Lib.hid (by
        rw [← hans, trcH_no]
        rintro n1 d' e0 ⟨e1, e2, e3, e4, e5, e6, e7⟩
        obtain rfl : n' = n1 := by omega
        exact e5 (by rw [hln, hps]))
      have hse : (s.toList == p.toList) = true := by rw [str_eq, decide_eq_true hps.symm]
      clear hans hck hbb hps hln hp hok
      have c1 : ∀ d' os, Calls Tryd.prog 30 #[.agg #[.slice (some ⟨b5, o5, none⟩) n c, .slice (some ⟨g, 0, none⟩) x cg]] (Go.Sort.grow (redrawn V d') os) fun e w'' => e = .returned (.string t) ∧ ∃ p : Regrown, w'' = Go.Sort.grow (redrawn V p.d) p.os := fun d' os => Calls.regrown_of (HROOT.out _ _ (HAT.out.keep (below_regrown V d' os)))
      have c2 : ∀ d' os, Calls Tryd.prog 21 #[.string t, .int .i64 (n' : Int), .string s, .slice B m c'] (Go.Sort.grow (redrawn V d') os) fun e w'' => e = .returned (.bool true) ∧ ∃ p : Regrown, w'' = Go.Sort.grow (redrawn V p.d) p.os := fun d' os => Calls.regrown_of (HCHECK.out _ (HKV.keep (below_regrown V d' os)) (HBV.keep (below_regrown V d' os)))
      clear HKV HBV HAV
      refine wpIn_wide.2 (wp_region_quiet_below (by kernel_rfl) (by kernel_rfl) ?_)
      repeat (quiet_step (first | exact c1 _ _ | exact c2 _ _))
      clear c1 c2 hl3
      refine wpQuiet_nil ?_
      intro _ hw'
      obtain ⟨⟨dq, osq⟩, hw''⟩ := hw'
      subst hw''
      have hq := below_regrown V dq osq
      have hT6 := hT5.keep hq
      have hb6 := hb5.trans (hq.mono hbN)
      clear hl0 hl1 hl2 hT5
      generalize Go.Sort.grow (redrawn V dq) osq = V6 at *
      have z1 := cell0 hT6.2.1
      have z2 := cell0 hT6.2.2.1
      have z3 := cell0 hT6.2.2.2.1
      have f1 := froz0 (o := 0) hT6.2.1
      have f2 := froz0 (o := 0) hT6.2.2.1
      have f3 := froz0 (o := 0) hT6.2.2.2.1
      gi_wp2
      obtain ⟨y1, y2, y3⟩ := trace_set (⟨#[]⟩ : ByteArray) ⟨#[]⟩ false z1 z2 z3
      exact ⟨_, trace_ret rfl rfl rfl y1 y2 y3, by rw [HANS.out]; rfl, trace_setB hb6 _ _ _⟩
    · have hse : (s.toList == p.toList) = false := by rw [str_eq, decide_eq_false fun h => hps h.symm]
      have HPS := Lib.hid hps
      have HLN := Lib.hid hln
      have HOK := Lib.hid hok
      have HANS := Lib.hid hans
      have HCK := Lib.hid hck
      have HNL := Lib.hid hnl
      have HR := Lib.hid hr
      clear hps hln hok hans hck hbb hp hnl hr
      have c1 : ∀ d' os, Calls Tryd.prog 30 #[.agg #[.slice (some ⟨b5, o5, none⟩) n c, .slice (some ⟨g, 0, none⟩) x cg]] (Go.Sort.grow (redrawn V d') os) fun e w'' => e = .returned (.string t) ∧ ∃ p : Regrown, w'' = Go.Sort.grow (redrawn V p.d) p.os := fun d' os => Calls.regrown_of (HROOT.out _ _ (HAT.out.keep (below_regrown V d' os)))
      have c2 : ∀ d' os, Calls Tryd.prog 21 #[.string t, .int .i64 (n' : Int), .string s, .slice B m c'] (Go.Sort.grow (redrawn V d') os) fun e w'' => e = .returned (.bool true) ∧ ∃ p : Regrown, w'' = Go.Sort.grow (redrawn V p.d) p.os := fun d' os => Calls.regrown_of (HCHECK.out _ (HKV.keep (below_regrown V d' os)) (HBV.keep (below_regrown V d' os)))
      refine wpIn_wide.2 (wp_region_quiet_below (by kernel_rfl) (by kernel_rfl) ?_)
      repeat (quiet_step (first | exact c1 _ _ | exact c2 _ _))
      clear c1 c2 hl3
      refine wpQuiet_nil ?_
      intro _ hw'
      obtain ⟨⟨dq, osq⟩, hw''⟩ := hw'
      subst hw''
      have hq := below_regrown V dq osq
      have hT6 := hT5.keep hq
      have hb6 := hb5.trans (hq.mono hbN)
      clear hl0 hl1 hl2 hT5
      have HK6 := HKV.keep hq
      have HB6 := HBV.keep hq
      have HAT6 := Lib.hid (HAT.out.keep hq)
      generalize Go.Sort.grow (redrawn V dq) osq = V6 at *
      have z0 := cell0 hT6.1
      have hcl := climbed_any HD n' (by have h := HNL.out; have h2 := HN.out; omega) s hs path HOK.out.1 HOK.out.2.2.2 B c' V6 HK6 HB6
      unfold ClimbedP at hcl
      rw [HM.out] at hcl
      have HCL := Lib.hid hcl
      clear hcl HD hsl hs hcp hund
      gi_wp2_with (refine ⟨trivial, ?_⟩; gi_at_call 40; refine (callsIn_wide.2 HCL.out).mono ?_; rintro e w7 ⟨v, rfl, hown, hb7⟩; obtain ⟨g2, c2, rfl, hg2, hc2, hll, hco⟩ := own_join hown (by omega); have hfr : V6.heap.size ≤ g2 := (by obtain ⟨A4, c4, e4, -, h4⟩ := own_slf hown; obtain ⟨rfl, -⟩ := Value.slice.inj e4; exact h4 _ rfl); have hT7 := hT6.keep hb7; have q0 : w7.cell? ⟨R, 0, none⟩ = some (.slice (some ⟨b5, o5, none⟩) n c) := (by rw [cell_of_row _ _ _ _ _ _ hT7.2.2.2.2]; rfl); have q1 : w7.cell? ⟨R, 1, none⟩ = some (.slice (some ⟨g, 0, none⟩) x cg) := (by rw [cell_of_row _ _ _ _ _ _ hT7.2.2.2.2]; rfl); obtain ⟨w8, hw8⟩ : ∃ w8, w7.alloc (.cells #[.slice (some ⟨g2, 0, none⟩) (m + 1) c2] 22) = w8 := ⟨_, rfl⟩; have hb8 : Below w7.heap.size w7 w8 := (by rw [← hw8]; exact Below.alloc0 _ _); have q8 : w8.cell? ⟨R, 0, none⟩ = some (.slice (some ⟨b5, o5, none⟩) n c) := ((hb8.cell (p := ⟨R, 0, none⟩) (block_lt_of_cell q0)).trans q0); have q9 : w8.cell? ⟨R, 1, none⟩ = some (.slice (some ⟨g, 0, none⟩) x cg) := ((hb8.cell (p := ⟨R, 1, none⟩) (block_lt_of_cell q1)).trans q1))
      have hX8 : w8.heap[w7.heap.size]? = some (.cells #[.slice (some ⟨g2, 0, none⟩) (m + 1) c2] 22) := by rw [← hw8]; exact heap_alloc_new _ _
      obtain ⟨w9, hw9⟩ : ∃ w9, (w8.alloc (.cells #[.slice (some ⟨b5, o5, none⟩) n c, .slice (some ⟨g, 0, none⟩) x cg] 44)).alloc (.cells #[.slice (some ⟨g, 0, none⟩) x cg] 42) = w9 := ⟨_, rfl⟩
      have hb9 : Below w8.heap.size w8 w9 := by rw [← hw9]; exact (Below.alloc0 _ _).alloc (by simp) _
      have hB9 : w9.heap[w8.heap.size + 1]? = some (.cells #[.slice (some ⟨g, 0, none⟩) x cg] 42) := by
        rw [← hw9]
        have h := heap_alloc_new (w8.alloc (.cells #[.slice (some ⟨b5, o5, none⟩) n c, .slice (some ⟨g, 0, none⟩) x cg] 44)) (.cells #[.slice (some ⟨g, 0, none⟩) x cg] 42)
        rwa [World.size_alloc] at h
      gi_wp2_with (refine ⟨trivial, ?_⟩; gi_at_call 43; refine (callsIn_wide.2 (downward_any _ _ _ _ _ _ w8)).mono ?_; rw [hw9]; rintro e w9' ⟨rfl, rfl⟩)
      have hb69 : Below V6.heap.size V6 w9 := (hb7.next hb8).next hb9
      have hT9 := hT6.keep hb69
      have hX9 := heap_keepB hX8 hb9
      have hbw9 : Below w.heap.size w w9 := hb6.trans (hb69.mono hb6.size)
      have hN6 : w.heap.size + 4 ≤ V6.heap.size := by have := (Array.getElem?_eq_some_iff.1 hT6.2.2.2.1).1; omega
      have hg2N : w.heap.size + 4 ≤ g2 := Nat.le_trans hN6 hfr
      have hXN : w.heap.size + 4 ≤ w7.heap.size := Nat.le_trans hN6 hb7.size
      have hat9 := HAT6.out.keep hb69
      have HAV9 := Lib.hid ((HAV.keep hq).keep hb69)
      have HTXT : Hid (∀ j u, j ≤ m → wayTH n' s path j = u.data.toList → w9.cell? ⟨g2, j, none⟩ = some (.string u)) := Lib.hid fun j u hj hu => by
        have h1 := hco j u (by rw [waysBH_at n' s path (by rw [HM.out]; omega), hu, toB_eq])
        rw [Nat.zero_add] at h1
        have h2 := hb8.next hb9
        exact (h2.cell (p := ⟨g2, j, none⟩) hg2).trans h1
      obtain ⟨gg, cgg, he2, hgg, hund⟩ := hat9.under hd10
      obtain ⟨rfl, -, rfl⟩ : g = gg ∧ x = m + 1 ∧ cg = cgg := by simpa using he2
      obtain ⟨U, hU⟩ : ∃ U : Nat → Value, ∀ q, q < x → w9.cell? ⟨g, q, none⟩ = some (U q) := by
        refine ⟨fun q => (w9.cell? ⟨g, q, none⟩).getD undef, fun q hq => ?_⟩
        obtain ⟨g3, c3, e3, -, h3⟩ := hat9
        obtain ⟨rfl, -, rfl⟩ : g = g3 ∧ x = m + 1 ∧ cg = c3 := by simpa using e3
        obtain ⟨u, hu, -⟩ := h3 q (by have := HX.out; omega)
        show w9.cell? ⟨g, q, none⟩ = some ((w9.cell? ⟨g, q, none⟩).getD undef)
        rw [hu]
        rfl
      have HUND : Hid (∀ j z, j < x → undT l j (n' / 2 ^ j) = z.data.toList → ∀ V, Below w9.heap.size w9 V → Calls Tryd.prog 44 #[.agg #[.slice (some ⟨b5, o5, none⟩) n c, .slice (some ⟨g, 0, none⟩) x cg], .int .i64 (j : Int), .int .i64 ((n' / 2 ^ j : Nat) : Int)] V fun e w' => e = .returned (.string z) ∧ Below V.heap.size V w') := Lib.hid fun j z hj hz V hV => by
        have hjm : j ≤ m := by have := HX.out; omega
        have h := under_any l m HL.out hd10 HSL.out (some ⟨b5, o5, none⟩) (some ⟨g, 0, none⟩) c x cg j (n' / 2 ^ j) hjm (half_lt hnm hjm) z hz V (HAV9.out.keep hV) ?_
        · rw [HN.out] at h
          exact h
        · have h2 := hund j hjm
          rw [HX.out] at h2
          intro h' hh
          obtain ⟨g4, u4, e4, l4, l5, c4, r4⟩ := h2 h' hh
          exact ⟨g4, u4, e4, l4, l5, (hV.cell (p := ⟨g4, h', none⟩) (block_lt_of_cell c4)).trans c4, r4.keep hV⟩
      have HOKK : Hid (trcHok l n' m s path) := Lib.hid ⟨HL.out, hd10, HNL.out, HM.out, by rw [HLN.out]; exact fun e => HPS.out (Option.some.inj e), HOK.out, by
        have h := HCK.out
        rw [climbH_yes HOK.out, Int.toNat_natCast] at h
        have h2 := (Prod.mk.inj h).1
        rw [← HR.out] at h2
        exact toB_inj h2⟩
      have HWA : Hid (∀ j, j < x → (wayA l n' m).getD j [] = undT l j (n' / 2 ^ j)) := Lib.hid fun j hj => (und_way l HL.out (by rw [← HL.out]; exact HNL.out) j (by have := HX.out; omega)).symm
      have HDONE : Hid ((∀ j, j < x → undT l j (n' / 2 ^ j) = wayTH n' s path j) → ans = none) := Lib.hid fun h => by
        rw [← HANS.out, trcH_yes HOKK.out, HX.out]
        exact lastDiff_no fun j hj => by rw [HWA.out j hj, h j hj]; rfl
      have HSTOP : Hid (∀ k, k < x → (∀ j, k < j → j < x → undT l j (n' / 2 ^ j) = wayTH n' s path j) → undT l k (n' / 2 ^ k) ≠ wayTH n' s path k → ans = some (undT l k (n' / 2 ^ k), wayTH n' s path k)) := Lib.hid fun k hk h hne => by
        rw [← HANS.out, trcH_yes HOKK.out, HX.out]
        have h2 := lastDiff_at (a := wayA l n' m) (b := wayB n' s path) hk (by rw [HWA.out k hk]; exact hne) (fun j h1 h2 => by rw [HWA.out j h2, h j h1 h2]; rfl)
        rw [h2, HWA.out k hk]
        rfl
      have hN9 : w.heap.size < w9.heap.size := (Array.getElem?_eq_some_iff.1 hT9.1).1
      have hN93 : w.heap.size + 1 + 1 + 1 < w9.heap.size := (Array.getElem?_eq_some_iff.1 hT9.2.2.2.1).1
      have hb1l : w8.heap.size + 1 < w9.heap.size := (Array.getElem?_eq_some_iff.1 hB9).1
      have hgl : g < w9.heap.size := hgg
      clear hb69 hX8 hb9 hb8 hb7 hT6 hT7 hco hll hc2 hg2 hown q0 q1 q8 q9 hw8 hw9 hat9 he2 hund z0 HK6 HB6 HAT6 HCL hq HKV HBV HAV hb6 hN6 hfr hbN
      generalize w7.heap.size = X at *
      generalize w8.heap.size + 1 = b1 at *
      refine wpIn_rangeFunc_ownF (α := {y : Nat // y < x}) rfl (by omega) (gf := 74) (lb := #[.pointer (some ⟨b1, 0, none⟩)]) rfl trivial
        (enters_of Tryd.func74 (by kernel_rfl) rfl) (downward1_in 2 (by omega) b1 g x cg hx0 hxl U w9 (cell0 hB9) hU) KpDn_t (KpDn_b hb1l hgl) (Below.refl _ _) (fun _ => rfl)
        (fun pre W => Below w9.heap.size w9 W ∧ ∀ q ∈ pre, undT l q.1 (n' / 2 ^ q.1) = wayTH n' s path q.1)
        (fun cd pre W => (cd = .ret ∧ ∃ pre0 y, pre = pre0 ++ [y] ∧ (∀ q ∈ pre0, undT l q.1 (n' / 2 ^ q.1) = wayTH n' s path q.1) ∧ undT l y.1 (n' / 2 ^ y.1) ≠ wayTH n' s path y.1 ∧
          W.heap[w.heap.size + 1]? = some (.cells #[.string (toB (undT l y.1 (n' / 2 ^ y.1)))] 9 (0, 0)) ∧ W.heap[w.heap.size + 1 + 1]? = some (.cells #[.string (toB (wayTH n' s path y.1))] 9 (0, 0)) ∧ W.heap[w.heap.size + 1 + 1 + 1]? = some (.cells #[.bool true] 4 (0, 0))) ∧ Below w.heap.size w W)
        (fun pre W W' row hs hg hr => ⟨ownFrom_below (Nat.le_refl _) (Nat.le_refl _) pre W W' row hs.1 hg hr, hs.2⟩)
        (fun cd pre W W' row hs hg hr => by
          obtain ⟨⟨rfl, pre0, y, e, h1, h2, h3, h4, h5⟩, h6⟩ := hs
          exact ⟨⟨rfl, pre0, y, e, h1, h2, (hg.block _ (Array.getElem?_eq_some_iff.1 h3).1 (by rintro e; have := (hr _ e.symm).1; omega)).trans h3, (hg.block _ (Array.getElem?_eq_some_iff.1 h4).1 (by rintro e; have := (hr _ e.symm).1; omega)).trans h4, (hg.block _ (Array.getElem?_eq_some_iff.1 h5).1 (by rintro e; have := (hr _ e.symm).1; omega)).trans h5⟩,
            ownFrom_below (B := w9.heap.size) (Nat.le_refl _) (by omega) pre W W' row h6 hg hr⟩)
        ⟨Below.refl _ _, by simp⟩
        (fun y => { tmps := #[.slice (some ⟨b5, o5, none⟩) n c, .int .i64 (n' : Int), .string s, .slice B m c', undef, .pointer (some ⟨w.heap.size, 0, none⟩), undef, undef, .pointer (some ⟨w.heap.size + 1, 0, none⟩), .pointer (some ⟨w.heap.size + 1 + 1, 0, none⟩), .pointer (some ⟨w.heap.size + 1 + 1 + 1, 0, none⟩), .pointer (some ⟨R, 0, none⟩), .pointer (some ⟨X, 0, none⟩), .int .i64 (y.1 : Int), undef, .slice (some ⟨b5, o5, none⟩) n c, .bool true, .bool false, .slice (some ⟨b5, o5, none⟩) n c, .agg #[.slice (some ⟨b5, o5, none⟩) n c, .slice (some ⟨g, 0, none⟩) x cg], .slice B m c', .int .i64 (m : Int), .pointer (some ⟨R, 1, none⟩), .slice (some ⟨g, 0, none⟩) x cg, .int .i64 (x : Int), .int .i64 (m : Int), .bool false, .bool false, .agg #[.slice (some ⟨b5, o5, none⟩) n c, .slice (some ⟨g, 0, none⟩) x cg], .string t, .int .i64 (n' : Int), .string s, .slice B m c', .bool true, .bool false, .bool false, .bool false, .string s, .slice (some ⟨b5, o5, none⟩) n c, .int .i64 (n' : Int), .pointer (some ⟨b5, o5 + n', none⟩), .string p, .bool false, .bool false, .int .i64 (n' : Int), .string s, .slice B m c', .slice (some ⟨g2, 0, none⟩) (m + 1) c2, .agg #[.slice (some ⟨b5, o5, none⟩) n c, .slice (some ⟨g, 0, none⟩) x cg], .func (.func 74) #[] #[.pointer (some ⟨b1, 0, none⟩)], .int .i64 (y.1 : Int), U y.1, undef, undef, undef, undef, undef, undef, undef, undef, undef, undef, undef, undef, undef, undef, undef, undef, undef], defers := [] }) ?assign ?body ?done ?stop
      case assign =>
        intro q y W K hKy
        gi_wp2
        exact hKy
      case body =>
        rintro q pre ⟨j, hj⟩ W ⟨hbW, heq⟩ hlen
        have hT := hT9.keep hbW
        have r0 : W.cell? ⟨R, 0, none⟩ = some (.slice (some ⟨b5, o5, none⟩) n c) := by rw [cell_of_row _ _ _ _ _ _ hT.2.2.2.2]; rfl
        have r1 : W.cell? ⟨R, 1, none⟩ = some (.slice (some ⟨g, 0, none⟩) x cg) := by rw [cell_of_row _ _ _ _ _ _ hT.2.2.2.2]; rfl
        have r2 := cell0 hT.1
        obtain ⟨z, hz⟩ : ∃ z : ByteArray, undT l j (n' / 2 ^ j) = z.data.toList := ⟨toB (undT l j (n' / 2 ^ j)), (toB_list _).symm⟩
        obtain ⟨u, hu⟩ : ∃ u : ByteArray, wayTH n' s path j = u.data.toList := ⟨toB (wayTH n' s path j), (toB_list _).symm⟩
        have hund := HUND.out j z hj hz
        have hjm : j ≤ m := by have := HX.out; omega
        have ht9 := HTXT.out j u hjm hu
        have hjI : (j : Int) < ((m + 1 : Nat) : Int) := by omega
        obtain ⟨yy, hyy⟩ : ∃ yy : Nat, n' / 2 ^ j = yy := ⟨_, rfl⟩
        have hsh : (n' : Int) / 2 ^ j = (yy : Int) := by rw [← hyy]; push_cast; rfl
        have hj0 : (0 : Int) ≤ (j : Int) := by omega
        rw [hyy] at hund
        have HZ := Lib.hid hz
        have HU2 := Lib.hid hu
        have HEQ := Lib.hid heq
        clear hz hu heq hyy hT
        have hm1 : m + 1 ≤ 11 := by omega
        generalize hmm : m + 1 = mm at *
        have HMM := Lib.hid hmm
        clear hmm
        gi_wp2_with fail
        refine Uptot.begin_round [] (fun w' : World => w'.cell? ⟨R, 0, none⟩ = some (.slice (some ⟨b5, o5, none⟩) n c) ∧ w'.cell? ⟨R, 1, none⟩ = some (.slice (some ⟨g, 0, none⟩) x cg) ∧ w'.cell? ⟨w.heap.size, 0, none⟩ = some (.int .i64 (n' : Int))) (fun _ => True) (by kernel_rfl) (by kernel_rfl) ?_
        have hST : (W.drew.cell? ⟨R, 0, none⟩ = some (.slice (some ⟨b5, o5, none⟩) n c) ∧ W.drew.cell? ⟨R, 1, none⟩ = some (.slice (some ⟨g, 0, none⟩) x cg) ∧ W.drew.cell? ⟨w.heap.size, 0, none⟩ = some (.int .i64 (n' : Int))) ∧ True := ⟨⟨r0, r1, r2⟩, trivial⟩
        have hbD := hbW.drew
        have hbWD := Below.drew0 W
        clear r0 r1 r2
        generalize hV2 : W.drew = V2 at *
        clear hV2
        refine Uptot.takeS (i := 0) (v := ?_) rfl (by kernel_rfl) (by kernel_rfl) (by kernel_rfl) (by kernel_rfl) (fun _ _ _ h => h) (Or.inl ⟨by rfl, ?_⟩) hST ?_
        rotate_left 1
        · intro w9 hSw; (try dsimp only at hSw); obtain ⟨h91, h92, h93⟩ := hSw; go_simp; (try with_reducible rfl)
        try simp only [Act.put, List.setIfInBounds_toArray, List.set_cons_zero, List.set_cons_succ]
        refine Uptot.takeS (i := 1) (v := ?_) rfl (by kernel_rfl) (by kernel_rfl) (by kernel_rfl) (by kernel_rfl) (fun _ _ _ h => h) (Or.inl ⟨by rfl, ?_⟩) hST ?_
        rotate_left 1
        · intro w9 hSw; (try dsimp only at hSw); obtain ⟨h91, h92, h93⟩ := hSw; go_simp; (try with_reducible rfl)
        try simp only [Act.put, List.setIfInBounds_toArray, List.set_cons_zero, List.set_cons_succ]
        refine Uptot.takeS (i := 2) (v := ?_) rfl (by kernel_rfl) (by kernel_rfl) (by kernel_rfl) (by kernel_rfl) (fun _ _ _ h => h) (Or.inl ⟨by rfl, ?_⟩) hST ?_
        rotate_left 1
        · intro w9 hSw; (try dsimp only at hSw); obtain ⟨h91, h92, h93⟩ := hSw; go_simp; (try with_reducible rfl)
        try simp only [Act.put, List.setIfInBounds_toArray, List.set_cons_zero, List.set_cons_succ]
        refine Uptot.takeS (i := 3) (v := ?_) rfl (by kernel_rfl) (by kernel_rfl) (by kernel_rfl) (by kernel_rfl) (fun _ _ _ h => h) (Or.inl ⟨by rfl, ?_⟩) hST ?_
        rotate_left 1
        · intro w9 hSw; (try dsimp only at hSw); obtain ⟨h91, h92, h93⟩ := hSw; go_simp; (try with_reducible rfl)
        try simp only [Act.put, List.setIfInBounds_toArray, List.set_cons_zero, List.set_cons_succ]
        refine Uptot.takeS (i := 4) (v := ?_) rfl (by kernel_rfl) (by kernel_rfl) (by kernel_rfl) (by kernel_rfl) (fun _ _ _ h => h) (Or.inl ⟨by rfl, ?_⟩) hST ?_
        rotate_left 1
        · intro w9 hSw; (try dsimp only at hSw); obtain ⟨h91, h92, h93⟩ := hSw; go_simp; (try with_reducible rfl)
        try simp only [Act.put, List.setIfInBounds_toArray, List.set_cons_zero, List.set_cons_succ]
        refine Uptot.one (i := 5) rfl (by kernel_rfl) (fun K hK9 => ?_)
        go_simp
        go_at_call 44
        refine (hund V2 hbD).mono ?_
        rintro e V3 ⟨rfl, hs3⟩
        replace hST : (V3.cell? ⟨R, 0, none⟩ = some (.slice (some ⟨b5, o5, none⟩) n c) ∧ V3.cell? ⟨R, 1, none⟩ = some (.slice (some ⟨g, 0, none⟩) x cg) ∧ V3.cell? ⟨w.heap.size, 0, none⟩ = some (.int .i64 (n' : Int))) ∧ True := ⟨⟨(hs3.cell (p := ⟨R, 0, none⟩) (block_lt_of_cell hST.1.1)).trans hST.1.1, (hs3.cell (p := ⟨R, 1, none⟩) (block_lt_of_cell hST.1.2.1)).trans hST.1.2.1, (hs3.cell (p := ⟨w.heap.size, 0, none⟩) (block_lt_of_cell hST.1.2.2)).trans hST.1.2.2⟩, trivial⟩
        have hb3 := hbD.next hs3
        have hbW3 := hbWD.next hs3
        clear hund hs3 hbD hbWD
        refine hK9.out _ _ (Cond.ahead hST) ?_
        clear hK9 K
        try simp only [Act.put, List.setIfInBounds_toArray, List.set_cons_zero, List.set_cons_succ]
        refine Uptot.one (i := 6) rfl (by kernel_rfl) (fun K hK9 => ?_)
        go_simp
        refine hK9.out _ _ (Cond.ahead hST) ?_
        clear hK9 K
        try simp only [Act.put, List.setIfInBounds_toArray, List.set_cons_zero, List.set_cons_succ]
        refine Uptot.done (by kernel_rfl) ?_ _
        refine plainEnd_in ?_
        clear hST
        have hX3 := (hb3.block X (Array.getElem?_eq_some_iff.1 hX9).1).trans hX9
        have x3 := cell0 hX3
        have t3 := (hb3.cell (p := ⟨g2, j, none⟩) (block_lt_of_cell ht9)).trans ht9
        by_cases hzu : z = u
        · have hse : (z.toList == u.toList) = true := by rw [str_eq, decide_eq_true hzu]
          gi_wp2
          refine ⟨others_of_below hbW3, ⟨hbW3.block _ (Nat.lt_of_lt_of_le hb1l hbW.size), hbW3.block _ (Nat.lt_of_lt_of_le hgl hbW.size)⟩, hb3, ?_⟩
          intro q hq
          rcases List.mem_append.1 hq with h | h
          · exact HEQ.out q h
          · obtain rfl := List.mem_singleton.1 h
            show undT l j (n' / 2 ^ j) = wayTH n' s path j
            rw [HZ.out, HU2.out, hzu]
        · have hse : (z.toList == u.toList) = false := by rw [str_eq, decide_eq_false hzu]
          gi_wp2_with fail
          refine Uptot.begin_round [] (fun w' : World => w'.cell? ⟨X, 0, none⟩ = some (.slice (some ⟨g2, 0, none⟩) mm c2) ∧ w'.cell? ⟨g2, j, none⟩ = some (.string u)) (fun _ => True) (by kernel_rfl) (by kernel_rfl) ?_
          have hST : (V3.drew.cell? ⟨X, 0, none⟩ = some (.slice (some ⟨g2, 0, none⟩) mm c2) ∧ V3.drew.cell? ⟨g2, j, none⟩ = some (.string u)) ∧ True := ⟨⟨x3, t3⟩, trivial⟩
          have hT4 : TrS w.heap.size R (n' : Int) (some ⟨b5, o5, none⟩) n c (.slice (some ⟨g, 0, none⟩) x cg) ⟨#[]⟩ ⟨#[]⟩ false V3.drew := (hT9.keep hb3.drew)
          have hbW4 := hbW3.drew
          have hb94 := hb3.drew
          clear x3 t3 hb3 hbW3
          generalize hV4 : V3.drew = V4 at *
          clear hV4
          have z1 := cell0 hT4.2.1
          have z2 := cell0 hT4.2.2.1
          have z3 := cell0 hT4.2.2.2.1
          have f1 := froz0 (o := 0) hT4.2.1
          have f2 := froz0 (o := 0) hT4.2.2.1
          have f3 := froz0 (o := 0) hT4.2.2.2.1
          refine Uptot.takeS (i := 0) (v := ?_) rfl (by kernel_rfl) (by kernel_rfl) (by kernel_rfl) (by kernel_rfl) (fun _ _ _ h => h) (Or.inl ⟨by rfl, ?_⟩) hST ?_
          rotate_left 1
          · intro w9 hSw; (try dsimp only at hSw); obtain ⟨h91, h92⟩ := hSw; go_simp; (try with_reducible rfl)
          try simp only [Act.put, List.setIfInBounds_toArray, List.set_cons_zero, List.set_cons_succ]
          refine Uptot.takeS (i := 1) (v := ?_) rfl (by kernel_rfl) (by kernel_rfl) (by kernel_rfl) (by kernel_rfl) (fun _ _ _ h => h) (Or.inl ⟨by rfl, ?_⟩) hST ?_
          rotate_left 1
          · intro w9 hSw; (try dsimp only at hSw); obtain ⟨h91, h92⟩ := hSw; go_simp; (try with_reducible rfl)
          try simp only [Act.put, List.setIfInBounds_toArray, List.set_cons_zero, List.set_cons_succ]
          refine Uptot.takeS (i := 2) (v := ?_) rfl (by kernel_rfl) (by kernel_rfl) (by kernel_rfl) (by kernel_rfl) (fun _ _ _ h => h) (Or.inl ⟨by rfl, ?_⟩) hST ?_
          rotate_left 1
          · intro w9 hSw; (try dsimp only at hSw); obtain ⟨h91, h92⟩ := hSw; go_simp; (try with_reducible rfl)
          try simp only [Act.put, List.setIfInBounds_toArray, List.set_cons_zero, List.set_cons_succ]
          refine Uptot.takeS (i := 3) (v := ?_) rfl (by kernel_rfl) (by kernel_rfl) (by kernel_rfl) (by kernel_rfl) (fun _ _ _ h => h) (Or.inl ⟨by rfl, ?_⟩) hST ?_
          rotate_left 1
          · intro w9 hSw; (try dsimp only at hSw); obtain ⟨h91, h92⟩ := hSw; go_simp; (try with_reducible rfl)
          try simp only [Act.put, List.setIfInBounds_toArray, List.set_cons_zero, List.set_cons_succ]
          refine Uptot.takeS (i := 4) (v := ?_) rfl (by kernel_rfl) (by kernel_rfl) (by kernel_rfl) (by kernel_rfl) (fun _ _ _ h => h) (Or.inl ⟨by rfl, ?_⟩) hST ?_
          rotate_left 1
          · intro w9 hSw; (try dsimp only at hSw); obtain ⟨h91, h92⟩ := hSw; go_simp; (try with_reducible rfl)
          try simp only [Act.put, List.setIfInBounds_toArray, List.set_cons_zero, List.set_cons_succ]
          refine Uptot.one (i := 5) rfl (by kernel_rfl) (fun K hK9 => ?_)
          go_simp
          replace hST : ((V4.setCell ⟨w.heap.size + 1, 0, none⟩ (.string z)).cell? ⟨X, 0, none⟩ = some (.slice (some ⟨g2, 0, none⟩) mm c2) ∧ (V4.setCell ⟨w.heap.size + 1, 0, none⟩ (.string z)).cell? ⟨g2, j, none⟩ = some (.string u)) ∧ True := ⟨⟨(World.cell?_setCell_other _ _ _ _ (by simp <;> omega)).trans hST.1.1, (World.cell?_setCell_other _ _ _ _ (by simp <;> omega)).trans hST.1.2⟩, trivial⟩
          refine hK9.out _ _ (Cond.ahead hST) ?_
          clear hK9 K
          try simp only [Act.put, List.setIfInBounds_toArray, List.set_cons_zero, List.set_cons_succ]
          refine Uptot.one (i := 6) rfl (by kernel_rfl) (fun K hK9 => ?_)
          go_simp
          replace hST : (((V4.setCell ⟨w.heap.size + 1, 0, none⟩ (.string z)).setCell ⟨w.heap.size + 1 + 1, 0, none⟩ (.string u)).cell? ⟨X, 0, none⟩ = some (.slice (some ⟨g2, 0, none⟩) mm c2) ∧ ((V4.setCell ⟨w.heap.size + 1, 0, none⟩ (.string z)).setCell ⟨w.heap.size + 1 + 1, 0, none⟩ (.string u)).cell? ⟨g2, j, none⟩ = some (.string u)) ∧ True := ⟨⟨(World.cell?_setCell_other _ _ _ _ (by simp <;> omega)).trans hST.1.1, (World.cell?_setCell_other _ _ _ _ (by simp <;> omega)).trans hST.1.2⟩, trivial⟩
          refine hK9.out _ _ (Cond.ahead hST) ?_
          clear hK9 K
          try simp only [Act.put, List.setIfInBounds_toArray, List.set_cons_zero, List.set_cons_succ]
          refine Uptot.one (i := 7) rfl (by kernel_rfl) (fun K hK9 => ?_)
          go_simp
          replace hST : ((((V4.setCell ⟨w.heap.size + 1, 0, none⟩ (.string z)).setCell ⟨w.heap.size + 1 + 1, 0, none⟩ (.string u)).setCell ⟨w.heap.size + 1 + 1 + 1, 0, none⟩ (.bool true)).cell? ⟨X, 0, none⟩ = some (.slice (some ⟨g2, 0, none⟩) mm c2) ∧ (((V4.setCell ⟨w.heap.size + 1, 0, none⟩ (.string z)).setCell ⟨w.heap.size + 1 + 1, 0, none⟩ (.string u)).setCell ⟨w.heap.size + 1 + 1 + 1, 0, none⟩ (.bool true)).cell? ⟨g2, j, none⟩ = some (.string u)) ∧ True := ⟨⟨(World.cell?_setCell_other _ _ _ _ (by simp <;> omega)).trans hST.1.1, (World.cell?_setCell_other _ _ _ _ (by simp <;> omega)).trans hST.1.2⟩, trivial⟩
          refine hK9.out _ _ (Cond.ahead hST) ?_
          clear hK9 K
          try simp only [Act.put, List.setIfInBounds_toArray, List.set_cons_zero, List.set_cons_succ]
          refine Uptot.done (by kernel_rfl) ?_ _
          refine plainEnd_in ?_
          clear hST
          gi_wp2
          obtain ⟨y1, y2, y3⟩ := trace_heap z u true hT4.2.1 hT4.2.2.1 hT4.2.2.2.1
          refine ⟨(((others_of_below hbW4).trans (KeepsOthers.setCell _ _ _)).trans (KeepsOthers.setCell _ _ _)).trans (KeepsOthers.setCell _ _ _), ⟨rfl, pre, ⟨j, hj⟩, rfl, HEQ.out, ?_, ?_, ?_, y3⟩, trace_setB (hbw9.next hb94) z u true⟩
          · show undT l j (n' / 2 ^ j) ≠ wayTH n' s path j
            rw [HZ.out, HU2.out]
            exact fun e => hzu (ByteArray.ext (Array.toList_inj.1 e))
          · show _ = some (Obj.cells #[.string (toB (undT l j (n' / 2 ^ j)))] 9 (0, 0))
            rw [HZ.out, toB_eq]
            exact y1
          · show _ = some (Obj.cells #[.string (toB (wayTH n' s path j))] 9 (0, 0))
            rw [HU2.out, toB_eq]
            exact y2
      case done =>
        rintro D xs W hD rfl ⟨hbW, heq⟩ hKd
        have HNONE := Lib.hid (HDONE.out fun j hj => heq ⟨j, hj⟩ (downS_mem hx0 x hj (by omega)))
        have hT := hT9.keep hbW
        have z1 := cell0 hT.2.1
        have z2 := cell0 hT.2.2.1
        have z3 := cell0 hT.2.2.2.1
        have f1 := froz0 (o := 0) hT.2.1
        have f2 := froz0 (o := 0) hT.2.2.1
        have f3 := froz0 (o := 0) hT.2.2.2.1
        clear heq
        gi_wp2
        obtain ⟨y1, y2, y3⟩ := trace_heap (⟨#[]⟩ : ByteArray) ⟨#[]⟩ false hT.2.1 hT.2.2.1 hT.2.2.2.1
        have hKd2 := (Below.heap_setCell _ ⟨w.heap.size + 1 + 1 + 1, 0, none⟩ (.bool false) D (by simp; omega)).trans ((Below.heap_setCell _ ⟨w.heap.size + 1 + 1, 0, none⟩ (.string ⟨#[]⟩) D (by simp; omega)).trans ((Below.heap_setCell _ ⟨w.heap.size + 1, 0, none⟩ (.string ⟨#[]⟩) D (by simp; omega)).trans hKd))
        have hbS := trace_setB (hbw9.next hbW) ⟨#[]⟩ ⟨#[]⟩ false
        generalize (((W.setCell _ _).setCell _ _).setCell _ _) = W9 at *
        have hbd : Below w.heap.size w (W9.putObj D (.deferred none)) := hbS.grown (grownBy_putObj' W9 D _) (by have := hbS.size; omega) (fun k e => by cases e; omega)
        refine ⟨by simp, .inl ⟨_, _, rfl, run_takeDeferred hKd2, ?_⟩⟩
        exact ⟨_, trace_ret rfl rfl rfl (cell0 ((World.putObj_heap_other (by omega)).trans y1)) (cell0 ((World.putObj_heap_other (by omega)).trans y2)) (cell0 ((World.putObj_heap_other (by omega)).trans y3)), by rw [HNONE.out]; rfl, hbd⟩
      case stop =>
        rintro D cd pre W hD hpre ⟨⟨rfl, pre0, y, rfl, h1, h2, h3, h4, h5⟩, h6⟩ hKd
        obtain ⟨k, hk, hk2, hk3⟩ := downS_split hx0 hpre
        have HANS2 := Lib.hid (HSTOP.out y.1 y.2 (fun j hj1 hj2 => h1 ⟨j, hj2⟩ (by rw [hk2]; exact downS_mem hx0 k hj2 (by omega))) h2)
        clear hk2 hk3 h1 h2
        gi_wp2
        have hbd : Below w.heap.size w (W.putObj D (.deferred none)) := h6.grown (grownBy_putObj' W D _) (by have := h6.size; omega) (fun k e => by cases e; omega)
        refine ⟨by simp, .inl ⟨_, _, rfl, run_takeDeferred hKd, ?_⟩⟩
        exact ⟨_, trace_ret rfl rfl rfl (cell0 ((World.putObj_heap_other (by omega)).trans h3)) (cell0 ((World.putObj_heap_other (by omega)).trans h4)) (cell0 ((World.putObj_heap_other (by omega)).trans h5)), by rw [HANS2.out]; rfl, hbd⟩
end Go.Proofs.YtgcohoonhklkbaaDoor

/-
  tree: texts of which each has a digest (the document's answer); what Collide finds, as mathematics; Collide where it looks at nothing.
-/
namespace Go.Kx
section
variable {P : Program} {md : Region.Mode} {ls : List Oper} {Q : Exit → Act → World → Prop} {S T : World → Prop} {Ls : List Nat} {n : Nat} {l : Array Bool} {a : Act} {w : World}
/-- Either of two operations may come. -/
theorem Uptot.two {i j : Nat} {o p : Oper} {rest rest' : List Oper} (hi : ls.drop i = o :: rest) (hj : ls.drop j = p :: rest') (hr : Region.ready md ls.toArray l = [i, j])
    (h : ∀ K : Act → World → Prop, Shut (∀ a w, Cond S T Ls (l.setIfInBounds i true) w → Uptot P md ls.toArray Q S T Ls n (l.setIfInBounds i true) a w → K a w) → if Region.wanted o (yielded ls.toArray a.tmps) = true then Oper.wp P o a w K Q else K (a.put o.dst undef) w)
    (h' : ∀ K : Act → World → Prop, Shut (∀ a w, Cond S T Ls (l.setIfInBounds j true) w → Uptot P md ls.toArray Q S T Ls n (l.setIfInBounds j true) a w → K a w) → if Region.wanted p (yielded ls.toArray a.tmps) = true then Oper.wp P p a w K Q else K (a.put p.dst undef) w) :
    Uptot P md ls.toArray Q S T Ls (n + 1) l a w := ⟨fun h0 => (by rw [hr] at h0; cases h0), fun k hk => by
  rw [hr] at hk
  rcases List.mem_cons.1 hk with rfl | hk
  · exact wpOp_step (drop_at hi) fun K hK => h K fun a w h1 h2 => hK a w ⟨h1, h2⟩
  · obtain rfl := List.mem_singleton.1 hk
    exact wpOp_step (drop_at hj) fun K hK => h' K fun a w h1 h2 => hK a w ⟨h1, h2⟩⟩
end
end Go.Kx
namespace Go.Proofs.YtgcohoonhklkbaaDoor
open Go.RowKit Go.Kx Go.Trm
set_option maxRecDepth 20000

/-! ### texts that have digests -/
theorem pairs_same : ∀ (r : List Txt), (∀ x ∈ r, x.length ≤ 32) → pairsL sumH r = pairsL sumL r
  | [], _ => rfl
  | [_], _ => rfl
  | a :: b :: r, h => by
    have h1 := h a (by simp)
    have h2 := h b (by simp)
    rw [pairsL, pairsL, pairs_same r fun x hx => h x (by simp [hx]), nodeL, nodeL, sumH_short (by simp only [ofNodeL, List.length_cons, List.length_append]; omega)]
theorem pairs_le : ∀ (r : List Txt), ∀ x ∈ pairsL sumL r, x.length ≤ 32
  | [], x, h => by cases h
  | [_], x, h => by cases h
  | a :: b :: r, x, h => by
    rw [pairsL] at h
    rcases List.mem_cons.1 h with rfl | h
    · exact Nat.le_of_eq (sumT_length _)
    · exact pairs_le r x h
theorem rows_le (l : List Txt) : ∀ k, ∀ x ∈ rowL sumL l k, x.length ≤ 32
  | 0, x, h => by
    obtain ⟨y, -, rfl⟩ := List.mem_map.1 h
    exact Nat.le_of_eq (sumT_length _)
  | k + 1, x, h => pairs_le _ x h
theorem rows_same (l : List Txt) (hl : ∀ s ∈ l, s.length ≤ 999999999) : ∀ k, rowL sumH l k = rowL sumL l k
  | 0 => List.map_congr_left fun s hs => by rw [leafL, leafL, sumH_short (by have := hl s hs; simp only [ofLeafL, List.length_cons]; omega)]
  | k + 1 => by rw [rowL, rowL, rows_same l hl k, pairs_same _ (rows_le l k)]
theorem txts_le {l : List ByteArray} {N : Nat} (h : ∀ s ∈ l, s.size ≤ N) : ∀ x ∈ txtsL l, x.length ≤ N := fun x hx => by
  obtain ⟨s, hs, rfl⟩ := List.mem_map.1 hx
  have := h s hs
  simpa using this
theorem undT_below (l : List ByteArray) (hl : ∀ s ∈ l, s.size ≤ 999999999) (h k : Nat) : undT l h k = belowL (txtsL l) h k := by
  cases h with
  | zero => rfl
  | succ h => rw [undT, belowL, if_neg (by omega), Nat.add_sub_cancel, rows_same _ (txts_le hl)]
theorem root_same (l : List ByteArray) (hl : ∀ s ∈ l, s.size ≤ 999999999) (d : Nat) : rootL sumH (txtsL l) d = rootL sumL (txtsL l) d := by rw [rootL, rootL, rows_same _ (txts_le hl)]
theorem path_same (l : List ByteArray) (hl : ∀ s ∈ l, s.size ≤ 999999999) (i d : Nat) : pathL sumH (txtsL l) i d = pathL sumL (txtsL l) i d := by
  unfold pathL
  exact List.map_congr_left fun k _ => by rw [rows_same _ (txts_le hl)]
theorem ways_same : ∀ (ps : List Txt) (i : Nat) (x : Txt), x.length ≤ 1000000000 → (∀ p ∈ ps, p.length ≤ 32) → waysL sumH i x ps = waysL sumL i x ps ∧ climbL sumH i x ps = climbL sumL i x ps
  | [], _, x, hx, _ => ⟨rfl, by rw [climbL, climbL, sumH_short hx]⟩
  | p :: ps, i, x, hx, hp => by
    have e : stepW sumH i x p = stepW sumL i x p := by unfold stepW; rw [sumH_short hx]
    have hl : (stepW sumL i x p).length ≤ 1000000000 := by
      have h1 := hp p (by simp)
      unfold stepW ofNodeL
      split <;> simp only [List.length_cons, List.length_append, sumT_length] <;> omega
    have h := ways_same ps (i / 2) (stepW sumL i x p) hl fun q hq => hp q (by simp [hq])
    refine ⟨?_, ?_⟩
    · rw [waysL, waysL, e, h.1]
    · rw [climbL, climbL, e, h.2]

/-! ### what Collide finds -/
theorem colK_none {f g : Nat → Txt} : ∀ (n k : Nat), (∀ j, k ≤ j → j < k + n → f j = g j) → colK f g n k = none
  | 0, _, _ => rfl
  | n + 1, k, h => by
    rw [colK, if_pos (h k (Nat.le_refl _) (by omega))]
    exact colK_none n (k + 1) fun j h1 h2 => h j (by omega) (by omega)
theorem colK_some {f g : Nat → Txt} : ∀ (n k j : Nat), k ≤ j → j < k + n → (∀ i, k ≤ i → i < j → f i = g i) → f j ≠ g j → colK f g n k = some (f j, g j)
  | 0, k, j, h1, h2, _, _ => by omega
  | n + 1, k, j, h1, h2, h3, h4 => by
    by_cases hkj : k = j
    · subst hkj
      rw [colK, if_neg h4]
    · rw [colK, if_pos (h3 k (Nat.le_refl _) (by omega))]
      exact colK_some n (k + 1) j (by omega) (by omega) (fun i h5 h6 => h3 i (by omega) h6) h4
theorem colD_at {l m : List Txt} {d : Nat} : ∀ {n y k : Nat}, y < n → (∀ r, y < r → r < n → ∀ j, j < 2 ^ (d - r) → belowL l r j = belowL m r j) → k < 2 ^ (d - y) → (∀ j, j < k → belowL l y j = belowL m y j) → belowL l y k ≠ belowL m y k → colD l m d n = some (belowL l y k, belowL m y k)
  | n + 1, y, k, hy, h1, hk, h2, h3 => by
    by_cases hyn : y = n
    · subst hyn
      exact colD_some (colK_some _ 0 k (by omega) (by omega) (fun j _ hj => h2 j hj) h3)
    · rw [colD_none (colK_none _ 0 fun j _ hj => h1 n (by omega) (by omega) j (by omega))]
      exact colD_at (by omega) (fun r hr1 hr2 => h1 r hr1 (by omega)) hk h2 h3
/-- Unlike rows are unlike somewhere at the Leaves. -/
theorem leaves_unlike {l m : List ByteArray} (hlm : l.length = m.length) (h : ∀ j, j < l.length → undT l 0 j = undT m 0 j) : l = m := by
  refine List.ext_getElem hlm fun j h1 h2 => ?_
  have e := h j h1
  rw [undT, undT, txtsL_get l h1, txtsL_get m h2] at e
  exact ByteArray.ext (Array.toList_inj.1 (ofLeaf_inj e))

/-! ### where Collide looks at nothing -/
theorem tcollide_early (l m : List ByteArray) (A B : Option Addr) (c c' : Nat) (hz : l.length ≤ 9223372036854775807) (h : ¬ (l.length = m.length ∧ mayN l.length ∧ l ≠ m)) (w : World) (hA : Sl w A (strsV l)) (hB : Sl w B (strsV m)) :
    Calls Tryd.prog 23 #[.slice A l.length c, .slice B m.length c'] w fun e w' => e = .returned (outV none) ∧ Below w.heap.size w w' := by
  by_cases hl : l.length = m.length
  · have hne : ((l.length : Int) != (m.length : Int)) = false := by simp [hl]
    by_cases hm : mayN l.length
    · have hlm : l = m := Classical.byContradiction fun h2 => h ⟨hl, hm, h2⟩
      have hmay := tmay_yes hm A c w
      have htx := equal_any A B c c' l m w (by have := may_pos hm; omega) true (by rw [decide_eq_true hlm]) hl hA hB
      clear hlm h hA hB hm hl
      generalize l.length = x at *
      generalize m.length = y at *
      go_enter Tryd.func23, Tryd.ntmps23
      go_wp2_with fail
      go_step3
      go_wp2_with fail
      refine hmay.mono ?_
      rintro e w ⟨rfl, rfl⟩
      go_wp2_with fail
      refine htx.mono ?_
      rintro e w1 ⟨rfl, n, rfl⟩
      go_wp2
      rw [Exit.noGoto_ret]
      go_ret3
      exact ⟨rfl, Below.drewN0 _ _⟩
    · have hmay := tmay_no hm hz A c w
      clear h hA hB hm hl
      generalize l.length = x at *
      generalize m.length = y at *
      go_enter Tryd.func23, Tryd.ntmps23
      go_wp2_with fail
      go_step3
      go_wp2_with fail
      refine hmay.mono ?_
      rintro e w ⟨rfl, rfl⟩
      go_wp2
      rw [Exit.noGoto_ret]
      go_ret3
      exact ⟨rfl, Below.refl _ _⟩
  · have hne : ((l.length : Int) != (m.length : Int)) = true := by rw [bne_iff_ne]; omega
    clear h hA hB hl
    generalize l.length = x at *
    generalize m.length = y at *
    go_enter Tryd.func23, Tryd.ntmps23
    go_wp2_with fail
    go_step3
    go_wp2
    rw [Exit.noGoto_ret]
    go_ret3
    exact ⟨rfl, Below.refl _ _⟩
end Go.Proofs.YtgcohoonhklkbaaDoor

/-
  tree: the contract of Collide (of texts that have digests).
-/
namespace Go.Proofs.YtgcohoonhklkbaaDoor
open Go.RowKit Go.Kx Go.Shelf Go.Trm
set_option maxRecDepth 20000
attribute [local go_sem] Oper.semAt_some

set_option maxHeartbeats 4000000 in
theorem tcollide_main (HD : DSumH) (l m : List ByteArray) (d : Nat) (hd : l.length = 2 ^ d) (hlm : l.length = m.length) (hd10 : d ≤ 10) (hne : l ≠ m) (hsl : ∀ s ∈ l, s.size ≤ 999999999) (hsm : ∀ s ∈ m, s.size ≤ 999999999) (A B : Option Addr) (c c' : Nat)
    (ans : Option (Txt × Txt)) (hans : colA l m = ans) (w : World) (hK : Consts w) (hA : Sl w A (strsV l)) (hB : Sl w B (strsV m)) :
    Calls Tryd.prog 23 #[.slice A l.length c, .slice B m.length c'] w fun e w' => e = .returned (outV ans) ∧ Below w.heap.size w w' := by
  refine (callsIn_wide (n := 3)).1 ?_
  refine callsIn_of_wp_marks Tryd.func23 rfl trivial ?_ rfl
  simp only [Tryd.ntmps23, List.size_toArray, List.length_cons, List.length_nil, Nat.reduceAdd, Nat.reduceSub, Array.replicate_succ, Array.replicate_zero, List.push_toArray, List.append_toArray, List.nil_append, List.cons_append]
  have hdm : m.length = 2 ^ d := by rw [← hlm]; exact hd
  have HMAY := Lib.hid fun V => tmay_yes ⟨d, hd10, hd⟩ A c V
  have HEQL := Lib.hid (equal_any A B c c' l m w (by have := may_pos ⟨d, hd10, hd⟩; omega) false (by rw [decide_eq_false hne]) hlm hA hB)
  have HOV1 := Lib.hid fun V hKV hAV => over_any HD l d hd hd10 (fun s hs => by have := hsl s hs; omega) A c V hAV hKV
  have HOV2 := Lib.hid fun V hKV hBV => over_any HD m d hdm hd10 (fun s hs => by have := hsm s hs; omega) B c' V hBV hKV
  obtain ⟨r1, hr1⟩ : ∃ r, toB (rootL sumH (txtsL l) d) = r := ⟨_, rfl⟩
  obtain ⟨r2, hr2⟩ : ∃ r, toB (rootL sumH (txtsL m) d) = r := ⟨_, rfl⟩
  have HRT1 := Lib.hid fun v V hv => root_any l d hd hd10 A l.length c v r1 hr1 V hv
  have HRT2 := Lib.hid fun v V hv => root_any m d hdm hd10 B m.length c' v r2 hr2 V hv
  have HAh := Lib.hid hA
  have HBh := Lib.hid hB
  have HKh := Lib.hid hK
  have HL := Lib.hid hd
  have HLM := Lib.hid hdm
  have HSL := Lib.hid hsl
  have HSM := Lib.hid hsm
  have HNE := Lib.hid hne
  have HLEN := Lib.hid hlm
  have HANS := Lib.hid hans
  have HR1 := Lib.hid hr1
  have HR2 := Lib.hid hr2
  obtain ⟨n, hn⟩ : ∃ n, l.length = n := ⟨_, rfl⟩
  have hn2 : m.length = n := by rw [← hlm]; exact hn
  have HN := Lib.hid hn
  have HN2 := Lib.hid hn2
  have hn9 : n ≤ 1024 := by rw [← hn, hd]; have : 2 ^ d ≤ 2 ^ 10 := Nat.pow_le_pow_right (by omega) hd10; omega
  rw [hn] at HMAY HEQL HOV1 HRT1 ⊢
  rw [hn2] at HEQL HOV2 HRT2 ⊢
  clear hd hA hB hn hn2 hlm hdm hne hans hr1 hr2 hsl hsm HD
  have hnn : ((n : Int) != (n : Int)) = false := by simp
  gi_wp2_with fail
  refine wpIn_wide.2 (wp_scope_straight ((wpIn_wide (n := 3)).1 ?_))
  gi_wp2_with (refine ⟨trivial, ?_⟩; gi_at_call 28; refine (callsIn_wide.2 (HMAY.out _)).mono ?_; rintro e w1 ⟨rfl, rfl⟩)
  refine ⟨trivial, ?_⟩
  gi_at_call 42
  refine (callsIn_wide.2 HEQL.out).mono ?_
  rintro e w1 ⟨rfl, q1, rfl⟩
  have hb0 : Below w.heap.size w (w.drewN q1) := Below.drewN0 _ _
  generalize w.drewN q1 = W1 at *
  gi_wp2_with fail
  refine ⟨trivial, ?_⟩
  gi_at_call 29
  refine (callsIn_wide.2 (HOV1.out _ (hK.keep hb0) (HAh.out.keep hb0))).mono ?_
  rintro e w2 ⟨v1, rfl, hat1, hb1⟩
  obtain ⟨g1, cg1, rfl, hg1, hund1⟩ := hat1.under hd10
  have hb02 := hb0.next hb1
  have HAT1 := Lib.hid hat1
  have HUN1 := Lib.hid hund1
  clear hat1 hund1
  obtain ⟨x, hx⟩ : ∃ x, d + 1 = x := ⟨_, rfl⟩
  have HX := Lib.hid hx
  have hx0 : 0 < x := by omega
  have hxl : x ≤ 11 := by omega
  rw [hx] at HAT1 HUN1 ⊢
  gi_wp2_with fail
  refine ⟨trivial, ?_⟩
  gi_at_call 29
  refine (callsIn_wide.2 (HOV2.out _ (hK.keep hb02) (HBh.out.keep hb02))).mono ?_
  rintro e w3 ⟨v2, rfl, hat2, hb2⟩
  obtain ⟨g2, cg2, rfl, hg2, hund2⟩ := hat2.under hd10
  have hb03 := hb02.next hb2
  have HAT2 := Lib.hid hat2
  have HUN2 := Lib.hid hund2
  clear hat2 hund2
  rw [hx] at HAT2 HUN2 ⊢
  clear hx
  obtain ⟨V, hV⟩ : ∃ V, (w3.alloc (.cells #[.slice A n c, .slice (some ⟨g1, 0, none⟩) x cg1] 44)).alloc (.cells #[.slice B n c', .slice (some ⟨g2, 0, none⟩) x cg2] 44) = V := ⟨_, rfl⟩
  have hbV : Below w3.heap.size w3 V := by rw [← hV]; exact (Below.alloc0 _ _).alloc (by simp) _
  have hRV : V.heap[w3.heap.size]? = some (.cells #[.slice A n c, .slice (some ⟨g1, 0, none⟩) x cg1] 44) := by rw [← hV]; exact (Below.heap_alloc _ _ _ (by simp)).trans (heap_alloc_new w3 _)
  have hSV : V.heap[w3.heap.size + 1]? = some (.cells #[.slice B n c', .slice (some ⟨g2, 0, none⟩) x cg2] 44) := by
    rw [← hV]
    have h := heap_alloc_new (w3.alloc (.cells #[.slice A n c, .slice (some ⟨g1, 0, none⟩) x cg1] 44)) (.cells #[.slice B n c', .slice (some ⟨g2, 0, none⟩) x cg2] 44)
    rwa [World.size_alloc] at h
  gi_wp2_with fail
  clear hV
  have hb5 := hb03.next hbV
  have HAV1 := Lib.hid (HAT1.out.keep (hb2.next hbV))
  have HAV2 := Lib.hid (HAT2.out.keep hbV)
  have HUV1 := Lib.hid (show ∀ q, q ≤ d → ∀ U, Below V.heap.size V U → Under U l (some ⟨g1, 0, none⟩) x q from fun q hq U hU h' hh => by
    obtain ⟨g4, u4, e4, l4, l5, c4, r4⟩ := HUN1.out q hq h' hh
    have hbU := (hb2.next hbV).next hU
    exact ⟨g4, u4, e4, l4, l5, (hbU.cell (p := ⟨g4, h', none⟩) (block_lt_of_cell c4)).trans c4, r4.keep hbU⟩)
  have HUV2 := Lib.hid (show ∀ q, q ≤ d → ∀ U, Below V.heap.size V U → Under U m (some ⟨g2, 0, none⟩) x q from fun q hq U hU h' hh => by
    obtain ⟨g4, u4, e4, l4, l5, c4, r4⟩ := HUN2.out q hq h' hh
    have hbU := hbV.next hU
    exact ⟨g4, u4, e4, l4, l5, (hbU.cell (p := ⟨g4, h', none⟩) (block_lt_of_cell c4)).trans c4, r4.keep hbU⟩)
  clear HAT1 HAT2 HUN1 HUN2 hbV hb03 hb02 hb0 hb1 hb2 hg1 hg2
  generalize w3.heap.size = R at *
  have hl0 : ∀ d' os, (Go.Sort.grow (redrawn V d') os).cell? ⟨R, 0, none⟩ = some (.slice A n c) := cell_regrown (by rw [cell_of_row _ _ _ _ _ _ hRV]; rfl)
  have hl1 : ∀ d' os, (Go.Sort.grow (redrawn V d') os).cell? ⟨R, 1, none⟩ = some (.slice (some ⟨g1, 0, none⟩) x cg1) := cell_regrown (by rw [cell_of_row _ _ _ _ _ _ hRV]; rfl)
  have hl2 : ∀ d' os, (Go.Sort.grow (redrawn V d') os).cell? ⟨R + 1, 0, none⟩ = some (.slice B n c') := cell_regrown (by rw [cell_of_row _ _ _ _ _ _ hSV]; rfl)
  have hl3 : ∀ d' os, (Go.Sort.grow (redrawn V d') os).cell? ⟨R + 1, 1, none⟩ = some (.slice (some ⟨g2, 0, none⟩) x cg2) := cell_regrown (by rw [cell_of_row _ _ _ _ _ _ hSV]; rfl)
  have c1 : ∀ d' os, Calls Tryd.prog 30 #[.agg #[.slice A n c, .slice (some ⟨g1, 0, none⟩) x cg1]] (Go.Sort.grow (redrawn V d') os) fun e w'' => e = .returned (.string r1) ∧ ∃ p : Regrown, w'' = Go.Sort.grow (redrawn V p.d) p.os := fun d' os => Calls.regrown_of (HRT1.out _ _ (HAV1.out.keep (below_regrown V d' os)))
  have c2 : ∀ d' os, Calls Tryd.prog 30 #[.agg #[.slice B n c', .slice (some ⟨g2, 0, none⟩) x cg2]] (Go.Sort.grow (redrawn V d') os) fun e w'' => e = .returned (.string r2) ∧ ∃ p : Regrown, w'' = Go.Sort.grow (redrawn V p.d) p.os := fun d' os => Calls.regrown_of (HRT2.out _ _ (HAV2.out.keep (below_regrown V d' os)))
  have hbN : w.heap.size ≤ V.heap.size := hb5.size
  by_cases hrr : r1 = r2
  rotate_left
  · have hse : (r1.toList == r2.toList) = false := by rw [str_eq, decide_eq_false hrr]
    have HNO : Hid (ans = none) := Lib.hid (by
      rw [← HANS.out, colA_no]
      rintro d' ⟨e1, e2, e3, e4, e5⟩
      have e6 : d = d' := by rw [HL.out] at e2; exact (Nat.pow_right_inj (by omega)).1 e2
      subst e6
      exact hrr (by rw [← HR1.out, ← HR2.out, root_same l HSL.out, root_same m HSM.out, e5]))
    clear hrr
    refine wpIn_wide.2 (wp_region_quiet_below (by kernel_rfl) (by kernel_rfl) ?_)
    repeat (quiet_step (first | with_reducible exact c1 _ _ | with_reducible exact c2 _ _))
    refine wpQuiet_nil ?_
    intro _ hw'
    obtain ⟨⟨dq, osq⟩, hw''⟩ := hw'
    subst hw''
    have hb6 := hb5.trans ((below_regrown V dq osq).mono hbN)
    clear hl0 hl1 hl2 hl3 c1 c2
    generalize Go.Sort.grow (redrawn V dq) osq = V6 at *
    gi_wp2
    rw [Exit.noGoto_ret]
    exact ⟨_, results_tmp3 rfl _ _ _, by rw [HNO.out]; rfl, hb6⟩
  · have hse : (r1.toList == r2.toList) = true := by rw [str_eq, decide_eq_true hrr]
    refine wpIn_wide.2 (wp_region_quiet_below (by kernel_rfl) (by kernel_rfl) ?_)
    have HRR := Lib.hid hrr
    clear hrr
    repeat (quiet_step (first | with_reducible exact c1 _ _ | with_reducible exact c2 _ _))
    refine wpQuiet_nil ?_
    intro _ hw'
    obtain ⟨⟨dq, osq⟩, hw''⟩ := hw'
    subst hw''
    have hq := below_regrown V dq osq
    have hb6 := hb5.trans (hq.mono hbN)
    have hR6 := heap_keepB hRV hq
    have hS6 := heap_keepB hSV hq
    clear hl0 hl1 hl2 hl3 c1 c2 hRV hSV hbN
    generalize Go.Sort.grow (redrawn V dq) osq = V6 at *
    have HU61 : Hid (∀ q, q ≤ d → ∀ U, Below V6.heap.size V6 U → Under U l (some ⟨g1, 0, none⟩) x q) := Lib.hid fun q hq9 U hU => HUV1.out q hq9 U (hq.next hU)
    have HU62 : Hid (∀ q, q ≤ d → ∀ U, Below V6.heap.size V6 U → Under U m (some ⟨g2, 0, none⟩) x q) := Lib.hid fun q hq9 U hU => HUV2.out q hq9 U (hq.next hU)
    have HRV6 := Lib.hid hR6
    have HSV6 := Lib.hid hS6
    have HA6 : Hid (DigsAt V6 (.slice (some ⟨g1, 0, none⟩) x cg1) d l) := Lib.hid (HAV1.out.keep hq)
    clear hq HUV1 HUV2 HAV1 HAV2
    obtain ⟨V7, hV7⟩ : ∃ V7, (V6.alloc (.cells #[.string ⟨#[]⟩] 9)).alloc (.cells #[.string ⟨#[]⟩] 9) = V7 := ⟨_, rfl⟩
    have hb67 : Below V6.heap.size V6 V7 := by rw [← hV7]; exact (Below.alloc0 _ _).alloc (by simp) _
    have hx7 : V7.heap[V6.heap.size]? = some (.cells #[.string ⟨#[]⟩] 9) := by rw [← hV7]; exact (Below.heap_alloc _ _ _ (by simp)).trans (heap_alloc_new V6 _)
    have hy7 : V7.heap[V6.heap.size + 1]? = some (.cells #[.string ⟨#[]⟩] 9) := by
      rw [← hV7]
      have h := heap_alloc_new (V6.alloc (.cells #[.string ⟨#[]⟩] 9)) (.cells #[.string ⟨#[]⟩] 9)
      rwa [World.size_alloc] at h
    have hR7 := heap_keepB hR6 hb67
    have q0 : V7.cell? ⟨R, 0, none⟩ = some (.slice A n c) := by rw [cell_of_row _ _ _ _ _ _ hR7]; rfl
    have q1 : V7.cell? ⟨R, 1, none⟩ = some (.slice (some ⟨g1, 0, none⟩) x cg1) := by rw [cell_of_row _ _ _ _ _ _ hR7]; rfl
    obtain ⟨w9, hw9⟩ : ∃ w9, (V7.alloc (.cells #[.slice A n c, .slice (some ⟨g1, 0, none⟩) x cg1] 44)).alloc (.cells #[.slice (some ⟨g1, 0, none⟩) x cg1] 42) = w9 := ⟨_, rfl⟩
    have hb79 : Below V7.heap.size V7 w9 := by rw [← hw9]; exact (Below.alloc0 _ _).alloc (by simp) _
    have hB9 : w9.heap[V7.heap.size + 1]? = some (.cells #[.slice (some ⟨g1, 0, none⟩) x cg1] 42) := by
      rw [← hw9]
      have h := heap_alloc_new (V7.alloc (.cells #[.slice A n c, .slice (some ⟨g1, 0, none⟩) x cg1] 44)) (.cells #[.slice (some ⟨g1, 0, none⟩) x cg1] 42)
      rwa [World.size_alloc] at h
    gi_wp2_with fail
    refine wpIn_label ?_
    gi_wp2_with fail
    refine ⟨trivial, ?_⟩
    gi_at_call 43
    refine (callsIn_wide.2 (downward_any _ _ _ _ _ _ V7)).mono ?_
    rw [hw9]
    rintro e w9' ⟨rfl, rfl⟩
    gi_wp2_with fail
    have hb69 := hb67.next hb79
    have hx9 := heap_keepB hx7 hb79
    have hy9 := heap_keepB hy7 hb79
    have hR9 := heap_keepB hR6 hb69
    have hS9 := heap_keepB hS6 hb69
    have HA9 := HA6.out
    obtain ⟨gg, cgg, he2, hgg, -⟩ := HA9.under hd10
    obtain ⟨rfl, -, rfl⟩ : g1 = gg ∧ x = d + 1 ∧ cg1 = cgg := by simpa using he2
    obtain ⟨U, hU⟩ : ∃ U : Nat → Value, ∀ q, q < x → w9.cell? ⟨g1, q, none⟩ = some (U q) ∧ ∃ gy cy, U q = .slice (some ⟨gy, 0, none⟩) (2 ^ (d - q)) cy := by
      refine ⟨fun q => (w9.cell? ⟨g1, q, none⟩).getD undef, fun q hq => ?_⟩
      obtain ⟨g3, c3, e3, -, h3⟩ := HA9
      obtain ⟨rfl, -, rfl⟩ : g1 = g3 ∧ x = d + 1 ∧ cg1 = c3 := by simpa using e3
      have hqd : q ≤ d := by have := HX.out; omega
      obtain ⟨u, hu, gy, cy, e4, -, -⟩ := h3 q hqd
      have hu9 := (hb69.cell (p := ⟨g1, q, none⟩) (block_lt_of_cell hu)).trans hu
      show w9.cell? ⟨g1, q, none⟩ = some ((w9.cell? ⟨g1, q, none⟩).getD undef) ∧ _
      rw [hu9]
      refine ⟨rfl, gy, cy, ?_⟩
      show (w9.cell? ⟨g1, q, none⟩).getD undef = _
      rw [hu9]
      show u = _
      rw [e4, rowH_length l HL.out hqd]
    have HUF := Lib.hid fun q hq => (hU q hq).2
    have hU' := fun q hq => (hU q hq).1
    have HUND1 : Hid (∀ (q j : Nat) (z : ByteArray), q < x → j < 2 ^ (d - q) → undT l q j = z.data.toList → ∀ V, Below V6.heap.size V6 V → Calls Tryd.prog 44 #[.agg #[.slice A n c, .slice (some ⟨g1, 0, none⟩) x cg1], .int .i64 (q : Int), .int .i64 (j : Int)] V fun e w' => e = .returned (.string z) ∧ Below V.heap.size V w') := Lib.hid fun q j z hq hj hz V hV => by
      have hqd : q ≤ d := by have := HX.out; omega
      have h := under_any l d HL.out hd10 (fun s hs => by have := HSL.out s hs; omega) A (some ⟨g1, 0, none⟩) c x cg1 q j hqd hj z hz V (HAh.out.keep (hb6.trans (hV.mono hb6.size))) (HU61.out q hqd V hV)
      rw [HN.out] at h
      exact h
    have HUND2 : Hid (∀ (q j : Nat) (z : ByteArray), q < x → j < 2 ^ (d - q) → undT m q j = z.data.toList → ∀ V, Below V6.heap.size V6 V → Calls Tryd.prog 44 #[.agg #[.slice B n c', .slice (some ⟨g2, 0, none⟩) x cg2], .int .i64 (q : Int), .int .i64 (j : Int)] V fun e w' => e = .returned (.string z) ∧ Below V.heap.size V w') := Lib.hid fun q j z hq hj hz V hV => by
      have hqd : q ≤ d := by have := HX.out; omega
      have h := under_any m d HLM.out hd10 (fun s hs => by have := HSM.out s hs; omega) B (some ⟨g2, 0, none⟩) c' x cg2 q j hqd hj z hz V (HBh.out.keep (hb6.trans (hV.mono hb6.size))) (HU62.out q hqd V hV)
      rw [HN2.out] at h
      exact h
    have HOK : Hid (colOk l m d) := Lib.hid ⟨HLEN.out, HL.out, hd10, HNE.out, by
      have e := HRR.out
      rw [← HR1.out, ← HR2.out, root_same l HSL.out, root_same m HSM.out] at e
      exact toB_inj e⟩
    have HFOUND : Hid (∀ y k, y < x → (∀ r, y < r → r < x → ∀ j, j < 2 ^ (d - r) → undT l r j = undT m r j) → k < 2 ^ (d - y) → (∀ j, j < k → undT l y j = undT m y j) → undT l y k ≠ undT m y k → ans = some (undT l y k, undT m y k)) := Lib.hid fun y k hy h1 hk h2 h3 => by
      rw [← HANS.out, colA_yes HOK.out, HX.out, undT_below l HSL.out, undT_below m HSM.out]
      refine colD_at hy (fun r hr1 hr2 j hj => ?_) hk (fun j hj => ?_) ?_
      · rw [← undT_below l HSL.out, ← undT_below m HSM.out]; exact h1 r hr1 hr2 j hj
      · rw [← undT_below l HSL.out, ← undT_below m HSM.out]; exact h2 j hj
      · rw [← undT_below l HSL.out, ← undT_below m HSM.out]; exact h3
    have HEND : Hid ((∀ j, j < 2 ^ (d - 0) → undT l 0 j = undT m 0 j) → False) := Lib.hid fun h => HNE.out (leaves_unlike HLEN.out fun j hj => h j (by rw [Nat.sub_zero, ← HL.out]; exact hj))
    have HPOW : Hid (∀ q, 2 ^ (d - q) ≤ 1024) := Lib.hid fun q => by have : 2 ^ (d - q) ≤ 2 ^ 10 := Nat.pow_le_pow_right (by omega) (by omega); omega
    have hRX : R + 1 < V6.heap.size := (Array.getElem?_eq_some_iff.1 hS6).1
    have hX9 : V6.heap.size + 1 < w9.heap.size := (Array.getElem?_eq_some_iff.1 hy9).1
    have hb1l : V7.heap.size + 1 < w9.heap.size := (Array.getElem?_eq_some_iff.1 hB9).1
    have hb1X : V6.heap.size + 1 < V7.heap.size + 1 := by have := (Array.getElem?_eq_some_iff.1 hy7).1; omega
    have hgX : g1 < V6.heap.size := hgg
    have hgl : g1 < w9.heap.size := Nat.lt_of_lt_of_le hgg hb69.size
    have hbN : w.heap.size ≤ V6.heap.size := hb6.size
    have HB6 := Lib.hid hb6
    clear hR6 hS6 HA6 hb67 hx7 hy7 hR7 q0 q1 hw9 hb79 hV7 HA9 he2 hgg hU HU61 HU62 hb6 HMAY HEQL HOV1 HOV2 HRT1 HRT2 hse hb5
    have hX6 : ∃ X, V6.heap.size = X := ⟨_, rfl⟩
    obtain ⟨X, hX6⟩ := hX6
    have HX6 := Lib.hid hX6
    rw [hX6] at hx9 hy9 hb69 HUND1 HUND2 hRX hX9 hb1X hgX hbN ⊢
    clear hX6
    generalize V7.heap.size + 1 = b1 at *
    refine wpIn_rangeFunc_ownF (α := {y : Nat // y < x}) rfl (by omega) (gf := 74) (lb := #[.pointer (some ⟨b1, 0, none⟩)]) rfl trivial
      (enters_of Tryd.func74 (by kernel_rfl) rfl) (downward1_in 2 (by omega) b1 g1 x cg1 hx0 hxl U w9 (cell0 hB9) hU') KpDn_t (KpDn_b hb1l hgl) (Below.refl _ _) (fun _ => rfl)
      (fun pre W => (Below X V6 W ∧ w9.heap.size ≤ W.heap.size ∧ ∃ p q : ByteArray, W.heap[X]? = some (.cells #[.string p] 9 (0, 0)) ∧ W.heap[X + 1]? = some (.cells #[.string q] 9 (0, 0))) ∧ ∀ r ∈ pre, ∀ j, j < 2 ^ (d - r.1) → undT l r.1 j = undT m r.1 j)
      (fun cd pre W => (cd = .exit 0 ∧ ∃ pre0 y k, pre = pre0 ++ [y] ∧ (∀ r ∈ pre0, ∀ j, j < 2 ^ (d - r.1) → undT l r.1 j = undT m r.1 j) ∧ k < 2 ^ (d - y.1) ∧ (∀ j, j < k → undT l y.1 j = undT m y.1 j) ∧ undT l y.1 k ≠ undT m y.1 k ∧
        W.heap[X]? = some (.cells #[.string (toB (undT l y.1 k))] 9 (0, 0)) ∧ W.heap[X + 1]? = some (.cells #[.string (toB (undT m y.1 k))] 9 (0, 0))) ∧ Below X V6 W)
      (fun pre W W' row hs hg hr => by
        obtain ⟨⟨h1, h2, p, q, h3, h4⟩, h5⟩ := hs
        exact ⟨⟨ownFrom_below (B := w9.heap.size) (Nat.le_of_eq HX6.out.symm) (by omega) pre W W' row h1 hg hr, Nat.le_trans h2 hg.size, p, q, (hg.block _ (Array.getElem?_eq_some_iff.1 h3).1 (by rintro e; have := (hr _ e.symm).1; omega)).trans h3, (hg.block _ (Array.getElem?_eq_some_iff.1 h4).1 (by rintro e; have := (hr _ e.symm).1; omega)).trans h4⟩, h5⟩)
      (fun cd pre W W' row hs hg hr => by
        obtain ⟨⟨rfl, pre0, y, k, e, h1, h2, h3, h4, h5, h6⟩, h7⟩ := hs
        exact ⟨⟨rfl, pre0, y, k, e, h1, h2, h3, h4, (hg.block _ (Array.getElem?_eq_some_iff.1 h5).1 (by rintro e; have := (hr _ e.symm).1; omega)).trans h5, (hg.block _ (Array.getElem?_eq_some_iff.1 h6).1 (by rintro e; have := (hr _ e.symm).1; omega)).trans h6⟩,
          ownFrom_below (B := w9.heap.size) (Nat.le_of_eq HX6.out.symm) (by omega) pre W W' row h7 hg hr⟩)
      ⟨⟨hb69, Nat.le_refl _, _, _, hx9, hy9⟩, by simp⟩
      (fun y => { tmps := #[.slice A n c, .slice B n c', undef, undef, .string ⟨#[]⟩, .string ⟨#[]⟩, .bool false, .pointer (some ⟨R, 0, none⟩), .pointer (some ⟨R + 1, 0, none⟩), .pointer (some ⟨X, 0, none⟩), .pointer (some ⟨X + 1, 0, none⟩), .int .i64 (y.1 : Int), U y.1, undef, .slice A n c, .int .i64 (n : Int), .slice B n c', .int .i64 (n : Int), .bool false, .bool false, .slice A n c, .bool true, .bool false, .bool false, .bool false, .slice A n c, .slice B n c', .bool false, .bool false, .slice A n c, .agg #[.slice A n c, .slice (some ⟨g1, 0, none⟩) x cg1], .slice B n c', .agg #[.slice B n c', .slice (some ⟨g2, 0, none⟩) x cg2], .agg #[.slice A n c, .slice (some ⟨g1, 0, none⟩) x cg1], .string r1, .agg #[.slice B n c', .slice (some ⟨g2, 0, none⟩) x cg2], .string r2, .bool false, .agg #[.slice A n c, .slice (some ⟨g1, 0, none⟩) x cg1], .func (.func 74) #[] #[.pointer (some ⟨b1, 0, none⟩)], .int .i64 (y.1 : Int), U y.1, undef, undef, undef, undef, undef, undef, undef, undef, undef, undef, undef, undef, undef, undef, undef, undef, undef, undef, undef], defers := [] }) ?assign ?body ?done ?stop
    case assign =>
      intro q y W K hKy
      gi_wp2
      exact hKy
    case body =>
      rintro q pre ⟨y, hy⟩ W ⟨⟨hbW, hszW, p0, p1, hxW, hyW⟩, heq⟩ hlen
      obtain ⟨gy, cy, hUy⟩ := HUF.out y hy
      have hpow := HPOW.out y
      have HEQ := Lib.hid heq
      have HU1 := HUND1.out y
      have HU2' := HUND2.out y
      obtain ⟨M, hM⟩ : ∃ M, 2 ^ (d - y) = M := ⟨_, rfl⟩
      rw [hM] at hUy hpow HU1 HU2'
      have HM := Lib.hid hM
      have HU1h := Lib.hid fun j z h1 h2 => HU1 j z hy h1 h2
      have HU2h := Lib.hid fun j z h1 h2 => HU2' j z hy h1 h2
      have hko0 := KeepsOthers.refl W
      have hkp0 : KpDn b1 g1 W W := ⟨rfl, rfl⟩
      clear heq hM HU1 HU2'
      simp only [hUy]
      gi_wp2_with fail
      gi_loopw [44] (fun i wr => ∃ (k : Nat) (p1 p2 : ByteArray), i = .int .i64 (k : Int) ∧ k ≤ M ∧ Below X V6 wr ∧ w9.heap.size ≤ wr.heap.size ∧ wr.heap[X]? = some (.cells #[.string p1] 9 (0, 0)) ∧ wr.heap[X + 1]? = some (.cells #[.string p2] 9 (0, 0)) ∧ KeepsOthers W wr ∧ KpDn b1 g1 W wr ∧ Hid (∀ j, j < k → undT l y j = undT m y j)) (fun i _ => M - (intOf i).toNat)
      case atStart => exact ⟨0, p0, p1, rfl, by omega, hbW, hszW, hxW, hyW, hko0, hkp0, Lib.hid (fun j h => by omega)⟩
      case round =>
        clear hbW hszW hxW hyW hko0 hkp0
        obtain ⟨k, p2, p3, rfl, hk, hb, hsz, hxx, hyy, hko, hkp, heqk⟩ := hrel
        by_cases hlt : k < M
        · obtain ⟨z, hz⟩ : ∃ z : ByteArray, undT l y k = z.data.toList := ⟨toB (undT l y k), (toB_list _).symm⟩
          obtain ⟨u, hu⟩ : ∃ u : ByteArray, undT m y k = u.data.toList := ⟨toB (undT m y k), (toB_list _).symm⟩
          have HU1 := HU1h.out k z hlt hz
          have HU2 := HU2h.out k u hlt hu
          have HZ := Lib.hid hz
          have HU9 := Lib.hid hu
          have hRw := (hb.block R (by omega)).trans HRV6.out
          have hSw := (hb.block (R + 1) (by omega)).trans HSV6.out
          have r0 : wr.cell? ⟨R, 0, none⟩ = some (.slice A n c) := by rw [cell_of_row _ _ _ _ _ _ hRw]; rfl
          have r1' : wr.cell? ⟨R, 1, none⟩ = some (.slice (some ⟨g1, 0, none⟩) x cg1) := by rw [cell_of_row _ _ _ _ _ _ hRw]; rfl
          have r2' : wr.cell? ⟨R + 1, 0, none⟩ = some (.slice B n c') := by rw [cell_of_row _ _ _ _ _ _ hSw]; rfl
          have r3 : wr.cell? ⟨R + 1, 1, none⟩ = some (.slice (some ⟨g2, 0, none⟩) x cg2) := by rw [cell_of_row _ _ _ _ _ _ hSw]; rfl
          clear hz hu hRw hSw
          have hkI : (k : Int) < (M : Int) := by omega
          gi_wp2_with fail
          refine Uptot.begin_round [] (fun w' : World => w'.cell? ⟨R, 0, none⟩ = some (.slice A n c) ∧ w'.cell? ⟨R, 1, none⟩ = some (.slice (some ⟨g1, 0, none⟩) x cg1) ∧ w'.cell? ⟨R + 1, 0, none⟩ = some (.slice B n c') ∧ w'.cell? ⟨R + 1, 1, none⟩ = some (.slice (some ⟨g2, 0, none⟩) x cg2)) (fun _ => True) (by kernel_rfl) (by kernel_rfl) ?_
          have hST : (wr.drew.cell? ⟨R, 0, none⟩ = some (.slice A n c) ∧ wr.drew.cell? ⟨R, 1, none⟩ = some (.slice (some ⟨g1, 0, none⟩) x cg1) ∧ wr.drew.cell? ⟨R + 1, 0, none⟩ = some (.slice B n c') ∧ wr.drew.cell? ⟨R + 1, 1, none⟩ = some (.slice (some ⟨g2, 0, none⟩) x cg2)) ∧ True := ⟨⟨r0, r1', r2', r3⟩, trivial⟩
          replace hb := hb.drew
          replace hxx : wr.drew.heap[X]? = _ := hxx
          replace hyy : wr.drew.heap[X + 1]? = _ := hyy
          replace hko := hko.trans (others_of_below (Below.drew0 wr))
          replace hkp : KpDn b1 g1 W wr.drew := hkp
          replace hsz : w9.heap.size ≤ wr.drew.heap.size := hsz
          clear r0 r1' r2' r3
          generalize hV2 : wr.drew = V2 at *
          clear hV2
          refine Uptot.takeS (i := 0) (v := ?_) rfl (by kernel_rfl) (by kernel_rfl) (by kernel_rfl) (by kernel_rfl) (fun _ _ _ h => h) (Or.inl ⟨by rfl, ?_⟩) hST ?_
          rotate_left 1
          · intro w9 hSw; (try dsimp only at hSw); obtain ⟨h91, h92, h93, h94⟩ := hSw; go_simp; (try with_reducible rfl)
          try simp only [Act.put, List.setIfInBounds_toArray, List.set_cons_zero, List.set_cons_succ]
          refine Uptot.takeS (i := 1) (v := ?_) rfl (by kernel_rfl) (by kernel_rfl) (by kernel_rfl) (by kernel_rfl) (fun _ _ _ h => h) (Or.inl ⟨by rfl, ?_⟩) hST ?_
          rotate_left 1
          · intro w9 hSw; (try dsimp only at hSw); obtain ⟨h91, h92, h93, h94⟩ := hSw; go_simp; (try with_reducible rfl)
          try simp only [Act.put, List.setIfInBounds_toArray, List.set_cons_zero, List.set_cons_succ]
          refine Uptot.takeS (i := 2) (v := ?_) rfl (by kernel_rfl) (by kernel_rfl) (by kernel_rfl) (by kernel_rfl) (fun _ _ _ h => h) (Or.inl ⟨by rfl, ?_⟩) hST ?_
          rotate_left 1
          · intro w9 hSw; (try dsimp only at hSw); obtain ⟨h91, h92, h93, h94⟩ := hSw; go_simp; (try with_reducible rfl)
          try simp only [Act.put, List.setIfInBounds_toArray, List.set_cons_zero, List.set_cons_succ]
          refine Uptot.takeS (i := 4) (v := ?_) rfl (by kernel_rfl) (by kernel_rfl) (by kernel_rfl) (by kernel_rfl) (fun _ _ _ h => h) (Or.inl ⟨by rfl, ?_⟩) hST ?_
          rotate_left 1
          · intro w9 hSw; (try dsimp only at hSw); obtain ⟨h91, h92, h93, h94⟩ := hSw; go_simp; (try with_reducible rfl)
          try simp only [Act.put, List.setIfInBounds_toArray, List.set_cons_zero, List.set_cons_succ]
          refine Uptot.takeS (i := 5) (v := ?_) rfl (by kernel_rfl) (by kernel_rfl) (by kernel_rfl) (by kernel_rfl) (fun _ _ _ h => h) (Or.inl ⟨by rfl, ?_⟩) hST ?_
          rotate_left 1
          · intro w9 hSw; (try dsimp only at hSw); obtain ⟨h91, h92, h93, h94⟩ := hSw; go_simp; (try with_reducible rfl)
          try simp only [Act.put, List.setIfInBounds_toArray, List.set_cons_zero, List.set_cons_succ]
          refine Uptot.takeS (i := 6) (v := ?_) rfl (by kernel_rfl) (by kernel_rfl) (by kernel_rfl) (by kernel_rfl) (fun _ _ _ h => h) (Or.inl ⟨by rfl, ?_⟩) hST ?_
          rotate_left 1
          · intro w9 hSw; (try dsimp only at hSw); obtain ⟨h91, h92, h93, h94⟩ := hSw; go_simp; (try with_reducible rfl)
          try simp only [Act.put, List.setIfInBounds_toArray, List.set_cons_zero, List.set_cons_succ]
          refine Uptot.one (i := 3) rfl (by kernel_rfl) (fun K hK9 => ?_)
          go_simp
          go_at_call 44
          refine (HU1 V2 hb).mono ?_
          rintro e V3 ⟨rfl, hs3⟩
          replace hST : (V3.cell? ⟨R, 0, none⟩ = some (.slice A n c) ∧ V3.cell? ⟨R, 1, none⟩ = some (.slice (some ⟨g1, 0, none⟩) x cg1) ∧ V3.cell? ⟨R + 1, 0, none⟩ = some (.slice B n c') ∧ V3.cell? ⟨R + 1, 1, none⟩ = some (.slice (some ⟨g2, 0, none⟩) x cg2)) ∧ True := ⟨⟨(hs3.cell (p := ⟨R, 0, none⟩) (block_lt_of_cell hST.1.1)).trans hST.1.1, (hs3.cell (p := ⟨R, 1, none⟩) (block_lt_of_cell hST.1.2.1)).trans hST.1.2.1, (hs3.cell (p := ⟨R + 1, 0, none⟩) (block_lt_of_cell hST.1.2.2.1)).trans hST.1.2.2.1, (hs3.cell (p := ⟨R + 1, 1, none⟩) (block_lt_of_cell hST.1.2.2.2)).trans hST.1.2.2.2⟩, trivial⟩
          replace hb := hb.next' hs3 (Nat.le_of_eq HX6.out.symm)
          replace hxx := heap_keepB hxx hs3
          replace hyy := heap_keepB hyy hs3
          replace hko := hko.trans (others_of_below hs3)
          replace hkp := KpDn_t hkp ⟨hs3.block _ (Nat.lt_of_lt_of_le hb1l hsz), hs3.block _ (Nat.lt_of_lt_of_le hgl hsz)⟩
          replace hsz := Nat.le_trans hsz hs3.size
          clear hs3
          refine hK9.out _ _ (Cond.ahead hST) ?_
          clear hK9 K
          try simp only [Act.put, List.setIfInBounds_toArray, List.set_cons_zero, List.set_cons_succ]
          refine Uptot.one (i := 7) rfl (by kernel_rfl) (fun K hK9 => ?_)
          go_simp
          go_at_call 44
          refine (HU2 V3 hb).mono ?_
          rintro e V4 ⟨rfl, hs4⟩
          replace hST : (V4.cell? ⟨R, 0, none⟩ = some (.slice A n c) ∧ V4.cell? ⟨R, 1, none⟩ = some (.slice (some ⟨g1, 0, none⟩) x cg1) ∧ V4.cell? ⟨R + 1, 0, none⟩ = some (.slice B n c') ∧ V4.cell? ⟨R + 1, 1, none⟩ = some (.slice (some ⟨g2, 0, none⟩) x cg2)) ∧ True := ⟨⟨(hs4.cell (p := ⟨R, 0, none⟩) (block_lt_of_cell hST.1.1)).trans hST.1.1, (hs4.cell (p := ⟨R, 1, none⟩) (block_lt_of_cell hST.1.2.1)).trans hST.1.2.1, (hs4.cell (p := ⟨R + 1, 0, none⟩) (block_lt_of_cell hST.1.2.2.1)).trans hST.1.2.2.1, (hs4.cell (p := ⟨R + 1, 1, none⟩) (block_lt_of_cell hST.1.2.2.2)).trans hST.1.2.2.2⟩, trivial⟩
          replace hb := hb.next' hs4 (Nat.le_of_eq HX6.out.symm)
          replace hxx := heap_keepB hxx hs4
          replace hyy := heap_keepB hyy hs4
          replace hko := hko.trans (others_of_below hs4)
          replace hkp := KpDn_t hkp ⟨hs4.block _ (Nat.lt_of_lt_of_le hb1l hsz), hs4.block _ (Nat.lt_of_lt_of_le hgl hsz)⟩
          replace hsz := Nat.le_trans hsz hs4.size
          clear hs4
          refine hK9.out _ _ (Cond.ahead hST) ?_
          clear hK9 K
          try simp only [Act.put, List.setIfInBounds_toArray, List.set_cons_zero, List.set_cons_succ]
          have z0 := cell0 hxx
          have f0 := froz0 (o := 0) hxx
          refine Uptot.one (i := 8) rfl (by kernel_rfl) (fun K hK9 => ?_)
          go_simp
          replace hST : ((V4.setCell ⟨X, 0, none⟩ (.string z)).cell? ⟨R, 0, none⟩ = some (.slice A n c) ∧ (V4.setCell ⟨X, 0, none⟩ (.string z)).cell? ⟨R, 1, none⟩ = some (.slice (some ⟨g1, 0, none⟩) x cg1) ∧ (V4.setCell ⟨X, 0, none⟩ (.string z)).cell? ⟨R + 1, 0, none⟩ = some (.slice B n c') ∧ (V4.setCell ⟨X, 0, none⟩ (.string z)).cell? ⟨R + 1, 1, none⟩ = some (.slice (some ⟨g2, 0, none⟩) x cg2)) ∧ True := ⟨⟨(World.cell?_setCell_other _ _ _ _ (by simp <;> omega)).trans hST.1.1, (World.cell?_setCell_other _ _ _ _ (by simp <;> omega)).trans hST.1.2.1, (World.cell?_setCell_other _ _ _ _ (by simp <;> omega)).trans hST.1.2.2.1, (World.cell?_setCell_other _ _ _ _ (by simp <;> omega)).trans hST.1.2.2.2⟩, trivial⟩
          replace hb := hb.setCell (p := ⟨X, 0, none⟩) (by simp <;> omega) (.string z)
          replace hxx := (heap_setCell_same V4 X 0 _ _ (.string z) hxx).trans rfl
          replace hyy := (Below.heap_setCell V4 ⟨X, 0, none⟩ (.string z) (X + 1) (by simp)).trans hyy
          replace hko := hko.trans (KeepsOthers.setCell V4 ⟨X, 0, none⟩ (.string z))
          replace hkp := KpDn_t hkp ⟨Below.heap_setCell V4 ⟨X, 0, none⟩ (.string z) b1 (by simp only []; omega), Below.heap_setCell V4 ⟨X, 0, none⟩ (.string z) g1 (by simp only []; omega)⟩
          replace hsz : w9.heap.size ≤ (V4.setCell ⟨X, 0, none⟩ (.string z)).heap.size := by simpa using hsz
          clear z0 f0
          refine hK9.out _ _ (Cond.ahead hST) ?_
          clear hK9 K
          try simp only [Act.put, List.setIfInBounds_toArray, List.set_cons_zero, List.set_cons_succ]
          have z1 := cell0 hyy
          have f1 := froz0 (o := 0) hyy
          refine Uptot.one (i := 9) rfl (by kernel_rfl) (fun K hK9 => ?_)
          go_simp
          replace hST : (((V4.setCell ⟨X, 0, none⟩ (.string z)).setCell ⟨X + 1, 0, none⟩ (.string u)).cell? ⟨R, 0, none⟩ = some (.slice A n c) ∧ ((V4.setCell ⟨X, 0, none⟩ (.string z)).setCell ⟨X + 1, 0, none⟩ (.string u)).cell? ⟨R, 1, none⟩ = some (.slice (some ⟨g1, 0, none⟩) x cg1) ∧ ((V4.setCell ⟨X, 0, none⟩ (.string z)).setCell ⟨X + 1, 0, none⟩ (.string u)).cell? ⟨R + 1, 0, none⟩ = some (.slice B n c') ∧ ((V4.setCell ⟨X, 0, none⟩ (.string z)).setCell ⟨X + 1, 0, none⟩ (.string u)).cell? ⟨R + 1, 1, none⟩ = some (.slice (some ⟨g2, 0, none⟩) x cg2)) ∧ True := ⟨⟨(World.cell?_setCell_other _ _ _ _ (by simp <;> omega)).trans hST.1.1, (World.cell?_setCell_other _ _ _ _ (by simp <;> omega)).trans hST.1.2.1, (World.cell?_setCell_other _ _ _ _ (by simp <;> omega)).trans hST.1.2.2.1, (World.cell?_setCell_other _ _ _ _ (by simp <;> omega)).trans hST.1.2.2.2⟩, trivial⟩
          replace hb := hb.setCell (p := ⟨X + 1, 0, none⟩) (by simp <;> omega) (.string u)
          replace hyy := (heap_setCell_same (V4.setCell ⟨X, 0, none⟩ (.string z)) (X + 1) 0 _ _ (.string u) hyy).trans rfl
          replace hxx := (Below.heap_setCell (V4.setCell ⟨X, 0, none⟩ (.string z)) ⟨X + 1, 0, none⟩ (.string u) X (by simp)).trans hxx
          replace hko := hko.trans (KeepsOthers.setCell (V4.setCell ⟨X, 0, none⟩ (.string z)) ⟨X + 1, 0, none⟩ (.string u))
          replace hkp := KpDn_t hkp ⟨Below.heap_setCell (V4.setCell ⟨X, 0, none⟩ (.string z)) ⟨X + 1, 0, none⟩ (.string u) b1 (by simp only []; omega), Below.heap_setCell (V4.setCell ⟨X, 0, none⟩ (.string z)) ⟨X + 1, 0, none⟩ (.string u) g1 (by simp only []; omega)⟩
          replace hsz : w9.heap.size ≤ ((V4.setCell ⟨X, 0, none⟩ (.string z)).setCell ⟨X + 1, 0, none⟩ (.string u)).heap.size := by simpa using hsz
          clear z1 f1
          refine hK9.out _ _ (Cond.ahead hST) ?_
          clear hK9 K
          try simp only [Act.put, List.setIfInBounds_toArray, List.set_cons_zero, List.set_cons_succ]
          refine Uptot.done (by kernel_rfl) ?_ _
          refine plainEnd_in ?_
          clear hST
          generalize hF : ((V4.setCell ⟨X, 0, none⟩ (.string z)).setCell ⟨X + 1, 0, none⟩ (.string u)) = F at *
          clear hF
          all_goals
            have z0 := cell0 hxx
            have z1 := cell0 hyy
            by_cases hzu : z = u
            · have hse : (z.toList == u.toList) = true := by rw [str_eq, decide_eq_true hzu]
              have HK1 : Hid (∀ j, j < k + 1 → undT l y j = undT m y j) := Lib.hid fun j hj => by
                rcases (by omega : j < k ∨ j = k) with h | rfl
                · exact heqk.out j h
                · rw [HZ.out, HU9.out, hzu]
              gi_wp2
              go_roundw
              case rel => exact ⟨k + 1, z, u, by go_num, by omega, hb, hsz, hxx, hyy, hko, hkp, HK1⟩
              case measure => simp [intOf] <;> omega
            · have hse : (z.toList == u.toList) = false := by rw [str_eq, decide_eq_false hzu]
              gi_wp2
              refine ⟨hko, ⟨rfl, pre, ⟨y, hy⟩, k, rfl, HEQ.out, by rw [HM.out]; exact hlt, heqk.out, ?_, ?_, ?_⟩, hb⟩
              · show undT l y k ≠ undT m y k
                rw [HZ.out, HU9.out]
                exact fun e => hzu (ByteArray.ext (Array.toList_inj.1 e))
              · show _ = some (Obj.cells #[.string (toB (undT l y k))] 9 (0, 0))
                rw [HZ.out, toB_eq]
                exact hxx
              · show _ = some (Obj.cells #[.string (toB (undT m y k))] 9 (0, 0))
                rw [HU9.out, toB_eq]
                exact hyy
        · obtain rfl : k = M := by omega
          gi_wp2
          refine ⟨hko, hkp, ⟨hb, hsz, p2, p3, hxx, hyy⟩, fun r hr j hj => ?_⟩
          rcases List.mem_append.1 hr with h | h
          · exact HEQ.out r h j hj
          · obtain rfl := List.mem_singleton.1 h
            exact heqk.out j (by rw [← HM.out]; exact hj)
    case done =>
      rintro D xs W hD rfl ⟨_, heq⟩ hKd
      exact (HEND.out fun j hj => heq ⟨0, hx0⟩ (downS_mem hx0 x hx0 (by omega)) j hj).elim
    case stop =>
      rintro D cd pre W hD hpre ⟨⟨rfl, pre0, y, k, rfl, h1, h2, h3, h4, h5, h6⟩, h7⟩ hKd
      obtain ⟨k0, hk, hk2, hk3⟩ := downS_split hx0 hpre
      have HANS2 := Lib.hid (HFOUND.out y.1 k y.2 (fun r hr1 hr2 => h1 ⟨r, hr2⟩ (by rw [hk2]; exact downS_mem hx0 k0 hr2 (by omega))) h2 h3 h4)
      obtain ⟨z, hz⟩ : ∃ z : ByteArray, toB (undT l y.1 k) = z := ⟨_, rfl⟩
      obtain ⟨u, hu⟩ : ∃ u : ByteArray, toB (undT m y.1 k) = u := ⟨_, rfl⟩
      rw [hz] at h5
      rw [hu] at h6
      have HZ := Lib.hid hz
      have HU9 := Lib.hid hu
      have z0 := cell0 h5
      have z1 := cell0 h6
      clear hk2 hk3 h1 h2 h3 h4 hz hu hpre
      have hb7 := HB6.out.trans (h7.mono hbN)
      gi_wp2_with fail
      refine wpIn_wide.2 (wp_region_quiet_below (by kernel_rfl) (by kernel_rfl) ?_)
      have hl0 : ∀ d' os, (Go.Sort.grow (redrawn W d') os).cell? ⟨X, 0, none⟩ = some (.string z) := cell_regrown z0
      have hl1 : ∀ d' os, (Go.Sort.grow (redrawn W d') os).cell? ⟨X + 1, 0, none⟩ = some (.string u) := cell_regrown z1
      repeat (quiet_step (fail))
      refine wpQuiet_nil ?_
      intro _ hw'
      obtain ⟨⟨dq, osq⟩, hw''⟩ := hw'
      subst hw''
      have hq := below_regrown W dq osq
      have hb8 := hb7.trans (hq.mono hb7.size)
      have hKd2 := heap_keepB hKd hq
      clear hl0 hl1 z0 z1
      generalize Go.Sort.grow (redrawn W dq) osq = W2 at *
      gi_wp2
      rw [Exit.noGoto_ret]
      have hbd : Below w.heap.size w (W2.putObj D (.deferred none)) := hb8.grown (grownBy_putObj' W2 D _) (by have := hb8.size; omega) (fun k e => by cases e; omega)
      refine ⟨by simp, .inl ⟨_, _, rfl, run_takeDeferred hKd2, ?_⟩⟩
      exact ⟨_, results_tmp3 rfl _ _ _, by rw [HANS2.out]; simp only [outV]; rw [HZ.out, HU9.out]; rfl, hbd⟩
end Go.Proofs.YtgcohoonhklkbaaDoor
