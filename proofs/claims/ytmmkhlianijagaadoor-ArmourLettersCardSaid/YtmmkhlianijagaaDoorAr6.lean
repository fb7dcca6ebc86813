/-
  armour: the contract of Put.
-/
import Derived.Test.YtmmkhlianijagaaDoorAr3
import Derived.Test.YtmmkhlianijagaaDoorAr5
import Derived.Test.YtmmkhlianijagaaDoorShelfA
import Derived.Test.YtmmkhlianijagaaDoorDig7
import Derived.RangeFuncBox
import Derived.RangeFuncFrom
namespace Go.Proofs.YtmmkhlianijagaaDoor
open Go.RowKit Go.Kx Go.Shelf Go.Arm
set_option maxRecDepth 20000
attribute [local go_sem] Oper.semAt_some

theorem string_info : (Tryd.prog.info? 9).map (fun i => (i.zero, i.size, i.bytes)) = some (some (.string ⟨#[]⟩), 1, 16) := by kernel_rfl
def strsV (l : List ByteArray) : List Value := l.map Value.string
theorem strsV_snoc (l : List ByteArray) (s : ByteArray) : strsV l ++ [Value.string s] = strsV (l ++ [s]) := by simp [strsV]
/-- The first three bytes of a text's Sum. -/
def sum3 (l : List UInt8) : List UInt8 := (sumL l).take 3
theorem sumL_len32 (l : List UInt8) : (sumL l).length = 32 := by rw [sumL, joinL_length]; rfl
theorem sum3_len (l : List UInt8) : (sum3 l).length = 3 := by rw [sum3, List.length_take, sumL_len32]; rfl
theorem put_no (s : ByteArray) (hs : 200 < s.size) (w : World) :
    Calls Tryd.prog 11 #[.string s] w fun e w' => e = .returned (.tuple #[.string ⟨#[]⟩, .int .i64 2]) ∧ Below w.heap.size w w' := by
  have h : (200 : Int) < (s.size : Int) := by omega
  go_enter Tryd.func11, Tryd.ntmps11
  go_wp2
  go_ret2
  exact ⟨rfl, Below.refl _ _⟩
theorem KpA1_t {b1 : Nat} {A B C : World} (h : KpA1 b1 A B) (k : KpA1 b1 B C) : KpA1 b1 A C := k.trans h
theorem KpA1_b {b1 : Nat} {w : World} (h1 : b1 < w.heap.size) (W : World) (l : Nat) (o o' : Obj) (hl : w.heap.size ≤ l) (_ : W.heap[l]? = some o) (_ : o.isCells = false) (_ : o.isWalk = false) : KpA1 b1 W (W.putObj l o') :=
  World.putObj_heap_other (by omega)
theorem dash_len : ∀ (x : List UInt8) (i : Nat), (dashF i x).length ≤ 2 * x.length
  | [], _ => by simp [dashF]
  | c :: x, i => by
    have := dash_len x (i + 1)
    rw [dashF, List.length_append, List.length_cons]
    split <;> simp <;> omega
/-- A slice of strings in a variable of its own: the variable's block and the row's, which lies behind. -/
def Gath (W : World) (L B : Nat) (pre : List ByteArray) : Prop :=
  ∃ v, W.heap[L]? = some (.cells #[v] 49 (0, 0)) ∧ W.ownsRow B 9 1 v pre.length (strsV pre)
theorem ownFrom_row {β : Type} {B B' : Nat} {e : TypeId} {sz : Nat} {v : β → Value} {n : β → Nat} {xs : β → List Value} : OwnFrom B (fun (s : β) W => W.ownsRow B' e sz (v s) (n s) (xs s)) := fun s W W' row hs hg hr => by
  refine hs.kept hg ?_
  cases ho : (v s).ownBlock with
  | none => exact .inl rfl
  | some k =>
    right
    intro e2
    obtain ⟨_, o, h1, h2⟩ := hr k e2.symm
    rcases hs.2 with ⟨hv, _⟩ | ⟨g, cap, cur, hv, hg2, hh, _⟩
    · rw [hv] at ho; cases ho
    · rw [hv] at ho
      cases ho
      rw [hh] at h1
      cases h1
      cases h2
theorem gath_own {L B B' : Nat} (hL : L < B) : OwnFrom B (fun (pre : List ByteArray) W => Gath W L B' pre) := fun pre W W' row hs hg hr => by
  obtain ⟨v, h1, h2⟩ := hs
  refine ⟨v, (hg.block L (Array.getElem?_eq_some_iff.1 h1).1 (by rintro e; have := (hr L e.symm).1; omega)).trans h1, ?_⟩
  exact ownFrom_row (β := Unit) (v := fun _ => v) (n := fun _ => pre.length) (xs := fun _ => strsV pre) () W W' row h2 hg hr
theorem own_join {W : World} {B : Nat} {v : Value} {n : Nat} {l : List ByteArray} (h : W.ownsRow B 9 1 v n (strsV l)) (h0 : 0 < n) :
    ∃ g c, v = .slice (some ⟨g, 0, none⟩) n c ∧ g < W.heap.size ∧ n ≤ c ∧ l.length = n ∧ ∀ (j : Nat) x, l[j]? = some x → W.cell? ⟨g, 0 + j, none⟩ = some (.string x) := by
  have hl : l.length = n := by have := h.1; simpa [strsV] using this
  rcases h.2 with ⟨_, rfl⟩ | ⟨g, cap, cur, rfl, hg, hh, hc, hm, hs, ht⟩
  · omega
  · refine ⟨g, cap, rfl, (Array.getElem?_eq_some_iff.1 hh).1, hc, hl, fun j x hx => ?_⟩
    rw [Nat.zero_add, cell_of_row _ _ _ _ _ _ hh]
    have hu : (strsV l)[j]? = some (.string x) := by rw [strsV, List.getElem?_map, hx]; rfl
    rw [← ht, List.getElem?_take] at hu
    split at hu
    · simpa using hu
    · cases hu
set_option maxHeartbeats 4000000 in
theorem put_yes (s : ByteArray) (hs : s.size ≤ 200) (r : ByteArray) (hr : ⟨(putL sum3 s.data.toList).toArray⟩ = r) (w : World) (hK : Consts w) :
    Calls Tryd.prog 11 #[.string s] w fun e w' => e = .returned (.tuple #[.string r, .int .i64 0]) ∧ Below w.heap.size w w' := by
  refine (callsIn_wide (n := 3)).1 ?_
  refine callsIn_of_wp_marks Tryd.func11 rfl trivial ?_ rfl
  simp only [Tryd.ntmps11, List.size_toArray, List.length_cons, List.length_nil, Nat.reduceAdd, Nat.reduceSub, Array.replicate_succ, Array.replicate_zero, List.push_toArray, List.append_toArray, List.nil_append, List.cons_append]
  have t1 : ¬ (200 : Int) < (s.size : Int) := by omega
  obtain ⟨d, hd⟩ : ∃ d : ByteArray, ⟨(sumL s.data.toList).toArray⟩ = d := ⟨_, rfl⟩
  have hdz : d.size = 32 := by rw [← hd, size_mk, sumL_len32]
  have HSUM : Hid (∀ V : World, Consts V → Calls Tryd.prog 25 #[.string s] V fun e w' => e = .returned (.string d) ∧ Below V.heap.size V w') := Lib.hid fun V hV => by
    rw [← hd]
    exact sum_any s (by omega) V hV
  obtain ⟨d3, hd3⟩ : ∃ d3, d.extract 0 3 = d3 := ⟨_, rfl⟩
  have hd3l : d3.data.toList = sum3 s.data.toList := by rw [← hd3, str_ext, ← hd]; rfl
  have hd3z : d3.size = 3 := by
    have h := sum3_len s.data.toList
    rw [← hd3l] at h
    simpa using h
  have hsl : ∀ V : World, (Instr.slice 9 (.string d) none (some (.int .i64 3)) none).run Tryd.prog V = .ok (.string d3) V := fun V => by rw [← hd3]; exact str_to Tryd.underlying9 d 3 (by omega) V
  obtain ⟨a, ha⟩ : ∃ a, s ++ d3 = a := ⟨_, rfl⟩
  have hadd : ∀ V : World, (Op.stringOp .add s d3).run Tryd.prog V = .ok (.string a) V := fun V => by rw [← ha]; exact run_string_add_sum V s d3 (by omega)
  have hal : a.data.toList = s.data.toList ++ sum3 s.data.toList := by rw [← ha, ← hd3l]; simp
  have haz : a.size ≤ 203 := by rw [← ha]; simp; omega
  obtain ⟨b, hb⟩ : ∃ b : ByteArray, ⟨(letL a.data.toList).toArray⟩ = b := ⟨_, rfl⟩
  have HLET : Hid (∀ V : World, Calls Tryd.prog 9 #[.string a] V fun e w' => e = .returned (.string b) ∧ Below V.heap.size V w') := Lib.hid fun V => letters_any a (by omega) b hb V
  have hbz : b.size ≤ 400 := by
    rw [← hb, size_mk, letL_length]
    unfold lenN
    have : a.data.toList.length = a.size := by simp
    omega
  have HPOS : Hid (0 < partsN5 b.size) := Lib.hid (by
    rw [← hb, size_mk, letL_length, hal, List.length_append, sum3_len]
    unfold lenN partsN5
    omega)
  have HJN : Hid (Lib.join ((partsB5 b.data.toList (partsN5 b.size)).map (·.data.toList)) [45] = r.data.toList) := Lib.hid (by
    rw [partsB5_lists, partsN5, show b.size = b.data.toList.length by simp, join_parts, ← hr, ← hb, hal]
    rfl)
  have HRZ : Hid (r.data.toList.length ≤ 800) := Lib.hid (by
    rw [← hr]
    show (dashF 0 (letL (s.data.toList ++ sum3 s.data.toList))).length ≤ 800
    rw [← hal]
    have h1 := dash_len (letL a.data.toList) 0
    have h2 : (letL a.data.toList).length = b.size := by rw [← hb, size_mk]
    omega)
  have hmf : ∀ (fn : Fn) (first cap : Array Value) (w : World), (Instr.makeFunc fn first cap).run Tryd.prog w = .ok (.func fn first cap) w := fun _ _ _ _ => rfl
  have hK1 : Consts (w.alloc (.cells #[.slice none 0 0] 49)) := hK.keep (Below.alloc0 _ _)
  clear hd hdz hd3 hd3l hd3z ha hal hb hr
  gi_wp2_with (first
    | (refine ⟨trivial, ?_⟩; gi_at_call 25; refine (callsIn_wide.2 (HSUM.out _ hK1)).mono ?_; rintro e w1 ⟨rfl, hb1⟩)
    | (refine ⟨trivial, ?_⟩; gi_at_call 9; refine (callsIn_wide.2 (HLET.out _)).mono ?_; rintro e w2 ⟨rfl, hb2⟩)
    | (refine ⟨trivial, ?_⟩; gi_at_call 24; refine (callsIn_wide.2 (aparts_any b _)).mono ?_; rintro e w3 ⟨rfl, rfl⟩))
  obtain ⟨i0, hI0, hz0, hz1, hz2⟩ := info_parts string_info
  have hbw : Below w.heap.size w w2 := ((Below.alloc0 w (.cells #[.slice none 0 0] 49)).next' hb1 (by simp)).next' hb2 (by have := hb1.size; simp at this; omega)
  have hL0 : (w.alloc (.cells #[.slice none 0 0] 49)).heap[w.heap.size]? = some (.cells #[.slice none 0 0] 49 (0, 0)) := heap_alloc_new w _
  have hL1 := (hb1.block _ (Array.getElem?_eq_some_iff.1 hL0).1).trans hL0
  have hL2 := (hb2.block _ (Array.getElem?_eq_some_iff.1 hL1).1).trans hL1
  have hlt2 := (Array.getElem?_eq_some_iff.1 hL2).1
  have hL3 := (Below.heap_alloc w2 (.cells #[.string b] 9) _ hlt2).trans hL2
  have hB3 := heap_alloc_new w2 (.cells #[.string b] 9)
  have hbV := hbw.al (.cells #[.string b] 9)
  have hsz : (w2.alloc (.cells #[.string b] 9)).heap.size = w2.heap.size + 1 := by simp
  have hcb : (w2.alloc (.cells #[.string b] 9)).cell? ⟨w2.heap.size, 0, none⟩ = some (.string b) := by rw [cell_of_row _ _ _ _ _ _ hB3]; rfl
  clear hL0 hL1 hL2 hbw hb1 hb2 hK1 hK
  obtain ⟨N, hN⟩ : ∃ N, N = w.heap.size := ⟨_, rfl⟩
  rw [← hN] at hL3 hbV hlt2 ⊢
  generalize w2.heap.size = X at *
  generalize w2.alloc (.cells #[.string b] 9) = V at *
  have HN := Lib.hid hN
  clear hN
  have HSL := Lib.hid hsl
  have HAD := Lib.hid hadd
  clear hsl hadd
  refine wpIn_rangeFunc_ownF rfl (by omega) (gf := 31) (lb := #[.pointer (some ⟨X, 0, none⟩)]) rfl trivial
    (enters_of Tryd.func31 (by kernel_rfl) rfl) (aparts1_in 2 (by omega) X b (by omega) V hcb) KpA1_t (KpA1_b (by omega)) (Below.refl _ _) (fun _ => rfl)
    (fun pre W => (Gath W N (X + 1) pre ∧ W.heap[X]? = some (.cells #[.string b] 9 (0, 0))) ∧ Below N w W)
    (fun _ _ _ => False)
    (OwnFrom.and (OwnFrom.and (gath_own (by omega)) (fun s W W' row hs hg hr => (hg.block X (Array.getElem?_eq_some_iff.1 hs).1 (by rintro e; have := (hr X e.symm).1; omega)).trans hs)) (ownFrom_below (Nat.le_of_eq HN.out) (by omega)))
    (fun _ _ _ _ _ h => h.elim)
    ⟨⟨⟨_, hL3, World.ownsRow_nil _ _ _ _⟩, hB3⟩, hbV⟩
    (fun x => { tmps := #[.string s, undef, .string ⟨#[]⟩, .int .i64 0, .pointer (some ⟨N, 0, none⟩), .string x, .string s, .int .i64 s.size, .bool false, .string s, .string s, .string d, .string d3, .string a, .string b,
      .func (.func 31) #[] #[.pointer (some ⟨X, 0, none⟩)], .string x, undef, undef, undef, undef, undef, undef], defers := [] }) ?assign ?body ?done ?stop
  case assign =>
    intro q x W K hKx
    gi_wp2
    exact hKx
  case body =>
    rintro q pre x W ⟨⟨⟨v, hLv, hown⟩, hBv⟩, hbW⟩ hlen
    have hcv : W.cell? ⟨N, 0, none⟩ = some v := by rw [cell_of_row _ _ _ _ _ _ hLv]; rfl
    have hNW := (Array.getElem?_eq_some_iff.1 hLv).1
    have hXW := (Array.getElem?_eq_some_iff.1 hBv).1
    have hpl : pre.length < 10000 := by unfold partsN5 at hlen; omega
    gi_wp2_with (first
      | (gi_at_builtin; refine wpListIn_append_own _ rfl _ _ 49 rfl (X + 1) 9 i0 (.string ⟨#[]⟩) 1 16 Tryd.underlying49 hI0 hz0 hz1 hz2 rfl (by decide) _ _ _ rfl (hown.alloc _) ⟨W.heap.size, 0, none⟩ 1 1 [.string x] rfl rfl ?c1 ?c2 ?c3 ?c4 ?c5 ?_))
    case c1 =>
      intro j u hj
      match j, hj with
      | 0, hj => simp at hj; subst hj; simp [Addr.add]
    case c2 => intro u hu; simp at hu; subst hu; rfl
    case c3 => unfold maxLen; omega
    case c4 => omega
    case c5 => simp; omega
    intro v' w3 hown' hgrow _
    have hne : ∀ k, v.ownBlock = some k → X + 1 ≤ k ∧ k < W.heap.size := fun k e => hown.lt k e
    have hL3' := (hgrow.block N (by simp; omega) (fun e => by have := (hne _ e.symm).1; omega)).trans ((Below.heap_alloc W (.cells #[.string x] 9) N hNW).trans hLv)
    have hX3' := (hgrow.block X (by simp; omega) (fun e => by have := (hne _ e.symm).1; omega)).trans ((Below.heap_alloc W (.cells #[.string x] 9) X hXW).trans hBv)
    have hko : KeepsOthers W w3 := (KeepsOthers.alloc W (.cells #[.string x] 9)).trans (KeepsOthers.of_grownBy hgrow (fun j o e ho => by
      rcases hown.2 with ⟨rfl, _⟩ | ⟨g, cap, cur, rfl, hg2, hh, _⟩
      · cases e
      · cases e
        have := (Below.heap_alloc W (.cells #[.string x] 9) g (Array.getElem?_eq_some_iff.1 hh).1).trans hh
        rw [this] at ho
        cases ho
        rfl))
    have hb3 := (hbW.alloc (by have := hbW.size; omega) (.cells #[.string x] 9)).grown hgrow (by have := hbW.size; simp; omega) (fun k e => by have := (hne k e).1; omega)
    rw [strsV_snoc] at hown'
    have hBv' := hBv
    clear hown hgrow hbW hne hLv hBv hcv
    have hc3 : w3.cell? ⟨N, 0, none⟩ = some v := by rw [cell_of_row _ _ _ _ _ _ hL3']; rfl
    have hf3 : w3.frozen? ⟨N, 0, none⟩ = false := by unfold World.frozen?; rw [hL3']; simp
    obtain ⟨A1, c1, rfl, -⟩ := own_sl hown'
    have hlen1 : (pre ++ [x]).length = pre.length + 1 := by simp
    rw [← hlen1] at hown'
    gi_wp2
    have hset : (w3.setCell ⟨N, 0, none⟩ (.slice A1 (pre.length + 1) c1)).heap[N]? = some (.cells #[.slice A1 (pre.length + 1) c1] 49 (0, 0)) := (heap_setCell_same w3 N 0 _ _ _ hL3').trans rfl
    refine ⟨hko.trans (KeepsOthers.setCell _ _ _), ?_, ⟨⟨_, hset, ?_⟩, ?_⟩, hb3.setCell (p := ⟨N, 0, none⟩) (by simp) _⟩
    · show _ = _
      rw [hBv']
      exact (Below.heap_setCell w3 ⟨N, 0, none⟩ _ X (by simp; omega)).trans hX3'
    · rw [← hlen1]
      exact own_held hown' (grown_setCell w3 ⟨N, 0, none⟩ _) (by simp; omega)
    · exact (Below.heap_setCell w3 ⟨N, 0, none⟩ _ X (by simp; omega)).trans hX3'
  case done =>
    rintro D xs W hD rfl ⟨⟨⟨v, hLv, hown⟩, hBv⟩, hbW⟩ hKd
    have hj := own_join hown (by rw [partsB5_length]; exact HPOS.out)
    obtain ⟨g, c, rfl, hg, hnc, hln, hcells⟩ := hj
    have hJ := Tryd.strings_Join g 0 c (partsB5 b.data.toList (partsN5 b.size)) ⟨#[45]⟩ W hcells hg (by rw [partsB5_length]; unfold partsN5; omega) hnc (by rw [show (ByteArray.mk #[45]).data.toList = [45] from rfl, HJN.out]; exact Nat.le_trans HRZ.out (by omega))
    rw [show (ByteArray.mk #[45]).data.toList = [45] from rfl, HJN.out] at hJ
    have hcv := cell_of_row W N 0 _ _ _ hLv
    have hrr : (⟨r.data.toList.toArray⟩ : ByteArray) = r := ByteArray.ext (by simp)
    rw [hrr] at hJ
    clear hrr
    generalize (partsB5 b.data.toList (partsN5 b.size)).length = m at *
    simp only [List.getElem?_toArray, List.getElem?_cons_zero] at hcv
    gi_wp2_with (refine ⟨trivial, ?_⟩; gi_at_call 26; refine (callsIn_wide.2 hJ).mono ?_; rintro e V3 ⟨rfl, hb3⟩)
    have hDD := (hb3.block D (Array.getElem?_eq_some_iff.1 hKd).1).trans hKd
    have hbd : Below w.heap.size w (V3.putObj D (.deferred none)) := by
      rw [← HN.out]
      have hb4 := hbW.next' hb3 (Nat.le_of_eq HN.out)
      exact hb4.grown (grownBy_putObj' V3 D _) (by have := hb4.size; have := HN.out; omega) (fun k e => by cases e; omega)
    refine ⟨by simp, .inl ⟨_, _, rfl, run_takeDeferred hDD, ?_⟩⟩
    exact ⟨_, results_tmp2 rfl _ _ _, rfl, hbd⟩
  case stop =>
    rintro D c pre W hD hpre h hKd
    exact h.elim
end Go.Proofs.YtmmkhlianijagaaDoor
