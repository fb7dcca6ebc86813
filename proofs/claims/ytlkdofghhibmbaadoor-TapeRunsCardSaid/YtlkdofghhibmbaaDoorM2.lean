/-
  Merged by program: Str1, Upto, Uptot, Str2, Dig4, Str3, Str4, StrS, StrB, Dig1, Dig2.
-/
import Derived.Test.YtlkdofghhibmbaaDoorM1
import Derived.OrdersHeld
import Derived.Deep.RegionHeld
import Derived.RegionTactic
import Derived.Deep.MidRow
import Derived.Deep.RegionHeld3
import Derived.Deep.DeepCutAuto
import Derived.Deep.CutBlock
import Derived.Laws.IdiomStrings
import Derived.Laws.CopyRow
import Derived.Laws.Rows
import Derived.Laws.Alloc2
import Derived.Deep.QuietTactic
import Derived.BigQuiet

/-
  stream: the contracts of quarter and Turn.
-/
namespace Go.Proofs.YtlkdofghhibmbaaDoor
open Go.RowKit Go.Kx
set_option maxRecDepth 20000

theorem results_tmp5 {fn : Func} {t u v x y : Tmp} (h : fn.results = #[.tmp t, .tmp u, .tmp v, .tmp x, .tmp y]) (tmps : Array Value) (P : Program) (w : World) :
    (results fn tmps).run P w = .ok (.tuple #[tmps.getD t undef, tmps.getD u undef, tmps.getD v undef, tmps.getD x undef, tmps.getD y undef]) w := by
  simp [results, h]
theorem addL_pr (x y : Nat) : addL [x, y] = qS x y := by simp [addL, qS]
theorem quarter_any (x y z n : Nat) (hx : x < 4294967296) (hy : y < 4294967296) (hz : z < 4294967296) (hn : n ≤ 32) (w : World) :
    Calls Tryd.prog 82 #[.int .i64 x, .int .i64 y, .int .i64 z, .int .i64 n] w fun e w' => e = .returned (.tuple #[.int .i64 (qS x y : Nat), .int .i64 (qR x y z n : Nat)]) ∧ Below w.heap.size w w' := by
  have hs := qS_lt x y
  obtain ⟨s, es⟩ : ∃ s, qS x y = s := ⟨_, rfl⟩
  obtain ⟨r, er⟩ : ∃ r, qR x y z n = r := ⟨_, rfl⟩
  have hxr : z ^^^ s < 4294967296 := Nat.xor_lt_two_pow (n := 32) hz (by omega)
  have HR : Hid (rotN (z ^^^ s) n = r) := Lib.hid (by rw [← er, ← es]; rfl)
  have HS : Hid (addL [x, y] = s) := Lib.hid (by rw [addL_pr, es])
  rw [es, er]
  rw [es] at hs
  clear es er
  go_enter Tryd.func82, Tryd.ntmps82
  go_wp2_with fail
  refine (add_any (some ⟨w.heap.size, 0, none⟩) 2 [x, y] _ (by simp) (Sl.new _ _ _) (by simp; omega)).mono ?_
  rintro e w1 ⟨rfl, rfl⟩
  rw [HS.out]
  go_wp2_with fail
  refine (xor_any z s hz hs _).mono ?_
  rintro e w2 ⟨rfl, hb2⟩
  generalize hxx : z ^^^ s = x2 at *
  have HXX := Lib.hid hxx
  clear hxx
  go_wp2_with fail
  refine (rot_any x2 n hxr hn _).mono ?_
  rintro e w3 ⟨rfl, hb3⟩
  rw [HR.out]
  go_wp2
  go_ret2
  exact ⟨rfl, (Below.alloc0 _ _).next (hb2.next hb3)⟩
theorem quarter_v (x y z n : Nat) (hx : x < 4294967296) (hy : y < 4294967296) (hz : z < 4294967296) (hn : n ≤ 32) (s r : Nat) (hs : qS x y = s) (hr : qR x y z n = r) (m : Int) (hm : (n : Int) = m) (w : World) :
    Calls Tryd.prog 82 #[.int .i64 x, .int .i64 y, .int .i64 z, .int .i64 m] w fun e w' => e = .returned (.tuple #[.int .i64 s, .int .i64 r]) ∧ Below w.heap.size w w' := by
  subst hs hr hm
  exact quarter_any x y z n hx hy hz hn w
theorem turn_any (a b c d : Nat) (ha : a < 4294967296) (hb : b < 4294967296) (hc : c < 4294967296) (hd : d < 4294967296) (t : W4) (ht : turnW a b c d = t) (w : World) :
    Calls Tryd.prog 70 #[.int .i64 a, .int .i64 b, .int .i64 c, .int .i64 d] w fun e w' =>
      e = .returned (.tuple #[.int .i64 t.a, .int .i64 t.b, .int .i64 t.c, .int .i64 t.d, .bool true]) ∧ Below w.heap.size w w' := by
  obtain ⟨a1, e1⟩ : ∃ x, qS a b = x := ⟨_, rfl⟩
  obtain ⟨d1, e2⟩ : ∃ x, qR a b d 16 = x := ⟨_, rfl⟩
  obtain ⟨c1, e3⟩ : ∃ x, qS c d1 = x := ⟨_, rfl⟩
  obtain ⟨b1, e4⟩ : ∃ x, qR c d1 b 12 = x := ⟨_, rfl⟩
  obtain ⟨a2, e5⟩ : ∃ x, qS a1 b1 = x := ⟨_, rfl⟩
  obtain ⟨d2, e6⟩ : ∃ x, qR a1 b1 d1 8 = x := ⟨_, rfl⟩
  obtain ⟨c2, e7⟩ : ∃ x, qS c1 d2 = x := ⟨_, rfl⟩
  obtain ⟨b2, e8⟩ : ∃ x, qR c1 d2 b1 7 = x := ⟨_, rfl⟩
  have HT : Hid (t = ⟨a2, b2, c2, d2⟩) := Lib.hid (by rw [← ht, ← e8, ← e7, ← e6, ← e5, ← e4, ← e3, ← e2, ← e1]; rfl)
  have l1 : a1 < 4294967296 := e1 ▸ qS_lt _ _
  have l2 : d1 < 4294967296 := e2 ▸ qR_lt _ _ _ _ hd (by omega)
  have l3 : c1 < 4294967296 := e3 ▸ qS_lt _ _
  have l4 : b1 < 4294967296 := e4 ▸ qR_lt _ _ _ _ hb (by omega)
  have l5 : a2 < 4294967296 := e5 ▸ qS_lt _ _
  have l6 : d2 < 4294967296 := e6 ▸ qR_lt _ _ _ _ l2 (by omega)
  have Q1 : Hid (∀ V : World, Calls Tryd.prog 82 #[.int .i64 a, .int .i64 b, .int .i64 d, .int .i64 16] V fun e w' => e = .returned (.tuple #[.int .i64 a1, .int .i64 d1]) ∧ Below V.heap.size V w') := Lib.hid fun V => quarter_v a b d 16 ha hb hd (by omega) a1 d1 e1 e2 16 rfl V
  have Q2 : Hid (∀ V : World, Calls Tryd.prog 82 #[.int .i64 c, .int .i64 d1, .int .i64 b, .int .i64 12] V fun e w' => e = .returned (.tuple #[.int .i64 c1, .int .i64 b1]) ∧ Below V.heap.size V w') := Lib.hid fun V => quarter_v c d1 b 12 hc l2 hb (by omega) c1 b1 e3 e4 12 rfl V
  have Q3 : Hid (∀ V : World, Calls Tryd.prog 82 #[.int .i64 a1, .int .i64 b1, .int .i64 d1, .int .i64 8] V fun e w' => e = .returned (.tuple #[.int .i64 a2, .int .i64 d2]) ∧ Below V.heap.size V w') := Lib.hid fun V => quarter_v a1 b1 d1 8 l1 l4 l2 (by omega) a2 d2 e5 e6 8 rfl V
  have Q4 : Hid (∀ V : World, Calls Tryd.prog 82 #[.int .i64 c1, .int .i64 d2, .int .i64 b1, .int .i64 7] V fun e w' => e = .returned (.tuple #[.int .i64 c2, .int .i64 b2]) ∧ Below V.heap.size V w') := Lib.hid fun V => quarter_v c1 d2 b1 7 l3 l6 l4 (by omega) c2 b2 e7 e8 7 rfl V
  clear ht e1 e2 e3 e4 e5 e6 e7 e8
  rw [HT.out]
  go_enter Tryd.func70, Tryd.ntmps70
  go_wp2_with fail
  refine (is_nats (some ⟨w.heap.size, 0, none⟩) 4 [a, b, c, d] _ (by simp) (Sl.new _ _ _) (by simp; omega)).mono ?_
  rintro e w1 ⟨rfl, rfl⟩
  go_wp2_with fail
  refine (Q1.out _).mono ?_
  rintro e w2 ⟨rfl, hb2⟩
  go_wp2_with fail
  refine (Q2.out _).mono ?_
  rintro e w3 ⟨rfl, hb3⟩
  go_wp2_with fail
  refine (Q3.out _).mono ?_
  rintro e w4 ⟨rfl, hb4⟩
  go_wp2_with fail
  refine (Q4.out _).mono ?_
  rintro e w5 ⟨rfl, hb5⟩
  go_wp2
  (try simp only [Exit.inBlock, Exit.then])
  refine bodyPost_ret (results_tmp5 rfl _ _ _) rfl ?_
  exact ⟨rfl, (Below.alloc0 _ _).next (hb2.next (hb3.next (hb4.next hb5)))⟩
end Go.Proofs.YtlkdofghhibmbaaDoor

/-
  A region that draws, whose last operation L writes what others of it read: a condition S on the world is asked behind every operation but L. What reads under S may be taken first, if L waits for it.
-/
namespace Go.Kx

section
variable {P : Program} {md : Region.Mode} {ops : Array Oper} {Q : Exit → Act → World → Prop} {S : World → Prop} {L : Nat}

def Upto (P : Program) (md : Region.Mode) (ops : Array Oper) (Q : Exit → Act → World → Prop) (S : World → Prop) (L : Nat) : Nat → Array Bool → Act → World → Prop
  | 0, l, a, w => Region.ready md ops l = [] ∧ Q .normal a w
  | n + 1, l, a, w => (Region.ready md ops l = [] → Q .normal a w) ∧
      ∀ i ∈ Region.ready md ops l, wpOp P ops Q i (fun a' w' => (i = L ∨ S w') ∧ Upto P md ops Q S L n (l.setIfInBounds i true) a' w') a w
theorem Upto.any : ∀ (n : Nat) (l : Array Bool) (a : Act) (w : World), Upto P md ops Q S L n l a w → wpAny P md ops Q n l a w
  | 0, _, _, _, h => h
  | n + 1, _, _, _, h => ⟨h.1, fun i hi => wpOp_mono (fun a' w' h' => Upto.any n _ a' w' h'.2) (h.2 i hi)⟩
def waits (md : Region.Mode) (ops : Array Oper) (L i : Nat) : Bool := match ops[L]? with
  | some o => o.after.toList.any fun e => Region.binds md e && e.on == i
  | none => true
theorem listed_no {l : Array Bool} {i : Nat} (h0 : l.getD i true = false) (h1 : l.getD i false = true) : False := by
  rcases Nat.lt_or_ge i l.size with h | h
  · simp [h] at h0 h1; rw [h0] at h1; cases h1
  · simp [Array.getElem?_eq_none h] at h1
theorem waits_ready {i : Nat} {l : Array Bool} (h : waits md ops L i = true) (hi : i ∈ Region.ready md ops l) : L ∉ Region.ready md ops l := by
  intro hL
  obtain ⟨_, o, ho, hall⟩ := mem_ready.1 hL
  have h0 := (mem_ready.1 hi).1
  unfold waits at h
  rw [ho] at h
  obtain ⟨e, he, hb⟩ := List.any_eq_true.1 h
  simp only [Bool.and_eq_true, beq_iff_eq] at hb
  have h1 := hall e (by simpa using he) hb.1
  rw [hb.2] at h1
  exact listed_no h0 h1
theorem Upto.take_gen {i : Nat} {oi : Oper} {v : Value} (hi : ops[i]? = some oi) (hs : Region.noSelect ops = true) (hL : waits md ops L i = true) (hQ : ∀ c a w, Q (.panic c) (a.put oi.dst v) w → Q (.panic c) a w) :
    ∀ (n : Nat) (l : Array Bool) (a : Act) (w : World), (∀ j oj, ops[j]? = some oj → j ≠ i → l.getD j true = false → (∀ e ∈ oj.after, Region.binds md e = true → e.on ≠ i) → oi.apart ops oj = true) →
      i ∈ Region.ready md ops l → YieldsIf P ops S oi v a → S w → Upto P md ops Q S L n (l.setIfInBounds i true) (a.put oi.dst v) w → Upto P md ops Q S L (n + 1) l a w := by
  intro n
  induction n with
  | zero =>
    intro l a w _ hr hy hS H
    refine ⟨fun h => (by rw [h] at hr; cases hr), fun j hj => ?_⟩
    by_cases hji : j = i
    · subst hji; exact hy.wpOp hi hS ⟨.inr hS, H⟩
    · have h1 := ready_mono hj hji
      rw [H.1] at h1
      cases h1
  | succ n ih =>
    intro l a w hf hr hy hS H
    refine ⟨fun h => (by rw [h] at hr; cases hr), fun j hj => ?_⟩
    by_cases hji : j = i
    · subst hji; exact hy.wpOp hi hS ⟨.inr hS, H⟩
    · have hjL : j ≠ L := fun h => waits_ready hL hr (h ▸ hj)
      obtain ⟨hun, oj, hoj, hall⟩ := mem_ready.1 hj
      have hno : ∀ e ∈ oj.after, Region.binds md e = true → e.on ≠ i := fun e he hb heq => listed_no (mem_ready.1 hr).1 (by have := hall e he hb; rwa [heq] at this)
      have h2 := wpOp_putIf hoj (hf j oj hoj hji hun hno) (fun cs b => Region.noSelect_spec hs i oi cs b hi) (fun cs b => Region.noSelect_spec hs j oj cs b hoj) hQ hy (H.2 j (ready_mono hj hji))
      refine wpOp_mono (fun a' w' h3 => ?_) h2
      have hS' := h3.2.1.resolve_left hjL
      refine ⟨.inr hS', ih _ a' w' (fun k ok hk hki huk hnk => ?_) (ready_mono hr (Ne.symm hji)) h3.1 hS' (by rw [Array.setIfInBounds_comm _ _ hji]; exact h3.2.2)⟩
      refine hf k ok hk hki ?_ hnk
      by_cases hjk : j = k
      · subst hjk; exact hun
      · rwa [getD_set_ne true hjk] at huk
end
section
variable {P : Program} {md : Region.Mode} {ls : List Oper} {Q : Exit → Act → World → Prop} {S : World → Prop} {L n : Nat} {l : Array Bool} {a : Act} {w : World}
theorem drop_at {ls rest : List Oper} {i : Nat} {o : Oper} (h : ls.drop i = o :: rest) : ls.toArray[i]? = some o := by
  have := congrArg (fun x : List Oper => x[0]?) h
  simpa [List.getElem?_drop] using this
theorem Upto.take {i : Nat} {oi : Oper} {rest : List Oper} {v : Value} (hi : ls.drop i = oi :: rest) (hs : Region.noSelect ls.toArray = true) (hf : Region.free md ls.toArray l i = true) (hr : (Region.ready md ls.toArray l).contains i = true)
    (hL : waits md ls.toArray L i = true) (hQ : ∀ c a w, Q (.panic c) (a.put oi.dst v) w → Q (.panic c) a w) (hy : YieldsIf P ls.toArray S oi v a) (hS : S w)
    (h : Upto P md ls.toArray Q S L n (l.setIfInBounds i true) (a.put oi.dst v) w) : Upto P md ls.toArray Q S L (n + 1) l a w :=
  Upto.take_gen (drop_at hi) hs hL hQ n l a w (Region.free_spec (drop_at hi) hf) (by simpa using hr) hy hS h
theorem Upto.step {i : Nat} {o : Oper} {rest : List Oper} (ho : ls.drop i = o :: rest)
    (h : ∀ K : Act → World → Prop, Shut (∀ a w, (i = L ∨ S w) → Upto P md ls.toArray Q S L n (l.setIfInBounds i true) a w → K a w) → if Region.wanted o (yielded ls.toArray a.tmps) = true then Oper.wp P o a w K Q else K (a.put o.dst undef) w) :
    wpOp P ls.toArray Q i (fun a' w' => (i = L ∨ S w') ∧ Upto P md ls.toArray Q S L n (l.setIfInBounds i true) a' w') a w :=
  wpOp_step (drop_at ho) fun K hK => h K fun a w h1 h2 => hK a w ⟨h1, h2⟩
theorem Upto.one {i : Nat} (hr : Region.ready md ls.toArray l = [i]) (h : wpOp P ls.toArray Q i (fun a' w' => (i = L ∨ S w') ∧ Upto P md ls.toArray Q S L n (l.setIfInBounds i true) a' w') a w) :
    Upto P md ls.toArray Q S L (n + 1) l a w := ⟨fun h0 => (by rw [hr] at h0; cases h0), fun j hj => by
  rw [hr] at hj
  obtain rfl := List.mem_singleton.1 hj
  exact h⟩
theorem Upto.two {i j : Nat} (hr : Region.ready md ls.toArray l = [i, j]) (h : wpOp P ls.toArray Q i (fun a' w' => (i = L ∨ S w') ∧ Upto P md ls.toArray Q S L n (l.setIfInBounds i true) a' w') a w)
    (h' : wpOp P ls.toArray Q j (fun a' w' => (j = L ∨ S w') ∧ Upto P md ls.toArray Q S L n (l.setIfInBounds j true) a' w') a w) :
    Upto P md ls.toArray Q S L (n + 1) l a w := ⟨fun h0 => (by rw [hr] at h0; cases h0), fun k hk => by
  rw [hr] at hk
  rcases List.mem_cons.1 hk with rfl | hk
  · exact h
  · obtain rfl := List.mem_singleton.1 hk
    exact h'⟩
theorem Upto.done (hr : Region.ready md ls.toArray l = []) (h : Q .normal a w) : ∀ n, Upto P md ls.toArray Q S L n l a w
  | 0 => ⟨hr, h⟩
  | _ + 1 => ⟨fun _ => h, by rw [hr]; simp⟩
theorem Upto.begin_ {id : Nat} (L : Nat) (S : World → Prop) (hm : P.follows .mixedOrders = true) (h : Upto P .any ls.toArray Q S L ls.length (Array.replicate ls.length false) a w.drew) : (Code.region id ls.toArray true).wp P Q a w := by
  refine wp_region_any hm (Upto.any (S := S) (L := L) _ _ _ _ ?_)
  simpa using h
end
end Go.Kx

/-
  A region that draws, some operations of which (Ls) write what others of it read: of two conditions on the world S is asked behind every operation, T until one of Ls has come. What reads under S and T may be taken first, if those of Ls wait for it; what reads under S alone always.
-/
namespace Go.Kx

section
variable {P : Program} {md : Region.Mode} {ops : Array Oper} {Q : Exit → Act → World → Prop} {S T : World → Prop} {Ls : List Nat}

def come (Ls : List Nat) (l : Array Bool) : Bool := Ls.any fun L => l.getD L false
def Cond (S T : World → Prop) (Ls : List Nat) (l : Array Bool) (w : World) : Prop := S w ∧ (come Ls l = true ∨ T w)
def Uptot (P : Program) (md : Region.Mode) (ops : Array Oper) (Q : Exit → Act → World → Prop) (S T : World → Prop) (Ls : List Nat) : Nat → Array Bool → Act → World → Prop
  | 0, l, a, w => Region.ready md ops l = [] ∧ Q .normal a w
  | n + 1, l, a, w => (Region.ready md ops l = [] → Q .normal a w) ∧
      ∀ i ∈ Region.ready md ops l, wpOp P ops Q i (fun a' w' => Cond S T Ls (l.setIfInBounds i true) w' ∧ Uptot P md ops Q S T Ls n (l.setIfInBounds i true) a' w') a w
theorem Uptot.any : ∀ (n : Nat) (l : Array Bool) (a : Act) (w : World), Uptot P md ops Q S T Ls n l a w → wpAny P md ops Q n l a w
  | 0, _, _, _, h => h
  | n + 1, _, _, _, h => ⟨h.1, fun i hi => wpOp_mono (fun a' w' h' => Uptot.any n _ a' w' h'.2) (h.2 i hi)⟩
theorem come_set {l : Array Bool} {i : Nat} (h : i ∉ Ls) : come Ls (l.setIfInBounds i true) = come Ls l := by
  unfold come
  rw [Bool.eq_iff_iff, List.any_eq_true, List.any_eq_true]
  have e : ∀ L ∈ Ls, (l.setIfInBounds i true).getD L false = l.getD L false := fun L hL => getD_set_ne false (fun e => h (e ▸ hL))
  constructor
  · rintro ⟨L, hL, h1⟩
    exact ⟨L, hL, by rw [← e L hL]; exact h1⟩
  · rintro ⟨L, hL, h1⟩
    exact ⟨L, hL, by rw [e L hL]; exact h1⟩
theorem Uptot.take_gen {i : Nat} {oi : Oper} {v : Value} {R : World → Prop} (hi : ops[i]? = some oi) (hiL : i ∉ Ls) (hs : Region.noSelect ops = true) (hR : ∀ w, S w → T w → R w) (hM : (∀ w, S w → R w) ∨ ∀ L ∈ Ls, waits md ops L i = true)
    (hQ : ∀ c a w, Q (.panic c) (a.put oi.dst v) w → Q (.panic c) a w) :
    ∀ (n : Nat) (l : Array Bool) (a : Act) (w : World), (∀ j oj, ops[j]? = some oj → j ≠ i → l.getD j true = false → (∀ e ∈ oj.after, Region.binds md e = true → e.on ≠ i) → oi.apart ops oj = true) →
      i ∈ Region.ready md ops l → ((∀ w, S w → R w) ∨ come Ls l = false) → YieldsIf P ops R oi v a → Cond S T Ls l w → Uptot P md ops Q S T Ls n (l.setIfInBounds i true) (a.put oi.dst v) w → Uptot P md ops Q S T Ls (n + 1) l a w := by
  have hRw : ∀ l w, ((∀ w, S w → R w) ∨ come Ls l = false) → Cond S T Ls l w → R w := fun l w hD hC => by
    rcases hD with h | h
    · exact h w hC.1
    · exact hR w hC.1 (hC.2.resolve_left (by rw [h]; simp))
  have hCi : ∀ l w, Cond S T Ls l w → Cond S T Ls (l.setIfInBounds i true) w := fun l w hC => by
    unfold Cond
    rw [come_set hiL]
    exact hC
  intro n
  induction n with
  | zero =>
    intro l a w _ hr hD hy hC H
    refine ⟨fun h => (by rw [h] at hr; cases hr), fun j hj => ?_⟩
    by_cases hji : j = i
    · subst hji; exact hy.wpOp hi (hRw l w hD hC) ⟨hCi l w hC, H⟩
    · have h1 := ready_mono hj hji
      rw [H.1] at h1
      cases h1
  | succ n ih =>
    intro l a w hf hr hD hy hC H
    refine ⟨fun h => (by rw [h] at hr; cases hr), fun j hj => ?_⟩
    by_cases hji : j = i
    · subst hji; exact hy.wpOp hi (hRw l w hD hC) ⟨hCi l w hC, H⟩
    · obtain ⟨hun, oj, hoj, hall⟩ := mem_ready.1 hj
      have hno : ∀ e ∈ oj.after, Region.binds md e = true → e.on ≠ i := fun e he hb heq => listed_no (mem_ready.1 hr).1 (by have := hall e he hb; rwa [heq] at this)
      have h2 := wpOp_putIf hoj (hf j oj hoj hji hun hno) (fun cs b => Region.noSelect_spec hs i oi cs b hi) (fun cs b => Region.noSelect_spec hs j oj cs b hoj) hQ hy (H.2 j (ready_mono hj hji))
      refine wpOp_mono (fun a' w' h3 => ?_) h2
      have hC' : Cond S T Ls (l.setIfInBounds j true) w' := by
        have h4 := h3.2.1
        unfold Cond at h4 ⊢
        rw [Array.setIfInBounds_comm _ _ (Ne.symm hji), come_set hiL] at h4
        exact h4
      have hD' : (∀ w, S w → R w) ∨ come Ls (l.setIfInBounds j true) = false := by
        rcases hD with h | h
        · exact .inl h
        · rcases hM with h' | h'
          · exact .inl h'
          · exact .inr (by rw [come_set fun hjL => waits_ready (h' j hjL) hr hj]; exact h)
      refine ⟨hC', ih _ a' w' (fun k ok hk hki huk hnk => ?_) (ready_mono hr (Ne.symm hji)) hD' h3.1 hC' (by rw [Array.setIfInBounds_comm _ _ hji]; exact h3.2.2)⟩
      refine hf k ok hk hki ?_ hnk
      by_cases hjk : j = k
      · subst hjk; exact hun
      · rwa [getD_set_ne true hjk] at huk
end
section
variable {P : Program} {md : Region.Mode} {ls : List Oper} {Q : Exit → Act → World → Prop} {S T : World → Prop} {Ls : List Nat} {n : Nat} {l : Array Bool} {a : Act} {w : World}
/-- Ahead of all of Ls: what reads under S and T. -/
theorem Uptot.take {i : Nat} {oi : Oper} {rest : List Oper} {v : Value} (hi : ls.drop i = oi :: rest) (hs : Region.noSelect ls.toArray = true) (hf : Region.free md ls.toArray l i = true) (hr : (Region.ready md ls.toArray l).contains i = true)
    (hL : (!Ls.contains i && !come Ls l && Ls.all fun L => waits md ls.toArray L i) = true) (hQ : ∀ c a w, Q (.panic c) (a.put oi.dst v) w → Q (.panic c) a w) (hy : YieldsIf P ls.toArray (fun w => S w ∧ T w) oi v a) (hS : S w ∧ T w)
    (h : Uptot P md ls.toArray Q S T Ls n (l.setIfInBounds i true) (a.put oi.dst v) w) : Uptot P md ls.toArray Q S T Ls (n + 1) l a w := by
  simp only [Bool.and_eq_true, Bool.not_eq_true', List.all_eq_true] at hL
  exact Uptot.take_gen (R := fun w => S w ∧ T w) (drop_at hi) (by simpa using hL.1.1) hs (fun _ h1 h2 => ⟨h1, h2⟩) (.inr hL.2) hQ n l a w (Region.free_spec (drop_at hi) hf) (by simpa using hr) (.inr hL.1.2) hy ⟨hS.1, .inr hS.2⟩ h
/-- What reads under S alone. -/
theorem Uptot.takeS {i : Nat} {oi : Oper} {rest : List Oper} {v : Value} (hi : ls.drop i = oi :: rest) (hs : Region.noSelect ls.toArray = true) (hf : Region.free md ls.toArray l i = true) (hr : (Region.ready md ls.toArray l).contains i = true)
    (hL : (!Ls.contains i) = true) (hQ : ∀ c a w, Q (.panic c) (a.put oi.dst v) w → Q (.panic c) a w) (hy : YieldsIf P ls.toArray S oi v a) (hS : S w ∧ T w)
    (h : Uptot P md ls.toArray Q S T Ls n (l.setIfInBounds i true) (a.put oi.dst v) w) : Uptot P md ls.toArray Q S T Ls (n + 1) l a w :=
  Uptot.take_gen (R := S) (drop_at hi) (by simpa using hL) hs (fun _ h1 _ => h1) (.inl fun _ h => h) hQ n l a w (Region.free_spec (drop_at hi) hf) (by simpa using hr) (.inl fun _ h => h) hy ⟨hS.1, .inr hS.2⟩ h
/-- One operation alone may come; b: whether one of Ls has come behind it. -/
theorem Uptot.one {i : Nat} {o : Oper} {rest : List Oper} (hi : ls.drop i = o :: rest) (hr : Region.ready md ls.toArray l = [i])
    (h : ∀ K : Act → World → Prop, Shut (∀ a w, Cond S T Ls (l.setIfInBounds i true) w → Uptot P md ls.toArray Q S T Ls n (l.setIfInBounds i true) a w → K a w) → if Region.wanted o (yielded ls.toArray a.tmps) = true then Oper.wp P o a w K Q else K (a.put o.dst undef) w) :
    Uptot P md ls.toArray Q S T Ls (n + 1) l a w := ⟨fun h0 => (by rw [hr] at h0; cases h0), fun j hj => by
  rw [hr] at hj
  obtain rfl := List.mem_singleton.1 hj
  exact wpOp_step (drop_at hi) fun K hK => h K fun a w h1 h2 => hK a w ⟨h1, h2⟩⟩
theorem Cond.ahead (h : S w ∧ T w) : Cond S T Ls l w := ⟨h.1, .inr h.2⟩
theorem Cond.behind (h : S w) (hc : come Ls l = true) : Cond S T Ls l w := ⟨h, .inl hc⟩
theorem Uptot.done (hr : Region.ready md ls.toArray l = []) (h : Q .normal a w) : ∀ n, Uptot P md ls.toArray Q S T Ls n l a w
  | 0 => ⟨hr, h⟩
  | _ + 1 => ⟨fun _ => h, by rw [hr]; simp⟩
theorem Uptot.begin_ {id : Nat} (Ls : List Nat) (S T : World → Prop) (hm : P.follows .mixedOrders = true) (h : Uptot P .any ls.toArray Q S T Ls ls.length (Array.replicate ls.length false) a w.drew) : (Code.region id ls.toArray true).wp P Q a w := by
  refine wp_region_any hm (Uptot.any (S := S) (T := T) (Ls := Ls) _ _ _ _ ?_)
  simpa using h
end
end Go.Kx

/-
  stream: the contract of turned.
-/
namespace Go.Proofs.YtlkdofghhibmbaaDoor
open Go.RowKit Go.Kx
set_option maxRecDepth 20000

def sv (l : List Nat) : Array Value := rowA .i64 16 (fun j => l.getD j 0)
def placeV : List Value := placeL.flatten.map fun x : Nat => Value.int .i64 (x : Int)
def Places (w : World) : Prop := w.rangeAt 0 0 placeV
theorem Places.keep {w w' : World} (h : Places w) (hb : Below w.heap.size w w') : Places w' := by
  intro j v hv
  have hc := h j v hv
  exact (hb.cell (p := ⟨0, 0 + j, none⟩) (block_lt_of_cell hc)).trans hc
theorem place_index (k : Nat) (hk : k < 8) (V : World) : (Instr.index 113 (.agg placeV.toArray) (.int .i64 (k : Int))).run Tryd.prog V = .ok (.agg #[.int .i64 (placeAt k 0 : Nat), .int .i64 (placeAt k 1 : Nat), .int .i64 (placeAt k 2 : Nat), .int .i64 (placeAt k 3 : Nat)]) V := by
  rcases (by omega : k = 0 ∨ k = 1 ∨ k = 2 ∨ k = 3 ∨ k = 4 ∨ k = 5 ∨ k = 6 ∨ k = 7) with rfl | rfl | rfl | rfl | rfl | rfl | rfl | rfl <;> kernel_rfl
theorem sv_size (l : List Nat) : (sv l).size = 16 := rowA_size _ _ _
theorem sv_info : (Tryd.prog.info? 57).map (·.size) = some 16 := by kernel_rfl
theorem place_info : (Tryd.prog.info? 113).map (·.size) = some placeV.length := by kernel_rfl
theorem getD_set (l : List Nat) (i j x : Nat) (hi : i < l.length) : (l.set i x).getD j 0 = if j = i then x else l.getD j 0 := by
  simp only [List.getD_eq_getElem?_getD, List.getElem?_set]
  by_cases h : j = i
  · subst h
    rw [if_pos rfl, if_pos rfl, if_pos hi]
    rfl
  · rw [if_neg (Ne.symm h), if_neg h]
theorem sv_of_row {w : World} {g : Nat} {l : List Nat} (h : w.rowIs g 57 16 (fun j => .int .i64 (l.getD j 0 : Nat))) : w.heap[g]? = some (.cells (sv l) 57 (0, 0)) := by
  obtain ⟨c, h1, _, h3⟩ := rowIs_block h
  rw [h1, h3]
  rfl
theorem row16_set {w : World} {g : Nat} {l : List Nat} (h : w.rowIs g 57 16 (fun j => .int .i64 (l.getD j 0 : Nat))) (hl : l.length = 16) (i x : Nat) (hi : i < 16) :
    (w.setCell ⟨g, i, none⟩ (.int .i64 (x : Nat))).rowIs g 57 16 (fun j => .int .i64 ((l.set i x).getD j 0 : Nat)) :=
  (h.set i _).congr fun j _ => by
    rw [getD_set _ _ _ _ (by omega)]
    split <;> rfl
theorem row16_put4 {w : World} {g : Nat} {l : List Nat} (h : w.rowIs g 57 16 (fun j => .int .i64 (l.getD j 0 : Nat))) (hl : l.length = 16) (p q r s : Nat) (hp : p < 16) (hq : q < 16) (hr : r < 16) (hs : s < 16) (t : W4) :
    ((((w.setCell ⟨g, p, none⟩ (.int .i64 (t.a : Nat))).setCell ⟨g, q, none⟩ (.int .i64 (t.b : Nat))).setCell ⟨g, r, none⟩ (.int .i64 (t.c : Nat))).setCell ⟨g, s, none⟩ (.int .i64 (t.d : Nat))).rowIs g 57 16 (fun j => .int .i64 ((put4 l p q r s t).getD j 0 : Nat)) :=
  row16_set (row16_set (row16_set (row16_set h hl p t.a hp) (by simpa using hl) q t.b hq) (by simpa using hl) r t.c hr) (by simpa using hl) s t.d hs
abbrev Four (w : World) (G : Nat) (p q r s : Nat) : Prop := w.cell? ⟨G, 0, none⟩ = some (.int .i64 p) ∧ w.cell? ⟨G, 1, none⟩ = some (.int .i64 q) ∧ w.cell? ⟨G, 2, none⟩ = some (.int .i64 r) ∧ w.cell? ⟨G, 3, none⟩ = some (.int .i64 s)
theorem Four.new (w : World) (t : TypeId) (p q r s : Nat) : Four (w.alloc (.cells #[.int .i64 (p : Nat), .int .i64 (q : Nat), .int .i64 (r : Nat), .int .i64 (s : Nat)] t)) w.heap.size p q r s :=
  have h := fun j => cell_of_row (w.alloc (.cells #[.int .i64 (p : Nat), .int .i64 (q : Nat), .int .i64 (r : Nat), .int .i64 (s : Nat)] t)) w.heap.size j _ t (0, 0) (heap_alloc_new w _)
  ⟨h 0, h 1, h 2, h 3⟩
theorem cells_keep {w w' : World} {g p q r s : Nat} {x y z u : Value} (h : w.cell? ⟨g, p, none⟩ = some x ∧ w.cell? ⟨g, q, none⟩ = some y ∧ w.cell? ⟨g, r, none⟩ = some z ∧ w.cell? ⟨g, s, none⟩ = some u) (hg : g < w.heap.size) (hb : Below w.heap.size w w') :
    w'.cell? ⟨g, p, none⟩ = some x ∧ w'.cell? ⟨g, q, none⟩ = some y ∧ w'.cell? ⟨g, r, none⟩ = some z ∧ w'.cell? ⟨g, s, none⟩ = some u :=
  ⟨(hb.cell (p := ⟨g, p, none⟩) hg).trans h.1, (hb.cell (p := ⟨g, q, none⟩) hg).trans h.2.1, (hb.cell (p := ⟨g, r, none⟩) hg).trans h.2.2.1, (hb.cell (p := ⟨g, s, none⟩) hg).trans h.2.2.2⟩
theorem cells_set {w : World} {g p q r s B j : Nat} {x y z u v : Value} (h : w.cell? ⟨g, p, none⟩ = some x ∧ w.cell? ⟨g, q, none⟩ = some y ∧ w.cell? ⟨g, r, none⟩ = some z ∧ w.cell? ⟨g, s, none⟩ = some u) (hne : g ≠ B) :
    (w.setCell ⟨B, j, none⟩ v).cell? ⟨g, p, none⟩ = some x ∧ (w.setCell ⟨B, j, none⟩ v).cell? ⟨g, q, none⟩ = some y ∧ (w.setCell ⟨B, j, none⟩ v).cell? ⟨g, r, none⟩ = some z ∧ (w.setCell ⟨B, j, none⟩ v).cell? ⟨g, s, none⟩ = some u := by
  have e : ∀ o, (w.setCell ⟨B, j, none⟩ v).cell? ⟨g, o, none⟩ = w.cell? ⟨g, o, none⟩ := fun o => World.cell?_setCell_other _ _ _ _ (by rintro h; exact hne (congrArg Addr.block h).symm)
  rw [e, e, e, e]
  exact h

set_option maxRecDepth 100000 in
set_option maxHeartbeats 1000000 in
theorem turned_any (l : List Nat) (hl : okL l) (d : Array Value) (hd : d = sv l) (w : World) (hK : Places w) :
    Calls Tryd.prog 49 #[.agg d] w fun e w' => e = .returned (.agg (sv (turnL l))) ∧ Below w.heap.size w w' := by
  have s16 : d.size = 16 := by rw [hd, sv_size]
  have hr0 := World.rowIs_alloc w d 57 (fun j => .int .i64 (l.getD j 0 : Nat)) (fun j hj => by rw [hd]; exact rowA_at _ _ _ _ (by omega))
  rw [s16] at hr0
  have HR0 := Lib.hid hr0
  have HD := Lib.hid hd
  clear hr0 hd
  obtain ⟨cK, hcK⟩ : ∃ c, c = placeV := ⟨_, rfl⟩
  have hlK : (Tryd.prog.info? 113).map (·.size) = some cK.length := by rw [hcK]; exact place_info
  have hgK : w.rangeAt 0 0 cK := by rw [hcK]; exact hK
  have HIX : Hid (∀ (k : Nat), k < 8 → ∀ V, (Instr.index 113 (.agg cK.toArray) (.int .i64 (k : Int))).run Tryd.prog V = .ok (.agg #[.int .i64 (placeAt k 0 : Nat), .int .i64 (placeAt k 1 : Nat), .int .i64 (placeAt k 2 : Nat), .int .i64 (placeAt k 3 : Nat)]) V) :=
    Lib.hid (by rw [hcK]; exact place_index)
  have hgK2 : ∀ o1 o2, ((w.alloc o1).alloc o2).rangeAt 0 0 cK := fun o1 o2 => World.rangeAt_alloc (World.rangeAt_alloc hgK o1) o2
  clear hcK hK
  go_enter Tryd.func49, Tryd.ntmps49
  go_wp2_with (refine wpList_load_mid rfl _ _ rfl 0 0 rfl cK _ (hgK2 _ _) Tryd.underlying113 rfl hlK ?_)
  have hr0 := HR0.out.alloc (.cells (rowA .i64 16 fun _ => 0) 57)
  have hr1 := rowIs_new (w := w.alloc (.cells d 57)) (t := 57) (n := 16) (z := .int .i64 0) (c := rowA .i64 16 fun _ => 0) rfl
  rw [World.size_alloc] at hr1
  have hbw := ((Below.refl w.heap.size w).alloc (Nat.le_refl _) (.cells d 57)).alloc (by simp) (.cells (rowA .i64 16 fun _ => 0) 57)
  clear hlK hgK hgK2 HR0
  go_loopw [4, 6] (fun _ i wr => ∃ k : Nat, k ≤ 8 ∧ i = .int .i64 k ∧ wr.rowIs w.heap.size 57 16 (fun j => .int .i64 ((turnN l k).getD j 0 : Nat)) ∧ wr.rowIs (w.heap.size + 1) 57 16 (fun _ => .int .i64 0) ∧ Below w.heap.size w wr) (fun _ i _ => 8 - (intOf i).toNat)
  case atStart => exact ⟨0, by omega, rfl, hr0, hr1, hbw⟩
  case round =>
    clear hr0 hr1 hbw
    obtain ⟨k, hk, rfl, hr0, hr1, hb⟩ := hrel
    have hok := okL_turnN hl k
    by_cases hlt : k < 8
    · have hix := HIX.out k hlt
      have HS := Lib.hid (show turnN l (k + 1) = stepT (turnN l k) (placeAt k 0) (placeAt k 1) (placeAt k 2) (placeAt k 3) from rfl)
      have lp := placeAt_lt k 0 hlt (by omega)
      have lq := placeAt_lt k 1 hlt (by omega)
      have lr := placeAt_lt k 2 hlt (by omega)
      have ls := placeAt_lt k 3 hlt (by omega)
      generalize placeAt k 0 = p at *
      generalize placeAt k 1 = q at *
      generalize placeAt k 2 = r at *
      generalize placeAt k 3 = s at *
      generalize turnN l k = m at *
      have lx := okL_at hok p
      have ly := okL_at hok q
      have lz := okL_at hok r
      have lu := okL_at hok s
      have HS2 : Hid (turnN l (k + 1) = put4 m p q r s (turnW (m.getD p 0) (m.getD q 0) (m.getD r 0) (m.getD s 0))) := Lib.hid HS.out
      clear HS
      generalize ex : m.getD p 0 = x at *
      generalize ey : m.getD q 0 = y at *
      generalize ez : m.getD r 0 = z at *
      generalize eu : m.getD s 0 = u at *
      generalize ht : turnW x y z u = t at *
      have HT : Hid (∀ V : World, Calls Tryd.prog 70 #[.int .i64 x, .int .i64 y, .int .i64 z, .int .i64 u] V fun e w' => e = .returned (.tuple #[.int .i64 t.a, .int .i64 t.b, .int .i64 t.c, .int .i64 t.d, .bool true]) ∧ Below V.heap.size V w') :=
        Lib.hid fun V => turn_any x y z u lx ly lz lu t ht V
      have HOK := Lib.hid hok.1
      have HE := Lib.hid (And.intro ex (And.intro ey (And.intro ez eu)))
      clear ht lx ly lz lu hok ex ey ez eu
      have p0 : (0 : Int) ≤ (p : Int) := by omega
      have q0 : (0 : Int) ≤ (q : Int) := by omega
      have r0 : (0 : Int) ≤ (r : Int) := by omega
      have s0 : (0 : Int) ≤ (s : Int) := by omega
      have p1 : (p : Int) < 16 := by omega
      have q1 : (q : Int) < 16 := by omega
      have r1 : (r : Int) < 16 := by omega
      have s1 : (s : Int) < 16 := by omega
      go_wp2_with fail
      have hr0V := hr0.alloc (.cells #[.int .i64 (p : Nat), .int .i64 (q : Nat), .int .i64 (r : Nat), .int .i64 (s : Nat)] 112)
      have hr1V := hr1.alloc (.cells #[.int .i64 (p : Nat), .int .i64 (q : Nat), .int .i64 (r : Nat), .int .i64 (s : Nat)] 112)
      have hbV := hb.alloc hb.size (.cells #[.int .i64 (p : Nat), .int .i64 (q : Nat), .int .i64 (r : Nat), .int .i64 (s : Nat)] 112)
      have hG := Four.new wr 112 p q r s
      have hGl : wr.heap.size < (wr.alloc (.cells #[.int .i64 (p : Nat), .int .i64 (q : Nat), .int .i64 (r : Nat), .int .i64 (s : Nat)] 112)).heap.size := by simp
      have hne : wr.heap.size ≠ w.heap.size := by have := hr1.lt; omega
      clear hr0 hr1 hb hix
      generalize wr.heap.size = G at *
      generalize wr.alloc _ = V at *
      have cp := hr0V.cell (i := p) lp
      have cq := hr0V.cell (i := q) lq
      have cr := hr0V.cell (i := r) lr
      have cs := hr0V.cell (i := s) ls
      rw [HE.out.1] at cp
      rw [HE.out.2.1] at cq
      rw [HE.out.2.2.1] at cr
      rw [HE.out.2.2.2] at cs
      have hST : Four V.drew G p q r s ∧ (V.drew.cell? ⟨w.heap.size, p, none⟩ = some (.int .i64 x) ∧ V.drew.cell? ⟨w.heap.size, q, none⟩ = some (.int .i64 y) ∧ V.drew.cell? ⟨w.heap.size, r, none⟩ = some (.int .i64 z) ∧ V.drew.cell? ⟨w.heap.size, s, none⟩ = some (.int .i64 u)) := ⟨hG, cp, cq, cr, cs⟩
      clear cp cq cr cs hG
      have hr0D := hr0V.drew
      have hr1D := hr1V.drew
      have hbD := hbV.drew
      have hGD : G < V.drew.heap.size := hGl
      refine Uptot.begin_ [32, 34, 36, 38] (fun w' : World => w'.cell? ⟨G, 0, none⟩ = some (.int .i64 p) ∧ w'.cell? ⟨G, 1, none⟩ = some (.int .i64 q) ∧ w'.cell? ⟨G, 2, none⟩ = some (.int .i64 r) ∧ w'.cell? ⟨G, 3, none⟩ = some (.int .i64 s))
        (fun w' : World => w'.cell? ⟨w.heap.size, p, none⟩ = some (.int .i64 x) ∧ w'.cell? ⟨w.heap.size, q, none⟩ = some (.int .i64 y) ∧ w'.cell? ⟨w.heap.size, r, none⟩ = some (.int .i64 z) ∧ w'.cell? ⟨w.heap.size, s, none⟩ = some (.int .i64 u)) (by kernel_rfl) ?_
      clear hr0V hr1V hbV hGl
      generalize V.drew = V2 at *
      refine Uptot.takeS (i := 0) (v := ?_) rfl (by kernel_rfl) (by kernel_rfl) (by kernel_rfl) (by kernel_rfl) (fun _ _ _ h => h) (Or.inl ⟨by rfl, ?_⟩) hST ?_
      rotate_left 1
      · intro w9 hSw; (try dsimp only at hSw); go_simp; (try with_reducible rfl)
      try simp only [Act.put, List.setIfInBounds_toArray, List.set_cons_zero, List.set_cons_succ]
      refine Uptot.takeS (i := 2) (v := ?_) rfl (by kernel_rfl) (by kernel_rfl) (by kernel_rfl) (by kernel_rfl) (fun _ _ _ h => h) (Or.inl ⟨by rfl, ?_⟩) hST ?_
      rotate_left 1
      · intro w9 hSw; (try dsimp only at hSw); go_simp; (try with_reducible rfl)
      try simp only [Act.put, List.setIfInBounds_toArray, List.set_cons_zero, List.set_cons_succ]
      refine Uptot.takeS (i := 4) (v := ?_) rfl (by kernel_rfl) (by kernel_rfl) (by kernel_rfl) (by kernel_rfl) (fun _ _ _ h => h) (Or.inl ⟨by rfl, ?_⟩) hST ?_
      rotate_left 1
      · intro w9 hSw; (try dsimp only at hSw); go_simp; (try with_reducible rfl)
      try simp only [Act.put, List.setIfInBounds_toArray, List.set_cons_zero, List.set_cons_succ]
      refine Uptot.takeS (i := 6) (v := ?_) rfl (by kernel_rfl) (by kernel_rfl) (by kernel_rfl) (by kernel_rfl) (fun _ _ _ h => h) (Or.inl ⟨by rfl, ?_⟩) hST ?_
      rotate_left 1
      · intro w9 hSw; (try dsimp only at hSw); go_simp; (try with_reducible rfl)
      try simp only [Act.put, List.setIfInBounds_toArray, List.set_cons_zero, List.set_cons_succ]
      refine Uptot.takeS (i := 8) (v := ?_) rfl (by kernel_rfl) (by kernel_rfl) (by kernel_rfl) (by kernel_rfl) (fun _ _ _ h => h) (Or.inl ⟨by rfl, ?_⟩) hST ?_
      rotate_left 1
      · intro w9 hSw; (try dsimp only at hSw); go_simp; (try with_reducible rfl)
      try simp only [Act.put, List.setIfInBounds_toArray, List.set_cons_zero, List.set_cons_succ]
      refine Uptot.takeS (i := 12) (v := ?_) rfl (by kernel_rfl) (by kernel_rfl) (by kernel_rfl) (by kernel_rfl) (fun _ _ _ h => h) (Or.inl ⟨by rfl, ?_⟩) hST ?_
      rotate_left 1
      · intro w9 hSw; (try dsimp only at hSw); go_simp; (try with_reducible rfl)
      try simp only [Act.put, List.setIfInBounds_toArray, List.set_cons_zero, List.set_cons_succ]
      refine Uptot.takeS (i := 16) (v := ?_) rfl (by kernel_rfl) (by kernel_rfl) (by kernel_rfl) (by kernel_rfl) (fun _ _ _ h => h) (Or.inl ⟨by rfl, ?_⟩) hST ?_
      rotate_left 1
      · intro w9 hSw; (try dsimp only at hSw); go_simp; (try with_reducible rfl)
      try simp only [Act.put, List.setIfInBounds_toArray, List.set_cons_zero, List.set_cons_succ]
      refine Uptot.takeS (i := 20) (v := ?_) rfl (by kernel_rfl) (by kernel_rfl) (by kernel_rfl) (by kernel_rfl) (fun _ _ _ h => h) (Or.inl ⟨by rfl, ?_⟩) hST ?_
      rotate_left 1
      · intro w9 hSw; (try dsimp only at hSw); go_simp; (try with_reducible rfl)
      try simp only [Act.put, List.setIfInBounds_toArray, List.set_cons_zero, List.set_cons_succ]
      refine Uptot.takeS (i := 1) (v := ?_) rfl (by kernel_rfl) (by kernel_rfl) (by kernel_rfl) (by kernel_rfl) (fun _ _ _ h => h) (Or.inl ⟨by rfl, ?_⟩) hST ?_
      rotate_left 1
      · intro w9 hSw; (try dsimp only at hSw); go_simp; (try with_reducible rfl)
      try simp only [Act.put, List.setIfInBounds_toArray, List.set_cons_zero, List.set_cons_succ]
      refine Uptot.takeS (i := 3) (v := ?_) rfl (by kernel_rfl) (by kernel_rfl) (by kernel_rfl) (by kernel_rfl) (fun _ _ _ h => h) (Or.inl ⟨by rfl, ?_⟩) hST ?_
      rotate_left 1
      · intro w9 hSw; (try dsimp only at hSw); go_simp; (try with_reducible rfl)
      try simp only [Act.put, List.setIfInBounds_toArray, List.set_cons_zero, List.set_cons_succ]
      refine Uptot.takeS (i := 5) (v := ?_) rfl (by kernel_rfl) (by kernel_rfl) (by kernel_rfl) (by kernel_rfl) (fun _ _ _ h => h) (Or.inl ⟨by rfl, ?_⟩) hST ?_
      rotate_left 1
      · intro w9 hSw; (try dsimp only at hSw); go_simp; (try with_reducible rfl)
      try simp only [Act.put, List.setIfInBounds_toArray, List.set_cons_zero, List.set_cons_succ]
      refine Uptot.takeS (i := 7) (v := ?_) rfl (by kernel_rfl) (by kernel_rfl) (by kernel_rfl) (by kernel_rfl) (fun _ _ _ h => h) (Or.inl ⟨by rfl, ?_⟩) hST ?_
      rotate_left 1
      · intro w9 hSw; (try dsimp only at hSw); go_simp; (try with_reducible rfl)
      try simp only [Act.put, List.setIfInBounds_toArray, List.set_cons_zero, List.set_cons_succ]
      refine Uptot.takeS (i := 9) (v := ?_) rfl (by kernel_rfl) (by kernel_rfl) (by kernel_rfl) (by kernel_rfl) (fun _ _ _ h => h) (Or.inl ⟨by rfl, ?_⟩) hST ?_
      rotate_left 1
      · intro w9 hSw; (try dsimp only at hSw); go_simp; (try with_reducible rfl)
      try simp only [Act.put, List.setIfInBounds_toArray, List.set_cons_zero, List.set_cons_succ]
      refine Uptot.takeS (i := 13) (v := ?_) rfl (by kernel_rfl) (by kernel_rfl) (by kernel_rfl) (by kernel_rfl) (fun _ _ _ h => h) (Or.inl ⟨by rfl, ?_⟩) hST ?_
      rotate_left 1
      · intro w9 hSw; (try dsimp only at hSw); go_simp; (try with_reducible rfl)
      try simp only [Act.put, List.setIfInBounds_toArray, List.set_cons_zero, List.set_cons_succ]
      refine Uptot.takeS (i := 17) (v := ?_) rfl (by kernel_rfl) (by kernel_rfl) (by kernel_rfl) (by kernel_rfl) (fun _ _ _ h => h) (Or.inl ⟨by rfl, ?_⟩) hST ?_
      rotate_left 1
      · intro w9 hSw; (try dsimp only at hSw); go_simp; (try with_reducible rfl)
      try simp only [Act.put, List.setIfInBounds_toArray, List.set_cons_zero, List.set_cons_succ]
      refine Uptot.takeS (i := 21) (v := ?_) rfl (by kernel_rfl) (by kernel_rfl) (by kernel_rfl) (by kernel_rfl) (fun _ _ _ h => h) (Or.inl ⟨by rfl, ?_⟩) hST ?_
      rotate_left 1
      · intro w9 hSw; (try dsimp only at hSw); go_simp; (try with_reducible rfl)
      try simp only [Act.put, List.setIfInBounds_toArray, List.set_cons_zero, List.set_cons_succ]
      refine Uptot.takeS (i := 10) (v := ?_) rfl (by kernel_rfl) (by kernel_rfl) (by kernel_rfl) (by kernel_rfl) (fun _ _ _ h => h) (Or.inl ⟨by rfl, ?_⟩) hST ?_
      rotate_left 1
      · intro w9 hSw; (try dsimp only at hSw); go_simp; (try with_reducible rfl)
      try simp only [Act.put, List.setIfInBounds_toArray, List.set_cons_zero, List.set_cons_succ]
      refine Uptot.takeS (i := 14) (v := ?_) rfl (by kernel_rfl) (by kernel_rfl) (by kernel_rfl) (by kernel_rfl) (fun _ _ _ h => h) (Or.inl ⟨by rfl, ?_⟩) hST ?_
      rotate_left 1
      · intro w9 hSw; (try dsimp only at hSw); go_simp; (try with_reducible rfl)
      try simp only [Act.put, List.setIfInBounds_toArray, List.set_cons_zero, List.set_cons_succ]
      refine Uptot.takeS (i := 18) (v := ?_) rfl (by kernel_rfl) (by kernel_rfl) (by kernel_rfl) (by kernel_rfl) (fun _ _ _ h => h) (Or.inl ⟨by rfl, ?_⟩) hST ?_
      rotate_left 1
      · intro w9 hSw; (try dsimp only at hSw); go_simp; (try with_reducible rfl)
      try simp only [Act.put, List.setIfInBounds_toArray, List.set_cons_zero, List.set_cons_succ]
      refine Uptot.takeS (i := 22) (v := ?_) rfl (by kernel_rfl) (by kernel_rfl) (by kernel_rfl) (by kernel_rfl) (fun _ _ _ h => h) (Or.inl ⟨by rfl, ?_⟩) hST ?_
      rotate_left 1
      · intro w9 hSw; (try dsimp only at hSw); go_simp; (try with_reducible rfl)
      try simp only [Act.put, List.setIfInBounds_toArray, List.set_cons_zero, List.set_cons_succ]
      refine Uptot.take (i := 11) (v := ?_) rfl (by kernel_rfl) (by kernel_rfl) (by kernel_rfl) (by kernel_rfl) (fun _ _ _ h => h) (Or.inl ⟨by rfl, ?_⟩) hST ?_
      rotate_left 1
      · intro w9 hSw; (try dsimp only at hSw); go_simp; (try with_reducible rfl)
      try simp only [Act.put, List.setIfInBounds_toArray, List.set_cons_zero, List.set_cons_succ]
      refine Uptot.take (i := 15) (v := ?_) rfl (by kernel_rfl) (by kernel_rfl) (by kernel_rfl) (by kernel_rfl) (fun _ _ _ h => h) (Or.inl ⟨by rfl, ?_⟩) hST ?_
      rotate_left 1
      · intro w9 hSw; (try dsimp only at hSw); go_simp; (try with_reducible rfl)
      try simp only [Act.put, List.setIfInBounds_toArray, List.set_cons_zero, List.set_cons_succ]
      refine Uptot.take (i := 19) (v := ?_) rfl (by kernel_rfl) (by kernel_rfl) (by kernel_rfl) (by kernel_rfl) (fun _ _ _ h => h) (Or.inl ⟨by rfl, ?_⟩) hST ?_
      rotate_left 1
      · intro w9 hSw; (try dsimp only at hSw); go_simp; (try with_reducible rfl)
      try simp only [Act.put, List.setIfInBounds_toArray, List.set_cons_zero, List.set_cons_succ]
      refine Uptot.take (i := 23) (v := ?_) rfl (by kernel_rfl) (by kernel_rfl) (by kernel_rfl) (by kernel_rfl) (fun _ _ _ h => h) (Or.inl ⟨by rfl, ?_⟩) hST ?_
      rotate_left 1
      · intro w9 hSw; (try dsimp only at hSw); go_simp; (try with_reducible rfl)
      try simp only [Act.put, List.setIfInBounds_toArray, List.set_cons_zero, List.set_cons_succ]
      refine Uptot.one (i := 24) rfl (by kernel_rfl) (fun K hK => ?_)
      go_simp
      go_at_call 70
      refine (HT.out _).mono ?_
      rintro e' w2 ⟨rfl, hb2⟩
      have hlt0 := hr0D.lt
      have hST2 := And.intro (cells_keep hST.1 hGD hb2) (cells_keep hST.2 hlt0 hb2)
      have hr02 := rowIs_keep hr0D hb2
      have hr12 := rowIs_keep hr1D hb2
      have hbw2 := hbD.next' hb2
      have df := hr02.frozen
      refine hK.out _ _ (Cond.ahead hST2) ?_
      clear hK K hST hr0D hr1D hbD hb2
      try simp only [Act.put, List.setIfInBounds_toArray, List.set_cons_zero, List.set_cons_succ]
      refine Uptot.takeS (i := 25) (v := ?_) rfl (by kernel_rfl) (by kernel_rfl) (by kernel_rfl) (by kernel_rfl) (fun _ _ _ h => h) (Or.inl ⟨by rfl, ?_⟩) hST2 ?_
      rotate_left 1
      · intro w9 hSw; (try dsimp only at hSw); go_simp; (try with_reducible rfl)
      try simp only [Act.put, List.setIfInBounds_toArray, List.set_cons_zero, List.set_cons_succ]
      refine Uptot.takeS (i := 26) (v := ?_) rfl (by kernel_rfl) (by kernel_rfl) (by kernel_rfl) (by kernel_rfl) (fun _ _ _ h => h) (Or.inl ⟨by rfl, ?_⟩) hST2 ?_
      rotate_left 1
      · intro w9 hSw; (try dsimp only at hSw); go_simp; (try with_reducible rfl)
      try simp only [Act.put, List.setIfInBounds_toArray, List.set_cons_zero, List.set_cons_succ]
      refine Uptot.takeS (i := 27) (v := ?_) rfl (by kernel_rfl) (by kernel_rfl) (by kernel_rfl) (by kernel_rfl) (fun _ _ _ h => h) (Or.inl ⟨by rfl, ?_⟩) hST2 ?_
      rotate_left 1
      · intro w9 hSw; (try dsimp only at hSw); go_simp; (try with_reducible rfl)
      try simp only [Act.put, List.setIfInBounds_toArray, List.set_cons_zero, List.set_cons_succ]
      refine Uptot.takeS (i := 28) (v := ?_) rfl (by kernel_rfl) (by kernel_rfl) (by kernel_rfl) (by kernel_rfl) (fun _ _ _ h => h) (Or.inl ⟨by rfl, ?_⟩) hST2 ?_
      rotate_left 1
      · intro w9 hSw; (try dsimp only at hSw); go_simp; (try with_reducible rfl)
      try simp only [Act.put, List.setIfInBounds_toArray, List.set_cons_zero, List.set_cons_succ]
      refine Uptot.takeS (i := 29) (v := ?_) rfl (by kernel_rfl) (by kernel_rfl) (by kernel_rfl) (by kernel_rfl) (fun _ _ _ h => h) (Or.inl ⟨by rfl, ?_⟩) hST2 ?_
      rotate_left 1
      · intro w9 hSw; (try dsimp only at hSw); go_simp; (try with_reducible rfl)
      try simp only [Act.put, List.setIfInBounds_toArray, List.set_cons_zero, List.set_cons_succ]
      refine Uptot.takeS (i := 30) (v := ?_) rfl (by kernel_rfl) (by kernel_rfl) (by kernel_rfl) (by kernel_rfl) (fun _ _ _ h => h) (Or.inl ⟨by rfl, ?_⟩) hST2 ?_
      rotate_left 1
      · intro w9 hSw; (try dsimp only at hSw); go_simp; (try with_reducible rfl)
      try simp only [Act.put, List.setIfInBounds_toArray, List.set_cons_zero, List.set_cons_succ]
      refine Uptot.takeS (i := 31) (v := ?_) rfl (by kernel_rfl) (by kernel_rfl) (by kernel_rfl) (by kernel_rfl) (fun _ _ _ h => h) (Or.inl ⟨by rfl, ?_⟩) hST2 ?_
      rotate_left 1
      · intro w9 hSw; (try dsimp only at hSw); go_simp; (try with_reducible rfl)
      try simp only [Act.put, List.setIfInBounds_toArray, List.set_cons_zero, List.set_cons_succ]
      have hS2 := hST2.1
      have hl2 := HOK.out
      clear hST2 df
      refine Uptot.one (i := 32) rfl (by kernel_rfl) (fun K hK => ?_)
      have cc := hr02.cell (i := p) lp
      have df := hr02.frozen p
      go_simp
      refine hK.out _ _ (Cond.behind (cells_set hS2 hne) (by kernel_rfl)) ?_
      clear hK K cc df
      try simp only [Act.put, List.setIfInBounds_toArray, List.set_cons_zero, List.set_cons_succ]
      have hr03 := row16_set hr02 hl2 p t.a lp
      have hr13 := hr12.setOther (a := ⟨w.heap.size, p, none⟩) (by simp) (.int .i64 (t.a : Nat))
      have hbw3 := hbw2.setCell (p := ⟨w.heap.size, p, none⟩) (Nat.le_refl _) (.int .i64 (t.a : Nat))
      have hS3 := cells_set (B := w.heap.size) (j := p) (v := .int .i64 (t.a : Nat)) hS2 hne
      have hl3 : (m.set p t.a).length = 16 := by rw [List.length_set]; exact hl2
      clear hr02 hr12 hbw2 hS2 hl2
      generalize w2.setCell _ _ = w3 at *
      refine Uptot.one (i := 33) rfl (by kernel_rfl) (fun K hK => ?_)
      go_simp
      refine hK.out _ _ (Cond.behind hS3 (by kernel_rfl)) ?_
      clear hK K
      try simp only [Act.put, List.setIfInBounds_toArray, List.set_cons_zero, List.set_cons_succ]
      refine Uptot.one (i := 34) rfl (by kernel_rfl) (fun K hK => ?_)
      have cc := hr03.cell (i := q) lq
      have df := hr03.frozen q
      go_simp
      refine hK.out _ _ (Cond.behind (cells_set hS3 hne) (by kernel_rfl)) ?_
      clear hK K cc df
      try simp only [Act.put, List.setIfInBounds_toArray, List.set_cons_zero, List.set_cons_succ]
      have hr04 := row16_set hr03 hl3 q t.b lq
      have hr14 := hr13.setOther (a := ⟨w.heap.size, q, none⟩) (by simp) (.int .i64 (t.b : Nat))
      have hbw4 := hbw3.setCell (p := ⟨w.heap.size, q, none⟩) (Nat.le_refl _) (.int .i64 (t.b : Nat))
      have hS4 := cells_set (B := w.heap.size) (j := q) (v := .int .i64 (t.b : Nat)) hS3 hne
      have hl4 : ((m.set p t.a).set q t.b).length = 16 := by rw [List.length_set]; exact hl3
      clear hr03 hr13 hbw3 hS3 hl3
      generalize w3.setCell _ _ = w4 at *
      refine Uptot.one (i := 35) rfl (by kernel_rfl) (fun K hK => ?_)
      go_simp
      refine hK.out _ _ (Cond.behind hS4 (by kernel_rfl)) ?_
      clear hK K
      try simp only [Act.put, List.setIfInBounds_toArray, List.set_cons_zero, List.set_cons_succ]
      refine Uptot.one (i := 36) rfl (by kernel_rfl) (fun K hK => ?_)
      have cc := hr04.cell (i := r) lr
      have df := hr04.frozen r
      go_simp
      refine hK.out _ _ (Cond.behind (cells_set hS4 hne) (by kernel_rfl)) ?_
      clear hK K cc df
      try simp only [Act.put, List.setIfInBounds_toArray, List.set_cons_zero, List.set_cons_succ]
      have hr05 := row16_set hr04 hl4 r t.c lr
      have hr15 := hr14.setOther (a := ⟨w.heap.size, r, none⟩) (by simp) (.int .i64 (t.c : Nat))
      have hbw5 := hbw4.setCell (p := ⟨w.heap.size, r, none⟩) (Nat.le_refl _) (.int .i64 (t.c : Nat))
      have hS5 := cells_set (B := w.heap.size) (j := r) (v := .int .i64 (t.c : Nat)) hS4 hne
      have hl5 : (((m.set p t.a).set q t.b).set r t.c).length = 16 := by rw [List.length_set]; exact hl4
      clear hr04 hr14 hbw4 hS4 hl4
      generalize w4.setCell _ _ = w5 at *
      refine Uptot.one (i := 37) rfl (by kernel_rfl) (fun K hK => ?_)
      go_simp
      refine hK.out _ _ (Cond.behind hS5 (by kernel_rfl)) ?_
      clear hK K
      try simp only [Act.put, List.setIfInBounds_toArray, List.set_cons_zero, List.set_cons_succ]
      refine Uptot.one (i := 38) rfl (by kernel_rfl) (fun K hK => ?_)
      have cc := hr05.cell (i := s) ls
      have df := hr05.frozen s
      go_simp
      refine hK.out _ _ (Cond.behind (cells_set hS5 hne) (by kernel_rfl)) ?_
      clear hK K cc df
      try simp only [Act.put, List.setIfInBounds_toArray, List.set_cons_zero, List.set_cons_succ]
      have hr06 := row16_set hr05 hl5 s t.d ls
      have hr16 := hr15.setOther (a := ⟨w.heap.size, s, none⟩) (by simp) (.int .i64 (t.d : Nat))
      have hbw6 := hbw5.setCell (p := ⟨w.heap.size, s, none⟩) (Nat.le_refl _) (.int .i64 (t.d : Nat))
      have hS6 := cells_set (B := w.heap.size) (j := s) (v := .int .i64 (t.d : Nat)) hS5 hne
      have hl6 : ((((m.set p t.a).set q t.b).set r t.c).set s t.d).length = 16 := by rw [List.length_set]; exact hl5
      clear hr05 hr15 hbw5 hS5 hl5
      generalize w5.setCell _ _ = w6 at *
      refine Uptot.done (by kernel_rfl) ?_ _
      go_wp2
      go_roundw
      case rel => exact ⟨k + 1, by omega, by go_num, by rw [HS2.out]; exact hr06, hr16, hbw6⟩
      case measure => simp [intOf]; omega
    · obtain rfl : k = 8 := by omega
      have hinf : (Tryd.prog.info? 57).map (·.size) = some (sv (turnN l 8)).size := by rw [sv_size]; exact sv_info
      have h1 := sv_of_row hr0
      obtain ⟨c0, h2, hcs0, _⟩ := rowIs_block hr1
      have hold : c0.size = (sv (turnN l 8)).size := by rw [sv_size]; exact hcs0
      have hall : (sv (turnN l 8)).all (·.oneCell') = true := all_one_ints (k := .i64) (g := fun j => ((turnN l 8).getD j 0 : Nat)) (n := 16) rfl
      obtain ⟨dd, hdd⟩ : ∃ x, x = sv (turnN l 8) := ⟨_, rfl⟩
      rw [← hdd] at hinf h1 hold hall
      have HDD := Lib.hid hdd
      clear hdd
      go_wp2_with (first
        | (refine wpList_load_row rfl _ _ rfl w.heap.size rfl _ _ _ _ h1 Tryd.underlying57 rfl hinf ?_)
        | (refine wpList_store_row rfl _ _ _ rfl (w.heap.size + 1) _ rfl rfl _ _ h2 hinf hold hall ?_))
      refine bodyPost_ret (v := .agg dd) (results_cell_row rfl _ _ (w.heap.size + 1) _ _ _ _ rfl (setRow_heap _ _ _ _ _ _ h2) Tryd.underlying57 rfl hinf) rfl ⟨by rw [HDD.out]; rfl, hb.setRow (by omega) _⟩
end Go.Proofs.YtlkdofghhibmbaaDoor

/-
  word: the contract of Join.
-/
namespace Go.Proofs.YtlkdofghhibmbaaDoor
open Go.RowKit Go.Kx
set_option maxRecDepth 20000

theorem byte_info : (Tryd.prog.info? 5).map (fun i => (i.zero, i.size, i.bytes)) = some (some (.int .u8 0), 1, 1) := by kernel_rfl
def joinAt (h : Bool) (xs : List Nat) (i : Nat) : Nat := xs.getD (i / 4) 0 / 2 ^ shN h (i % 4) % 256
theorem joinL_length (h : Bool) (xs : List Nat) : (joinL h xs).length = 4 * xs.length := by simp [joinL]
theorem joinL_at (h : Bool) (xs : List Nat) (j : Nat) (hj : j < (joinL h xs).length) : ((joinL h xs)[j].toNat : Int) = (joinAt h xs j : Nat) := by
  simp [joinL, joinAt, UInt8.toNat_ofNat']
theorem joinAt_lt (h : Bool) (xs : List Nat) (i : Nat) : joinAt h xs i < 256 := Nat.mod_lt _ (by omega)
def rowJ (h : Bool) (xs : List Nat) (k j : Nat) : Nat := if j < k then joinAt h xs j else 0
theorem rowJ_set (h : Bool) (xs : List Nat) (k j : Nat) : (if j = k then joinAt h xs k else rowJ h xs k j) = rowJ h xs (k + 1) j := by
  unfold rowJ
  by_cases h : j = k
  · subst h; simp
  · rw [if_neg h]
    by_cases h2 : j < k
    · rw [if_pos h2, if_pos (by omega)]
    · rw [if_neg h2, if_neg (by omega)]
set_option maxHeartbeats 4000000 in
theorem join_any (A : Option Addr) (c : Nat) (xs : List Nat) (h : Bool) (w : World) (hm : xs.length ≤ 100000) (hs : Sl w A (ints xs)) (hok : ∀ x ∈ xs, x < 4294967296) :
    Calls Tryd.prog 32 #[.slice A xs.length c, .bool h] w fun e w' => e = .returned (.tuple #[.string ⟨(joinL h xs).toArray⟩, .bool true]) ∧ Below w.heap.size w w' := by
  have hmk0 := run_make_row' (P := Tryd.prog) 72 5 (.int .u8 0) 1 Tryd.underlying72 byte_info rfl .i64 .i64 (4 * xs.length) (by omega) (by omega)
  have hq : ((4 * xs.length : Nat) : Int) = 4 * (xs.length : Int) := by omega
  rw [hq] at hmk0
  have hmk : ∀ W : World, (Instr.makeSlice 72 (.int .i64 (4 * (xs.length : Int))) (.int .i64 (4 * (xs.length : Int)))).run Tryd.prog W = .ok (.slice (some ⟨W.heap.size, 0, none⟩) (4 * xs.length) (4 * xs.length)) (W.alloc (.cells (madeCells #[.int .u8 0] (4 * xs.length)) 5)) := hmk0
  have hwr : IntKind.i64.wrap (4 * (xs.length : Int)) = 4 * (xs.length : Int) := IntWalk.i64_in _ (by omega)
  clear hq hmk0
  have HOK := Lib.hid hok
  clear hok
  go_enter Tryd.func32, Tryd.ntmps32
  go_wp2_with (first | (go_at_call 47; refine (is_nats A c xs _ (by omega) hs HOK.out).mono ?_; rintro e w' ⟨rfl, rfl⟩) | (go_at_call 54; refine (below_any h _).mono ?_; rintro e w' ⟨rfl, rfl⟩))
  go_loopw [8, 20] (fun _ i wr => ∃ k : Nat, k ≤ 4 * xs.length ∧ i = .int .i64 k ∧ wr.cell? ⟨w.heap.size, 0, none⟩ = some (.bool h) ∧ w.heap.size + 1 < wr.heap.size ∧
      wr.rowIs (w.heap.size + 1) 5 (4 * xs.length) (fun j => .int .u8 (rowJ h xs k j : Nat)) ∧ Below w.heap.size w wr) (fun _ i _ => 4 * xs.length - (intOf i).toNat)
  case atStart =>
    refine ⟨0, Nat.zero_le _, rfl, by go_simp, by simp, ?_, ((Below.refl _ _).alloc (Nat.le_refl _) _).alloc (by simp) _⟩
    have hr := (World.rowIs_made (w.alloc (.cells #[.bool h] 4)) (.int .u8 0) (4 * xs.length) 5).congr (g := fun j => .int .u8 (rowJ h xs 0 j : Nat)) (fun j _ => by simp [rowJ])
    simpa using hr
  case round =>
    obtain ⟨k, hk, rfl, hcell, hsz, hrow, hb⟩ := hrel
    by_cases hlt : k < 4 * xs.length
    · obtain ⟨b, off, u, rfl, hu, hld⟩ := (hs.keep hb).at_ (k := k / 4) (by simp [ints]; omega)
      obtain ⟨x, hx, rfl⟩ : ∃ x, xs[k / 4]? = some x ∧ .int .i64 (x : Int) = u := by simpa [ints] using hu
      have hxl : x < 4294967296 := HOK.out x (List.mem_of_getElem? hx)
      have HX := Lib.hid (show xs.getD (k / 4) 0 = x by rw [List.getD_eq_getElem?_getD, hx]; rfl)
      clear hx hu hs
      have hload := hrow.cell (i := k) (by omega)
      have hfz := hrow.frozen k
      have hw1 : IntKind.i64.wrap ((k : Int) / 4) = (k : Int) / 4 := IntWalk.i64_in _ (by omega)
      have hn1 : ((k : Int) / 4).toNat = k / 4 := by omega
      have hp1 : (0 : Int) ≤ (k : Int) / 4 := by omega
      have hp2 : (k : Int) / 4 < (xs.length : Int) := by omega
      have hlt' : (k : Int) < 4 * (xs.length : Int) := by omega
      have hmod : (k : Int).tmod 4 = ((k % 4 : Nat) : Int) := by rw [Int.tmod_eq_emod_of_nonneg (by omega)]; omega
      obtain ⟨sh, hsh, hsh24, hshB⟩ : ∃ sh : Nat, sh = shN h (k % 4) ∧ sh ≤ 24 ∧ shB h ((k : Int) % 4) = (sh : Int) := ⟨_, rfl, shN_le _ _ (by omega), by rw [← shB_eq h (k % 4) (by omega)]; congr 1⟩
      have HSH := Lib.hid hsh
      clear hsh
      generalize rowJ h xs k k = z at hload
      go_wp2
      refine wp_region_still_tail 14 (by kernel_rfl) (by kernel_rfl) ?_
      simp only [List.take_succ_cons, List.take_zero, List.drop_succ_cons, List.drop_zero]
      repeat still_step
      still_call (below1 _ _ _ (by omega) (by omega) _ (by assumption))
      rw [hshB]
      clear hshB
      repeat still_step
      refine wpStill_nil ?_
      have hrow2 := hrow.drew
      have hb2 := hb.drew
      have hcell2 : wr.drew.cell? ⟨w.heap.size, 0, none⟩ = some (.bool h) := hcell
      have hsz2 : w.heap.size + 1 < wr.drew.heap.size := hsz
      have hload2 : wr.drew.cell? ⟨w.heap.size + 1, k, none⟩ = _ := hload
      have hfz2 : wr.drew.frozen? ⟨w.heap.size + 1, k, none⟩ = _ := hfz
      change wpList _ _ _ _ _ wr.drew
      clear hrow hb hcell hsz hload hfz
      generalize wr.drew = w2 at *
      go_wp2
      go_roundw
      case rel =>
        have hv : ((x : Int) / 2 ^ sh % 256) = ((joinAt h xs k : Nat) : Int) := by
          unfold joinAt
          rw [HX.out, ← HSH.out, Int.natCast_emod, Int.natCast_ediv, Int.natCast_pow]
          rfl
        rw [hv]
        refine ⟨k + 1, by omega, by go_num, ?_, by simpa using hsz2, ?_, hb2.setCell (p := ⟨w.heap.size + 1, k, none⟩) (by simp) _⟩
        · rw [World.cell?_setCell_other _ _ _ _ (by simp)]; exact hcell2
        · refine (hrow2.set k _).congr fun j _ => ?_
          rw [← rowJ_set h xs k j]
          split <;> rfl
      case measure => simp [intOf]; omega
    · obtain rfl : k = 4 * xs.length := by omega
      have hconv : ∀ dst, Tryd.prog.underlying dst = some .string → (convert 72 dst (.slice (some ⟨w.heap.size + 1, 0, none⟩) (4 * xs.length) (4 * xs.length))).run Tryd.prog wr = .ok (.string ⟨(joinL h xs).toArray⟩) wr := by
        intro dst hd
        have hc := run_convert_bytes_back (P := Tryd.prog) wr 72 dst 5 ⟨w.heap.size + 1, 0, none⟩ (4 * xs.length) (joinL h xs) Tryd.underlying72 Tryd.underlying5 hd (fun j hj => by
          have hj' : j < 4 * xs.length := by rw [← joinL_length h]; exact hj
          have := hrow.cell (i := j) hj'
          rw [show (⟨w.heap.size + 1, 0, none⟩ : Addr).add j = ⟨w.heap.size + 1, j, none⟩ by unfold Addr.add; split <;> simp_all, this, joinL_at h xs j hj]
          simp [rowJ, hj'])
        rwa [joinL_length] at hc
      have hconv' := hconv 9 Tryd.underlying9
      clear hconv
      generalize hout : joinL h xs = out at *
      have HO := Lib.hid hout
      clear hout
      go_wp2
      go_ret2
      exact ⟨by rw [HO.out]; rfl, hb⟩
end Go.Proofs.YtlkdofghhibmbaaDoor

/-
  stream: the contract of bytes.
-/
namespace Go.Proofs.YtlkdofghhibmbaaDoor
open Go.RowKit Go.Kx
set_option maxRecDepth 20000

theorem row_of_heap {w : World} {g : Nat} {l : List Nat} (h : w.heap[g]? = some (.cells (sv l) 57 (0, 0))) : w.rowIs g 57 16 (fun j => .int .i64 (l.getD j 0 : Nat)) :=
  ⟨sv l, h, sv_size l, fun i hi => rowA_at .i64 16 (fun j => l.getD j 0) i hi⟩
def zero16 : Array Value := #[.int .i64 0, .int .i64 0, .int .i64 0, .int .i64 0, .int .i64 0, .int .i64 0, .int .i64 0, .int .i64 0, .int .i64 0, .int .i64 0, .int .i64 0, .int .i64 0, .int .i64 0, .int .i64 0, .int .i64 0, .int .i64 0]
theorem cell_alloc_lt {w : World} {o : Obj} {g j : Nat} (h : g < w.heap.size) : (w.alloc o).cell? ⟨g, j, none⟩ = w.cell? ⟨g, j, none⟩ := World.cell?_of_block (a := ⟨g, j, none⟩) (Below.heap_alloc w o g h)
def sumAt (r l : List Nat) (k j : Nat) : Nat := if j < k then (r.getD j 0 + l.getD j 0) % 4294967296 else r.getD j 0
theorem sumAt_same (r l : List Nat) (k : Nat) : sumAt r l k k = r.getD k 0 := if_neg (by omega)
theorem sumAt_zero (r l : List Nat) (j : Nat) : sumAt r l 0 j = r.getD j 0 := if_neg (by omega)
theorem sumAt_set (r l : List Nat) (k j : Nat) : (if j = k then (r.getD k 0 + l.getD k 0) % 4294967296 else sumAt r l k j) = sumAt r l (k + 1) j := by
  unfold sumAt
  by_cases h : j = k
  · subst h; simp
  · rw [if_neg h]
    by_cases h2 : j < k
    · rw [if_pos h2, if_pos (by omega)]
    · rw [if_neg h2, if_neg (by omega)]
theorem sum_ints (r l : List Nat) : ints (sumRow r l) = (List.range 16).map fun j => Value.int .i64 (sumAt r l 16 j : Nat) := by
  unfold ints sumRow
  rw [List.map_map]
  refine List.map_congr_left fun j hj => ?_
  rw [sumAt, if_pos (by simpa using hj)]
  rfl
theorem join_v (A : Option Addr) (c : Nat) (xs : List Nat) (n : Nat) (hn : xs.length = n) (h : Bool) (out : ByteArray) (ho : ⟨(joinL h xs).toArray⟩ = out) (w : World) (hm : n ≤ 100000) (hs : Sl w A (ints xs)) (hok : ∀ x ∈ xs, x < 4294967296) :
    Calls Tryd.prog 32 #[.slice A n c, .bool h] w fun e w' => e = .returned (.tuple #[.string out, .bool true]) ∧ Below w.heap.size w w' := by
  subst hn ho
  exact join_any A c xs h w hm hs hok
set_option maxRecDepth 100000 in
set_option maxHeartbeats 1000000 in
theorem bytes_any (l : List Nat) (hl : okL l) (d : Array Value) (hd : d = sv l) (out : ByteArray) (hout : ⟨(bytesL l).toArray⟩ = out) (w : World) (hK : Places w) :
    Calls Tryd.prog 27 #[.agg d] w fun e w' => e = .returned (.string out) ∧ Below w.heap.size w w' := by
  have s16 : d.size = 16 := by rw [hd, sv_size]
  have hinfd : (Tryd.prog.info? 57).map (·.size) = some d.size := by rw [s16]; exact sv_info
  have hall : d.all (·.oneCell') = true := by rw [hd]; exact all_one_ints (k := .i64) (g := fun j => (l.getD j 0 : Nat)) (n := 16) rfl
  have h0 := heap_alloc_new w (.cells d 57)
  have h2 := heap_alloc_new (w.alloc (.cells d 57)) (.cells zero16 57)
  rw [World.size_alloc] at h2
  have hold : zero16.size = d.size := by rw [s16]; rfl
  have hr0 : (((w.alloc (.cells d 57)).alloc (.cells zero16 57)).setRow (w.heap.size + 1) d).rowIs w.heap.size 57 16 (fun j => .int .i64 (l.getD j 0 : Nat)) :=
    row_of_heap (by rw [setRow_other _ _ _ _ (by omega), Below.heap_alloc _ _ _ (by simp), ← hd]; exact h0)
  have hr1 : (((w.alloc (.cells d 57)).alloc (.cells zero16 57)).setRow (w.heap.size + 1) d).rowIs (w.heap.size + 1) 57 16 (fun j => .int .i64 ((roundN l 0).getD j 0 : Nat)) :=
    row_of_heap (by rw [show roundN l 0 = l from rfl, ← hd]; exact setRow_heap _ _ _ _ _ _ h2)
  have hbw := (((Below.refl w.heap.size w).alloc (Nat.le_refl _) (.cells d 57)).alloc (by simp) (.cells zero16 57)).setRow (g := w.heap.size + 1) (by omega) d
  unfold zero16 at h2 hold hr0 hr1 hbw
  have HOUT := Lib.hid hout
  have HD := Lib.hid hd
  clear hout hd
  go_enter Tryd.func27, Tryd.ntmps27
  go_wp2_with (first
    | (refine wpList_load_row rfl _ _ rfl w.heap.size rfl _ _ _ _ h0 Tryd.underlying57 rfl hinfd ?_)
    | (refine wpList_store_row rfl _ _ _ rfl (w.heap.size + 1) _ rfl rfl _ _ h2 hinfd hold hall ?_))
  clear h0 h2 hold hall hinfd
  generalize World.setRow _ _ _ = W0 at *
  go_loopw [8] (fun i wr => ∃ k : Nat, k ≤ 10 ∧ i = .int .i64 k ∧ wr.rowIs w.heap.size 57 16 (fun j => .int .i64 (l.getD j 0 : Nat)) ∧ wr.rowIs (w.heap.size + 1) 57 16 (fun j => .int .i64 ((roundN l k).getD j 0 : Nat)) ∧ Below w.heap.size w wr) (fun i _ => 10 - (intOf i).toNat)
  case atStart => exact ⟨0, by omega, rfl, hr0, hr1, hbw⟩
  case round =>
    clear hr0 hr1 hbw
    obtain ⟨k, hk, rfl, hr0, hr1, hb⟩ := hrel
    by_cases hlt : k < 10
    · have h1 := sv_of_row hr1
      obtain ⟨dk, hdk⟩ : ∃ x, x = sv (roundN l k) := ⟨_, rfl⟩
      obtain ⟨dn, hdn⟩ : ∃ x, x = sv (roundN l (k + 1)) := ⟨_, rfl⟩
      have HT : Hid (∀ V : World, Places V → Calls Tryd.prog 49 #[.agg dk] V fun e w' => e = .returned (.agg dn) ∧ Below V.heap.size V w') :=
        Lib.hid fun V hV => by rw [hdn]; exact turned_any (roundN l k) (okL_roundN hl k) dk hdk V hV
      rw [← hdk] at h1
      have hinfk : (Tryd.prog.info? 57).map (·.size) = some dk.size := by rw [hdk, sv_size]; exact sv_info
      have hinfn : (Tryd.prog.info? 57).map (·.size) = some dn.size := by rw [hdn, sv_size]; exact sv_info
      have holdn : dk.size = dn.size := by rw [hdk, hdn, sv_size, sv_size]
      have halln : dn.all (·.oneCell') = true := by rw [hdn]; exact all_one_ints (k := .i64) (g := fun j => ((roundN l (k + 1)).getD j 0 : Nat)) (n := 16) rfl
      have HDN := Lib.hid hdn
      have hl1 := hr1.lt
      clear hdk hdn
      go_wp2_with (first
        | (refine wpList_load_row rfl _ _ rfl (w.heap.size + 1) rfl _ _ _ _ h1 Tryd.underlying57 rfl hinfk ?_))
      refine (HT.out _ (hK.keep hb)).mono ?_
      rintro e w2 ⟨rfl, hb2⟩
      have h3 := (hb2.block _ hl1).trans h1
      have hr02 := rowIs_keep hr0 hb2
      have hbn := hb.next' hb2
      have hr12 : (w2.setRow (w.heap.size + 1) dn).rowIs (w.heap.size + 1) 57 16 (fun j => .int .i64 ((roundN l (k + 1)).getD j 0 : Nat)) :=
        row_of_heap (by rw [← HDN.out]; exact setRow_heap _ _ _ _ _ _ h3)
      have hr03 : (w2.setRow (w.heap.size + 1) dn).rowIs w.heap.size 57 16 (fun j => .int .i64 (l.getD j 0 : Nat)) := hr02.of_block (setRow_other _ _ _ _ (by omega))
      have hbm := hbn.setRow (g := w.heap.size + 1) (by omega) dn
      clear hr0 hr1 hb hb2 hr02 hbn h1
      go_wp2_with (refine wpList_store_row rfl _ _ _ rfl (w.heap.size + 1) _ rfl rfl _ _ h3 hinfn holdn halln ?_)
      go_roundw
      case rel => exact ⟨k + 1, by omega, by go_num, hr03, hr12, hbm⟩
      case measure => simp [intOf]; omega
    · obtain rfl : k = 10 := by omega
      clear hlt hk
      have hok := okL_roundN hl 10
      have HB : Hid (⟨(joinL false (sumRow (roundN l 10) l)).toArray⟩ = out) := Lib.hid HOUT.out
      clear HOUT
      generalize roundN l 10 = r at *
      rw [show ((10 : Nat) : Int) = 10 from rfl]
      go_wp2
      go_loopw [4, 13] (fun _ i wr => ∃ k : Nat, k ≤ 16 ∧ i = .int .i64 k ∧ wr.rowIs w.heap.size 57 16 (fun j => .int .i64 (l.getD j 0 : Nat)) ∧ wr.rowIs (w.heap.size + 1) 57 16 (fun j => .int .i64 (sumAt r l k j : Nat)) ∧ Below w.heap.size w wr) (fun _ i _ => 16 - (intOf i).toNat)
      case atStart => exact ⟨0, by omega, rfl, hr0, hr1.congr fun j _ => by rw [sumAt_zero], hb⟩
      case round =>
        clear hr0 hr1 hb
        obtain ⟨k, hk, rfl, hr0, hr1, hb⟩ := hrel
        by_cases hlt : k < 16
        · have hr0D := hr0.drew
          have hr1D := hr1.drew
          have hbD := hb.drew
          have lx := okL_at hok k
          have ly := okL_at hl k
          have c1 := hr1D.cell (i := k) hlt
          have c0 := hr0D.cell (i := k) hlt
          rw [sumAt_same] at c1
          have HSET := Lib.hid (sumAt_set r l k)
          have HA : Hid (addL [r.getD k 0, l.getD k 0] = (r.getD k 0 + l.getD k 0) % 4294967296) := Lib.hid (by simp [addL])
          generalize r.getD k 0 = x at *
          generalize l.getD k 0 = y at *
          generalize (x + y) % 4294967296 = z at *
          have hST : True ∧ _ := And.intro trivial (And.intro c1 c0)
          have hl0 := hr0D.lt
          have hl1 := hr1D.lt
          have k0 : (0 : Int) ≤ (k : Int) := by omega
          have k1 : (k : Int) < 16 := by omega
          clear c0 c1 hr0 hr1 hb
          go_wp2_with fail
          refine Uptot.begin_ [13] (fun _ : World => True) (fun w' : World => w'.cell? ⟨w.heap.size + 1, k, none⟩ = some (.int .i64 x) ∧ w'.cell? ⟨w.heap.size, k, none⟩ = some (.int .i64 y)) (by kernel_rfl) ?_
          generalize wr.drew = V2 at *
          refine Uptot.takeS (i := 0) (v := ?_) rfl (by kernel_rfl) (by kernel_rfl) (by kernel_rfl) (by kernel_rfl) (fun _ _ _ h => h) (Or.inl ⟨by rfl, ?_⟩) hST ?_
          rotate_left 1
          · intro w9 hSw; (try dsimp only at hSw); go_simp; (try with_reducible rfl)
          try simp only [Act.put, List.setIfInBounds_toArray, List.set_cons_zero, List.set_cons_succ]
          refine Uptot.takeS (i := 1) (v := ?_) rfl (by kernel_rfl) (by kernel_rfl) (by kernel_rfl) (by kernel_rfl) (fun _ _ _ h => h) (Or.inl ⟨by rfl, ?_⟩) hST ?_
          rotate_left 1
          · intro w9 hSw; (try dsimp only at hSw); go_simp; (try with_reducible rfl)
          try simp only [Act.put, List.setIfInBounds_toArray, List.set_cons_zero, List.set_cons_succ]
          refine Uptot.takeS (i := 4) (v := ?_) rfl (by kernel_rfl) (by kernel_rfl) (by kernel_rfl) (by kernel_rfl) (fun _ _ _ h => h) (Or.inl ⟨by rfl, ?_⟩) hST ?_
          rotate_left 1
          · intro w9 hSw; (try dsimp only at hSw); go_simp; (try with_reducible rfl)
          try simp only [Act.put, List.setIfInBounds_toArray, List.set_cons_zero, List.set_cons_succ]
          refine Uptot.takeS (i := 2) (v := ?_) rfl (by kernel_rfl) (by kernel_rfl) (by kernel_rfl) (by kernel_rfl) (fun _ _ _ h => h) (Or.inl ⟨by rfl, ?_⟩) hST ?_
          rotate_left 1
          · intro w9 hSw; (try dsimp only at hSw); go_simp; (try with_reducible rfl)
          try simp only [Act.put, List.setIfInBounds_toArray, List.set_cons_zero, List.set_cons_succ]
          refine Uptot.takeS (i := 5) (v := ?_) rfl (by kernel_rfl) (by kernel_rfl) (by kernel_rfl) (by kernel_rfl) (fun _ _ _ h => h) (Or.inl ⟨by rfl, ?_⟩) hST ?_
          rotate_left 1
          · intro w9 hSw; (try dsimp only at hSw); go_simp; (try with_reducible rfl)
          try simp only [Act.put, List.setIfInBounds_toArray, List.set_cons_zero, List.set_cons_succ]
          refine Uptot.take (i := 3) (v := ?_) rfl (by kernel_rfl) (by kernel_rfl) (by kernel_rfl) (by kernel_rfl) (fun _ _ _ h => h) (Or.inl ⟨by rfl, ?_⟩) hST ?_
          rotate_left 1
          · intro w9 hSw; (try dsimp only at hSw); go_simp; (try with_reducible rfl)
          try simp only [Act.put, List.setIfInBounds_toArray, List.set_cons_zero, List.set_cons_succ]
          refine Uptot.take (i := 6) (v := ?_) rfl (by kernel_rfl) (by kernel_rfl) (by kernel_rfl) (by kernel_rfl) (fun _ _ _ h => h) (Or.inl ⟨by rfl, ?_⟩) hST ?_
          rotate_left 1
          · intro w9 hSw; (try dsimp only at hSw); go_simp; (try with_reducible rfl)
          try simp only [Act.put, List.setIfInBounds_toArray, List.set_cons_zero, List.set_cons_succ]
          refine Uptot.one (i := 7) rfl (by kernel_rfl) (fun K hK => ?_)
          go_simp
          have hST2 : True ∧ _ := And.intro trivial (And.intro ((cell_alloc_lt (o := .cells #[.int .i64 (x : Nat), .int .i64 (y : Nat)] 3) hl1).trans hST.2.1) ((cell_alloc_lt (o := .cells #[.int .i64 (x : Nat), .int .i64 (y : Nat)] 3) hl0).trans hST.2.2))
          refine hK.out _ _ (Cond.ahead hST2) ?_
          clear hK K
          try simp only [Act.put, List.setIfInBounds_toArray, List.set_cons_zero, List.set_cons_succ]
          refine Uptot.one (i := 8) rfl (by kernel_rfl) (fun K hK => ?_)
          go_simp
          go_at_call 50
          refine (add_any (some ⟨V2.heap.size, 0, none⟩) 2 [x, y] _ (by simp) (Sl.new _ _ _) (by simp; omega)).mono ?_
          rintro e' w2 ⟨rfl, rfl⟩
          rw [HA.out]
          refine hK.out _ _ (Cond.ahead hST2) ?_
          clear hK K hST
          refine Uptot.takeS (i := 9) (v := ?_) rfl (by kernel_rfl) (by kernel_rfl) (by kernel_rfl) (by kernel_rfl) (fun _ _ _ h => h) (Or.inl ⟨by rfl, ?_⟩) hST2 ?_
          rotate_left 1
          · intro w9 hSw; (try dsimp only at hSw); go_simp; (try with_reducible rfl)
          try simp only [Act.put, List.setIfInBounds_toArray, List.set_cons_zero, List.set_cons_succ]
          refine Uptot.takeS (i := 10) (v := ?_) rfl (by kernel_rfl) (by kernel_rfl) (by kernel_rfl) (by kernel_rfl) (fun _ _ _ h => h) (Or.inl ⟨by rfl, ?_⟩) hST2 ?_
          rotate_left 1
          · intro w9 hSw; (try dsimp only at hSw); go_simp; (try with_reducible rfl)
          try simp only [Act.put, List.setIfInBounds_toArray, List.set_cons_zero, List.set_cons_succ]
          refine Uptot.takeS (i := 11) (v := ?_) rfl (by kernel_rfl) (by kernel_rfl) (by kernel_rfl) (by kernel_rfl) (fun _ _ _ h => h) (Or.inl ⟨by rfl, ?_⟩) hST2 ?_
          rotate_left 1
          · intro w9 hSw; (try dsimp only at hSw); go_simp; (try with_reducible rfl)
          try simp only [Act.put, List.setIfInBounds_toArray, List.set_cons_zero, List.set_cons_succ]
          refine Uptot.one (i := 12) rfl (by kernel_rfl) (fun K hK => ?_)
          go_simp
          refine hK.out _ _ (Cond.ahead hST2) ?_
          clear hK K
          try simp only [Act.put, List.setIfInBounds_toArray, List.set_cons_zero, List.set_cons_succ]
          have df := hr1D.frozen k
          have cc := hST2.2.1
          refine Uptot.one (i := 13) rfl (by kernel_rfl) (fun K hK => ?_)
          go_simp
          refine hK.out _ _ (Cond.behind trivial (by kernel_rfl)) ?_
          clear hK K
          try simp only [Act.put, List.setIfInBounds_toArray, List.set_cons_zero, List.set_cons_succ]
          refine Uptot.done (by kernel_rfl) ?_ _
          go_wp2
          go_roundw
          case rel =>
            refine ⟨k + 1, by omega, by go_num, (hr0D.setOther (a := ⟨w.heap.size + 1, k, none⟩) (by simp) _).alloc _, ((hr1D.set k _).alloc _).congr fun j _ => ?_, (hbD.setCell (p := ⟨w.heap.size + 1, k, none⟩) (by simp) _).al _⟩
            rw [← HSET.out j]
            split <;> rfl
          case measure => simp [intOf]; omega
        · obtain rfl : k = 16 := by omega
          have hs := Sl_of_row hr1
          rw [← sum_ints] at hs
          have HJ : Hid (∀ V : World, Sl V (some ⟨w.heap.size + 1, 0, none⟩) (ints (sumRow r l)) → Calls Tryd.prog 32 #[.slice (some ⟨w.heap.size + 1, 0, none⟩) 16 16, .bool false] V fun e w' => e = .returned (.tuple #[.string out, .bool true]) ∧ Below V.heap.size V w') :=
            Lib.hid fun V hV => join_v _ 16 (sumRow r l) 16 (okL_sum r l).1 false out HB.out V (by omega) hV (okL_sum r l).2
          have HSL := Lib.hid hs
          clear hs hr0 hr1 hlt hk
          go_wp2_with fail
          refine (HJ.out _ HSL.out).mono ?_
          rintro e w2 ⟨rfl, hb2⟩
          go_wp2
          go_ret
          exact ⟨rfl, hb.next' hb2⟩
end Go.Proofs.YtlkdofghhibmbaaDoor

/-
  stream: the contract of start.
-/
namespace Go.Proofs.YtlkdofghhibmbaaDoor
open Go.RowKit Go.Kx
set_option maxRecDepth 20000

theorem sv_ints {l : List Nat} (h : l.length = 16) : (sv l).toList = ints l := by
  unfold sv rowA ints
  apply List.ext_getElem?
  intro i
  simp only [List.getElem?_map]
  rcases Nat.lt_or_ge i 16 with hi | hi
  · rw [List.getElem?_range hi, List.getElem?_eq_getElem (show i < l.length by omega)]
    simp [List.getD_eq_getElem?_getD, List.getElem?_eq_getElem (show i < l.length by omega)]
  · rw [List.getElem?_eq_none (by simp; omega), List.getElem?_eq_none (by omega)]
    rfl
theorem ints_take (l : List Nat) (n : Nat) : (ints l).take n = ints (l.take n) := by simp [ints, List.map_take]
theorem ints_drop (l : List Nat) (n : Nat) : (ints l).drop n = ints (l.drop n) := by simp [ints, List.map_drop]
theorem ints_app (a b : List Nat) : ints a ++ ints b = ints (a ++ b) := by simp [ints]
theorem copy_state {L xs : List Nat} {o : Nat} (hL : L.length = 16) (hfit : o + xs.length ≤ 16) : ((sv L).toList.take o ++ ints xs ++ (sv L).toList.drop (o + xs.length)).toArray = sv (L.take o ++ xs ++ L.drop (o + xs.length)) := by
  apply Array.toList_inj.1
  rw [sv_ints hL, sv_ints (by simp; omega), ints_take, ints_drop, ints_app, ints_app]
/-- copy(state[o:], xs). -/
theorem copy_run {L xs M : List Nat} {o g b m n : Nat} (hL : L.length = 16) (hn : xs.length = n) (hm : o + m = 16) (hnm : n ≤ m) (hM : L.take o ++ xs ++ L.drop (o + n) = M) (V : World) (hg : V.heap[g]? = some (.cells (sv L) 57 (0, 0))) (hs : Sl V (some ⟨b, 0, none⟩) (ints xs)) (h0 : 0 < n) :
    (Builtin.copy_ #[71, 71] 3 #[.slice (some ⟨g, o, none⟩) m m, .slice (some ⟨b, 0, none⟩) n n]).run Tryd.prog V = .ok (goInt n) (V.setRow g (sv M)) := by
  have hl : (ints xs).length = n := by simp [ints, hn]
  have hc : ∀ j v, (ints xs)[j]? = some v → V.cell? ((⟨b, 0, none⟩ : Addr).add j) = some v := fun j v hv => by
    rw [Addr.add_mid]
    rcases hs with h | ⟨b', off, e, _, hc⟩
    · rw [h] at hl; simp at hl; omega
    · obtain ⟨rfl, rfl⟩ : b = b' ∧ 0 = off := by simpa using e
      exact hc j v hv
  rw [run_copy_row Tryd.prog V _ _ _ 3 g o m m ⟨b, 0, none⟩ n n (sv L) 57 (ints xs) Tryd.underlying71 (by kernel_rfl) hg (by rw [hl]; exact (Nat.min_eq_left hnm).symm) hc (by rw [hl, sv_size]; omega) (fun v hv => by
    obtain ⟨x, _, rfl⟩ := List.mem_map.1 hv
    rfl), hl, show o + n = o + xs.length by rw [hn], copy_state hL (by omega), ← hM, hn]
theorem start_list (xs ys : List Nat) (hx : xs.length = 8) (hy : ys.length = 3) (n : Nat) :
    (((([1634760805, 857760878, 2036477234, 1797285236, 0, 0, 0, 0, 0, 0, 0, 0, 0, 0, 0, 0] : List Nat).take 4 ++ xs ++ ([1634760805, 857760878, 2036477234, 1797285236, 0, 0, 0, 0, 0, 0, 0, 0, 0, 0, 0, 0] : List Nat).drop (4 + 8)).set 12 n).take 13 ++ ys ++
      ((([1634760805, 857760878, 2036477234, 1797285236, 0, 0, 0, 0, 0, 0, 0, 0, 0, 0, 0, 0] : List Nat).take 4 ++ xs ++ ([1634760805, 857760878, 2036477234, 1797285236, 0, 0, 0, 0, 0, 0, 0, 0, 0, 0, 0, 0] : List Nat).drop (4 + 8)).set 12 n).drop (13 + 3)) =
      [1634760805, 857760878, 2036477234, 1797285236] ++ xs ++ [n] ++ ys := by
  match xs, hx, ys, hy with
  | [_, _, _, _, _, _, _, _], _, [_, _, _], _ => rfl
theorem heap_lt {w : World} {g : Nat} {o : Obj} (h : w.heap[g]? = some o) : g < w.heap.size := (Array.getElem?_eq_some_iff.1 h).1
def init16 : Array Value := #[.int .i64 1634760805, .int .i64 857760878, .int .i64 2036477234, .int .i64 1797285236, .int .i64 0, .int .i64 0, .int .i64 0, .int .i64 0, .int .i64 0, .int .i64 0, .int .i64 0, .int .i64 0, .int .i64 0, .int .i64 0, .int .i64 0, .int .i64 0]
theorem init16_eq : init16 = sv [1634760805, 857760878, 2036477234, 1797285236, 0, 0, 0, 0, 0, 0, 0, 0, 0, 0, 0, 0] := rfl
theorem cut_v (s : ByteArray) (h : Bool) (xs : List Nat) (hx : cutL h s = xs) (n : Nat) (hn : xs.length = n) (w : World) (hs : s.size ≤ 1000000) (h4 : s.size % 4 = 0) :
    Calls Tryd.prog 48 #[.string s, .bool h] w fun e w' => ∃ b, e = .returned (.tuple #[.slice (some ⟨b, 0, none⟩) n n, .bool true]) ∧ w.heap.size ≤ b ∧ Sl w' (some ⟨b, 0, none⟩) (ints xs) ∧ Below w.heap.size w w' := by
  subst hx hn
  exact cut_new s h w hs h4
set_option maxRecDepth 100000 in
set_option maxHeartbeats 1000000 in
theorem start_yes (key nonce : ByteArray) (n : Nat) (hk : key.size = 32) (hn : nonce.size = 12) (hw : n < 4294967296) (d : Array Value) (hd : sv (startL key nonce n) = d) (w : World) :
    Calls Tryd.prog 26 #[.string key, .string nonce, .int .i64 n] w fun e w' => e = .returned (.tuple #[.agg d, .bool true]) ∧ Below w.heap.size w w' := by
  obtain ⟨xs, hxs⟩ : ∃ xs, cutL false key = xs := ⟨_, rfl⟩
  obtain ⟨ys, hys⟩ : ∃ ys, cutL false nonce = ys := ⟨_, rfl⟩
  have hx8 : xs.length = 8 := by rw [← hxs, cutL_length, hk]
  have hy3 : ys.length = 3 := by rw [← hys, cutL_length, hn]
  have HD : Hid (sv ([1634760805, 857760878, 2036477234, 1797285236] ++ xs ++ [n] ++ ys) = d) := Lib.hid (by rw [← hd, ← hxs, ← hys]; rfl)
  have HCK : Hid (∀ V : World, Calls Tryd.prog 48 #[.string key, .bool false] V fun e w' => ∃ b, e = .returned (.tuple #[.slice (some ⟨b, 0, none⟩) 8 8, .bool true]) ∧ V.heap.size ≤ b ∧ Sl w' (some ⟨b, 0, none⟩) (ints xs) ∧ Below V.heap.size V w') :=
    Lib.hid fun V => cut_v key false xs hxs 8 hx8 V (by omega) (by omega)
  have HCN : Hid (∀ V : World, Calls Tryd.prog 48 #[.string nonce, .bool false] V fun e w' => ∃ b, e = .returned (.tuple #[.slice (some ⟨b, 0, none⟩) 3 3, .bool true]) ∧ V.heap.size ≤ b ∧ Sl w' (some ⟨b, 0, none⟩) (ints ys) ∧ Below V.heap.size V w') :=
    Lib.hid fun V => cut_v nonce false ys hys 3 hy3 V (by omega) (by omega)
  have HX8 := Lib.hid hx8
  have HY3 := Lib.hid hy3
  have HOK : Hid (okW (n : Int) = true) := Lib.hid (okW_t (by omega) (by omega))
  have hi : ∀ l, (Tryd.prog.info? 57).map (·.size) = some (sv l).size := fun l => by rw [sv_size]; exact sv_info
  clear hd hxs hys hx8 hy3
  go_enter Tryd.func26, Tryd.ntmps26
  go_wp2_with fail
  refine (is_one n _ _ _ (by simp)).mono ?_
  rintro e w1 ⟨rfl, rfl⟩
  rw [HOK.out]
  go_wp2_with fail
  obtain ⟨W, hW⟩ : ∃ W, W = ((w.alloc (.cells zero16 57)).alloc (.cells #[.int .i64 (n : Nat)] 3)).alloc (.cells init16 57) := ⟨_, rfl⟩
  have hz : W.heap[w.heap.size]? = some (.cells zero16 57 (0, 0)) := by
    rw [hW, Below.heap_alloc _ _ _ (by simp; omega), Below.heap_alloc _ _ _ (by simp)]
    exact heap_alloc_new w _
  have hg : W.heap[w.heap.size + 1 + 1]? = some (.cells init16 57 (0, 0)) := by
    rw [hW]
    have h := heap_alloc_new ((w.alloc (.cells zero16 57)).alloc (.cells #[.int .i64 (n : Nat)] 3)) (.cells init16 57)
    rw [World.size_alloc, World.size_alloc] at h
    exact h
  rw [init16_eq] at hg
  have hb : Below w.heap.size w W := by
    rw [hW]
    exact (((Below.refl w.heap.size w).al _).al _).al _
  have hsz : W.heap.size = w.heap.size + 1 + 1 + 1 := by rw [hW]; simp
  unfold zero16 init16 at hW
  rw [← hW]
  clear hW
  obtain ⟨L0, hL0⟩ : ∃ L, L = [1634760805, 857760878, 2036477234, 1797285236, 0, 0, 0, 0, 0, 0, 0, 0, 0, 0, 0, 0] := ⟨_, rfl⟩
  obtain ⟨L1, hL1⟩ : ∃ L, L0.take 4 ++ xs ++ L0.drop (4 + 8) = L := ⟨_, rfl⟩
  obtain ⟨L3, hL3⟩ : ∃ L, (L1.set 12 n).take 13 ++ ys ++ (L1.set 12 n).drop (13 + 3) = L := ⟨_, rfl⟩
  have hl0 : L0.length = 16 := by rw [hL0]; rfl
  have hl1 : L1.length = 16 := by rw [← hL1]; simp [hl0, HX8.out]
  have hl2 : (L1.set 12 n).length = 16 := by rw [List.length_set]; exact hl1
  have HE : Hid (sv L3 = d) := Lib.hid (by rw [← HD.out, ← start_list xs ys HX8.out HY3.out n, ← hL3, ← hL1, hL0])
  rw [← hL0] at hg
  have HL1 := Lib.hid hL1
  have HL3 := Lib.hid hL3
  have HLS := Lib.hid (And.intro hl0 (And.intro hl1 hl2))
  clear hL0 hL1 hL3 hl0 hl1 hl2 HD
  generalize hgg : w.heap.size + 1 + 1 = g at *
  have hgw : w.heap.size < g := by omega
  have hne : w.heap.size ≠ g := by omega
  have hgl : g < W.heap.size := by omega
  clear hgg hsz
  refine (HCK.out _).mono ?_
  rintro e w2 ⟨b2, rfl, hbb, hs2, hb2⟩
  have hg2 := (hb2.block _ hgl).trans hg
  have hz2 := (hb2.block _ (heap_lt hz)).trans hz
  have hbw2 := hb.next' hb2
  have hc2 := copy_run (o := 4) (m := 12) HLS.out.1 HX8.out rfl (by omega) HL1.out w2 hg2 hs2 (by omega)
  have hr3 : (w2.setRow g (sv L1)).rowIs g 57 16 (fun j => .int .i64 (L1.getD j 0 : Nat)) := row_of_heap (setRow_heap _ _ _ _ _ _ hg2)
  have hr4 := row16_set hr3 HLS.out.2.1 12 n (by omega)
  have c12 := hr3.cell (i := 12) (by omega)
  have d12 := hr3.frozen 12
  have hg4 := sv_of_row hr4
  have hz4 : ((w2.setRow g (sv L1)).setCell ⟨g, 12, none⟩ (.int .i64 (n : Nat))).heap[w.heap.size]? = some (.cells zero16 57 (0, 0)) := by
    rw [heap_setCell_other _ _ _ _ hne, setRow_other _ _ _ _ hne]
    exact hz2
  have hb4 : Below w.heap.size w ((w2.setRow g (sv L1)).setCell ⟨g, 12, none⟩ (.int .i64 (n : Nat))) := (hbw2.setRow (g := g) (by omega) _).setCell (p := ⟨g, 12, none⟩) (by simp; omega) _
  have hgl4 := heap_lt hg4
  clear hg hz hb hb2 hr3 hr4 hg2 hz2 hbw2 hs2 hgl
  go_wp2_with fail
  clear c12 d12 hc2
  generalize (w2.setRow g (sv L1)).setCell ⟨g, 12, none⟩ (.int .i64 (n : Nat)) = W4 at *
  refine (HCN.out _).mono ?_
  rintro e w5 ⟨b5, rfl, hbb5, hs5, hb5⟩
  have hg5 := (hb5.block _ hgl4).trans hg4
  have hz5 := (hb5.block _ (heap_lt hz4)).trans hz4
  have hbw5 := hb4.next' hb5
  have hc5 := copy_run (o := 13) (m := 3) HLS.out.2.2 HY3.out rfl (by omega) HL3.out w5 hg5 hs5 (by omega)
  rw [HE.out] at hc5
  have hds : d.size = 16 := by rw [← HE.out]; exact sv_size _
  have hinf : (Tryd.prog.info? 57).map (·.size) = some d.size := by rw [hds]; exact sv_info
  have hg6 : (w5.setRow g d).heap[g]? = some (.cells d 57 (0, 0)) := setRow_heap _ _ _ _ _ _ hg5
  have hz6 : (w5.setRow g d).heap[w.heap.size]? = some (.cells zero16 57 (0, 0)) := by rw [setRow_other _ _ _ _ hne]; exact hz5
  have hold : zero16.size = d.size := by rw [hds]; rfl
  have hall : d.all (·.oneCell') = true := by rw [← HE.out]; exact all_one_ints (k := .i64) (g := fun j => (L3.getD j 0 : Nat)) (n := 16) rfl
  have hb6 := hbw5.setRow (g := g) (by omega) d
  clear hg4 hz4 hb4 hb5 hg5 hz5 hbw5 hs5 hgl4
  go_wp2_with (first
    | (refine wpList_load_row rfl _ _ rfl g rfl _ _ _ _ hg6 Tryd.underlying57 rfl hinf ?_)
    | (refine wpList_store_row rfl _ _ _ rfl w.heap.size _ rfl rfl _ _ hz6 hinf hold hall ?_))
  refine bodyPost_ret (v := .tuple #[.agg d, .bool true]) (results_cell_slot rfl _ _ w.heap.size _ _ _ _ rfl (setRow_heap _ _ _ _ _ _ hz6) Tryd.underlying57 rfl hinf _ rfl) rfl ⟨rfl, hb6.setRow (Nat.le_refl _) _⟩
end Go.Proofs.YtlkdofghhibmbaaDoor

/-
  stream: start where it refuses.
-/
namespace Go.Proofs.YtlkdofghhibmbaaDoor
open Go.RowKit Go.Kx
set_option maxRecDepth 20000

set_option maxHeartbeats 1000000 in
/-- Refused: what is no key, no nonce, or no counter. -/
theorem start_no (key nonce : ByteArray) (n : Int) (h : key.size = 32 ∧ nonce.size = 12 → okW n = false) (w : World) :
    Calls Tryd.prog 26 #[.string key, .string nonce, .int .i64 n] w fun e w' => e = .returned (.tuple #[.agg zero16, .bool false]) ∧ Below w.heap.size w w' := by
  have hinf : (Tryd.prog.info? 57).map (·.size) = some zero16.size := sv_info
  unfold zero16 at hinf ⊢
  by_cases h1 : key.size = 32
  · by_cases h2 : nonce.size = 12
    · have HOK := Lib.hid (h ⟨h1, h2⟩)
      clear h
      go_enter Tryd.func26, Tryd.ntmps26
      go_wp2_with fail
      refine (is_one n _ _ _ (by simp)).mono ?_
      rintro e w1 ⟨rfl, rfl⟩
      rw [HOK.out]
      go_wp2
      refine bodyPost_ret (v := .tuple #[.agg zero16, .bool false]) (results_cell_slot rfl _ _ w.heap.size _ _ _ _ rfl ((Below.heap_alloc _ _ _ (by simp)).trans (heap_alloc_new w _)) Tryd.underlying57 rfl hinf _ rfl) rfl ⟨rfl, (Below.alloc0 _ _).al _⟩
    · have t2 : ((nonce.size : Int) != 12) = true := by simp; omega
      clear h h2
      go_enter Tryd.func26, Tryd.ntmps26
      go_wp2
      refine bodyPost_ret (v := .tuple #[.agg zero16, .bool false]) (results_cell_slot rfl _ _ w.heap.size _ _ _ _ rfl (heap_alloc_new w _) Tryd.underlying57 rfl hinf _ rfl) rfl ⟨rfl, Below.alloc0 _ _⟩
  · have t1 : ((key.size : Int) != 32) = true := by simp; omega
    clear h h1
    go_enter Tryd.func26, Tryd.ntmps26
    go_wp2
    refine bodyPost_ret (v := .tuple #[.agg zero16, .bool false]) (results_cell_slot rfl _ _ w.heap.size _ _ _ _ rfl (heap_alloc_new w _) Tryd.underlying57 rfl hinf _ rfl) rfl ⟨rfl, Below.alloc0 _ _⟩
end Go.Proofs.YtlkdofghhibmbaaDoor

/-
  stream: Block.
-/
namespace Go.Proofs.YtlkdofghhibmbaaDoor
open Go.RowKit Go.Kx
set_option maxRecDepth 20000

theorem block_yes (key nonce : ByteArray) (n : Nat) (hk : key.size = 32) (hn : nonce.size = 12) (hw : n < 4294967296) (r : ByteArray) (hr : ⟨(bytesL (startL key nonce n)).toArray⟩ = r) (w : World) (hK : Places w) :
    Calls Tryd.prog 13 #[.string key, .string nonce, .int .i64 n] w fun e w' => e = .returned (.tuple #[.string r, .int .i64 0]) ∧ Below w.heap.size w w' := by
  obtain ⟨d, hd⟩ : ∃ d, sv (startL key nonce n) = d := ⟨_, rfl⟩
  have HST : Hid (∀ V : World, Calls Tryd.prog 26 #[.string key, .string nonce, .int .i64 n] V fun e w' => e = .returned (.tuple #[.agg d, .bool true]) ∧ Below V.heap.size V w') :=
    Lib.hid fun V => start_yes key nonce n hk hn hw d hd V
  have HBY : Hid (∀ V : World, Places V → Calls Tryd.prog 27 #[.agg d] V fun e w' => e = .returned (.string r) ∧ Below V.heap.size V w') := Lib.hid fun V hV => bytes_any (startL key nonce n) (startL_ok key nonce n hk hn hw) d hd.symm r hr V hV
  have hinf : (Tryd.prog.info? 57).map (·.size) = some d.size := by rw [← hd, sv_size]; exact sv_info
  have hold : zero16.size = d.size := by rw [← hd, sv_size]; rfl
  have hall : d.all (·.oneCell') = true := by rw [← hd]; exact all_one_ints (k := .i64) (g := fun j => ((startL key nonce n).getD j 0 : Nat)) (n := 16) rfl
  have hst : ∀ V : World, (V.alloc (.cells zero16 57)).heap[V.heap.size]? = some (.cells zero16 57 (0, 0)) := fun V => heap_alloc_new V _
  clear hd hr hk hn hw
  unfold zero16 at hold hst
  go_enter Tryd.func13, Tryd.ntmps13
  go_wp2_with fail
  refine (HST.out _).mono ?_
  rintro e w1 ⟨rfl, hb1⟩
  have hgW := setRow_heap _ _ _ d _ _ (hst w1)
  have hbW := (Below.alloc0 w1 (.cells zero16 57)).setRow (g := w1.heap.size) (Nat.le_refl _) d
  have hbw := hb1.next hbW
  unfold zero16 at hbw
  go_wp2_with (first
    | (refine wpList_store_row rfl _ _ _ rfl w1.heap.size _ rfl rfl _ _ (hst w1) hinf hold hall ?_)
    | (refine wpList_load_row rfl _ _ rfl w1.heap.size rfl _ _ _ _ hgW Tryd.underlying57 rfl hinf ?_))
  refine (HBY.out _ (hK.keep hbw)).mono ?_
  rintro e w3 ⟨rfl, hb3⟩
  go_wp2
  go_ret2
  exact ⟨rfl, hbw.next hb3⟩
theorem block_no (key nonce : ByteArray) (n : Int) (h : key.size = 32 ∧ nonce.size = 12 → okW n = false) (w : World) :
    Calls Tryd.prog 13 #[.string key, .string nonce, .int .i64 n] w fun e w' => e = .returned (.tuple #[.string ⟨#[]⟩, .int .i64 1]) ∧ Below w.heap.size w w' := by
  obtain ⟨d, hd⟩ : ∃ d, zero16 = d := ⟨_, rfl⟩
  have HST : Hid (∀ V : World, Calls Tryd.prog 26 #[.string key, .string nonce, .int .i64 n] V fun e w' => e = .returned (.tuple #[.agg d, .bool false]) ∧ Below V.heap.size V w') :=
    Lib.hid fun V => by rw [← hd]; exact start_no key nonce n h V
  have hinf : (Tryd.prog.info? 57).map (·.size) = some d.size := by rw [← hd]; exact sv_info
  have hold : zero16.size = d.size := by rw [← hd]
  have hall : d.all (·.oneCell') = true := by rw [← hd]; exact all_one_ints (k := .i64) (g := fun _ => 0) (n := 16) rfl
  have hst : ∀ V : World, (V.alloc (.cells zero16 57)).heap[V.heap.size]? = some (.cells zero16 57 (0, 0)) := fun V => heap_alloc_new V _
  clear hd h
  unfold zero16 at hold hst
  go_enter Tryd.func13, Tryd.ntmps13
  go_wp2_with fail
  refine (HST.out _).mono ?_
  rintro e w1 ⟨rfl, hb1⟩
  go_wp2_with (refine wpList_store_row rfl _ _ _ rfl w1.heap.size _ rfl rfl _ _ (hst w1) hinf hold hall ?_)
  go_ret2
  exact ⟨rfl, hb1.next ((Below.alloc0 w1 _).setRow (g := w1.heap.size) (Nat.le_refl _) d)⟩
end Go.Proofs.YtlkdofghhibmbaaDoor

/-
  digest: the contracts of back, schedule, mix.
-/
namespace Go.Proofs.YtlkdofghhibmbaaDoor
open Go.RowKit Go.Kx
set_option maxRecDepth 20000

theorem rotl_neg (x n : Nat) (hx : x < 4294967296) (h0 : 0 < n) (hn : n < 32) (w : World) :
   Calls Tryd.prog 83 #[.int .u32 x, .int .i64 (-(n : Int))] w fun e w' => e = .returned (.int .u32 (bk x n : Nat)) ∧ w = w' := by
  have h1 : bits .and .u64 (IntKind.u64.wrap (-(n : Int))) 31 = ((32 - n : Nat) : Int) := by
    have e : IntKind.u64.wrap (-(n : Int)) = ((18446744073709551616 - n : Nat) : Int) := by
      simp only [IntKind.wrap, IntKind.bits, IntKind.signed]; simp; omega
    rw [e, u64_and_31 _ (by omega)]
    congr 1
    omega
  have h3 : 32 - n < 32 := by omega
  have HB := Lib.hid (show bk x n = rotN x (32 - n) from rfl)
  have HC := Lib.hid (show 32 - (32 - n) = n by omega)
  generalize 32 - n = s at *
  go_enter Tryd.func83, Tryd.ntmps83
  go_wp2
  go_ret
  refine ⟨ret_int ?_, rfl⟩
  have e1 : ((x : Int) * 2 ^ s % 4294967296) = ((x * 2 ^ s % 4294967296 : Nat) : Int) := by rw [Int.natCast_emod, Int.natCast_mul, Int.natCast_pow]; rfl
  have e2 : ((x : Int) / 2 ^ (32 - s)) = ((x / 2 ^ (32 - s) : Nat) : Int) := by rw [Int.natCast_ediv, Int.natCast_pow]; rfl
  rw [e1, e2, u32_or_nat _ _ (Nat.mod_lt _ (by omega)) (Nat.lt_of_le_of_lt (Nat.div_le_self _ _) hx), rot_or x s hx h3, HB.out]
theorem back_any (x n : Nat) (hx : x < 4294967296) (h0 : 0 < n) (hn : n < 32) (w : World) :
   Calls Tryd.prog 71 #[.int .u32 x, .int .i64 n] w fun e w' => e = .returned (.int .u32 (bk x n : Nat)) ∧ w = w' := by
  go_enter Tryd.func71, Tryd.ntmps71
  go_wp2_with (go_at_call 83; refine (rotl_neg x n hx h0 hn _).mono ?_; rintro e w' ⟨rfl, rfl⟩)
  go_ret
  exact ⟨rfl, rfl⟩

theorem back_q (x n : Nat) (m : Int) (hm : m = (n : Int)) (hx : x < 4294967296) (h0 : 0 < n) (hn : n < 32) (w : World) :
   Calls Tryd.prog 71 #[.int .u32 x, .int .i64 m] w fun e w' => e = .returned (.int .u32 (bk x n : Nat)) ∧ w' = w := by
  subst hm
  exact (back_any x n hx h0 hn w).mono fun _ _ ⟨he, hw⟩ => ⟨he, hw.symm⟩
def rowW (W : Nat → Nat) (k j : Nat) : Nat := if j < k then W j else 0
theorem rowW_in (W : Nat → Nat) {k j : Nat} (h : j < k) : rowW W k j = W j := if_pos h
theorem rowW_set (W : Nat → Nat) (k j : Nat) : (if j = k then W k else rowW W k j) = rowW W (k + 1) j := by
  unfold rowW
  by_cases h : j = k
  · subst h; simp
  · rw [if_neg h]
    by_cases h2 : j < k
    · rw [if_pos h2, if_pos (by omega)]
    · rw [if_neg h2, if_neg (by omega)]
theorem sum4 (a b c d : Nat) : IntKind.u32.wrap (IntKind.u32.wrap (IntKind.u32.wrap ((a : Int) + (b : Int)) + (c : Int)) + (d : Int)) = (((a + b + c + d) % 4294967296 : Nat) : Int) := by
  simp only [IntKind.wrap_u32']
  omega
theorem row64_size : (Tryd.prog.info? 95).map (·.size) = some 64 := by kernel_rfl
set_option maxHeartbeats 1000000 in
theorem sched_gen (W : Nat → Nat) (s : ByteArray) (w : World) (hs : s.size = 64) (hlt : ∀ x ∈ cutL true s, x < 4294967296) (hlen : (cutL true s).length = 16)
   (hold : ∀ j, j < 16 → W j = (cutL true s).getD j 0) (hWl : ∀ j, W j < 4294967296) (hWn : ∀ i, 16 ≤ i → i < 64 → W i = (W (i - 16) + sg0 (W (i - 15)) + W (i - 7) + sg1 (W (i - 2))) % 4294967296) :
   Calls Tryd.prog 53 #[.string s] w fun e w' => e = .returned (.agg (rowA .u32 64 W)) ∧ Below w.heap.size w w' := by
  have HLT := Lib.hid hlt
  have HOLD := Lib.hid hold
  have HWL := Lib.hid hWl
  have HWN := Lib.hid hWn
  clear hlt hold hWl hWn
  go_enter Tryd.func53, Tryd.ntmps53
  go_wp2_with fail
  refine (cut_new s true _ (by omega) (by omega)).mono ?_
  rintro e w1 ⟨b, rfl, hbb, hsl, hb⟩
  generalize cutL true s = xs at *
  have hr1 := rowIs_keep (rowIs_new (n := 64) (z := .int .u32 0) rfl) hb
  have hr0 := rowIs_keep ((rowIs_new (n := 64) (z := .int .u32 0) rfl).alloc _) hb
  simp only [World.size_alloc] at hr1 hr0 hbb
  have hbw := ((((Below.refl _ w).alloc (Nat.le_refl _) _).alloc (by simp) _).trans (hb.mono (by simp; omega)))
  clear hb
  go_wp2_with fail
  go_loopw [6, 7, 18] (fun _ _ i wr => ∃ k : Nat, k ≤ 16 ∧ i = .int .i64 k ∧ Sl wr (some ⟨b, 0, none⟩) (ints xs) ∧ wr.rowIs (w.heap.size + 1) 95 64 (fun j => .int .u32 (rowW W k j : Nat)) ∧
     wr.rowIs w.heap.size 95 64 (fun _ => .int .u32 0) ∧ Below w.heap.size w wr) (fun _ _ i _ => 16 - (intOf i).toNat)
  case atStart => exact ⟨0, by omega, rfl, hsl, hr1, hr0, hbw⟩
  case round =>
    obtain ⟨k, hk, rfl, hsk, hrk, hr0k, hbk⟩ := hrel
    clear hsl hr1 hr0 hbw
    by_cases hl : k < 16
    · obtain ⟨b', off, u, he, hu, hcell⟩ := hsk.at_ (k := k) (by simp [ints]; omega)
      obtain ⟨rfl, rfl⟩ : b = b' ∧ 0 = off := by simpa using he
      obtain ⟨x, hx, rfl⟩ : ∃ x, xs[k]? = some x ∧ .int .i64 (x : Int) = u := by simpa [ints] using hu
      have hxl : x < 4294967296 := HLT.out x (List.mem_of_getElem? hx)
      have hxw := wrapU32 hxl
      have hload := hrk.cell (i := k) (by omega)
      have hfz := hrk.frozen k
      rw [Nat.zero_add] at hcell
      have HX := Lib.hid (show W k = x by rw [HOLD.out k hl, List.getD_eq_getElem?_getD, hx]; rfl)
      clear hx hu he
      go_wp2
      go_roundw
      case rel =>
        refine ⟨k + 1, by omega, by go_num, hsk.set (by simp; omega) _, ?_, hr0k.setOther (by simp) _, hbk.setCell (p := ⟨w.heap.size + 1, k, none⟩) (by simp) _⟩
        refine (hrk.set k _).congr fun j _ => ?_
        rw [← rowW_set W k j, HX.out]
        split <;> rfl
      case measure => simp [intOf]; omega
    · obtain rfl : k = 16 := by omega
      clear hl hk hsk HOLD HLT
      go_wp2
      rw [show ((16 : Nat) : Int) = 16 from rfl]
      go_loopw [8, 9, 10] (fun i _ _ wr => ∃ k : Nat, 16 ≤ k ∧ k ≤ 64 ∧ i = .int .i64 k ∧ wr.rowIs (w.heap.size + 1) 95 64 (fun j => .int .u32 (rowW W k j : Nat)) ∧
         wr.rowIs w.heap.size 95 64 (fun _ => .int .u32 0) ∧ Below w.heap.size w wr) (fun i _ _ _ => 64 - (intOf i).toNat)
      case atStart => exact ⟨16, by omega, by omega, rfl, hrk, hr0k, hbk⟩
      case round =>
        clear hrk hr0k hbk
        obtain ⟨k, hk1, hk2, rfl, hrk, hr0k, hbk⟩ := hrel
        by_cases hl : k < 64
        · have c16 := hrk.cell (i := k - 16) (by omega)
          have c15 := hrk.cell (i := k - 15) (by omega)
          have c7 := hrk.cell (i := k - 7) (by omega)
          have c2 := hrk.cell (i := k - 2) (by omega)
          have c0 := hrk.cell (i := k) (by omega)
          have hfz := hrk.frozen k
          rw [rowW_in W (by omega)] at c16 c15 c7 c2
          have l15 := HWL.out (k - 15)
          have l2 := HWL.out (k - 2)
          have HN := Lib.hid (HWN.out k hk1 hl)
          generalize W (k - 15) = p at *
          generalize W (k - 2) = q at *
          generalize W (k - 16) = x at *
          generalize W (k - 7) = y at *
          have w16 : IntKind.i64.wrap ((k : Int) - 16) = (k : Int) - 16 := IntWalk.i64_in _ (by omega)
          have w15 : IntKind.i64.wrap ((k : Int) - 15) = (k : Int) - 15 := IntWalk.i64_in _ (by omega)
          have w7 : IntKind.i64.wrap ((k : Int) - 7) = (k : Int) - 7 := IntWalk.i64_in _ (by omega)
          have w2 : IntKind.i64.wrap ((k : Int) - 2) = (k : Int) - 2 := IntWalk.i64_in _ (by omega)
          have n16 : ((k : Int) - 16).toNat = k - 16 := by omega
          have n15 : ((k : Int) - 15).toNat = k - 15 := by omega
          have n7 : ((k : Int) - 7).toNat = k - 7 := by omega
          have n2 : ((k : Int) - 2).toNat = k - 2 := by omega
          have p16 : 0 ≤ (k : Int) - 16 := by omega
          have p15 : 0 ≤ (k : Int) - 15 := by omega
          have p7 : 0 ≤ (k : Int) - 7 := by omega
          have p2 : 0 ≤ (k : Int) - 2 := by omega
          have q16 : (16 : Int) ≤ (k : Int) := by omega
          have q7 : (7 : Int) ≤ (k : Int) := by omega
          have b16 : (k : Int) - 16 < 64 := by omega
          have b15 : (k : Int) - 15 < 64 := by omega
          have b7 : (k : Int) - 7 < 64 := by omega
          have b2 : (k : Int) - 2 < 64 := by omega
          go_wp2
          go_quiet (fail)
          go_wp2
          clear c15 c2
          have d16 : (wr.drewN nq).cell? ⟨w.heap.size + 1, k - 16, none⟩ = _ := c16
          have d7 : (wr.drewN nq).cell? ⟨w.heap.size + 1, k - 7, none⟩ = _ := c7
          have d0 : (wr.drewN nq).cell? ⟨w.heap.size + 1, k, none⟩ = _ := c0
          have dfz : (wr.drewN nq).frozen? ⟨w.heap.size + 1, k, none⟩ = _ := hfz
          have drk : (wr.drewN nq).rowIs (w.heap.size + 1) _ _ _ := hrk
          have dr0k : (wr.drewN nq).rowIs (w.heap.size) _ _ _ := hr0k
          have dbk : Below w.heap.size w (wr.drewN nq) := hbk.next' (Below.drewN0 _ _)
          clear c16 c7 c0 hfz hrk hr0k hbk
          generalize wr.drewN nq = w2 at *
          refine wp_region_still_tail 29 (by kernel_rfl) (by kernel_rfl) ?_
          simp only [List.take_succ_cons, List.take_zero, List.drop_succ_cons, List.drop_zero]
          repeat still_step
          still_call (back_q p 7 7 rfl l15 (by omega) (by omega) _)
          repeat still_step
          still_call (back_q p 18 18 rfl l15 (by omega) (by omega) _)
          repeat still_step
          still_call (back_q q 17 17 rfl l2 (by omega) (by omega) _)
          repeat still_step
          still_call (back_q q 19 19 rfl l2 (by omega) (by omega) _)
          repeat still_step
          refine wpStill_nil ?_
          have e0 : w2.drew.cell? ⟨w.heap.size + 1, k, none⟩ = _ := d0
          have efz : w2.drew.frozen? ⟨w.heap.size + 1, k, none⟩ = _ := dfz
          have erk := drk.drew
          have er0k := dr0k.drew
          have ebk := dbk.drew
          change wpList _ _ _ _ _ w2.drew
          clear d16 d7 d0 dfz drk dr0k dbk
          generalize w2.drew = w3 at *
          go_wp2
          go_roundw
          case rel =>
            refine ⟨k + 1, by omega, by omega, by go_num, ?_, er0k.setOther (by simp) _, ebk.setCell (p := ⟨w.heap.size + 1, k, none⟩) (by simp) _⟩
            refine (erk.set k _).congr fun j _ => ?_
            rw [← rowW_set W k j, HN.out]
            by_cases hjk : j = k
            · rw [if_pos hjk, if_pos hjk]
              refine congrArg (Value.int .u32) ?_
              have e0 : bits .xor .u32 (bits .xor .u32 (bk p 7 : Nat) (bk p 18 : Nat)) ((p : Int) / 8) = ((sg0 p : Nat) : Int) := by
                rw [show ((p : Int) / 8) = ((p / 8 : Nat) : Int) from rfl, u32_xor_nat _ _ (bk_lt _ _ l15) (bk_lt _ _ l15), u32_xor_nat _ _ (xor_lt (bk_lt _ _ l15) (bk_lt _ _ l15)) (by omega)]; rfl
              have e1 : bits .xor .u32 (bits .xor .u32 (bk q 17 : Nat) (bk q 19 : Nat)) ((q : Int) / 1024) = ((sg1 q : Nat) : Int) := by
                rw [show ((q : Int) / 1024) = ((q / 1024 : Nat) : Int) from rfl, u32_xor_nat _ _ (bk_lt _ _ l2) (bk_lt _ _ l2), u32_xor_nat _ _ (xor_lt (bk_lt _ _ l2) (bk_lt _ _ l2)) (by omega)]; rfl
              rw [e0, e1]
              omega
            · rw [if_neg hjk, if_neg hjk]
          case measure => simp [intOf]; omega
        · obtain rfl : k = 64 := by omega
          obtain ⟨c, h43, hcs, hc⟩ := rowIs_block hrk
          obtain ⟨c0, h0, hcs0, hc0⟩ := rowIs_block hr0k
          have hinf : (Tryd.prog.info? 95).map (·.size) = some c.size := by rw [hcs]; exact row64_size
          have hold : c0.size = c.size := by rw [hcs, hcs0]
          have hall := all_one_ints hc
          have HC := Lib.hid hc
          clear hc hc0 hcs0 hcs
          go_wp2_with (first
            | (refine wpList_load_row rfl _ _ rfl (w.heap.size + 1) rfl _ _ _ _ h43 Tryd.underlying95 rfl hinf ?_)
            | (refine wpList_store_row rfl _ _ _ rfl w.heap.size _ rfl rfl _ _ h0 hinf hold hall ?_))
          refine bodyPost_ret (v := .agg c) (results_cell_row rfl _ _ w.heap.size _ _ _ _ rfl (setRow_heap _ _ _ _ _ _ h0) Tryd.underlying95 rfl hinf) rfl ⟨?_, hbk.setRow (Nat.le_refl _) _⟩
          rw [HC.out, rowA]
          refine congrArg (fun l : List Value => Ending.returned (.agg l.toArray)) (List.map_congr_left fun j hj => ?_)
          rw [rowW_in W (by simpa using hj)]
theorem sched_any (s : ByteArray) (w : World) (hs : s.size = 64) :
   Calls Tryd.prog 53 #[.string s] w fun e w' => e = .returned (.agg (rowA .u32 64 fun j => (blkW s.data.toList).getD j 0)) ∧ Below w.heap.size w w' :=
  sched_gen (fun j => (blkW s.data.toList).getD j 0) s w hs (cutL_lt true s) (by rw [cutL_length, hs]) (blkW_old s hs) (blkW_lt s) (fun i h1 h2 => by have := blkW_next s hs i h1 h2; unfold schedF at this; exact this)
end Go.Proofs.YtlkdofghhibmbaaDoor

/-
  digest: the contract of mix.
-/
namespace Go.Proofs.YtlkdofghhibmbaaDoor
open Go.RowKit Go.Kx
set_option maxRecDepth 20000

theorem back_z (x : Nat) (m : Int) (hx : x < 4294967296) (h0 : 0 < m) (hn : m < 32) (w : World) :
   Calls Tryd.prog 71 #[.int .u32 x, .int .i64 m] w fun e w' => e = .returned (.int .u32 (bk x m.toNat : Nat)) ∧ w' = w :=
  back_q x m.toNat m (by omega) hx (by omega) (by omega) w
def Consts (w : World) : Prop := w.rangeAt 1 0 (shaK.map fun x : Nat => Value.int .u32 x)
theorem Consts.keep {w w' : World} (h : Consts w) (hb : Below w.heap.size w w') : Consts w' := by
  intro j v hv
  have hc := h j v hv
  exact (hb.cell (p := ⟨1, 0 + j, none⟩) (block_lt_of_cell hc)).trans hc
theorem St.at_lt {s : St} (h : s.ok) (j : Nat) : s.at j < 4294967296 := by
  refine getD_lt _ (fun x hx => ?_) j
  obtain ⟨ha, hb, hc, hd, he, hf, hg, hh⟩ := h
  simp only [St.l, List.mem_cons, List.not_mem_nil, or_false] at hx
  rcases hx with rfl | rfl | rfl | rfl | rfl | rfl | rfl | rfl <;> assumption
theorem int_u32 : (Tryd.prog.info? 92).map (·.size) = some 1 := by kernel_rfl
theorem int_i64 : (Tryd.prog.info? 3).map (·.size) = some 1 := by kernel_rfl

theorem not32 (e : Nat) (h : e < 4294967296) : 4294967295 ^^^ e = 4294967295 - e := by
  have h1 := congrArg BitVec.toNat (BitVec.allOnes_xor (x := BitVec.ofNat 32 e))
  rw [BitVec.toNat_xor, BitVec.toNat_not, BitVec.toNat_allOnes, BitVec.toNat_ofNat, Nat.mod_eq_of_lt (by omega)] at h1
  exact h1
theorem bs1_bits (e : Nat) (h : e < 4294967296) : bits .xor .u32 (bits .xor .u32 (bk e 6 : Nat) (bk e 11 : Nat)) (bk e 25 : Nat) = ((bs1 e : Nat) : Int) := by
  rw [u32_xor_nat _ _ (bk_lt _ _ h) (bk_lt _ _ h), u32_xor_nat _ _ (xor_lt (bk_lt _ _ h) (bk_lt _ _ h)) (bk_lt _ _ h)]; rfl
theorem bs0_bits (a : Nat) (h : a < 4294967296) : bits .xor .u32 (bits .xor .u32 (bk a 2 : Nat) (bk a 13 : Nat)) (bk a 22 : Nat) = ((bs0 a : Nat) : Int) := by
  rw [u32_xor_nat _ _ (bk_lt _ _ h) (bk_lt _ _ h), u32_xor_nat _ _ (xor_lt (bk_lt _ _ h) (bk_lt _ _ h)) (bk_lt _ _ h)]; rfl
theorem ch_bits (e f g : Nat) (he : e < 4294967296) (hf : f < 4294967296) (hg : g < 4294967296) :
    bits .xor .u32 (bits .and .u32 (e : Int) f) (bits .and .u32 (bits .xor .u32 IntKind.u32.max e) g) = ((((e &&& f) ^^^ ((4294967295 - e) &&& g)) : Nat) : Int) := by
  rw [show IntKind.u32.max = ((4294967295 : Nat) : Int) from rfl, u32_xor_nat _ _ (by omega) he, not32 e he, u32_and_nat _ _ he hf, u32_and_nat _ _ (by omega) hg, u32_xor_nat _ _ (and_lt hf) (and_lt hg)]
theorem mj_bits (a b c : Nat) (ha : a < 4294967296) (hb : b < 4294967296) (hc : c < 4294967296) :
    bits .xor .u32 (bits .xor .u32 (bits .and .u32 (a : Int) b) (bits .and .u32 (a : Int) c)) (bits .and .u32 (b : Int) c) = (((((a &&& b) ^^^ (a &&& c)) ^^^ (b &&& c)) : Nat) : Int) := by
  rw [u32_and_nat _ _ ha hb, u32_and_nat _ _ ha hc, u32_and_nat _ _ hb hc, u32_xor_nat _ _ (and_lt hb) (and_lt hc), u32_xor_nat _ _ (xor_lt (and_lt hb) (and_lt hc)) (and_lt hc)]
def arr8 (k : IntKind) (a b c d e f g h : Nat) : Array Value := #[.int k a, .int k b, .int k c, .int k d, .int k e, .int k f, .int k g, .int k h]
theorem rowIs_first {w : World} {B : Nat} {t : TypeId} {f : Nat → Nat} (h : w.rowIs B t 8 (fun j => .int .u32 (f j : Nat))) : ∀ j, j < 8 → w.cell? ⟨B, j, none⟩ = some (.int .u32 (f j : Nat)) := fun _ hj => h.cell hj
set_option maxRecDepth 100000 in
set_option maxHeartbeats 1000000 in
theorem mix_gen (s : St) (hs : s.ok) (W : Nat → Nat) (hW : ∀ j, W j < 4294967296) (w : World) (hK : Consts w) (d : Array Value) (hd : d = rowA .u32 64 W) :
   Calls Tryd.prog 52 #[s.v, .agg d] w fun e w' => e = .returned (mixN W s 64).u ∧ Below w.heap.size w w' := by
  have s64 : d.size = 64 := by rw [hd, rowA_size]
  have hat := St.at_lt hs
  have hrd := World.rowIs_alloc (w.alloc (.cells (arr8 .i64 s.a s.b s.c s.d s.e s.f s.g s.h) 63)) d 95 (fun j => .int .u32 (W j : Nat)) (fun j hj => by rw [hd]; exact rowA_at _ _ _ _ (by omega))
  rw [s64, World.size_alloc] at hrd
  have hix : ∀ (k : Nat), k < 8 → ∀ V, (Instr.index 63 (.agg (arr8 .i64 s.a s.b s.c s.d s.e s.f s.g s.h)) (.int .i64 (k : Int))).run Tryd.prog V = .ok (.int .i64 (s.at k)) V := fun k hk V =>
    run_index_ints Tryd.underlying63 int_i64 Tryd.underlying3 hk (rowA_at .i64 8 s.at k hk) V
  unfold arr8 at hix hrd
  have HIX := Lib.hid hix
  have HRD := Lib.hid hrd
  have HD := Lib.hid hd
  have HW := Lib.hid hW
  have HAT := Lib.hid hat
  clear hd hW hix hrd hat
  unfold St.v
  go_enter Tryd.func52, Tryd.ntmps52
  go_wp2_with fail
  have hrd := (HRD.out.alloc (.cells (List.replicate 8 (Value.int .u32 0)).toArray 93)).alloc (.cells (List.replicate 8 (Value.int .u32 0)).toArray 93)
  have hr2 := (rowIs_new (w := (w.alloc (.cells #[.int .i64 s.a, .int .i64 s.b, .int .i64 s.c, .int .i64 s.d, .int .i64 s.e, .int .i64 s.f, .int .i64 s.g, .int .i64 s.h] 63)).alloc (.cells d 95)) (t := 93) (n := 8) (z := .int .u32 0) rfl).alloc (.cells (List.replicate 8 (Value.int .u32 0)).toArray 93)
  have hr3 := rowIs_new (w := ((w.alloc (.cells #[.int .i64 s.a, .int .i64 s.b, .int .i64 s.c, .int .i64 s.d, .int .i64 s.e, .int .i64 s.f, .int .i64 s.g, .int .i64 s.h] 63)).alloc (.cells d 95)).alloc (.cells (List.replicate 8 (Value.int .u32 0)).toArray 93)) (t := 93) (n := 8) (z := .int .u32 0) rfl
  simp only [World.size_alloc] at hr2 hr3
  have hbw : Below w.heap.size w _ := ((((Below.refl _ w).alloc (Nat.le_refl _) (.cells #[.int .i64 s.a, .int .i64 s.b, .int .i64 s.c, .int .i64 s.d, .int .i64 s.e, .int .i64 s.f, .int .i64 s.g, .int .i64 s.h] 63)).alloc (by simp) (.cells d 95)).alloc (by simp; omega) (.cells (List.replicate 8 (Value.int .u32 0)).toArray 93)).alloc (by simp; omega) (.cells (List.replicate 8 (Value.int .u32 0)).toArray 93)
  go_loopw [6, 7, 23] (fun _ _ i wr => ∃ k : Nat, k ≤ 8 ∧ i = .int .i64 k ∧ wr.rowIs (w.heap.size + 1) 95 64 (fun j => .int .u32 (W j : Nat)) ∧ wr.rowIs (w.heap.size + 1 + 1) 93 8 (fun _ => .int .u32 0) ∧
     wr.rowIs (w.heap.size + 1 + 1 + 1) 93 8 (fun j => .int .u32 (rowW s.at k j : Nat)) ∧ Below w.heap.size w wr) (fun _ _ i _ => 8 - (intOf i).toNat)
  case atStart => exact ⟨0, by omega, rfl, hrd, hr2, hr3, hbw⟩
  case round =>
    clear hrd hr2 hr3 hbw
    obtain ⟨k, hk, rfl, hrd, hr2, hr3, hbk⟩ := hrel
    by_cases hl : k < 8
    · have hix := HIX.out k hl
      have hxw := wrapU32 (HAT.out k)
      have hload := hr3.cell (i := k) (by omega)
      have hfz := hr3.frozen k
      have hset := rowW_set s.at k
      have HSET := Lib.hid hset
      clear hset
      generalize s.at k = x at *
      go_wp2
      go_roundw
      case rel =>
        refine ⟨k + 1, by omega, by go_num, hrd.setOther (by simp) _, hr2.setOther (by simp) _, ?_, hbk.setCell (p := ⟨w.heap.size + 1 + 1 + 1, k, none⟩) (by simp; omega) _⟩
        refine (hr3.set k _).congr fun j _ => ?_
        rw [← HSET.out j]
        split <;> rfl
      case measure => simp [intOf]; omega
    · obtain rfl : k = 8 := by omega
      clear hl hk
      have c0 := hr3.cell (i := 0) (by omega)
      have c1 := hr3.cell (i := 1) (by omega)
      have c2 := hr3.cell (i := 2) (by omega)
      have c3 := hr3.cell (i := 3) (by omega)
      have c4 := hr3.cell (i := 4) (by omega)
      have c5 := hr3.cell (i := 5) (by omega)
      have c6 := hr3.cell (i := 6) (by omega)
      have c7 := hr3.cell (i := 7) (by omega)
      rw [rowW_in s.at (by omega)] at c0 c1 c2 c3 c4 c5 c6 c7
      simp only [St.at, St.l, List.getD_cons_zero, List.getD_cons_succ] at c0 c1 c2 c3 c4 c5 c6 c7
      go_wp2
      go_quiet (fail)
      have hKr : Consts (wr.drewN nq) := hK.keep (hbk.next (Below.drewN0 _ _))
      have drd : (wr.drewN nq).rowIs (w.heap.size + 1) _ _ _ := hrd
      have dr2 : (wr.drewN nq).rowIs (w.heap.size + 1 + 1) _ _ _ := hr2
      have dbk := hbk.next (Below.drewN0 _ nq)
      clear c0 c1 c2 c3 c4 c5 c6 c7 hrd hr2 hr3 hbk hK
      generalize wr.drewN nq = w0 at *
      obtain ⟨cK, hcK⟩ : ∃ l, l = shaK.map fun x : Nat => Value.int .u32 x := ⟨_, rfl⟩
      have hlK : (Tryd.prog.info? 95).map (·.size) = some cK.length := by rw [hcK, List.length_map, shaK_length]; exact row64_size
      have hgK : w0.rangeAt 1 0 cK := by rw [hcK]; exact hKr
      have hixK : ∀ (k : Nat), k < 64 → ∀ V, (Instr.index 95 (.agg cK.toArray) (.int .i64 (k : Int))).run Tryd.prog V = .ok (.int .u32 (shaK.getD k 0 : Nat)) V := fun k hk V =>
        run_index_ints Tryd.underlying95 int_u32 Tryd.underlying92 hk (by rw [hcK]; simp [List.getD_eq_getElem?_getD, List.getElem?_eq_getElem (show k < shaK.length from hk)]) V
      have HIXK := Lib.hid hixK
      clear hcK hKr hixK
      go_wp2_with (refine wpList_load_mid rfl _ _ rfl 1 0 rfl cK _ hgK Tryd.underlying95 rfl hlK ?_)
      clear hlK hgK
      go_loopw [8, 9, 10, 11, 12, 13, 14, 15, 49] (fun va vb vc vd ve vf vg vh i wr => ∃ k n : Nat, k ≤ 64 ∧ i = .int .i64 k ∧ wr = w0.drewN n ∧ va = .int .u32 (mixN W s k).a ∧ vb = .int .u32 (mixN W s k).b ∧ vc = .int .u32 (mixN W s k).c ∧
          vd = .int .u32 (mixN W s k).d ∧ ve = .int .u32 (mixN W s k).e ∧ vf = .int .u32 (mixN W s k).f ∧ vg = .int .u32 (mixN W s k).g ∧ vh = .int .u32 (mixN W s k).h) (fun _ _ _ _ _ _ _ _ i _ => 64 - (intOf i).toNat)
      case atStart => exact ⟨0, 0, by omega, rfl, rfl, rfl, rfl, rfl, rfl, rfl, rfl, rfl, rfl⟩
      case round =>
        obtain ⟨k, n, hk, rfl, hwr, rfl, rfl, rfl, rfl, rfl, rfl, rfl, rfl⟩ := hrel
        have hok := mixN_ok W hs k
        by_cases hl : k < 64
        · have hix := HIXK.out k hl
          have hw : wr.cell? ⟨w.heap.size + 1, k, none⟩ = some (.int .u32 (W k : Nat)) := by rw [hwr]; exact drd.cell (i := k) hl
          have HWR := Lib.hid hwr
          clear hwr
          have hwl := HW.out k
          have hkl := shaK_lt k
          have HS := Lib.hid (show mixN W s (k + 1) = rnd (mixN W s k) (shaK.getD k 0) (W k) from rfl)
          generalize mixN W s k = m at *
          generalize shaK.getD k 0 = x at *
          generalize W k = y at *
          obtain ⟨a, b, c, d', e, f, g, h⟩ := m
          obtain ⟨ha, hb, hc, hd, he, hf, hg, hh⟩ := hok
          dsimp only at ha hb hc hd he hf hg hh
          go_wp2
          go_quiet ((go_at_call 71; refine Calls.quiet_of_same (back_z _ _ ?_ ?_ ?_ _) <;> first | assumption | omega))
          go_wp2_with (go_at_call 71; refine (back_z _ _ ?_ ?_ ?_ _).mono ?_; assumption; omega; omega; rintro e' w' ⟨rfl, rfl⟩)
          go_roundw
          case rel =>
            have e1 := bs1_bits e he
            have e0 := bs0_bits a ha
            have ec := ch_bits e f g he hf hg
            have em := mj_bits a b c ha hb hc
            rw [e1, e0, ec, em]
            refine ⟨k + 1, n + nq, by omega, by go_num, ?_, ?_⟩
            · rw [HWR.out]; exact World.drewN_drewN _ _ _
            · rw [HS.out]
              simp only [rnd, uA, vA, chA, mjA]
              refine ⟨congrArg (Value.int .u32) (by omega), trivial, trivial, trivial, congrArg (Value.int .u32) (by omega), trivial, trivial, trivial⟩
          case measure => simp [intOf]; omega
        · obtain rfl : k = 64 := by omega
          have hr2' : wr.rowIs (w.heap.size + 1 + 1) 93 8 (fun _ => .int .u32 0) := by rw [hwr]; exact dr2
          have hbk' : Below w.heap.size w wr := by rw [hwr]; exact dbk.next' (Below.drewN0 _ _)
          obtain ⟨c0, h0, hcs0, _⟩ := rowIs_block hr2'
          clear hwr HIXK drd dr2 dbk hr2'
          generalize hm : mixN W s 64 = m at *
          have HM := Lib.hid hm
          clear hm
          obtain ⟨a, b, c, d', e, f, g, h⟩ := m
          have hinf : (Tryd.prog.info? 93).map (·.size) = some (arr8 .u32 a b c d' e f g h).size := by kernel_rfl
          have hold : c0.size = (arr8 .u32 a b c d' e f g h).size := hcs0
          have hall : (arr8 .u32 a b c d' e f g h).all (·.oneCell') = true := by simp [arr8, Value.oneCell']
          unfold arr8 at hinf hold hall
          go_wp2_with (refine wpList_store_row rfl _ _ _ rfl (w.heap.size + 1 + 1) _ rfl rfl _ _ h0 hinf hold hall ?_)
          refine bodyPost_ret (v := .agg #[.int .u32 a, .int .u32 b, .int .u32 c, .int .u32 d', .int .u32 e, .int .u32 f, .int .u32 g, .int .u32 h]) (results_cell_row rfl _ _ (w.heap.size + 1 + 1) _ _ _ _ rfl (setRow_heap _ _ _ _ _ _ h0) Tryd.underlying93 rfl hinf) rfl ⟨by rw [HM.out]; rfl, hbk'.setRow (by omega) _⟩
theorem mix_any (s : St) (hs : s.ok) (W : Nat → Nat) (hW : ∀ j, W j < 4294967296) (w : World) (hK : Consts w) :
   Calls Tryd.prog 52 #[s.v, .agg (rowA .u32 64 W)] w fun e w' => e = .returned (mixN W s 64).u ∧ Below w.heap.size w w' := mix_gen s hs W hW w hK _ rfl
theorem mix_lit (s : St) (hs : s.ok) (W : Nat → Nat) (hW : ∀ j, W j < 4294967296) (m : St) (hm : mixN W s 64 = m) (w : World) (hK : Consts w) :
   Calls Tryd.prog 52 #[.agg #[.int .i64 s.a, .int .i64 s.b, .int .i64 s.c, .int .i64 s.d, .int .i64 s.e, .int .i64 s.f, .int .i64 s.g, .int .i64 s.h], .agg (rowA .u32 64 W)] w fun e w' =>
     e = .returned (.agg #[.int .u32 m.a, .int .u32 m.b, .int .u32 m.c, .int .u32 m.d, .int .u32 m.e, .int .u32 m.f, .int .u32 m.g, .int .u32 m.h]) ∧ Below w.heap.size w w' := by
  subst hm
  exact mix_gen s hs W hW w hK _ rfl
end Go.Proofs.YtlkdofghhibmbaaDoor
