/-
  A region that draws, whose last operation L writes what others of it read: a condition S on the world is asked behind every operation but L. What reads under S may be taken first, if L waits for it.
-/
import Derived.OrdersHeld
import Derived.Deep.RegionHeld
import Derived.RegionTactic
namespace Go.Kx

section
variable {P : Program} {md : Region.Mode} {ops : Array Oper} {Q : Exit → Act → World → Prop} {S : World → Prop} {L : Nat}

def Upto (P : Program) (md : Region.Mode) (ops : Array Oper) (Q : Exit → Act → World → Prop) (S : World → Prop) (L : Nat) : Nat → Array Bool → Act → World → Prop
  | 0, l, a, w => Region.ready md ops l = [] ∧ Q .normal a w
  | n + 1, l, a, w => (Region.ready md ops l = [] → Q .normal a w) ∧
      ∀ i ∈ Region.ready md ops l, wpOp P ops Q i (fun a' w' => (i = L ∨ S w') ∧ Upto P md ops Q S L n (l.setIfInBounds i true) a' w') a w
theorem Upto.any : ∀ (n : Nat) (l : Array Bool) (a : Act) (w : World), Upto P md ops Q S L n l a w → wpAny P md ops Q n l a w
  | 0, _, _, _, h => h
  | n + 1, _, _, _, h => ⟨h.1, fun i hi => wpOp_mono (fun a' w' h' => Upto.any n _ a' w' h'.2) (h.2 i hi)⟩
def waits (md : Region.Mode) (ops : Array Oper) (L i : Nat) : Bool := match ops[L]? with
  | some o => o.after.toList.any fun e => Region.binds md e && e.on == i
  | none => true
theorem listed_no {l : Array Bool} {i : Nat} (h0 : l.getD i true = false) (h1 : l.getD i false = true) : False := by
  rcases Nat.lt_or_ge i l.size with h | h
  · simp [h] at h0 h1; rw [h0] at h1; cases h1
  · simp [Array.getElem?_eq_none h] at h1
theorem waits_ready {i : Nat} {l : Array Bool} (h : waits md ops L i = true) (hi : i ∈ Region.ready md ops l) : L ∉ Region.ready md ops l := by
  intro hL
  obtain ⟨_, o, ho, hall⟩ := mem_ready.1 hL
  have h0 := (mem_ready.1 hi).1
  unfold waits at h
  rw [ho] at h
  obtain ⟨e, he, hb⟩ := List.any_eq_true.1 h
  simp only [Bool.and_eq_true, beq_iff_eq] at hb
  have h1 := hall e (by simpa using he) hb.1
  rw [hb.2] at h1
  exact listed_no h0 h1
theorem Upto.take_gen {i : Nat} {oi : Oper} {v : Value} (hi : ops[i]? = some oi) (hs : Region.noSelect ops = true) (hL : waits md ops L i = true) (hQ : ∀ c a w, Q (.panic c) (a.put oi.dst v) w → Q (.panic c) a w) :
    ∀ (n : Nat) (l : Array Bool) (a : Act) (w : World), (∀ j oj, ops[j]? = some oj → j ≠ i → l.getD j true = false → (∀ e ∈ oj.after, Region.binds md e = true → e.on ≠ i) → oi.apart ops oj = true) →
      i ∈ Region.ready md ops l → YieldsIf P ops S oi v a → S w → Upto P md ops Q S L n (l.setIfInBounds i true) (a.put oi.dst v) w → Upto P md ops Q S L (n + 1) l a w := by
  intro n
  induction n with
  | zero =>
    intro l a w _ hr hy hS H
    refine ⟨fun h => (by rw [h] at hr; cases hr), fun j hj => ?_⟩
    by_cases hji : j = i
    · subst hji; exact hy.wpOp hi hS ⟨.inr hS, H⟩
    · have h1 := ready_mono hj hji
      rw [H.1] at h1
      cases h1
  | succ n ih =>
    intro l a w hf hr hy hS H
    refine ⟨fun h => (by rw [h] at hr; cases hr), fun j hj => ?_⟩
    by_cases hji : j = i
    · subst hji; exact hy.wpOp hi hS ⟨.inr hS, H⟩
    · have hjL : j ≠ L := fun h => waits_ready hL hr (h ▸ hj)
      obtain ⟨hun, oj, hoj, hall⟩ := mem_ready.1 hj
      have hno : ∀ e ∈ oj.after, Region.binds md e = true → e.on ≠ i := fun e he hb heq => listed_no (mem_ready.1 hr).1 (by have := hall e he hb; rwa [heq] at this)
      have h2 := wpOp_putIf hoj (hf j oj hoj hji hun hno) (fun cs b => Region.noSelect_spec hs i oi cs b hi) (fun cs b => Region.noSelect_spec hs j oj cs b hoj) hQ hy (H.2 j (ready_mono hj hji))
      refine wpOp_mono (fun a' w' h3 => ?_) h2
      have hS' := h3.2.1.resolve_left hjL
      refine ⟨.inr hS', ih _ a' w' (fun k ok hk hki huk hnk => ?_) (ready_mono hr (Ne.symm hji)) h3.1 hS' (by rw [Array.setIfInBounds_comm _ _ hji]; exact h3.2.2)⟩
      refine hf k ok hk hki ?_ hnk
      by_cases hjk : j = k
      · subst hjk; exact hun
      · rwa [getD_set_ne true hjk] at huk
end
section
variable {P : Program} {md : Region.Mode} {ls : List Oper} {Q : Exit → Act → World → Prop} {S : World → Prop} {L n : Nat} {l : Array Bool} {a : Act} {w : World}
theorem drop_at {ls rest : List Oper} {i : Nat} {o : Oper} (h : ls.drop i = o :: rest) : ls.toArray[i]? = some o := by
  have := congrArg (fun x : List Oper => x[0]?) h
  simpa [List.getElem?_drop] using this
theorem Upto.take {i : Nat} {oi : Oper} {rest : List Oper} {v : Value} (hi : ls.drop i = oi :: rest) (hs : Region.noSelect ls.toArray = true) (hf : Region.free md ls.toArray l i = true) (hr : (Region.ready md ls.toArray l).contains i = true)
    (hL : waits md ls.toArray L i = true) (hQ : ∀ c a w, Q (.panic c) (a.put oi.dst v) w → Q (.panic c) a w) (hy : YieldsIf P ls.toArray S oi v a) (hS : S w)
    (h : Upto P md ls.toArray Q S L n (l.setIfInBounds i true) (a.put oi.dst v) w) : Upto P md ls.toArray Q S L (n + 1) l a w :=
  Upto.take_gen (drop_at hi) hs hL hQ n l a w (Region.free_spec (drop_at hi) hf) (by simpa using hr) hy hS h
theorem Upto.step {i : Nat} {o : Oper} {rest : List Oper} (ho : ls.drop i = o :: rest)
    (h : ∀ K : Act → World → Prop, Shut (∀ a w, (i = L ∨ S w) → Upto P md ls.toArray Q S L n (l.setIfInBounds i true) a w → K a w) → if Region.wanted o (yielded ls.toArray a.tmps) = true then Oper.wp P o a w K Q else K (a.put o.dst undef) w) :
    wpOp P ls.toArray Q i (fun a' w' => (i = L ∨ S w') ∧ Upto P md ls.toArray Q S L n (l.setIfInBounds i true) a' w') a w :=
  wpOp_step (drop_at ho) fun K hK => h K fun a w h1 h2 => hK a w ⟨h1, h2⟩
theorem Upto.one {i : Nat} (hr : Region.ready md ls.toArray l = [i]) (h : wpOp P ls.toArray Q i (fun a' w' => (i = L ∨ S w') ∧ Upto P md ls.toArray Q S L n (l.setIfInBounds i true) a' w') a w) :
    Upto P md ls.toArray Q S L (n + 1) l a w := ⟨fun h0 => (by rw [hr] at h0; cases h0), fun j hj => by
  rw [hr] at hj
  obtain rfl := List.mem_singleton.1 hj
  exact h⟩
theorem Upto.two {i j : Nat} (hr : Region.ready md ls.toArray l = [i, j]) (h : wpOp P ls.toArray Q i (fun a' w' => (i = L ∨ S w') ∧ Upto P md ls.toArray Q S L n (l.setIfInBounds i true) a' w') a w)
    (h' : wpOp P ls.toArray Q j (fun a' w' => (j = L ∨ S w') ∧ Upto P md ls.toArray Q S L n (l.setIfInBounds j true) a' w') a w) :
    Upto P md ls.toArray Q S L (n + 1) l a w := ⟨fun h0 => (by rw [hr] at h0; cases h0), fun k hk => by
  rw [hr] at hk
  rcases List.mem_cons.1 hk with rfl | hk
  · exact h
  · obtain rfl := List.mem_singleton.1 hk
    exact h'⟩
theorem Upto.done (hr : Region.ready md ls.toArray l = []) (h : Q .normal a w) : ∀ n, Upto P md ls.toArray Q S L n l a w
  | 0 => ⟨hr, h⟩
  | _ + 1 => ⟨fun _ => h, by rw [hr]; simp⟩
theorem Upto.begin_ {id : Nat} (L : Nat) (S : World → Prop) (hm : P.follows .mixedOrders = true) (h : Upto P .any ls.toArray Q S L ls.length (Array.replicate ls.length false) a w.drew) : (Code.region id ls.toArray true).wp P Q a w := by
  refine wp_region_any hm (Upto.any (S := S) (L := L) _ _ _ _ ?_)
  simpa using h
end
end Go.Kx
