/-
  A region that draws, some operations of which (Ls) write what others of it read: of two conditions on the world S is asked behind every operation, T until one of Ls has come. What reads under S and T may be taken first, if those of Ls wait for it; what reads under S alone always.
-/
import Derived.Test.YtlkdofghhibmbaaDoorUpto
namespace Go.Kx

section
variable {P : Program} {md : Region.Mode} {ops : Array Oper} {Q : Exit → Act → World → Prop} {S T : World → Prop} {Ls : List Nat}

def come (Ls : List Nat) (l : Array Bool) : Bool := Ls.any fun L => l.getD L false
def Cond (S T : World → Prop) (Ls : List Nat) (l : Array Bool) (w : World) : Prop := S w ∧ (come Ls l = true ∨ T w)
def Uptot (P : Program) (md : Region.Mode) (ops : Array Oper) (Q : Exit → Act → World → Prop) (S T : World → Prop) (Ls : List Nat) : Nat → Array Bool → Act → World → Prop
  | 0, l, a, w => Region.ready md ops l = [] ∧ Q .normal a w
  | n + 1, l, a, w => (Region.ready md ops l = [] → Q .normal a w) ∧
      ∀ i ∈ Region.ready md ops l, wpOp P ops Q i (fun a' w' => Cond S T Ls (l.setIfInBounds i true) w' ∧ Uptot P md ops Q S T Ls n (l.setIfInBounds i true) a' w') a w
theorem Uptot.any : ∀ (n : Nat) (l : Array Bool) (a : Act) (w : World), Uptot P md ops Q S T Ls n l a w → wpAny P md ops Q n l a w
  | 0, _, _, _, h => h
  | n + 1, _, _, _, h => ⟨h.1, fun i hi => wpOp_mono (fun a' w' h' => Uptot.any n _ a' w' h'.2) (h.2 i hi)⟩
theorem come_set {l : Array Bool} {i : Nat} (h : i ∉ Ls) : come Ls (l.setIfInBounds i true) = come Ls l := by
  unfold come
  rw [Bool.eq_iff_iff, List.any_eq_true, List.any_eq_true]
  have e : ∀ L ∈ Ls, (l.setIfInBounds i true).getD L false = l.getD L false := fun L hL => getD_set_ne false (fun e => h (e ▸ hL))
  constructor
  · rintro ⟨L, hL, h1⟩
    exact ⟨L, hL, by rw [← e L hL]; exact h1⟩
  · rintro ⟨L, hL, h1⟩
    exact ⟨L, hL, by rw [e L hL]; exact h1⟩
theorem Uptot.take_gen {i : Nat} {oi : Oper} {v : Value} {R : World → Prop} (hi : ops[i]? = some oi) (hiL : i ∉ Ls) (hs : Region.noSelect ops = true) (hR : ∀ w, S w → T w → R w) (hM : (∀ w, S w → R w) ∨ ∀ L ∈ Ls, waits md ops L i = true)
    (hQ : ∀ c a w, Q (.panic c) (a.put oi.dst v) w → Q (.panic c) a w) :
    ∀ (n : Nat) (l : Array Bool) (a : Act) (w : World), (∀ j oj, ops[j]? = some oj → j ≠ i → l.getD j true = false → (∀ e ∈ oj.after, Region.binds md e = true → e.on ≠ i) → oi.apart ops oj = true) →
      i ∈ Region.ready md ops l → ((∀ w, S w → R w) ∨ come Ls l = false) → YieldsIf P ops R oi v a → Cond S T Ls l w → Uptot P md ops Q S T Ls n (l.setIfInBounds i true) (a.put oi.dst v) w → Uptot P md ops Q S T Ls (n + 1) l a w := by
  have hRw : ∀ l w, ((∀ w, S w → R w) ∨ come Ls l = false) → Cond S T Ls l w → R w := fun l w hD hC => by
    rcases hD with h | h
    · exact h w hC.1
    · exact hR w hC.1 (hC.2.resolve_left (by rw [h]; simp))
  have hCi : ∀ l w, Cond S T Ls l w → Cond S T Ls (l.setIfInBounds i true) w := fun l w hC => by
    unfold Cond
    rw [come_set hiL]
    exact hC
  intro n
  induction n with
  | zero =>
    intro l a w _ hr hD hy hC H
    refine ⟨fun h => (by rw [h] at hr; cases hr), fun j hj => ?_⟩
    by_cases hji : j = i
    · subst hji; exact hy.wpOp hi (hRw l w hD hC) ⟨hCi l w hC, H⟩
    · have h1 := ready_mono hj hji
      rw [H.1] at h1
      cases h1
  | succ n ih =>
    intro l a w hf hr hD hy hC H
    refine ⟨fun h => (by rw [h] at hr; cases hr), fun j hj => ?_⟩
    by_cases hji : j = i
    · subst hji; exact hy.wpOp hi (hRw l w hD hC) ⟨hCi l w hC, H⟩
    · obtain ⟨hun, oj, hoj, hall⟩ := mem_ready.1 hj
      have hno : ∀ e ∈ oj.after, Region.binds md e = true → e.on ≠ i := fun e he hb heq => listed_no (mem_ready.1 hr).1 (by have := hall e he hb; rwa [heq] at this)
      have h2 := wpOp_putIf hoj (hf j oj hoj hji hun hno) (fun cs b => Region.noSelect_spec hs i oi cs b hi) (fun cs b => Region.noSelect_spec hs j oj cs b hoj) hQ hy (H.2 j (ready_mono hj hji))
      refine wpOp_mono (fun a' w' h3 => ?_) h2
      have hC' : Cond S T Ls (l.setIfInBounds j true) w' := by
        have h4 := h3.2.1
        unfold Cond at h4 ⊢
        rw [Array.setIfInBounds_comm _ _ (Ne.symm hji), come_set hiL] at h4
        exact h4
      have hD' : (∀ w, S w → R w) ∨ come Ls (l.setIfInBounds j true) = false := by
        rcases hD with h | h
        · exact .inl h
        · rcases hM with h' | h'
          · exact .inl h'
          · exact .inr (by rw [come_set fun hjL => waits_ready (h' j hjL) hr hj]; exact h)
      refine ⟨hC', ih _ a' w' (fun k ok hk hki huk hnk => ?_) (ready_mono hr (Ne.symm hji)) hD' h3.1 hC' (by rw [Array.setIfInBounds_comm _ _ hji]; exact h3.2.2)⟩
      refine hf k ok hk hki ?_ hnk
      by_cases hjk : j = k
      · subst hjk; exact hun
      · rwa [getD_set_ne true hjk] at huk
end
section
variable {P : Program} {md : Region.Mode} {ls : List Oper} {Q : Exit → Act → World → Prop} {S T : World → Prop} {Ls : List Nat} {n : Nat} {l : Array Bool} {a : Act} {w : World}
/-- Ahead of all of Ls: what reads under S and T. -/
theorem Uptot.take {i : Nat} {oi : Oper} {rest : List Oper} {v : Value} (hi : ls.drop i = oi :: rest) (hs : Region.noSelect ls.toArray = true) (hf : Region.free md ls.toArray l i = true) (hr : (Region.ready md ls.toArray l).contains i = true)
    (hL : (!Ls.contains i && !come Ls l && Ls.all fun L => waits md ls.toArray L i) = true) (hQ : ∀ c a w, Q (.panic c) (a.put oi.dst v) w → Q (.panic c) a w) (hy : YieldsIf P ls.toArray (fun w => S w ∧ T w) oi v a) (hS : S w ∧ T w)
    (h : Uptot P md ls.toArray Q S T Ls n (l.setIfInBounds i true) (a.put oi.dst v) w) : Uptot P md ls.toArray Q S T Ls (n + 1) l a w := by
  simp only [Bool.and_eq_true, Bool.not_eq_true', List.all_eq_true] at hL
  exact Uptot.take_gen (R := fun w => S w ∧ T w) (drop_at hi) (by simpa using hL.1.1) hs (fun _ h1 h2 => ⟨h1, h2⟩) (.inr hL.2) hQ n l a w (Region.free_spec (drop_at hi) hf) (by simpa using hr) (.inr hL.1.2) hy ⟨hS.1, .inr hS.2⟩ h
/-- What reads under S alone. -/
theorem Uptot.takeS {i : Nat} {oi : Oper} {rest : List Oper} {v : Value} (hi : ls.drop i = oi :: rest) (hs : Region.noSelect ls.toArray = true) (hf : Region.free md ls.toArray l i = true) (hr : (Region.ready md ls.toArray l).contains i = true)
    (hL : (!Ls.contains i) = true) (hQ : ∀ c a w, Q (.panic c) (a.put oi.dst v) w → Q (.panic c) a w) (hy : YieldsIf P ls.toArray S oi v a) (hS : S w ∧ T w)
    (h : Uptot P md ls.toArray Q S T Ls n (l.setIfInBounds i true) (a.put oi.dst v) w) : Uptot P md ls.toArray Q S T Ls (n + 1) l a w :=
  Uptot.take_gen (R := S) (drop_at hi) (by simpa using hL) hs (fun _ h1 _ => h1) (.inl fun _ h => h) hQ n l a w (Region.free_spec (drop_at hi) hf) (by simpa using hr) (.inl fun _ h => h) hy ⟨hS.1, .inr hS.2⟩ h
/-- One operation alone may come; b: whether one of Ls has come behind it. -/
theorem Uptot.one {i : Nat} {o : Oper} {rest : List Oper} (hi : ls.drop i = o :: rest) (hr : Region.ready md ls.toArray l = [i])
    (h : ∀ K : Act → World → Prop, Shut (∀ a w, Cond S T Ls (l.setIfInBounds i true) w → Uptot P md ls.toArray Q S T Ls n (l.setIfInBounds i true) a w → K a w) → if Region.wanted o (yielded ls.toArray a.tmps) = true then Oper.wp P o a w K Q else K (a.put o.dst undef) w) :
    Uptot P md ls.toArray Q S T Ls (n + 1) l a w := ⟨fun h0 => (by rw [hr] at h0; cases h0), fun j hj => by
  rw [hr] at hj
  obtain rfl := List.mem_singleton.1 hj
  exact wpOp_step (drop_at hi) fun K hK => h K fun a w h1 h2 => hK a w ⟨h1, h2⟩⟩
theorem Cond.ahead (h : S w ∧ T w) : Cond S T Ls l w := ⟨h.1, .inr h.2⟩
theorem Cond.behind (h : S w) (hc : come Ls l = true) : Cond S T Ls l w := ⟨h, .inl hc⟩
theorem Uptot.done (hr : Region.ready md ls.toArray l = []) (h : Q .normal a w) : ∀ n, Uptot P md ls.toArray Q S T Ls n l a w
  | 0 => ⟨hr, h⟩
  | _ + 1 => ⟨fun _ => h, by rw [hr]; simp⟩
theorem Uptot.begin_ {id : Nat} (Ls : List Nat) (S T : World → Prop) (hm : P.follows .mixedOrders = true) (h : Uptot P .any ls.toArray Q S T Ls ls.length (Array.replicate ls.length false) a w.drew) : (Code.region id ls.toArray true).wp P Q a w := by
  refine wp_region_any hm (Uptot.any (S := S) (T := T) (Ls := Ls) _ _ _ _ ?_)
  simpa using h
end
end Go.Kx
