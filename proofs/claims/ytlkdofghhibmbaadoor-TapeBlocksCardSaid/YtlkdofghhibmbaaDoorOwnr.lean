/-
  Slices that a walk appends to: what they read as (any program).
-/
import Derived.Test.YtlkdofghhibmbaaDoorChecked
import Derived.Test.YtlkdofghhibmbaaDoorWords
import Derived.Deep.AppendLies
import Derived.Deep.RegionLaw
namespace Go.Proofs.YtlkdofghhibmbaaDoor
open Go.RowKit Go.Kx
set_option maxRecDepth 20000

theorem own_sl {w : World} {base : Nat} {e : TypeId} {v : Value} {n : Nat} {xs : List Value} (h : w.ownsRow base e 1 v n xs) : ∃ A c, v = .slice A n c ∧ Sl w A xs := by
  have hl := h.1
  rcases Nat.eq_zero_or_pos n with h0 | h0
  · subst h0
    have hx : xs = [] := List.eq_nil_of_length_eq_zero (by simpa using hl)
    subst hx
    rcases h.2 with ⟨rfl, _⟩ | ⟨g, cap, cur, rfl, _⟩
    · exact ⟨_, _, rfl, .inl rfl⟩
    · exact ⟨_, _, rfl, .inl rfl⟩
  · obtain ⟨g, cap, hv, _, hlt⟩ := h.form h0
    subst hv
    refine ⟨_, _, rfl, .inr ⟨g, 0, rfl, hlt, fun j u hu => ?_⟩⟩
    have := h.cells (g := g) rfl j u hu
    rw [Nat.zero_add]
    rw [← this]
    congr 1
    unfold Addr.add
    split <;> simp_all
/-- A slice whose block is not old. -/
def FreshA (B : Nat) (A : Option Addr) : Prop := ∀ a, A = some a → B ≤ a.block
theorem FreshA.ne {B : Nat} {A : Option Addr} (h : FreshA B A) {N : Nat} (hN : N < B) : ∀ a, A = some a → a.block ≠ N := fun a e => by have := h a e; omega
theorem FreshA.mono {B B' : Nat} {A : Option Addr} (h : FreshA B A) (hB : B' ≤ B) : FreshA B' A := fun a e => Nat.le_trans hB (h a e)
theorem own_slf {w : World} {base : Nat} {e : TypeId} {v : Value} {n size : Nat} {xs : List Value} (h : w.ownsRow base e size v n xs) : ∃ A c, v = .slice A n c ∧ Sl w A xs ∧ FreshA base A := by
  have hl := h.1
  rcases h.2 with ⟨rfl, rfl⟩ | ⟨g, cap, cur, rfl, hg, hh, hc, hm, hs, ht⟩
  · have hx : xs = [] := List.eq_nil_of_length_eq_zero (by simpa using hl)
    subst hx
    exact ⟨_, _, rfl, .inl rfl, fun a e => by cases e⟩
  · refine ⟨_, _, rfl, .inr ⟨g, 0, rfl, (Array.getElem?_eq_some_iff.1 hh).1, fun j u hu => ?_⟩, fun a e => by cases e; exact hg⟩
    rw [Nat.zero_add, cell_of_row _ _ _ _ _ _ hh]
    have hj := (List.getElem?_eq_some_iff.1 hu).1
    rw [← ht, List.getElem?_take] at hu
    split at hu
    · simpa using hu
    · cases hu
theorem _root_.Go.Kx.Sl.setA {w : World} {A : Option Addr} {vs : List Value} (h : Sl w A vs) {b : Nat} (hA : ∀ a, A = some a → a.block ≠ b) (o : Nat) (v : Value) : Sl (w.setCell ⟨b, o, none⟩ v) A vs := by
  rcases h with h | ⟨g, off, rfl, hl, hc⟩
  · exact .inl h
  · exact Sl.set (.inr ⟨g, off, rfl, hl, hc⟩) (hA _ rfl) v
theorem own_below {w wr w1 : World} {e : TypeId} {v : Value} {n sz : Nat} {xs : List Value} (hown : wr.ownsRow w.heap.size e sz v n xs) (hb : Below w.heap.size w wr) (hg : wr.grownBy w1 v.ownBlock) : Below w.heap.size w w1 :=
  hb.grown hg hb.size (fun k hk => (hown.lt k hk).1)
theorem own_keep {wr w1 : World} {B : Nat} {e : TypeId} {v : Value} {n sz : Nat} {xs : List Value} (h : wr.ownsRow B e sz v n xs) (hb : Below wr.heap.size wr w1) : w1.ownsRow B e sz v n xs :=
  h.kept (row := none) ⟨hb.os, hb.tape, hb.output, hb.size, fun k hk _ => hb.block k hk⟩ (by cases v.ownBlock <;> simp)
end Go.Proofs.YtlkdofghhibmbaaDoor
