/-
  Sets of intsI kept in a map: how many there are tells whether two are the same (any program).
-/
import Derived.Test.YtljckcegcfidoaaIntl
import Derived.Maps.OwnSet
namespace Go.Proofs.Ytljckcegcfidoaa
open Go.RowKit Go.Kx Go.Maps

/-- No two the same. -/
def apartI : List Int → Bool
  | [] => true
  | a :: r => !r.contains a && apartI r
theorem apartI_nodup : ∀ {l : List Int}, apartI l = true ↔ l.Nodup
  | [] => by simp [apartI]
  | a :: r => by simp [apartI, List.nodup_cons, apartI_nodup (l := r)]
def addI (acc : List Int) (x : Int) : List Int := if acc.contains x then acc else acc ++ [x]
theorem any_int (x : Int) : ∀ l : List Int, (l.map (Lit.int .i64)).any (fun y => y.sameKey (.int .i64 x)) = l.contains x
  | [] => rfl
  | a :: r => by
    rw [List.map_cons, List.any_cons, List.contains_cons, any_int x r]
    congr 1
    show decide (IntKind.i64 = IntKind.i64 ∧ a = x) = (x == a)
    by_cases e : a = x
    · subst e; simp
    · have e' : ¬ x = a := fun h => e h.symm
      simp [e, e']
theorem addKey_int (acc : List Int) (x : Int) : addKey (acc.map (Lit.int .i64)) (.int .i64 x) = (addI acc x).map (Lit.int .i64) := by
  unfold addKey addI
  rw [any_int]
  split <;> simp
theorem foldA_int : ∀ (xs acc : List Int), (xs.map (Lit.int .i64)).foldl addKey (acc.map (Lit.int .i64)) = (xs.foldl addI acc).map (Lit.int .i64)
  | [], _ => rfl
  | x :: xs, acc => by rw [List.map_cons, List.foldl_cons, List.foldl_cons, addKey_int, foldA_int xs]
theorem foldA_le : ∀ (xs acc : List Int), (xs.foldl addI acc).length ≤ acc.length + xs.length
  | [], _ => by simp
  | x :: xs, acc => by
    have := foldA_le xs (addI acc x)
    have h2 : (addI acc x).length ≤ acc.length + 1 := by unfold addI; split <;> simp
    simp only [List.foldl_cons, List.length_cons]
    omega
theorem foldA_all : ∀ (xs acc : List Int), (xs.foldl addI acc).length = acc.length + xs.length ↔ (xs.Nodup ∧ ∀ x ∈ xs, x ∉ acc)
  | [], _ => by simp
  | x :: xs, acc => by
    simp only [List.foldl_cons, List.length_cons, List.nodup_cons, List.mem_cons, forall_eq_or_imp]
    by_cases h : x ∈ acc
    · have e : addI acc x = acc := by rw [addI, if_pos (by simpa using h)]
      have := foldA_le xs acc
      rw [e]
      constructor
      · omega
      · rintro ⟨_, h2, _⟩; exact absurd h h2
    · have e : addI acc x = acc ++ [x] := by rw [addI, if_neg (by simpa using h)]
      have ih := foldA_all xs (acc ++ [x])
      rw [e]
      have e2 : (acc ++ [x]).length = acc.length + 1 := by simp
      rw [show acc.length + (xs.length + 1) = (acc ++ [x]).length + xs.length by omega, ih]
      constructor
      · rintro ⟨h1, h2⟩
        refine ⟨⟨fun hx => (h2 x hx) (by simp), h1⟩, h, fun y hy hc => h2 y hy (by simp [hc])⟩
      · rintro ⟨⟨h1, h2⟩, _, h3⟩
        refine ⟨h2, fun y hy hc => ?_⟩
        rcases List.mem_append.1 hc with hc | hc
        · exact h3 y hy hc
        · rw [List.mem_singleton] at hc
          subst hc
          exact h1 hy
def setI {H : Type} (l : List Int) (k : Nat) : DataW H := setOf (.agg []) ((l.take k).map (Lit.int .i64))
theorem setI_zero {H : Type} (l : List Int) : setI (H := H) l 0 = .map [] := by simp [setI, setOf]
theorem setI_succ {H : Type} (l : List Int) (k : Nat) (hk : k < l.length) : setI (H := H) l (k + 1) = (setI l k).put (.int .i64 (l.getD k 0)) (.agg []) := by
  unfold setI
  have e : (l.take (k + 1)).map (Lit.int .i64) = (l.take k).map (Lit.int .i64) ++ [.int .i64 (l.getD k 0)] := by
    rw [List.take_add_one, List.map_append]
    simp [List.getD, List.getElem?_eq_getElem hk]
  rw [e, setOf_snoc]
theorem setI_size {H : Type} (l : List Int) : Maps.size (setI (H := H) l l.length) = (l.foldl addI []).length := by
  unfold setI
  rw [List.take_length, size_setOf _ _ (fun x hx => by obtain ⟨_, _, rfl⟩ := List.mem_map.1 hx; trivial)]
  have := foldA_int l []
  rw [List.map_nil] at this
  rw [this, List.length_map]
theorem setI_less {H : Type} (l : List Int) : decide (Maps.size (setI (H := H) l l.length) < l.length) = !apartI l := by
  rw [setI_size]
  have h1 := foldA_le l []
  have h2 := foldA_all l []
  simp only [List.length_nil, Nat.zero_add, List.not_mem_nil, not_false_eq_true, implies_true, and_true] at h1 h2
  cases h : apartI l with
  | true =>
    have := h2.2 (apartI_nodup.1 h)
    simp; omega
  | false =>
    have h3 : ¬ l.Nodup := fun hn => by rw [apartI_nodup.2 hn] at h; cases h
    have : (l.foldl addI []).length ≠ l.length := fun he => h3 (h2.1 he)
    simp; omega
theorem run_makeMap_int {P : Program} {t k e : TypeId} (ht : P.underlying t = some (.map k e)) (n : Int) (w : World) : (Instr.makeMap t (some (.int .i64 n))).run P w = .ok (.map (some w.heap.size)) (w.alloc (.map #[] 0)) := by
  simp [Instr.makeMap, run_underlying ht, asInt, asIntOf, go_sem]
end Go.Proofs.Ytljckcegcfidoaa
