/-
  Letters five by five, joined by '-', and without '-' (any program).
-/
import Derived.Test.YtmmkhlianijagaaDoorArm
import Derived.Lib.Join
import Derived.Lib.SplitLaws
import Derived.Lib.IndexBytes
import Derived.Lib.Replace
namespace Go.Arm

def partC (l : List UInt8) (i : Nat) : List UInt8 := (l.drop (5 * i)).take 5
def partsC (l : List UInt8) (n : Nat) : List (List UInt8) := (List.range n).map (partC l)
theorem partsC_cons (l : List UInt8) (n : Nat) : partsC l (n + 1) = l.take 5 :: partsC (l.drop 5) n := by
  unfold partsC
  rw [List.range_succ_eq_map, List.map_cons, List.map_map]
  congr 1
  refine List.map_congr_left fun i _ => ?_
  simp only [Function.comp, partC, List.drop_drop]
  congr 2
  omega
theorem dash_append : ∀ (x y : List UInt8) (i : Nat), dashF i (x ++ y) = dashF i x ++ dashF (i + x.length) y
  | [], y, i => by simp [dashF]
  | c :: x, y, i => by
    rw [List.cons_append, dashF, dash_append x y (i + 1), dashF, List.append_assoc, List.length_cons, show i + 1 + x.length = i + (x.length + 1) by omega]
theorem dash_keep : ∀ (x : List UInt8) (i : Nat), (∀ t, t < x.length → ¬ (0 < i + t ∧ (i + t) % 5 = 0)) → dashF i x = x
  | [], _, _ => rfl
  | c :: x, i, h => by
    rw [dashF, if_neg (by have := h 0 (by simp); simpa using this), dash_keep x (i + 1) (fun t ht => by have := h (t + 1) (by simp; omega); rwa [show i + (t + 1) = i + 1 + t by omega] at this)]
    rfl
theorem dash_part (q : Nat) (x : List UInt8) (hx : x.length ≤ 5) (h0 : x ≠ []) : dashF (5 * q) x = (if 0 < q then [45] else []) ++ x := by
  cases x with
  | nil => exact absurd rfl h0
  | cons c x =>
    rw [dashF, dash_keep x (5 * q + 1) (fun t ht => by simp at hx; omega)]
    by_cases hq : 0 < q
    · rw [if_pos ⟨by omega, by omega⟩, if_pos hq]; rfl
    · rw [if_neg (by omega), if_neg hq]; rfl
theorem dash_split (q : Nat) (l : List UInt8) (h0 : l ≠ []) : dashF (5 * q) l = (if 0 < q then [45] else []) ++ l.take 5 ++ dashF (5 * (q + 1)) (l.drop 5) := by
  conv => lhs; rw [← List.take_append_drop 5 l]
  have hne : l.take 5 ≠ [] := by cases l with | nil => exact absurd rfl h0 | cons c l => simp
  rw [dash_append, dash_part q _ (by rw [List.length_take]; omega) hne]
  congr 1
  by_cases h5 : 5 ≤ l.length
  · rw [List.length_take, Nat.min_eq_left h5, show 5 * q + 5 = 5 * (q + 1) by omega]
  · rw [List.drop_eq_nil_of_le (by omega)]
    rfl
theorem dash_tail : ∀ (n : Nat) (l : List UInt8) (q : Nat), n = (l.length + 4) / 5 → 0 < q → dashF (5 * q) l = Lib.joinTail [45] (partsC l n)
  | 0, l, q, h, _ => by
    have : l = [] := List.eq_nil_of_length_eq_zero (by omega)
    subst this
    rfl
  | n + 1, l, q, h, hq => by
    have h0 : l ≠ [] := by rintro rfl; simp at h
    rw [dash_split q l h0, partsC_cons, if_pos hq, dash_tail n (l.drop 5) (q + 1) (by rw [List.length_drop]; omega) (by omega)]
    simp [Lib.joinTail]
/-- What is joined are the letters five by five. -/
theorem join_parts (l : List UInt8) : Lib.join (partsC l ((l.length + 4) / 5)) [45] = dashF 0 l := by
  generalize hn : (l.length + 4) / 5 = n
  cases n with
  | zero =>
    have : l = [] := List.eq_nil_of_length_eq_zero (by omega)
    subst this
    rfl
  | succ n =>
    have h0 : l ≠ [] := by rintro rfl; simp at hn
    have e := dash_split 0 l h0
    rw [Nat.mul_zero, if_neg (by omega)] at e
    rw [e, partsC_cons, Lib.join_cons, dash_tail n (l.drop 5) (0 + 1) (by rw [List.length_drop]; omega) (by omega)]
    rfl
theorem index_dash (a : UInt8) (r : List UInt8) : Lib.index (a :: r) [45] = if a == 45 then 0 else if Lib.index r [45] == -1 then -1 else Lib.index r [45] + 1 := by
  rw [Lib.index_one, Lib.index_one, Lib.indexByte]
theorem replaceK_plain : ∀ (l : List UInt8), Lib.replaceK [45] [] (l.count 45) l = plainL l
  | [] => rfl
  | a :: r => by
    have ih := replaceK_plain r
    unfold plainL at ih ⊢
    by_cases ha : a = 45
    · subst ha
      rw [List.count_cons_self, Lib.replaceK_hit [45] [] _ _ 0 (by rw [index_dash]; rfl)]
      simpa using ih
    · have hb : (a == 45) = false := by simpa using ha
      rw [List.count_cons_of_ne ha, List.filter_cons_of_pos (by simpa using ha)]
      cases hk : r.count 45 with
      | zero =>
        rw [hk] at ih
        have ih2 : r = r.filter (· != 45) := ih
        rw [← ih2]
        rfl
      | succ k =>
        rw [hk] at ih
        have hge := Lib.index_ge r [45]
        have hn1 : Lib.index r [45] ≠ -1 := by
          intro e
          have := Lib.count_one 45 r
          rw [Lib.count_miss e, hk] at this
          omega
        obtain ⟨i, hi⟩ : ∃ i : Nat, Lib.index r [45] = i := ⟨(Lib.index r [45]).toNat, by omega⟩
        rw [Lib.replaceK_hit [45] [] k r i hi] at ih
        have hm : ((i : Int) == -1) = false := by simp
        rw [Lib.replaceK_hit [45] [] k (a :: r) (i + 1) (by rw [index_dash, hb, hi, hm]; simp), ← ih]
        simp
theorem replace_plain (l : List UInt8) : Lib.replaceAll l [45] [] = plainL l := by
  have h : ([45] == ([] : List UInt8)) = false := rfl
  unfold Lib.replaceAll Lib.replace Lib.replaceNum
  rw [h, if_neg (by simp), if_pos (by omega), Lib.count_one, replaceK_plain]
end Go.Arm
