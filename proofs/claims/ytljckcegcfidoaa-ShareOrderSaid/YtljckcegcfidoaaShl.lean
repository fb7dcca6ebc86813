/-
  Slices of shares that read as a list; polynomials out of texts.
-/
import Derived.Test.YtljckcegcfidoaaShm
import Derived.Test.YtljckcegcfidoaaIntl
import Derived.Test.YtljckcegcfidoaaOwnr
namespace Go.Proofs.Ytljckcegcfidoaa
open Go.RowKit Go.Kx
set_option maxRecDepth 20000

/-- A share: its X, its Bytes. -/
abbrev Sh := Int × ByteArray
def sh0 : Sh := (0, ⟨#[]⟩)
def shC (s : Sh) (r : Nat) : Value := if r = 0 then .int .i64 s.1 else .string s.2
def shV : List Sh → List Value
  | [] => []
  | s :: l => .int .i64 s.1 :: .string s.2 :: shV l
theorem shV_length : ∀ l : List Sh, (shV l).length = l.length * 2
  | [] => rfl
  | s :: l => by simp [shV, shV_length l]; omega
theorem shV_append : ∀ l m : List Sh, shV (l ++ m) = shV l ++ shV m
  | [], _ => rfl
  | s :: l, m => by simp [shV, shV_append l m]
theorem shV_at : ∀ (l : List Sh) (q : Nat), (shV l)[q]? = if q < l.length * 2 then some (shC (l.getD (q / 2) sh0) (q % 2)) else none
  | [], q => by simp [shV]
  | s :: l, 0 => by simp [shV, shC]
  | s :: l, 1 => by simp [shV, shC]; omega
  | s :: l, q + 2 => by
    have h := shV_at l q
    have e1 : (q + 2) / 2 = q / 2 + 1 := by omega
    have e2 : (q + 2) % 2 = q % 2 := by omega
    rw [e1, e2]
    show (shV l)[q]? = _
    rw [h]
    simp only [List.length_cons, List.getD_cons_succ]
    by_cases hq : q < l.length * 2
    · rw [if_pos hq, if_pos (by omega)]
    · rw [if_neg hq, if_neg (by omega)]
theorem shV_x {l : List Sh} {k : Nat} (h : k < l.length) : (shV l)[k * 2]? = some (.int .i64 (l.getD k sh0).1) := by
  rw [shV_at, if_pos (by omega), show k * 2 / 2 = k by omega, show k * 2 % 2 = 0 by omega]
  rfl
theorem shV_b {l : List Sh} {k : Nat} (h : k < l.length) : (shV l)[k * 2 + 1]? = some (.string (l.getD k sh0).2) := by
  rw [shV_at, if_pos (by omega), show (k * 2 + 1) / 2 = k by omega, show (k * 2 + 1) % 2 = 1 by omega]
  rfl
/-- A share's two cells. -/
theorem sl_sh {w : World} {A : Option Addr} {l : List Sh} (h : Sl w A (shV l)) {k : Nat} (hk : k < l.length) :
    ∃ b off, A = some ⟨b, off, none⟩ ∧ w.cell? ⟨b, off + k * 2, none⟩ = some (.int .i64 (l.getD k sh0).1) ∧ w.cell? ⟨b, off + k * 2 + 1, none⟩ = some (.string (l.getD k sh0).2) := by
  rcases h with h | ⟨b, off, rfl, _, hc⟩
  · have := shV_length l
    rw [h] at this
    simp at this
    omega
  · exact ⟨b, off, rfl, hc _ _ (shV_x hk), by rw [Nat.add_assoc]; exact hc _ _ (shV_b hk)⟩
theorem getD_at {l : List Sh} {k : Nat} (h : k < l.length) : l[k]? = some (l.getD k sh0) := by rw [List.getD, List.getElem?_eq_getElem h]; rfl

/-! ### the digits of a byte's polynomial -/
def polI (s : ByteArray) (j k : Nat) : List Int := (List.range k).map fun p => ((gOf s (32 * p + j)).v : Int)
def polG (s : ByteArray) (j k : Nat) : List Gf.G := (List.range k).map fun p => gOf s (32 * p + j)
theorem polI_length (s : ByteArray) (j k : Nat) : (polI s j k).length = k := by simp [polI]
theorem polG_length (s : ByteArray) (j k : Nat) : (polG s j k).length = k := by simp [polG]
theorem gs_polI (s : ByteArray) (j k : Nat) : gs (polI s j k) = polG s j k := by
  unfold gs polI polG
  rw [List.map_map]
  exact List.map_congr_left fun p _ => toG_of _
theorem dig_polI (s : ByteArray) (j k : Nat) : allI dig (polI s j k) = true := by
  unfold allI polI
  rw [List.all_eq_true]
  intro x hx
  obtain ⟨p, _, rfl⟩ := List.mem_map.1 hx
  exact dig_v _
theorem polI_snoc (s : ByteArray) (j k p : Nat) (h : p < k) : intsI ((polI s j k).take p) ++ [Value.int .i64 ((gOf s (32 * p + j)).v : Nat)] = intsI ((polI s j k).take (p + 1)) := by
  rw [intsI_snoc, List.take_add_one]
  congr 2
  simp [polI, h]
theorem gOf_v (s : ByteArray) (n : Nat) (h : n < s.size) : (gOf s n).v = s[n].toNat := by
  show (s.data.toList.getD n 0).toNat = _
  rw [List.getD, List.getElem?_eq_getElem (by simpa using h)]
  rfl
end Go.Proofs.Ytljckcegcfidoaa
