/-
  Which letters are some bytes' letters (any program).
-/
import Derived.Test.YtmmkhlianijagaaDoorArmr
import Derived.Lib.IndexBytes
namespace Go.Arm

theorem zeros_of_num : ∀ {l : List Nat}, (∀ d ∈ l, d < 2) → numN l = 0 → l = List.replicate l.length 0 := by
  intro l
  refine snoc_ind (P := fun l => (∀ d ∈ l, d < 2) → numN l = 0 → l = List.replicate l.length 0) (fun _ _ => rfl) (fun l d ih h2 h0 => ?_) l
  rw [numN_snoc] at h0
  have e := ih (fun x hx => h2 x (by simp [hx])) (by omega)
  have hd : d = 0 := by omega
  subst hd
  rw [List.length_append, List.length_singleton, List.replicate_succ', ← e]
theorem num_zeros : ∀ p, numN (List.replicate p 0) = 0
  | 0 => rfl
  | p + 1 => by rw [List.replicate_succ', numN_snoc, num_zeros p]
def valsW (w : List UInt8) : List Nat := w.map valA
/-- How many whole bytes the digits of n letters hold. -/
def whole (w : List UInt8) : Nat := 5 * w.length / 8
theorem bytL_out (w : List UInt8) : bytL (valsW w) = outN 8 (whole w) (bitsL 5 (valsW w)) := by
  unfold bytL outN whole valsW
  rw [List.length_map]
theorem bits5_len (w : List UInt8) : (bitsL 5 (valsW w)).length = 5 * w.length := by rw [bitsL_length, valsW, List.length_map]
theorem whole_le (w : List UInt8) : 8 * whole w ≤ (bitsL 5 (valsW w)).length := by rw [bits5_len]; unfold whole; omega
theorem bits_bytL (w : List UInt8) : bitsL 8 (bytL (valsW w)) = (bitsL 5 (valsW w)).take (8 * whole w) := by
  have hl := whole_le w
  have e : grpL 8 (whole w) (bitsL 5 (valsW w)) = grpL 8 (whole w) ((bitsL 5 (valsW w)).take (8 * whole w)) := by
    have h := grpL_append 8 (whole w) ((bitsL 5 (valsW w)).take (8 * whole w)) ((bitsL 5 (valsW w)).drop (8 * whole w)) (by rw [List.length_take]; omega)
    rw [List.take_append_drop] at h
    exact h
  rw [bytL_out, outN, e]
  exact bitsL_grpL 8 _ _ (fun d hd => bitsL_two 5 _ d (List.mem_of_mem_take hd)) (by rw [List.length_take]; omega)
theorem bytL_length (w : List UInt8) : (bytL (valsW w)).length = whole w := by rw [bytL_out, outN_length]
theorem bytL_lt (w : List UInt8) : ∀ n ∈ bytL (valsW w), n < 256 := by
  have hl := whole_le w
  have e : grpL 8 (whole w) (bitsL 5 (valsW w)) = grpL 8 (whole w) ((bitsL 5 (valsW w)).take (8 * whole w)) := by
    have h := grpL_append 8 (whole w) ((bitsL 5 (valsW w)).take (8 * whole w)) ((bitsL 5 (valsW w)).drop (8 * whole w)) (by rw [List.length_take]; omega)
    rw [List.take_append_drop] at h
    exact h
  rw [bytL_out, outN, e]
  exact grpL_lt 8 _ _ (fun d hd => bitsL_two 5 _ d (List.mem_of_mem_take hd)) (by rw [List.length_take]; omega)
theorem ofL_nats (w : List UInt8) : (ofL w).map UInt8.toNat = bytL (valsW w) := by
  unfold ofL
  rw [List.map_map]
  refine (List.map_congr_left fun n hn => ?_).trans (List.map_id _)
  have := bytL_lt w n hn
  simp only [Function.comp]
  rw [UInt8.toNat_ofNat']
  exact Nat.mod_eq_of_lt this
theorem ofL_length (w : List UInt8) : (ofL w).length = whole w := by
  have := congrArg List.length (ofL_nats w)
  rwa [List.length_map, bytL_length] at this
theorem map_letA {w : List UInt8} (hw : ∀ c ∈ w, valA c < 32) : (valsW w).map letA = w := by
  unfold valsW
  rw [List.map_map]
  exact (List.map_congr_left fun c hc => letA_valA (hw c hc)).trans (List.map_id _)
theorem vals_lt {w : List UInt8} (hw : ∀ c ∈ w, valA c < 32) : ∀ n ∈ valsW w, n < 2 ^ 5 := by
  intro n hn
  obtain ⟨c, hc, rfl⟩ := List.mem_map.1 hn
  exact hw c hc
/-- Letters are some bytes' just if fewer than five digits are left over, and these are 0. -/
theorem bytes_yes {w : List UInt8} (hw : ∀ c ∈ w, valA c < 32) (hc : cntH 8 (whole w) (bitsL 5 (valsW w)) < 5) (hm : numH 8 (whole w) (bitsL 5 (valsW w)) = 0) : bytesA w = some (ofL w) := by
  have hl := whole_le w
  have hlen := bits5_len w
  unfold bytesA
  rw [if_pos ?_]
  have hz := zeros_of_num (fun d hd => bitsL_two 5 (valsW w) d (List.mem_of_mem_drop hd)) hm
  rw [List.length_drop] at hz
  unfold cntH at hc
  have hp : padN (whole w) = (bitsL 5 (valsW w)).length - 8 * whole w := by unfold padN; rw [hlen] at hc ⊢; omega
  have hn : lenN (whole w) = w.length := by unfold lenN; rw [hlen] at hc; omega
  unfold letL
  rw [ofL_nats]
  unfold valL
  rw [bytL_length, hp, hn, bits_bytL, ← hz, List.take_append_drop]
  have := grpL_bitsL 5 (valsW w) [] (vals_lt hw)
  rw [List.append_nil, show (valsW w).length = w.length by simp [valsW]] at this
  rw [this, map_letA hw]
theorem bytes_yes' {w : List UInt8} (h : bytesA w = some (ofL w)) : cntH 8 (whole w) (bitsL 5 (valsW w)) < 5 ∧ numH 8 (whole w) (bitsL 5 (valsW w)) = 0 := by
  have e := bytesA_some.1 h
  have hl := congrArg List.length e
  rw [letL_length, ofL_length] at hl
  have hlen := bits5_len w
  have hc : cntH 8 (whole w) (bitsL 5 (valsW w)) = padN (whole w) := by
    unfold cntH
    rw [hlen]
    have := pad_len (whole w)
    omega
  refine ⟨by rw [hc]; unfold padN; omega, ?_⟩
  have hv : valsW w = valL ((ofL w).map UInt8.toNat) := by
    have := letL_vals (ofL w)
    rwa [e] at this
  have hB : bitsL 5 (valsW w) = bitsL 8 (bytL (valsW w)) ++ List.replicate (padN (whole w)) 0 := by
    rw [hv]
    conv => lhs; unfold valL
    rw [bitsL_grpL 5 _ _ (all_two _ _) (all_len _), ← hv, ofL_nats, bytL_length]
  unfold numH
  rw [hB, List.drop_left' (by rw [bitsL_length, bytL_length]), num_zeros]
theorem bytes_no {w : List UInt8} (h : ¬ (cntH 8 (whole w) (bitsL 5 (valsW w)) < 5 ∧ numH 8 (whole w) (bitsL 5 (valsW w)) = 0)) : bytesA w = none := by
  cases e : bytesA w with
  | none => rfl
  | some s =>
    have hs : s = ofL w := by
      unfold bytesA at e
      split at e
      · cases e; rfl
      · cases e
    subst hs
    exact absurd (bytes_yes' e) h
/-- What a call of Bytes answers. -/
def bytR (w : List UInt8) : List UInt8 × Int :=
  match bytesA w with
  | some b => (b, 0)
  | none => ([], 100)
theorem index_find (c : UInt8) : ∀ l : List UInt8, Lib.indexByte l c = if l.findIdx (· == c) < l.length then (l.findIdx (· == c) : Int) else -1 := by
  intro l
  induction l with
  | nil => rfl
  | cons a r ih =>
    rw [Lib.indexByte, List.findIdx_cons, List.length_cons, ih]
    generalize List.findIdx (fun x => x == c) r = i at *
    cases hac : a == c with
    | true => simp
    | false =>
      by_cases h : i < r.length
      · have h1 : ((i : Int) == -1) = false := by simp
        simp [h, h1]
      · simp [h]
theorem index_alpha (c : UInt8) : Lib.indexByte letT c = if valA c < 32 then (valA c : Int) else -1 := index_find c letT
end Go.Arm
