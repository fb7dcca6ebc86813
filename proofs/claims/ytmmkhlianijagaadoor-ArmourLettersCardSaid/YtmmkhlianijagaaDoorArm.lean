/-
  Letters of bytes (armour, as plain mathematics; any program): digits in base 2, regrouped; small letters and 2 to 7; five by five.
-/
import Derived.WalkKit
namespace Go.Arm

/-! ### digits in base 2, the highest first -/
def bitsN (n : Nat) : Nat → List Nat
  | 0 => []
  | m + 1 => bitsN (n / 2) m ++ [n % 2]
def numN (l : List Nat) : Nat := l.foldl (fun n d => 2 * n + d) 0
theorem bitsN_length : ∀ (m n : Nat), (bitsN n m).length = m
  | 0, _ => rfl
  | m + 1, n => by rw [bitsN, List.length_append, bitsN_length m]; rfl
theorem numN_snoc (l : List Nat) (d : Nat) : numN (l ++ [d]) = 2 * numN l + d := by simp [numN]
theorem numN_bitsN : ∀ (m n : Nat), n < 2 ^ m → numN (bitsN n m) = n
  | 0, n, h => by
    have : n = 0 := by simpa using h
    subst this
    rfl
  | m + 1, n, h => by
    rw [bitsN, numN_snoc, numN_bitsN m (n / 2) (by rw [Nat.pow_succ] at h; omega)]
    omega
theorem bitsN_two (m n : Nat) : ∀ d ∈ bitsN n m, d < 2 := by
  induction m generalizing n with
  | zero => simp [bitsN]
  | succ m ih =>
    intro d hd
    rcases List.mem_append.1 hd with h | h
    · exact ih (n / 2) d h
    · have : d = n % 2 := by simpa using h
      omega
theorem snoc_ind {P : List Nat → Prop} (h0 : P []) (h1 : ∀ l d, P l → P (l ++ [d])) (l : List Nat) : P l := by
  have key : ∀ r : List Nat, P r.reverse := fun r => by
    induction r with
    | nil => exact h0
    | cons a t ih => rw [List.reverse_cons]; exact h1 _ _ ih
  have := key l.reverse
  rwa [List.reverse_reverse] at this
theorem numN_lt (l : List Nat) : (∀ d ∈ l, d < 2) → numN l < 2 ^ l.length := by
  refine snoc_ind (P := fun l => (∀ d ∈ l, d < 2) → numN l < 2 ^ l.length) (fun _ => by decide) (fun l d ih h => ?_) l
  have h1 := ih (fun x hx => h x (by simp [hx]))
  have h2 := h d (by simp)
  rw [numN_snoc, List.length_append, List.length_singleton, Nat.pow_succ]
  omega
theorem bitsN_numN (l : List Nat) : (∀ d ∈ l, d < 2) → bitsN (numN l) l.length = l := by
  refine snoc_ind (P := fun l => (∀ d ∈ l, d < 2) → bitsN (numN l) l.length = l) (fun _ => rfl) (fun l d ih h => ?_) l
  have h1 := ih (fun x hx => h x (by simp [hx]))
  have h2 := h d (by simp)
  rw [numN_snoc, List.length_append, List.length_singleton, bitsN, show (2 * numN l + d) / 2 = numN l by omega, show (2 * numN l + d) % 2 = d by omega, h1]

/-! ### all digits of numbers, and the numbers of groups of digits -/
def bitsL (k : Nat) (l : List Nat) : List Nat := l.flatMap fun n => bitsN n k
theorem bitsL_nil (k : Nat) : bitsL k [] = [] := rfl
theorem bitsL_cons (k n : Nat) (l : List Nat) : bitsL k (n :: l) = bitsN n k ++ bitsL k l := rfl
theorem bitsL_append (k : Nat) (l m : List Nat) : bitsL k (l ++ m) = bitsL k l ++ bitsL k m := by simp [bitsL]
theorem bitsL_length (k : Nat) : ∀ l : List Nat, (bitsL k l).length = k * l.length
  | [] => by simp [bitsL]
  | n :: l => by rw [bitsL_cons, List.length_append, bitsN_length, bitsL_length k l, List.length_cons, Nat.mul_succ]; omega
theorem bitsL_two (k : Nat) (l : List Nat) : ∀ d ∈ bitsL k l, d < 2 := by
  intro d hd
  obtain ⟨n, _, h⟩ := List.mem_flatMap.1 hd
  exact bitsN_two k n d h
/-- The numbers of the whole groups of k digits; 'c': how many. -/
def grpL (k : Nat) : Nat → List Nat → List Nat
  | 0, _ => []
  | c + 1, l => numN (l.take k) :: grpL k c (l.drop k)
theorem grpL_length (k : Nat) : ∀ (c : Nat) (l : List Nat), (grpL k c l).length = c
  | 0, _ => rfl
  | c + 1, l => by rw [grpL, List.length_cons, grpL_length k c]
theorem grpL_bitsL (k : Nat) : ∀ (l t : List Nat), (∀ n ∈ l, n < 2 ^ k) → grpL k l.length (bitsL k l ++ t) = l
  | [], _, _ => rfl
  | n :: l, t, h => by
    rw [List.length_cons, grpL, bitsL_cons, List.append_assoc, List.take_left' (bitsN_length k n), List.drop_left' (bitsN_length k n), numN_bitsN k n (h n (by simp)), grpL_bitsL k l t (fun x hx => h x (by simp [hx]))]
theorem bitsL_grpL (k : Nat) : ∀ (c : Nat) (l : List Nat), (∀ d ∈ l, d < 2) → l.length = k * c → bitsL k (grpL k c l) = l
  | 0, l, _, h => by
    obtain rfl : l = [] := List.eq_nil_of_length_eq_zero (by simpa using h)
    rfl
  | c + 1, l, h2, h => by
    have hk : k ≤ l.length := by rw [h, Nat.mul_succ]; omega
    have e := bitsN_numN (l.take k) (fun d hd => h2 d (List.mem_of_mem_take hd))
    rw [List.length_take, Nat.min_eq_left hk] at e
    rw [grpL, bitsL_cons, e, bitsL_grpL k c (l.drop k) (fun d hd => h2 d (List.mem_of_mem_drop hd)) (by rw [List.length_drop, h, Nat.mul_succ]; omega), List.take_append_drop]
theorem grpL_lt (k : Nat) : ∀ (c : Nat) (l : List Nat), (∀ d ∈ l, d < 2) → l.length = k * c → ∀ n ∈ grpL k c l, n < 2 ^ k
  | 0, _, _, _ => by simp [grpL]
  | c + 1, l, h2, h => by
    have hk : k ≤ l.length := by rw [h, Nat.mul_succ]; omega
    intro n hn
    rcases List.mem_cons.1 hn with rfl | hn
    · have := numN_lt (l.take k) (fun d hd => h2 d (List.mem_of_mem_take hd))
      rwa [List.length_take, Nat.min_eq_left hk] at this
    · exact grpL_lt k c (l.drop k) (fun d hd => h2 d (List.mem_of_mem_drop hd)) (by rw [List.length_drop, h, Nat.mul_succ]; omega) n hn

/-! ### the letters' values of bytes -/
def padN (n : Nat) : Nat := (5 - 8 * n % 5) % 5
/-- How many letters n bytes have. -/
def lenN (n : Nat) : Nat := (8 * n + 4) / 5
theorem pad_len (n : Nat) : 8 * n + padN n = 5 * lenN n := by unfold padN lenN; omega
def valL (s : List Nat) : List Nat := grpL 5 (lenN s.length) (bitsL 8 s ++ List.replicate (padN s.length) 0)
theorem all_two (s : List Nat) (p : Nat) : ∀ d ∈ bitsL 8 s ++ List.replicate p 0, d < 2 := by
  intro d hd
  rcases List.mem_append.1 hd with h | h
  · exact bitsL_two 8 s d h
  · have := (List.mem_replicate.1 h).2
    omega
theorem all_len (s : List Nat) : (bitsL 8 s ++ List.replicate (padN s.length) 0).length = 5 * lenN s.length := by
  rw [List.length_append, bitsL_length, List.length_replicate, pad_len]
theorem valL_length (s : List Nat) : (valL s).length = lenN s.length := grpL_length _ _ _
theorem valL_lt (s : List Nat) : ∀ n ∈ valL s, n < 32 := grpL_lt 5 _ _ (all_two s _) (all_len s)
/-- The bytes of letters' values: as many as their digits hold. -/
def bytL (v : List Nat) : List Nat := grpL 8 (5 * v.length / 8) (bitsL 5 v)
theorem bytL_valL (s : List Nat) (h : ∀ n ∈ s, n < 256) : bytL (valL s) = s := by
  unfold bytL
  have e : 5 * (valL s).length / 8 = s.length := by
    rw [valL_length, ← pad_len]
    unfold padN
    omega
  rw [e]
  unfold valL
  rw [bitsL_grpL 5 _ _ (all_two s _) (all_len s)]
  exact grpL_bitsL 8 s _ h
theorem valL_inj {s t : List Nat} (hs : ∀ n ∈ s, n < 256) (ht : ∀ n ∈ t, n < 256) (h : valL s = valL t) : s = t := by rw [← bytL_valL s hs, h, bytL_valL t ht]

/-! ### the letters -/
def letT : List UInt8 := [97, 98, 99, 100, 101, 102, 103, 104, 105, 106, 107, 108, 109, 110, 111, 112, 113, 114, 115, 116, 117, 118, 119, 120, 121, 122, 50, 51, 52, 53, 54, 55]
def letA (n : Nat) : UInt8 := letT.getD n 0
/-- A letter's value; 32: it is none. -/
def valA (c : UInt8) : Nat := letT.findIdx (· == c)
theorem valA_letA : ∀ n, n < 32 → valA (letA n) = n := by decide
theorem letA_valA {c : UInt8} (h : valA c < 32) : letA (valA c) = c := by
  have h2 : letT.findIdx (· == c) < letT.length := h
  have := List.findIdx_getElem (w := h2)
  unfold letA valA
  rw [List.getD, List.getElem?_eq_getElem h2]
  simpa using this
/-- The letters of bytes. -/
def letL (s : List UInt8) : List UInt8 := (valL (s.map UInt8.toNat)).map letA
theorem letL_length (s : List UInt8) : (letL s).length = lenN s.length := by rw [letL, List.length_map, valL_length, List.length_map]
theorem letL_vals (s : List UInt8) : (letL s).map valA = valL (s.map UInt8.toNat) := by
  rw [letL, List.map_map]
  exact (List.map_congr_left fun n hn => valA_letA n (valL_lt _ n hn)).trans (List.map_id _)
theorem toNat_lt (s : List UInt8) : ∀ n ∈ s.map UInt8.toNat, n < 256 := by
  intro n hn
  obtain ⟨c, _, rfl⟩ := List.mem_map.1 hn
  exact UInt8.toNat_lt c
/-- The bytes that letters hold, whether or not these are the bytes' letters. -/
def ofL (w : List UInt8) : List UInt8 := (bytL (w.map valA)).map UInt8.ofNat
theorem ofL_letL (s : List UInt8) : ofL (letL s) = s := by
  unfold ofL
  rw [letL_vals, bytL_valL _ (toNat_lt s), List.map_map]
  exact (List.map_congr_left fun c _ => UInt8.ofNat_toNat).trans (List.map_id _)
theorem letL_inj {s t : List UInt8} (h : letL s = letL t) : s = t := by rw [← ofL_letL s, h, ofL_letL t]
/-- The bytes whose letters are w. -/
def bytesA (w : List UInt8) : Option (List UInt8) := if letL (ofL w) = w then some (ofL w) else none
theorem bytesA_some {w s : List UInt8} : bytesA w = some s ↔ letL s = w := by
  unfold bytesA
  constructor
  · intro h
    split at h
    · rename_i h2
      cases h
      exact h2
    · cases h
  · rintro rfl
    rw [if_pos (by rw [ofL_letL]), ofL_letL]
theorem bytesA_none {w : List UInt8} (h : ∃ c ∈ w, valA c ≥ 32) : bytesA w = none := by
  cases e : bytesA w with
  | none => rfl
  | some s =>
    obtain ⟨c, hc, h2⟩ := h
    rw [← bytesA_some.1 e, letL] at hc
    obtain ⟨n, hn, rfl⟩ := List.mem_map.1 hc
    have := valL_lt _ n hn
    rw [valA_letA n this] at h2
    omega

/-! ### five by five -/
def dashF (i : Nat) : List UInt8 → List UInt8
  | [] => []
  | c :: r => (if 0 < i ∧ i % 5 = 0 then [45, c] else [c]) ++ dashF (i + 1) r
def plainL (w : List UInt8) : List UInt8 := w.filter (· != 45)
theorem plain_dash : ∀ (w : List UInt8) (i : Nat), (∀ c ∈ w, c ≠ 45) → plainL (dashF i w) = w
  | [], _, _ => rfl
  | c :: r, i, h => by
    have hc : (c != 45) = true := by simpa using h c (by simp)
    have ih := plain_dash r (i + 1) (fun x hx => h x (by simp [hx]))
    unfold plainL at ih ⊢
    rw [dashF, List.filter_append, ih]
    split <;> simp [hc]
theorem dash_snoc : ∀ (w : List UInt8) (i : Nat) (c : UInt8), dashF i (w ++ [c]) = dashF i w ++ (if 0 < i + w.length ∧ (i + w.length) % 5 = 0 then [45, c] else [c])
  | [], i, c => by simp [dashF]
  | d :: r, i, c => by
    rw [List.cons_append, dashF, dash_snoc r (i + 1) c, dashF, List.append_assoc, List.length_cons, show i + 1 + r.length = i + (r.length + 1) by omega]
theorem letA_no45 : ∀ n, n < 32 → letA n ≠ 45 := by decide
theorem letL_no45 (s : List UInt8) : ∀ c ∈ letL s, c ≠ 45 := by
  intro c hc
  obtain ⟨n, hn, rfl⟩ := List.mem_map.1 hc
  exact letA_no45 n (valL_lt _ n hn)
section
variable (sum3 : List UInt8 → List UInt8) (h3 : ∀ s, (sum3 s).length = 3)
/-- What is put of bytes, and what is got. -/
def putL (s : List UInt8) : List UInt8 := dashF 0 (letL (s ++ sum3 s))
def getL (w : List UInt8) : Option (List UInt8) :=
  match bytesA (plainL w) with
  | none => none
  | some b => if 3 ≤ b.length ∧ b.length ≤ 203 ∧ putL sum3 (b.take (b.length - 3)) = w then some (b.take (b.length - 3)) else none
theorem plain_put (s : List UInt8) : plainL (putL sum3 s) = letL (s ++ sum3 s) := plain_dash _ _ (letL_no45 _)
include h3
theorem get_put {s : List UInt8} (hs : s.length ≤ 200) : getL sum3 (putL sum3 s) = some s := by
  unfold getL
  rw [plain_put, bytesA_some.2 rfl]
  have hl : (s ++ sum3 s).length = s.length + 3 := by rw [List.length_append, h3]
  have ht : (s ++ sum3 s).take ((s ++ sum3 s).length - 3) = s := by rw [hl, Nat.add_sub_cancel, List.take_left' rfl]
  simp only [ht]
  rw [if_pos ⟨by omega, by omega, by trivial⟩]
omit h3 in
theorem put_get {w v : List UInt8} (h : getL sum3 w = some v) : putL sum3 v = w ∧ v.length ≤ 200 := by
  unfold getL at h
  split at h
  · cases h
  · split at h
    · rename_i b _ hb
      cases h
      exact ⟨hb.2.2, by rw [List.length_take]; omega⟩
    · cases h
theorem put_inj {s t : List UInt8} (h : putL sum3 s = putL sum3 t) : s = t := by
  have e := letL_inj (by rw [← plain_put, ← plain_put, h] : letL (s ++ sum3 s) = letL (t ++ sum3 t))
  have hl := congrArg List.length e
  rw [List.length_append, List.length_append, h3, h3] at hl
  exact List.append_inj_left e (by omega)
end
end Go.Arm
