/-
  share: another secret's tape, as plain mathematics.
-/
import Derived.Test.YtljckcegcfidoaaTap2
namespace Go.Proofs.Ytljckcegcfidoaa
open Go.RowKit Go.Kx

/-! ### polynomials of just so many digits -/
def padG (l : List Gf.G) (n : Nat) : List Gf.G := (List.range n).map fun d => l.getD d 0
theorem padG_length (l : List Gf.G) (n : Nat) : (padG l n).length = n := by simp [padG]
theorem padG_at (l : List Gf.G) {n d : Nat} (h : d < n) : (padG l n).getD d 0 = l.getD d 0 := by simp [padG, List.getD, h]
theorem padG_succ (c : Gf.G) (r : List Gf.G) (n : Nat) : padG (c :: r) (n + 1) = c :: padG r n := by
  unfold padG
  rw [List.range_succ_eq_map, List.map_cons, List.map_map]
  rfl
theorem padG_nil (n : Nat) : padG [] (n + 1) = 0 :: padG [] n := by
  unfold padG
  rw [List.range_succ_eq_map, List.map_cons, List.map_map]
  rfl
theorem ev_padG (x : Gf.G) : ∀ (n : Nat) (l : List Gf.G), l.length ≤ n → Gf.ev (padG l n) x = Gf.ev l x
  | 0, l, h => by
    obtain rfl : l = [] := List.eq_nil_of_length_eq_zero (by omega)
    rfl
  | n + 1, [], _ => by
    rw [padG_nil]
    show 0 + x * Gf.ev (padG [] n) x = 0
    rw [ev_padG x n [] (by simp)]
    show 0 + x * 0 = 0
    rw [Gf.G.mul_zero, Gf.G.add_zero]
  | n + 1, c :: r, h => by
    rw [padG_succ, Gf.ev, Gf.ev, ev_padG x n r (by simpa using h)]
theorem thru_some {s : ByteArray} {l : List Sh} (hr : rightB l = true) (hz : zeroB l = false) : ∃ Q, Thru Q s l := by
  obtain ⟨_, _, h3, h4⟩ := rightB_of hr
  have hn := gs_nodup (allSh_digs h3) h4
  have key : ∀ j, ∃ P : List Gf.G, P.length ≤ l.length + 1 ∧ Gf.ev P 0 = gOf s j ∧ ∀ i, i < l.length → Gf.ev P (toG (l.getD i sh0).1) = gOf (l.getD i sh0).2 j := fun j => by
    have e : ((0, gOf s j) :: l.map fun s => (toG s.1, gOf s.2 j)).map Prod.fst = 0 :: gs (xsL l) := by
      unfold gs xsL
      rw [List.map_cons, List.map_map, List.map_map]
      rfl
    have hn2 : ((0, gOf s j) :: l.map fun s => (toG s.1, gOf s.2 j)).map Prod.fst |>.Nodup := by
      rw [e, List.nodup_cons]
      refine ⟨fun hm => ?_, hn⟩
      obtain ⟨x, hx, hx0⟩ := List.mem_map.1 hm
      obtain ⟨t, ht, rfl⟩ := List.mem_map.1 hx
      have hd := (okSh_of (List.all_eq_true.1 h3 t ht)).1
      have h0 : t.1 ≠ 0 := fun e0 => by
        have := List.any_eq_false.1 hz t ht
        simp [e0] at this
      exact toG_ne hd h0 hx0
    refine ⟨Gf.thrL [] ((0, gOf s j) :: l.map fun s => (toG s.1, gOf s.2 j)), Gf.thrL_length _ _ _ (by simp), ?_, fun i hi => ?_⟩
    · rw [Gf.ev_thrL]
      exact Gf.thr_at _ [] (by rw [List.nil_append]; exact hn2) (by simp)
    · rw [Gf.ev_thrL]
      exact Gf.thr_at _ [] (by rw [List.nil_append]; exact hn2) (List.mem_cons_of_mem _ (List.mem_map.2 ⟨_, mem_at hi, rfl⟩))
  refine ⟨fun j => padG (Classical.choose (key j)) (l.length + 1), fun j => padG_length _ _, fun j _ => ?_, fun i hi j _ => ?_⟩
  · obtain ⟨h1, h2, _⟩ := Classical.choose_spec (key j)
    show (padG _ _).getD 0 0 = _
    rw [padG_at _ (by omega), ← ev_zero, h2]
  · obtain ⟨h1, _, h2⟩ := Classical.choose_spec (key j)
    rw [ev_padG _ _ _ h1, h2 i hi]
theorem Thru.on {Q : Nat → List Gf.G} {s : ByteArray} {l : List Sh} (h : Thru Q s l) (hr : rightB l = true) : ∀ t ∈ l, OnQ Q t := fun t ht => by
  obtain ⟨k, hk, rfl⟩ := List.getElem_of_mem ht
  have hd : l.getD k sh0 = l[k] := by rw [List.getD, List.getElem?_eq_getElem hk]; rfl
  have hsz := (okSh_of (List.all_eq_true.1 (rightB_of hr).2.2.1 _ ht)).2
  have h3 := h.2.2 k hk
  rw [hd] at h3
  show l[k].2 = _
  conv => lhs; rw [← txt_gOf hsz]
  exact txt_congr fun j hj => h3 j hj

/-! ### the tape's bytes -/
theorem tapL_at (Q : Nat → List Gf.G) : ∀ (m q j : Nat), q < m → j < 32 → (tapL Q m)[32 * q + j]? = some (UInt8.ofNat (digD Q (q + 1) j).v)
  | 0, _, _, h, _ => by omega
  | m + 1, q, j, h, hj => by
    rw [tapL]
    by_cases hq : q < m
    · rw [List.getElem?_append_left (by rw [tapL_length]; omega), tapL_at Q m q j hq hj]
    · obtain rfl : q = m := by omega
      rw [List.getElem?_append_right (by rw [tapL_length]; omega), tapL_length, show 32 * q + j - 32 * q = j by omega, txtL_at _ hj]
theorem gOf_tap (Q : Nat → List Gf.G) {m q j : Nat} (h : q < m) (hj : j < 32) : gOf ⟨(tapL Q m).toArray⟩ (32 * q + j) = digD Q (q + 1) j := by
  apply Gf.G.ext'
  show ((tapL Q m).getD (32 * q + j) 0).toNat = _
  rw [List.getD, tapL_at Q m q j h hj]
  have := (digD Q (q + 1) j).lt
  simp
  omega
theorem gOf_right' {s t : ByteArray} {q : Nat} : gOf (s ++ t) (s.size + q) = gOf t q := by
  have e1 : s.data.toList.length = s.size := by simp
  unfold gOf
  apply Gf.G.ext'
  simp only [ByteArray.data_append, Array.toList_append, List.getD]
  rw [List.getElem?_append_right (by omega)]
  congr 3
  omega
/-- The polynomials of a secret and the tape that Tape tells are those that go through. -/
theorem polQ_tap {Q : Nat → List Gf.G} {s : ByteArray} {l : List Sh} (hs : s.size = 32) (h : Thru Q s l) {j : Nat} (hj : j < 32) : polQ (s ++ ⟨(tapL Q l.length).toArray⟩) (l.length + 1) j = Q j := by
  apply List.ext_getElem?
  intro p
  by_cases hp : p < l.length + 1
  · have e1 : (polQ (s ++ ⟨(tapL Q l.length).toArray⟩) (l.length + 1) j)[p]? = some (gOf (s ++ ⟨(tapL Q l.length).toArray⟩) (32 * p + j)) := by
      unfold polQ polG
      rw [List.getElem?_map, List.getElem?_range hp]
      rfl
    have e2 : (Q j)[p]? = some ((Q j).getD p 0) := by
      rw [List.getD, List.getElem?_eq_getElem (by rw [h.1]; exact hp)]
      rfl
    rw [e1, e2]
    congr 1
    cases p with
    | zero =>
      rw [show 32 * 0 + j = j by omega, gOf_left' (by omega)]
      exact (h.2.1 j hj).symm
    | succ q =>
      rw [show 32 * (q + 1) + j = s.size + (32 * q + j) by omega, gOf_right', gOf_tap Q (by omega) hj]
      rfl
  · rw [List.getElem?_eq_none (by rw [polQ, polG_length]; omega), List.getElem?_eq_none (by rw [h.1]; omega)]
/-- The polynomials of a secret and its tape tell that tape. -/
theorem tap_polQ {s t : ByteArray} {m : Nat} (hs : s.size = 32) (ht : t.size = 32 * m) : (⟨(tapL (polQ (s ++ t) (m + 1)) m).toArray⟩ : ByteArray) = t := by
  obtain ⟨⟨l⟩⟩ := t
  have hl : l.length = 32 * m := ht
  congr 2
  apply List.ext_getElem?
  intro r
  by_cases hr : r < 32 * m
  · have e : r = 32 * (r / 32) + r % 32 := by omega
    have hq : r / 32 < m := by omega
    have hj : r % 32 < 32 := by omega
    rw [e, tapL_at _ m _ _ hq hj]
    have e2 : digD (polQ (s ++ ⟨⟨l⟩⟩) (m + 1)) (r / 32 + 1) (r % 32) = gOf ⟨⟨l⟩⟩ (32 * (r / 32) + r % 32) := by
      unfold digD polQ polG
      rw [List.getD, List.getElem?_map, List.getElem?_range (by omega)]
      show gOf (s ++ ⟨⟨l⟩⟩) (32 * (r / 32 + 1) + r % 32) = _
      rw [show 32 * (r / 32 + 1) + r % 32 = s.size + (32 * (r / 32) + r % 32) by omega, gOf_right']
    rw [e2, ← e]
    show some (UInt8.ofNat (l.getD r 0).toNat) = l[r]?
    rw [List.getD, List.getElem?_eq_getElem (by omega)]
    simp
  · rw [List.getElem?_eq_none (by rw [tapL_length]; omega), List.getElem?_eq_none (by omega)]
theorem thru_polQ {s t : ByteArray} {k n : Nat} {c : List Sh} (hs : s.size = 32) (hsub : c.Sublist (splL (s ++ t) n k)) (hk : k = c.length + 1) : Thru (polQ (s ++ t) k) s c := by
  refine ⟨fun j => by rw [polQ, polG_length, hk], fun j hj => ?_, fun i hi j hj => ?_⟩
  · have := polQ_zero (s := s) (t := t) (k := k) (j := j) (by omega) hs hj
    rw [show toG (0 : Int) = 0 from rfl, ev_zero] at this
    exact this
  · exact (splL_mem (hsub.subset (mem_at hi))).2.at_ hj

/-! ### the same are chosen -/
theorem chL_mem : ∀ (l : List Sh) (m : List Bool) (i : Nat), i < l.length → m.getD i false = true → l.getD i sh0 ∈ chL l m
  | [], _, _, h, _ => by simp at h
  | s :: l, [], _, _, h => by simp at h
  | s :: l, b :: m, 0, _, h => by
    have : b = true := by simpa using h
    simp [chL, this]
  | s :: l, b :: m, i + 1, h, h2 => by
    have ih := chL_mem l m i (by simpa using h) (by simpa using h2)
    rw [chL]
    split
    · exact List.mem_cons_of_mem _ (by simpa using ih)
    · simpa using ih
theorem chL_same : ∀ (l l2 : List Sh) (m : List Bool), l2.length = l.length → (∀ i, i < l.length → m.getD i false = true → l2.getD i sh0 = l.getD i sh0) → chL l2 m = chL l m
  | [], [], _, _, _ => rfl
  | [], _ :: _, _, h, _ => by simp at h
  | _ :: _, [], _, h, _ => by simp at h
  | s :: l, s2 :: l2, [], _, _ => rfl
  | s :: l, s2 :: l2, b :: m, h, he => by
    have ih := chL_same l l2 m (by simpa using h) (fun i hi hm => by simpa using he (i + 1) (by simpa using hi) (by simpa using hm))
    rw [chL, chL, ih]
    by_cases hb : b = true
    · have := he 0 (by simp) (by simpa using hb)
      have : s2 = s := by simpa using this
      rw [this]
    · rw [if_neg hb, if_neg hb]
theorem hides {s o t : ByteArray} {n k : Nat} {m : List Bool} {Q : Nat → List Gf.G} (ho : o.size = 32) (hn : n ≤ 255) (hc : 1 ≤ (chL (splL (s ++ t) n k) m).length) (hk : k = (chL (splL (s ++ t) n k) m).length + 1) (hQ : Thru Q o (chL (splL (s ++ t) n k) m)) :
    chL (splL (o ++ ⟨(tapL Q (chL (splL (s ++ t) n k) m).length).toArray⟩) n k) m = chL (splL (s ++ t) n k) m := by
  have hsub := chL_sub (splL (s ++ t) n k) m
  have hon := hQ.on (sub_right hn hsub hc)
  have hp := fun j (hj : j < 32) => polQ_tap ho hQ (j := j) hj
  rw [← hk] at hp
  refine chL_same _ _ m (by rw [splL_length, splL_length]) (fun i hi hm => ?_)
  have hmem := chL_mem _ m i hi hm
  have h1 := hon _ hmem
  rw [splL_length] at hi
  rw [splL_at _ _ _ _ hi] at h1 ⊢
  rw [splL_at _ _ _ _ hi]
  have h2 : txt (shY (s ++ t) k i) = txt fun j => Gf.ev (Q j) (toG ((i : Int) + 1)) := h1
  rw [h2]
  refine congrArg (Prod.mk _) (txt_congr fun j hj => ?_)
  rw [← hp j hj]
  rfl
end Go.Proofs.Ytljckcegcfidoaa
