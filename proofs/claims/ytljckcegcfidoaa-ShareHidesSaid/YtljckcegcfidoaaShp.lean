/-
  share: what At tells of shares that lie on polynomials, as plain mathematics.
-/
import Derived.Test.YtljckcegcfidoaaShr7
namespace Go.Proofs.Ytljckcegcfidoaa
open Go.RowKit Go.Kx

/-- A share lies on the polynomials Q, one for each byte. -/
def OnQ (Q : Nat → List Gf.G) (s : Sh) : Prop := s.2 = txt fun j => Gf.ev (Q j) (toG s.1)
theorem OnQ.at_ {Q : Nat → List Gf.G} {s : Sh} (h : OnQ Q s) {j : Nat} (hj : j < 32) : gOf s.2 j = Gf.ev (Q j) (toG s.1) := by rw [h, gOf_txt _ hj]
theorem acc_eq {xs : List Int} {x : Int} {F : Nat → Nat → Gf.G} {j : Nat} (v : Gf.G → Gf.G) (h : ∀ i, i < xs.length → F i j = v (toG (xs.getD i 0))) :
    accR (wgtsI xs x) F xs.length j = Gf.thr [] ((gs xs).map fun a => (a, v a)) (toG x) := by
  rw [thr_sum, List.length_map, gs_length]
  unfold accR
  congr 1
  refine List.map_congr_left fun i hi => ?_
  have hil : i < xs.length := List.mem_range.1 hi
  have e : ((gs xs).map fun a => (a, v a)).getD i (0, 0) = (toG (xs.getD i 0), v (toG (xs.getD i 0))) := by
    rw [List.getD, List.getElem?_map, gs_at hil]
    rfl
  have e2 : ((gs xs).map fun a => (a, v a)).map Prod.fst = gs xs := by rw [List.map_map]; simp [Function.comp_def]
  rw [e, e2, wgtsI_at hil, toG_of, h i hil]
  unfold wgtI
  simp only [List.nil_append, List.length_nil, Nat.zero_add]
  exact Gf.G.mul_comm _ _
theorem mem_at {l : List Sh} {k : Nat} (h : k < l.length) : l.getD k sh0 ∈ l := by
  rw [List.getD, List.getElem?_eq_getElem h]
  exact List.getElem_mem h
/-- Shares on polynomials of no more digits than there are shares tell these polynomials. -/
theorem atT_on {l : List Sh} {Q : Nat → List Gf.G} (hr : rightB l = true) (ho : ∀ s ∈ l, OnQ Q s) (hQ : ∀ j, (Q j).length ≤ l.length) (x : Int) : atT l x = txt fun j => Gf.ev (Q j) (toG x) := by
  obtain ⟨_, _, h3, h4⟩ := rightB_of hr
  refine txt_congr fun j hj => ?_
  have := acc_eq (xs := xsL l) (x := x) (F := bsG l) (j := j) (fun a => Gf.ev (Q j) a) (fun i hi => by
    rw [xsL_length] at hi
    rw [xsL_at l hi]
    exact (ho _ (mem_at hi)).at_ hj)
  rw [xsL_length] at this
  rw [this, Gf.thr_ev (Q j) (gs (xsL l)) (gs_nodup (allSh_digs h3) h4) (by rw [gs_length, xsL_length]; exact hQ j)]
/-- Right shares lie on polynomials of no more digits than there are shares. -/
theorem on_some {l : List Sh} (hr : rightB l = true) : ∃ Q : Nat → List Gf.G, (∀ j, (Q j).length ≤ l.length) ∧ ∀ s ∈ l, OnQ Q s := by
  obtain ⟨_, _, h3, h4⟩ := rightB_of hr
  have hn := gs_nodup (allSh_digs h3) h4
  refine ⟨fun j => Gf.thrL [] (l.map fun s => (toG s.1, gOf s.2 j)), fun j => Gf.thrL_length _ _ _ (by simp), fun s hs => ?_⟩
  have hsz := (okSh_of (List.all_eq_true.1 h3 s hs)).2
  show s.2 = _
  conv => lhs; rw [← txt_gOf hsz]
  refine txt_congr fun j hj => ?_
  rw [Gf.ev_thrL]
  refine (Gf.thr_at _ [] ?_ (List.mem_map.2 ⟨s, hs, rfl⟩)).symm
  have e : (l.map fun s => (toG s.1, gOf s.2 j)).map Prod.fst = gs (xsL l) := by
    unfold gs xsL
    rw [List.map_map, List.map_map]
    rfl
  rw [List.nil_append, e]
  exact hn
theorem rightB_mk {l : List Sh} (h1 : 1 ≤ l.length) (h2 : l.length ≤ 255) (h3 : ∀ s ∈ l, dig s.1 = true ∧ s.2.size = 32) (h4 : (xsL l).Nodup) : rightB l = true := by
  have e3 : allSh l = true := by
    rw [allSh, List.all_eq_true]
    intro s hs
    simp [okSh, h3 s hs]
  have e4 : apartI (xsL l) = true := apartI_nodup.2 h4
  simp [rightB, e3, e4, h1, h2]
theorem zeroB_mk {l : List Sh} (h : ∀ s ∈ l, s.1 ≠ 0) : zeroB l = false := by
  rw [zeroB, List.any_eq_false]
  intro s hs
  simpa using h s hs

/-! ### the shares of a secret -/
/-- The polynomials of a secret and its tape. -/
def polQ (p : ByteArray) (k : Nat) (j : Nat) : List Gf.G := polG p j k
theorem splL_mem {p : ByteArray} {n k : Nat} {s : Sh} (h : s ∈ splL p n k) : (1 ≤ s.1 ∧ s.1 ≤ n) ∧ OnQ (polQ p k) s := by
  obtain ⟨i, hi, rfl⟩ := List.mem_map.1 h
  have := List.mem_range.1 hi
  exact ⟨⟨by show 1 ≤ (i : Int) + 1; omega, by show (i : Int) + 1 ≤ n; omega⟩, rfl⟩
theorem splL_nodup (p : ByteArray) (n k : Nat) : (xsL (splL p n k)).Nodup := by
  have e : xsL (splL p n k) = (List.range n).map fun i : Nat => (i : Int) + 1 := by
    unfold xsL splL
    rw [List.map_map]
    rfl
  rw [e]
  refine List.Pairwise.map _ ?_ List.nodup_range
  intro a b h e
  exact h (by omega)
theorem sub_right {p : ByteArray} {n k : Nat} {c : List Sh} (hn : n ≤ 255) (h : c.Sublist (splL p n k)) (h1 : 1 ≤ c.length) : rightB c = true := by
  refine rightB_mk h1 (by have := h.length_le; rw [splL_length] at this; omega) (fun s hs => ?_) ((splL_nodup p n k).sublist (h.map _))
  obtain ⟨h2, h3⟩ := splL_mem (h.subset hs)
  exact ⟨by simp [dig]; omega, by rw [h3, txt_size]⟩
theorem sub_zero {p : ByteArray} {n k : Nat} {c : List Sh} (h : c.Sublist (splL p n k)) : zeroB c = false :=
  zeroB_mk fun s hs => by have := (splL_mem (h.subset hs)).1; omega
theorem sub_at {p : ByteArray} {n k : Nat} {c : List Sh} (hn : n ≤ 255) (h : c.Sublist (splL p n k)) (h1 : 1 ≤ c.length) (hk : k ≤ c.length) (x : Int) (hx : dig x = true) :
    atA c x = (txt fun j => Gf.ev (polQ p k j) (toG x), 0) := by
  have hr := sub_right hn h h1
  rw [atA_yes hr hx, atT_on hr (Q := polQ p k) (fun s hs => (splL_mem (h.subset hs)).2) (fun j => by rw [polQ, polG_length]; exact hk)]
theorem ev_zero : ∀ l : List Gf.G, Gf.ev l 0 = l.getD 0 0
  | [] => rfl
  | c :: r => by rw [Gf.ev, Gf.G.zero_mul, Gf.G.add_zero]; rfl
theorem gOf_left' {s t : ByteArray} {q : Nat} (h : q < s.size) : gOf (s ++ t) q = gOf s q := by
  have e1 : s.data.toList.length = s.size := by simp
  unfold gOf
  apply Gf.G.ext'
  simp only [ByteArray.data_append, Array.toList_append, List.getD]
  rw [List.getElem?_append_left (by omega)]
theorem polQ_zero {s t : ByteArray} {k j : Nat} (hk : 1 ≤ k) (hs : s.size = 32) (hj : j < 32) : Gf.ev (polQ (s ++ t) k j) (toG 0) = gOf s j := by
  have e : toG (0 : Int) = 0 := rfl
  rw [e, ev_zero, polQ, polG, List.getD, List.getElem?_map, List.getElem?_range (by omega)]
  show gOf (s ++ t) (32 * 0 + j) = _
  rw [show 32 * 0 + j = j by omega, gOf_left' (by omega)]
theorem sub_comb {s t : ByteArray} {n k : Nat} {c : List Sh} (hs : s.size = 32) (hk1 : 1 ≤ k) (hn : n ≤ 255) (h : c.Sublist (splL (s ++ t) n k)) (hk : k ≤ c.length) : combA c = (s, 0) := by
  rw [combA, if_neg (by rw [sub_zero h]; simp), sub_at hn h (by omega) hk 0 rfl]
  congr 1
  exact (txt_congr (S := gOf s) fun j hj => polQ_zero hk1 hs hj).trans (txt_gOf hs)

/-! ### chosen -/
def chL : List Sh → List Bool → List Sh
  | s :: l, b :: m => if b = true then s :: chL l m else chL l m
  | _, _ => []
theorem chL_sub : ∀ (l : List Sh) (m : List Bool), (chL l m).Sublist l
  | [], _ => List.nil_sublist _
  | s :: l, [] => List.nil_sublist _
  | s :: l, b :: m => by
    rw [chL]
    split
    · exact (chL_sub l m).cons_cons s
    · exact (chL_sub l m).cons s
theorem chL_snoc : ∀ (l : List Sh) (m : List Bool) (i : Nat), i < l.length → i < m.length → chL (l.take (i + 1)) (m.take (i + 1)) = if m.getD i false = true then chL (l.take i) (m.take i) ++ [l.getD i sh0] else chL (l.take i) (m.take i)
  | [], _, _, h, _ => by simp at h
  | s :: l, [], _, _, h => by simp at h
  | s :: l, b :: m, 0, _, _ => by
    simp [chL]
  | s :: l, b :: m, i + 1, h, h2 => by
    have ih := chL_snoc l m i (by simpa using h) (by simpa using h2)
    simp only [List.take_succ_cons, List.getD_cons_succ, chL]
    rw [ih]
    split <;> split <;> simp
theorem chL_all (l : List Sh) (m : List Bool) (i : Nat) (h : l.length ≤ i ∨ m.length ≤ i) : chL (l.take i) (m.take i) = chL l m := by
  induction l generalizing m i with
  | nil => simp [chL]
  | cons s l ih =>
    cases m with
    | nil => simp [chL]
    | cons b m =>
      cases i with
      | zero => simp at h
      | succ i =>
        simp only [List.take_succ_cons, chL]
        rw [ih m i (by simpa using h)]
theorem chL_nil (m : List Bool) : chL [] m = [] := by cases m <;> rfl
end Go.Proofs.Ytljckcegcfidoaa
