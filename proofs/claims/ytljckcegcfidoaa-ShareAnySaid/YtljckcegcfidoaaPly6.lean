/-
  poly: weights and values through places, as plain mathematics over numbers.
-/
import Derived.Test.YtljckcegcfidoaaPly5
namespace Go.Proofs.Ytljckcegcfidoaa
open Go.RowKit Go.Kx

/-! ### the weight at a place -/
def othG (xs : List Int) (i k : Nat) : List Gf.G := ((gs xs).take k).eraseIdx i
theorem othG_self {xs : List Int} {i : Nat} (h : i < xs.length) : othG xs i (i + 1) = othG xs i i := by
  have e : ((gs xs).take i).length = i := by rw [List.length_take, gs_length]; omega
  unfold othG
  rw [gs_take xs h, List.eraseIdx_append_of_length_le (by omega), e, Nat.sub_self, List.eraseIdx_of_length_le (k := i) (by omega)]
  simp
theorem othG_other {xs : List Int} {i k : Nat} (h : k < xs.length) (hn : k ≠ i) : othG xs i (k + 1) = othG xs i k ++ [toG (xs.getD k 0)] := by
  have e : ((gs xs).take k).length = k := by rw [List.length_take, gs_length]; omega
  unfold othG
  rw [gs_take xs h]
  by_cases hl : i < k
  · rw [List.eraseIdx_append_of_lt_length (by omega)]
  · rw [List.eraseIdx_of_length_le (k := i) (l := (gs xs).take k ++ [_]) (by simp; omega), List.eraseIdx_of_length_le (k := i) (by omega)]
def facG (y : Gf.G) (l : List Gf.G) : Gf.G := Gf.prodG (l.map fun a => y + a)
theorem facG_snoc (y a : Gf.G) (l : List Gf.G) : facG y (l ++ [a]) = facG y l * (y + a) := by
  unfold facG
  rw [List.map_append, Gf.prodG_append]
  show _ * ((y + a) * 1) = _
  rw [Gf.G.mul_one]
def qst (xs : List Int) (i : Nat) (x : Int) (k : Nat) : Int × Int := (((facG (toG x) (othG xs i k)).v : Nat), ((facG (toG (xs.getD i 0)) (othG xs i k)).v : Nat))
theorem qst_zero (xs : List Int) (i : Nat) (x : Int) : qst xs i x 0 = (1, 1) := by
  simp [qst, othG, facG, Gf.prodG, Gf.G.one_v]
theorem addA_dig {a b : Int} (ha : dig a = true) (hb : dig b = true) : addA a b = ((toG a + toG b).v, true) := by
  have := addA_G (toG a) (toG b)
  rwa [toG_v ha, toG_v hb] at this
theorem mulA_dig {a b : Int} (ha : dig a = true) (hb : dig b = true) : mulA a b = ((toG a * toG b).v, true) := by
  have := mulA_G (toG a) (toG b)
  rwa [toG_v ha, toG_v hb] at this
theorem qst_succ {xs : List Int} {i : Nat} {x : Int} (k : Nat) (hk : k < xs.length) (hi : i < xs.length) (hd : allI dig xs = true) (hx : dig x = true) :
    qround xs i x (qst xs i x k) k (xs.getD k 0) = qst xs i x (k + 1) := by
  unfold qround
  by_cases h : k = i
  · rw [if_pos h]
    subst h
    unfold qst
    rw [othG_self hk]
  · rw [if_neg h]
    unfold qst qstep
    rw [othG_other hk h, facG_snoc, facG_snoc, addA_dig hx (allI_at hd hk), addA_dig (allI_at hd hi) (allI_at hd hk)]
    dsimp only
    rw [mulA_G, mulA_G]
def wgtI (xs : List Int) (i : Nat) (x : Int) : Gf.G := Gf.wgt (toG (xs.getD i 0)) ((gs xs).eraseIdx i) (toG x)
theorem toG_inj {a b : Int} (ha : dig a = true) (hb : dig b = true) (h : toG a = toG b) : a = b := by
  rw [← toG_v ha, ← toG_v hb, h]
theorem gs_nodup {xs : List Int} (hd : allI dig xs = true) (h : apartI xs = true) : (gs xs).Nodup := by
  have hn := apartI_nodup.1 h
  unfold gs
  have hall : ∀ a ∈ xs, dig a = true := List.all_eq_true.1 hd
  clear hd h
  induction xs with
  | nil => exact List.nodup_nil
  | cons a r ih =>
    have hc := List.nodup_cons.1 hn
    rw [List.map_cons, List.nodup_cons]
    refine ⟨fun hm => ?_, ih hc.2 fun b hb => hall b (by simp [hb])⟩
    obtain ⟨b, hb, e⟩ := List.mem_map.1 hm
    exact hc.1 (toG_inj (hall b (by simp [hb])) (hall a (by simp)) e ▸ hb)
theorem gs_at {xs : List Int} {i : Nat} (h : i < xs.length) : (gs xs)[i]? = some (toG (xs.getD i 0)) := by
  simp [gs, List.getD, List.getElem?_eq_getElem h]
theorem not_mem_erase {l : List Gf.G} {i : Nat} {c : Gf.G} (hn : l.Nodup) (h : l[i]? = some c) : c ∉ l.eraseIdx i := by
  induction l generalizing i with
  | nil => simp at h
  | cons a r ih =>
    have hc := List.nodup_cons.1 hn
    cases i with
    | zero =>
      simp at h
      subst h
      simpa using hc.1
    | succ j =>
      simp at h
      rw [List.eraseIdx_cons_succ, List.mem_cons, not_or]
      exact ⟨fun e => hc.1 (e ▸ List.mem_of_getElem? h), ih hc.2 h⟩
theorem facG_ne {c : Gf.G} {l : List Gf.G} (h : c ∉ l) : facG c l ≠ 0 := by
  induction l with
  | nil => exact fun e => by have := congrArg Gf.G.v e; simp [facG, Gf.prodG, Gf.G.one_v, Gf.G.zero_v] at this
  | cons a r ih =>
    rw [List.mem_cons, not_or] at h
    show (c + a) * facG c r ≠ 0
    exact Gf.G.mul_ne (fun e => h.1 (Gf.G.add_eq_zero.1 e)) (ih h.2)
theorem facG_inv {c : Gf.G} {l : List Gf.G} (h : c ∉ l) : (facG c l).inv = Gf.prodG (l.map fun a => (c + a).inv) := by
  have h1 : facG c l * Gf.prodG (l.map fun a => (c + a).inv) = 1 := by
    unfold facG
    rw [← Gf.prodG_mul]
    refine Gf.prodG_one fun b hb => ?_
    obtain ⟨a, ha, rfl⟩ := List.mem_map.1 hb
    exact Gf.G.mul_inv fun e => h (Gf.G.add_eq_zero.1 e ▸ ha)
  have h2 := Gf.G.mul_inv (facG_ne h)
  rw [← Gf.G.mul_one (facG c l).inv, ← h1, ← Gf.G.mul_assoc, Gf.G.mul_comm (facG c l).inv, h2, Gf.G.one_mul]
theorem divA_G (a b : Gf.G) (hb : b ≠ 0) : divA (a.v : Nat) (b.v : Nat) = ((a * b.inv).v, true) := by
  have := Gf.G.v_ne hb
  simp [divA, dig_of a.lt, dig_of b.lt, this, Gf.G.mul_v, Gf.G.inv]
theorem qst_end {xs : List Int} {i : Nat} {x : Int} (hi : i < xs.length) (hd : allI dig xs = true) (ha : apartI xs = true) :
    divA (qst xs i x xs.length).1 (qst xs i x xs.length).2 = ((wgtI xs i x).v, true) := by
  have hno := not_mem_erase (gs_nodup hd ha) (gs_at hi)
  have e : othG xs i xs.length = (gs xs).eraseIdx i := by unfold othG; rw [List.take_of_length_le (by rw [gs_length]; exact Nat.le_refl _)]
  unfold qst
  rw [e]
  dsimp only
  rw [divA_G _ _ (facG_ne hno), facG_inv hno]
  unfold facG wgtI Gf.wgt
  rw [← Gf.prodG_mul]

/-! ### all the weights, and the value through places -/
def wgtsI (xs : List Int) (x : Int) : List Int := (List.range xs.length).map fun i => ((wgtI xs i x).v : Int)
theorem wgtsI_length (xs : List Int) (x : Int) : (wgtsI xs x).length = xs.length := by simp [wgtsI]
theorem wgtsI_at {xs : List Int} {x : Int} {i : Nat} (h : i < xs.length) : (wgtsI xs x).getD i 0 = ((wgtI xs i x).v : Nat) := by simp [wgtsI, List.getD, h]
def okWt (xs : List Int) (x : Int) : Bool := decide (1 ≤ xs.length) && decide (xs.length ≤ 255) && allI dig xs && dig x && apartI xs
def weightsA (xs : List Int) (x : Int) : List Int × Bool := if okWt xs x = true then (wgtsI xs x, true) else ([], false)
/-- The sum of the first k. -/
def thI (xs ys : List Int) (x : Int) (k : Nat) : Gf.G := Gf.sumG ((List.range k).map fun j => toG (ys.getD j 0) * wgtI xs j x)
theorem thI_succ (xs ys : List Int) (x : Int) (k : Nat) : thI xs ys x (k + 1) = thI xs ys x k + toG (ys.getD k 0) * wgtI xs k x := by
  unfold thI
  rw [List.range_succ, List.map_append, Gf.sumG_append]
  show _ + (_ + 0) = _
  rw [Gf.G.add_zero]
def okT (xs ys : List Int) (x : Int) : Bool := okWt xs x && decide (ys.length = xs.length) && allI dig ys
def throughA (xs ys : List Int) (x : Int) : Nat × Bool := if okT xs ys x = true then ((thI xs ys x xs.length).v, true) else (0, false)
theorem thr_sum (x : Gf.G) : ∀ (ps : List (Gf.G × Gf.G)) (pre : List Gf.G), Gf.thr pre ps x = Gf.sumG ((List.range ps.length).map fun j => (ps.getD j (0, 0)).2 * Gf.wgt (ps.getD j (0, 0)).1 ((pre ++ ps.map Prod.fst).eraseIdx (pre.length + j)) x)
  | [], _ => rfl
  | (c, y) :: r, pre => by
    rw [Gf.thr, thr_sum x r (pre ++ [c]), List.length_cons, List.range_succ_eq_map, List.map_cons, Gf.sumG, List.map_map]
    congr 1
    · have e : (pre ++ List.map Prod.fst ((c, y) :: r)).eraseIdx (pre.length + 0) = pre ++ r.map Prod.fst := by
        rw [List.eraseIdx_append_of_length_le (by omega)]
        simp
      rw [e]
      rfl
    · congr 1
      refine List.map_congr_left fun j _ => ?_
      have e : pre ++ [c] ++ r.map Prod.fst = pre ++ List.map Prod.fst ((c, y) :: r) := by simp
      have e2 : (pre ++ [c]).length + j = pre.length + (j + 1) := by simp; omega
      rw [e, e2]
      rfl
theorem thI_thr {xs ys : List Int} {x : Int} (h : ys.length = xs.length) : thI xs ys x xs.length = Gf.thr [] ((gs xs).zip (gs ys)) (toG x) := by
  rw [thr_sum, List.length_zip, gs_length, gs_length, h, Nat.min_self]
  unfold thI
  congr 1
  refine List.map_congr_left fun j hj => ?_
  have hjl : j < xs.length := List.mem_range.1 hj
  have e : ((gs xs).zip (gs ys)).getD j (0, 0) = (toG (xs.getD j 0), toG (ys.getD j 0)) := by
    have h1 := gs_at hjl
    have h2 := gs_at (xs := ys) (i := j) (by omega)
    rw [List.getD, (List.getElem?_zip_eq_some (z := (toG (xs.getD j 0), toG (ys.getD j 0)))).2 ⟨h1, h2⟩]
    rfl
  have e2 : ((gs xs).zip (gs ys)).map Prod.fst = gs xs := by rw [List.map_fst_zip]; rw [gs_length, gs_length]; omega
  rw [e, e2]
  unfold wgtI
  simp
end Go.Proofs.Ytljckcegcfidoaa
