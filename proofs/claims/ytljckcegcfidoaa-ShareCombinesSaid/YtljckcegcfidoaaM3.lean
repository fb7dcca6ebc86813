/-
  Merged by program: Ply6, Ply7, Ply8, Shr7, Shs, Own, Many, Shw, Unl, Fld3A, Rf2, Rf4, Rf5, Shp, Bld, Sbl.
-/
import Derived.Test.YtljckcegcfidoaaM2
import Derived.Deep.AppendLies
import Derived.Test.YtljckcegcfidoaaM1
import Derived.Deep.QuietTactic
import Derived.BigQuiet
import Derived.Lib.Builder
import Derived.Lib.UnsafeStr
import Derived.Shelf.Strings.Builder1
import Derived.Test.YtljckcegcfidoaaProg

/-
  poly: weights and values through places, as plain mathematics over numbers.
-/
namespace Go.Proofs.Ytljckcegcfidoaa
open Go.RowKit Go.Kx

/-! ### the weight at a place -/
def othG (xs : List Int) (i k : Nat) : List Gf.G := ((gs xs).take k).eraseIdx i
theorem othG_self {xs : List Int} {i : Nat} (h : i < xs.length) : othG xs i (i + 1) = othG xs i i := by
  have e : ((gs xs).take i).length = i := by rw [List.length_take, gs_length]; omega
  unfold othG
  rw [gs_take xs h, List.eraseIdx_append_of_length_le (by omega), e, Nat.sub_self, List.eraseIdx_of_length_le (k := i) (by omega)]
  simp
theorem othG_other {xs : List Int} {i k : Nat} (h : k < xs.length) (hn : k ≠ i) : othG xs i (k + 1) = othG xs i k ++ [toG (xs.getD k 0)] := by
  have e : ((gs xs).take k).length = k := by rw [List.length_take, gs_length]; omega
  unfold othG
  rw [gs_take xs h]
  by_cases hl : i < k
  · rw [List.eraseIdx_append_of_lt_length (by omega)]
  · rw [List.eraseIdx_of_length_le (k := i) (l := (gs xs).take k ++ [_]) (by simp; omega), List.eraseIdx_of_length_le (k := i) (by omega)]
def facG (y : Gf.G) (l : List Gf.G) : Gf.G := Gf.prodG (l.map fun a => y + a)
theorem facG_snoc (y a : Gf.G) (l : List Gf.G) : facG y (l ++ [a]) = facG y l * (y + a) := by
  unfold facG
  rw [List.map_append, Gf.prodG_append]
  show _ * ((y + a) * 1) = _
  rw [Gf.G.mul_one]
def qst (xs : List Int) (i : Nat) (x : Int) (k : Nat) : Int × Int := (((facG (toG x) (othG xs i k)).v : Nat), ((facG (toG (xs.getD i 0)) (othG xs i k)).v : Nat))
theorem qst_zero (xs : List Int) (i : Nat) (x : Int) : qst xs i x 0 = (1, 1) := by
  simp [qst, othG, facG, Gf.prodG, Gf.G.one_v]
theorem addA_dig {a b : Int} (ha : dig a = true) (hb : dig b = true) : addA a b = ((toG a + toG b).v, true) := by
  have := addA_G (toG a) (toG b)
  rwa [toG_v ha, toG_v hb] at this
theorem mulA_dig {a b : Int} (ha : dig a = true) (hb : dig b = true) : mulA a b = ((toG a * toG b).v, true) := by
  have := mulA_G (toG a) (toG b)
  rwa [toG_v ha, toG_v hb] at this
theorem qst_succ {xs : List Int} {i : Nat} {x : Int} (k : Nat) (hk : k < xs.length) (hi : i < xs.length) (hd : allI dig xs = true) (hx : dig x = true) :
    qround xs i x (qst xs i x k) k (xs.getD k 0) = qst xs i x (k + 1) := by
  unfold qround
  by_cases h : k = i
  · rw [if_pos h]
    subst h
    unfold qst
    rw [othG_self hk]
  · rw [if_neg h]
    unfold qst qstep
    rw [othG_other hk h, facG_snoc, facG_snoc, addA_dig hx (allI_at hd hk), addA_dig (allI_at hd hi) (allI_at hd hk)]
    dsimp only
    rw [mulA_G, mulA_G]
def wgtI (xs : List Int) (i : Nat) (x : Int) : Gf.G := Gf.wgt (toG (xs.getD i 0)) ((gs xs).eraseIdx i) (toG x)
theorem toG_inj {a b : Int} (ha : dig a = true) (hb : dig b = true) (h : toG a = toG b) : a = b := by
  rw [← toG_v ha, ← toG_v hb, h]
theorem gs_nodup {xs : List Int} (hd : allI dig xs = true) (h : apartI xs = true) : (gs xs).Nodup := by
  have hn := apartI_nodup.1 h
  unfold gs
  have hall : ∀ a ∈ xs, dig a = true := List.all_eq_true.1 hd
  clear hd h
  induction xs with
  | nil => exact List.nodup_nil
  | cons a r ih =>
    have hc := List.nodup_cons.1 hn
    rw [List.map_cons, List.nodup_cons]
    refine ⟨fun hm => ?_, ih hc.2 fun b hb => hall b (by simp [hb])⟩
    obtain ⟨b, hb, e⟩ := List.mem_map.1 hm
    exact hc.1 (toG_inj (hall b (by simp [hb])) (hall a (by simp)) e ▸ hb)
theorem gs_at {xs : List Int} {i : Nat} (h : i < xs.length) : (gs xs)[i]? = some (toG (xs.getD i 0)) := by
  simp [gs, List.getD, List.getElem?_eq_getElem h]
theorem not_mem_erase {l : List Gf.G} {i : Nat} {c : Gf.G} (hn : l.Nodup) (h : l[i]? = some c) : c ∉ l.eraseIdx i := by
  induction l generalizing i with
  | nil => simp at h
  | cons a r ih =>
    have hc := List.nodup_cons.1 hn
    cases i with
    | zero =>
      simp at h
      subst h
      simpa using hc.1
    | succ j =>
      simp at h
      rw [List.eraseIdx_cons_succ, List.mem_cons, not_or]
      exact ⟨fun e => hc.1 (e ▸ List.mem_of_getElem? h), ih hc.2 h⟩
theorem facG_ne {c : Gf.G} {l : List Gf.G} (h : c ∉ l) : facG c l ≠ 0 := by
  induction l with
  | nil => exact fun e => by have := congrArg Gf.G.v e; simp [facG, Gf.prodG, Gf.G.one_v, Gf.G.zero_v] at this
  | cons a r ih =>
    rw [List.mem_cons, not_or] at h
    show (c + a) * facG c r ≠ 0
    exact Gf.G.mul_ne (fun e => h.1 (Gf.G.add_eq_zero.1 e)) (ih h.2)
theorem facG_inv {c : Gf.G} {l : List Gf.G} (h : c ∉ l) : (facG c l).inv = Gf.prodG (l.map fun a => (c + a).inv) := by
  have h1 : facG c l * Gf.prodG (l.map fun a => (c + a).inv) = 1 := by
    unfold facG
    rw [← Gf.prodG_mul]
    refine Gf.prodG_one fun b hb => ?_
    obtain ⟨a, ha, rfl⟩ := List.mem_map.1 hb
    exact Gf.G.mul_inv fun e => h (Gf.G.add_eq_zero.1 e ▸ ha)
  have h2 := Gf.G.mul_inv (facG_ne h)
  rw [← Gf.G.mul_one (facG c l).inv, ← h1, ← Gf.G.mul_assoc, Gf.G.mul_comm (facG c l).inv, h2, Gf.G.one_mul]
theorem divA_G (a b : Gf.G) (hb : b ≠ 0) : divA (a.v : Nat) (b.v : Nat) = ((a * b.inv).v, true) := by
  have := Gf.G.v_ne hb
  simp [divA, dig_of a.lt, dig_of b.lt, this, Gf.G.mul_v, Gf.G.inv]
theorem qst_end {xs : List Int} {i : Nat} {x : Int} (hi : i < xs.length) (hd : allI dig xs = true) (ha : apartI xs = true) :
    divA (qst xs i x xs.length).1 (qst xs i x xs.length).2 = ((wgtI xs i x).v, true) := by
  have hno := not_mem_erase (gs_nodup hd ha) (gs_at hi)
  have e : othG xs i xs.length = (gs xs).eraseIdx i := by unfold othG; rw [List.take_of_length_le (by rw [gs_length]; exact Nat.le_refl _)]
  unfold qst
  rw [e]
  dsimp only
  rw [divA_G _ _ (facG_ne hno), facG_inv hno]
  unfold facG wgtI Gf.wgt
  rw [← Gf.prodG_mul]

/-! ### all the weights, and the value through places -/
def wgtsI (xs : List Int) (x : Int) : List Int := (List.range xs.length).map fun i => ((wgtI xs i x).v : Int)
theorem wgtsI_length (xs : List Int) (x : Int) : (wgtsI xs x).length = xs.length := by simp [wgtsI]
theorem wgtsI_at {xs : List Int} {x : Int} {i : Nat} (h : i < xs.length) : (wgtsI xs x).getD i 0 = ((wgtI xs i x).v : Nat) := by simp [wgtsI, List.getD, h]
def okWt (xs : List Int) (x : Int) : Bool := decide (1 ≤ xs.length) && decide (xs.length ≤ 255) && allI dig xs && dig x && apartI xs
def weightsA (xs : List Int) (x : Int) : List Int × Bool := if okWt xs x = true then (wgtsI xs x, true) else ([], false)
/-- The sum of the first k. -/
def thI (xs ys : List Int) (x : Int) (k : Nat) : Gf.G := Gf.sumG ((List.range k).map fun j => toG (ys.getD j 0) * wgtI xs j x)
theorem thI_succ (xs ys : List Int) (x : Int) (k : Nat) : thI xs ys x (k + 1) = thI xs ys x k + toG (ys.getD k 0) * wgtI xs k x := by
  unfold thI
  rw [List.range_succ, List.map_append, Gf.sumG_append]
  show _ + (_ + 0) = _
  rw [Gf.G.add_zero]
def okT (xs ys : List Int) (x : Int) : Bool := okWt xs x && decide (ys.length = xs.length) && allI dig ys
def throughA (xs ys : List Int) (x : Int) : Nat × Bool := if okT xs ys x = true then ((thI xs ys x xs.length).v, true) else (0, false)
theorem thr_sum (x : Gf.G) : ∀ (ps : List (Gf.G × Gf.G)) (pre : List Gf.G), Gf.thr pre ps x = Gf.sumG ((List.range ps.length).map fun j => (ps.getD j (0, 0)).2 * Gf.wgt (ps.getD j (0, 0)).1 ((pre ++ ps.map Prod.fst).eraseIdx (pre.length + j)) x)
  | [], _ => rfl
  | (c, y) :: r, pre => by
    rw [Gf.thr, thr_sum x r (pre ++ [c]), List.length_cons, List.range_succ_eq_map, List.map_cons, Gf.sumG, List.map_map]
    congr 1
    · have e : (pre ++ List.map Prod.fst ((c, y) :: r)).eraseIdx (pre.length + 0) = pre ++ r.map Prod.fst := by
        rw [List.eraseIdx_append_of_length_le (by omega)]
        simp
      rw [e]
      rfl
    · congr 1
      refine List.map_congr_left fun j _ => ?_
      have e : pre ++ [c] ++ r.map Prod.fst = pre ++ List.map Prod.fst ((c, y) :: r) := by simp
      have e2 : (pre ++ [c]).length + j = pre.length + (j + 1) := by simp; omega
      rw [e, e2]
      rfl
theorem thI_thr {xs ys : List Int} {x : Int} (h : ys.length = xs.length) : thI xs ys x xs.length = Gf.thr [] ((gs xs).zip (gs ys)) (toG x) := by
  rw [thr_sum, List.length_zip, gs_length, gs_length, h, Nat.min_self]
  unfold thI
  congr 1
  refine List.map_congr_left fun j hj => ?_
  have hjl : j < xs.length := List.mem_range.1 hj
  have e : ((gs xs).zip (gs ys)).getD j (0, 0) = (toG (xs.getD j 0), toG (ys.getD j 0)) := by
    have h1 := gs_at hjl
    have h2 := gs_at (xs := ys) (i := j) (by omega)
    rw [List.getD, (List.getElem?_zip_eq_some (z := (toG (xs.getD j 0), toG (ys.getD j 0)))).2 ⟨h1, h2⟩]
    rfl
  have e2 : ((gs xs).zip (gs ys)).map Prod.fst = gs xs := by rw [List.map_fst_zip]; rw [gs_length, gs_length]; omega
  rw [e, e2]
  unfold wgtI
  simp
end Go.Proofs.Ytljckcegcfidoaa

/-
  poly: the contracts of weight, Weights.
-/
namespace Go.Proofs.Ytljckcegcfidoaa
open Go.RowKit Go.Kx
set_option maxRecDepth 20000

set_option maxHeartbeats 1000000 in
theorem weight_any (g : Nat) (xs : List Int) (A : Option Addr) (c : Nat) (i : Nat) (x : Int) (hi : i < xs.length) (hl : xs.length ≤ 255) (hd : allI dig xs = true) (hx : dig x = true) (ha : apartI xs = true) (w : World) (hf : Fld w g) (hs : Sl w A (intsI xs)) :
    Calls Try.prog 60 #[.pointer (some ⟨g, 0, none⟩), .slice A xs.length c, .int .i64 i, .int .i64 x] w fun e w' => e = .returned (.int .i64 ((wgtI xs i x).v : Nat)) ∧ Below w.heap.size w w' := by
  have hb4 : Below w.heap.size w ((((w.alloc (.cells #[.pointer (some ⟨g, 0, none⟩)] 62)).alloc (.cells #[.slice A xs.length c] 48)).alloc (.cells #[.int .i64 i] 3)).alloc (.cells #[.int .i64 x] 3)) := (((Below.alloc0 _ _).al _).al _).al _
  have hbx : WtBox ((((w.alloc (.cells #[.pointer (some ⟨g, 0, none⟩)] 62)).alloc (.cells #[.slice A xs.length c] 48)).alloc (.cells #[.int .i64 i] 3)).alloc (.cells #[.int .i64 x] 3)) w.heap.size g xs i x A c := by
    have q1 := heap_alloc_new w (.cells #[.pointer (some ⟨g, 0, none⟩)] 62)
    have q2 := heap_alloc_new (w.alloc (.cells #[.pointer (some ⟨g, 0, none⟩)] 62)) (.cells #[.slice A xs.length c] 48)
    have q3 := heap_alloc_new ((w.alloc (.cells #[.pointer (some ⟨g, 0, none⟩)] 62)).alloc (.cells #[.slice A xs.length c] 48)) (.cells #[.int .i64 i] 3)
    have q4 := heap_alloc_new (((w.alloc (.cells #[.pointer (some ⟨g, 0, none⟩)] 62)).alloc (.cells #[.slice A xs.length c] 48)).alloc (.cells #[.int .i64 i] 3)) (.cells #[.int .i64 x] 3)
    have b1 := Below.alloc0 (w.alloc (.cells #[.pointer (some ⟨g, 0, none⟩)] 62)) (.cells #[.slice A xs.length c] 48)
    have b2 := Below.alloc0 ((w.alloc (.cells #[.pointer (some ⟨g, 0, none⟩)] 62)).alloc (.cells #[.slice A xs.length c] 48)) (.cells #[.int .i64 i] 3)
    have b3 := Below.alloc0 (((w.alloc (.cells #[.pointer (some ⟨g, 0, none⟩)] 62)).alloc (.cells #[.slice A xs.length c] 48)).alloc (.cells #[.int .i64 i] 3)) (.cells #[.int .i64 x] 3)
    have r1 := (b3.block _ (by simp <;> omega)).trans ((b2.block _ (by simp <;> omega)).trans ((b1.block _ (by simp <;> omega)).trans q1))
    have r2 := (b3.block _ (by simp <;> omega)).trans ((b2.block _ (by simp <;> omega)).trans q2)
    have r3 := (b3.block _ (by simp <;> omega)).trans q3
    rw [World.size_alloc] at r2 r3 q4
    rw [World.size_alloc] at r3 q4
    rw [World.size_alloc] at q4
    exact ⟨hf.keep hb4, (cell_of_row _ _ _ _ _ _ r1).trans rfl, (cell_of_row _ _ _ _ _ _ r2).trans rfl, (cell_of_row _ _ _ _ _ _ r3).trans rfl, (cell_of_row _ _ _ _ _ _ q4).trans rfl, hs.keep hb4, by simp⟩
  have hq0 := qst_zero xs i x
  have hqs : Hid (∀ k, k < xs.length → qround xs i x (qst xs i x k) k (xs.getD k 0) = qst xs i x (k + 1)) := Lib.hid fun k hk => qst_succ k hk hi hd hx
  have hqe := qst_end (x := x) hi hd ha
  have hbl := hbx.2.1
  have hbs := hbx.2.2.1
  obtain ⟨⟨o, u⟩, hou⟩ : ∃ p, qst xs i x xs.length = p := ⟨_, rfl⟩
  rw [hou] at hqe
  dsimp only at hqe
  have HQE := Lib.hid hqe
  have HQ0 := Lib.hid hq0
  have HOU := Lib.hid hou
  clear hqe hq0 hou
  generalize wgtI xs i x = r at *
  go_enter Try.func60, Try.ntmps60
  go_wp2_with fail
  generalize World.alloc (World.alloc (World.alloc (World.alloc w _) _) _) _ = W at *
  have HFO := foldQ_any 74 (fun _ _ => rfl) (.pointer (some ⟨w.heap.size + 1 + 1, 0, none⟩)) (.pointer (some ⟨w.heap.size, 0, none⟩)) (.pointer (some ⟨w.heap.size + 1 + 1 + 1, 0, none⟩)) (.pointer (some ⟨w.heap.size + 1, 0, none⟩)) xs (fun k => qst xs i x k) A c (by omega) W hbx.2.2.2.2.2.1 (fun k hk w1 hb => by
    have h := weightStep_any w.heap.size g xs i x A c hi (qst xs i x k) k (xs.getD k 0) w1 (hbx.keep hb)
    rw [hqs.out k hk] at h
    exact h)
  simp only [HQ0.out, HOU.out] at HFO
  refine HFO.mono ?_
  rintro e w5 ⟨rfl, hb5⟩
  have hbx5 := hbx.keep hb5
  have hb6 := hb4.next' hb5
  clear hb4 hb5 hbx HFO hbl hbs
  have hf5 := hbx5.1
  have hc5 := hbx5.2.1
  clear hbx5
  have hq := Quo.new w5 (o, u)
  have hbq := Below.alloc0 w5 (.cells (quo (o, u)) 97)
  have hc0 := hq.cells.1
  have hc1 := hq.cells.2
  have hf6 := hf5.keep hbq
  have hc6 := (hbq.cell (p := ⟨w.heap.size, 0, none⟩) (block_lt_of_cell hc5)).trans hc5
  have hb7 := hb6.next' hbq
  unfold quo at hc0 hc1 hf6 hc6 hb7 ⊢
  go_wp2_with fail
  generalize World.alloc w5 _ = V at *
  refine (div_any g o u _ hf6).mono ?_
  rw [HQE.out]
  rintro e w8 ⟨rfl, hb8⟩
  unfold two
  go_wp2
  go_ret
  exact ⟨rfl, hb7.next' hb8⟩
end Go.Proofs.Ytljckcegcfidoaa

/-
  poly: the contract of Weights.
-/
namespace Go.Proofs.Ytljckcegcfidoaa
open Go.RowKit Go.Kx
set_option maxRecDepth 20000

def wAt (xs : List Int) (x : Int) (k j : Nat) : Nat := if j < k then (wgtI xs j x).v else 0
theorem wAt_set (xs : List Int) (x : Int) (k j : Nat) : (if j = k then (wgtI xs k x).v else wAt xs x k j) = wAt xs x (k + 1) j := by
  unfold wAt
  by_cases h : j = k
  · subst h; simp
  · rw [if_neg h]
    by_cases h2 : j < k
    · rw [if_pos h2, if_pos (by omega)]
    · rw [if_neg h2, if_neg (by omega)]
theorem okW_no1 {xs : List Int} {x : Int} (h : ¬ (1 ≤ xs.length ∧ xs.length ≤ 255)) : okWt xs x = false := by
  simp only [okWt, Bool.and_eq_false_iff, decide_eq_false_iff_not]
  omega
/-- What Weights hands back. -/
def Wts (w w' : World) (r : List Int × Bool) (e : Ending) : Prop := (∃ A c, e = .returned (.tuple #[.slice A r.1.length c, .bool r.2]) ∧ Sl w' A (intsI r.1)) ∧ Below w.heap.size w w'
theorem wts_none {w w' : World} (hb : Below w.heap.size w w') : Wts w w' ([], false) (.returned (.tuple #[.slice none 0 0, .bool false])) := ⟨⟨none, 0, rfl, Sl.nil _ _⟩, hb⟩
theorem weightsA_no {xs : List Int} {x : Int} (h : okWt xs x = false) : weightsA xs x = ([], false) := by rw [weightsA, if_neg (by rw [h]; simp)]
set_option maxHeartbeats 1000000 in
theorem weights_any (xs : List Int) (x : Int) (A : Option Addr) (c : Nat) (hl : xs.length ≤ 9223372036854775807) (w : World) (hs : Sl w A (intsI xs)) :
    Calls Try.prog 34 #[.slice A xs.length c, .int .i64 x] w fun e w' => Wts w w' (weightsA xs x) e := by
  by_cases h1 : xs.length < 1
  · rw [weightsA_no (okW_no1 (by omega))]
    go_enter Try.func34, Try.ntmps34
    go_wp2
    go_ret2
    exact wts_none (Below.refl _ _)
  by_cases h2 : 255 < xs.length
  · rw [weightsA_no (okW_no1 (by omega))]
    go_enter Try.func34, Try.ntmps34
    go_wp2
    go_ret2
    exact wts_none (Below.refl _ _)
  cases h3 : allI dig xs with
  | false =>
    rw [weightsA_no (by simp [okWt, h3])]
    go_enter Try.func34, Try.ntmps34
    go_wp2_with fail
    refine (areDigits_any xs A c hl _ hs).mono ?_
    rintro e w1 ⟨rfl, rfl⟩
    go_wp2
    go_ret2
    exact wts_none (Below.refl _ _)
  | true =>
    cases h4 : dig x with
    | false =>
      rw [weightsA_no (by simp [okWt, h4])]
      go_enter Try.func34, Try.ntmps34
      go_wp2_with fail
      refine (areDigits_any xs A c hl _ hs).mono ?_
      rintro e w1 ⟨rfl, rfl⟩
      go_wp2_with fail
      refine (pIsDigit_any x _).mono ?_
      rintro e w1 ⟨rfl, rfl⟩
      go_wp2
      go_ret2
      exact wts_none (Below.refl _ _)
    | true =>
      cases h5 : apartI xs with
      | false =>
        rw [weightsA_no (by simp [okWt, h5])]
        go_enter Try.func34, Try.ntmps34
        go_wp2_with fail
        refine (areDigits_any xs A c hl _ hs).mono ?_
        rintro e w1 ⟨rfl, rfl⟩
        go_wp2_with fail
        refine (pIsDigit_any x _).mono ?_
        rintro e w1 ⟨rfl, rfl⟩
        go_wp2_with fail
        refine (anySame_any xs A c (by omega) h3 _ hs).mono ?_
        rintro e w2 ⟨rfl, hb⟩
        go_wp2
        go_ret2
        exact wts_none hb
      | true =>
        have hok : weightsA xs x = (wgtsI xs x, true) := by
          have h1' : 1 ≤ xs.length := by omega
          have h2' : xs.length ≤ 255 := by omega
          rw [weightsA, if_pos (by simp [okWt, h1', h2', h3, h4, h5])]
        rw [hok]
        have HWL := Lib.hid (wgtsI_length xs x)
        have HWA : Hid (∀ i, i < xs.length → (wgtsI xs x).getD i 0 = ((wgtI xs i x).v : Nat)) := Lib.hid fun i hi => wgtsI_at hi
        have hmk := run_make_row' (P := Try.prog) 48 3 (.int .i64 0) 8 Try.underlying48 int_info rfl .i64 .i64 xs.length (by omega) (by omega)
        go_enter Try.func34, Try.ntmps34
        go_wp2_with fail
        refine (areDigits_any xs A c hl _ hs).mono ?_
        rintro e w1 ⟨rfl, rfl⟩
        go_wp2_with fail
        refine (pIsDigit_any x _).mono ?_
        rintro e w ⟨rfl, rfl⟩
        go_wp2_with fail
        refine (anySame_any xs A c (by omega) h3 _ hs).mono ?_
        rintro e w2 ⟨rfl, hb2⟩
        replace hs := hs.keep hb2
        go_wp2_with fail
        refine (new_any _).mono ?_
        rintro e w3 ⟨rfl, hf, hb3⟩
        replace hs := hs.keep hb3
        replace hb3 := hb2.next' hb3
        clear hb2
        generalize w2.heap.size = g at hf ⊢
        have hr0 := World.rowIs_made w3 (.int .i64 0) xs.length 3
        replace hr0 := hr0.congr (g := fun j => .int .i64 (wAt xs x 0 j : Nat)) (fun j _ => by simp [wAt])
        have hbm := Below.alloc0 w3 (.cells (madeCells #[.int .i64 0] xs.length) 3)
        go_wp2
        generalize World.alloc w3 _ = W at *
        go_loopw [37] (fun i wr => ∃ k : Nat, i = .int .i64 k ∧ k ≤ xs.length ∧ wr.rowIs w3.heap.size 3 xs.length (fun j => .int .i64 (wAt xs x k j : Nat)) ∧ Below w3.heap.size w3 wr) (fun i _ => xs.length - (intOf i).toNat)
        case atStart => exact ⟨0, rfl, by omega, hr0, hbm⟩
        case round =>
          clear hr0 hbm
          obtain ⟨k, rfl, hk, hr, hb⟩ := hrel
          by_cases hlt : k < xs.length
          · have HC := Lib.hid (weight_any g xs A c k x hlt (by omega) h3 h4 h5 wr (hf.keep hb) (hs.keep hb))
            have HST := Lib.hid (wAt_set xs x k)
            obtain ⟨v, hv⟩ : ∃ v, (wgtI xs k x).v = v := ⟨_, rfl⟩
            rw [hv] at HC HST
            have HV := Lib.hid hv
            clear hv
            go_wp2_with fail
            refine HC.out.mono ?_
            rintro e w5 ⟨rfl, hb5⟩
            replace hr := rowIs_keep hr hb5
            replace hb := hb.next' hb5
            clear hb5 HC
            have hload := hr.cell (i := k) hlt
            have hfz := hr.frozen k
            generalize wAt xs x k k = z at hload
            go_wp2
            go_roundw
            case rel =>
              refine ⟨k + 1, by go_num, by omega, (hr.set k _).congr fun j _ => ?_, hb.setCell (p := ⟨w3.heap.size, k, none⟩) (by simp) _⟩
              rw [← HST.out]
              split <;> rfl
            case measure => simp [intOf]; omega
          · obtain rfl : k = xs.length := by omega
            go_wp2
            go_ret2
            have hsh : Ending.returned (.tuple #[.slice (some ⟨w3.heap.size, 0, none⟩) xs.length xs.length, .bool true]) = .returned (.tuple #[.slice (some ⟨w3.heap.size, 0, none⟩) (wgtsI xs x, true).1.length xs.length, .bool (wgtsI xs x, true).2]) := by rw [HWL.out]
            refine ⟨⟨some ⟨w3.heap.size, 0, none⟩, xs.length, hsh, .inr ⟨w3.heap.size, 0, rfl, hr.lt, fun j u hu => ?_⟩⟩, hb3.next' hb⟩
            obtain ⟨y, hy, rfl⟩ := intsI_at hu
            have hjl : j < xs.length := by
              have := (List.getElem?_eq_some_iff.1 hy).1
              rwa [HWL.out] at this
            have h8 := HWA.out j hjl
            rw [List.getD, hy] at h8
            dsimp only [Option.getD] at h8
            rw [Nat.zero_add, hr.cell hjl, wAt, if_pos hjl, h8]
end Go.Proofs.Ytljckcegcfidoaa

/-
  share: the contracts of At and Combine.
-/
namespace Go.Proofs.Ytljckcegcfidoaa
open Go.RowKit Go.Kx
set_option maxRecDepth 20000

def strE (r : ByteArray × Int) : Ending := .returned (.tuple #[.string r.1, .int .i64 r.2])
def atT (l : List Sh) (x : Int) : ByteArray := txt (accR (wgtsI (xsL l) x) (bsG l) l.length)
def atA (l : List Sh) (x : Int) : ByteArray × Int := if rightB l = true then (if dig x = true then (atT l x, 0) else (⟨#[]⟩, 1)) else (⟨#[]⟩, 90)
def combA (l : List Sh) : ByteArray × Int := if zeroB l = true then (⟨#[]⟩, 90) else atA l 0
theorem atA_yes {l : List Sh} {x : Int} (h : rightB l = true) (hx : dig x = true) : atA l x = (atT l x, 0) := by rw [atA, if_pos h, if_pos hx]
theorem allSh_digs {l : List Sh} (h : allSh l = true) : allI dig (xsL l) = true := allI_yes fun k hk => by
  rw [xsL_length] at hk
  rw [xsL_at l hk]
  exact (okSh_of (allSh_at h hk)).1
theorem okWt_of {l : List Sh} {x : Int} (h : rightB l = true) (hx : dig x = true) : okWt (xsL l) x = true := by
  obtain ⟨h1, h2, h3, h4⟩ := rightB_of h
  simp [okWt, xsL_length, h1, h2, hx, h4, allSh_digs h3]
theorem wgtsI_dig (xs : List Int) (x : Int) : allI dig (wgtsI xs x) = true := by
  rw [allI, List.all_eq_true]
  intro y hy
  obtain ⟨i, _, rfl⟩ := List.mem_map.1 hy
  exact dig_v _
set_option maxHeartbeats 4000000 in
theorem at_any (l : List Sh) (x : Int) (A : Option Addr) (c : Nat) (hl : l.length ≤ 9223372036854775807) (w : World) (hs : Sl w A (shV l)) :
    Calls Try.prog 17 #[.slice A l.length c, .int .i64 x] w fun e w' => e = strE (atA l x) ∧ Below w.heap.size w w' := by
  cases h1 : rightB l with
  | false =>
    have hr : atA l x = (⟨#[]⟩, 90) := by rw [atA, if_neg (by rw [h1]; simp)]
    rw [hr]
    have HRT := Lib.hid (right_any l A c hl w hs)
    rw [h1] at HRT
    clear h1 hr
    go_enter Try.func17, Try.ntmps17
    go_wp2_with fail
    refine HRT.out.mono ?_
    rintro e w1 ⟨rfl, hb⟩
    go_wp2
    go_ret2
    exact ⟨rfl, hb⟩
  | true =>
    have HRT := Lib.hid (right_any l A c hl w hs)
    rw [h1] at HRT
    by_cases hx0 : x < 0
    · have hr : atA l x = (⟨#[]⟩, 1) := by rw [atA, if_pos h1, if_neg (by simp [dig]; omega)]
      rw [hr]
      clear h1 hr
      go_enter Try.func17, Try.ntmps17
      go_wp2_with fail
      refine HRT.out.mono ?_
      rintro e w1 ⟨rfl, hb⟩
      go_wp2
      go_ret2
      exact ⟨rfl, hb⟩
    by_cases hx1 : 255 < x
    · have hr : atA l x = (⟨#[]⟩, 1) := by rw [atA, if_pos h1, if_neg (by simp [dig]; omega)]
      rw [hr]
      clear h1 hr
      go_enter Try.func17, Try.ntmps17
      go_wp2_with fail
      refine HRT.out.mono ?_
      rintro e w1 ⟨rfl, hb⟩
      go_wp2
      go_ret2
      exact ⟨rfl, hb⟩
    have hd : dig x = true := by simp [dig]; omega
    rw [atA_yes h1 hd]
    obtain ⟨p1, p2, p3, p4⟩ := rightB_of h1
    have hok : weightsA (xsL l) x = (wgtsI (xsL l) x, true) := by rw [weightsA, if_pos (okWt_of h1 hd)]
    have HAP := Lib.hid (fun V h => apart_any l p1 p2 p3 A c V h)
    have HWT : Hid (∀ V N, Sl V (some ⟨N, 0, none⟩) (intsI (xsL l)) → Calls Try.prog 34 #[.slice (some ⟨N, 0, none⟩) l.length l.length, .int .i64 x] V fun e w' => (∃ A c, e = .returned (.tuple #[.slice A l.length c, .bool true]) ∧ Sl w' A (intsI (wgtsI (xsL l) x))) ∧ Below V.heap.size V w') := Lib.hid (fun V N h => by
      have := weights_any (xsL l) x (some ⟨N, 0, none⟩) l.length (by rw [xsL_length]; exact hl) V h
      rw [hok, xsL_length] at this
      refine this.mono ?_
      rintro e w' ⟨⟨A, c, he, hsl⟩, hb⟩
      dsimp only at he
      rw [wgtsI_length, xsL_length] at he
      exact ⟨⟨A, c, he, hsl⟩, hb⟩)
    have HSM : Hid (∀ V g M A c, Fld V g → Rws V M l.length (bsG l) → Sl V A (intsI (wgtsI (xsL l) x)) → Calls Try.prog 35 #[.pointer (some ⟨g, 0, none⟩), .slice (some ⟨M, 0, none⟩) l.length l.length, .slice A l.length c] V
        fun e w' => e = .returned (.agg (rowV (accR (wgtsI (xsL l) x) (bsG l) l.length))) ∧ Below V.heap.size V w') := Lib.hid (fun V g M A c hf hr hs => ssum_any g M l.length (bsG l) _ A c (by rw [wgtsI_length, xsL_length]) p2 (wgtsI_dig _ _) V hf hr hs)
    have HTX := Lib.hid (fun V => text_any (accR (wgtsI (xsL l) x) (bsG l) l.length) V)
    clear h1 hok p1 p2 p3 p4 hd
    have hE : Hid (strE (atT l x, 0) = .returned (.tuple #[.string (txt (accR (wgtsI (xsL l) x) (bsG l) l.length)), .int .i64 0])) := Lib.hid rfl
    generalize txt (accR (wgtsI (xsL l) x) (bsG l) l.length) = r at *
    generalize rowV (accR (wgtsI (xsL l) x) (bsG l) l.length) = d at *
    generalize wgtsI (xsL l) x = ws at *
    go_enter Try.func17, Try.ntmps17
    go_wp2_with fail
    refine HRT.out.mono ?_
    rintro e w1 ⟨rfl, hb⟩
    go_wp2_with fail
    refine (HAP.out _ (hs.keep hb)).mono ?_
    rintro e w2 ⟨⟨N, M, rfl, hNM, hN, hM, hsx, hrw⟩, hb2⟩
    replace hb := hb.next' hb2
    clear hb2
    go_wp2_with fail
    refine (HWT.out _ N hsx).mono ?_
    rintro e w3 ⟨⟨B, cB, rfl, hsw⟩, hb3⟩
    replace hrw := hrw.keep hb3
    replace hb := hb.next' hb3
    clear hb3 hsx
    go_wp2_with fail
    refine (new_any _).mono ?_
    rintro e w4 ⟨rfl, hf, hb4⟩
    generalize w3.heap.size = g at hf ⊢
    replace hrw := hrw.keep hb4
    replace hsw := hsw.keep hb4
    replace hb := hb.next' hb4
    go_wp2_with fail
    refine (HSM.out _ g M B cB hf hrw hsw).mono ?_
    rintro e w5 ⟨rfl, hb5⟩
    replace hb := hb.next' hb5
    go_wp2_with fail
    refine (HTX.out _).mono ?_
    rintro e w6 ⟨rfl, hb6⟩
    replace hb := hb.next' hb6
    go_wp2
    go_ret2
    exact ⟨hE.out.symm, hb⟩
set_option maxHeartbeats 1000000 in
theorem combine_any (l : List Sh) (A : Option Addr) (c : Nat) (hl : l.length ≤ 9223372036854775807) (w : World) (hs : Sl w A (shV l)) :
    Calls Try.prog 15 #[.slice A l.length c] w fun e w' => e = strE (combA l) ∧ Below w.heap.size w w' := by
  have HZ := Lib.hid (shows_any l A c hl w hs)
  cases h1 : zeroB l with
  | true =>
    have hr : combA l = (⟨#[]⟩, 90) := by rw [combA, if_pos h1]
    rw [hr]
    rw [h1] at HZ
    clear h1 hr
    go_enter Try.func15, Try.ntmps15
    go_wp2_with fail
    refine HZ.out.mono ?_
    rintro e w1 ⟨rfl, hb⟩
    go_wp2
    go_ret2
    exact ⟨rfl, hb⟩
  | false =>
    have hr : combA l = atA l 0 := by rw [combA, if_neg (by rw [h1]; simp)]
    rw [hr]
    rw [h1] at HZ
    have HAT := Lib.hid (fun V h => at_any l 0 A c hl V h)
    obtain ⟨⟨r, t⟩, hrt⟩ : ∃ r, atA l 0 = r := ⟨_, rfl⟩
    rw [hrt] at HAT ⊢
    clear h1 hr hrt
    go_enter Try.func15, Try.ntmps15
    go_wp2_with fail
    refine HZ.out.mono ?_
    rintro e w1 ⟨rfl, hb⟩
    go_wp2_with fail
    refine (HAT.out _ (hs.keep hb)).mono ?_
    rintro e w2 ⟨rfl, hb2⟩
    unfold strE
    go_wp2
    go_ret2
    exact ⟨rfl, hb.next' hb2⟩
end Go.Proofs.Ytljckcegcfidoaa

/-
  keyholeref09: the contracts of Same and Big; the document's rows.
-/
namespace Go.Proofs.Ytljckcegcfidoaa
open Go.RowKit Go.Kx
set_option maxRecDepth 20000

theorem sh_ext {l m : List Sh} (h : l.length = m.length) (he : ∀ k, k < l.length → l.getD k sh0 = m.getD k sh0) : l = m := by
  apply List.ext_getElem?
  intro k
  by_cases hk : k < l.length
  · rw [getD_at hk, getD_at (by omega), he k hk]
  · rw [List.getElem?_eq_none (by omega), List.getElem?_eq_none (by omega)]
set_option maxHeartbeats 2000000 in
theorem same_yes (l : List Sh) (A B : Option Addr) (c d : Nat) (hl : l.length ≤ 9223372036854775807) (w : World) (hs : Sl w A (shV l)) (hs2 : Sl w B (shV l)) :
    Calls Try.prog 12 #[.slice A l.length c, .slice B l.length d] w fun e w' => e = .returned (.bool true) ∧ Below w.heap.size w w' := by
  go_enter Try.func12, Try.ntmps12
  go_wp2
  go_loopw [5] (fun i wr => ∃ k : Nat, k ≤ l.length ∧ i = .int .i64 (k : Int) ∧ Below w.heap.size w wr) (fun i _ => l.length - (intOf i).toNat)
  case atStart => exact ⟨0, by omega, rfl, Below.refl _ _⟩
  case round =>
    obtain ⟨k, hk, rfl, hb⟩ := hrel
    by_cases hlt : k < l.length
    · obtain ⟨b, off, rfl, hx, hy⟩ := sl_sh (hs.keep hb) hlt
      obtain ⟨b2, off2, rfl, hx2, hy2⟩ := sl_sh (hs2.keep hb) hlt
      generalize (l.getD k sh0).1 = x at *
      generalize (l.getD k sh0).2 = y at *
      have hbD := fun n : Nat => hb.next' (Below.drewN0 wr n)
      clear hb
      go_wp2
      go_quiet (fail)
      have hb := hbD nq
      clear hbD
      generalize wr.drewN nq = W2 at *
      go_wp2
      go_roundw
      case rel => exact ⟨k + 1, by omega, by go_num, hb⟩
      case measure => simp [intOf]; omega
    · obtain rfl : k = l.length := by omega
      go_wp2
      go_ret
      exact ⟨rfl, hb⟩

/-! ### Big -/
def bigB (l : List Sh) : Bool := (decide (8 < l.length) && decide (l.length ≤ 255)) || decide (300 < l.length) || l.any fun s => decide (100 < s.2.size)
theorem bigB_no {l : List Sh} (h : bigB l = false) : (l.length ≤ 8 ∨ 255 < l.length) ∧ l.length ≤ 300 ∧ ∀ k, k < l.length → (l.getD k sh0).2.size ≤ 100 := by
  simp only [bigB, Bool.or_eq_false_iff, Bool.and_eq_false_iff, decide_eq_false_iff_not, List.any_eq_false, decide_eq_true_eq] at h
  refine ⟨by omega, by omega, fun k hk => ?_⟩
  have := h.2 l[k] (List.getElem_mem hk)
  rw [List.getD, List.getElem?_eq_getElem hk]
  show l[k].2.size ≤ 100
  omega
theorem any_big {l : List Sh} {k : Nat} (hk : k < l.length) (h : 100 < (l.getD k sh0).2.size) : bigB l = true := by
  have : (l.any fun s => decide (100 < s.2.size)) = true := by
    rw [List.any_eq_true]
    refine ⟨l[k], List.getElem_mem hk, ?_⟩
    rw [List.getD, List.getElem?_eq_getElem hk] at h
    simpa using h
  simp [bigB, this]
theorem no_big {l : List Sh} (h1 : l.length ≤ 8 ∨ 255 < l.length) (h2 : l.length ≤ 300) (h : ∀ k, k < l.length → (l.getD k sh0).2.size ≤ 100) : bigB l = false := by
  simp only [bigB, Bool.or_eq_false_iff, Bool.and_eq_false_iff, decide_eq_false_iff_not, List.any_eq_false, decide_eq_true_eq]
  refine ⟨⟨by omega, by omega⟩, fun s hs => ?_⟩
  obtain ⟨k, hk, rfl⟩ := List.getElem_of_mem hs
  have := h k hk
  rw [List.getD, List.getElem?_eq_getElem hk] at this
  have : l[k].2.size ≤ 100 := this
  omega
set_option maxHeartbeats 2000000 in
theorem big_any (l : List Sh) (A : Option Addr) (c : Nat) (hl : l.length ≤ 9223372036854775807) (w : World) (hs : Sl w A (shV l)) :
    Calls Try.prog 13 #[.slice A l.length c] w fun e w' => e = .returned (.bool (bigB l)) ∧ w' = w := by
  by_cases h1 : 8 < (l.length : Int)
  · by_cases h2 : (l.length : Int) ≤ 255
    · have hr : bigB l = true := by simp [bigB]; omega
      rw [hr]
      go_enter Try.func13, Try.ntmps13
      go_wp2
      go_ret
      exact ⟨rfl, rfl⟩
    by_cases h3 : 300 < (l.length : Int)
    · have hr : bigB l = true := by simp [bigB]; omega
      rw [hr]
      go_enter Try.func13, Try.ntmps13
      go_wp2
      go_ret
      exact ⟨rfl, rfl⟩
    go_enter Try.func13, Try.ntmps13
    go_wp2
    go_loop [3] (fun i => ∃ k : Nat, k ≤ l.length ∧ i = .int .i64 (k : Int) ∧ Hid (∀ j, j < k → (l.getD j sh0).2.size ≤ 100)) (fun i => l.length - (intOf i).toNat)
    case atStart => exact ⟨0, by omega, rfl, Lib.hid (fun j hj => by omega)⟩
    case round =>
      obtain ⟨k, hk, rfl, hd⟩ := hrel
      by_cases hlt : k < l.length
      · obtain ⟨b, off, rfl, hx, hy⟩ := sl_sh hs hlt
        have HB := Lib.hid (fun h => any_big (l := l) hlt h)
        have HD : Hid ((l.getD k sh0).2.size ≤ 100 → ∀ j, j < k + 1 → (l.getD j sh0).2.size ≤ 100) := Lib.hid (fun h j hj => by
          by_cases e : j = k
          · rw [e]; exact h
          · exact hd.out j (by omega))
        generalize (l.getD k sh0).2 = y at *
        by_cases hz : (100 : Int) < (y.size : Int)
        · have e := Lib.hid (HB.out (by omega))
          go_wp2
          go_ret
          exact ⟨ret_bool e.out.symm, rfl⟩
        · have e := Lib.hid (HD.out (by omega))
          go_wp2
          go_round
          case rel => exact ⟨k + 1, by omega, by go_num, e⟩
          case measure => simp [intOf]; omega
      · obtain rfl : k = l.length := by omega
        have e := Lib.hid (no_big (l := l) (by omega) (by omega) hd.out)
        go_wp2
        go_ret
        exact ⟨ret_bool e.out.symm, rfl⟩
  · have h2 : ¬ (300 : Int) < (l.length : Int) := by omega
    go_enter Try.func13, Try.ntmps13
    go_wp2
    go_loop [3] (fun i => ∃ k : Nat, k ≤ l.length ∧ i = .int .i64 (k : Int) ∧ Hid (∀ j, j < k → (l.getD j sh0).2.size ≤ 100)) (fun i => l.length - (intOf i).toNat)
    case atStart => exact ⟨0, by omega, rfl, Lib.hid (fun j hj => by omega)⟩
    case round =>
      obtain ⟨k, hk, rfl, hd⟩ := hrel
      by_cases hlt : k < l.length
      · obtain ⟨b, off, rfl, hx, hy⟩ := sl_sh hs hlt
        have HB := Lib.hid (fun h => any_big (l := l) hlt h)
        have HD : Hid ((l.getD k sh0).2.size ≤ 100 → ∀ j, j < k + 1 → (l.getD j sh0).2.size ≤ 100) := Lib.hid (fun h j hj => by
          by_cases e : j = k
          · rw [e]; exact h
          · exact hd.out j (by omega))
        generalize (l.getD k sh0).2 = y at *
        by_cases hz : (100 : Int) < (y.size : Int)
        · have e := Lib.hid (HB.out (by omega))
          go_wp2
          go_ret
          exact ⟨ret_bool e.out.symm, rfl⟩
        · have e := Lib.hid (HD.out (by omega))
          go_wp2
          go_round
          case rel => exact ⟨k + 1, by omega, by go_num, e⟩
          case measure => simp [intOf]; omega
      · obtain rfl : k = l.length := by omega
        have e := Lib.hid (no_big (l := l) (by omega) (by omega) hd.out)
        go_wp2
        go_ret
        exact ⟨ret_bool e.out.symm, rfl⟩
end Go.Proofs.Ytljckcegcfidoaa

/-
  Slices that a walk appends to: what they read as.
-/
namespace Go.Proofs.Ytljckcegcfidoaa
open Go.RowKit Go.Kx
set_option maxRecDepth 20000

theorem octet_info : (Try.prog.info? 5).map (fun i => (i.zero, i.size, i.bytes)) = some (some (.int .u8 0), 1, 1) := by kernel_rfl
def byts (l : List UInt8) : List Value := l.map (fun b : UInt8 => Value.int .u8 (b.toNat : Int))
theorem byts_snoc (l : List UInt8) (b : UInt8) : byts l ++ [Value.int .u8 (b.toNat : Int)] = byts (l ++ [b]) := by simp [byts]
theorem take_snocB {l : List UInt8} {k : Nat} {x : UInt8} (h : l[k]? = some x) : l.take k ++ [x] = l.take (k + 1) := by rw [List.take_add_one, h]; rfl
theorem own_str {w : World} {B0 : Nat} {v : Value} {l : List UInt8} (h : w.ownsRow B0 5 1 v l.length (byts l)) :
    ∃ A c, v = .slice A l.length c ∧ (0 < l.length → (convert 54 9 v).run Try.prog w = .ok (.string ⟨l.toArray⟩) w) := by
  obtain ⟨A, c, rfl, hs⟩ := own_sl h
  refine ⟨A, c, rfl, fun h0 => ?_⟩
  rcases hs with hs | ⟨b, off, rfl, _, hc⟩
  · have : l = [] := by simpa [byts] using hs
    subst this
    simp at h0
  · refine run_convert_bytes_back (P := Try.prog) w 54 9 5 ⟨b, off, none⟩ c l Try.underlying54 Try.underlying5 Try.underlying9 (fun j hj => ?_)
    rw [show (⟨b, off, none⟩ : Addr).add j = ⟨b, off + j, none⟩ by unfold Addr.add; split <;> simp_all]
    rw [hc j (.int .u8 (l[j].toNat : Int)) (by simp [byts, hj])]
theorem own_strs {w : World} {B0 : Nat} {v : Value} {l : List UInt8} (h : w.ownsRow B0 5 1 v l.length (byts l)) :
    ∃ A c, v = .slice A l.length c ∧ (convert 54 9 v).run Try.prog w = .ok (.string ⟨l.toArray⟩) w := by
  obtain ⟨A, c, rfl, hc⟩ := own_str h
  refine ⟨A, c, rfl, ?_⟩
  rcases Nat.eq_zero_or_pos l.length with h0 | h0
  · obtain rfl : l = [] := List.eq_nil_of_length_eq_zero h0
    show (convert 54 9 (.slice A 0 c)).run Try.prog w = _
    rw [run_convert_bytes_string w 54 9 5 A 0 c Try.underlying54 Try.underlying5 Try.underlying9]
    cases A <;> simp [Conv.bytesToString, loadCells] <;> rfl
  · exact hc h0
end Go.Proofs.Ytljckcegcfidoaa

/-
  keyholeref01.Many: the contract (a part of Refm).
-/
namespace Go.Proofs.Ytljckcegcfidoaa
open Go.RowKit Go.Kx
set_option maxRecDepth 20000

def manyAt (c k j : Nat) : Nat := if j < k then c else 0
theorem manyAt_set (c k j : Nat) : (if j = k then c else manyAt c k j) = manyAt c (k + 1) j := by
  unfold manyAt
  by_cases h : j = k
  · subst h; simp
  · rw [if_neg h]
    by_cases h2 : j < k
    · rw [if_pos h2, if_pos (by omega)]
    · rw [if_neg h2, if_neg (by omega)]
set_option maxHeartbeats 1000000 in
theorem rmany_any (c : UInt8) (n : Nat) (hn : n ≤ 100000) (w : World) :
    Calls Try.prog 28 #[.int .u8 (c.toNat : Int), .int .i64 (n : Int)] w fun e w' => e = .returned (.string ⟨(List.replicate n c).toArray⟩) ∧ Below w.heap.size w w' := by
  have hmk := run_make_row' (P := Try.prog) 54 5 (.int .u8 0) 1 Try.underlying54 octet_info rfl .i64 .i64 n (by omega) (by omega)
  obtain ⟨y, hy⟩ : ∃ y : Nat, c.toNat = y := ⟨_, rfl⟩
  have HY := Lib.hid hy
  rw [hy]
  clear hy
  go_enter Try.func28, Try.ntmps28
  go_wp2
  go_loopw [6] (fun i wr => ∃ k : Nat, k ≤ n ∧ i = .int .i64 k ∧ wr.rowIs w.heap.size 5 n (fun j => .int .u8 (manyAt y k j : Nat)) ∧ Below w.heap.size w wr) (fun i _ => n - (intOf i).toNat)
  case atStart =>
    refine ⟨0, Nat.zero_le _, rfl, ?_, Below.alloc0 _ _⟩
    exact (World.rowIs_made w (.int .u8 0) n 5).congr (g := fun j => .int .u8 (manyAt y 0 j : Nat)) (fun j _ => by simp [manyAt])
  case round =>
    obtain ⟨k, hk, rfl, hrow, hb⟩ := hrel
    by_cases hlt : k < n
    · have hload := hrow.cell (i := k) hlt
      have hfz := hrow.frozen k
      generalize manyAt y k k = z at hload
      go_wp2
      go_roundw
      case rel =>
        refine ⟨k + 1, by omega, by go_num, (hrow.set k _).congr fun j _ => ?_, hb.setCell (p := ⟨w.heap.size, k, none⟩) (by simp) _⟩
        rw [← manyAt_set]
        split <;> rfl
      case measure => simp [intOf]; omega
    · obtain rfl : k = n := by omega
      have hconv : (convert 54 9 (.slice (some ⟨w.heap.size, 0, none⟩) k k)).run Try.prog wr = .ok (.string ⟨(List.replicate k c).toArray⟩) wr := by
        have hc := run_convert_bytes_back (P := Try.prog) wr 54 9 5 ⟨w.heap.size, 0, none⟩ k (List.replicate k c) Try.underlying54 Try.underlying5 Try.underlying9 (fun j hj => by
          have hj' : j < k := by simpa using hj
          have := hrow.cell (i := j) hj'
          rw [show (⟨w.heap.size, 0, none⟩ : Addr).add j = ⟨w.heap.size, j, none⟩ by unfold Addr.add; split <;> simp_all, this, manyAt, if_pos hj', ← HY.out]
          simp)
        rwa [List.length_replicate] at hc
      generalize hout : List.replicate k c = out at *
      have HO := Lib.hid hout
      clear hout
      go_wp2
      go_ret
      exact ⟨by rw [HO.out]; rfl, hb⟩
end Go.Proofs.Ytljckcegcfidoaa

/-
  keyholelaw09.shares: the document's rows.
-/
namespace Go.Proofs.Ytljckcegcfidoaa
open Go.RowKit Go.Kx
set_option maxRecDepth 20000

def mny (c : UInt8) : ByteArray := ⟨(List.replicate 32 c).toArray⟩
theorem mny_txt {R : Nat → Gf.G} {c : UInt8} (h : txtL R = List.replicate 32 c) : txt R = mny c := by rw [txt, h]; rfl
theorem doc_split : splL (mny 5 ++ mny 2) 3 2 = [(1, mny 7), (2, mny 1), (3, mny 3)] := by
  have h1 : txtL (shY (mny 5 ++ mny 2) 2 0) = List.replicate 32 7 := by decide +kernel
  have h2 : txtL (shY (mny 5 ++ mny 2) 2 1) = List.replicate 32 1 := by decide +kernel
  have h3 : txtL (shY (mny 5 ++ mny 2) 2 2) = List.replicate 32 3 := by decide +kernel
  show [(_, txt _), (_, txt _), (_, txt _)] = _
  rw [mny_txt h1, mny_txt h2, mny_txt h3]
  rfl
theorem doc_comb : combA [(1, mny 7), (3, mny 3)] = (mny 5, 0) := by
  have h1 : zeroB [(1, mny 7), (3, mny 3)] = false := by decide +kernel
  have h2 : rightB [(1, mny 7), (3, mny 3)] = true := by decide +kernel
  have h3 : txtL (accR (wgtsI (xsL [(1, mny 7), (3, mny 3)]) 0) (bsG [(1, mny 7), (3, mny 3)]) 2) = List.replicate 32 5 := by decide +kernel
  rw [combA, if_neg (by rw [h1]; simp), atA_yes h2 (by decide)]
  show (txt _, (0 : Int)) = _
  rw [show ([(1, mny 7), (3, mny 3)] : List Sh).length = 2 from rfl, mny_txt h3]
theorem doc_none : combA [] = (⟨#[]⟩, 90) := rfl
theorem mny_size (c : UInt8) : (mny c).size = 32 := rfl

set_option maxHeartbeats 4000000 in
theorem shares_any (w : World) : Calls Try.prog 11 #[] w fun e w' => e = .returned (.bool true) ∧ Below w.heap.size w w' := by
  have HM : ∀ (c : UInt8) (n : Int) (V : World), (c.toNat : Int) = n → Calls Try.prog 28 #[.int .u8 n, .int .i64 32] V fun e w' => e = .returned (.string (mny c)) ∧ Below V.heap.size V w' := fun c n V h => by
    have := rmany_any c 32 (by decide) V
    rw [h] at this
    exact this
  have HM5 := Lib.hid (fun V => HM 5 5 V rfl)
  have HM2 := Lib.hid (fun V => HM 2 2 V rfl)
  have HM7 := Lib.hid (fun V => HM 7 7 V rfl)
  have HM1 := Lib.hid (fun V => HM 1 1 V rfl)
  have HM3 := Lib.hid (fun V => HM 3 3 V rfl)
  clear HM
  have HSP : Hid (∀ V, Calls Try.prog 9 #[.string (mny 5), .int .i64 3, .int .i64 2, .string (mny 2)] V fun e w' => (∃ A c, e = shEnd A 3 c 0 ∧ Sl w' A (shV [(1, mny 7), (2, mny 1), (3, mny 3)])) ∧ Below V.heap.size V w') := Lib.hid (fun V => by
    have := split_yes (mny 5) 3 2 (mny 2) rfl (by decide) (by decide) (by decide) (by decide) rfl V
    rw [doc_split] at this
    exact this)
  have HSM : Hid (∀ V A c B d, Sl V A (shV [(1, mny 7), (2, mny 1), (3, mny 3)]) → Sl V B (shV [(1, mny 7), (2, mny 1), (3, mny 3)]) → Calls Try.prog 12 #[.slice A 3 c, .slice B 3 d] V fun e w' => e = .returned (.bool true) ∧ Below V.heap.size V w') := Lib.hid (fun V A c B d h1 h2 =>
    same_yes [(1, mny 7), (2, mny 1), (3, mny 3)] A B c d (by decide) V h1 h2)
  have HCB : Hid (∀ V A c, Sl V A (shV [(1, mny 7), (3, mny 3)]) → Calls Try.prog 15 #[.slice A 2 c] V fun e w' => e = strE (mny 5, 0) ∧ Below V.heap.size V w') := Lib.hid (fun V A c h => by
    have := combine_any [(1, mny 7), (3, mny 3)] A c (by decide) V h
    rw [doc_comb] at this
    exact this)
  have HCN : Hid (∀ V, Calls Try.prog 15 #[.slice none 0 0] V fun e w' => e = strE (⟨#[]⟩, 90) ∧ Below V.heap.size V w') := Lib.hid (fun V => by
    have := combine_any [] none 0 (by decide) V (Sl.nil _ _)
    rw [doc_none] at this
    exact this)
  generalize mny 5 = m5 at *
  generalize mny 2 = m2 at *
  generalize mny 7 = m7 at *
  generalize mny 1 = m1 at *
  generalize mny 3 = m3 at *
  go_enter Try.func11, Try.ntmps11
  go_wp2_with fail
  refine (HM5.out _).mono ?_
  rintro e w1 ⟨rfl, hb⟩
  go_wp2_with fail
  refine (HM2.out _).mono ?_
  rintro e w2 ⟨rfl, hb2⟩
  replace hb := hb.next' hb2
  go_wp2_with fail
  refine (HSP.out _).mono ?_
  rintro e w3 ⟨⟨A, c, rfl, hs⟩, hb3⟩
  unfold shEnd
  replace hb := hb.next' hb3
  go_wp2_with fail
  refine (HM7.out _).mono ?_
  rintro e w4 ⟨rfl, hb4⟩
  replace hb := hb.next' hb4
  replace hs := hs.keep hb4
  go_wp2_with fail
  refine (HM1.out _).mono ?_
  rintro e w5 ⟨rfl, hb5⟩
  replace hb := hb.next' hb5
  replace hs := hs.keep hb5
  go_wp2_with fail
  refine (HM3.out _).mono ?_
  rintro e w6 ⟨rfl, hb6⟩
  replace hb := hb.next' hb6
  replace hs := hs.keep hb6
  clear hb2 hb3 hb4 hb5 hb6
  go_wp2_with fail
  refine (HSM.out _ _ _ _ _ (hs.keep (Below.alloc0 _ _)) (Sl.new' rfl)).mono ?_
  rintro e w7 ⟨rfl, hb7⟩
  replace hs := (hs.keep (Below.alloc0 _ _)).keep hb7
  replace hb := (hb.al _).next' hb7
  clear hb7
  obtain ⟨b, off, rfl, hx0, hy0⟩ := sl_sh hs (k := 0) (by simp)
  obtain ⟨b', off', e', hx2, hy2⟩ := sl_sh hs (k := 2) (by simp)
  cases e'
  change w7.cell? ⟨b, off + 0 * 2, none⟩ = some (.int .i64 1) at hx0
  change w7.cell? ⟨b, off + 0 * 2 + 1, none⟩ = some (.string m7) at hy0
  change w7.cell? ⟨b, off + 2 * 2, none⟩ = some (.int .i64 3) at hx2
  change w7.cell? ⟨b, off + 2 * 2 + 1, none⟩ = some (.string m3) at hy2
  simp only [Nat.zero_mul, Nat.add_zero, Nat.reduceMul] at hx0 hy0 hx2 hy2
  go_wp2_with fail
  refine Uptot.begin_ [] (fun V : World => V.cell? ⟨b, off, none⟩ = some (.int .i64 1) ∧ V.cell? ⟨b, off + 1, none⟩ = some (.string m7) ∧ V.cell? ⟨b, off + 4, none⟩ = some (.int .i64 3) ∧ V.cell? ⟨b, off + 4 + 1, none⟩ = some (.string m3)) (fun _ : World => True) (by kernel_rfl) ?_
  have hKS : Hid (∀ V, Below w7.heap.size w7 V → (V.cell? ⟨b, off, none⟩ = some (.int .i64 1) ∧ V.cell? ⟨b, off + 1, none⟩ = some (.string m7) ∧ V.cell? ⟨b, off + 4, none⟩ = some (.int .i64 3) ∧ V.cell? ⟨b, off + 4 + 1, none⟩ = some (.string m3)) ∧ True) := Lib.hid fun V hV =>
    ⟨⟨(hV.cell (p := ⟨b, off, none⟩) (block_lt_of_cell hx0)).trans hx0, (hV.cell (p := ⟨b, off + 1, none⟩) (block_lt_of_cell hy0)).trans hy0, (hV.cell (p := ⟨b, off + 4, none⟩) (block_lt_of_cell hx2)).trans hx2, (hV.cell (p := ⟨b, off + 4 + 1, none⟩) (block_lt_of_cell hy2)).trans hy2⟩, trivial⟩
  have hbV : Below w7.heap.size w7 w7.drew := Below.drew0 w7
  have hST := hKS.out _ hbV
  clear hx0 hy0 hx2 hy2
  generalize w7.drew = V at *
  refine Uptot.takeS (i := 0) (v := ?_) rfl (by kernel_rfl) (by kernel_rfl) (by kernel_rfl) (by kernel_rfl) (fun _ _ _ h => h) (Or.inl ⟨by rfl, ?_⟩) hST ?_
  rotate_left 1
  · intro w9 hSw; (try dsimp only at hSw); obtain ⟨s1', s2', s3', s4'⟩ := hSw; go_simp; (try with_reducible rfl)
  try simp only [Act.put, List.setIfInBounds_toArray, List.set_cons_zero, List.set_cons_succ]
  refine Uptot.takeS (i := 1) (v := ?_) rfl (by kernel_rfl) (by kernel_rfl) (by kernel_rfl) (by kernel_rfl) (fun _ _ _ h => h) (Or.inl ⟨by rfl, ?_⟩) hST ?_
  rotate_left 1
  · intro w9 hSw; (try dsimp only at hSw); obtain ⟨s1', s2', s3', s4'⟩ := hSw; go_simp; (try with_reducible rfl)
  try simp only [Act.put, List.setIfInBounds_toArray, List.set_cons_zero, List.set_cons_succ]
  refine Uptot.takeS (i := 2) (v := ?_) rfl (by kernel_rfl) (by kernel_rfl) (by kernel_rfl) (by kernel_rfl) (fun _ _ _ h => h) (Or.inl ⟨by rfl, ?_⟩) hST ?_
  rotate_left 1
  · intro w9 hSw; (try dsimp only at hSw); obtain ⟨s1', s2', s3', s4'⟩ := hSw; go_simp; (try with_reducible rfl)
  try simp only [Act.put, List.setIfInBounds_toArray, List.set_cons_zero, List.set_cons_succ]
  refine Uptot.takeS (i := 3) (v := ?_) rfl (by kernel_rfl) (by kernel_rfl) (by kernel_rfl) (by kernel_rfl) (fun _ _ _ h => h) (Or.inl ⟨by rfl, ?_⟩) hST ?_
  rotate_left 1
  · intro w9 hSw; (try dsimp only at hSw); obtain ⟨s1', s2', s3', s4'⟩ := hSw; go_simp; (try with_reducible rfl)
  try simp only [Act.put, List.setIfInBounds_toArray, List.set_cons_zero, List.set_cons_succ]
  refine Uptot.takeS (i := 4) (v := ?_) rfl (by kernel_rfl) (by kernel_rfl) (by kernel_rfl) (by kernel_rfl) (fun _ _ _ h => h) (Or.inl ⟨by rfl, ?_⟩) hST ?_
  rotate_left 1
  · intro w9 hSw; (try dsimp only at hSw); obtain ⟨s1', s2', s3', s4'⟩ := hSw; go_simp; (try with_reducible rfl)
  try simp only [Act.put, List.setIfInBounds_toArray, List.set_cons_zero, List.set_cons_succ]
  refine Uptot.takeS (i := 5) (v := ?_) rfl (by kernel_rfl) (by kernel_rfl) (by kernel_rfl) (by kernel_rfl) (fun _ _ _ h => h) (Or.inl ⟨by rfl, ?_⟩) hST ?_
  rotate_left 1
  · intro w9 hSw; (try dsimp only at hSw); obtain ⟨s1', s2', s3', s4'⟩ := hSw; go_simp; (try with_reducible rfl)
  try simp only [Act.put, List.setIfInBounds_toArray, List.set_cons_zero, List.set_cons_succ]
  refine Uptot.one (i := 6) rfl (by kernel_rfl) (fun K hK9 => ?_)
  go_simp
  have hsB : Sl (V.alloc (.cells #[.int .i64 1, .string m7, .int .i64 3, .string m3] 39)) (some ⟨V.heap.size, 0, none⟩) (shV [(1, m7), (3, m3)]) := Sl.new' rfl
  replace hbV := hbV.al (.cells #[.int .i64 1, .string m7, .int .i64 3, .string m3] 39)
  replace hST := hKS.out _ hbV
  refine hK9.out _ _ (Cond.ahead hST) ?_
  clear hK9 K
  generalize World.alloc V _ = V2 at *
  generalize V.heap.size = NB at *
  try simp only [Act.put, List.setIfInBounds_toArray, List.set_cons_zero, List.set_cons_succ]
  refine Uptot.one (i := 7) rfl (by kernel_rfl) (fun K hK9 => ?_)
  go_simp
  go_at_call 15
  refine (HCB.out _ _ _ hsB).mono ?_
  rintro e' V9 ⟨rfl, hb9⟩
  unfold strE
  replace hbV := hbV.next' hb9
  replace hST := hKS.out _ hbV
  refine hK9.out _ _ (Cond.ahead hST) ?_
  clear hK9 K hb9
  refine Uptot.takeS (i := 8) (v := ?_) rfl (by kernel_rfl) (by kernel_rfl) (by kernel_rfl) (by kernel_rfl) (fun _ _ _ h => h) (Or.inl ⟨by rfl, ?_⟩) hST ?_
  rotate_left 1
  · intro w9 hSw; (try dsimp only at hSw); obtain ⟨s1', s2', s3', s4'⟩ := hSw; go_simp; (try with_reducible rfl)
  try simp only [Act.put, List.setIfInBounds_toArray, List.set_cons_zero, List.set_cons_succ]
  refine Uptot.takeS (i := 9) (v := ?_) rfl (by kernel_rfl) (by kernel_rfl) (by kernel_rfl) (by kernel_rfl) (fun _ _ _ h => h) (Or.inl ⟨by rfl, ?_⟩) hST ?_
  rotate_left 1
  · intro w9 hSw; (try dsimp only at hSw); obtain ⟨s1', s2', s3', s4'⟩ := hSw; go_simp; (try with_reducible rfl)
  try simp only [Act.put, List.setIfInBounds_toArray, List.set_cons_zero, List.set_cons_succ]
  refine Uptot.takeS (i := 10) (v := ?_) rfl (by kernel_rfl) (by kernel_rfl) (by kernel_rfl) (by kernel_rfl) (fun _ _ _ h => h) (Or.inl ⟨by rfl, ?_⟩) hST ?_
  rotate_left 1
  · intro w9 hSw; (try dsimp only at hSw); obtain ⟨s1', s2', s3', s4'⟩ := hSw; go_simp; (try with_reducible rfl)
  try simp only [Act.put, List.setIfInBounds_toArray, List.set_cons_zero, List.set_cons_succ]
  refine Uptot.takeS (i := 11) (v := ?_) rfl (by kernel_rfl) (by kernel_rfl) (by kernel_rfl) (by kernel_rfl) (fun _ _ _ h => h) (Or.inl ⟨by rfl, ?_⟩) hST ?_
  rotate_left 1
  · intro w9 hSw; (try dsimp only at hSw); obtain ⟨s1', s2', s3', s4'⟩ := hSw; go_simp; (try with_reducible rfl)
  try simp only [Act.put, List.setIfInBounds_toArray, List.set_cons_zero, List.set_cons_succ]
  refine Uptot.takeS (i := 12) (v := ?_) rfl (by kernel_rfl) (by kernel_rfl) (by kernel_rfl) (by kernel_rfl) (fun _ _ _ h => h) (Or.inl ⟨by rfl, ?_⟩) hST ?_
  rotate_left 1
  · intro w9 hSw; (try dsimp only at hSw); obtain ⟨s1', s2', s3', s4'⟩ := hSw; go_simp; (try with_reducible rfl)
  refine Uptot.done (by kernel_rfl) ?_ _
  replace hb := hb.next' hbV
  go_wp2_with fail
  refine (HCN.out _).mono ?_
  rintro e w8 ⟨rfl, hb8⟩
  unfold strE
  replace hb := hb.next' hb8
  go_wp2_with fail
  refine (HM5.out _).mono ?_
  rintro e w9 ⟨rfl, hb9⟩
  replace hb := hb.next' hb9
  go_wp2
  go_ret
  exact ⟨rfl, hb⟩
end Go.Proofs.Ytljckcegcfidoaa

/-
  keyholeref01.Unlike: the contract (a part of Ref1: never beside it).
-/
namespace Go.Proofs.Ytljckcegcfidoaa
open Go.RowKit Go.Kx
set_option maxRecDepth 20000

theorem mod_up (x i : Nat) : x % 2 ^ (i + 1) = x % 2 ^ i + 2 ^ i * (x / 2 ^ i % 2) := by rw [Nat.pow_succ, Nat.mod_mul]
theorem div_up (x i : Nat) : x / 2 ^ i / 2 = x / 2 ^ (i + 1) := by rw [Nat.div_div_eq_div_mul, Nat.pow_succ]
theorem bit_of (x i : Nat) : x / 2 ^ i % 2 = (x.testBit i).toNat := by rw [Nat.testBit_eq_decide_div_mod_eq]; rcases Nat.mod_two_eq_zero_or_one (x / 2 ^ i) with h | h <;> simp [h]
theorem xor_up (a b i : Nat) : (a ^^^ b) / 2 ^ i % 2 = if a / 2 ^ i % 2 = b / 2 ^ i % 2 then 0 else 1 := by
  rw [bit_of, bit_of, bit_of, Nat.testBit_xor]
  cases a.testBit i <;> cases b.testBit i <;> rfl
theorem pow_le32 {i : Nat} (h : i ≤ 32) : 2 ^ i ≤ 4294967296 := Nat.pow_le_pow_right (by omega) h
theorem unlike_any (a b : Nat) (ha : a < 4294967296) (hb : b < 4294967296) (w : World) :
    Calls Try.prog 48 #[.int .i64 a, .int .i64 b] w fun e w' => e = .returned (.int .i64 (a ^^^ b : Nat)) ∧ w' = w := by
  go_enter Try.func48, Try.ntmps48
  go_wp2
  go_loop [0, 1, 5, 6, 7] (fun va vb vn vw vi => ∃ k A B n q : Nat, k ≤ 32 ∧ vi = .int .i64 k ∧ Hid (A = a / 2 ^ k) ∧ Hid (B = b / 2 ^ k) ∧ Hid (n = (a ^^^ b) % 2 ^ k) ∧ Hid (q = 2 ^ k) ∧ va = .int .i64 A ∧ vb = .int .i64 B ∧ vn = .int .i64 n ∧ vw = .int .i64 q) (fun _ _ _ _ i => 32 - (intOf i).toNat)
  case atStart => exact ⟨0, a, b, 0, 1, by omega, rfl, Lib.hid (by simp), Lib.hid (by simp), Lib.hid (by omega), Lib.hid rfl, rfl, rfl, rfl, rfl⟩
  case round =>
    obtain ⟨k, A, B, n, q, hk, rfl, hA, hB, hn, hq, rfl, rfl, rfl, rfl⟩ := hrel
    have hAl : A < 4294967296 := by rw [hA.out]; exact Nat.lt_of_le_of_lt (Nat.div_le_self _ _) ha
    have hBl : B < 4294967296 := by rw [hB.out]; exact Nat.lt_of_le_of_lt (Nat.div_le_self _ _) hb
    have hql : q ≤ 4294967296 := by rw [hq.out]; exact pow_le32 hk
    have hnl : n < 4294967296 := by rw [hn.out]; exact Nat.lt_of_le_of_lt (Nat.mod_le _ _) (Nat.xor_lt_two_pow (n := 32) ha hb)
    by_cases hl : k < 32
    · have hA' : Hid (A / 2 = a / 2 ^ (k + 1)) := Lib.hid (by rw [hA.out, div_up])
      have hB' : Hid (B / 2 = b / 2 ^ (k + 1)) := Lib.hid (by rw [hB.out, div_up])
      have hq' : Hid (2 * q = 2 ^ (k + 1)) := Lib.hid (by rw [hq.out, Nat.pow_succ, Nat.mul_comm])
      by_cases hp : A % 2 = B % 2
      · have hn' : Hid (n = (a ^^^ b) % 2 ^ (k + 1)) := Lib.hid (by rw [mod_up, xor_up, ← hA.out, ← hB.out, if_pos hp, ← hn.out]; rfl)
        have ht : ((A : Int) % 2 != (B : Int) % 2) = false := by simp; omega
        clear hA hB hn hq hp
        go_wp2
        go_round
        case rel => exact ⟨k + 1, A / 2, B / 2, n, 2 * q, by omega, by go_num, hA', hB', hn', hq', by go_num, by go_num, by go_num, by go_num⟩
        case measure => simp [intOf]; omega
      · have hn' : Hid (n + q = (a ^^^ b) % 2 ^ (k + 1)) := Lib.hid (by rw [mod_up, xor_up, ← hA.out, ← hB.out, if_neg hp, ← hn.out, ← hq.out]; omega)
        have ht : ((A : Int) % 2 != (B : Int) % 2) = true := by simp; omega
        clear hA hB hn hq hp
        go_wp2
        go_round
        case rel => exact ⟨k + 1, A / 2, B / 2, n + q, 2 * q, by omega, by go_num, hA', hB', hn', hq', by go_num, by go_num, by go_num, by go_num⟩
        case measure => simp [intOf]; omega
    · obtain rfl : k = 32 := by omega
      go_wp2
      go_ret
      exact ⟨ret_int (by rw [hn.out, Nat.mod_eq_of_lt (Nat.xor_lt_two_pow (n := 32) ha hb)]), rfl⟩
theorem unlike_v (a b : Nat) (ha : a < 4294967296) (hb : b < 4294967296) (y : Nat) (hy : a ^^^ b = y) (w : World) :
    Calls Try.prog 48 #[.int .i64 a, .int .i64 b] w fun e w' => e = .returned (.int .i64 (y : Nat)) ∧ w' = w := by
  subst hy; exact unlike_any a b ha hb w
end Go.Proofs.Ytljckcegcfidoaa

/-
  keyholeref07: the contracts of Sum, double, Times, Inv, Div.
-/
namespace Go.Proofs.Ytljckcegcfidoaa
open Go.RowKit Go.Kx
set_option maxRecDepth 20000

theorem rsum_any (a b : Nat) (ha : a < 4294967296) (hb : b < 4294967296) (w : World) : Calls Try.prog 39 #[.int .i64 a, .int .i64 b] w fun e w' => e = .returned (.int .i64 (a ^^^ b : Nat)) ∧ w' = w := by
  go_enter Try.func39, Try.ntmps39
  go_wp2_with fail
  refine (unlike_any a b ha hb _).mono ?_
  rintro e w1 ⟨rfl, rfl⟩
  go_wp2
  go_ret
  exact ⟨rfl, rfl⟩
theorem rdouble_any (a : Nat) (ha : a < 256) (w : World) : Calls Try.prog 64 #[.int .i64 a] w fun e w' => e = .returned (.int .i64 (Gf.dbl a : Nat)) ∧ w' = w := by
  go_enter Try.func64, Try.ntmps64
  by_cases h : 2 * (a : Int) < 256
  · go_wp2
    go_ret
    exact ⟨ret_int (by rw [Gf.dbl, if_pos (by omega)]; omega), rfl⟩
  · go_wp2_with fail
    rw [show 2 * (a : Int) - 256 = ((2 * a - 256 : Nat) : Int) by omega, show (27 : Int) = ((27 : Nat) : Int) from rfl]
    refine (rsum_any _ _ (by omega) (by omega) _).mono ?_
    rintro e w1 ⟨rfl, rfl⟩
    go_wp2
    go_ret
    exact ⟨ret_int (by rw [Gf.dbl, if_neg (by omega)]), rfl⟩
theorem mulK_none : ∀ (k n a : Nat), Gf.mulK k n a 0 = n
  | 0, _, _ => rfl
  | k + 1, n, a => by rw [Gf.mulK, if_neg (by omega), Nat.zero_div]; exact mulK_none k n _
theorem rtimes_any (a b : Nat) (ha : a < 256) (hb : b < 256) (w : World) : Calls Try.prog 40 #[.int .i64 a, .int .i64 b] w fun e w' => e = .returned (.int .i64 (Gf.mulG a b : Nat)) ∧ w' = w := by
  have hm0 : Hid (Gf.mulK 8 0 a b = Gf.mulG a b) := Lib.hid rfl
  generalize Gf.mulG a b = p at *
  go_enter Try.func40, Try.ntmps40
  go_wp2
  go_loop [0, 1, 5] (fun va vb vn => ∃ k A B N : Nat, va = .int .i64 A ∧ vb = .int .i64 B ∧ vn = .int .i64 N ∧ A < 256 ∧ B < 2 ^ k ∧ k ≤ 8 ∧ N < 256 ∧ Hid (Gf.mulK k N A B = p)) (fun _ b _ => (intOf b).toNat)
  case atStart => exact ⟨8, a, b, 0, rfl, rfl, rfl, ha, hb, by omega, by omega, hm0⟩
  case round =>
    clear hm0 hb
    obtain ⟨k, A, B, N, rfl, rfl, rfl, hA, hB, hk, hN, hp⟩ := hrel
    by_cases h0 : 0 < B
    · obtain ⟨j, rfl⟩ : ∃ j, k = j + 1 := by
        cases k with
        | zero => simp at hB; omega
        | succ j => exact ⟨j, rfl⟩
      have hB2 : Hid (B / 2 < 2 ^ j) := Lib.hid (by rw [Nat.pow_succ] at hB; omega)
      have hBl : B < 256 := Nat.lt_of_lt_of_le hB (Nat.pow_le_pow_right (n := 2) (by omega) hk)
      have hD := Lib.hid (Gf.dbl_lt hA)
      have hX := Lib.hid (Gf.xor_lt hN hA)
      clear hB
      by_cases h1 : B % 2 = 1
      · have hq : Hid (Gf.mulK j (N ^^^ A) (Gf.dbl A) (B / 2) = p) := Lib.hid (by rw [← hp.out, Gf.mulK, if_pos h1])
        clear hp
        have t1 : ((B : Int) % 2 == 1) = true := by simp; omega
        go_wp2_with fail
        refine (rsum_any N A (by omega) (by omega) _).mono ?_
        rintro e w1 ⟨rfl, rfl⟩
        go_wp2_with fail
        refine (rdouble_any A hA _).mono ?_
        rintro e w1 ⟨rfl, rfl⟩
        go_wp2
        go_round
        case rel => exact ⟨j, Gf.dbl A, B / 2, N ^^^ A, rfl, by go_num, rfl, hD.out, hB2.out, by omega, hX.out, hq⟩
        case measure => simp [intOf]; omega
      · have hq : Hid (Gf.mulK j N (Gf.dbl A) (B / 2) = p) := Lib.hid (by rw [← hp.out, Gf.mulK, if_neg h1])
        clear hp
        have t1 : ((B : Int) % 2 == 1) = false := by simp; omega
        go_wp2_with fail
        refine (rdouble_any A hA _).mono ?_
        rintro e w1 ⟨rfl, rfl⟩
        go_wp2
        go_round
        case rel => exact ⟨j, Gf.dbl A, B / 2, N, rfl, by go_num, rfl, hD.out, hB2.out, by omega, hN, hq⟩
        case measure => simp [intOf]; omega
    · obtain rfl : B = 0 := by omega
      rw [mulK_none] at hp
      go_wp2
      go_ret
      exact ⟨ret_int (by rw [hp.out]), rfl⟩

theorem rinv_any (a : Int) (w : World) : Calls Try.prog 70 #[.int .i64 a] w fun e w' => e = two (invA a) ∧ w' = w := by
  cases ha : dig a with
  | false =>
    have hr : invA a = (0, false) := by simp [invA, ha]
    rw [hr]
    go_enter Try.func70, Try.ntmps70
    go_wp2_with fail
    refine (rdigit_any _ _).mono ?_
    rintro e w1 ⟨rfl, rfl⟩
    go_wp2
    go_ret2
    exact ⟨rfl, rfl⟩
  | true =>
    by_cases h0 : a = 0
    · have hr : invA a = (0, false) := by simp [invA, h0]
      rw [hr]
      subst h0
      go_enter Try.func70, Try.ntmps70
      go_wp2_with fail
      refine (rdigit_any _ _).mono ?_
      rintro e w1 ⟨rfl, rfl⟩
      go_wp2
      go_ret2
      exact ⟨rfl, rfl⟩
    · have hr : invA a = (Gf.invG a.toNat, true) := by simp [invA, ha, h0]
      rw [hr]
      obtain ⟨m, rfl, hm⟩ := dig_nat ha
      have hm0 : m ≠ 0 := by omega
      have hu : Hid (∀ x, x < 256 → Gf.mulG m x = 1 → x = Gf.invG m) := Lib.hid (fun x hx h => Gf.inv_unique hm hm0 hx h)
      have hi : Hid (Gf.mulG m (Gf.invG m) = 1) := Lib.hid (Gf.mul_inv hm hm0)
      have hil := Gf.invG_lt m
      have hi0 : 1 ≤ Gf.invG m := by have := Gf.invG_ne m; omega
      show Calls _ _ _ _ fun e w' => e = two (Gf.invG m, true) ∧ w' = w
      generalize Gf.invG m = v at *
      have t0 : ((m : Int) == 0) = false := by simp; omega
      go_enter Try.func70, Try.ntmps70
      go_wp2_with fail
      refine (rdigit_any _ _).mono ?_
      rintro e w1 ⟨rfl, rfl⟩
      go_wp2
      go_loop [4] (fun vn => ∃ n : Nat, vn = .int .i64 n ∧ n ≤ v) (fun n => v - (intOf n).toNat)
      case atStart => exact ⟨1, rfl, hi0⟩
      case round =>
        obtain ⟨n, rfl, hn⟩ := hrel
        obtain ⟨x, hx⟩ : ∃ x, Gf.mulG m n = x := ⟨_, rfl⟩
        by_cases h1 : x = 1
        · obtain rfl := hu.out n (by omega) (by omega)
          have t1 : ((x : Int) != 1) = false := by simp; omega
          have HT := Lib.hid (rtimes_any m n hm (by omega))
          rw [hx] at HT
          have HX := Lib.hid hx
          clear hx
          go_wp2_with fail
          refine (HT.out _).mono ?_
          rintro e w1 ⟨rfl, rfl⟩
          go_wp2
          go_ret2
          exact ⟨two_of rfl rfl, rfl⟩
        · have hnv : n ≠ v := fun he => h1 (by rw [← hx, he, hi.out])
          have t1 : ((x : Int) != 1) = true := by simp; omega
          have HT := Lib.hid (rtimes_any m n hm (by omega))
          rw [hx] at HT
          have HX := Lib.hid hx
          clear hx
          go_wp2_with fail
          refine (HT.out _).mono ?_
          rintro e w1 ⟨rfl, rfl⟩
          go_wp2
          go_round
          case rel => exact ⟨n + 1, by go_num, by omega⟩
          case measure => simp [intOf]; omega
theorem rdiv_any (a b : Int) (w : World) : Calls Try.prog 63 #[.int .i64 a, .int .i64 b] w fun e w' => e = two (divA a b) ∧ w' = w := by
  by_cases hb : dig b = true ∧ b ≠ 0
  · have hi : invA b = (Gf.invG b.toNat, true) := by simp [invA, hb]
    cases ha : dig a with
    | false =>
      have hd : divA a b = (0, false) := by simp [divA, ha]
      rw [hd]
      go_enter Try.func63, Try.ntmps63
      go_wp2_with fail
      refine (rinv_any b _).mono ?_
      rw [hi]
      rintro e w1 ⟨rfl, rfl⟩
      unfold two
      go_wp2_with fail
      refine (rdigit_any _ _).mono ?_
      rintro e w1 ⟨rfl, rfl⟩
      go_wp2
      go_ret2
      exact ⟨rfl, rfl⟩
    | true =>
      have hd : divA a b = (Gf.mulG a.toNat (Gf.invG b.toNat), true) := by simp [divA, ha, hb]
      rw [hd]
      obtain ⟨m, rfl, hm⟩ := dig_nat ha
      go_enter Try.func63, Try.ntmps63
      go_wp2_with fail
      refine (rinv_any b _).mono ?_
      rw [hi]
      rintro e w1 ⟨rfl, rfl⟩
      unfold two
      go_wp2_with fail
      refine (rdigit_any _ _).mono ?_
      rintro e w1 ⟨rfl, rfl⟩
      go_wp2_with fail
      refine (rtimes_any m _ hm (Gf.invG_lt _) _).mono ?_
      rintro e w1 ⟨rfl, rfl⟩
      go_wp2
      go_ret2
      exact ⟨rfl, rfl⟩
  · have hi : invA b = (0, false) := by simp [invA]; simpa using hb
    have hd : divA a b = (0, false) := by simp [divA]; intro _; simpa using hb
    rw [hd]
    go_enter Try.func63, Try.ntmps63
    go_wp2_with fail
    refine (rinv_any b _).mono ?_
    rw [hi]
    rintro e w1 ⟨rfl, rfl⟩
    unfold two
    go_wp2
    go_ret2
    exact ⟨rfl, rfl⟩
end Go.Proofs.Ytljckcegcfidoaa

/-
  keyholeref08.Weights: the contract.
-/
namespace Go.Proofs.Ytljckcegcfidoaa
open Go.RowKit Go.Kx
set_option maxRecDepth 20000

/-! ### sums, products, quotients of digits -/
theorem gsum_any (a b : Gf.G) (V : World) : Calls Try.prog 39 #[.int .i64 (a.v : Nat), .int .i64 (b.v : Nat)] V fun e w' => e = .returned (.int .i64 ((a + b).v : Nat)) ∧ w' = V :=
  rsum_any a.v b.v (Nat.lt_trans a.lt (by decide)) (Nat.lt_trans b.lt (by decide)) V
theorem gtimes_any (a b : Gf.G) (V : World) : Calls Try.prog 40 #[.int .i64 (a.v : Nat), .int .i64 (b.v : Nat)] V fun e w' => e = .returned (.int .i64 ((a * b).v : Nat)) ∧ w' = V :=
  rtimes_any a.v b.v a.lt b.lt V
theorem gdiv_any (a b : Gf.G) (hb : b ≠ 0) (V : World) : Calls Try.prog 63 #[.int .i64 (a.v : Nat), .int .i64 (b.v : Nat)] V fun e w' => e = two ((a * b.inv).v, true) ∧ w' = V := by
  rw [← divA_G a b hb]
  exact rdiv_any _ _ V
theorem ginv_any (a : Gf.G) (ha : a ≠ 0) (V : World) : Calls Try.prog 70 #[.int .i64 (a.v : Nat)] V fun e w' => e = two (a.inv.v, true) ∧ w' = V := by
  have e : invA (a.v : Nat) = (a.inv.v, true) := by
    rw [invA, if_pos ⟨dig_v a, by have := Gf.G.v_ne ha; omega⟩]
    rfl
  rw [← e]
  exact rinv_any _ V

/-! ### Weights -/
def prdG (xs : List Int) (i : Nat) (x : Int) (k : Nat) : Gf.G := Gf.prodG ((othG xs i k).map fun a => (toG x + a) * (toG (xs.getD i 0) + a).inv)
theorem prdG_self {xs : List Int} {i : Nat} (x : Int) (h : i < xs.length) : prdG xs i x (i + 1) = prdG xs i x i := by rw [prdG, othG_self h]; rfl
theorem prdG_other {xs : List Int} {i k : Nat} (x : Int) (h : k < xs.length) (hn : k ≠ i) : prdG xs i x (k + 1) = prdG xs i x k * ((toG x + toG (xs.getD k 0)) * (toG (xs.getD i 0) + toG (xs.getD k 0)).inv) := by
  rw [prdG, othG_other h hn, List.map_append, Gf.prodG_append]
  show _ * (_ * 1) = _
  rw [Gf.G.mul_one]
  rfl
theorem prdG_end (xs : List Int) (i : Nat) (x : Int) : prdG xs i x xs.length = wgtI xs i x := by
  have e : othG xs i xs.length = (gs xs).eraseIdx i := by unfold othG; rw [List.take_of_length_le (by rw [gs_length]; exact Nat.le_refl _)]
  rw [prdG, e]
  rfl
theorem wgtsI_snoc (xs : List Int) (x : Int) (i : Nat) (h : i < xs.length) : intsI ((wgtsI xs x).take i) ++ [Value.int .i64 ((wgtI xs i x).v : Nat)] = intsI ((wgtsI xs x).take (i + 1)) := by
  rw [intsI_snoc, List.take_add_one]
  congr 2
  simp [wgtsI, h]
theorem place_ne {xs : List Int} (hd : allI dig xs = true) (ha : apartI xs = true) {i k : Nat} (hi : i < xs.length) (hk : k < xs.length) (hn : k ≠ i) : toG (xs.getD i 0) + toG (xs.getD k 0) ≠ 0 := fun e => by
  have h1 := toG_inj (allI_at hd hi) (allI_at hd hk) (Gf.G.add_eq_zero.1 e)
  rcases Nat.lt_or_gt_of_ne hn with h | h
  · exact apartI_iff.1 ha i hi k h h1
  · exact apartI_iff.1 ha k hk i h h1.symm
theorem rweights_no (xs : List Int) (x : Int) (A : Option Addr) (c : Nat) (hl : xs.length ≤ 9223372036854775807) (hp : placesB xs = true) (hx : dig x = false) (w : World) (hs : Sl w A (intsI xs)) :
    Calls Try.prog 37 #[.slice A xs.length c, .int .i64 x] w fun e w' => e = .returned (.tuple #[.slice none 0 0, .bool false]) ∧ Below w.heap.size w w' := by
  have HP := Lib.hid (places_any xs A c hl w hs)
  rw [hp] at HP
  have HD := Lib.hid (fun V => rdigit_any x V)
  rw [hx] at HD
  clear hp hx
  go_enter Try.func37, Try.ntmps37
  go_wp2_with fail
  refine HP.out.mono ?_
  rintro e w1 ⟨rfl, hb⟩
  go_wp2_with fail
  refine (HD.out _).mono ?_
  rintro e w1 ⟨rfl, rfl⟩
  go_wp2
  go_ret2
  exact ⟨rfl, hb⟩
set_option maxHeartbeats 4000000 in
theorem rweights_yes (xs : List Int) (x : Int) (A : Option Addr) (c : Nat) (hl : xs.length ≤ 9223372036854775807) (hok : okWt xs x = true) (w : World) (hs : Sl w A (intsI xs)) :
    Calls Try.prog 37 #[.slice A xs.length c, .int .i64 x] w fun e w' => (∃ C cc, e = .returned (.tuple #[.slice C xs.length cc, .bool true]) ∧ Sl w' C (intsI (wgtsI xs x))) ∧ Below w.heap.size w w' := by
  simp only [okWt, Bool.and_eq_true, decide_eq_true_eq] at hok
  obtain ⟨⟨⟨⟨h1, h2⟩, h3⟩, h4⟩, h5⟩ := hok
  have HP := Lib.hid (places_any xs A c hl w hs)
  rw [show placesB xs = true by simp [placesB, h1, h2, h3, h5]] at HP
  have HD := Lib.hid (fun V => rdigit_any x V)
  rw [h4] at HD
  have HSW := Lib.hid hs
  clear hs
  obtain ⟨i0, hI0, hz0, hz1, hz2⟩ := info_parts int_info
  have HSELF := Lib.hid (fun i h => prdG_self (xs := xs) (i := i) x h)
  have HOTH := Lib.hid (fun i k h hn => prdG_other (xs := xs) (i := i) (k := k) x h hn)
  have HEND := Lib.hid (fun i => prdG_end xs i x)
  have HSN := Lib.hid (fun i h => wgtsI_snoc xs x i h)
  have HWL := Lib.hid (wgtsI_length xs x)
  have HNE := Lib.hid (fun i k hi hk hn => place_ne (i := i) (k := k) h3 h5 hi hk hn)
  have HDG : Hid (∀ k, k < xs.length → ∃ g : Gf.G, xs.getD k 0 = (g.v : Int) ∧ toG (xs.getD k 0) = g) := Lib.hid (fun k hk => ⟨toG (xs.getD k 0), (toG_v (allI_at h3 hk)).symm, rfl⟩)
  have H0 : Hid (∀ i, prdG xs i x 0 = 1) := Lib.hid (fun i => by simp [prdG, othG, Gf.prodG])
  obtain ⟨X, hX, hX2⟩ : ∃ X : Gf.G, x = (X.v : Int) ∧ toG x = X := ⟨toG x, (toG_v h4).symm, rfl⟩
  rw [hX2] at HOTH
  clear h1 h3 h4 h5 hX2
  generalize wgtsI xs x = ws at *
  generalize hF : (fun i k => prdG xs i x k) = F at *
  have HF : Hid (∀ i k, prdG xs i x k = F i k) := Lib.hid (fun i k => by rw [← hF])
  simp only [HF.out] at HSELF HOTH HEND H0
  clear hF HF
  generalize hWI : (fun i => wgtI xs i x) = WI at *
  have HWI : Hid (∀ i, wgtI xs i x = WI i) := Lib.hid (fun i => by rw [← hWI])
  simp only [HWI.out] at HEND HSN
  clear hWI HWI
  subst hX
  go_enter Try.func37, Try.ntmps37
  go_wp2_with fail
  refine HP.out.mono ?_
  rintro e w1 ⟨rfl, hb0⟩
  go_wp2_with fail
  refine (HD.out _).mono ?_
  rintro e w1 ⟨rfl, rfl⟩
  go_wp2
  go_loopw [6, 7] (fun v i wr => ∃ k : Nat, k ≤ xs.length ∧ i = .int .i64 (k : Int) ∧ wr.ownsRow w.heap.size 3 1 v k (intsI (ws.take k)) ∧ Below w.heap.size w wr) (fun _ i _ => xs.length - (intOf i).toNat)
  case atStart => exact ⟨0, by omega, rfl, World.ownsRow_nil _ _ _ _, hb0⟩
  case round =>
    clear hb0
    obtain ⟨i, hi, rfl, hown, hb⟩ := hrel
    have hs := HSW.out.keep hb
    by_cases hlti : i < xs.length
    · obtain ⟨gi, hgi, hgi2⟩ := HDG.out i hlti
      generalize wr = W0 at *
      go_wp2
      go_loopw [8, 9] (fun p q wr => ∃ k : Nat, k ≤ xs.length ∧ q = .int .i64 (k : Int) ∧ p = .int .i64 ((F i k).v : Nat) ∧ Below W0.heap.size W0 wr) (fun _ q _ => xs.length - (intOf q).toNat)
      case atStart => exact ⟨0, by omega, rfl, by rw [H0.out]; rfl, Below.refl _ _⟩
      case round =>
        obtain ⟨k, hk, rfl, rfl, hb2⟩ := hrel
        by_cases hltk : k < xs.length
        · by_cases hki : k = i
          · have hS := HSELF.out i hlti
            have t1 : ((k : Int) != (i : Int)) = false := by simp; omega
            have HE : Hid (F i (k + 1) = F i k) := Lib.hid (by rw [hki, hS])
            clear hki hS
            go_wp2
            go_roundw
            case rel => exact ⟨k + 1, by omega, by go_num, by rw [HE.out], hb2⟩
            case measure => simp [intOf]; omega
          · obtain ⟨gk, hgk, hgk2⟩ := HDG.out k hltk
            have HE := Lib.hid (HOTH.out i k hltk hki)
            have hne := HNE.out i k hlti hltk hki
            rw [hgi2, hgk2] at HE hne
            have t1 : ((k : Int) != (i : Int)) = true := by simp; omega
            obtain ⟨b1, o1, rfl, hc1⟩ := sl_int (hs.keep hb2) hlti
            obtain ⟨b2, o2, e2, hc2⟩ := sl_int (hs.keep hb2) hltk
            cases e2
            rw [hgi] at hc1
            rw [hgk] at hc2
            have HQ := Lib.hid (fun V => gdiv_any (X + gk) (gi + gk) hne V)
            have HS1 := Lib.hid (fun V => gsum_any X gk V)
            have HS2 := Lib.hid (fun V => gsum_any gi gk V)
            have HTM := Lib.hid (fun a b V => gtimes_any a b V)
            have hbD := fun n : Nat => hb2.next' (Below.drewN0 wr n)
            clear hgk hgk2 hne hki hb2
            generalize X + gk = s1 at *
            generalize gi + gk = s2 at *
            generalize s1 * s2.inv = q at *
            unfold two at HQ
            go_wp2
            go_quiet (first
              | (go_at_call 39; first | exact Calls.quiet_of_same (HS1.out _) | exact Calls.quiet_of_same (HS2.out _))
              | (go_at_call 63; exact Calls.quiet_of_same (HQ.out _)))
            have hb3 := hbD nq
            clear hbD
            generalize wr.drewN nq = W2 at *
            go_wp2_with fail
            refine (HTM.out _ _ _).mono ?_
            rintro e W2 ⟨rfl, rfl⟩
            go_wp2
            go_roundw
            case rel => exact ⟨k + 1, by omega, by go_num, by rw [HE.out], hb3⟩
            case measure => simp [intOf]; omega
        · have hkl : k = xs.length := by omega
          have HE : Hid (F i k = WI i) := Lib.hid (by rw [hkl, HEND.out])
          have HS3 := Lib.hid (HSN.out i hlti)
          have ho3 := own_keep hown hb2
          have hb3 := hb.next' hb2
          have hsz := hb3.size
          have hi9 : xs.length ≤ 255 := h2
          clear hkl hown hb hb2 hs
          rw [HE.out]
          generalize WI i = z at *
          go_wp2_with (first
            | (at_builtin; refine wpList_append_own _ rfl _ _ 48 rfl w.heap.size 3 i0 (.int .i64 0) 1 8 Try.underlying48 hI0 hz0 hz1 hz2 rfl (by decide) _ _ _ rfl (ho3.alloc _) ⟨wr.heap.size, 0, none⟩ 1 1 [.int .i64 (z.v : Nat)] rfl rfl ?c1 ?c2 ?c3 ?c4 ?c5 ?_)
            | go_in)
          case c1 =>
            intro j u hj
            match j, hj with
            | 0, hj => simp at hj; subst hj; simp [Addr.add]
          case c2 => intro u hu; simp at hu; subst hu; rfl
          case c3 => unfold maxLen; omega
          case c4 => omega
          case c5 => simp; omega
          · intro v' w3 hown' hgrow _
            have hb1 := own_below (ho3.alloc _) (hb3.al _) hgrow
            rw [HS3.out] at hown'
            clear ho3 hgrow hb3
            go_wp2
            go_roundw
            case rel => exact ⟨i + 1, by omega, by go_num, hown', hb1⟩
            case measure => simp [intOf]; omega
    · obtain rfl : i = xs.length := by omega
      rw [List.take_of_length_le (by rw [HWL.out]; exact Nat.le_refl _)] at hown
      obtain ⟨C, cc, rfl, hs3, _⟩ := own_slf hown
      go_wp2
      go_ret2
      exact ⟨⟨C, cc, rfl, hs3⟩, hb⟩
end Go.Proofs.Ytljckcegcfidoaa

/-
  keyholeref09.times: the contract.
-/
namespace Go.Proofs.Ytljckcegcfidoaa
open Go.RowKit Go.Kx
set_option maxRecDepth 20000

/-- Digits as numbers. -/
def vsI (L : List Gf.G) : List Int := L.map fun g => (g.v : Int)
theorem vsI_length (L : List Gf.G) : (vsI L).length = L.length := by simp [vsI]
theorem vsI_at (L : List Gf.G) (k : Nat) : (vsI L).getD k 0 = ((L.getD k 0).v : Int) := by
  simp only [vsI, List.getD, List.getElem?_map]
  cases L[k]? <;> rfl
theorem addL_at : ∀ (l m : List Gf.G) (i : Nat), (Gf.addL l m).getD i 0 = l.getD i 0 + m.getD i 0
  | [], m, i => by simp [Gf.addL, Gf.G.zero_add]
  | a :: l, [], i => by simp [Gf.addL, Gf.G.add_zero]
  | a :: l, b :: m, 0 => by simp [Gf.addL]
  | a :: l, b :: m, i + 1 => by
    have := addL_at l m i
    simpa [Gf.addL] using this
theorem addL_len : ∀ (l m : List Gf.G), (Gf.addL l m).length = max l.length m.length
  | [], m => by simp [Gf.addL]
  | a :: l, [] => by simp [Gf.addL]
  | a :: l, b :: m => by
    simp only [Gf.addL, List.length_cons, addL_len l m]
    omega
theorem scale_at (c : Gf.G) (l : List Gf.G) (i : Nat) : (Gf.scale c l).getD i 0 = c * l.getD i 0 := by
  simp only [Gf.scale, List.getD, List.getElem?_map]
  cases l[i]? with
  | none => exact (Gf.G.mul_zero c).symm
  | some x => rfl
theorem linM_len (a : Gf.G) (l : List Gf.G) : (Gf.linM a l).length = l.length + 1 := by
  rw [Gf.linM, addL_len, Gf.scale, List.length_map, List.length_cons]
  omega
/-- What times has put together before round k, and between its two stores. -/
def tmG (L : List Gf.G) (a : Gf.G) (k j : Nat) : Gf.G := (if j < k then L.getD j 0 * a else 0) + (if 1 ≤ j ∧ j ≤ k then L.getD (j - 1) 0 else 0)
def tmH (L : List Gf.G) (a : Gf.G) (k j : Nat) : Gf.G := (if j < k + 1 then L.getD j 0 * a else 0) + (if 1 ≤ j ∧ j ≤ k then L.getD (j - 1) 0 else 0)
theorem tmG_set (L : List Gf.G) (a : Gf.G) (k j : Nat) : (if j = k then tmG L a k k + L.getD k 0 * a else tmG L a k j) = tmH L a k j := by
  unfold tmG tmH
  by_cases h : j = k
  · subst h
    rw [if_pos rfl, if_neg (show ¬ j < j by omega), if_pos (show j < j + 1 by omega), Gf.G.zero_add, Gf.G.add_comm]
  · rw [if_neg h]
    congr 1
    by_cases h2 : j < k
    · rw [if_pos h2, if_pos (by omega)]
    · rw [if_neg h2, if_neg (by omega)]
theorem tmH_set (L : List Gf.G) (a : Gf.G) (k j : Nat) : (if j = k + 1 then tmH L a k (k + 1) + L.getD k 0 else tmH L a k j) = tmG L a (k + 1) j := by
  unfold tmG tmH
  by_cases h : j = k + 1
  · subst h
    rw [if_pos rfl, if_neg (show ¬ (1 ≤ k + 1 ∧ k + 1 ≤ k) by omega), if_pos (show 1 ≤ k + 1 ∧ k + 1 ≤ k + 1 by omega), Gf.G.add_zero, Nat.add_sub_cancel]
  · rw [if_neg h]
    congr 1
    by_cases h2 : 1 ≤ j ∧ j ≤ k
    · rw [if_pos h2, if_pos (show 1 ≤ j ∧ j ≤ k + 1 by omega)]
    · rw [if_neg h2, if_neg (show ¬ (1 ≤ j ∧ j ≤ k + 1) by omega)]
theorem tmG_zero (L : List Gf.G) (a : Gf.G) (j : Nat) : tmG L a 0 j = 0 := by
  unfold tmG
  rw [if_neg (by omega), if_neg (by omega), Gf.G.add_zero]
theorem tmG_end (L : List Gf.G) (a : Gf.G) (j : Nat) (hj : j < L.length + 1) : tmG L a L.length j = (Gf.linM a L).getD j 0 := by
  unfold tmG
  rw [Gf.linM, addL_at, scale_at]
  rw [Gf.G.add_comm]
  congr 1
  · cases j with
    | zero => rfl
    | succ j => rw [if_pos (by omega)]; simp
  · by_cases h : j < L.length
    · rw [if_pos h, Gf.G.mul_comm]
    · rw [if_neg h, List.getD, List.getElem?_eq_none (by omega)]
      exact (Gf.G.mul_zero a).symm
theorem vsI_row {L : List Gf.G} {w : World} {O n : Nat} {t : TypeId} {f : Nat → Gf.G} (hn : n = L.length) (h : w.rowIs O t n (fun j => .int .i64 ((f j).v : Nat))) (he : ∀ j, j < n → f j = L.getD j 0) : Sl w (some ⟨O, 0, none⟩) (intsI (vsI L)) := by
  refine .inr ⟨O, 0, rfl, h.lt, fun j u hu => ?_⟩
  obtain ⟨x, hx, rfl⟩ := intsI_at hu
  have hj : j < n := by
    have := (List.getElem?_eq_some_iff.1 hx).1
    rw [vsI_length] at this
    omega
  have h2 := vsI_at L j
  rw [List.getD, hx] at h2
  have h2 : x = ((L.getD j 0).v : Int) := h2
  rw [Nat.zero_add, h.cell hj, he j hj, h2]
set_option maxHeartbeats 4000000 in
theorem rtms_any (L : List Gf.G) (a : Gf.G) (A : Option Addr) (c : Nat) (hl : L.length ≤ 300) (w : World) (hs : Sl w A (intsI (vsI L))) :
    Calls Try.prog 71 #[.slice A L.length c, .int .i64 (a.v : Nat)] w fun e w' => (∃ O, e = .returned (.slice (some ⟨O, 0, none⟩) (L.length + 1) (L.length + 1)) ∧ w.heap.size ≤ O ∧ w'.rowIs O 3 (L.length + 1) (fun j => .int .i64 (((Gf.linM a L).getD j 0).v : Nat))) ∧ Below w.heap.size w w' := by
  have hmk := run_make_row' (P := Try.prog) 48 3 (.int .i64 0) 8 Try.underlying48 int_info rfl .i64 .i64 (L.length + 1) (by omega) (by omega)
  rw [show ((L.length + 1 : Nat) : Int) = (L.length : Int) + 1 by omega] at hmk
  have hO0 : (w.alloc (.cells (madeCells #[.int .i64 0] (L.length + 1)) 3)).rowIs w.heap.size 3 (L.length + 1) (fun j => .int .i64 ((tmG L a 0 j).v : Nat)) :=
    (World.rowIs_made w (.int .i64 0) (L.length + 1) 3).congr fun j _ => by rw [tmG_zero]; rfl
  have hb0 := Below.alloc0 w (.cells (madeCells #[.int .i64 0] (L.length + 1)) 3)
  have HSW := Lib.hid hs
  have HVL := Lib.hid (vsI_length L)
  have HEND := Lib.hid (fun j hj => tmG_end L a j hj)
  have HST1 := Lib.hid (fun k j => tmG_set L a k j)
  have HST2 := Lib.hid (fun k j => tmH_set L a k j)
  clear hs
  go_enter Try.func71, Try.ntmps71
  go_wp2
  generalize World.alloc w _ = W at *
  have hO : w.heap.size ≤ w.heap.size := Nat.le_refl _
  obtain ⟨O, hOO⟩ : ∃ O, O = w.heap.size := ⟨_, rfl⟩
  have HOO := Lib.hid hOO
  have hO2 : w.heap.size ≤ O := by omega
  rw [← hOO] at hO0 ⊢
  clear hOO hO
  have hO := hO2
  clear hO2
  go_loopw [6] (fun i wr => ∃ k : Nat, k ≤ L.length ∧ i = .int .i64 (k : Int) ∧ wr.rowIs O 3 (L.length + 1) (fun j => .int .i64 ((tmG L a k j).v : Nat)) ∧ Below w.heap.size w wr) (fun i _ => L.length - (intOf i).toNat)
  case atStart => exact ⟨0, by omega, rfl, hO0, hb0⟩
  case round =>
    clear hO0 hb0
    obtain ⟨k, hk, rfl, hr, hb⟩ := hrel
    by_cases hlt : k < L.length
    · obtain ⟨b, off, rfl, hc⟩ := sl_int (HSW.out.keep hb) (k := k) (by rw [HVL.out]; exact hlt)
      have hbw : b < w.heap.size := sl_old HSW.out rfl (by rw [intsI_length, HVL.out]; omega)
      rw [vsI_at] at hc
      have hk1 : (k : Int) < (L.length : Int) + 1 := by omega
      have hk2 : (k : Int) + 1 < (L.length : Int) + 1 := by omega
      have hz := hr.cell (i := k) (by omega)
      have HS1 := Lib.hid (HST1.out k)
      have HS2 := Lib.hid (HST2.out k)
      generalize L.getD k 0 = lk at *
      have HT := Lib.hid (fun V => gtimes_any lk a V)
      have HA := Lib.hid (fun V => gsum_any (tmG L a k k) (lk * a) V)
      obtain ⟨zn, hzn⟩ : ∃ zn, tmG L a k k + lk * a = zn := ⟨_, rfl⟩
      rw [hzn] at HA HS1
      clear hzn
      generalize tmG L a k k = z at *
      generalize lk * a = q at *
      go_wp2
      refine Uptot.begin_ [14] (fun V : World => V.cell? ⟨b, off + k, none⟩ = some (.int .i64 (lk.v : Nat))) (fun V : World => V.cell? ⟨O, k, none⟩ = some (.int .i64 (z.v : Nat))) (by kernel_rfl) ?_
      have hbV := hb.drew
      have hrV := World.rowIs.drew hr
      have hST : wr.drew.cell? ⟨b, off + k, none⟩ = some (.int .i64 (lk.v : Nat)) ∧ wr.drew.cell? ⟨O, k, none⟩ = some (.int .i64 (z.v : Nat)) := ⟨hc, hz⟩
      clear hb hr hc hz
      generalize wr.drew = V at *
      refine Uptot.takeS (i := 0) (v := ?_) rfl (by kernel_rfl) (by kernel_rfl) (by kernel_rfl) (by kernel_rfl) (fun _ _ _ h => h) (Or.inl ⟨by rfl, ?_⟩) hST ?_
      rotate_left 1
      · intro w9 hSw; (try dsimp only at hSw); go_simp; (try with_reducible rfl)
      try simp only [Act.put, List.setIfInBounds_toArray, List.set_cons_zero, List.set_cons_succ]
      refine Uptot.takeS (i := 1) (v := ?_) rfl (by kernel_rfl) (by kernel_rfl) (by kernel_rfl) (by kernel_rfl) (fun _ _ _ h => h) (Or.inl ⟨by rfl, ?_⟩) hST ?_
      rotate_left 1
      · intro w9 hSw; (try dsimp only at hSw); go_simp; (try with_reducible rfl)
      try simp only [Act.put, List.setIfInBounds_toArray, List.set_cons_zero, List.set_cons_succ]
      refine Uptot.takeS (i := 2) (v := ?_) rfl (by kernel_rfl) (by kernel_rfl) (by kernel_rfl) (by kernel_rfl) (fun _ _ _ h => h) (Or.inl ⟨by rfl, ?_⟩) hST ?_
      rotate_left 1
      · intro w9 hSw; (try dsimp only at hSw); go_simp; (try with_reducible rfl)
      try simp only [Act.put, List.setIfInBounds_toArray, List.set_cons_zero, List.set_cons_succ]
      refine Uptot.takeS (i := 3) (v := ?_) rfl (by kernel_rfl) (by kernel_rfl) (by kernel_rfl) (by kernel_rfl) (fun _ _ _ h => h) (Or.inl ⟨by rfl, ?_⟩) hST ?_
      rotate_left 1
      · intro w9 hSw; (try dsimp only at hSw); go_simp; (try with_reducible rfl)
      try simp only [Act.put, List.setIfInBounds_toArray, List.set_cons_zero, List.set_cons_succ]
      refine Uptot.takeS (i := 4) (v := ?_) rfl (by kernel_rfl) (by kernel_rfl) (by kernel_rfl) (by kernel_rfl) (fun _ _ _ h => h) (Or.inl ⟨by rfl, ?_⟩) hST ?_
      rotate_left 1
      · intro w9 hSw; (try dsimp only at hSw); go_simp; (try with_reducible rfl)
      try simp only [Act.put, List.setIfInBounds_toArray, List.set_cons_zero, List.set_cons_succ]
      refine Uptot.take (i := 5) (v := ?_) rfl (by kernel_rfl) (by kernel_rfl) (by kernel_rfl) (by kernel_rfl) (fun _ _ _ h => h) (Or.inl ⟨by rfl, ?_⟩) hST ?_
      rotate_left 1
      · intro w9 hSw; (try dsimp only at hSw); obtain ⟨s1', s2'⟩ := hSw; go_simp; (try with_reducible rfl)
      try simp only [Act.put, List.setIfInBounds_toArray, List.set_cons_zero, List.set_cons_succ]
      refine Uptot.takeS (i := 6) (v := ?_) rfl (by kernel_rfl) (by kernel_rfl) (by kernel_rfl) (by kernel_rfl) (fun _ _ _ h => h) (Or.inl ⟨by rfl, ?_⟩) hST ?_
      rotate_left 1
      · intro w9 hSw; (try dsimp only at hSw); go_simp; (try with_reducible rfl)
      try simp only [Act.put, List.setIfInBounds_toArray, List.set_cons_zero, List.set_cons_succ]
      refine Uptot.takeS (i := 7) (v := ?_) rfl (by kernel_rfl) (by kernel_rfl) (by kernel_rfl) (by kernel_rfl) (fun _ _ _ h => h) (Or.inl ⟨by rfl, ?_⟩) hST ?_
      rotate_left 1
      · intro w9 hSw; (try dsimp only at hSw); go_simp; (try with_reducible rfl)
      try simp only [Act.put, List.setIfInBounds_toArray, List.set_cons_zero, List.set_cons_succ]
      refine Uptot.takeS (i := 8) (v := ?_) rfl (by kernel_rfl) (by kernel_rfl) (by kernel_rfl) (by kernel_rfl) (fun _ _ _ h => h) (Or.inl ⟨by rfl, ?_⟩) hST ?_
      rotate_left 1
      · intro w9 hSw; (try dsimp only at hSw); go_simp; (try with_reducible rfl)
      try simp only [Act.put, List.setIfInBounds_toArray, List.set_cons_zero, List.set_cons_succ]
      refine Uptot.takeS (i := 9) (v := ?_) rfl (by kernel_rfl) (by kernel_rfl) (by kernel_rfl) (by kernel_rfl) (fun _ _ _ h => h) (Or.inl ⟨by rfl, ?_⟩) hST ?_
      rotate_left 1
      · intro w9 hSw; (try dsimp only at hSw); go_simp; (try with_reducible rfl)
      try simp only [Act.put, List.setIfInBounds_toArray, List.set_cons_zero, List.set_cons_succ]
      refine Uptot.takeS (i := 10) (v := ?_) rfl (by kernel_rfl) (by kernel_rfl) (by kernel_rfl) (by kernel_rfl) (fun _ _ _ h => h) (Or.inl ⟨by rfl, ?_⟩) hST ?_
      rotate_left 1
      · intro w9 hSw; (try dsimp only at hSw); go_simp; (try with_reducible rfl)
      try simp only [Act.put, List.setIfInBounds_toArray, List.set_cons_zero, List.set_cons_succ]
      refine Uptot.one (i := 11) rfl (by kernel_rfl) (fun K hK9 => ?_)
      go_simp
      go_at_call 40
      refine (HT.out _).mono ?_
      rintro e' V9 ⟨rfl, rfl⟩
      refine hK9.out _ _ (Cond.ahead hST) ?_
      clear hK9 K
      try simp only [Act.put, List.setIfInBounds_toArray, List.set_cons_zero, List.set_cons_succ]
      refine Uptot.one (i := 12) rfl (by kernel_rfl) (fun K hK9 => ?_)
      go_simp
      go_at_call 39
      refine (HA.out _).mono ?_
      rintro e' V9 ⟨rfl, rfl⟩
      refine hK9.out _ _ (Cond.ahead hST) ?_
      clear hK9 K
      try simp only [Act.put, List.setIfInBounds_toArray, List.set_cons_zero, List.set_cons_succ]
      refine Uptot.one (i := 13) rfl (by kernel_rfl) (fun K hK9 => ?_)
      go_simp
      refine hK9.out _ _ (Cond.ahead hST) ?_
      clear hK9 K
      try simp only [Act.put, List.setIfInBounds_toArray, List.set_cons_zero, List.set_cons_succ]
      refine Uptot.one (i := 14) rfl (by kernel_rfl) (fun K hK9 => ?_)
      have hzc := hST.2
      have hfz := hrV.frozen (k)
      go_simp
      have hS2 : (V9.setCell ⟨O, k, none⟩ (.int .i64 (zn.v : Nat))).cell? ⟨b, off + k, none⟩ = some (.int .i64 (lk.v : Nat)) := (World.cell?_setCell_other _ _ _ _ (by intro e; have := congrArg Addr.block e; dsimp only at this; omega)).trans hST.1
      replace hrV := (hrV.set (k) (.int .i64 (zn.v : Nat))).congr fun j _ => (by rw [← HS1.out j]; split <;> rfl : _ = Value.int .i64 ((tmH L a k j).v : Nat))
      replace hbV := hbV.setCell (p := ⟨O, k, none⟩) (by exact hO) (.int .i64 (zn.v : Nat))
      refine hK9.out _ _ (Cond.behind hS2 (by kernel_rfl)) ?_
      clear hK9 K hST hzc hfz
      try simp only [Act.put]
      refine Uptot.done (by kernel_rfl) ?_ _
      generalize World.setCell _ _ _ = W5 at *
      clear HT HA HS1
      have hc := hS2
      have hz := hrV.cell (i := k + 1) (by omega)
      have HA := Lib.hid (fun V => gsum_any (tmH L a k (k + 1)) lk V)
      clear hS2
      generalize zn.v = u1 at *
      obtain ⟨zm, hzm⟩ : ∃ zm, tmH L a k (k + 1) + lk = zm := ⟨_, rfl⟩
      rw [hzm] at HA HS2
      clear hzm
      generalize tmH L a k (k + 1) = z2 at *
      have hb := hbV
      have hr := hrV
      clear hbV hrV
      generalize W5 = wr at *
      have wk : IntKind.i64.wrap ((k : Int) + 1) = (k : Int) + 1 := IntWalk.i64_in _ (by omega)
      have wk0 : 0 ≤ (k : Int) + 1 := by omega
      have wkn : ((k : Int) + 1).toNat = k + 1 := by omega
      go_wp2
      refine Uptot.begin_ [14] (fun V : World => V.cell? ⟨b, off + k, none⟩ = some (.int .i64 (lk.v : Nat))) (fun V : World => V.cell? ⟨O, k + 1, none⟩ = some (.int .i64 (z2.v : Nat))) (by kernel_rfl) ?_
      have hbV := hb.drew
      have hrV := World.rowIs.drew hr
      have hST : wr.drew.cell? ⟨b, off + k, none⟩ = some (.int .i64 (lk.v : Nat)) ∧ wr.drew.cell? ⟨O, k + 1, none⟩ = some (.int .i64 (z2.v : Nat)) := ⟨hc, hz⟩
      clear hb hr hc hz
      generalize wr.drew = V at *
      refine Uptot.takeS (i := 0) (v := ?_) rfl (by kernel_rfl) (by kernel_rfl) (by kernel_rfl) (by kernel_rfl) (fun _ _ _ h => h) (Or.inl ⟨by rfl, ?_⟩) hST ?_
      rotate_left 1
      · intro w9 hSw; (try dsimp only at hSw); go_simp; (try with_reducible rfl)
      try simp only [Act.put, List.setIfInBounds_toArray, List.set_cons_zero, List.set_cons_succ]
      refine Uptot.takeS (i := 1) (v := ?_) rfl (by kernel_rfl) (by kernel_rfl) (by kernel_rfl) (by kernel_rfl) (fun _ _ _ h => h) (Or.inl ⟨by rfl, ?_⟩) hST ?_
      rotate_left 1
      · intro w9 hSw; (try dsimp only at hSw); go_simp; (try with_reducible rfl)
      try simp only [Act.put, List.setIfInBounds_toArray, List.set_cons_zero, List.set_cons_succ]
      refine Uptot.takeS (i := 2) (v := ?_) rfl (by kernel_rfl) (by kernel_rfl) (by kernel_rfl) (by kernel_rfl) (fun _ _ _ h => h) (Or.inl ⟨by rfl, ?_⟩) hST ?_
      rotate_left 1
      · intro w9 hSw; (try dsimp only at hSw); go_simp; (try with_reducible rfl)
      try simp only [Act.put, List.setIfInBounds_toArray, List.set_cons_zero, List.set_cons_succ]
      refine Uptot.takeS (i := 3) (v := ?_) rfl (by kernel_rfl) (by kernel_rfl) (by kernel_rfl) (by kernel_rfl) (fun _ _ _ h => h) (Or.inl ⟨by rfl, ?_⟩) hST ?_
      rotate_left 1
      · intro w9 hSw; (try dsimp only at hSw); go_simp; (try with_reducible rfl)
      try simp only [Act.put, List.setIfInBounds_toArray, List.set_cons_zero, List.set_cons_succ]
      refine Uptot.takeS (i := 4) (v := ?_) rfl (by kernel_rfl) (by kernel_rfl) (by kernel_rfl) (by kernel_rfl) (fun _ _ _ h => h) (Or.inl ⟨by rfl, ?_⟩) hST ?_
      rotate_left 1
      · intro w9 hSw; (try dsimp only at hSw); go_simp; (try with_reducible rfl)
      try simp only [Act.put, List.setIfInBounds_toArray, List.set_cons_zero, List.set_cons_succ]
      refine Uptot.takeS (i := 5) (v := ?_) rfl (by kernel_rfl) (by kernel_rfl) (by kernel_rfl) (by kernel_rfl) (fun _ _ _ h => h) (Or.inl ⟨by rfl, ?_⟩) hST ?_
      rotate_left 1
      · intro w9 hSw; (try dsimp only at hSw); go_simp; (try with_reducible rfl)
      try simp only [Act.put, List.setIfInBounds_toArray, List.set_cons_zero, List.set_cons_succ]
      refine Uptot.takeS (i := 6) (v := ?_) rfl (by kernel_rfl) (by kernel_rfl) (by kernel_rfl) (by kernel_rfl) (fun _ _ _ h => h) (Or.inl ⟨by rfl, ?_⟩) hST ?_
      rotate_left 1
      · intro w9 hSw; (try dsimp only at hSw); go_simp; (try with_reducible rfl)
      try simp only [Act.put, List.setIfInBounds_toArray, List.set_cons_zero, List.set_cons_succ]
      refine Uptot.take (i := 7) (v := ?_) rfl (by kernel_rfl) (by kernel_rfl) (by kernel_rfl) (by kernel_rfl) (fun _ _ _ h => h) (Or.inl ⟨by rfl, ?_⟩) hST ?_
      rotate_left 1
      · intro w9 hSw; (try dsimp only at hSw); obtain ⟨s1', s2'⟩ := hSw; go_simp; (try with_reducible rfl)
      try simp only [Act.put, List.setIfInBounds_toArray, List.set_cons_zero, List.set_cons_succ]
      refine Uptot.takeS (i := 8) (v := ?_) rfl (by kernel_rfl) (by kernel_rfl) (by kernel_rfl) (by kernel_rfl) (fun _ _ _ h => h) (Or.inl ⟨by rfl, ?_⟩) hST ?_
      rotate_left 1
      · intro w9 hSw; (try dsimp only at hSw); go_simp; (try with_reducible rfl)
      try simp only [Act.put, List.setIfInBounds_toArray, List.set_cons_zero, List.set_cons_succ]
      refine Uptot.takeS (i := 9) (v := ?_) rfl (by kernel_rfl) (by kernel_rfl) (by kernel_rfl) (by kernel_rfl) (fun _ _ _ h => h) (Or.inl ⟨by rfl, ?_⟩) hST ?_
      rotate_left 1
      · intro w9 hSw; (try dsimp only at hSw); go_simp; (try with_reducible rfl)
      try simp only [Act.put, List.setIfInBounds_toArray, List.set_cons_zero, List.set_cons_succ]
      refine Uptot.takeS (i := 10) (v := ?_) rfl (by kernel_rfl) (by kernel_rfl) (by kernel_rfl) (by kernel_rfl) (fun _ _ _ h => h) (Or.inl ⟨by rfl, ?_⟩) hST ?_
      rotate_left 1
      · intro w9 hSw; (try dsimp only at hSw); go_simp; (try with_reducible rfl)
      try simp only [Act.put, List.setIfInBounds_toArray, List.set_cons_zero, List.set_cons_succ]
      refine Uptot.takeS (i := 11) (v := ?_) rfl (by kernel_rfl) (by kernel_rfl) (by kernel_rfl) (by kernel_rfl) (fun _ _ _ h => h) (Or.inl ⟨by rfl, ?_⟩) hST ?_
      rotate_left 1
      · intro w9 hSw; (try dsimp only at hSw); go_simp; (try with_reducible rfl)
      try simp only [Act.put, List.setIfInBounds_toArray, List.set_cons_zero, List.set_cons_succ]
      refine Uptot.one (i := 12) rfl (by kernel_rfl) (fun K hK9 => ?_)
      go_simp
      go_at_call 39
      refine (HA.out _).mono ?_
      rintro e' V9 ⟨rfl, rfl⟩
      refine hK9.out _ _ (Cond.ahead hST) ?_
      clear hK9 K
      try simp only [Act.put, List.setIfInBounds_toArray, List.set_cons_zero, List.set_cons_succ]
      refine Uptot.one (i := 13) rfl (by kernel_rfl) (fun K hK9 => ?_)
      go_simp
      refine hK9.out _ _ (Cond.ahead hST) ?_
      clear hK9 K
      try simp only [Act.put, List.setIfInBounds_toArray, List.set_cons_zero, List.set_cons_succ]
      refine Uptot.one (i := 14) rfl (by kernel_rfl) (fun K hK9 => ?_)
      have hzc := hST.2
      have hfz := hrV.frozen (k + 1)
      go_simp
      have hS2 : (V9.setCell ⟨O, k + 1, none⟩ (.int .i64 (zm.v : Nat))).cell? ⟨b, off + k, none⟩ = some (.int .i64 (lk.v : Nat)) := (World.cell?_setCell_other _ _ _ _ (by intro e; have := congrArg Addr.block e; dsimp only at this; omega)).trans hST.1
      replace hrV := (hrV.set (k + 1) (.int .i64 (zm.v : Nat))).congr fun j _ => (by rw [← HS2.out j]; split <;> rfl : _ = Value.int .i64 ((tmG L a (k + 1) j).v : Nat))
      replace hbV := hbV.setCell (p := ⟨O, k + 1, none⟩) (by exact hO) (.int .i64 (zm.v : Nat))
      refine hK9.out _ _ (Cond.behind hS2 (by kernel_rfl)) ?_
      clear hK9 K hST hzc hfz
      try simp only [Act.put]
      refine Uptot.done (by kernel_rfl) ?_ _
      generalize World.setCell _ _ _ = W5 at *
      go_wp2
      go_roundw
      case rel => exact ⟨k + 1, by omega, by go_num, hrV, hbV⟩
      case measure => simp [intOf]; omega
    · obtain rfl : k = L.length := by omega
      have hfin := hr.congr (g := fun j => .int .i64 (((Gf.linM a L).getD j 0).v : Nat)) (fun j hj => by rw [HEND.out j hj])
      go_wp2
      go_ret
      exact ⟨⟨O, rfl, hO, hfin⟩, hb⟩
end Go.Proofs.Ytljckcegcfidoaa

/-
  keyholeref09.basis: the contract.
-/
namespace Go.Proofs.Ytljckcegcfidoaa
open Go.RowKit Go.Kx
set_option maxRecDepth 20000

/-- The polynomial that is 1 at one of the places, of the first k of the others. -/
def basL (xs : List Int) (at_ : Nat) : Nat → List Gf.G
  | 0 => [1]
  | k + 1 => if k = at_ then basL xs at_ k else Gf.scale (toG (xs.getD at_ 0) + toG (xs.getD k 0)).inv (Gf.linM (toG (xs.getD k 0)) (basL xs at_ k))
theorem basL_len (xs : List Int) (at_ : Nat) : ∀ k, (basL xs at_ k).length = if k ≤ at_ then k + 1 else k
  | 0 => by simp [basL]
  | k + 1 => by
    rw [basL]
    by_cases h : k = at_
    · rw [if_pos h, basL_len xs at_ k, if_pos (by omega), if_neg (by omega)]
    · rw [if_neg h, Gf.scale, List.length_map, linM_len, basL_len xs at_ k]
      by_cases h2 : k ≤ at_
      · rw [if_pos h2, if_pos (by omega)]
      · rw [if_neg h2, if_neg (by omega)]
theorem ev_basL {xs : List Int} {at_ : Nat} (x : Int) (ha : at_ < xs.length) : ∀ k, k ≤ xs.length → Gf.ev (basL xs at_ k) (toG x) = prdG xs at_ x k
  | 0, _ => by
    show 1 + toG x * 0 = _
    rw [Gf.G.mul_zero, Gf.G.add_zero]
    simp [prdG, othG, Gf.prodG]
  | k + 1, hk => by
    rw [basL]
    by_cases h : k = at_
    · subst h
      rw [if_pos rfl, prdG_self x ha, ev_basL x ha k (by omega)]
    · rw [if_neg h, Gf.ev_scale, Gf.ev_linM, ev_basL x ha k (by omega), prdG_other x (by omega) h]
      ac_rfl
/-- While it is scaled. -/
def sclG (q : Gf.G) (M : List Gf.G) (i j : Nat) : Gf.G := if j < i then q * M.getD j 0 else M.getD j 0
theorem sclG_set (q : Gf.G) (M : List Gf.G) (i j : Nat) : (if j = i then M.getD i 0 * q else sclG q M i j) = sclG q M (i + 1) j := by
  unfold sclG
  by_cases h : j = i
  · subst h
    rw [if_pos rfl, if_pos (by omega), Gf.G.mul_comm]
  · rw [if_neg h]
    by_cases h2 : j < i
    · rw [if_pos h2, if_pos (by omega)]
    · rw [if_neg h2, if_neg (by omega)]
set_option maxHeartbeats 4000000 in
theorem rbasis_any (xs : List Int) (at_ : Nat) (A : Option Addr) (c : Nat) (hl : xs.length ≤ 255) (ha : at_ < xs.length) (h3 : allI dig xs = true) (h5 : apartI xs = true) (w : World) (hs : Sl w A (intsI xs)) :
    Calls Try.prog 47 #[.slice A xs.length c, .int .i64 (at_ : Int)] w fun e w' => (∃ C cc, e = .returned (.slice C xs.length cc) ∧ Sl w' C (intsI (vsI (basL xs at_ xs.length)))) ∧ Below w.heap.size w w' := by
  have HSW := Lib.hid hs
  have HNE := Lib.hid (fun k hk hn => place_ne (i := at_) (k := k) h3 h5 ha hk hn)
  have HDG : Hid (∀ k, k < xs.length → ∃ g : Gf.G, xs.getD k 0 = (g.v : Int) ∧ toG (xs.getD k 0) = g) := Lib.hid (fun k hk => ⟨toG (xs.getD k 0), (toG_v (allI_at h3 hk)).symm, rfl⟩)
  have HBL := Lib.hid (basL_len xs at_)
  have HB0 : Hid (basL xs at_ 0 = [1]) := Lib.hid rfl
  have HBS : Hid (∀ k, k = at_ → basL xs at_ (k + 1) = basL xs at_ k) := Lib.hid (fun k h => by rw [basL, if_pos h])
  have HBO : Hid (∀ k, k ≠ at_ → basL xs at_ (k + 1) = Gf.scale (toG (xs.getD at_ 0) + toG (xs.getD k 0)).inv (Gf.linM (toG (xs.getD k 0)) (basL xs at_ k))) := Lib.hid (fun k h => by rw [basL, if_neg h])
  have hb0 := Below.alloc0 w (.cells #[.int .i64 1] 3)
  have hs0 : Sl (w.alloc (.cells #[.int .i64 1] 3)) (some ⟨w.heap.size, 0, none⟩) (intsI (vsI [1])) := Sl.new' rfl
  clear hs h3 h5
  generalize basL xs at_ = BL at *
  rw [← HB0.out] at hs0
  have hbl0 : (BL 0).length = 1 := by rw [HB0.out]; rfl
  have HBL0 := Lib.hid hbl0
  clear hbl0
  go_enter Try.func47, Try.ntmps47
  go_wp2
  generalize World.alloc w _ = W0 at *
  go_loopw [5, 6] (fun v i wr => ∃ k : Nat, k ≤ xs.length ∧ i = .int .i64 (k : Int) ∧ (∃ C cc, v = .slice C (BL k).length cc ∧ Sl wr C (intsI (vsI (BL k)))) ∧ Below w.heap.size w wr) (fun _ i _ => xs.length - (intOf i).toNat)
  case atStart => exact ⟨0, by omega, rfl, ⟨_, _, by rw [HBL0.out], hs0⟩, hb0⟩
  case round =>
    clear hs0 hb0
    obtain ⟨k, hk, rfl, ⟨C, cc, rfl, hsc⟩, hb⟩ := hrel
    by_cases hlt : k < xs.length
    · by_cases hka : k = at_
      · have t1 : ((k : Int) == (at_ : Int)) = true := by simp; omega
        have HE := Lib.hid (HBS.out k hka)
        clear hka
        go_wp2
        go_roundw
        case rel => exact ⟨k + 1, by omega, by go_num, ⟨C, cc, by rw [HE.out], by rw [HE.out]; exact hsc⟩, hb⟩
        case measure => simp [intOf]; omega
      · have t1 : ((k : Int) == (at_ : Int)) = false := by simp; omega
        obtain ⟨b1, o1, rfl, hc1⟩ := sl_int (HSW.out.keep hb) ha
        obtain ⟨b2, o2, e2, hc2⟩ := sl_int (HSW.out.keep hb) hlt
        cases e2
        obtain ⟨ga, hga, hga2⟩ := HDG.out at_ ha
        obtain ⟨gk, hgk, hgk2⟩ := HDG.out k hlt
        have HE := Lib.hid (HBO.out k hka)
        have hne := HNE.out k hlt hka
        rw [hga2, hgk2] at HE hne
        rw [hga] at hc1
        rw [hgk] at hc2
        have HS := Lib.hid (fun V => gsum_any ga gk V)
        have HI := Lib.hid (fun V => ginv_any (ga + gk) hne V)
        have hLl : (BL k).length ≤ 256 := by rw [HBL.out]; split <;> omega
        clear hga hga2 hgk hgk2 hne hka
        generalize ga + gk = s1 at *
        generalize s1.inv = q at *
        generalize BL k = L at *
        have HTM := Lib.hid (fun V h => rtms_any L gk C cc (by omega) V h)
        have HML := Lib.hid (linM_len gk L)
        generalize Gf.linM gk L = M at *
        have HTQ := Lib.hid (fun m V => gtimes_any m q V)
        have HSET := Lib.hid (fun i j => sclG_set q M i j)
        have HFIN : Hid (∀ j, j < L.length + 1 → sclG q M (L.length + 1) j = (Gf.scale q M).getD j 0) := Lib.hid (fun j hj => by rw [sclG, if_pos hj, scale_at])
        have HSL : Hid ((Gf.scale q M).length = L.length + 1) := Lib.hid (by rw [Gf.scale, List.length_map, HML.out])
        unfold two at HI
        have hbD := fun n : Nat => hb.next' (Below.drewN0 wr n)
        have hsD := fun n : Nat => hsc.keep (Below.drewN0 wr n)
        have hcD : ∀ n : Nat, (wr.drewN n).cell? ⟨b1, o1 + k, none⟩ = some (.int .i64 (gk.v : Nat)) := fun n => ((Below.drewN0 wr n).cell (p := ⟨b1, o1 + k, none⟩) (block_lt_of_cell hc2)).trans hc2
        clear hb hsc
        go_wp2
        go_quiet (first
          | (go_at_call 39; exact Calls.quiet_of_same (HS.out _))
          | (go_at_call 70; exact Calls.quiet_of_same (HI.out _)))
        have hb := hbD nq
        have hsc := hsD nq
        have hc3 := hcD nq
        clear hbD hsD hcD hc1 hc2
        generalize wr.drewN nq = W2 at *
        go_wp2_with fail
        refine (HTM.out _ hsc).mono ?_
        rintro e w3 ⟨⟨O, rfl, hO, hrO⟩, hb3⟩
        have hO2 : w.heap.size ≤ O := Nat.le_trans hb.size hO
        replace hb := hb.next' hb3
        have hrO2 : w3.rowIs O 3 (L.length + 1) (fun j => .int .i64 ((sclG q M 0 j).v : Nat)) := hrO.congr fun j _ => by rw [sclG, if_neg (by omega)]
        clear hb3 hrO hO hsc hc3
        go_wp2
        go_loopw [10] (fun x wr => ∃ i : Nat, i ≤ L.length + 1 ∧ x = .int .i64 (i : Int) ∧ wr.rowIs O 3 (L.length + 1) (fun j => .int .i64 ((sclG q M i j).v : Nat)) ∧ Below w.heap.size w wr) (fun x _ => L.length + 1 - (intOf x).toNat)
        case atStart => exact ⟨0, by omega, rfl, hrO2, hb⟩
        case round =>
          clear hrO2 hb
          obtain ⟨i, hi, rfl, hr, hb⟩ := hrel
          by_cases hlti : i < L.length + 1
          · have hli : (i : Int) < (L.length : Int) + 1 := by omega
            have hz := hr.cell (i := i) hlti
            have hfz := hr.frozen i
            rw [show sclG q M i i = M.getD i 0 from if_neg (by omega)] at hz
            have HS1 := Lib.hid (HSET.out i)
            generalize M.getD i 0 = m at *
            have HT := Lib.hid (fun V => HTQ.out m V)
            generalize m * q = mq at *
            go_wp2_with fail
            refine (HT.out _).mono ?_
            rintro e wr ⟨rfl, rfl⟩
            go_wp2
            go_roundw
            case rel => exact ⟨i + 1, by omega, by go_num, (hr.set i _).congr fun j _ => (by rw [← HS1.out j]; split <;> rfl : _ = Value.int .i64 ((sclG q M (i + 1) j).v : Nat)), hb.setCell (p := ⟨O, i, none⟩) (by exact hO2) _⟩
            case measure => simp [intOf]; omega
          · have hil : i = L.length + 1 := by omega
            have hli : ¬ (i : Int) < (L.length : Int) + 1 := by omega
            rw [hil] at hr
            have hsl : Sl wr (some ⟨O, 0, none⟩) (intsI (vsI (Gf.scale q M))) := vsI_row (n := L.length + 1) (f := sclG q M (L.length + 1)) HSL.out.symm hr HFIN.out
            clear hil
            go_wp2
            go_roundw
            case rel => exact ⟨k + 1, by omega, by go_num, ⟨_, _, by rw [HE.out, HSL.out], by rw [HE.out]; exact hsl⟩, hb⟩
            case measure => simp [intOf]; omega
    · obtain rfl : k = xs.length := by omega
      have hE : (BL xs.length).length = xs.length := by rw [HBL.out, if_neg (by omega)]
      rw [hE]
      clear hE
      go_wp2
      go_ret
      exact ⟨⟨C, cc, rfl, hsc⟩, hb⟩
end Go.Proofs.Ytljckcegcfidoaa

/-
  share: what At tells of shares that lie on polynomials, as plain mathematics.
-/
namespace Go.Proofs.Ytljckcegcfidoaa
open Go.RowKit Go.Kx

/-- A share lies on the polynomials Q, one for each byte. -/
def OnQ (Q : Nat → List Gf.G) (s : Sh) : Prop := s.2 = txt fun j => Gf.ev (Q j) (toG s.1)
theorem OnQ.at_ {Q : Nat → List Gf.G} {s : Sh} (h : OnQ Q s) {j : Nat} (hj : j < 32) : gOf s.2 j = Gf.ev (Q j) (toG s.1) := by rw [h, gOf_txt _ hj]
theorem acc_eq {xs : List Int} {x : Int} {F : Nat → Nat → Gf.G} {j : Nat} (v : Gf.G → Gf.G) (h : ∀ i, i < xs.length → F i j = v (toG (xs.getD i 0))) :
    accR (wgtsI xs x) F xs.length j = Gf.thr [] ((gs xs).map fun a => (a, v a)) (toG x) := by
  rw [thr_sum, List.length_map, gs_length]
  unfold accR
  congr 1
  refine List.map_congr_left fun i hi => ?_
  have hil : i < xs.length := List.mem_range.1 hi
  have e : ((gs xs).map fun a => (a, v a)).getD i (0, 0) = (toG (xs.getD i 0), v (toG (xs.getD i 0))) := by
    rw [List.getD, List.getElem?_map, gs_at hil]
    rfl
  have e2 : ((gs xs).map fun a => (a, v a)).map Prod.fst = gs xs := by rw [List.map_map]; simp [Function.comp_def]
  rw [e, e2, wgtsI_at hil, toG_of, h i hil]
  unfold wgtI
  simp only [List.nil_append, List.length_nil, Nat.zero_add]
  exact Gf.G.mul_comm _ _
theorem mem_at {l : List Sh} {k : Nat} (h : k < l.length) : l.getD k sh0 ∈ l := by
  rw [List.getD, List.getElem?_eq_getElem h]
  exact List.getElem_mem h
/-- Shares on polynomials of no more digits than there are shares tell these polynomials. -/
theorem atT_on {l : List Sh} {Q : Nat → List Gf.G} (hr : rightB l = true) (ho : ∀ s ∈ l, OnQ Q s) (hQ : ∀ j, (Q j).length ≤ l.length) (x : Int) : atT l x = txt fun j => Gf.ev (Q j) (toG x) := by
  obtain ⟨_, _, h3, h4⟩ := rightB_of hr
  refine txt_congr fun j hj => ?_
  have := acc_eq (xs := xsL l) (x := x) (F := bsG l) (j := j) (fun a => Gf.ev (Q j) a) (fun i hi => by
    rw [xsL_length] at hi
    rw [xsL_at l hi]
    exact (ho _ (mem_at hi)).at_ hj)
  rw [xsL_length] at this
  rw [this, Gf.thr_ev (Q j) (gs (xsL l)) (gs_nodup (allSh_digs h3) h4) (by rw [gs_length, xsL_length]; exact hQ j)]
/-- Right shares lie on polynomials of no more digits than there are shares. -/
theorem on_some {l : List Sh} (hr : rightB l = true) : ∃ Q : Nat → List Gf.G, (∀ j, (Q j).length ≤ l.length) ∧ ∀ s ∈ l, OnQ Q s := by
  obtain ⟨_, _, h3, h4⟩ := rightB_of hr
  have hn := gs_nodup (allSh_digs h3) h4
  refine ⟨fun j => Gf.thrL [] (l.map fun s => (toG s.1, gOf s.2 j)), fun j => Gf.thrL_length _ _ _ (by simp), fun s hs => ?_⟩
  have hsz := (okSh_of (List.all_eq_true.1 h3 s hs)).2
  show s.2 = _
  conv => lhs; rw [← txt_gOf hsz]
  refine txt_congr fun j hj => ?_
  rw [Gf.ev_thrL]
  refine (Gf.thr_at _ [] ?_ (List.mem_map.2 ⟨s, hs, rfl⟩)).symm
  have e : (l.map fun s => (toG s.1, gOf s.2 j)).map Prod.fst = gs (xsL l) := by
    unfold gs xsL
    rw [List.map_map, List.map_map]
    rfl
  rw [List.nil_append, e]
  exact hn
theorem rightB_mk {l : List Sh} (h1 : 1 ≤ l.length) (h2 : l.length ≤ 255) (h3 : ∀ s ∈ l, dig s.1 = true ∧ s.2.size = 32) (h4 : (xsL l).Nodup) : rightB l = true := by
  have e3 : allSh l = true := by
    rw [allSh, List.all_eq_true]
    intro s hs
    simp [okSh, h3 s hs]
  have e4 : apartI (xsL l) = true := apartI_nodup.2 h4
  simp [rightB, e3, e4, h1, h2]
theorem zeroB_mk {l : List Sh} (h : ∀ s ∈ l, s.1 ≠ 0) : zeroB l = false := by
  rw [zeroB, List.any_eq_false]
  intro s hs
  simpa using h s hs

/-! ### the shares of a secret -/
/-- The polynomials of a secret and its tape. -/
def polQ (p : ByteArray) (k : Nat) (j : Nat) : List Gf.G := polG p j k
theorem splL_mem {p : ByteArray} {n k : Nat} {s : Sh} (h : s ∈ splL p n k) : (1 ≤ s.1 ∧ s.1 ≤ n) ∧ OnQ (polQ p k) s := by
  obtain ⟨i, hi, rfl⟩ := List.mem_map.1 h
  have := List.mem_range.1 hi
  exact ⟨⟨by show 1 ≤ (i : Int) + 1; omega, by show (i : Int) + 1 ≤ n; omega⟩, rfl⟩
theorem splL_nodup (p : ByteArray) (n k : Nat) : (xsL (splL p n k)).Nodup := by
  have e : xsL (splL p n k) = (List.range n).map fun i : Nat => (i : Int) + 1 := by
    unfold xsL splL
    rw [List.map_map]
    rfl
  rw [e]
  refine List.Pairwise.map _ ?_ List.nodup_range
  intro a b h e
  exact h (by omega)
theorem sub_right {p : ByteArray} {n k : Nat} {c : List Sh} (hn : n ≤ 255) (h : c.Sublist (splL p n k)) (h1 : 1 ≤ c.length) : rightB c = true := by
  refine rightB_mk h1 (by have := h.length_le; rw [splL_length] at this; omega) (fun s hs => ?_) ((splL_nodup p n k).sublist (h.map _))
  obtain ⟨h2, h3⟩ := splL_mem (h.subset hs)
  exact ⟨by simp [dig]; omega, by rw [h3, txt_size]⟩
theorem sub_zero {p : ByteArray} {n k : Nat} {c : List Sh} (h : c.Sublist (splL p n k)) : zeroB c = false :=
  zeroB_mk fun s hs => by have := (splL_mem (h.subset hs)).1; omega
theorem sub_at {p : ByteArray} {n k : Nat} {c : List Sh} (hn : n ≤ 255) (h : c.Sublist (splL p n k)) (h1 : 1 ≤ c.length) (hk : k ≤ c.length) (x : Int) (hx : dig x = true) :
    atA c x = (txt fun j => Gf.ev (polQ p k j) (toG x), 0) := by
  have hr := sub_right hn h h1
  rw [atA_yes hr hx, atT_on hr (Q := polQ p k) (fun s hs => (splL_mem (h.subset hs)).2) (fun j => by rw [polQ, polG_length]; exact hk)]
theorem ev_zero : ∀ l : List Gf.G, Gf.ev l 0 = l.getD 0 0
  | [] => rfl
  | c :: r => by rw [Gf.ev, Gf.G.zero_mul, Gf.G.add_zero]; rfl
theorem gOf_left' {s t : ByteArray} {q : Nat} (h : q < s.size) : gOf (s ++ t) q = gOf s q := by
  have e1 : s.data.toList.length = s.size := by simp
  unfold gOf
  apply Gf.G.ext'
  simp only [ByteArray.data_append, Array.toList_append, List.getD]
  rw [List.getElem?_append_left (by omega)]
theorem polQ_zero {s t : ByteArray} {k j : Nat} (hk : 1 ≤ k) (hs : s.size = 32) (hj : j < 32) : Gf.ev (polQ (s ++ t) k j) (toG 0) = gOf s j := by
  have e : toG (0 : Int) = 0 := rfl
  rw [e, ev_zero, polQ, polG, List.getD, List.getElem?_map, List.getElem?_range (by omega)]
  show gOf (s ++ t) (32 * 0 + j) = _
  rw [show 32 * 0 + j = j by omega, gOf_left' (by omega)]
theorem sub_comb {s t : ByteArray} {n k : Nat} {c : List Sh} (hs : s.size = 32) (hk1 : 1 ≤ k) (hn : n ≤ 255) (h : c.Sublist (splL (s ++ t) n k)) (hk : k ≤ c.length) : combA c = (s, 0) := by
  rw [combA, if_neg (by rw [sub_zero h]; simp), sub_at hn h (by omega) hk 0 rfl]
  congr 1
  exact (txt_congr (S := gOf s) fun j hj => polQ_zero hk1 hs hj).trans (txt_gOf hs)

/-! ### chosen -/
def chL : List Sh → List Bool → List Sh
  | s :: l, b :: m => if b = true then s :: chL l m else chL l m
  | _, _ => []
theorem chL_sub : ∀ (l : List Sh) (m : List Bool), (chL l m).Sublist l
  | [], _ => List.nil_sublist _
  | s :: l, [] => List.nil_sublist _
  | s :: l, b :: m => by
    rw [chL]
    split
    · exact (chL_sub l m).cons_cons s
    · exact (chL_sub l m).cons s
theorem chL_snoc : ∀ (l : List Sh) (m : List Bool) (i : Nat), i < l.length → i < m.length → chL (l.take (i + 1)) (m.take (i + 1)) = if m.getD i false = true then chL (l.take i) (m.take i) ++ [l.getD i sh0] else chL (l.take i) (m.take i)
  | [], _, _, h, _ => by simp at h
  | s :: l, [], _, _, h => by simp at h
  | s :: l, b :: m, 0, _, _ => by
    simp [chL]
  | s :: l, b :: m, i + 1, h, h2 => by
    have ih := chL_snoc l m i (by simpa using h) (by simpa using h2)
    simp only [List.take_succ_cons, List.getD_cons_succ, chL]
    rw [ih]
    split <;> split <;> simp
theorem chL_all (l : List Sh) (m : List Bool) (i : Nat) (h : l.length ≤ i ∨ m.length ≤ i) : chL (l.take i) (m.take i) = chL l m := by
  induction l generalizing m i with
  | nil => simp [chL]
  | cons s l ih =>
    cases m with
    | nil => simp [chL]
    | cons b m =>
      cases i with
      | zero => simp at h
      | succ i =>
        simp only [List.take_succ_cons, chL]
        rw [ih m i (by simpa using h)]
theorem chL_nil (m : List Bool) : chL [] m = [] := by cases m <;> rfl
end Go.Proofs.Ytljckcegcfidoaa

/-
  A strings.Builder that a walk keeps over calls that leave its blocks (any program).
-/
namespace Go.Kx
open Go.RowKit

theorem grown_of_below {w w' : World} (h : Below w.heap.size w w') (row : Option Nat) : w.grownBy w' row :=
  ⟨h.os, h.tape, h.output, h.size, fun k hk _ => h.block k hk⟩
theorem builderAt_keep {T e : TypeId} {B b : Nat} {p : Value} {bs : List Value} {w w' : World} (h : Lib.BuilderAt T e B b p bs w) (hb : Below w.heap.size w w') : Lib.BuilderAt T e B b p bs w' := by
  have hlt := h.lt
  obtain ⟨hB, v, hh, hown, hne⟩ := h
  refine ⟨hB, v, (hb.block b hlt).trans hh, hown.kept (grown_of_below hb none) ?_, hne⟩
  cases v.ownBlock <;> simp
theorem isBuilder_keep {T e : TypeId} {B b : Nat} {bs : List Value} {w w' : World} (h : Lib.IsBuilder T e B b bs w) (hb : Below w.heap.size w w') : Lib.IsBuilder T e B b bs w' :=
  h.elim (fun h => .inl (builderAt_keep h hb)) (fun h => .inr (builderAt_keep h hb))
theorem isBuilder_lt {T e : TypeId} {B b : Nat} {bs : List Value} {w : World} (h : Lib.IsBuilder T e B b bs w) : b < w.heap.size := h.elim (·.lt) (·.lt)
end Go.Kx

/-
  strings.Builder's WriteString and String at this program's numbers (by the shelf's laws; no strings.Repeat beside them).
-/
namespace Go.Proofs
open Go.Shelf
def Try.layB_ren : Go.Shelf.Ren := ⟨fun | 166 => 45 | 169 => 46 | 240 => 69 | 276 => 78 | n => n, fun | 0 => 0 | 3 => 3 | 4 => 4 | 9 => 9 | 20 => 20 | 37 => 54 | 70 => 67 | 72 => 69 | 75 => 74 | 164 => 103 | 5 => 5 | 76 => 75 | 80 => 53 | 127 => 93 | n => n, fun | n => n⟩
theorem Try.layB166 : Go.Proofs.Lays.n166 Try.prog Try.layB_ren := {
  mixed := by kernel_rfl
  f166 := Try.func45.trans (congrArg some (by kernel_rfl))
  f240 := Try.func69.trans (congrArg some (by kernel_rfl))
  f276 := Try.func78.trans (congrArg some (by kernel_rfl))
  t0 := Try.underlying0
  a0 := Try.isAgg0
  z0 := Try.sizeOf0
  v0 := Try.zeroValue0
  t3 := Try.underlying3
  a3 := Try.isAgg3
  z3 := Try.sizeOf3
  v3 := Try.zeroValue3
  t4 := Try.underlying4
  a4 := Try.isAgg4
  z4 := Try.sizeOf4
  v4 := Try.zeroValue4
  t9 := Try.underlying9
  a9 := Try.isAgg9
  z9 := Try.sizeOf9
  v9 := Try.zeroValue9
  t20 := Try.underlying20
  a20 := Try.isAgg20
  z20 := Try.sizeOf20
  v20 := Try.zeroValue20
  t37 := Try.underlying54
  a37 := Try.isAgg54
  z37 := Try.sizeOf54
  v37 := Try.zeroValue54
  t70 := Try.underlying67
  a70 := Try.isAgg67
  z70 := Try.sizeOf67
  v70 := Try.zeroValue67
  t72 := Try.underlying69
  a72 := Try.isAgg69
  z72 := Try.sizeOf69
  v72 := Try.zeroValue69
  t75 := Try.underlying74
  a75 := Try.isAgg74
  z75 := Try.sizeOf74
  v75 := Try.zeroValue74
  t164 := Try.underlying103
  a164 := Try.isAgg103
  z164 := Try.sizeOf103
  v164 := Try.zeroValue103 }
theorem Try.layB169 : Go.Proofs.Lays.n169 Try.prog Try.layB_ren := {
  mixed := by kernel_rfl
  f169 := Try.func46.trans (congrArg some (by kernel_rfl))
  t0 := Try.underlying0
  a0 := Try.isAgg0
  z0 := Try.sizeOf0
  v0 := Try.zeroValue0
  t3 := Try.underlying3
  a3 := Try.isAgg3
  z3 := Try.sizeOf3
  v3 := Try.zeroValue3
  t9 := Try.underlying9
  a9 := Try.isAgg9
  z9 := Try.sizeOf9
  v9 := Try.zeroValue9
  t37 := Try.underlying54
  a37 := Try.isAgg54
  z37 := Try.sizeOf54
  v37 := Try.zeroValue54
  t70 := Try.underlying67
  a70 := Try.isAgg67
  z70 := Try.sizeOf67
  v70 := Try.zeroValue67
  t72 := Try.underlying69
  a72 := Try.isAgg69
  z72 := Try.sizeOf69
  v72 := Try.zeroValue69
  t127 := Try.underlying93
  a127 := Try.isAgg93
  z127 := Try.sizeOf93
  v127 := Try.zeroValue93 }
theorem Try.layB_Extra : Builder.Extra Try.prog Try.layB_ren := {
  sizeBuilder := by kernel_rfl
  liesBuilder := by kernel_rfl
  t5 := Try.underlying5
  a5 := Try.isAgg5
  z5 := Try.sizeOf5
  v5 := Try.zeroValue5
  infoByte := by kernel_rfl
  cellsByte := by kernel_rfl
  sizeByte := by kernel_rfl
  neB5 := by decide }
end Go.Proofs
namespace Go.Proofs.Ytljckcegcfidoaa
open Go.RowKit Go.Kx
theorem bld_write (B b : Nat) (bs : List Value) (s : ByteArray) (w : World) (h : Lib.IsBuilder 69 5 B b bs w) (hlen : bs.length + s.size ≤ 140737488355328) (hBw : B ≤ w.heap.size) :
    Calls Try.prog 45 #[.pointer (some ⟨b, 0, none⟩), .string s] w fun e w' => e = .returned (.tuple #[.int .i64 s.size, .nilIface]) ∧ Lib.IsBuilder 69 5 B b (bs ++ Lib.strCells s) w' ∧ Below B w w' :=
  (Any.Builder_WriteString Try.layB166 Try.layB_Extra B b bs s w h hlen hBw).mono fun _ _ ⟨he, hi, hb⟩ => ⟨he, .inr hi, hb⟩
theorem bld_string (B b : Nat) (l : List UInt8) (w : World) (h : Lib.IsBuilder 69 5 B b (Lib.byteCells l) w) (hBw : B ≤ w.heap.size) :
    Calls Try.prog 46 #[.pointer (some ⟨b, 0, none⟩)] w fun e w' => e = .returned (.string ⟨l.toArray⟩) ∧ Below B w w' :=
  Any.Builder_String_any Try.layB169 Try.layB_Extra B b l w h hBw
theorem bld_new (w : World) : Lib.IsBuilder 69 5 w.heap.size w.heap.size [] (w.alloc (.cells #[.pointer none, .slice none 0 0] 69)) := Lib.fresh_isBuilder _ _ w
end Go.Proofs.Ytljckcegcfidoaa
