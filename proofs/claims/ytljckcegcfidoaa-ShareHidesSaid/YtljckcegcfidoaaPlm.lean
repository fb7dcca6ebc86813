/-
  Polynomials over the digits below 256 (poly, as plain mathematics; any program): values, factors, how many zeros there may be, the one that goes through given values.
-/
import Derived.Test.YtljckcegcfidoaaGfm
namespace Go.Gf

/-- A digit. -/
structure G where
  v : Nat
  lt : v < 256
deriving DecidableEq
theorem G.ext' {a b : G} (h : a.v = b.v) : a = b := by cases a; cases b; cases h; rfl
instance : Add G := ⟨fun a b => ⟨a.v ^^^ b.v, xor_lt a.lt b.lt⟩⟩
instance : Mul G := ⟨fun a b => ⟨mulG a.v b.v, mulG_lt _ a.lt⟩⟩
instance : OfNat G 0 := ⟨⟨0, by decide⟩⟩
instance : OfNat G 1 := ⟨⟨1, by decide⟩⟩
def G.inv (a : G) : G := ⟨invG a.v, invG_lt _⟩
theorem G.add_v (a b : G) : (a + b).v = a.v ^^^ b.v := rfl
theorem G.mul_v (a b : G) : (a * b).v = mulG a.v b.v := rfl
theorem G.zero_v : (0 : G).v = 0 := rfl
theorem G.one_v : (1 : G).v = 1 := rfl
theorem G.add_comm (a b : G) : a + b = b + a := G.ext' (Nat.xor_comm _ _)
theorem G.add_assoc (a b c : G) : a + b + c = a + (b + c) := G.ext' (Nat.xor_assoc _ _ _)
theorem G.add_self (a : G) : a + a = 0 := G.ext' (Nat.xor_self _)
theorem G.add_zero (a : G) : a + 0 = a := G.ext' (Nat.xor_zero _)
theorem G.zero_add (a : G) : 0 + a = a := G.ext' (Nat.zero_xor _)
theorem G.mul_comm (a b : G) : a * b = b * a := G.ext' (Gf.mul_comm a.lt b.lt)
theorem G.mul_assoc (a b c : G) : a * b * c = a * (b * c) := G.ext' (Gf.mul_assoc a.lt b.lt c.lt)
theorem G.mul_add (a b c : G) : a * (b + c) = a * b + a * c := G.ext' (mul_xor _ b.lt c.lt)
theorem G.add_mul (a b c : G) : (a + b) * c = a * c + b * c := G.ext' (xor_mul _ a.lt b.lt)
theorem G.mul_zero (a : G) : a * 0 = 0 := G.ext' (Gf.mul_zero a.v)
theorem G.zero_mul (a : G) : 0 * a = 0 := G.ext' (Gf.zero_mul a.v)
theorem G.mul_one (a : G) : a * 1 = a := G.ext' (Gf.mul_one a.lt)
theorem G.one_mul (a : G) : 1 * a = a := G.ext' (Gf.one_mul a.lt)
theorem G.v_ne {a : G} (h : a ≠ 0) : a.v ≠ 0 := fun e => h (G.ext' e)
theorem G.mul_inv {a : G} (h : a ≠ 0) : a * a.inv = 1 := G.ext' (Gf.mul_inv a.lt (G.v_ne h))
theorem G.mul_ne {a b : G} (ha : a ≠ 0) (hb : b ≠ 0) : a * b ≠ 0 := fun e => Gf.mul_ne a.lt b.lt (G.v_ne ha) (G.v_ne hb) (congrArg G.v e)
theorem G.add_eq_zero {a b : G} : a + b = 0 ↔ a = b := by
  constructor
  · intro h
    have h2 : a + b + b = 0 + b := by rw [h]
    rwa [G.add_assoc, G.add_self, G.add_zero, G.zero_add] at h2
  · rintro rfl
    exact G.add_self a
theorem G.mul_eq_zero {a b : G} (h : a * b = 0) (ha : a ≠ 0) : b = 0 := Decidable.byContradiction fun hb => G.mul_ne ha hb h
instance : Std.Commutative (α := G) (· + ·) := ⟨G.add_comm⟩
instance : Std.Associative (α := G) (· + ·) := ⟨G.add_assoc⟩
instance : Std.Commutative (α := G) (· * ·) := ⟨G.mul_comm⟩
instance : Std.Associative (α := G) (· * ·) := ⟨G.mul_assoc⟩
theorem G.add_cancel (a b : G) : a + (a + b) = b := by rw [← G.add_assoc, G.add_self, G.zero_add]

/-! ### values -/
def ev : List G → G → G
  | [], _ => 0
  | c :: r, x => c + x * ev r x
def addL : List G → List G → List G
  | [], m => m
  | l, [] => l
  | a :: l, b :: m => (a + b) :: addL l m
theorem ev_addL (x : G) : ∀ l m : List G, ev (addL l m) x = ev l x + ev m x
  | [], m => by rw [addL, ev, G.zero_add]
  | a :: l, [] => by rw [addL, ev, ev, G.add_zero]; simp
  | a :: l, b :: m => by
    rw [addL, ev, ev, ev, ev_addL x l m, G.mul_add]
    ac_rfl
theorem addL_length : ∀ (l m : List G) (n : Nat), l.length ≤ n → m.length ≤ n → (addL l m).length ≤ n
  | [], _, _, _, h => h
  | _ :: _, [], _, h, _ => h
  | a :: l, b :: m, 0, h, _ => by simp at h
  | a :: l, b :: m, n + 1, h, k => by
    have := addL_length l m n (by simpa using h) (by simpa using k)
    simpa [addL] using this
def scale (c : G) (l : List G) : List G := l.map (c * ·)
theorem ev_scale (c x : G) (l : List G) : ev (scale c l) x = c * ev l x := by
  induction l with
  | nil => exact (G.mul_zero c).symm
  | cons a l ih =>
    show c * a + x * ev (scale c l) x = c * (a + x * ev l x)
    rw [ih, G.mul_add]
    congr 1
    ac_rfl
/-- Times x plus a. -/
def linM (a : G) (l : List G) : List G := addL (0 :: l) (scale a l)
theorem ev_linM (a x : G) (l : List G) : ev (linM a l) x = (x + a) * ev l x := by
  rw [linM, ev_addL, ev, ev_scale, G.zero_add, G.add_mul]
theorem linM_length (a : G) (l : List G) (n : Nat) (h : l.length ≤ n) : (linM a l).length ≤ n + 1 := addL_length _ _ _ (by simpa using h) (by simp [scale]; omega)

/-! ### zeros -/
/-- What is left by x plus a. -/
def divL (a : G) : List G → List G
  | [] => []
  | [_] => []
  | _ :: b :: r => ev (b :: r) a :: divL a (b :: r)
theorem divL_length (a : G) : ∀ l : List G, (divL a l).length = l.length - 1
  | [] => rfl
  | [_] => rfl
  | _ :: b :: r => by simp [divL, divL_length a (b :: r)]
theorem ev_divL (a x : G) : ∀ l : List G, ev l x + ev l a = (x + a) * ev (divL a l) x
  | [] => by rw [divL, ev, ev, G.mul_zero]; rfl
  | [c] => by rw [divL, ev, ev, ev, ev, ev, G.mul_zero, G.mul_zero, G.mul_zero, G.add_zero, G.add_self]
  | c :: b :: r => by
    have ih := ev_divL a x (b :: r)
    rw [divL]
    generalize b :: r = l at *
    rw [ev, ev, ev]
    have e : c + x * ev l x + (c + a * ev l a) = x * (ev l x + ev l a) + (x + a) * ev l a := by
      rw [G.mul_add, G.add_mul]
      rw [show c + x * ev l x + (c + a * ev l a) = (c + c) + (x * ev l x + a * ev l a) by ac_rfl]
      rw [show x * ev l x + x * ev l a + (x * ev l a + a * ev l a) = (x * ev l a + x * ev l a) + (x * ev l x + a * ev l a) by ac_rfl]
      rw [G.add_self, G.add_self]
    rw [e, ih, G.mul_add]
    rw [show x * ((x + a) * ev (divL a l) x) = (x + a) * (x * ev (divL a l) x) by ac_rfl]
    exact G.add_comm _ _
theorem divL_last (a : G) : ∀ (l : List G) (h : divL a l ≠ []), ∃ h2 : l ≠ [], (divL a l).getLast h = l.getLast h2
  | [], h => absurd rfl h
  | [_], h => absurd rfl h
  | [c, b], _ => ⟨by simp, by simp [divL, ev, G.mul_zero, G.add_zero]⟩
  | c :: b :: d :: r, _ => by
    obtain ⟨h2, h3⟩ := divL_last a (b :: d :: r) (by simp [divL])
    refine ⟨by simp, ?_⟩
    rw [List.getLast_cons h2, ← h3]
    exact List.getLast_cons (a := ev (b :: d :: r) a) (by simp [divL])
theorem zero_left {l : List G} {a z : G} (ha : ev l a = 0) (hz : ev l z = 0) (h : z ≠ a) : ev (divL a l) z = 0 := by
  have e := ev_divL a z l
  rw [ha, hz, G.add_self] at e
  exact G.mul_eq_zero e.symm fun h2 => h (G.add_eq_zero.1 h2)
/-- As many zeros as digits: 0 everywhere. -/
theorem all_zero : ∀ (zs : List G) (l : List G), zs.Nodup → l.length ≤ zs.length → (∀ z ∈ zs, ev l z = 0) → ∀ x, ev l x = 0
  | [], l, _, hl, _, x => by
    obtain rfl : l = [] := List.eq_nil_of_length_eq_zero (by simpa using hl)
    rfl
  | a :: zs, l, hn, hl, h, x => by
    have hn' := List.nodup_cons.1 hn
    have ha := h a (by simp)
    have hq := all_zero zs (divL a l) hn'.2 (by rw [divL_length]; simp at hl; omega) (fun z hz => zero_left ha (h z (by simp [hz])) (fun e => hn'.1 (e ▸ hz))) x
    have e := ev_divL a x l
    rw [ha, hq, G.mul_zero, G.add_zero] at e
    exact e
/-- Fewer zeros than digits, if the last one is not 0. -/
theorem few_zeros : ∀ (zs : List G) (l : List G) (hl : l ≠ []), zs.Nodup → l.getLast hl ≠ 0 → (∀ z ∈ zs, ev l z = 0) → zs.length < l.length
  | [], l, hl, _, _, _ => List.length_pos_iff.2 hl
  | a :: zs, l, hl, hn, h0, h => by
    have hn' := List.nodup_cons.1 hn
    have ha := h a (by simp)
    by_cases hd : divL a l = []
    · have h1 : l.length = 1 := by
        have := divL_length a l
        rw [hd] at this
        have h2 := List.length_pos_iff.2 hl
        simp at this
        omega
      obtain ⟨c, rfl⟩ := List.length_eq_one_iff.1 h1
      rw [ev, ev, G.mul_zero, G.add_zero] at ha
      exact absurd ha h0
    · obtain ⟨h2, h3⟩ := divL_last a l hd
      have := few_zeros zs (divL a l) hd hn'.2 (by rw [h3]; exact h0) (fun z hz => zero_left ha (h z (by simp [hz])) (fun e => hn'.1 (e ▸ hz)))
      rw [divL_length] at this
      simp
      omega

/-! ### the one that goes through -/
def prodG : List G → G
  | [] => 1
  | a :: r => a * prodG r
def sumG : List G → G
  | [] => 0
  | a :: r => a + sumG r
theorem prodG_append (a b : List G) : prodG (a ++ b) = prodG a * prodG b := by
  induction a with
  | nil => exact (G.one_mul _).symm
  | cons x a ih => rw [List.cons_append, prodG, ih, prodG, G.mul_assoc]
theorem sumG_append (a b : List G) : sumG (a ++ b) = sumG a + sumG b := by
  induction a with
  | nil => exact (G.zero_add _).symm
  | cons x a ih => rw [List.cons_append, sumG, ih, sumG, G.add_assoc]
theorem prodG_zero {l : List G} (h : 0 ∈ l) : prodG l = 0 := by
  induction l with
  | nil => simp at h
  | cons a l ih =>
    rcases List.mem_cons.1 h with h | h
    · rw [prodG, ← h, G.zero_mul]
    · rw [prodG, ih h, G.mul_zero]
theorem prodG_one {l : List G} (h : ∀ a ∈ l, a = 1) : prodG l = 1 := by
  induction l with
  | nil => rfl
  | cons a l ih => rw [prodG, h a (by simp), ih (fun b hb => h b (by simp [hb])), G.one_mul]
theorem prodG_mul (f g : G → G) (l : List G) : prodG (l.map fun a => f a * g a) = prodG (l.map f) * prodG (l.map g) := by
  induction l with
  | nil => exact (G.mul_one 1).symm
  | cons a l ih =>
    rw [List.map_cons, prodG, ih, List.map_cons, List.map_cons, prodG, prodG]
    ac_rfl
/-- The product of x plus each. -/
def prodL : List G → List G
  | [] => [1]
  | a :: r => linM a (prodL r)
theorem prodL_length (l : List G) : (prodL l).length ≤ l.length + 1 := by
  induction l with
  | nil => simp [prodL]
  | cons a l ih => exact linM_length a _ _ ih
theorem ev_prodL (x : G) (l : List G) : ev (prodL l) x = prodG (l.map fun a => x + a) := by
  induction l with
  | nil => rw [prodL, ev, ev, G.mul_zero, G.add_zero]; rfl
  | cons a l ih => rw [prodL, ev_linM, ih]; rfl
/-- The weight at one of the places, c, of which the others are 'os'. -/
def wgt (c : G) (os : List G) (x : G) : G := prodG (os.map fun a => (x + a) * (c + a).inv)
def wgtL (c : G) (os : List G) : List G := scale (prodG (os.map fun a => (c + a).inv)) (prodL os)
theorem ev_wgtL (c x : G) (os : List G) : ev (wgtL c os) x = wgt c os x := by
  rw [wgtL, ev_scale, ev_prodL, wgt, prodG_mul (fun a => x + a) (fun a => (c + a).inv)]
  exact G.mul_comm _ _
theorem wgt_other {c x : G} {os : List G} (h : x ∈ os) : wgt c os x = 0 :=
  prodG_zero (List.mem_map.2 ⟨x, h, by rw [G.add_self, G.zero_mul]⟩)
theorem wgt_own {c : G} {os : List G} (h : c ∉ os) : wgt c os c = 1 := prodG_one fun b hb => by
  obtain ⟨a, ha, rfl⟩ := List.mem_map.1 hb
  exact G.mul_inv fun e => h (G.add_eq_zero.1 e ▸ ha)
/-- Sums over places: 'pre' are those that have been, 'ps' those that come, each with its value. -/
def thr (pre : List G) : List (G × G) → G → G
  | [], _ => 0
  | (c, y) :: r, x => y * wgt c (pre ++ r.map Prod.fst) x + thr (pre ++ [c]) r x
def thrL (pre : List G) : List (G × G) → List G
  | [] => []
  | (c, y) :: r => addL (scale y (wgtL c (pre ++ r.map Prod.fst))) (thrL (pre ++ [c]) r)
theorem ev_thrL (x : G) : ∀ (ps : List (G × G)) (pre : List G), ev (thrL pre ps) x = thr pre ps x
  | [], _ => rfl
  | (c, y) :: r, pre => by rw [thrL, ev_addL, ev_scale, ev_wgtL, ev_thrL x r, thr]
theorem thrL_length : ∀ (ps : List (G × G)) (pre : List G) (n : Nat), pre.length + ps.length ≤ n → (thrL pre ps).length ≤ n
  | [], _, _, _ => Nat.zero_le _
  | (c, y) :: r, pre, n, h => by
    refine addL_length _ _ _ ?_ (thrL_length r _ n (by simp at h ⊢; omega))
    have := prodL_length (pre ++ r.map Prod.fst)
    simp [wgtL, scale] at this ⊢
    simp at h
    omega
theorem thr_gone {x : G} : ∀ (ps : List (G × G)) (pre : List G), x ∈ pre → thr pre ps x = 0
  | [], _, _ => rfl
  | (c, y) :: r, pre, h => by
    rw [thr, wgt_other (by simp [h]), G.mul_zero, thr_gone r _ (by simp [h]), G.add_zero]
/-- At one of the places it is that one's value. -/
theorem thr_at {x z : G} : ∀ (ps : List (G × G)) (pre : List G), (pre ++ ps.map Prod.fst).Nodup → (x, z) ∈ ps → thr pre ps x = z
  | [], _, _, h => by simp at h
  | (c, y) :: r, pre, hn, h => by
    rw [thr]
    have hc : c ∉ pre ++ r.map Prod.fst := by
      have := List.perm_middle (a := c) (l₁ := pre) (l₂ := r.map Prod.fst)
      exact (List.nodup_cons.1 (this.nodup_iff.1 hn)).1
    rcases List.mem_cons.1 h with h | h
    · obtain ⟨rfl, rfl⟩ := Prod.mk.inj h
      rw [wgt_own hc, G.mul_one, thr_gone r _ (by simp), G.add_zero]
    · have hx : x ∈ r.map Prod.fst := List.mem_map.2 ⟨_, h, rfl⟩
      rw [wgt_other (by simp only [List.mem_append]; exact .inr hx), G.mul_zero, G.zero_add]
      exact thr_at r _ (by simpa using hn) h
/-- Through values of a polynomial with at most as many digits as there are places goes that polynomial. -/
theorem thr_ev (l : List G) (xs : List G) (hn : xs.Nodup) (hl : l.length ≤ xs.length) (x : G) : thr [] (xs.map fun a => (a, ev l a)) x = ev l x := by
  have hm : (xs.map fun a => (a, ev l a)).map Prod.fst = xs := by rw [List.map_map]; simp [Function.comp_def]
  have h := all_zero xs (addL l (thrL [] (xs.map fun a => (a, ev l a)))) hn (addL_length _ _ _ hl (thrL_length _ _ _ (by simp))) (fun z hz => by
    rw [ev_addL, ev_thrL, thr_at (z := ev l z) _ _ (by rw [hm]; exact hn) (List.mem_map.2 ⟨z, hz, rfl⟩), G.add_self]) x
  rw [ev_addL, ev_thrL] at h
  exact (G.add_eq_zero.1 h).symm
end Go.Gf
