/-
  share: Tape's mathematics, and what its loops keep.
-/
import Derived.Test.YtljckcegcfidoaaShp
import Derived.Test.YtljckcegcfidoaaSbl
namespace Go.Proofs.Ytljckcegcfidoaa
open Go.RowKit Go.Kx
set_option maxRecDepth 20000

/-! ### mathematics -/
/-- What is left of the polynomials behind their first d digits, at the shares' places. -/
def lefD (Q : Nat → List Gf.G) (l : List Sh) (d i j : Nat) : Gf.G := Gf.ev ((Q j).drop d) (toG (l.getD i sh0).1)
/-- Their digits at d. -/
def digD (Q : Nat → List Gf.G) (d j : Nat) : Gf.G := (Q j).getD d 0
/-- The tape's first d parts. -/
def tapL (Q : Nat → List Gf.G) : Nat → List UInt8
  | 0 => []
  | d + 1 => tapL Q d ++ txtL (digD Q (d + 1))
theorem tapL_length (Q : Nat → List Gf.G) : ∀ d, (tapL Q d).length = 32 * d
  | 0 => rfl
  | d + 1 => by rw [tapL, List.length_append, tapL_length Q d, txtL_length]; omega
/-- The polynomials go through the secret and the shares. -/
def Thru (Q : Nat → List Gf.G) (s : ByteArray) (l : List Sh) : Prop := (∀ j, (Q j).length = l.length + 1) ∧ (∀ j, j < 32 → digD Q 0 j = gOf s j) ∧ ∀ i, i < l.length → ∀ j, j < 32 → gOf (l.getD i sh0).2 j = Gf.ev (Q j) (toG (l.getD i sh0).1)
theorem toG_ne {x : Int} (hd : dig x = true) (h0 : x ≠ 0) : toG x ≠ 0 := fun e => h0 (by rw [← toG_v hd, e]; rfl)
theorem invA_G {x : Int} (hd : dig x = true) (h0 : x ≠ 0) : invA x = ((toG x).inv.v, true) := by
  obtain ⟨n, rfl, hn⟩ := dig_nat hd
  rw [invA, if_pos ⟨hd, h0⟩, toG_nat hn]
  rfl
theorem lef_step {Q : Nat → List Gf.G} {l : List Sh} {d i j : Nat} (hq : d < (Q j).length) (hd : dig (l.getD i sh0).1 = true) (h0 : (l.getD i sh0).1 ≠ 0) :
    (toG (l.getD i sh0).1).inv * (lefD Q l d i j + digD Q d j) = lefD Q l (d + 1) i j := by
  unfold lefD digD
  have e : (Q j).drop d = (Q j).getD d 0 :: (Q j).drop (d + 1) := by
    rw [List.drop_eq_getElem_cons hq, List.getD, List.getElem?_eq_getElem hq]
    rfl
  have hx := toG_ne hd h0
  generalize toG (l.getD i sh0).1 = x at *
  rw [e, Gf.ev]
  generalize (Q j).getD d 0 = c
  generalize Gf.ev ((Q j).drop (d + 1)) x = v
  rw [show c + x * v + c = (c + c) + x * v by ac_rfl, Gf.G.add_self, Gf.G.zero_add, ← Gf.G.mul_assoc, Gf.G.mul_comm x.inv x, Gf.G.mul_inv hx, Gf.G.one_mul]
theorem lef_sum {Q : Nat → List Gf.G} {l : List Sh} {d j : Nat} (hr : rightB l = true) (hq : (Q j).length = l.length + 1) : accR (wgtsI (xsL l) 0) (lefD Q l (d + 1)) l.length j = digD Q (d + 1) j := by
  obtain ⟨_, _, h3, h4⟩ := rightB_of hr
  have := acc_eq (xs := xsL l) (x := 0) (F := lefD Q l (d + 1)) (j := j) (fun a => Gf.ev ((Q j).drop (d + 1)) a) (fun i hi => by
    rw [xsL_length] at hi
    rw [xsL_at l hi]
    rfl)
  rw [xsL_length] at this
  rw [this, Gf.thr_ev _ (gs (xsL l)) (gs_nodup (allSh_digs h3) h4) (by rw [gs_length, xsL_length, List.length_drop]; omega)]
  rw [show toG (0 : Int) = 0 from rfl, ev_zero, digD]
  simp [List.getD, List.getElem?_drop]
/-- The rows while they are turned. -/
def mixD (Q : Nat → List Gf.G) (l : List Sh) (d k i j : Nat) : Gf.G := if i < k then lefD Q l (d + 1) i j else lefD Q l d i j
theorem mixD_put (Q : Nat → List Gf.G) (l : List Sh) (d k i j : Nat) : putR (mixD Q l d k) k (lefD Q l (d + 1) k) i j = mixD Q l d (k + 1) i j := by
  unfold putR mixD
  by_cases h : i = k
  · subst h; simp
  · rw [if_neg h]
    by_cases h2 : i < k
    · rw [if_pos h2, if_pos (by omega)]
    · rw [if_neg h2, if_neg (by omega)]

/-! ### what is kept -/
/-- Blocks of S read as they did. -/
def Agr (S : Nat → Prop) (V V' : World) : Prop := V.heap.size ≤ V'.heap.size ∧ ∀ k, S k → V'.heap[k]? = V.heap[k]?
theorem Agr.low {T : Nat} {V V' : World} (h : Below T V V') : Agr (· < T) V V' := ⟨h.size, h.block⟩
theorem heap_setCells_other {b k : Nat} (h : k ≠ b) : ∀ (vs : List Value) (o : Nat) (w : World), (w.setCells b o vs).heap[k]? = w.heap[k]?
  | [], _, _ => rfl
  | _ :: r, o, _ => (heap_setCells_other h r (o + 1) _).trans (Below.heap_setCell _ _ _ _ h)
theorem size_setCells {b : Nat} : ∀ (vs : List Value) (o : Nat) (w : World), (w.setCells b o vs).heap.size = w.heap.size
  | [], _, _ => rfl
  | _ :: r, o, _ => (size_setCells r (o + 1) _).trans (by simp)
theorem Agr.cells (V : World) (M o : Nat) (vs : List Value) : Agr (· ≠ M) V (V.setCells M o vs) := ⟨by rw [size_setCells]; exact Nat.le_refl _, fun _ h => heap_setCells_other h vs o V⟩
theorem Agr.row (V : World) (D : Nat) (d : Array Value) : Agr (· ≠ D) V (V.setRow D d) := ⟨by simp, fun k h => setRow_other V D k d h⟩
theorem Agr.rowIs {S : Nat → Prop} {V V' : World} (h : Agr S V V') {b n : Nat} {t : TypeId} {f : Nat → Value} (hr : V.rowIs b t n f) (hS : S b) : V'.rowIs b t n f := hr.of_block (h.2 b hS)
theorem Agr.sl {S : Nat → Prop} {V V' : World} (h : Agr S V V') {A : Option Addr} {vs : List Value} (hs : Sl V A vs) (hS : ∀ a, A = some a → S a.block) : Sl V' A vs := by
  rcases hs with rfl | ⟨b, off, rfl, hlt, hc⟩
  · exact .inl rfl
  · exact .inr ⟨b, off, rfl, Nat.lt_of_lt_of_le hlt h.1, fun j u hu => (World.cell?_of_block (w := V) (h.2 b (hS _ rfl))).trans (hc j u hu)⟩
theorem bld_but {T e : TypeId} {B b M : Nat} {bs : List Value} {V V' : World} (h : Lib.IsBuilder T e B b bs V) (hM : M < B) (ho : V'.os = V.os ∧ V'.tape = V.tape ∧ V'.output = V.output) (ha : Agr (· ≠ M) V V') : Lib.IsBuilder T e B b bs V' := by
  have key : ∀ p, Lib.BuilderAt T e B b p bs V → Lib.BuilderAt T e B b p bs V' := fun p ⟨hB, v, hh, hown, hne⟩ => by
    refine ⟨hB, v, (ha.2 b (by show b ≠ M; omega)).trans hh, hown.kept (row := some M) ⟨ho.1, ho.2.1, ho.2.2, ha.1, fun k _ hk => ha.2 k (fun e => hk (by rw [e]))⟩ ?_, hne⟩
    cases hv : v.ownBlock with
    | none => exact .inl rfl
    | some k =>
      refine .inr fun e => ?_
      have := (hown.lt k hv).1
      have : k = M := by simpa using e
      omega
  exact h.elim (fun h => .inl (key _ h)) (fun h => .inr (key _ h))

/-- Where Tape's own things lie. -/
structure TpD (T g N M D : Nat) (Aw : Option Addr) : Prop where
  g1 : g ≠ M
  g2 : g ≠ D
  n1 : N ≠ M
  n2 : N ≠ D
  md : M ≠ D
  aw : ∀ a, Aw = some a → a.block ≠ M ∧ a.block ≠ D ∧ a.block < T
  gT : g < T
  nT : N < T
  mT : M < T
  dT : D < T
/-- What they hold. -/
structure TpS (V : World) (g N M D : Nat) (Aw : Option Addr) (xs ws : List Int) (m : Nat) (F : Nat → Nat → Gf.G) (dg : Nat → Gf.G) : Prop where
  f : Fld V g
  x : Sl V (some ⟨N, 0, none⟩) (intsI xs)
  w : Sl V Aw (intsI ws)
  r : Rws V M m F
  d : V.heap[D]? = some (.cells (rowV dg) 52 (0, 0))
variable {V V' : World} {T g N M D : Nat} {Aw : Option Addr} {xs ws : List Int} {m : Nat} {F G : Nat → Nat → Gf.G} {dg : Nat → Gf.G}
theorem TpS.keep (h : TpS V g N M D Aw xs ws m F dg) (hb : Below V.heap.size V V') : TpS V' g N M D Aw xs ws m F dg :=
  ⟨h.f.keep hb, h.x.keep hb, h.w.keep hb, h.r.keep hb, (hb.block _ (Array.getElem?_eq_some_iff.1 h.d).1).trans h.d⟩
theorem TpS.low (h : TpS V g N M D Aw xs ws m F dg) (k : TpD T g N M D Aw) (hb : Below T V V') : TpS V' g N M D Aw xs ws m F dg :=
  have a := Agr.low hb
  ⟨a.rowIs h.f k.gT, a.sl h.x (fun _ e => by cases e; exact k.nT), a.sl h.w (fun _ e => (k.aw _ e).2.2), a.rowIs h.r k.mT, (a.2 _ k.dT).trans h.d⟩
theorem TpS.congr (h : TpS V g N M D Aw xs ws m F dg) (e : ∀ i j, i < m → j < 32 → F i j = G i j) : TpS V g N M D Aw xs ws m G dg := ⟨h.f, h.x, h.w, h.r.congr e, h.d⟩
theorem TpS.put (h : TpS V g N M D Aw xs ws m F dg) (k : TpD T g N M D Aw) (i : Nat) (R : Nat → Gf.G) : TpS (V.setCells M (i * 32) (rowV R).toList) g N M D Aw xs ws m (putR F i R) dg :=
  have a := Agr.cells V M (i * 32) (rowV R).toList
  ⟨a.rowIs h.f k.g1, a.sl h.x (fun _ e => by cases e; exact k.n1), a.sl h.w (fun _ e => (k.aw _ e).1), h.r.put i R, (a.2 _ (fun e => k.md e.symm)).trans h.d⟩
theorem TpS.dig (h : TpS V g N M D Aw xs ws m F dg) (k : TpD T g N M D Aw) (R : Nat → Gf.G) : TpS (V.setRow D (rowV R)) g N M D Aw xs ws m F R :=
  have a := Agr.row V D (rowV R)
  ⟨a.rowIs h.f k.g2, a.sl h.x (fun _ e => by cases e; exact k.n2), a.sl h.w (fun _ e => (k.aw _ e).2.1), a.rowIs h.r k.md, setRow_heap _ _ _ _ _ _ h.d⟩
end Go.Proofs.Ytljckcegcfidoaa
