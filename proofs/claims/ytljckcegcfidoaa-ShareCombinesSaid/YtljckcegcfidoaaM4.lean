/-
  Merged by program: Tap1, Tap2, Shh, Sho, Rfm, Rf1, Rf3, Rf6, SCom, Post, Shc.
-/
import Derived.Test.YtljckcegcfidoaaM3
import Derived.Test.YtljckcegcfidoaaM2
import Derived.Test.YtljckcegcfidoaaM1
import Derived.Deep.QuietTactic
import Derived.BigQuiet
import Derived.WalkKit
import Derived.ProofKit
import Derived.OpenShut
import Derived.Carry
import Derived.ChangeMaps5
import Derived.ChangeSlices

/-
  share: Tape's mathematics, and what its loops keep.
-/
namespace Go.Proofs.Ytljckcegcfidoaa
open Go.RowKit Go.Kx
set_option maxRecDepth 20000

/-! ### mathematics -/
/-- What is left of the polynomials behind their first d digits, at the shares' places. -/
def lefD (Q : Nat → List Gf.G) (l : List Sh) (d i j : Nat) : Gf.G := Gf.ev ((Q j).drop d) (toG (l.getD i sh0).1)
/-- Their digits at d. -/
def digD (Q : Nat → List Gf.G) (d j : Nat) : Gf.G := (Q j).getD d 0
/-- The tape's first d parts. -/
def tapL (Q : Nat → List Gf.G) : Nat → List UInt8
  | 0 => []
  | d + 1 => tapL Q d ++ txtL (digD Q (d + 1))
theorem tapL_length (Q : Nat → List Gf.G) : ∀ d, (tapL Q d).length = 32 * d
  | 0 => rfl
  | d + 1 => by rw [tapL, List.length_append, tapL_length Q d, txtL_length]; omega
/-- The polynomials go through the secret and the shares. -/
def Thru (Q : Nat → List Gf.G) (s : ByteArray) (l : List Sh) : Prop := (∀ j, (Q j).length = l.length + 1) ∧ (∀ j, j < 32 → digD Q 0 j = gOf s j) ∧ ∀ i, i < l.length → ∀ j, j < 32 → gOf (l.getD i sh0).2 j = Gf.ev (Q j) (toG (l.getD i sh0).1)
theorem toG_ne {x : Int} (hd : dig x = true) (h0 : x ≠ 0) : toG x ≠ 0 := fun e => h0 (by rw [← toG_v hd, e]; rfl)
theorem invA_G {x : Int} (hd : dig x = true) (h0 : x ≠ 0) : invA x = ((toG x).inv.v, true) := by
  obtain ⟨n, rfl, hn⟩ := dig_nat hd
  rw [invA, if_pos ⟨hd, h0⟩, toG_nat hn]
  rfl
theorem lef_step {Q : Nat → List Gf.G} {l : List Sh} {d i j : Nat} (hq : d < (Q j).length) (hd : dig (l.getD i sh0).1 = true) (h0 : (l.getD i sh0).1 ≠ 0) :
    (toG (l.getD i sh0).1).inv * (lefD Q l d i j + digD Q d j) = lefD Q l (d + 1) i j := by
  unfold lefD digD
  have e : (Q j).drop d = (Q j).getD d 0 :: (Q j).drop (d + 1) := by
    rw [List.drop_eq_getElem_cons hq, List.getD, List.getElem?_eq_getElem hq]
    rfl
  have hx := toG_ne hd h0
  generalize toG (l.getD i sh0).1 = x at *
  rw [e, Gf.ev]
  generalize (Q j).getD d 0 = c
  generalize Gf.ev ((Q j).drop (d + 1)) x = v
  rw [show c + x * v + c = (c + c) + x * v by ac_rfl, Gf.G.add_self, Gf.G.zero_add, ← Gf.G.mul_assoc, Gf.G.mul_comm x.inv x, Gf.G.mul_inv hx, Gf.G.one_mul]
theorem lef_sum {Q : Nat → List Gf.G} {l : List Sh} {d j : Nat} (hr : rightB l = true) (hq : (Q j).length = l.length + 1) : accR (wgtsI (xsL l) 0) (lefD Q l (d + 1)) l.length j = digD Q (d + 1) j := by
  obtain ⟨_, _, h3, h4⟩ := rightB_of hr
  have := acc_eq (xs := xsL l) (x := 0) (F := lefD Q l (d + 1)) (j := j) (fun a => Gf.ev ((Q j).drop (d + 1)) a) (fun i hi => by
    rw [xsL_length] at hi
    rw [xsL_at l hi]
    rfl)
  rw [xsL_length] at this
  rw [this, Gf.thr_ev _ (gs (xsL l)) (gs_nodup (allSh_digs h3) h4) (by rw [gs_length, xsL_length, List.length_drop]; omega)]
  rw [show toG (0 : Int) = 0 from rfl, ev_zero, digD]
  simp [List.getD, List.getElem?_drop]
/-- The rows while they are turned. -/
def mixD (Q : Nat → List Gf.G) (l : List Sh) (d k i j : Nat) : Gf.G := if i < k then lefD Q l (d + 1) i j else lefD Q l d i j
theorem mixD_put (Q : Nat → List Gf.G) (l : List Sh) (d k i j : Nat) : putR (mixD Q l d k) k (lefD Q l (d + 1) k) i j = mixD Q l d (k + 1) i j := by
  unfold putR mixD
  by_cases h : i = k
  · subst h; simp
  · rw [if_neg h]
    by_cases h2 : i < k
    · rw [if_pos h2, if_pos (by omega)]
    · rw [if_neg h2, if_neg (by omega)]

/-! ### what is kept -/
/-- Blocks of S read as they did. -/
def Agr (S : Nat → Prop) (V V' : World) : Prop := V.heap.size ≤ V'.heap.size ∧ ∀ k, S k → V'.heap[k]? = V.heap[k]?
theorem Agr.low {T : Nat} {V V' : World} (h : Below T V V') : Agr (· < T) V V' := ⟨h.size, h.block⟩
theorem heap_setCells_other {b k : Nat} (h : k ≠ b) : ∀ (vs : List Value) (o : Nat) (w : World), (w.setCells b o vs).heap[k]? = w.heap[k]?
  | [], _, _ => rfl
  | _ :: r, o, _ => (heap_setCells_other h r (o + 1) _).trans (Below.heap_setCell _ _ _ _ h)
theorem size_setCells {b : Nat} : ∀ (vs : List Value) (o : Nat) (w : World), (w.setCells b o vs).heap.size = w.heap.size
  | [], _, _ => rfl
  | _ :: r, o, _ => (size_setCells r (o + 1) _).trans (by simp)
theorem Agr.cells (V : World) (M o : Nat) (vs : List Value) : Agr (· ≠ M) V (V.setCells M o vs) := ⟨by rw [size_setCells]; exact Nat.le_refl _, fun _ h => heap_setCells_other h vs o V⟩
theorem Agr.row (V : World) (D : Nat) (d : Array Value) : Agr (· ≠ D) V (V.setRow D d) := ⟨by simp, fun k h => setRow_other V D k d h⟩
theorem Agr.rowIs {S : Nat → Prop} {V V' : World} (h : Agr S V V') {b n : Nat} {t : TypeId} {f : Nat → Value} (hr : V.rowIs b t n f) (hS : S b) : V'.rowIs b t n f := hr.of_block (h.2 b hS)
theorem Agr.sl {S : Nat → Prop} {V V' : World} (h : Agr S V V') {A : Option Addr} {vs : List Value} (hs : Sl V A vs) (hS : ∀ a, A = some a → S a.block) : Sl V' A vs := by
  rcases hs with rfl | ⟨b, off, rfl, hlt, hc⟩
  · exact .inl rfl
  · exact .inr ⟨b, off, rfl, Nat.lt_of_lt_of_le hlt h.1, fun j u hu => (World.cell?_of_block (w := V) (h.2 b (hS _ rfl))).trans (hc j u hu)⟩
theorem bld_but {T e : TypeId} {B b M : Nat} {bs : List Value} {V V' : World} (h : Lib.IsBuilder T e B b bs V) (hM : M < B) (ho : V'.os = V.os ∧ V'.tape = V.tape ∧ V'.output = V.output) (ha : Agr (· ≠ M) V V') : Lib.IsBuilder T e B b bs V' := by
  have key : ∀ p, Lib.BuilderAt T e B b p bs V → Lib.BuilderAt T e B b p bs V' := fun p ⟨hB, v, hh, hown, hne⟩ => by
    refine ⟨hB, v, (ha.2 b (by show b ≠ M; omega)).trans hh, hown.kept (row := some M) ⟨ho.1, ho.2.1, ho.2.2, ha.1, fun k _ hk => ha.2 k (fun e => hk (by rw [e]))⟩ ?_, hne⟩
    cases hv : v.ownBlock with
    | none => exact .inl rfl
    | some k =>
      refine .inr fun e => ?_
      have := (hown.lt k hv).1
      have : k = M := by simpa using e
      omega
  exact h.elim (fun h => .inl (key _ h)) (fun h => .inr (key _ h))

/-- Where Tape's own things lie. -/
structure TpD (T g N M D : Nat) (Aw : Option Addr) : Prop where
  g1 : g ≠ M
  g2 : g ≠ D
  n1 : N ≠ M
  n2 : N ≠ D
  md : M ≠ D
  aw : ∀ a, Aw = some a → a.block ≠ M ∧ a.block ≠ D ∧ a.block < T
  gT : g < T
  nT : N < T
  mT : M < T
  dT : D < T
/-- What they hold. -/
structure TpS (V : World) (g N M D : Nat) (Aw : Option Addr) (xs ws : List Int) (m : Nat) (F : Nat → Nat → Gf.G) (dg : Nat → Gf.G) : Prop where
  f : Fld V g
  x : Sl V (some ⟨N, 0, none⟩) (intsI xs)
  w : Sl V Aw (intsI ws)
  r : Rws V M m F
  d : V.heap[D]? = some (.cells (rowV dg) 52 (0, 0))
variable {V V' : World} {T g N M D : Nat} {Aw : Option Addr} {xs ws : List Int} {m : Nat} {F G : Nat → Nat → Gf.G} {dg : Nat → Gf.G}
theorem TpS.keep (h : TpS V g N M D Aw xs ws m F dg) (hb : Below V.heap.size V V') : TpS V' g N M D Aw xs ws m F dg :=
  ⟨h.f.keep hb, h.x.keep hb, h.w.keep hb, h.r.keep hb, (hb.block _ (Array.getElem?_eq_some_iff.1 h.d).1).trans h.d⟩
theorem TpS.low (h : TpS V g N M D Aw xs ws m F dg) (k : TpD T g N M D Aw) (hb : Below T V V') : TpS V' g N M D Aw xs ws m F dg :=
  have a := Agr.low hb
  ⟨a.rowIs h.f k.gT, a.sl h.x (fun _ e => by cases e; exact k.nT), a.sl h.w (fun _ e => (k.aw _ e).2.2), a.rowIs h.r k.mT, (a.2 _ k.dT).trans h.d⟩
theorem TpS.congr (h : TpS V g N M D Aw xs ws m F dg) (e : ∀ i j, i < m → j < 32 → F i j = G i j) : TpS V g N M D Aw xs ws m G dg := ⟨h.f, h.x, h.w, h.r.congr e, h.d⟩
theorem TpS.put (h : TpS V g N M D Aw xs ws m F dg) (k : TpD T g N M D Aw) (i : Nat) (R : Nat → Gf.G) : TpS (V.setCells M (i * 32) (rowV R).toList) g N M D Aw xs ws m (putR F i R) dg :=
  have a := Agr.cells V M (i * 32) (rowV R).toList
  ⟨a.rowIs h.f k.g1, a.sl h.x (fun _ e => by cases e; exact k.n1), a.sl h.w (fun _ e => (k.aw _ e).1), h.r.put i R, (a.2 _ (fun e => k.md e.symm)).trans h.d⟩
theorem TpS.dig (h : TpS V g N M D Aw xs ws m F dg) (k : TpD T g N M D Aw) (R : Nat → Gf.G) : TpS (V.setRow D (rowV R)) g N M D Aw xs ws m F R :=
  have a := Agr.row V D (rowV R)
  ⟨a.rowIs h.f k.g2, a.sl h.x (fun _ e => by cases e; exact k.n2), a.sl h.w (fun _ e => (k.aw _ e).2.1), a.rowIs h.r k.md, setRow_heap _ _ _ _ _ _ h.d⟩
end Go.Proofs.Ytljckcegcfidoaa

/-
  share: the contract of Tape.
-/
namespace Go.Proofs.Ytljckcegcfidoaa
open Go.RowKit Go.Kx
set_option maxRecDepth 20000

theorem rws_ne {V : World} {M n : Nat} {F : Nat → Nat → Gf.G} (h : Rws V M n F) {A : Option Addr} {ws : List Int} (hs : Sl V A (intsI ws)) (hw : 0 < ws.length) : ∀ a, A = some a → a.block ≠ M := by
  rintro a rfl rfl
  obtain ⟨b, off, e, hc⟩ := sl_int hs hw
  cases e
  obtain ⟨cs, hb, hn, hc2⟩ := h
  rw [cell_of_row _ _ _ _ _ _ hb] at hc
  by_cases hq : off + 0 < n * 32
  · rw [hc2 _ hq] at hc
    cases hc
  · rw [Array.getElem?_eq_none (by omega)] at hc
    cases hc
/-- Where Tape answers. -/
def okTp (s : ByteArray) (l : List Sh) : Prop := s.size = 32 ∧ rightB l = true ∧ zeroB l = false ∧ l.length ≠ 255
def tapNo (s : ByteArray) : Int := if s.size = 32 then 90 else 1
set_option maxHeartbeats 1000000 in
theorem tape_no (s : ByteArray) (l : List Sh) (A : Option Addr) (c : Nat) (hl : l.length ≤ 9223372036854775807) (h : ¬ okTp s l) (w : World) (hs : Sl w A (shV l)) :
    Calls Try.prog 19 #[.string s, .slice A l.length c] w fun e w' => e = strE (⟨#[]⟩, tapNo s) ∧ Below w.heap.size w w' := by
  by_cases h1 : (s.size : Int) = 32
  rotate_left
  · have t1 : ((s.size : Int) != 32) = true := by simpa using h1
    have e : Hid (tapNo s = 1) := Lib.hid (by rw [tapNo, if_neg (by omega)])
    go_enter Try.func19, Try.ntmps19
    go_wp2
    go_ret2
    exact ⟨by rw [e.out]; rfl, Below.refl _ _⟩
  have t1 : ((s.size : Int) != 32) = false := by simpa using h1
  have e : Hid (tapNo s = 90) := Lib.hid (by rw [tapNo, if_pos (by omega)])
  have HRT := Lib.hid (fun V h => right_any l A c hl V h)
  have HZ := Lib.hid (fun V h => shows_any l A c hl V h)
  cases h2 : rightB l with
  | false =>
    rw [h2] at HRT
    clear h h1 h2
    go_enter Try.func19, Try.ntmps19
    go_wp2_with fail
    refine (HRT.out _ hs).mono ?_
    rintro e w1 ⟨rfl, hb⟩
    go_wp2
    go_ret2
    exact ⟨by rw [e.out]; rfl, hb⟩
  | true =>
    rw [h2] at HRT
    cases h3 : zeroB l with
    | true =>
      rw [h3] at HZ
      clear h h1 h2 h3
      go_enter Try.func19, Try.ntmps19
      go_wp2_with fail
      refine (HRT.out _ hs).mono ?_
      rintro e w1 ⟨rfl, hb⟩
      go_wp2_with fail
      refine (HZ.out _ (hs.keep hb)).mono ?_
      rintro e w2 ⟨rfl, hb2⟩
      go_wp2
      go_ret2
      exact ⟨by rw [e.out]; rfl, hb.next' hb2⟩
    | false =>
      rw [h3] at HZ
      have h4 : l.length = 255 := Decidable.byContradiction fun h5 => h ⟨by omega, h2, h3, h5⟩
      have t4 : ((l.length : Int) == 255) = true := by simp; omega
      clear h h1 h2 h3 h4
      go_enter Try.func19, Try.ntmps19
      go_wp2_with fail
      refine (HRT.out _ hs).mono ?_
      rintro e w1 ⟨rfl, hb⟩
      go_wp2_with fail
      refine (HZ.out _ (hs.keep hb)).mono ?_
      rintro e w2 ⟨rfl, hb2⟩
      go_wp2
      go_ret2
      exact ⟨by rw [e.out]; rfl, hb.next' hb2⟩
set_option maxHeartbeats 8000000 in
theorem tape_yes (s : ByteArray) (l : List Sh) (A : Option Addr) (c : Nat) (Q : Nat → List Gf.G) (h : okTp s l) (hq : Thru Q s l) (w : World) (hs : Sl w A (shV l)) :
    Calls Try.prog 19 #[.string s, .slice A l.length c] w fun e w' => e = strE (⟨(tapL Q l.length).toArray⟩, 0) ∧ Below w.heap.size w w' := by
  obtain ⟨h1, h2, h3, h4⟩ := h
  obtain ⟨q1, q2, q3⟩ := hq
  obtain ⟨p1, p2, p3, p4⟩ := rightB_of h2
  have t1 : ((s.size : Int) != 32) = false := by simp; omega
  have t4 : ((l.length : Int) == 255) = false := by simp; omega
  have hm : l.length ≤ 254 := by omega
  have HRT := Lib.hid (fun V h => right_any l A c (by omega) V h)
  have HZ := Lib.hid (fun V h => shows_any l A c (by omega) V h)
  rw [h2] at HRT
  rw [h3] at HZ
  have HAP := Lib.hid (fun V h => apart_any l p1 p2 p3 A c V h)
  have hok : weightsA (xsL l) 0 = (wgtsI (xsL l) 0, true) := by rw [weightsA, if_pos (okWt_of h2 rfl)]
  have HWT : Hid (∀ V N, Sl V (some ⟨N, 0, none⟩) (intsI (xsL l)) → Calls Try.prog 34 #[.slice (some ⟨N, 0, none⟩) l.length l.length, .int .i64 0] V fun e w' => (∃ A c, e = .returned (.tuple #[.slice A l.length c, .bool true]) ∧ Sl w' A (intsI (wgtsI (xsL l) 0))) ∧ Below V.heap.size V w') := Lib.hid (fun V N h => by
    have := weights_any (xsL l) 0 (some ⟨N, 0, none⟩) l.length (by rw [xsL_length]; omega) V h
    rw [hok, xsL_length] at this
    refine this.mono ?_
    rintro e w' ⟨⟨A, c, he, hsl⟩, hb⟩
    dsimp only at he
    rw [wgtsI_length, xsL_length] at he
    exact ⟨⟨A, c, he, hsl⟩, hb⟩)
  have HSM : Hid (∀ d, d < l.length → ∀ V g M A c, Fld V g → Rws V M l.length (lefD Q l (d + 1)) → Sl V A (intsI (wgtsI (xsL l) 0)) → Calls Try.prog 35 #[.pointer (some ⟨g, 0, none⟩), .slice (some ⟨M, 0, none⟩) l.length l.length, .slice A l.length c] V
      fun e w' => e = .returned (.agg (rowV (digD Q (d + 1)))) ∧ Below V.heap.size V w') := Lib.hid (fun d hd V g M A c hf hr hs => by
    have := ssum_any g M l.length (lefD Q l (d + 1)) _ A c (by rw [wgtsI_length, xsL_length]) p2 (wgtsI_dig _ _) V hf hr hs
    rwa [rowV_congr (S := digD Q (d + 1)) (fun j _ => lef_sum h2 (q1 j))] at this)
  have HTX := Lib.hid (fun d V => text_any (digD Q d) V)
  have HRO : Hid (∀ V, Calls Try.prog 41 #[.string s] V fun e w' => e = .returned (.agg (rowV (digD Q 0))) ∧ Below V.heap.size V w') := Lib.hid (fun V => by
    have := rowOf_any s h1 V
    rwa [rowV_congr (S := digD Q 0) (fun j hj => (q2 j hj).symm)] at this)
  have HST : Hid (∀ d i, d < l.length → i < l.length → ∃ x : Int, (xsL l).getD i 0 = x ∧ ∃ y : Nat, invA x = (y, true) ∧ ∀ V g, Fld V g → Calls Try.prog 44 #[.agg (rowV fun j => lefD Q l d i j + digD Q d j), .pointer (some ⟨g, 0, none⟩), .int .i64 (y : Int)] V
      fun e w' => e = .returned (.agg (rowV (lefD Q l (d + 1) i))) ∧ Below V.heap.size V w') := Lib.hid (fun d i hd hi => by
    have hdg := (okSh_of (allSh_at p3 hi)).1
    have h0 : (l.getD i sh0).1 ≠ 0 := fun e => by
      have := zeroB_yes hi e
      rw [h3] at this
      cases this
    refine ⟨_, xsL_at l hi, _, invA_G hdg h0, fun V g hf => ?_⟩
    have := stimes_any (fun j => lefD Q l d i j + digD Q d j) g ((toG (l.getD i sh0).1).inv.v : Nat) (dig_v _) V hf
    rwa [toG_of, rowV_congr (S := lefD Q l (d + 1) i) (fun j _ => lef_step (by rw [q1]; omega) hdg h0)] at this)
  have HR0 : Hid (∀ i j, i < l.length → j < 32 → bsG l i j = lefD Q l 0 i j) := Lib.hid (fun i j hi hj => q3 i hi j hj)
  have HXL := Lib.hid (xsL_length l)
  have HWL : Hid ((wgtsI (xsL l) 0).length = l.length) := Lib.hid (by rw [wgtsI_length, xsL_length])
  have HTL := Lib.hid (tapL_length Q)
  have HTS : Hid (∀ d, tapL Q (d + 1) = tapL Q d ++ txtL (digD Q (d + 1))) := Lib.hid (fun d => rfl)
  have HT0 : Hid (tapL Q 0 = []) := Lib.hid rfl
  clear h1 h2 h3 h4 q1 q2 q3 p2 p3 p4 hok
  generalize wgtsI (xsL l) 0 = ws at *
  go_enter Try.func19, Try.ntmps19
  go_wp2_with fail
  refine (HRT.out _ hs).mono ?_
  rintro e w1 ⟨rfl, hb⟩
  replace hs := hs.keep hb
  go_wp2_with fail
  refine (HZ.out _ hs).mono ?_
  rintro e w2 ⟨rfl, hb2⟩
  replace hs := hs.keep hb2
  replace hb := hb.next' hb2
  clear hb2
  go_wp2_with fail
  refine (new_any _).mono ?_
  rintro e w3 ⟨rfl, hf, hb3⟩
  have hg : w2.heap.size < w3.heap.size := hf.lt
  generalize w2.heap.size = g at hf hg ⊢
  replace hs := hs.keep hb3
  replace hb := hb.next' hb3
  clear hb3
  go_wp2_with fail
  refine (HAP.out _ hs).mono ?_
  rintro e w4 ⟨⟨N, M, rfl, hNM, hN, hM, hsx, hrw⟩, hb4⟩
  have HMW : Hid (w.heap.size ≤ M) := Lib.hid (Nat.le_trans hb.size hM)
  replace hf := hf.keep hb4
  replace hb := hb.next' hb4
  clear hb4 hs
  go_wp2_with fail
  refine (HWT.out _ N hsx).mono ?_
  rintro e w5 ⟨⟨B, cB, rfl, hsw⟩, hb5⟩
  replace hf := hf.keep hb5
  replace hsx := hsx.keep hb5
  replace hrw := hrw.keep hb5
  replace hb := hb.next' hb5
  have hBM := rws_ne hrw hsw (by rw [HWL.out]; omega)
  have hBl : ∀ a, B = some a → a.block < w5.heap.size := fun a e => by
    rcases hsw with h | ⟨b', off', rfl, hlt, _⟩
    · have h9 : (intsI ws).length = l.length := by rw [intsI_length, HWL.out]
      rw [h] at h9
      have : (0 : Nat) = l.length := h9
      omega
    · cases e; exact hlt
  have hNl : N < w5.heap.size := sl_old hsx rfl (by rw [intsI_length, HXL.out]; omega)
  have hMl := hrw.lt
  have hgl := hf.lt
  clear hb5
  go_wp2_with fail
  refine (HRO.out _).mono ?_
  rintro e w6 ⟨rfl, hb6⟩
  have hsz6 := hb6.size
  replace hf := hf.keep hb6
  replace hsx := hsx.keep hb6
  replace hrw := hrw.keep hb6
  replace hsw := hsw.keep hb6
  replace hb := hb.next' hb6
  have hDw : w.heap.size ≤ w6.heap.size := hb.size
  clear hb6
  obtain ⟨d0, hd0⟩ : ∃ d, rowV (digD Q 0) = d := ⟨_, rfl⟩
  have hinf0 := row_info' (digD Q 0)
  have hall0 := rowV_one (digD Q 0)
  have hzd0 : zero32.size = (rowV (digD Q 0)).size := by rw [rowV_size]; rfl
  rw [hd0] at hinf0 hall0 hzd0 ⊢
  have HD0 := Lib.hid hd0
  clear hd0
  have hz0 : (w6.alloc (.cells zero32 52)).heap[w6.heap.size]? = some (.cells zero32 52 (0, 0)) := heap_alloc_new _ _
  have hP1 := setRow_heap _ w6.heap.size _ d0 _ _ hz0
  have hkz := (Below.alloc0 w6 (.cells zero32 52)).setRow (Nat.le_refl _) d0
  have hzsz : ((w6.alloc (.cells zero32 52)).setRow w6.heap.size d0).heap.size = w6.heap.size + 1 := by simp
  replace hf := hf.keep hkz
  replace hsx := hsx.keep hkz
  replace hrw := hrw.keep hkz
  replace hsw := hsw.keep hkz
  replace hb := hb.next' hkz
  clear hkz
  unfold zero32 at hz0 hzd0 hP1 hzsz hf hsx hrw hsw hb
  have hBT := bld_new ((w6.alloc (.cells #[.int .u8 0, .int .u8 0, .int .u8 0, .int .u8 0, .int .u8 0, .int .u8 0, .int .u8 0, .int .u8 0, .int .u8 0, .int .u8 0, .int .u8 0, .int .u8 0, .int .u8 0, .int .u8 0, .int .u8 0, .int .u8 0, .int .u8 0, .int .u8 0, .int .u8 0, .int .u8 0, .int .u8 0, .int .u8 0, .int .u8 0, .int .u8 0, .int .u8 0, .int .u8 0, .int .u8 0, .int .u8 0, .int .u8 0, .int .u8 0, .int .u8 0, .int .u8 0] 52)).setRow w6.heap.size d0)
  have hkT := Below.alloc0 ((w6.alloc (.cells #[.int .u8 0, .int .u8 0, .int .u8 0, .int .u8 0, .int .u8 0, .int .u8 0, .int .u8 0, .int .u8 0, .int .u8 0, .int .u8 0, .int .u8 0, .int .u8 0, .int .u8 0, .int .u8 0, .int .u8 0, .int .u8 0, .int .u8 0, .int .u8 0, .int .u8 0, .int .u8 0, .int .u8 0, .int .u8 0, .int .u8 0, .int .u8 0, .int .u8 0, .int .u8 0, .int .u8 0, .int .u8 0, .int .u8 0, .int .u8 0, .int .u8 0, .int .u8 0] 52)).setRow w6.heap.size d0) (.cells #[.pointer none, .slice none 0 0] 69)
  replace hf := hf.keep hkT
  replace hsx := hsx.keep hkT
  replace hrw := hrw.keep hkT
  replace hsw := hsw.keep hkT
  replace hb := hb.next' hkT
  have hP2 := (hkT.block _ (Array.getElem?_eq_some_iff.1 hP1).1).trans hP1
  rw [hzsz] at hBT
  have hTsz := hkT.size
  rw [hzsz] at hTsz
  clear hkT hzsz hP1
  go_wp2_with (refine wpList_store_row rfl _ _ _ rfl w6.heap.size d0 rfl rfl _ _ hz0 hinf0 hzd0 hall0 ?_)
  clear hz0 hinf0 hzd0 hall0
  generalize World.alloc (World.setRow (World.alloc w6 _) _ _) _ = W0 at *
  have hTS0 : TpS W0 g N M w6.heap.size B (xsL l) ws l.length (lefD Q l 0) (digD Q 0) := ⟨hf, hsx, hsw, hrw.congr HR0.out, by rw [HD0.out]; exact hP2⟩
  have hTD : TpD (w6.heap.size + 1) g N M w6.heap.size B := ⟨by omega, by omega, fun e => hNM e, by omega, by omega, fun a e => ⟨hBM a e, by have := hBl a e; omega, by have := hBl a e; omega⟩, by omega, by omega, by omega, by omega⟩
  have hBT0 : Lib.IsBuilder 69 5 (w6.heap.size + 1) (w6.heap.size + 1) (Lib.byteCells (tapL Q 0)) W0 := by rw [HT0.out]; exact hBT
  have hMw : w.heap.size ≤ M := by have := HMW.out; omega
  clear hBT hf hsx hsw hrw hP2 hNM hBM hBl hNl hMl hgl hN hM hg hsz6 hTsz HD0
  generalize w6.heap.size = D at *
  go_wp2
  go_loopw [47] (fun i wr => ∃ d : Nat, d ≤ l.length ∧ i = .int .i64 (d : Int) ∧ TpS wr g N M D B (xsL l) ws l.length (lefD Q l d) (digD Q d) ∧ Lib.IsBuilder 69 5 (D + 1) (D + 1) (Lib.byteCells (tapL Q d)) wr ∧ Below w.heap.size w wr) (fun i _ => l.length - (intOf i).toNat)
  case atStart => exact ⟨0, by omega, rfl, hTS0, hBT0, hb⟩
  case round =>
    clear hTS0 hBT0 hb
    obtain ⟨d, hd, rfl, hTS, hBT, hb⟩ := hrel
    by_cases hltd : d < l.length
    · obtain ⟨dO, hdO⟩ : ∃ x, rowV (digD Q d) = x := ⟨_, rfl⟩
      have HDO := Lib.hid hdO
      have hinfO := row_info' (digD Q d)
      rw [hdO] at hinfO
      have hOsz : dO.size = 32 := by rw [← hdO, rowV_size]
      have HOS := Lib.hid hOsz
      clear hdO hOsz
      go_wp2
      go_loopw [51] (fun x wr => ∃ i : Nat, i ≤ l.length ∧ x = .int .i64 (i : Int) ∧ TpS wr g N M D B (xsL l) ws l.length (mixD Q l d i) (digD Q d) ∧ Lib.IsBuilder 69 5 (D + 1) (D + 1) (Lib.byteCells (tapL Q d)) wr ∧ Below w.heap.size w wr) (fun x _ => l.length - (intOf x).toNat)
      case atStart => exact ⟨0, by omega, rfl, hTS.congr (fun i j _ _ => by rw [mixD, if_neg (by omega)]), hBT, hb⟩
      case round =>
        clear hTS hBT hb
        obtain ⟨i, hi, rfl, hTS, hBT, hb⟩ := hrel
        by_cases hlt : i < l.length
        · obtain ⟨x, hx, y, hy, HTX2⟩ := HST.out d i hltd hlt
          obtain ⟨b', off', e', hcx⟩ := sl_int hTS.x (k := i) (by rw [HXL.out]; exact hlt)
          cases e'
          rw [Nat.zero_add, hx] at hcx
          have HINV : Hid (∀ V, Fld V g → Calls Try.prog 42 #[.pointer (some ⟨g, 0, none⟩), .int .i64 x] V fun e w' => e = two (y, true) ∧ w' = V) := Lib.hid (fun V hf => by rw [← hy]; exact inv_any g x V hf)
          obtain ⟨dR, hdR⟩ : ∃ x, rowV (lefD Q l d i) = x := ⟨_, rfl⟩
          obtain ⟨d2, hd2⟩ : ∃ x, rowV (lefD Q l (d + 1) i) = x := ⟨_, rfl⟩
          obtain ⟨dS, hdS⟩ : ∃ x, (rowV fun j => lefD Q l d i j + digD Q d j) = x := ⟨_, rfl⟩
          have HD2 := Lib.hid hd2
          have hinfR := row_info' (lefD Q l d i)
          have hdi := row_info' (lefD Q l (d + 1) i)
          have hda := rowV_one (lefD Q l (d + 1) i)
          have hds := rowV_size (lefD Q l (d + 1) i)
          have HPL : Hid (∀ V, Calls Try.prog 43 #[.agg dR, .agg dO] V fun e w' => e = .returned (.agg dS) ∧ Below V.heap.size V w') := Lib.hid (fun V => by
            have := splus_any (lefD Q l d i) (digD Q d) V
            rwa [hdR, HDO.out, hdS] at this)
          have HTI := Lib.hid HTX2
          have HMIX : Hid (rowV (mixD Q l d i i) = dR) := Lib.hid (by rw [← hdR]; exact rowV_congr fun j _ => by rw [mixD, if_neg (by omega)])
          rw [hdR] at hinfR
          rw [hd2] at hdi hda hds HTI
          rw [hdS] at HTI
          have HDS := Lib.hid hds
          have hinfl : (Try.prog.info? 52).map (·.size) = some dR.toList.length := hinfR
          have hKS : Hid (∀ V, TpS V g N M D B (xsL l) ws l.length (mixD Q l d i) (digD Q d) → V.heap[D]? = some (.cells dO 52 (0, 0)) ∧ V.rangeAt M (i * 32) dR.toList) := Lib.hid (fun V h => ⟨by rw [← HDO.out]; exact h.d, by rw [← HMIX.out]; exact h.r.range hlt⟩)
          clear hx hy HTX2 hdR hd2 hdS hinfR hds
          go_wp2_with fail
          refine (HINV.out _ hTS.f).mono ?_
          rintro e wr ⟨rfl, rfl⟩
          unfold two
          clear hcx
          go_wp2
          refine Uptot.begin_ [12] (fun V : World => V.heap[D]? = some (.cells dO 52 (0, 0))) (fun V : World => V.rangeAt M (i * 32) dR.toList) (by kernel_rfl) ?_
          replace hTS := hTS.keep (Below.drew0 wr)
          replace hBT := isBuilder_keep hBT (Below.drew0 wr)
          replace hb := hb.next' (Below.drew0 wr)
          have hST := hKS.out _ hTS
          generalize wr.drew = V at *
          refine Uptot.takeS (i := 0) (v := ?_) rfl (by kernel_rfl) (by kernel_rfl) (by kernel_rfl) (by kernel_rfl) (fun _ _ _ h => h) (Or.inl ⟨by rfl, ?_⟩) hST ?_
          rotate_left 1
          · intro w9 hSw; (try dsimp only at hSw); go_simp; (try with_reducible rfl)
          try simp only [Act.put, List.setIfInBounds_toArray, List.set_cons_zero, List.set_cons_succ]
          refine Uptot.takeS (i := 1) (v := ?_) rfl (by kernel_rfl) (by kernel_rfl) (by kernel_rfl) (by kernel_rfl) (fun _ _ _ h => h) (Or.inl ⟨by rfl, ?_⟩) hST ?_
          rotate_left 1
          · intro w9 hSw; (try dsimp only at hSw); go_simp; (try with_reducible rfl)
          try simp only [Act.put, List.setIfInBounds_toArray, List.set_cons_zero, List.set_cons_succ]
          refine Uptot.takeS (i := 2) (v := ?_) rfl (by kernel_rfl) (by kernel_rfl) (by kernel_rfl) (by kernel_rfl) (fun _ _ _ h => h) (Or.inl ⟨by rfl, ?_⟩) hST ?_
          rotate_left 1
          · intro w9 hSw; (try dsimp only at hSw); go_simp; (try with_reducible rfl)
          try simp only [Act.put, List.setIfInBounds_toArray, List.set_cons_zero, List.set_cons_succ]
          refine Uptot.takeS (i := 3) (v := ?_) rfl (by kernel_rfl) (by kernel_rfl) (by kernel_rfl) (by kernel_rfl) (fun _ _ _ h => h) (Or.inl ⟨by rfl, ?_⟩) hST ?_
          rotate_left 1
          · intro w9 hSw; (try dsimp only at hSw); go_simp; (try with_reducible rfl)
          try simp only [Act.put, List.setIfInBounds_toArray, List.set_cons_zero, List.set_cons_succ]
          refine Uptot.takeS (i := 4) (v := ?_) rfl (by kernel_rfl) (by kernel_rfl) (by kernel_rfl) (by kernel_rfl) (fun _ _ _ h => h) (Or.inl ⟨by rfl, ?_⟩) hST ?_
          rotate_left 1
          · intro w9 hSw; (try dsimp only at hSw); go_simp; (try with_reducible rfl)
          try simp only [Act.put, List.setIfInBounds_toArray, List.set_cons_zero, List.set_cons_succ]
          refine Uptot.take (i := 5) rfl (by kernel_rfl) (by kernel_rfl) (by kernel_rfl) (by kernel_rfl) (fun _ _ _ h => h) (yieldsIf_load_mid (wanted_plain rfl _) _ _ rfl M (i * 32) rfl _ _ (fun _ h => h.2) Try.underlying52 rfl hinfl) hST ?_
          try simp only [Act.put, List.setIfInBounds_toArray, List.set_cons_zero, List.set_cons_succ]
          refine Uptot.takeS (i := 6) rfl (by kernel_rfl) (by kernel_rfl) (by kernel_rfl) (by kernel_rfl) (fun _ _ _ h => h) (yields_load_row rfl _ _ rfl D rfl _ _ _ _ (fun _ h => h) Try.underlying52 rfl hinfO) hST ?_
          try simp only [Act.put, List.setIfInBounds_toArray, List.set_cons_zero, List.set_cons_succ]
          refine Uptot.takeS (i := 8) (v := ?_) rfl (by kernel_rfl) (by kernel_rfl) (by kernel_rfl) (by kernel_rfl) (fun _ _ _ h => h) (Or.inl ⟨by rfl, ?_⟩) hST ?_
          rotate_left 1
          · intro w9 hSw; (try dsimp only at hSw); go_simp; (try with_reducible rfl)
          try simp only [Act.put, List.setIfInBounds_toArray, List.set_cons_zero, List.set_cons_succ]
          refine Uptot.takeS (i := 9) (v := ?_) rfl (by kernel_rfl) (by kernel_rfl) (by kernel_rfl) (by kernel_rfl) (fun _ _ _ h => h) (Or.inl ⟨by rfl, ?_⟩) hST ?_
          rotate_left 1
          · intro w9 hSw; (try dsimp only at hSw); go_simp; (try with_reducible rfl)
          try simp only [Act.put, List.setIfInBounds_toArray, List.set_cons_zero, List.set_cons_succ]
          clear hST
          refine Uptot.one (i := 7) rfl (by kernel_rfl) (fun K hK9 => ?_)
          go_simp
          go_at_call 43
          refine (HPL.out _).mono ?_
          rintro e' V9 ⟨rfl, hb9⟩
          replace hTS := hTS.keep hb9
          replace hBT := isBuilder_keep hBT hb9
          replace hb := hb.next' hb9
          have hST := hKS.out _ hTS
          refine hK9.out _ _ (Cond.ahead hST) ?_
          clear hK9 K hb9 hST
          try simp only [Act.put, List.setIfInBounds_toArray, List.set_cons_zero, List.set_cons_succ]
          refine Uptot.one (i := 10) rfl (by kernel_rfl) (fun K hK9 => ?_)
          go_simp
          go_at_call 44
          refine (HTI.out _ g hTS.f).mono ?_
          rintro e' V10 ⟨rfl, hb9⟩
          replace hTS := hTS.keep hb9
          replace hBT := isBuilder_keep hBT hb9
          replace hb := hb.next' hb9
          have hST := hKS.out _ hTS
          refine hK9.out _ _ (Cond.ahead hST) ?_
          clear hK9 K hb9 hST
          try simp only [Act.put, List.setIfInBounds_toArray, List.set_cons_zero, List.set_cons_succ]
          have hST := hKS.out _ hTS
          refine Uptot.one (i := 11) rfl (by kernel_rfl) (fun K hK9 => ?_)
          go_simp
          refine hK9.out _ _ (Cond.ahead hST) ?_
          clear hK9 K
          try simp only [Act.put, List.setIfInBounds_toArray, List.set_cons_zero, List.set_cons_succ]
          clear hST
          refine Uptot.one (i := 12) rfl (by kernel_rfl) (fun K hK9 => ?_)
          rw [wanted_plain rfl, if_pos rfl]
          refine wp_store_mid _ _ _ rfl M (i * 32) d2 rfl rfl (hTS.r.there hlt d2 HDS.out) hdi hda ?_
          have hTS2 := (hTS.put hTD i (lefD Q l (d + 1) i)).congr (fun a b _ _ => mixD_put Q l d i a b)
          rw [HD2.out] at hTS2
          have hw0 := below_setCells (Nat.zero_le M) d2.toList (i * 32) V10 (Below.refl 0 V10)
          have hBT2 := bld_but hBT (M := M) hTD.mT ⟨hw0.os, hw0.tape, hw0.output⟩ (Agr.cells V10 M (i * 32) d2.toList)
          have hb2 := below_setCells hMw d2.toList (i * 32) V10 hb
          have hS2 := hTS2.d
          rw [HDO.out] at hS2
          refine hK9.out _ _ (Cond.behind hS2 (by kernel_rfl)) ?_
          clear hK9 K hS2 hw0 hTS hBT hb
          try simp only [Act.put]
          refine Uptot.done (by kernel_rfl) ?_ _
          generalize World.setCells _ _ _ _ = V5 at *
          go_wp2
          go_roundw
          case rel => exact ⟨i + 1, by omega, by go_num, hTS2, hBT2, hb2⟩
          case measure => simp [intOf]; omega
        · obtain rfl : i = l.length := by omega
          replace hTS := hTS.congr (G := lefD Q l (d + 1)) (fun i j hi _ => by rw [mixD, if_pos hi])
          obtain ⟨d2, hd2⟩ : ∃ x, rowV (digD Q (d + 1)) = x := ⟨_, rfl⟩
          have HD2 := Lib.hid hd2
          have HSU := Lib.hid (HSM.out d hltd)
          have HT2 := Lib.hid (fun V => text_any (digD Q (d + 1)) V)
          have hinf2 := row_info' (digD Q (d + 1))
          have hall2 := rowV_one (digD Q (d + 1))
          have hsz2 := rowV_size (digD Q (d + 1))
          rw [hd2] at HSU HT2 hinf2 hall2 hsz2
          have HS2 := Lib.hid hsz2
          have hso : dO.size = d2.size := by rw [HOS.out, hsz2]
          have HSO := Lib.hid hso
          have HTD := Lib.hid (HTS.out d)
          have hlen : (tapL Q d).length + 32 ≤ 100000 := by rw [HTL.out]; omega
          have hTSZ : (txt (digD Q (d + 1))).size = 32 := txt_size _
          have HTZ := Lib.hid hTSZ
          clear hd2 hsz2 hso hTSZ
          go_wp2_with fail
          refine (HSU.out _ g M B cB hTS.f hTS.r hTS.w).mono ?_
          rintro e w7 ⟨rfl, hb7⟩
          replace hTS := hTS.keep hb7
          replace hBT := isBuilder_keep hBT hb7
          replace hb := hb.next' hb7
          clear hb7
          have hD := hTS.d
          rw [HDO.out] at hD
          have hD2 := setRow_heap _ D _ d2 _ _ hD
          have hTS3 := hTS.dig hTD (digD Q (d + 1))
          rw [HD2.out] at hTS3
          have hw0 := (Below.refl 0 w7).setRow (Nat.zero_le D) d2
          have hBT3 := bld_but hBT (M := D) hTD.dT ⟨hw0.os, hw0.tape, hw0.output⟩ (Agr.row w7 D d2)
          have hb3 := hb.setRow hDw d2
          clear hw0 hBT hTS hb
          go_wp2_with (first
            | (refine wpList_store_row rfl _ _ _ rfl D d2 rfl rfl _ _ hD hinf2 HSO.out hall2 ?_)
            | (refine wpList_load_row rfl _ _ rfl D rfl _ _ _ _ hD2 Try.underlying52 rfl hinf2 ?_))
          clear hD hD2
          generalize World.setRow w7 D d2 = W8 at *
          refine (HT2.out _).mono ?_
          rintro e w9 ⟨rfl, hb9⟩
          replace hTS3 := hTS3.keep hb9
          replace hBT3 := isBuilder_keep hBT3 hb9
          replace hb3 := hb3.next' hb9
          clear hb9
          have hTlt := isBuilder_lt hBT3
          go_wp2_with fail
          refine (bld_write (D + 1) (D + 1) _ _ _ hBT3 (by rw [Lib.byteCells_length, HTZ.out]; omega) (Nat.le_of_lt hTlt)).mono ?_
          rintro e w10 ⟨rfl, hBT4, hb10⟩
          rw [Lib.strCells_eq, ← Lib.byteCells_append, show (txt (digD Q (d + 1))).data.toList = txtL (digD Q (d + 1)) from rfl, ← HTD.out] at hBT4
          have hTS4 := hTS3.low hTD hb10
          have hb4 := hb3.trans (hb10.mono (by omega))
          clear hBT3 hTS3 hb3 hb10 hTlt
          go_wp2
          go_roundw
          case rel => exact ⟨d + 1, by omega, by go_num, hTS4, hBT4, hb4⟩
          case measure => simp [intOf]; omega
    · obtain rfl : d = l.length := by omega
      have hTlt := isBuilder_lt hBT
      go_wp2_with fail
      refine (bld_string (D + 1) (D + 1) _ _ hBT (Nat.le_of_lt hTlt)).mono ?_
      rintro e w11 ⟨rfl, hb11⟩
      have hb5 := hb.trans (hb11.mono (by omega))
      go_wp2
      go_ret2
      exact ⟨rfl, hb5⟩
end Go.Proofs.Ytljckcegcfidoaa

/-
  share: another secret's tape, as plain mathematics.
-/
namespace Go.Proofs.Ytljckcegcfidoaa
open Go.RowKit Go.Kx

/-! ### polynomials of just so many digits -/
def padG (l : List Gf.G) (n : Nat) : List Gf.G := (List.range n).map fun d => l.getD d 0
theorem padG_length (l : List Gf.G) (n : Nat) : (padG l n).length = n := by simp [padG]
theorem padG_at (l : List Gf.G) {n d : Nat} (h : d < n) : (padG l n).getD d 0 = l.getD d 0 := by simp [padG, List.getD, h]
theorem padG_succ (c : Gf.G) (r : List Gf.G) (n : Nat) : padG (c :: r) (n + 1) = c :: padG r n := by
  unfold padG
  rw [List.range_succ_eq_map, List.map_cons, List.map_map]
  rfl
theorem padG_nil (n : Nat) : padG [] (n + 1) = 0 :: padG [] n := by
  unfold padG
  rw [List.range_succ_eq_map, List.map_cons, List.map_map]
  rfl
theorem ev_padG (x : Gf.G) : ∀ (n : Nat) (l : List Gf.G), l.length ≤ n → Gf.ev (padG l n) x = Gf.ev l x
  | 0, l, h => by
    obtain rfl : l = [] := List.eq_nil_of_length_eq_zero (by omega)
    rfl
  | n + 1, [], _ => by
    rw [padG_nil]
    show 0 + x * Gf.ev (padG [] n) x = 0
    rw [ev_padG x n [] (by simp)]
    show 0 + x * 0 = 0
    rw [Gf.G.mul_zero, Gf.G.add_zero]
  | n + 1, c :: r, h => by
    rw [padG_succ, Gf.ev, Gf.ev, ev_padG x n r (by simpa using h)]
theorem thru_some {s : ByteArray} {l : List Sh} (hr : rightB l = true) (hz : zeroB l = false) : ∃ Q, Thru Q s l := by
  obtain ⟨_, _, h3, h4⟩ := rightB_of hr
  have hn := gs_nodup (allSh_digs h3) h4
  have key : ∀ j, ∃ P : List Gf.G, P.length ≤ l.length + 1 ∧ Gf.ev P 0 = gOf s j ∧ ∀ i, i < l.length → Gf.ev P (toG (l.getD i sh0).1) = gOf (l.getD i sh0).2 j := fun j => by
    have e : ((0, gOf s j) :: l.map fun s => (toG s.1, gOf s.2 j)).map Prod.fst = 0 :: gs (xsL l) := by
      unfold gs xsL
      rw [List.map_cons, List.map_map, List.map_map]
      rfl
    have hn2 : ((0, gOf s j) :: l.map fun s => (toG s.1, gOf s.2 j)).map Prod.fst |>.Nodup := by
      rw [e, List.nodup_cons]
      refine ⟨fun hm => ?_, hn⟩
      obtain ⟨x, hx, hx0⟩ := List.mem_map.1 hm
      obtain ⟨t, ht, rfl⟩ := List.mem_map.1 hx
      have hd := (okSh_of (List.all_eq_true.1 h3 t ht)).1
      have h0 : t.1 ≠ 0 := fun e0 => by
        have := List.any_eq_false.1 hz t ht
        simp [e0] at this
      exact toG_ne hd h0 hx0
    refine ⟨Gf.thrL [] ((0, gOf s j) :: l.map fun s => (toG s.1, gOf s.2 j)), Gf.thrL_length _ _ _ (by simp), ?_, fun i hi => ?_⟩
    · rw [Gf.ev_thrL]
      exact Gf.thr_at _ [] (by rw [List.nil_append]; exact hn2) (by simp)
    · rw [Gf.ev_thrL]
      exact Gf.thr_at _ [] (by rw [List.nil_append]; exact hn2) (List.mem_cons_of_mem _ (List.mem_map.2 ⟨_, mem_at hi, rfl⟩))
  refine ⟨fun j => padG (Classical.choose (key j)) (l.length + 1), fun j => padG_length _ _, fun j _ => ?_, fun i hi j _ => ?_⟩
  · obtain ⟨h1, h2, _⟩ := Classical.choose_spec (key j)
    show (padG _ _).getD 0 0 = _
    rw [padG_at _ (by omega), ← ev_zero, h2]
  · obtain ⟨h1, _, h2⟩ := Classical.choose_spec (key j)
    rw [ev_padG _ _ _ h1, h2 i hi]
theorem Thru.on {Q : Nat → List Gf.G} {s : ByteArray} {l : List Sh} (h : Thru Q s l) (hr : rightB l = true) : ∀ t ∈ l, OnQ Q t := fun t ht => by
  obtain ⟨k, hk, rfl⟩ := List.getElem_of_mem ht
  have hd : l.getD k sh0 = l[k] := by rw [List.getD, List.getElem?_eq_getElem hk]; rfl
  have hsz := (okSh_of (List.all_eq_true.1 (rightB_of hr).2.2.1 _ ht)).2
  have h3 := h.2.2 k hk
  rw [hd] at h3
  show l[k].2 = _
  conv => lhs; rw [← txt_gOf hsz]
  exact txt_congr fun j hj => h3 j hj

/-! ### the tape's bytes -/
theorem tapL_at (Q : Nat → List Gf.G) : ∀ (m q j : Nat), q < m → j < 32 → (tapL Q m)[32 * q + j]? = some (UInt8.ofNat (digD Q (q + 1) j).v)
  | 0, _, _, h, _ => by omega
  | m + 1, q, j, h, hj => by
    rw [tapL]
    by_cases hq : q < m
    · rw [List.getElem?_append_left (by rw [tapL_length]; omega), tapL_at Q m q j hq hj]
    · obtain rfl : q = m := by omega
      rw [List.getElem?_append_right (by rw [tapL_length]; omega), tapL_length, show 32 * q + j - 32 * q = j by omega, txtL_at _ hj]
theorem gOf_tap (Q : Nat → List Gf.G) {m q j : Nat} (h : q < m) (hj : j < 32) : gOf ⟨(tapL Q m).toArray⟩ (32 * q + j) = digD Q (q + 1) j := by
  apply Gf.G.ext'
  show ((tapL Q m).getD (32 * q + j) 0).toNat = _
  rw [List.getD, tapL_at Q m q j h hj]
  have := (digD Q (q + 1) j).lt
  simp
  omega
theorem gOf_right' {s t : ByteArray} {q : Nat} : gOf (s ++ t) (s.size + q) = gOf t q := by
  have e1 : s.data.toList.length = s.size := by simp
  unfold gOf
  apply Gf.G.ext'
  simp only [ByteArray.data_append, Array.toList_append, List.getD]
  rw [List.getElem?_append_right (by omega)]
  congr 3
  omega
/-- The polynomials of a secret and the tape that Tape tells are those that go through. -/
theorem polQ_tap {Q : Nat → List Gf.G} {s : ByteArray} {l : List Sh} (hs : s.size = 32) (h : Thru Q s l) {j : Nat} (hj : j < 32) : polQ (s ++ ⟨(tapL Q l.length).toArray⟩) (l.length + 1) j = Q j := by
  apply List.ext_getElem?
  intro p
  by_cases hp : p < l.length + 1
  · have e1 : (polQ (s ++ ⟨(tapL Q l.length).toArray⟩) (l.length + 1) j)[p]? = some (gOf (s ++ ⟨(tapL Q l.length).toArray⟩) (32 * p + j)) := by
      unfold polQ polG
      rw [List.getElem?_map, List.getElem?_range hp]
      rfl
    have e2 : (Q j)[p]? = some ((Q j).getD p 0) := by
      rw [List.getD, List.getElem?_eq_getElem (by rw [h.1]; exact hp)]
      rfl
    rw [e1, e2]
    congr 1
    cases p with
    | zero =>
      rw [show 32 * 0 + j = j by omega, gOf_left' (by omega)]
      exact (h.2.1 j hj).symm
    | succ q =>
      rw [show 32 * (q + 1) + j = s.size + (32 * q + j) by omega, gOf_right', gOf_tap Q (by omega) hj]
      rfl
  · rw [List.getElem?_eq_none (by rw [polQ, polG_length]; omega), List.getElem?_eq_none (by rw [h.1]; omega)]
/-- The polynomials of a secret and its tape tell that tape. -/
theorem tap_polQ {s t : ByteArray} {m : Nat} (hs : s.size = 32) (ht : t.size = 32 * m) : (⟨(tapL (polQ (s ++ t) (m + 1)) m).toArray⟩ : ByteArray) = t := by
  obtain ⟨⟨l⟩⟩ := t
  have hl : l.length = 32 * m := ht
  congr 2
  apply List.ext_getElem?
  intro r
  by_cases hr : r < 32 * m
  · have e : r = 32 * (r / 32) + r % 32 := by omega
    have hq : r / 32 < m := by omega
    have hj : r % 32 < 32 := by omega
    rw [e, tapL_at _ m _ _ hq hj]
    have e2 : digD (polQ (s ++ ⟨⟨l⟩⟩) (m + 1)) (r / 32 + 1) (r % 32) = gOf ⟨⟨l⟩⟩ (32 * (r / 32) + r % 32) := by
      unfold digD polQ polG
      rw [List.getD, List.getElem?_map, List.getElem?_range (by omega)]
      show gOf (s ++ ⟨⟨l⟩⟩) (32 * (r / 32 + 1) + r % 32) = _
      rw [show 32 * (r / 32 + 1) + r % 32 = s.size + (32 * (r / 32) + r % 32) by omega, gOf_right']
    rw [e2, ← e]
    show some (UInt8.ofNat (l.getD r 0).toNat) = l[r]?
    rw [List.getD, List.getElem?_eq_getElem (by omega)]
    simp
  · rw [List.getElem?_eq_none (by rw [tapL_length]; omega), List.getElem?_eq_none (by omega)]
theorem thru_polQ {s t : ByteArray} {k n : Nat} {c : List Sh} (hs : s.size = 32) (hsub : c.Sublist (splL (s ++ t) n k)) (hk : k = c.length + 1) : Thru (polQ (s ++ t) k) s c := by
  refine ⟨fun j => by rw [polQ, polG_length, hk], fun j hj => ?_, fun i hi j hj => ?_⟩
  · have := polQ_zero (s := s) (t := t) (k := k) (j := j) (by omega) hs hj
    rw [show toG (0 : Int) = 0 from rfl, ev_zero] at this
    exact this
  · exact (splL_mem (hsub.subset (mem_at hi))).2.at_ hj

/-! ### the same are chosen -/
theorem chL_mem : ∀ (l : List Sh) (m : List Bool) (i : Nat), i < l.length → m.getD i false = true → l.getD i sh0 ∈ chL l m
  | [], _, _, h, _ => by simp at h
  | s :: l, [], _, _, h => by simp at h
  | s :: l, b :: m, 0, _, h => by
    have : b = true := by simpa using h
    simp [chL, this]
  | s :: l, b :: m, i + 1, h, h2 => by
    have ih := chL_mem l m i (by simpa using h) (by simpa using h2)
    rw [chL]
    split
    · exact List.mem_cons_of_mem _ (by simpa using ih)
    · simpa using ih
theorem chL_same : ∀ (l l2 : List Sh) (m : List Bool), l2.length = l.length → (∀ i, i < l.length → m.getD i false = true → l2.getD i sh0 = l.getD i sh0) → chL l2 m = chL l m
  | [], [], _, _, _ => rfl
  | [], _ :: _, _, h, _ => by simp at h
  | _ :: _, [], _, h, _ => by simp at h
  | s :: l, s2 :: l2, [], _, _ => rfl
  | s :: l, s2 :: l2, b :: m, h, he => by
    have ih := chL_same l l2 m (by simpa using h) (fun i hi hm => by simpa using he (i + 1) (by simpa using hi) (by simpa using hm))
    rw [chL, chL, ih]
    by_cases hb : b = true
    · have := he 0 (by simp) (by simpa using hb)
      have : s2 = s := by simpa using this
      rw [this]
    · rw [if_neg hb, if_neg hb]
theorem hides {s o t : ByteArray} {n k : Nat} {m : List Bool} {Q : Nat → List Gf.G} (ho : o.size = 32) (hn : n ≤ 255) (hc : 1 ≤ (chL (splL (s ++ t) n k) m).length) (hk : k = (chL (splL (s ++ t) n k) m).length + 1) (hQ : Thru Q o (chL (splL (s ++ t) n k) m)) :
    chL (splL (o ++ ⟨(tapL Q (chL (splL (s ++ t) n k) m).length).toArray⟩) n k) m = chL (splL (s ++ t) n k) m := by
  have hsub := chL_sub (splL (s ++ t) n k) m
  have hon := hQ.on (sub_right hn hsub hc)
  have hp := fun j (hj : j < 32) => polQ_tap ho hQ (j := j) hj
  rw [← hk] at hp
  refine chL_same _ _ m (by rw [splL_length, splL_length]) (fun i hi hm => ?_)
  have hmem := chL_mem _ m i hi hm
  have h1 := hon _ hmem
  rw [splL_length] at hi
  rw [splL_at _ _ _ _ hi] at h1 ⊢
  rw [splL_at _ _ _ _ hi]
  have h2 : txt (shY (s ++ t) k i) = txt fun j => Gf.ev (Q j) (toG ((i : Int) + 1)) := h1
  rw [h2]
  refine congrArg (Prod.mk _) (txt_congr fun j hj => ?_)
  rw [← hp j hj]
  rfl
end Go.Proofs.Ytljckcegcfidoaa

/-
  share: order, and one more of the same polynomials; keyholeref09.Own.
-/
namespace Go.Proofs.Ytljckcegcfidoaa
open Go.RowKit Go.Kx
set_option maxRecDepth 20000

theorem rightB_iff {l : List Sh} : rightB l = true ↔ 1 ≤ l.length ∧ l.length ≤ 255 ∧ (∀ s ∈ l, dig s.1 = true ∧ s.2.size = 32) ∧ (xsL l).Nodup := by
  constructor
  · intro h
    obtain ⟨h1, h2, h3, h4⟩ := rightB_of h
    exact ⟨h1, h2, fun s hs => okSh_of (List.all_eq_true.1 h3 s hs), apartI_nodup.1 h4⟩
  · rintro ⟨h1, h2, h3, h4⟩
    exact rightB_mk h1 h2 h3 h4
theorem rightB_rev (l : List Sh) : rightB l.reverse = rightB l := by
  rw [Bool.eq_iff_iff, rightB_iff, rightB_iff]
  have e : xsL l.reverse = (xsL l).reverse := by simp [xsL]
  rw [e, List.length_reverse, (List.reverse_perm (xsL l)).nodup_iff]
  simp only [List.mem_reverse]
theorem at_rev (l : List Sh) (x : Int) : atA l.reverse x = atA l x := by
  by_cases hr : rightB l = true
  · by_cases hd : dig x = true
    · obtain ⟨Q, hQ, ho⟩ := on_some hr
      have hr2 : rightB l.reverse = true := by rw [rightB_rev]; exact hr
      rw [atA_yes hr hd, atA_yes hr2 hd, atT_on hr ho hQ, atT_on hr2 (fun s hs => ho s (List.mem_reverse.1 hs)) (fun j => by rw [List.length_reverse]; exact hQ j)]
    · rw [atA, atA, rightB_rev, if_pos hr, if_neg hd, if_pos hr, if_neg hd]
  · rw [atA, atA, rightB_rev, if_neg hr, if_neg hr]
theorem at_own {l : List Sh} (hr : rightB l = true) {k : Nat} (hk : k < l.length) : atT l (l.getD k sh0).1 = (l.getD k sh0).2 := by
  obtain ⟨Q, hQ, ho⟩ := on_some hr
  rw [atT_on hr ho hQ]
  exact (ho _ (mem_at hk)).symm
theorem at_more {l : List Sh} {x : Int} (hr : rightB l = true) (hd : dig x = true) (hno : ∀ k, k < l.length → (l.getD k sh0).1 ≠ x) (hlen : l.length + 1 ≤ 255) (y : Int) (hy : dig y = true) :
    atA (l ++ [(x, atT l x)]) y = (atT l y, 0) := by
  obtain ⟨Q, hQ, ho⟩ := on_some hr
  obtain ⟨h1, h2, h3, h4⟩ := rightB_iff.1 hr
  have hr2 : rightB (l ++ [(x, atT l x)]) = true := by
    refine rightB_mk (by simp) (by simpa using hlen) (fun s hs => ?_) ?_
    · rcases List.mem_append.1 hs with hs | hs
      · exact h3 s hs
      · obtain rfl := List.mem_singleton.1 hs
        exact ⟨hd, txt_size _⟩
    · have e : xsL (l ++ [(x, atT l x)]) = xsL l ++ [x] := by simp [xsL]
      rw [e, List.nodup_append]
      refine ⟨h4, by simp, fun a ha b hb => ?_⟩
      obtain rfl := List.mem_singleton.1 hb
      rintro rfl
      obtain ⟨s, hs, e⟩ := List.mem_map.1 ha
      obtain ⟨k, hk, rfl⟩ := List.getElem_of_mem hs
      refine hno k hk ?_
      rw [List.getD, List.getElem?_eq_getElem hk]
      exact e
  rw [atA_yes hr2 hy, atT_on hr ho hQ y]
  congr 1
  refine atT_on hr2 (fun s hs => ?_) (fun j => by have := hQ j; simp; omega) y
  rcases List.mem_append.1 hs with hs | hs
  · exact ho s hs
  · obtain rfl := List.mem_singleton.1 hs
    exact atT_on hr ho hQ x
theorem atA_no {l : List Sh} {x : Int} (h : ¬ (rightB l = true ∧ dig x = true)) : ∃ e : Int, atA l x = (⟨#[]⟩, e) ∧ e ≠ 0 := by
  by_cases hr : rightB l = true
  · by_cases hd : dig x = true
    · exact absurd ⟨hr, hd⟩ h
    · exact ⟨1, by rw [atA, if_pos hr, if_neg hd], by decide⟩
  · exact ⟨90, by rw [atA, if_neg hr], by decide⟩

/-! ### Own -/
set_option maxHeartbeats 1000000 in
theorem own_any (l : List Sh) (A : Option Addr) (c : Nat) (hl : l.length ≤ 1000) (w : World) (hs : Sl w A (shV l)) :
    Calls Try.prog 14 #[.slice A l.length c] w fun e w' => (∃ v, e = .returned v ∧ w'.ownsRow w.heap.size 39 2 v l.length (shV l)) ∧ Below w.heap.size w w' := by
  obtain ⟨i1, hI1, hy0, hy1, hy2⟩ := info_parts shares_info
  have hone : ∀ (l : List Sh), ∀ u ∈ shV l, u.oneCell' = true := fun l => by
    induction l with
    | nil => simp [shV]
    | cons s l ih =>
      intro u hu
      simp only [shV, List.mem_cons] at hu
      rcases hu with rfl | rfl | hu
      · rfl
      · rfl
      · exact ih u hu
  cases A with
  | none =>
    have hl0 : l = [] := by
      rcases hs with h | ⟨b, off, e, _⟩
      · have := shV_length l
        rw [h] at this
        simp at this
        exact List.eq_nil_of_length_eq_zero (by omega)
      · cases e
    subst hl0
    show Calls _ _ #[.slice none 0 c] _ _
    go_enter Try.func14, Try.ntmps14
    go_wp2
    go_ret
    exact ⟨⟨_, rfl, World.ownsRow_nil _ _ _ _⟩, Below.refl _ _⟩
  | some ad =>
    have hcells : ∀ j u, (shV l)[j]? = some u → w.cell? (ad.add j) = some u := fun j u hu => by
      rcases hs with h | ⟨b, off, e, _, hc⟩
      · rw [h] at hu; simp at hu
      · cases e
        have := hc j u hu
        rwa [Addr.add_mid]
    go_enter Try.func14, Try.ntmps14
    go_wp2_with (first
      | (at_builtin; refine wpList_append_own _ rfl _ _ 22 rfl w.heap.size 39 i1 (.agg #[.int .i64 0, .string ⟨#[]⟩]) 2 24 Try.underlying22 hI1 hy0 hy1 hy2 rfl (by decide) _ 0 [] rfl (World.ownsRow_nil _ _ _ _) ad l.length c (shV l) rfl (shV_length l) hcells (hone l) (by unfold maxLen; omega) (by omega) (Nat.le_refl _) ?_)
      | go_in)
    intro v' w3 hown' hgrow _
    have hb1 : Below w.heap.size w w3 := own_below (e := 39) (sz := 2) (World.ownsRow_nil _ _ _ _) (Below.refl _ _) hgrow
    go_wp2
    go_ret
    exact ⟨⟨_, rfl, hown'⟩, hb1⟩
end Go.Proofs.Ytljckcegcfidoaa

/-
  keyholeref09.Tape, as plain mathematics.
-/
namespace Go.Proofs.Ytljckcegcfidoaa
open Go.RowKit Go.Kx

/-- The secret as a share at 0, and the shares. -/
def allS (s : ByteArray) (l : List Sh) : List Sh := (0, s) :: l
theorem allS_length (s : ByteArray) (l : List Sh) : (allS s l).length = l.length + 1 := rfl
theorem allS_right {s : ByteArray} {l : List Sh} (hs : s.size = 32) (hr : rightB l = true) (hz : zeroB l = false) (hl : l.length ≤ 254) : rightB (allS s l) = true := by
  obtain ⟨h1, h2, h3, h4⟩ := rightB_iff.1 hr
  refine rightB_mk (by rw [allS_length]; omega) (by rw [allS_length]; omega) (fun t ht => ?_) ?_
  · rcases List.mem_cons.1 ht with rfl | ht
    · exact ⟨rfl, hs⟩
    · exact h3 t ht
  · show ((0 : Int) :: xsL l).Nodup
    rw [List.nodup_cons]
    refine ⟨fun hm => ?_, h4⟩
    obtain ⟨t, ht, e⟩ := List.mem_map.1 hm
    have := List.any_eq_false.1 hz t ht
    simp [e] at this
theorem ev_rng_add (f g : Nat → Gf.G) (x : Gf.G) : ∀ k, Gf.ev ((List.range k).map fun p => f p + g p) x = Gf.ev ((List.range k).map f) x + Gf.ev ((List.range k).map g) x
  | 0 => (Gf.G.add_zero 0).symm
  | k + 1 => by
    rw [List.range_succ, List.map_append, List.map_append, List.map_append, List.map_singleton, List.map_singleton, List.map_singleton, ev_snoc, ev_snoc, ev_snoc, ev_rng_add f g x k]
    simp only [List.length_map, List.length_range]
    rw [Gf.G.add_mul]
    ac_rfl
theorem ev_rng_zero (x : Gf.G) : ∀ k, Gf.ev ((List.range k).map fun _ => (0 : Gf.G)) x = 0
  | 0 => rfl
  | k + 1 => by
    rw [List.range_succ, List.map_append, List.map_singleton, ev_snoc, ev_rng_zero x k, Gf.G.zero_mul, Gf.G.add_zero]
/-- The basis of place i. -/
def basA (s : ByteArray) (l : List Sh) (i : Nat) : List Gf.G := basL (xsL (allS s l)) i (l.length + 1)
theorem basA_len (s : ByteArray) (l : List Sh) {i : Nat} (hi : i < l.length + 1) : (basA s l i).length = l.length + 1 := by
  rw [basA, basL_len, if_neg (by omega)]
/-- What share i adds at digit d of byte j. -/
def trmA (s : ByteArray) (l : List Sh) (i d j : Nat) : Gf.G := (basA s l i).getD d 0 * bsG (allS s l) i j
def sumA (s : ByteArray) (l : List Sh) (n d j : Nat) : Gf.G := Gf.sumG ((List.range n).map fun i => trmA s l i d j)
theorem sumA_succ (s : ByteArray) (l : List Sh) (n d j : Nat) : sumA s l (n + 1) d j = sumA s l n d j + trmA s l n d j := by
  unfold sumA
  rw [List.range_succ, List.map_append, Gf.sumG_append]
  show _ + (_ + 0) = _
  rw [Gf.G.add_zero]
def polA (s : ByteArray) (l : List Sh) (n j : Nat) : List Gf.G := (List.range (l.length + 1)).map fun d => sumA s l n d j
theorem ev_polA {s : ByteArray} {l : List Sh} (j : Nat) (x : Int) : ∀ n, n ≤ l.length + 1 → Gf.ev (polA s l n j) (toG x) = accR (wgtsI (xsL (allS s l)) x) (bsG (allS s l)) n j
  | 0, _ => by
    have := ev_rng_zero (toG x) (l.length + 1)
    exact this
  | n + 1, hn => by
    have e1 : polA s l (n + 1) j = (List.range (l.length + 1)).map fun d => sumA s l n d j + trmA s l n d j := List.map_congr_left fun d _ => sumA_succ s l n d j
    have e2 : ((List.range (l.length + 1)).map fun d => trmA s l n d j) = Gf.scale (bsG (allS s l) n j) (padG (basA s l n) (l.length + 1)) := by
      unfold Gf.scale padG
      rw [List.map_map]
      exact List.map_congr_left fun d _ => Gf.G.mul_comm _ _
    have hlen : n < (xsL (allS s l)).length := by rw [xsL_length, allS_length]; omega
    rw [e1, ev_rng_add, e2, Gf.ev_scale, ev_padG _ _ _ (by rw [basA_len s l (by omega)]; exact Nat.le_refl _), accR_succ]
    congr 1
    · exact ev_polA j x n (by omega)
    · rw [wgtsI_at hlen, toG_of, ← prdG_end, ← ev_basL x hlen _ (Nat.le_refl _), Gf.G.mul_comm]
      rw [xsL_length, allS_length]
      rfl
theorem thru_polA {s : ByteArray} {l : List Sh} (hs : s.size = 32) (hr : rightB l = true) (hz : zeroB l = false) (hl : l.length ≤ 254) : Thru (polA s l (l.length + 1)) s l := by
  have hra := allS_right hs hr hz hl
  have key : ∀ i, i < l.length + 1 → ∀ j, j < 32 → Gf.ev (polA s l (l.length + 1) j) (toG ((allS s l).getD i sh0).1) = gOf ((allS s l).getD i sh0).2 j := fun i hi j hj => by
    rw [ev_polA j _ _ (Nat.le_refl _)]
    have h := at_own hra (k := i) (by rw [allS_length]; exact hi)
    rw [← h]
    unfold atT
    rw [gOf_txt _ hj, allS_length]
  refine ⟨fun j => by simp [polA], fun j hj => ?_, fun i hi j hj => ?_⟩
  · have h := key 0 (by omega) j hj
    have h2 : Gf.ev (polA s l (l.length + 1) j) (toG 0) = gOf s j := h
    rw [show toG (0 : Int) = 0 from rfl, ev_zero] at h2
    exact h2
  · exact (key (i + 1) (by omega) j hj).symm

theorem shV_one : ∀ (l : List Sh), ∀ u ∈ shV l, u.oneCell' = true
  | [], _, h => by simp [shV] at h
  | s :: l, u, h => by
    simp only [shV, List.mem_cons] at h
    rcases h with rfl | rfl | h
    · rfl
    · rfl
    · exact shV_one l u h
theorem block_lt_of_sl {w : World} {b off : Nat} {vs : List Value} (h : Sl w (some ⟨b, off, none⟩) vs) (hv : 0 < vs.length) : b < w.heap.size := by
  rcases h with h | ⟨b', off', e, hlt, _⟩
  · rw [h] at hv; simp at hv
  · cases e; exact hlt

/-! ### the bytes while they are put together -/
def outA (s : ByteArray) (l : List Sh) (i j d q : Nat) : Gf.G := if q % 32 < j ∨ (q % 32 = j ∧ q / 32 + 1 < d) then sumA s l (i + 1) (q / 32 + 1) (q % 32) else sumA s l i (q / 32 + 1) (q % 32)
theorem outA_start (s : ByteArray) (l : List Sh) (q : Nat) : outA s l 0 0 1 q = 0 := by
  unfold outA
  rw [if_neg (by omega)]
  rfl
theorem outA_old (s : ByteArray) (l : List Sh) (i j d : Nat) (hj : j < 32) : outA s l i j (d + 1) (32 * d + j) = sumA s l i (d + 1) j := by
  unfold outA
  rw [if_neg (by omega), show (32 * d + j) / 32 = d by omega, show (32 * d + j) % 32 = j by omega]
theorem outA_set (s : ByteArray) (l : List Sh) (i j d q : Nat) (hj : j < 32) : (if q = 32 * d + j then sumA s l i (d + 1) j + trmA s l i (d + 1) j else outA s l i j (d + 1) q) = outA s l i j (d + 2) q := by
  unfold outA
  by_cases h : q = 32 * d + j
  · rw [if_pos h, if_pos (by omega), show q / 32 = d by omega, show q % 32 = j by omega, sumA_succ]
  · rw [if_neg h]
    by_cases h2 : q % 32 < j ∨ (q % 32 = j ∧ q / 32 + 1 < d + 1)
    · rw [if_pos h2, if_pos (by omega)]
    · rw [if_neg h2, if_neg (by omega)]
theorem outA_next (s : ByteArray) (l : List Sh) (i j q m : Nat) (hq : q < 32 * m) : outA s l i j (m + 1) q = outA s l i (j + 1) 1 q := by
  unfold outA
  by_cases h2 : q % 32 < j ∨ (q % 32 = j ∧ q / 32 + 1 < m + 1)
  · rw [if_pos h2, if_pos (by omega)]
  · rw [if_neg h2, if_neg (by omega)]
theorem outA_row (s : ByteArray) (l : List Sh) (i q : Nat) : outA s l i 32 1 q = outA s l (i + 1) 0 1 q := by
  unfold outA
  rw [if_pos (by omega), if_neg (by omega)]
theorem outA_end (s : ByteArray) (l : List Sh) (q : Nat) (hq : q < 32 * l.length) : some (UInt8.ofNat (outA s l (l.length + 1) 0 1 q).v) = (tapL (polA s l (l.length + 1)) l.length)[q]? := by
  have e : q = 32 * (q / 32) + q % 32 := by omega
  have e2 := tapL_at (polA s l (l.length + 1)) l.length (q / 32) (q % 32) (by omega) (by omega)
  rw [← e] at e2
  rw [e2]
  unfold outA
  rw [if_neg (by omega)]
  congr 3
  unfold digD polA
  rw [List.getD, List.getElem?_map, List.getElem?_range (by omega)]
  rfl
end Go.Proofs.Ytljckcegcfidoaa

/-
  keyholeref09: the contracts of Right, zero and places.
-/
namespace Go.Proofs.Ytljckcegcfidoaa
open Go.RowKit Go.Kx
set_option maxRecDepth 20000

/-! ### zero -/
set_option maxHeartbeats 1000000 in
theorem rzero_any (l : List Sh) (A : Option Addr) (c : Nat) (hl : l.length ≤ 9223372036854775807) (w : World) (hs : Sl w A (shV l)) :
    Calls Try.prog 31 #[.slice A l.length c] w fun e w' => e = .returned (.bool (zeroB l)) ∧ w' = w := by
  go_enter Try.func31, Try.ntmps31
  go_wp2
  go_loop [3] (fun i => ∃ k : Nat, k ≤ l.length ∧ i = .int .i64 (k : Int) ∧ Hid (∀ j, j < k → (l.getD j sh0).1 ≠ 0)) (fun i => l.length - (intOf i).toNat)
  case atStart => exact ⟨0, by omega, rfl, Lib.hid (fun j hj => by omega)⟩
  case round =>
    obtain ⟨k, hk, rfl, hd⟩ := hrel
    by_cases hlt : k < l.length
    · obtain ⟨b, off, rfl, hx, hy⟩ := sl_sh hs hlt
      have HY := Lib.hid (fun h => zeroB_yes (l := l) hlt h)
      have HN : Hid ((l.getD k sh0).1 ≠ 0 → ∀ j, j < k + 1 → (l.getD j sh0).1 ≠ 0) := Lib.hid (fun h j hj => by
        by_cases e : j = k
        · rw [e]; exact h
        · exact hd.out j (by omega))
      generalize (l.getD k sh0).1 = x at *
      generalize (l.getD k sh0).2 = y at *
      by_cases hz : x = 0
      · subst hz
        have e := Lib.hid (HY.out rfl)
        go_wp2
        go_ret
        exact ⟨ret_bool e.out.symm, rfl⟩
      · have t1 : (x == 0) = false := by simpa using hz
        have H := Lib.hid (HN.out hz)
        clear hz
        go_wp2
        go_round
        case rel => exact ⟨k + 1, by omega, by go_num, H⟩
        case measure => simp [intOf]; omega
    · obtain rfl : k = l.length := by omega
      have e := Lib.hid (zeroB_no hd.out)
      go_wp2
      go_ret
      exact ⟨ret_bool e.out.symm, rfl⟩

/-! ### places -/
theorem xsL_snoc (l : List Sh) (k : Nat) (h : k < l.length) : intsI ((xsL l).take k) ++ [Value.int .i64 (l.getD k sh0).1] = intsI ((xsL l).take (k + 1)) := by
  rw [intsI_snoc, List.take_add_one, ← xsL_at l h]
  congr 2
  rw [List.getD, List.getElem?_eq_getElem (by rw [xsL_length]; exact h)]
  rfl
set_option maxHeartbeats 1000000 in
theorem rplaces_any (l : List Sh) (A : Option Addr) (c : Nat) (hl : l.length ≤ 1000) (w : World) (hs : Sl w A (shV l)) :
    Calls Try.prog 38 #[.slice A l.length c] w fun e w' => (∃ C cc, e = .returned (.slice C l.length cc) ∧ Sl w' C (intsI (xsL l)) ∧ FreshA w.heap.size C) ∧ Below w.heap.size w w' := by
  obtain ⟨i0, hI0, hz0, hz1, hz2⟩ := info_parts int_info
  have HXL := Lib.hid (xsL_length l)
  go_enter Try.func38, Try.ntmps38
  go_wp2
  go_loopw [3, 4] (fun v i wr => ∃ k : Nat, k ≤ l.length ∧ i = .int .i64 (k : Int) ∧ wr.ownsRow w.heap.size 3 1 v k (intsI ((xsL l).take k)) ∧ Below w.heap.size w wr) (fun _ i _ => l.length - (intOf i).toNat)
  case atStart => exact ⟨0, by omega, rfl, World.ownsRow_nil _ _ _ _, Below.refl _ _⟩
  case round =>
    obtain ⟨k, hk, rfl, hown, hb⟩ := hrel
    by_cases hlt : k < l.length
    · obtain ⟨b, off, rfl, hx, _⟩ := sl_sh (hs.keep hb) hlt
      have HS := Lib.hid (xsL_snoc l k hlt)
      generalize (l.getD k sh0).1 = x at *
      have hsz := hb.size
      go_wp2_with (first
        | (at_builtin; refine wpList_append_own _ rfl _ _ 48 rfl w.heap.size 3 i0 (.int .i64 0) 1 8 Try.underlying48 hI0 hz0 hz1 hz2 rfl (by decide) _ _ _ rfl (hown.alloc _) ⟨wr.heap.size, 0, none⟩ 1 1 [.int .i64 x] rfl rfl ?c1 ?c2 ?c3 ?c4 ?c5 ?_)
        | go_in)
      case c1 =>
        intro j u hj
        match j, hj with
        | 0, hj => simp at hj; subst hj; simp [Addr.add]
      case c2 => intro u hu; simp at hu; subst hu; rfl
      case c3 => unfold maxLen; omega
      case c4 => omega
      case c5 => simp; omega
      · intro v' w3 hown' hgrow _
        have hb1 := own_below (hown.alloc _) (hb.al _) hgrow
        rw [HS.out] at hown'
        clear hown hgrow hb
        go_wp2
        go_roundw
        case rel => exact ⟨k + 1, by omega, by go_num, hown', hb1⟩
        case measure => simp [intOf]; omega
    · obtain rfl : k = l.length := by omega
      rw [List.take_of_length_le (by rw [HXL.out]; exact Nat.le_refl _)] at hown
      obtain ⟨C, cc, rfl, hs3, hfr⟩ := own_slf hown
      go_wp2
      go_ret
      exact ⟨⟨C, cc, rfl, hs3, hfr⟩, hb⟩

/-! ### Right -/
theorem apart_no {l : List Sh} {i k : Nat} (hi : i < l.length) (hk : k < i) (h : (l.getD k sh0).1 = (l.getD i sh0).1) : apartI (xsL l) = false := by
  cases e : apartI (xsL l) with
  | false => rfl
  | true =>
    have := apartI_iff.1 e i (by rw [xsL_length]; exact hi) k hk
    rw [xsL_at l hi, xsL_at l (by omega)] at this
    exact absurd h.symm this
theorem apart_yes {l : List Sh} (h : ∀ i, i < l.length → ∀ k, k < i → (l.getD k sh0).1 ≠ (l.getD i sh0).1) : apartI (xsL l) = true := by
  rw [apartI_iff]
  intro i hi k hk e
  rw [xsL_length] at hi
  rw [xsL_at l hi, xsL_at l (by omega)] at e
  exact h i hi k hk e.symm
set_option maxHeartbeats 4000000 in
theorem rright_any (l : List Sh) (A : Option Addr) (c : Nat) (hl : l.length ≤ 9223372036854775807) (w : World) (hs : Sl w A (shV l)) :
    Calls Try.prog 30 #[.slice A l.length c] w fun e w' => e = .returned (.bool (rightB l)) ∧ Below w.heap.size w w' := by
  have HNA : Hid (allSh l = false → rightB l = false) := Lib.hid (fun a => by simp [rightB, a])
  have HNP : Hid (apartI (xsL l) = false → rightB l = false) := Lib.hid (fun a => by simp [rightB, a])
  have HR : Hid (allSh l = true → apartI (xsL l) = true → rightB l = (decide (1 ≤ l.length) && decide (l.length ≤ 255))) := Lib.hid (fun a b => by simp [rightB, a, b])
  go_enter Try.func30, Try.ntmps30
  go_wp2
  go_loopw [3] (fun i wr => ∃ k : Nat, k ≤ l.length ∧ i = .int .i64 (k : Int) ∧ Hid (∀ j, j < k → okSh (l.getD j sh0) = true ∧ ∀ q, q < j → (l.getD q sh0).1 ≠ (l.getD j sh0).1) ∧ Below w.heap.size w wr) (fun i _ => l.length - (intOf i).toNat)
  case atStart => exact ⟨0, by omega, rfl, Lib.hid (fun j hj => by omega), Below.refl _ _⟩
  case round =>
    obtain ⟨k, hk, rfl, hd, hb⟩ := hrel
    by_cases hlt : k < l.length
    · obtain ⟨b, off, rfl, hx, hy⟩ := sl_sh (hs.keep hb) hlt
      obtain ⟨x, hX⟩ : ∃ x, (l.getD k sh0).1 = x := ⟨_, rfl⟩
      obtain ⟨y, hY⟩ : ∃ y, (l.getD k sh0).2 = y := ⟨_, rfl⟩
      have HX := Lib.hid hX
      have HOK : Hid (okSh (l.getD k sh0) = (dig x && decide (y.size = 32))) := Lib.hid (by rw [okSh, hX, hY])
      rw [hX] at hx
      rw [hY] at hy
      clear hX hY
      have HNA2 : Hid (okSh (l.getD k sh0) = false → rightB l = false) := Lib.hid (fun h => HNA.out (allSh_no hlt h))
      by_cases hx0 : x < 0
      · have e := Lib.hid (HNA2.out (by rw [HOK.out, show dig x = false by simp [dig]; omega]; rfl))
        go_wp2
        go_ret
        exact ⟨ret_bool e.out.symm, hb⟩
      by_cases hx1 : 255 < x
      · have e := Lib.hid (HNA2.out (by rw [HOK.out, show dig x = false by simp [dig]; omega]; rfl))
        go_wp2
        go_ret
        exact ⟨ret_bool e.out.symm, hb⟩
      by_cases hz : (y.size : Int) = 32
      rotate_left
      · have t1 : ((y.size : Int) != 32) = true := by simpa using hz
        have e := Lib.hid (HNA2.out (by rw [HOK.out]; simp; intro _ h; omega))
        clear hz
        go_wp2
        go_ret
        exact ⟨ret_bool e.out.symm, hb⟩
      have t1 : ((y.size : Int) != 32) = false := by simpa using hz
      have HOK2 : Hid (okSh (l.getD k sh0) = true) := Lib.hid (by rw [HOK.out]; simp [dig]; omega)
      clear hz HOK HNA2
      have hs0 := hs
      go_wp2
      go_loopw [4] (fun i wr => ∃ q : Nat, q ≤ k ∧ i = .int .i64 (q : Int) ∧ Hid (∀ p, p < q → (l.getD p sh0).1 ≠ (l.getD k sh0).1) ∧ Below w.heap.size w wr) (fun i _ => k - (intOf i).toNat)
      case atStart => exact ⟨0, by omega, rfl, Lib.hid (fun j hj => by omega), hb⟩
      case round =>
        clear hx hy hb
        obtain ⟨q, hq, rfl, hdq, hb⟩ := hrel
        by_cases hltq : q < k
        · obtain ⟨b1, off1, e1, hx1', _⟩ := sl_sh (hs.keep hb) hlt
          cases e1
          obtain ⟨b2, off2, e2, hx2, _⟩ := sl_sh (hs.keep hb) (show q < l.length by omega)
          cases e2
          rw [HX.out] at hx1'
          obtain ⟨z, hZ⟩ : ∃ z, (l.getD q sh0).1 = z := ⟨_, rfl⟩
          have HZ := Lib.hid hZ
          rw [hZ] at hx2
          clear hZ
          have hbD := fun n : Nat => hb.next' (Below.drewN0 wr n)
          clear hb
          by_cases hzx : z = x
          · subst hzx
            have e := Lib.hid (HNP.out (apart_no hlt hltq (by rw [HZ.out, HX.out])))
            go_wp2
            go_quiet (fail)
            have hb := hbD nq
            clear hbD
            generalize wr.drewN nq = W2 at *
            go_wp2
            go_ret
            exact ⟨ret_bool e.out.symm, hb⟩
          · have t2 : (z == x) = false := by simpa using hzx
            have HN : Hid (∀ p, p < q + 1 → (l.getD p sh0).1 ≠ (l.getD k sh0).1) := Lib.hid (fun p hp => by
              by_cases e : p = q
              · rw [e, HZ.out, HX.out]; exact hzx
              · exact hdq.out p (by omega))
            clear hzx
            go_wp2
            go_quiet (fail)
            have hb := hbD nq
            clear hbD
            generalize wr.drewN nq = W2 at *
            go_wp2
            go_roundw
            case rel => exact ⟨q + 1, by omega, by go_num, HN, hb⟩
            case measure => simp [intOf]; omega
        · obtain rfl : q = k := by omega
          have HN : Hid (∀ j, j < q + 1 → okSh (l.getD j sh0) = true ∧ ∀ p, p < j → (l.getD p sh0).1 ≠ (l.getD j sh0).1) := Lib.hid (fun j hj => by
            by_cases e : j = q
            · subst e
              exact ⟨HOK2.out, hdq.out⟩
            · exact hd.out j (by omega))
          go_wp2
          go_roundw
          case rel => exact ⟨q + 1, by omega, by go_num, HN, hb⟩
          case measure => simp [intOf]; omega
    · obtain rfl : k = l.length := by omega
      have e := Lib.hid (HR.out (allSh_yes fun j hj => (hd.out j hj).1) (apart_yes fun j hj => (hd.out j hj).2))
      by_cases h1 : (l.length : Int) < 1
      · have e2 : Hid (rightB l = false) := Lib.hid (by rw [e.out]; simp; omega)
        have t3 : ¬ (l.length : Int) ≥ 1 := by omega
        go_wp2
        go_ret
        exact ⟨ret_bool e2.out.symm, hb⟩
      have t3 : (l.length : Int) ≥ 1 := by omega
      by_cases h2 : (255 : Int) < (l.length : Int)
      · have e2 : Hid (rightB l = false) := Lib.hid (by rw [e.out]; simp; omega)
        have t4 : ¬ (l.length : Int) ≤ 255 := by omega
        go_wp2
        go_ret
        exact ⟨ret_bool e2.out.symm, hb⟩
      · have e2 : Hid (rightB l = true) := Lib.hid (by rw [e.out]; simp; omega)
        have t4 : (l.length : Int) ≤ 255 := by omega
        go_wp2
        go_ret
        exact ⟨ret_bool e2.out.symm, hb⟩
end Go.Proofs.Ytljckcegcfidoaa

/-
  keyholeref09: the contracts of At and Combine.
-/
namespace Go.Proofs.Ytljckcegcfidoaa
open Go.RowKit Go.Kx
set_option maxRecDepth 20000

theorem right_places {l : List Sh} (h : rightB l = true) : placesB (xsL l) = true := by
  obtain ⟨h1, h2, h3, h4⟩ := rightB_of h
  simp [placesB, xsL_length, h1, h2, h4, allSh_digs h3]
theorem txtL_snoc (R : Nat → Gf.G) {j : Nat} (hj : j < 32) : byts ((txtL R).take j) ++ [Value.int .u8 ((R j).v : Nat)] = byts ((txtL R).take (j + 1)) := by
  have hx := txtL_at R hj
  have := (R j).lt
  rw [← take_snocB hx, ← byts_snoc, UInt8.toNat_ofNat', Nat.mod_eq_of_lt this]
set_option maxHeartbeats 4000000 in
theorem rat_any (l : List Sh) (x : Int) (A : Option Addr) (c : Nat) (hl : l.length ≤ 1000) (w : World) (hs : Sl w A (shV l)) :
    Calls Try.prog 18 #[.slice A l.length c, .int .i64 x] w fun e w' => e = strE (atA l x) ∧ Below w.heap.size w w' := by
  have HRT := Lib.hid (rright_any l A c (by omega) w hs)
  cases h1 : rightB l with
  | false =>
    have hr : atA l x = (⟨#[]⟩, 90) := by rw [atA, if_neg (by rw [h1]; simp)]
    rw [hr]
    rw [h1] at HRT
    clear h1 hr
    go_enter Try.func18, Try.ntmps18
    go_wp2_with fail
    refine HRT.out.mono ?_
    rintro e w1 ⟨rfl, hb⟩
    go_wp2
    go_ret2
    exact ⟨rfl, hb⟩
  | true =>
    rw [h1] at HRT
    have HPL := Lib.hid (fun V h => rplaces_any l A c hl V h)
    cases hd : dig x with
    | false =>
      have hr : atA l x = (⟨#[]⟩, 1) := by rw [atA, if_pos h1, if_neg (by rw [hd]; simp)]
      rw [hr]
      have HW : Hid (∀ V C cc, Sl V C (intsI (xsL l)) → Calls Try.prog 37 #[.slice C l.length cc, .int .i64 x] V fun e w' => e = .returned (.tuple #[.slice none 0 0, .bool false]) ∧ Below V.heap.size V w') := Lib.hid (fun V C cc h => by
        have := rweights_no (xsL l) x C cc (by rw [xsL_length]; omega) (right_places h1) hd V h
        rwa [xsL_length] at this)
      clear h1 hr hd
      go_enter Try.func18, Try.ntmps18
      go_wp2_with fail
      refine HRT.out.mono ?_
      rintro e w1 ⟨rfl, hb⟩
      go_wp2_with fail
      refine (HPL.out _ (hs.keep hb)).mono ?_
      rintro e w2 ⟨⟨C, cc, rfl, hsx, _⟩, hb2⟩
      replace hb := hb.next' hb2
      go_wp2_with fail
      refine (HW.out _ _ _ hsx).mono ?_
      rintro e w3 ⟨rfl, hb3⟩
      go_wp2
      go_ret2
      exact ⟨rfl, hb.next' hb3⟩
    | true =>
      have hr : atA l x = (txt (accR (wgtsI (xsL l) x) (bsG l) l.length), 0) := atA_yes h1 hd
      rw [hr]
      have HW : Hid (∀ V C cc, Sl V C (intsI (xsL l)) → Calls Try.prog 37 #[.slice C l.length cc, .int .i64 x] V fun e w' => (∃ D dd, e = .returned (.tuple #[.slice D l.length dd, .bool true]) ∧ Sl w' D (intsI (wgtsI (xsL l) x))) ∧ Below V.heap.size V w') := Lib.hid (fun V C cc h => by
        have := rweights_yes (xsL l) x C cc (by rw [xsL_length]; omega) (okWt_of h1 hd) V h
        rwa [xsL_length] at this)
      obtain ⟨i0, hI0, hz0, hz1, hz2⟩ := info_parts octet_info
      obtain ⟨_, hl255, h3, _⟩ := rightB_of h1
      have HSZ : Hid (∀ i, i < l.length → (l.getD i sh0).2.size = 32) := Lib.hid (fun i hi => (okSh_of (allSh_at h3 hi)).2)
      have HWD : Hid (∀ i, i < l.length → ∃ g : Gf.G, (wgtsI (xsL l) x).getD i 0 = (g.v : Nat) ∧ ∀ j, accR (wgtsI (xsL l) x) (bsG l) i j + gOf (l.getD i sh0).2 j * g = accR (wgtsI (xsL l) x) (bsG l) (i + 1) j) := Lib.hid (fun i hi => by
        have e := wgtsI_at (xs := xsL l) (x := x) (i := i) (by rw [xsL_length]; exact hi)
        refine ⟨wgtI (xsL l) i x, e, fun j => ?_⟩
        rw [accR_succ, e, toG_of, Gf.G.mul_comm]
        rfl)
      have HWLL : Hid ((wgtsI (xsL l) x).length = l.length) := Lib.hid (by rw [wgtsI_length, xsL_length])
      have H0 : Hid (∀ j, accR (wgtsI (xsL l) x) (bsG l) 0 j = 0) := Lib.hid (fun j => rfl)
      have HSN := Lib.hid (fun j hj => txtL_snoc (accR (wgtsI (xsL l) x) (bsG l) l.length) (j := j) hj)
      have HTL := Lib.hid (txtL_length (accR (wgtsI (xsL l) x) (bsG l) l.length))
      have HTX : Hid (txt (accR (wgtsI (xsL l) x) (bsG l) l.length) = ⟨(txtL (accR (wgtsI (xsL l) x) (bsG l) l.length)).toArray⟩) := Lib.hid rfl
      have HSH := Lib.hid hs
      clear h1 hr hd h3
      generalize accR (wgtsI (xsL l) x) (bsG l) = R at *
      generalize wgtsI (xsL l) x = ws at *
      go_enter Try.func18, Try.ntmps18
      go_wp2_with fail
      refine HRT.out.mono ?_
      rintro e w1 ⟨rfl, hb⟩
      go_wp2_with fail
      refine (HPL.out _ (hs.keep hb)).mono ?_
      rintro e w2 ⟨⟨C, cc, rfl, hsx, _⟩, hb2⟩
      replace hb := hb.next' hb2
      go_wp2_with fail
      refine (HW.out _ _ _ hsx).mono ?_
      rintro e w3 ⟨⟨D, dd, rfl, hsw⟩, hb3⟩
      replace hb := hb.next' hb3
      clear hb2 hb3 hsx hs
      have HSWW := Lib.hid hsw
      clear hsw
      have hw3 : w.heap.size ≤ w3.heap.size := hb.size
      go_wp2
      go_loopw [8, 9] (fun v i wr => ∃ j : Nat, j ≤ 32 ∧ i = .int .i64 (j : Int) ∧ wr.ownsRow w3.heap.size 5 1 v j (byts ((txtL (R l.length)).take j)) ∧ Below w3.heap.size w3 wr) (fun _ i _ => 32 - (intOf i).toNat)
      case atStart => exact ⟨0, by omega, rfl, World.ownsRow_nil _ _ _ _, Below.refl _ _⟩
      case round =>
        obtain ⟨j, hj, rfl, hown, hb2⟩ := hrel
        by_cases hltj : j < 32
        · generalize wr = W0 at *
          go_wp2
          go_loopw [10, 11] (fun p q wr => ∃ k : Nat, k ≤ l.length ∧ q = .int .i64 (k : Int) ∧ p = .int .i64 ((R k j).v : Nat) ∧ Below W0.heap.size W0 wr) (fun _ q _ => l.length - (intOf q).toNat)
          case atStart => exact ⟨0, by omega, rfl, by rw [H0.out]; rfl, Below.refl _ _⟩
          case round =>
            obtain ⟨k, hk, rfl, rfl, hb4⟩ := hrel
            by_cases hltk : k < l.length
            · have hb5 := hb2.next' hb4
              obtain ⟨b1, o1, rfl, _, hy⟩ := sl_sh ((HSH.out.keep hb).keep hb5) hltk
              obtain ⟨b2, o2, rfl, hcw⟩ := sl_int (HSWW.out.keep hb5) (k := k) (by rw [HWLL.out]; exact hltk)
              obtain ⟨g, hg, hg2⟩ := HWD.out k hltk
              have hy32 := HSZ.out k hltk
              have HE := Lib.hid (hg2 j)
              rw [hg] at hcw
              clear hg hg2
              generalize (l.getD k sh0).2 = y at *
              have hjy : j < y.size := by omega
              have hv := gOf_v y j hjy
              have HT : Hid (∀ V, Calls Try.prog 40 #[.int .i64 (y[j].toNat : Nat), .int .i64 (g.v : Nat)] V fun e w' => e = .returned (.int .i64 ((gOf y j * g).v : Nat)) ∧ w' = V) := Lib.hid (fun V => by rw [← hv]; exact gtimes_any _ _ V)
              have HS := Lib.hid (fun V => gsum_any (R k j) (gOf y j * g) V)
              have hyl : y[j].toNat < 256 := UInt8.toNat_lt _
              have wy : IntKind.i64.wrap ((y[j].toNat : Nat) : Int) = ((y[j].toNat : Nat) : Int) := IntWalk.i64_in _ (by omega)
              have hbD := fun n : Nat => hb4.next' (Below.drewN0 wr n)
              clear hv hb4 hb5 hy32
              rw [HE.out] at HS
              generalize gOf y j * g = q at *
              go_wp2
              go_quiet (first
                | (go_at_call 40; exact Calls.quiet_of_same (HT.out _))
                | (go_at_call 39; exact Calls.quiet_of_same (HS.out _)))
              have hb6 := hbD nq
              clear hbD
              generalize wr.drewN nq = W2 at *
              go_wp2
              go_roundw
              case rel => exact ⟨k + 1, by omega, by go_num, rfl, hb6⟩
              case measure => simp [intOf]; omega
            · have hkl : k = l.length := by omega
              have HSJ := Lib.hid (HSN.out j hltj)
              have ho3 := own_keep hown hb4
              have hb5 := hb2.next' hb4
              have hsz := hb5.size
              rw [hkl]
              clear hkl hown hb2 hb4
              generalize R l.length j = z at *
              have hzl := z.lt
              have hzm : IntKind.u8.wrap ((z.v : Nat) : Int) = ((z.v : Nat) : Int) := by simp only [IntKind.wrap, IntKind.bits, IntKind.signed]; simp; omega
              go_wp2_with (first
                | (at_builtin; refine wpList_append_own _ rfl _ _ 54 rfl w3.heap.size 5 i0 (.int .u8 0) 1 1 Try.underlying54 hI0 hz0 hz1 hz2 rfl (by decide) _ _ _ rfl (ho3.alloc _) ⟨wr.heap.size, 0, none⟩ 1 1 [.int .u8 (z.v : Nat)] rfl rfl ?c1 ?c2 ?c3 ?c4 ?c5 ?_)
                | go_in)
              case c1 =>
                intro j u hj
                match j, hj with
                | 0, hj => simp at hj; subst hj; simp [Addr.add]
              case c2 => intro u hu; simp at hu; subst hu; rfl
              case c3 => unfold maxLen; omega
              case c4 => omega
              case c5 => simp; omega
              · intro v' w4 hown' hgrow _
                have hb1 := own_below (ho3.alloc _) (hb5.al _) hgrow
                rw [HSJ.out] at hown'
                clear ho3 hgrow hb5
                go_wp2
                go_roundw
                case rel => exact ⟨j + 1, by omega, by go_num, hown', hb1⟩
                case measure => simp [intOf]; omega
        · have hj32 : j = 32 := by omega
          have hlj : j = (txtL (R l.length)).length := by rw [HTL.out]; omega
          rw [List.take_of_length_le (by omega), hlj] at hown
          obtain ⟨E, ee, hv, hconv⟩ := own_strs hown
          rw [← hlj] at hv
          subst hv
          have hb4 := hb.next' hb2
          clear hlj hj32 hown
          go_wp2
          go_ret2
          exact ⟨by rw [HTX.out]; rfl, hb4⟩
set_option maxHeartbeats 1000000 in
theorem rcombine_any (l : List Sh) (A : Option Addr) (c : Nat) (hl : l.length ≤ 1000) (w : World) (hs : Sl w A (shV l)) :
    Calls Try.prog 16 #[.slice A l.length c] w fun e w' => e = strE (combA l) ∧ Below w.heap.size w w' := by
  have HRT := Lib.hid (rright_any l A c (by omega) w hs)
  have HZ := Lib.hid (fun V h => rzero_any l A c (by omega) V h)
  have HAT := Lib.hid (fun V h => rat_any l 0 A c hl V h)
  cases h1 : rightB l with
  | false =>
    have hr : combA l = (⟨#[]⟩, 90) := by
      unfold combA
      split
      · rfl
      · rw [atA, if_neg (by rw [h1]; simp)]
    rw [hr]
    rw [h1] at HRT
    clear h1 hr
    go_enter Try.func16, Try.ntmps16
    go_wp2_with fail
    refine HRT.out.mono ?_
    rintro e w1 ⟨rfl, hb⟩
    go_wp2
    go_ret2
    exact ⟨rfl, hb⟩
  | true =>
    rw [h1] at HRT
    cases h2 : zeroB l with
    | true =>
      have hr : combA l = (⟨#[]⟩, 90) := by rw [combA, if_pos h2]
      rw [hr]
      rw [h2] at HZ
      clear h1 hr h2
      go_enter Try.func16, Try.ntmps16
      go_wp2_with fail
      refine HRT.out.mono ?_
      rintro e w1 ⟨rfl, hb⟩
      go_wp2_with fail
      refine (HZ.out _ (hs.keep hb)).mono ?_
      rintro e w1 ⟨rfl, rfl⟩
      go_wp2
      go_ret2
      exact ⟨rfl, hb⟩
    | false =>
      have hr : combA l = atA l 0 := by rw [combA, if_neg (by rw [h2]; simp)]
      rw [hr]
      rw [h2] at HZ
      obtain ⟨⟨r, t⟩, hrt⟩ : ∃ r, atA l 0 = r := ⟨_, rfl⟩
      rw [hrt] at HAT ⊢
      clear h1 hr h2 hrt
      go_enter Try.func16, Try.ntmps16
      go_wp2_with fail
      refine HRT.out.mono ?_
      rintro e w1 ⟨rfl, hb⟩
      replace hs := hs.keep hb
      go_wp2_with fail
      refine (HZ.out _ hs).mono ?_
      rintro e w1 ⟨rfl, rfl⟩
      go_wp2_with fail
      refine (HAT.out _ hs).mono ?_
      rintro e w2 ⟨rfl, hb2⟩
      unfold strE
      go_wp2
      go_ret2
      exact ⟨rfl, hb.next' hb2⟩
end Go.Proofs.Ytljckcegcfidoaa

/-
  keyholeref09.Tape: the contract.
-/
namespace Go.Proofs.Ytljckcegcfidoaa
open Go.RowKit Go.Kx
set_option maxRecDepth 20000

set_option maxHeartbeats 1000000 in
theorem rtape_no (s : ByteArray) (l : List Sh) (A : Option Addr) (c : Nat) (hl : l.length ≤ 9223372036854775807) (h : ¬ okTp s l) (w : World) (hs : Sl w A (shV l)) :
    Calls Try.prog 20 #[.string s, .slice A l.length c] w fun e w' => e = strE (⟨#[]⟩, tapNo s) ∧ Below w.heap.size w w' := by
  by_cases h1 : (s.size : Int) = 32
  rotate_left
  · have t1 : ((s.size : Int) != 32) = true := by simpa using h1
    have e : Hid (tapNo s = 1) := Lib.hid (by rw [tapNo, if_neg (by omega)])
    go_enter Try.func20, Try.ntmps20
    go_wp2
    go_ret2
    exact ⟨by rw [e.out]; rfl, Below.refl _ _⟩
  have t1 : ((s.size : Int) != 32) = false := by simpa using h1
  have e : Hid (tapNo s = 90) := Lib.hid (by rw [tapNo, if_pos (by omega)])
  have HRT := Lib.hid (fun V h => rright_any l A c hl V h)
  have HZ := Lib.hid (fun V h => rzero_any l A c hl V h)
  cases h2 : rightB l with
  | false =>
    rw [h2] at HRT
    clear h h1 h2
    go_enter Try.func20, Try.ntmps20
    go_wp2_with fail
    refine (HRT.out _ hs).mono ?_
    rintro e w1 ⟨rfl, hb⟩
    go_wp2
    go_ret2
    exact ⟨by rw [e.out]; rfl, hb⟩
  | true =>
    rw [h2] at HRT
    cases h3 : zeroB l with
    | true =>
      rw [h3] at HZ
      clear h h1 h2 h3
      go_enter Try.func20, Try.ntmps20
      go_wp2_with fail
      refine (HRT.out _ hs).mono ?_
      rintro e w1 ⟨rfl, hb⟩
      go_wp2_with fail
      refine (HZ.out _ (hs.keep hb)).mono ?_
      rintro e w1 ⟨rfl, rfl⟩
      go_wp2
      go_ret2
      exact ⟨by rw [e.out]; rfl, hb⟩
    | false =>
      rw [h3] at HZ
      have h4 : l.length = 255 := Decidable.byContradiction fun h5 => h ⟨by omega, h2, h3, h5⟩
      have t4 : (l.length : Int) ≥ 255 := by omega
      clear h h1 h2 h3 h4
      go_enter Try.func20, Try.ntmps20
      go_wp2_with fail
      refine (HRT.out _ hs).mono ?_
      rintro e w1 ⟨rfl, hb⟩
      go_wp2_with fail
      refine (HZ.out _ (hs.keep hb)).mono ?_
      rintro e w1 ⟨rfl, rfl⟩
      go_wp2
      go_ret2
      exact ⟨by rw [e.out]; rfl, hb⟩
theorem row_ne {V : World} {O n : Nat} {t : TypeId} {f : Nat → Gf.G} (h : V.rowIs O t n (fun q => .int .u8 ((f q).v : Nat))) {A : Option Addr} {ws : List Int} (hs : Sl V A (intsI ws)) (hw : 0 < ws.length) : ∀ a, A = some a → a.block ≠ O := by
  rintro a rfl rfl
  obtain ⟨b, off, e, hc⟩ := sl_int hs hw
  cases e
  obtain ⟨cs, hb, hn, hc2⟩ := h
  rw [cell_of_row _ _ _ _ _ _ hb] at hc
  by_cases hq : off + 0 < n
  · rw [hc2 _ hq] at hc
    cases hc
  · rw [Array.getElem?_eq_none (by omega)] at hc
    cases hc
theorem out_conv (s : ByteArray) (l : List Sh) (wr : World) (O Z : Nat) (hZ : 32 * l.length = Z) (h : wr.rowIs O 5 Z (fun q => .int .u8 ((outA s l (l.length + 1) 0 1 q).v : Nat))) :
    (convert 54 9 (.slice (some ⟨O, 0, none⟩) Z Z)).run Try.prog wr = .ok (.string ⟨(tapL (polA s l (l.length + 1)) l.length).toArray⟩) wr := by
  subst hZ
  have hc := run_convert_bytes_back (P := Try.prog) wr 54 9 5 ⟨O, 0, none⟩ (32 * l.length) (tapL (polA s l (l.length + 1)) l.length) Try.underlying54 Try.underlying5 Try.underlying9 (fun j hj => by
    have hj' : j < 32 * l.length := by rw [tapL_length] at hj; exact hj
    have h1 := h.cell (i := j) hj'
    rw [show (⟨O, 0, none⟩ : Addr).add j = ⟨O, j, none⟩ by unfold Addr.add; split <;> simp_all, h1]
    have e := outA_end s l j hj'
    rw [List.getElem?_eq_getElem hj] at e
    have := (outA s l (l.length + 1) 0 1 j).lt
    rw [← Option.some.inj e]
    simp
    omega)
  rwa [tapL_length] at hc
set_option maxHeartbeats 8000000 in
theorem rtape_yes (s : ByteArray) (l : List Sh) (A : Option Addr) (c : Nat) (h : okTp s l) (w : World) (hs : Sl w A (shV l)) :
    Calls Try.prog 20 #[.string s, .slice A l.length c] w fun e w' => e = strE (⟨(tapL (polA s l (l.length + 1)) l.length).toArray⟩, 0) ∧ Below w.heap.size w w' := by
  obtain ⟨h1, h2, h3, h4⟩ := h
  obtain ⟨p1, p2, p3, p4⟩ := rightB_of h2
  have hra := allS_right h1 h2 h3 (by omega)
  obtain ⟨r1, r2, r3, r4⟩ := rightB_of hra
  have t1 : ((s.size : Int) != 32) = false := by simp; omega
  have t4 : ¬ (l.length : Int) ≥ 255 := by omega
  have hm : l.length ≤ 254 := by omega
  have HRT := Lib.hid (fun V h => rright_any l A c (by omega) V h)
  have HZ := Lib.hid (fun V h => rzero_any l A c (by omega) V h)
  rw [h2] at HRT
  rw [h3] at HZ
  obtain ⟨i1, hI1, hy0, hy1, hy2⟩ := info_parts shares_info
  obtain ⟨K, hK⟩ : ∃ K, l.length + 1 = K := ⟨_, rfl⟩
  obtain ⟨Z, hZ⟩ : ∃ Z, 32 * l.length = Z := ⟨_, rfl⟩
  have hZ300 : Z ≤ 10000 := by omega
  have hK300 : K ≤ 255 := by omega
  have HK := Lib.hid hK
  have HKZ : Hid (∀ e j, e + 1 < K → j < 32 → 32 * e + j < Z) := Lib.hid (fun e j h1 h2 => by omega)
  have HAL : Hid ((allS s l).length = K) := Lib.hid (by rw [← hK]; rfl)
  have HXL : Hid ((xsL (allS s l)).length = K) := Lib.hid (by rw [xsL_length]; exact HAL.out)
  have HPL : Hid (∀ V A c, Sl V A (shV (allS s l)) → Calls Try.prog 38 #[.slice A K c] V fun e w' => (∃ C cc, e = .returned (.slice C K cc) ∧ Sl w' C (intsI (xsL (allS s l)))) ∧ Below V.heap.size V w') := Lib.hid (fun V A c h => by
    have := rplaces_any (allS s l) A c (by rw [HAL.out]; omega) V h
    rw [HAL.out] at this
    refine this.mono ?_
    rintro e w' ⟨⟨C, cc, h1, h2, _⟩, hb⟩
    exact ⟨⟨C, cc, h1, h2⟩, hb⟩)
  have HBA : Hid (∀ i, i < K → ∀ V A c, Sl V A (intsI (xsL (allS s l))) → Calls Try.prog 47 #[.slice A K c, .int .i64 (i : Int)] V fun e w' => (∃ C cc, e = .returned (.slice C K cc) ∧ Sl w' C (intsI (vsI (basA s l i)))) ∧ Below V.heap.size V w') := Lib.hid (fun i hi V A c h => by
    have := rbasis_any (xsL (allS s l)) i A c (by rw [HXL.out]; omega) (by rw [HXL.out]; exact hi) (allSh_digs r3) r4 V h
    rw [HXL.out] at this
    rw [basA, hK]
    exact this)
  have HBL : Hid (∀ i, i < K → (basA s l i).length = K) := Lib.hid (fun i hi => by rw [basA_len s l (by omega), hK])
  have HSZ : Hid (∀ i, i < K → ((allS s l).getD i sh0).2.size = 32) := Lib.hid (fun i hi => (okSh_of (allSh_at r3 (by rw [HAL.out]; exact hi))).2)
  have HST : Hid (∀ i d j, (basA s l i).getD d 0 * gOf ((allS s l).getD i sh0).2 j = trmA s l i d j) := Lib.hid (fun i d j => rfl)
  have HOO := Lib.hid (fun i j d h => outA_old s l i j d h)
  have HOS := Lib.hid (fun i j d q h => outA_set s l i j d q h)
  have HON : Hid (∀ i j q, q < Z → outA s l i j K q = outA s l i (j + 1) 1 q) := Lib.hid (fun i j q hq => by rw [← hK]; exact outA_next s l i j q l.length (by omega))
  have HOR := Lib.hid (fun i q => outA_row s l i q)
  have HO0 := Lib.hid (fun q => outA_start s l q)
  have HCV : Hid (∀ wr O, wr.rowIs O 5 Z (fun q => .int .u8 ((outA s l K 0 1 q).v : Nat)) → (convert 54 9 (.slice (some ⟨O, 0, none⟩) Z Z)).run Try.prog wr = .ok (.string ⟨(tapL (polA s l (l.length + 1)) l.length).toArray⟩) wr) := Lib.hid (fun wr O h => out_conv s l wr O Z hZ (by rw [hK]; exact h))
  have hmk := run_make_row' (P := Try.prog) 54 5 (.int .u8 0) 1 Try.underlying54 octet_info rfl .i64 .i64 Z (by omega) (by omega)
  have eZ : 32 * (l.length : Int) = (Z : Int) := by omega
  have hone : ∀ u ∈ shV l, u.oneCell' = true := shV_one l
  have hsome : ∃ ad, A = some ad := by
    rcases hs with hh | ⟨b, off, e, _, _⟩
    · have := shV_length l
      rw [hh] at this
      simp at this
      omega
    · exact ⟨_, e⟩
  obtain ⟨ad, rfl⟩ := hsome
  have HSW := Lib.hid hs
  have HSV : Hid (shV [(0, s)] ++ shV l = shV (allS s l)) := Lib.hid rfl
  have HK1 : Hid (1 + l.length = K) := Lib.hid (by omega)
  generalize tapL (polA s l (l.length + 1)) l.length = TT at *
  clear h1 h2 h3 h4 p1 p2 p3 p4 hra r1 r2 r3 r4 hK hZ hs
  go_enter Try.func20, Try.ntmps20
  go_wp2_with fail
  refine (HRT.out _ HSW.out).mono ?_
  rintro e w1 ⟨rfl, hb⟩
  go_wp2_with fail
  refine (HZ.out _ (HSW.out.keep hb)).mono ?_
  rintro e w1 ⟨rfl, rfl⟩
  have hsl1 := HSW.out.keep (hb.al (.cells #[.int .i64 0, .string s] 39))
  have hcells : ∀ j u, (shV l)[j]? = some u → (w1.alloc (.cells #[.int .i64 0, .string s] 39)).cell? (ad.add j) = some u := fun j u hu => by
    rcases hsl1 with hh | ⟨b, off, e, _, hc⟩
    · rw [hh] at hu; simp at hu
    · cases e
      have := hc j u hu
      rwa [Addr.add_mid]
  have ho1 : (w1.alloc (.cells #[.int .i64 0, .string s] 39)).ownsRow w.heap.size 39 2 (.slice (some ⟨w1.heap.size, 0, none⟩) 1 1) 1 (shV [(0, s)]) :=
    World.ownsRow_lit (base := w.heap.size) (e := 39) (size := 2) w1 #[.int .i64 0, .string s] 1 hb.size (by unfold maxLen; omega) rfl
  have hszw := hb.size
  go_wp2_with (first
    | (at_builtin; refine wpList_append_own _ rfl _ _ 22 rfl w.heap.size 39 i1 (.agg #[.int .i64 0, .string ⟨#[]⟩]) 2 24 Try.underlying22 hI1 hy0 hy1 hy2 rfl (by decide) _ _ _ rfl ho1 ad l.length c (shV l) rfl (shV_length l) hcells hone (by unfold maxLen; omega) (by omega) (by simp; omega) ?_)
    | go_in)
  intro v' w2 hown' hgrow _
  have hb2 := own_below ho1 (hb.al _) hgrow
  rw [HSV.out, HK1.out] at hown'
  obtain ⟨A2, c2, rfl, hs2, _⟩ := own_slf hown'
  clear ho1 hgrow hown' hcells hsl1 hb hszw
  go_wp2_with fail
  refine (HPL.out _ _ _ hs2).mono ?_
  rintro e w3 ⟨⟨C3, c3, rfl, hs3⟩, hb3⟩
  replace hs2 := hs2.keep hb3
  replace hb2 := hb2.next' hb3
  clear hb3
  have HS2 := Lib.hid hs2
  have HS3 := Lib.hid hs3
  have hrow : (w3.alloc (.cells (madeCells #[.int .u8 0] Z) 5)).rowIs w3.heap.size 5 Z (fun q => .int .u8 ((outA s l 0 0 1 q).v : Nat)) :=
    (World.rowIs_made w3 (.int .u8 0) Z 5).congr fun q _ => by rw [HO0.out]; rfl
  have hkO := Below.alloc0 w3 (.cells (madeCells #[.int .u8 0] Z) 5)
  have hOw : Hid (w.heap.size ≤ w3.heap.size) := Lib.hid hb2.size
  clear hs2 hs3
  go_wp2
  generalize World.alloc w3 _ = W4 at *
  obtain ⟨O, hOO⟩ : ∃ O, O = w3.heap.size := ⟨_, rfl⟩
  have hO : w3.heap.size ≤ O := by omega
  rw [← hOO] at hrow ⊢
  clear hOO
  go_loopw [9] (fun x wr => ∃ i : Nat, i ≤ K ∧ x = .int .i64 (i : Int) ∧ wr.rowIs O 5 Z (fun q => .int .u8 ((outA s l i 0 1 q).v : Nat)) ∧ Below w3.heap.size w3 wr) (fun x _ => K - (intOf x).toNat)
  case atStart => exact ⟨0, by omega, rfl, hrow, hkO⟩
  case round =>
    clear hrow hkO
    obtain ⟨i, hi, rfl, hr, hb⟩ := hrel
    by_cases hlti : i < K
    · go_wp2_with fail
      refine (HBA.out i hlti _ _ _ (HS3.out.keep hb)).mono ?_
      rintro e w5 ⟨⟨C, cc, rfl, hsc⟩, hb5⟩
      replace hr := rowIs_keep hr hb5
      replace hb := hb.next' hb5
      have hCO := row_ne hr hsc (by rw [vsI_length, HBL.out i hlti]; omega)
      clear hb5
      go_wp2
      go_loopw [11] (fun x wr => ∃ j : Nat, j ≤ 32 ∧ x = .int .i64 (j : Int) ∧ wr.rowIs O 5 Z (fun q => .int .u8 ((outA s l i j 1 q).v : Nat)) ∧ Sl wr C (intsI (vsI (basA s l i))) ∧ Below w3.heap.size w3 wr) (fun x _ => 32 - (intOf x).toNat)
      case atStart => exact ⟨0, by omega, rfl, hr, hsc, hb⟩
      case round =>
        clear hr hsc hb
        obtain ⟨j, hj, rfl, hr, hsc, hb⟩ := hrel
        by_cases hltj : j < 32
        · have hji : (j : Int) < 32 := by omega
          go_wp2
          go_loopw [12] (fun x wr => ∃ e : Nat, e + 1 ≤ K ∧ x = .int .i64 ((e : Int) + 1) ∧ wr.rowIs O 5 Z (fun q => .int .u8 ((outA s l i j (e + 1) q).v : Nat)) ∧ Sl wr C (intsI (vsI (basA s l i))) ∧ Below w3.heap.size w3 wr) (fun x _ => K - (intOf x).toNat)
          case atStart => exact ⟨0, by omega, rfl, hr, hsc, hb⟩
          case round =>
            clear hr hsc hb
            obtain ⟨e, he, rfl, hr, hsc, hb⟩ := hrel
            by_cases hlte : e + 1 < K
            · have hnZ := HKZ.out e j hlte hltj
              obtain ⟨b1, o1, rfl, hc1⟩ := sl_int hsc (k := e + 1) (by rw [vsI_length, HBL.out i hlti]; exact hlte)
              rw [vsI_at] at hc1
              obtain ⟨b2, o2, rfl, _, hc2⟩ := sl_sh (HS2.out.keep hb) (k := i) (by rw [HAL.out]; exact hlti)
              have hb2O : b2 < w3.heap.size := block_lt_of_sl HS2.out (by rw [shV_length, HAL.out]; omega)
              have hb1O : b1 ≠ O := hCO _ rfl
              have hz := hr.cell (i := 32 * e + j) hnZ
              rw [HOO.out i j e hltj] at hz
              have hy32 := HSZ.out i hlti
              have HTR := Lib.hid (HST.out i (e + 1) j)
              have HSE := Lib.hid (fun q => HOS.out i j e q hltj)
              have e1 : 32 * (e : Int) + (j : Int) = ((32 * e + j : Nat) : Int) := by omega
              generalize ((allS s l).getD i sh0).2 = y at *
              generalize (basA s l i).getD (e + 1) 0 = bd at *
              have hjy : j < y.size := by omega
              have hv := gOf_v y j hjy
              obtain ⟨zn, hzn⟩ : ∃ zn, sumA s l i (e + 1) j + trmA s l i (e + 1) j = zn := ⟨_, rfl⟩
              have HT : Hid (∀ V, Calls Try.prog 40 #[.int .i64 (bd.v : Nat), .int .i64 (y[j].toNat : Nat)] V fun E w' => E = .returned (.int .i64 ((trmA s l i (e + 1) j).v : Nat)) ∧ w' = V) := Lib.hid (fun V => by rw [← hv, ← HTR.out]; exact gtimes_any _ _ V)
              have HA : Hid (∀ V, Calls Try.prog 39 #[.int .i64 ((sumA s l i (e + 1) j).v : Nat), .int .i64 ((trmA s l i (e + 1) j).v : Nat)] V fun E w' => E = .returned (.int .i64 (zn.v : Nat)) ∧ w' = V) := Lib.hid (fun V => by rw [← hzn]; exact gsum_any _ _ V)
              rw [hzn] at HSE
              clear hzn hv hy32
              generalize trmA s l i (e + 1) j = tq at *
              generalize sumA s l i (e + 1) j = z at *
              have hyl : y[j].toNat < 256 := UInt8.toNat_lt _
              have wy : IntKind.i64.wrap ((y[j].toNat : Nat) : Int) = ((y[j].toNat : Nat) : Int) := IntWalk.i64_in _ (by omega)
              have hzl := z.lt
              have wz : IntKind.i64.wrap ((z.v : Nat) : Int) = ((z.v : Nat) : Int) := IntWalk.i64_in _ (by omega)
              have hznl := zn.lt
              have wzn : IntKind.u8.wrap ((zn.v : Nat) : Int) = ((zn.v : Nat) : Int) := by simp only [IntKind.wrap, IntKind.bits, IntKind.signed]; simp; omega
              have wk : IntKind.i64.wrap ((e : Int) + 1) = (e : Int) + 1 := IntWalk.i64_in _ (by omega)
              have wk0 : 0 ≤ (e : Int) + 1 := by omega
              have wkn : ((e : Int) + 1).toNat = e + 1 := by omega
              have hk2 : (e : Int) + 1 < (K : Int) := by omega
              have hnZi : ((32 * e + j : Nat) : Int) < (Z : Int) := by omega
              have hiK : (i : Int) < (K : Int) := by omega
              have hn0 : Hid (32 * e + j = 32 * e + j) := Lib.hid rfl
              generalize hnn : 32 * e + j = n at *
              have HN := Lib.hid hnn
              clear hnn hn0
              have wn : IntKind.i64.wrap ((n : Nat) : Int) = ((n : Nat) : Int) := IntWalk.i64_in _ (by omega)
              go_wp2
              refine Uptot.begin_ [23] (fun V : World => V.cell? ⟨b1, o1 + (e + 1), none⟩ = some (.int .i64 (bd.v : Nat)) ∧ V.cell? ⟨b2, o2 + i * 2 + 1, none⟩ = some (.string y)) (fun V : World => V.cell? ⟨O, n, none⟩ = some (.int .u8 (z.v : Nat))) (by kernel_rfl) ?_
              have hbV := hb.drew
              have hrV := World.rowIs.drew hr
              have hsV := hsc.keep (Below.drew0 wr)
              have hST : (wr.drew.cell? ⟨b1, o1 + (e + 1), none⟩ = some (.int .i64 (bd.v : Nat)) ∧ wr.drew.cell? ⟨b2, o2 + i * 2 + 1, none⟩ = some (.string y)) ∧ wr.drew.cell? ⟨O, n, none⟩ = some (.int .u8 (z.v : Nat)) := ⟨⟨hc1, hc2⟩, hz⟩
              clear hb hr hsc hc1 hc2 hz
              generalize wr.drew = V at *
              refine Uptot.takeS (i := 0) (v := ?_) rfl (by kernel_rfl) (by kernel_rfl) (by kernel_rfl) (by kernel_rfl) (fun _ _ _ h => h) (Or.inl ⟨by rfl, ?_⟩) hST ?_
              rotate_left 1
              · intro w9 hSw; (try dsimp only at hSw); obtain ⟨s1', s2'⟩ := hSw; go_simp; (try with_reducible rfl)
              try simp only [Act.put, List.setIfInBounds_toArray, List.set_cons_zero, List.set_cons_succ]
              refine Uptot.takeS (i := 1) (v := ?_) rfl (by kernel_rfl) (by kernel_rfl) (by kernel_rfl) (by kernel_rfl) (fun _ _ _ h => h) (Or.inl ⟨by rfl, ?_⟩) hST ?_
              rotate_left 1
              · intro w9 hSw; (try dsimp only at hSw); obtain ⟨s1', s2'⟩ := hSw; go_simp; (try with_reducible rfl)
              try simp only [Act.put, List.setIfInBounds_toArray, List.set_cons_zero, List.set_cons_succ]
              refine Uptot.takeS (i := 2) (v := ?_) rfl (by kernel_rfl) (by kernel_rfl) (by kernel_rfl) (by kernel_rfl) (fun _ _ _ h => h) (Or.inl ⟨by rfl, ?_⟩) hST ?_
              rotate_left 1
              · intro w9 hSw; (try dsimp only at hSw); obtain ⟨s1', s2'⟩ := hSw; go_simp; (try with_reducible rfl)
              try simp only [Act.put, List.setIfInBounds_toArray, List.set_cons_zero, List.set_cons_succ]
              refine Uptot.takeS (i := 3) (v := ?_) rfl (by kernel_rfl) (by kernel_rfl) (by kernel_rfl) (by kernel_rfl) (fun _ _ _ h => h) (Or.inl ⟨by rfl, ?_⟩) hST ?_
              rotate_left 1
              · intro w9 hSw; (try dsimp only at hSw); obtain ⟨s1', s2'⟩ := hSw; go_simp; (try with_reducible rfl)
              try simp only [Act.put, List.setIfInBounds_toArray, List.set_cons_zero, List.set_cons_succ]
              refine Uptot.takeS (i := 4) (v := ?_) rfl (by kernel_rfl) (by kernel_rfl) (by kernel_rfl) (by kernel_rfl) (fun _ _ _ h => h) (Or.inl ⟨by rfl, ?_⟩) hST ?_
              rotate_left 1
              · intro w9 hSw; (try dsimp only at hSw); obtain ⟨s1', s2'⟩ := hSw; go_simp; (try with_reducible rfl)
              try simp only [Act.put, List.setIfInBounds_toArray, List.set_cons_zero, List.set_cons_succ]
              refine Uptot.take (i := 5) (v := ?_) rfl (by kernel_rfl) (by kernel_rfl) (by kernel_rfl) (by kernel_rfl) (fun _ _ _ h => h) (Or.inl ⟨by rfl, ?_⟩) hST ?_
              rotate_left 1
              · intro w9 hSw; (try dsimp only at hSw); obtain ⟨⟨s1', s2'⟩, s3'⟩ := hSw; go_simp; (try with_reducible rfl)
              try simp only [Act.put, List.setIfInBounds_toArray, List.set_cons_zero, List.set_cons_succ]
              refine Uptot.takeS (i := 6) (v := ?_) rfl (by kernel_rfl) (by kernel_rfl) (by kernel_rfl) (by kernel_rfl) (fun _ _ _ h => h) (Or.inl ⟨by rfl, ?_⟩) hST ?_
              rotate_left 1
              · intro w9 hSw; (try dsimp only at hSw); obtain ⟨s1', s2'⟩ := hSw; go_simp; (try with_reducible rfl)
              try simp only [Act.put, List.setIfInBounds_toArray, List.set_cons_zero, List.set_cons_succ]
              refine Uptot.takeS (i := 7) (v := ?_) rfl (by kernel_rfl) (by kernel_rfl) (by kernel_rfl) (by kernel_rfl) (fun _ _ _ h => h) (Or.inl ⟨by rfl, ?_⟩) hST ?_
              rotate_left 1
              · intro w9 hSw; (try dsimp only at hSw); obtain ⟨s1', s2'⟩ := hSw; go_simp; (try with_reducible rfl)
              try simp only [Act.put, List.setIfInBounds_toArray, List.set_cons_zero, List.set_cons_succ]
              refine Uptot.takeS (i := 8) (v := ?_) rfl (by kernel_rfl) (by kernel_rfl) (by kernel_rfl) (by kernel_rfl) (fun _ _ _ h => h) (Or.inl ⟨by rfl, ?_⟩) hST ?_
              rotate_left 1
              · intro w9 hSw; (try dsimp only at hSw); obtain ⟨s1', s2'⟩ := hSw; go_simp; (try with_reducible rfl)
              try simp only [Act.put, List.setIfInBounds_toArray, List.set_cons_zero, List.set_cons_succ]
              refine Uptot.takeS (i := 9) (v := ?_) rfl (by kernel_rfl) (by kernel_rfl) (by kernel_rfl) (by kernel_rfl) (fun _ _ _ h => h) (Or.inl ⟨by rfl, ?_⟩) hST ?_
              rotate_left 1
              · intro w9 hSw; (try dsimp only at hSw); obtain ⟨s1', s2'⟩ := hSw; go_simp; (try with_reducible rfl)
              try simp only [Act.put, List.setIfInBounds_toArray, List.set_cons_zero, List.set_cons_succ]
              refine Uptot.takeS (i := 10) (v := ?_) rfl (by kernel_rfl) (by kernel_rfl) (by kernel_rfl) (by kernel_rfl) (fun _ _ _ h => h) (Or.inl ⟨by rfl, ?_⟩) hST ?_
              rotate_left 1
              · intro w9 hSw; (try dsimp only at hSw); obtain ⟨s1', s2'⟩ := hSw; go_simp; (try with_reducible rfl)
              try simp only [Act.put, List.setIfInBounds_toArray, List.set_cons_zero, List.set_cons_succ]
              refine Uptot.takeS (i := 11) (v := ?_) rfl (by kernel_rfl) (by kernel_rfl) (by kernel_rfl) (by kernel_rfl) (fun _ _ _ h => h) (Or.inl ⟨by rfl, ?_⟩) hST ?_
              rotate_left 1
              · intro w9 hSw; (try dsimp only at hSw); obtain ⟨s1', s2'⟩ := hSw; go_simp; (try with_reducible rfl)
              try simp only [Act.put, List.setIfInBounds_toArray, List.set_cons_zero, List.set_cons_succ]
              refine Uptot.takeS (i := 12) (v := ?_) rfl (by kernel_rfl) (by kernel_rfl) (by kernel_rfl) (by kernel_rfl) (fun _ _ _ h => h) (Or.inl ⟨by rfl, ?_⟩) hST ?_
              rotate_left 1
              · intro w9 hSw; (try dsimp only at hSw); obtain ⟨s1', s2'⟩ := hSw; go_simp; (try with_reducible rfl)
              try simp only [Act.put, List.setIfInBounds_toArray, List.set_cons_zero, List.set_cons_succ]
              refine Uptot.takeS (i := 13) (v := ?_) rfl (by kernel_rfl) (by kernel_rfl) (by kernel_rfl) (by kernel_rfl) (fun _ _ _ h => h) (Or.inl ⟨by rfl, ?_⟩) hST ?_
              rotate_left 1
              · intro w9 hSw; (try dsimp only at hSw); obtain ⟨s1', s2'⟩ := hSw; go_simp; (try with_reducible rfl)
              try simp only [Act.put, List.setIfInBounds_toArray, List.set_cons_zero, List.set_cons_succ]
              refine Uptot.takeS (i := 14) (v := ?_) rfl (by kernel_rfl) (by kernel_rfl) (by kernel_rfl) (by kernel_rfl) (fun _ _ _ h => h) (Or.inl ⟨by rfl, ?_⟩) hST ?_
              rotate_left 1
              · intro w9 hSw; (try dsimp only at hSw); obtain ⟨s1', s2'⟩ := hSw; go_simp; (try with_reducible rfl)
              try simp only [Act.put, List.setIfInBounds_toArray, List.set_cons_zero, List.set_cons_succ]
              refine Uptot.takeS (i := 15) (v := ?_) rfl (by kernel_rfl) (by kernel_rfl) (by kernel_rfl) (by kernel_rfl) (fun _ _ _ h => h) (Or.inl ⟨by rfl, ?_⟩) hST ?_
              rotate_left 1
              · intro w9 hSw; (try dsimp only at hSw); obtain ⟨s1', s2'⟩ := hSw; go_simp; (try with_reducible rfl)
              try simp only [Act.put, List.setIfInBounds_toArray, List.set_cons_zero, List.set_cons_succ]
              refine Uptot.takeS (i := 16) (v := ?_) rfl (by kernel_rfl) (by kernel_rfl) (by kernel_rfl) (by kernel_rfl) (fun _ _ _ h => h) (Or.inl ⟨by rfl, ?_⟩) hST ?_
              rotate_left 1
              · intro w9 hSw; (try dsimp only at hSw); obtain ⟨s1', s2'⟩ := hSw; go_simp; (try with_reducible rfl)
              try simp only [Act.put, List.setIfInBounds_toArray, List.set_cons_zero, List.set_cons_succ]
              refine Uptot.takeS (i := 17) (v := ?_) rfl (by kernel_rfl) (by kernel_rfl) (by kernel_rfl) (by kernel_rfl) (fun _ _ _ h => h) (Or.inl ⟨by rfl, ?_⟩) hST ?_
              rotate_left 1
              · intro w9 hSw; (try dsimp only at hSw); obtain ⟨s1', s2'⟩ := hSw; go_simp; (try with_reducible rfl)
              try simp only [Act.put, List.setIfInBounds_toArray, List.set_cons_zero, List.set_cons_succ]
              refine Uptot.takeS (i := 18) (v := ?_) rfl (by kernel_rfl) (by kernel_rfl) (by kernel_rfl) (by kernel_rfl) (fun _ _ _ h => h) (Or.inl ⟨by rfl, ?_⟩) hST ?_
              rotate_left 1
              · intro w9 hSw; (try dsimp only at hSw); obtain ⟨s1', s2'⟩ := hSw; go_simp; (try with_reducible rfl)
              try simp only [Act.put, List.setIfInBounds_toArray, List.set_cons_zero, List.set_cons_succ]
              refine Uptot.one (i := 19) rfl (by kernel_rfl) (fun K9 hK9 => ?_)
              go_simp
              go_at_call 40
              refine (HT.out _).mono ?_
              rintro e' V9 ⟨rfl, rfl⟩
              refine hK9.out _ _ (Cond.ahead hST) ?_
              clear hK9 K9
              try simp only [Act.put, List.setIfInBounds_toArray, List.set_cons_zero, List.set_cons_succ]
              refine Uptot.one (i := 20) rfl (by kernel_rfl) (fun K9 hK9 => ?_)
              go_simp
              go_at_call 39
              refine (HA.out _).mono ?_
              rintro e' V9 ⟨rfl, rfl⟩
              refine hK9.out _ _ (Cond.ahead hST) ?_
              clear hK9 K9
              try simp only [Act.put, List.setIfInBounds_toArray, List.set_cons_zero, List.set_cons_succ]
              refine Uptot.one (i := 21) rfl (by kernel_rfl) (fun K9 hK9 => ?_)
              go_simp
              refine hK9.out _ _ (Cond.ahead hST) ?_
              clear hK9 K9
              try simp only [Act.put, List.setIfInBounds_toArray, List.set_cons_zero, List.set_cons_succ]
              refine Uptot.one (i := 22) rfl (by kernel_rfl) (fun K9 hK9 => ?_)
              go_simp
              refine hK9.out _ _ (Cond.ahead hST) ?_
              clear hK9 K9
              try simp only [Act.put, List.setIfInBounds_toArray, List.set_cons_zero, List.set_cons_succ]
              refine Uptot.one (i := 23) rfl (by kernel_rfl) (fun K9 hK9 => ?_)
              have hzc := hST.2
              have hfz := hrV.frozen n
              go_simp
              have hS2 : (V9.setCell ⟨O, n, none⟩ (.int .u8 (zn.v : Nat))).cell? ⟨b1, o1 + (e + 1), none⟩ = some (.int .i64 (bd.v : Nat)) ∧ (V9.setCell ⟨O, n, none⟩ (.int .u8 (zn.v : Nat))).cell? ⟨b2, o2 + i * 2 + 1, none⟩ = some (.string y) := ⟨(World.cell?_setCell_other _ _ _ _ (by intro e; have := congrArg Addr.block e; dsimp only at this; omega)).trans hST.1.1, (World.cell?_setCell_other _ _ _ _ (by intro e; have := congrArg Addr.block e; dsimp only at this; omega)).trans hST.1.2⟩
              replace hrV := (hrV.set n (.int .u8 (zn.v : Nat))).congr fun q _ => (by rw [← HSE.out q]; split <;> rfl : _ = Value.int .u8 ((outA s l i j (e + 2) q).v : Nat))
              replace hbV := hbV.setCell (p := ⟨O, n, none⟩) (by exact hO) (.int .u8 (zn.v : Nat))
              replace hsV := hsV.setA hCO n (.int .u8 (zn.v : Nat))
              refine hK9.out _ _ (Cond.behind hS2 (by kernel_rfl)) ?_
              clear hK9 K9 hST hzc hfz hS2
              try simp only [Act.put]
              refine Uptot.done (by kernel_rfl) ?_ _
              generalize World.setCell _ _ _ = W5 at *
              go_wp2
              go_roundw
              case rel => exact ⟨e + 1, by omega, by go_num, hrV, hsV, hbV⟩
              case measure => simp [intOf]; omega
            · have heK : e + 1 = K := by omega
              have hnk : ¬ ((e : Int) + 1 < (K : Int)) := by omega
              rw [heK] at hr
              replace hr := hr.congr (g := fun q => .int .u8 ((outA s l i (j + 1) 1 q).v : Nat)) (fun q hq => by rw [HON.out i j q hq])
              clear heK
              go_wp2
              go_roundw
              case rel => exact ⟨j + 1, by omega, by go_num, hr, hsc, hb⟩
              case measure => simp [intOf]; omega
        · have hj32 : j = 32 := by omega
          rw [hj32] at hr
          replace hr := hr.congr (g := fun q => .int .u8 ((outA s l (i + 1) 0 1 q).v : Nat)) (fun q _ => by rw [HOR.out i q])
          clear hj32
          go_wp2
          go_roundw
          case rel => exact ⟨i + 1, by omega, by go_num, hr, hb⟩
          case measure => simp [intOf]; omega
    · have hiK : i = K := by omega
      rw [hiK] at hr
      have hcv := HCV.out _ _ hr
      have hb6 := hb2.next' hb
      clear hiK
      go_wp2
      go_ret2
      exact ⟨rfl, hb6⟩
end Go.Proofs.Ytljckcegcfidoaa

/-
  keyholelaw09.ShareCombines: the walk.
-/
namespace Go.Proofs.Ytljckcegcfidoaa
open Go.RowKit Go.Kx
set_option maxRecDepth 20000

theorem own_slice {w : World} {base : Nat} {e : TypeId} {v : Value} {n size : Nat} {xs : List Value} (h : w.ownsRow base e size v n xs) : ∃ A c, v = .slice A n c ∧ Sl w A xs := by
  obtain ⟨A, c, h1, h2, _⟩ := own_slf h
  exact ⟨A, c, h1, h2⟩
/-- What both tell of a tape. -/
theorem tapes (s : ByteArray) (l : List Sh) (hl : l.length ≤ 1000) : ∃ r : ByteArray × Int, (∀ V A c, Sl V A (shV l) → Calls Try.prog 19 #[.string s, .slice A l.length c] V fun e w' => e = strE r ∧ Below V.heap.size V w') ∧
    ∀ V A c, Sl V A (shV l) → Calls Try.prog 20 #[.string s, .slice A l.length c] V fun e w' => e = strE r ∧ Below V.heap.size V w' := by
  by_cases h : okTp s l
  · have hq := thru_polA h.1 h.2.1 h.2.2.1 (by have := (rightB_of h.2.1).2.1; have := h.2.2.2; omega)
    exact ⟨_, fun V A c hs => tape_yes s l A c _ h hq V hs, fun V A c hs => rtape_yes s l A c h V hs⟩
  · exact ⟨_, fun V A c hs => tape_no s l A c (by omega) h V hs, fun V A c hs => rtape_no s l A c (by omega) h V hs⟩
set_option maxHeartbeats 4000000 in
theorem combines_yes (l : List Sh) (x : Int) (s : ByteArray) (A : Option Addr) (c : Nat) (hl : l.length ≤ 9223372036854775807) (w : World) (hs : Sl w A (shV l)) :
    Calls Try.prog 4 #[.slice A l.length c, .int .i64 x, .string s] w fun e w' => e = .returned (.bool true) ∧ Below w.heap.size w w' := by
  have HBG := Lib.hid (big_any l A c hl w hs)
  cases hbig : bigB l with
  | true =>
    rw [hbig] at HBG
    clear hbig
    go_enter Try.func4, Try.ntmps4
    go_wp2_with fail
    refine HBG.out.mono ?_
    rintro e w1 ⟨rfl, rfl⟩
    go_wp2
    go_ret
    exact ⟨rfl, Below.refl _ _⟩
  | false =>
    rw [hbig] at HBG
    obtain ⟨g1, g2, _⟩ := bigB_no hbig
    clear hbig
    by_cases h1 : (100 : Int) < (s.size : Int)
    · go_enter Try.func4, Try.ntmps4
      go_wp2_with fail
      refine HBG.out.mono ?_
      rintro e w1 ⟨rfl, rfl⟩
      go_wp2
      go_ret
      exact ⟨rfl, Below.refl _ _⟩
    have HOW := Lib.hid (fun V h => own_any l A c (by omega) V h)
    have HC1 := Lib.hid (fun V A c h => combine_any l A c hl V h)
    have HC2 := Lib.hid (fun V A c h => rcombine_any l A c (by omega) V h)
    have HA1 := Lib.hid (fun V A c h => at_any l x A c hl V h)
    have HA2 := Lib.hid (fun V A c h => rat_any l x A c (by omega) V h)
    obtain ⟨⟨rt, tt⟩, HT1', HT2'⟩ := tapes s l (by omega)
    have HT1 := Lib.hid HT1'
    have HT2 := Lib.hid HT2'
    have HSM := Lib.hid (fun V A B c d h1 h2 => same_yes l A B c d hl V h1 h2)
    obtain ⟨⟨rc, tc⟩, hrc⟩ : ∃ r, combA l = r := ⟨_, rfl⟩
    obtain ⟨⟨ra, ta⟩, hra⟩ : ∃ r, atA l x = r := ⟨_, rfl⟩
    rw [hrc] at HC1 HC2
    rw [hra] at HA1 HA2
    clear hrc hra HT1' HT2'
    unfold strE at HC1 HC2 HA1 HA2 HT1 HT2
    go_enter Try.func4, Try.ntmps4
    go_wp2_with fail
    refine HBG.out.mono ?_
    rintro e w ⟨rfl, rfl⟩
    go_wp2_with fail
    refine (HOW.out _ hs).mono ?_
    rintro e w1 ⟨⟨v, rfl, hown⟩, hb⟩
    obtain ⟨A2, c2, rfl, hs2⟩ := own_slice hown
    replace hs := hs.keep hb
    clear hown
    go_wp2_with fail
    refine (HC1.out _ _ _ hs).mono ?_
    rintro e w2 ⟨rfl, hb9⟩
    replace hs := hs.keep hb9
    replace hs2 := hs2.keep hb9
    replace hb := hb.next' hb9
    clear hb9
    go_wp2_with fail
    refine (HC2.out _ _ _ hs2).mono ?_
    rintro e w3 ⟨rfl, hb9⟩
    replace hs := hs.keep hb9
    replace hs2 := hs2.keep hb9
    replace hb := hb.next' hb9
    clear hb9
    go_wp2_with fail
    refine (HA1.out _ _ _ hs).mono ?_
    rintro e w4 ⟨rfl, hb9⟩
    replace hs := hs.keep hb9
    replace hs2 := hs2.keep hb9
    replace hb := hb.next' hb9
    clear hb9
    go_wp2_with fail
    refine (HA2.out _ _ _ hs2).mono ?_
    rintro e w5 ⟨rfl, hb9⟩
    replace hs := hs.keep hb9
    replace hs2 := hs2.keep hb9
    replace hb := hb.next' hb9
    clear hb9
    go_wp2_with fail
    refine (HT1.out _ _ _ hs).mono ?_
    rintro e w6 ⟨rfl, hb9⟩
    replace hs := hs.keep hb9
    replace hs2 := hs2.keep hb9
    replace hb := hb.next' hb9
    clear hb9
    go_wp2_with fail
    refine (HT2.out _ _ _ hs2).mono ?_
    rintro e w7 ⟨rfl, hb9⟩
    replace hs := hs.keep hb9
    replace hs2 := hs2.keep hb9
    replace hb := hb.next' hb9
    clear hb9
    go_wp2_with fail
    refine (shares_any _).mono ?_
    rintro e w8 ⟨rfl, hb9⟩
    replace hs := hs.keep hb9
    replace hs2 := hs2.keep hb9
    replace hb := hb.next' hb9
    clear hb9
    go_wp2_with fail
    refine (HSM.out _ _ _ _ _ hs hs2).mono ?_
    rintro e w10 ⟨rfl, hb9⟩
    go_wp2
    go_ret
    exact ⟨rfl, hb.next' hb9⟩
end Go.Proofs.Ytljckcegcfidoaa

/-
  The last step of a law's row, over any program, any number and any types of arguments: the law told true, and below the heap's old size nothing has turned.
-/
namespace Go.Kx
open Go.RowKit Go.ChangeShapes

section
variable {H : Type} {enc : TypeId × Value → H} {P : Program}
theorem trod_again (hl : laidOutB P = true) {W W' : World} (hb : Below W.heap.size W W') : ∀ {ts : List TypeId} {vs : List Value} {ds : List (DataW H)} {ps : List MemPlace},
    (∀ t ∈ ts, P.readableRec t = true ∧ t < P.types.size) → DataW.TrodAll enc P W 0 (fun _ => true) true ts vs ds ps → (∀ x ∈ ps, x.block < W.heap.size) →
    DataW.TrodAll enc P W' 0 (fun b => decide (b < W.heap.size)) true ts vs ds ps := by
  intro ts
  induction ts with
  | nil =>
    intro vs ds ps _ h _
    obtain ⟨rfl, rfl, rfl⟩ := trodAll_nil h
    exact trodAll_mk0
  | cons t ts ih =>
    intro vs ds ps ht h hlt
    obtain ⟨v, vs', d, ds', p, q, rfl, rfl, rfl, h0, h1⟩ := trodAll_cons h
    have hlt0 : ∀ x ∈ p, x.block < W.heap.size := fun x hx => hlt x (List.mem_append_left _ hx)
    have hlt1 : ∀ x ∈ q, x.block < W.heap.size := fun x hx => hlt x (List.mem_append_right _ hx)
    have ht0 := ht t List.mem_cons_self
    exact trodAll_cons_mk (Below.trod hl ht0.1 ht0.2 h0 hb hlt0) (ih (fun t' h' => ht t' (List.mem_cons_of_mem _ h')) h1 hlt1)

/-- A law's row: it told true; what came in reads as it did. -/
theorem law_post {s : ChangeSpec} {f : Func} {apart handsOn : Bool} {W W' : World} {args : Array Value} {ds gs : List (DataW H)} {before : List MemPlace} {B : TypeId}
    (hl : laidOutB P = true) (hts : f.params.toList.all (fun t => P.readableRec t && decide (t < P.types.size)) = true) (hrt : f.resultTypes = #[B]) (hB : P.underlying B = some .bool) (hvars : s.vars = [])
    (hW : DataW.Whole enc P f.params.toList s.vars apart W args.toList ds gs before)
    (hr : (s.fn H (ds ++ gs)).results = [.lit (.bool true)]) (ha : (s.fn H (ds ++ gs)).args = ds) (hv : (s.fn H (ds ++ gs)).vars = []) (hb : Below W.heap.size W W') :
    s.post enc P f apart true handsOn false W args (.bool true) W' := by
  have hlt : ∀ x ∈ before, x.block < W.heap.size := fun x hx => hW.lt x hx
  have hW0 := hW
  obtain ⟨p, q, hA, hV, rfl, _, _⟩ := hW
  rw [hvars] at hV
  obtain ⟨rfl, rfl⟩ := trodVars_none hV
  have hts' : ∀ t ∈ f.params.toList, P.readableRec t = true ∧ t < P.types.size := by
    intro t ht
    have := List.all_eq_true.1 hts t ht
    simpa using this
  have hnew := trod_again hl hb hts' hA (fun x hx => hlt x (List.mem_append_left _ hx))
  refine ⟨ds, [], _, [], p, [], hW0, ?_, by rw [ha]; exact hnew, by rw [hvars, hv]; rfl, hb.frame _ |> World.keptBut_mono (fun x hx => ⟨hx, Or.inr (Or.inl (by simpa using hx))⟩), fun h => by cases h⟩
  rw [hr, hrt]
  exact trodAll_cons_mk (p' := []) (shut_bool hB true) trodAll_mk0
end
end Go.Kx

/-
  keyholelaw09.chosen: the contract.
-/
namespace Go.Proofs.Ytljckcegcfidoaa
open Go.RowKit Go.Kx
set_option maxRecDepth 20000

def boolV (m : List Bool) : List Value := m.map Value.bool
theorem boolV_length (m : List Bool) : (boolV m).length = m.length := by simp [boolV]
theorem sl_bool {w : World} {A : Option Addr} {m : List Bool} (h : Sl w A (boolV m)) {k : Nat} (hk : k < m.length) : ∃ b off, A = some ⟨b, off, none⟩ ∧ w.cell? ⟨b, off + k, none⟩ = some (.bool (m.getD k false)) := by
  obtain ⟨b, off, u, rfl, hu, hc⟩ := h.at_ (k := k) (by rw [boolV_length]; exact hk)
  refine ⟨b, off, rfl, ?_⟩
  rw [hc, ← hu]
  simp [boolV, List.getD, List.getElem?_eq_getElem hk]
set_option maxHeartbeats 2000000 in
theorem chosen_any (l : List Sh) (m : List Bool) (A B : Option Addr) (c d : Nat) (hl : l.length ≤ 1000) (hm : m.length ≤ 1000) (w : World) (hs : Sl w A (shV l)) (hs2 : Sl w B (boolV m)) :
    Calls Try.prog 21 #[.slice A l.length c, .slice B m.length d] w fun e w' => (∃ C cc, e = .returned (.slice C (chL l m).length cc) ∧ Sl w' C (shV (chL l m))) ∧ Below w.heap.size w w' := by
  obtain ⟨i1, hI1, hy0, hy1, hy2⟩ := info_parts shares_info
  go_enter Try.func21, Try.ntmps21
  go_wp2
  go_loopw [5, 6] (fun v i wr => ∃ k : Nat, k ≤ l.length ∧ k ≤ m.length ∧ i = .int .i64 (k : Int) ∧ wr.ownsRow w.heap.size 39 2 v (chL (l.take k) (m.take k)).length (shV (chL (l.take k) (m.take k))) ∧ Below w.heap.size w wr) (fun _ i _ => l.length - (intOf i).toNat)
  case atStart => exact ⟨0, by omega, by omega, rfl, World.ownsRow_nil _ _ _ _, Below.refl _ _⟩
  case round =>
    obtain ⟨k, hk, hkm, rfl, hown, hb⟩ := hrel
    by_cases hlt : k < l.length
    · by_cases hlm : k < m.length
      · obtain ⟨b, off, rfl, hx, hy⟩ := sl_sh (hs.keep hb) hlt
        obtain ⟨b2, off2, rfl, hc⟩ := sl_bool (hs2.keep hb) hlm
        have HC := Lib.hid (chL_snoc l m k hlt hlm)
        have HLEN : (chL (l.take k) (m.take k)).length ≤ 1000 := by
          have := (chL_sub (l.take k) (m.take k)).length_le
          rw [List.length_take] at this
          omega
        cases hq : m.getD k false with
        | false =>
          rw [hq] at hc
          have HE : Hid (chL (l.take (k + 1)) (m.take (k + 1)) = chL (l.take k) (m.take k)) := Lib.hid (by rw [HC.out, hq]; rfl)
          clear hq
          go_wp2
          go_roundw
          case rel => exact ⟨k + 1, by omega, by omega, by go_num, by rw [HE.out]; exact hown, hb⟩
          case measure => simp [intOf]; omega
        | true =>
          rw [hq] at hc
          have HE : Hid (chL (l.take (k + 1)) (m.take (k + 1)) = chL (l.take k) (m.take k) ++ [l.getD k sh0]) := Lib.hid (by rw [HC.out, hq]; rfl)
          obtain ⟨⟨x, y⟩, hxy⟩ : ∃ s, l.getD k sh0 = s := ⟨_, rfl⟩
          rw [hxy] at HE hx hy
          dsimp only at hx hy
          clear hq hxy
          generalize chL (l.take k) (m.take k) = L at *
          have HF : Hid (shV L ++ [.int .i64 x, .string y] = shV (chL (l.take (k + 1)) (m.take (k + 1))) ∧ (chL (l.take (k + 1)) (m.take (k + 1))).length = L.length + 1) := Lib.hid ⟨by rw [HE.out, shV_append]; rfl, by rw [HE.out]; simp⟩
          have hsz := hb.size
          go_wp2_with (first
            | (at_builtin; refine wpList_append_own _ rfl _ _ 22 rfl w.heap.size 39 i1 (.agg #[.int .i64 0, .string ⟨#[]⟩]) 2 24 Try.underlying22 hI1 hy0 hy1 hy2 rfl (by decide) _ _ _ rfl (hown.alloc _) ⟨wr.heap.size, 0, none⟩ 1 1 [.int .i64 x, .string y] rfl rfl ?c1 ?c2 ?c3 ?c4 ?c5 ?_)
            | go_in)
          case c1 =>
            intro j u hj
            match j, hj with
            | 0, hj => simp at hj; subst hj; simp [Addr.add]
            | 1, hj => simp at hj; subst hj; simp [Addr.add]
          case c2 =>
            intro u hu
            simp at hu
            rcases hu with rfl | rfl <;> rfl
          case c3 => unfold maxLen; omega
          case c4 => omega
          case c5 => simp; omega
          · intro v' w3 hown' hgrow _
            have hb1 := own_below (hown.alloc _) (hb.al _) hgrow
            rw [HF.out.1, ← HF.out.2] at hown'
            clear hown hgrow hb
            go_wp2
            go_roundw
            case rel => exact ⟨k + 1, by omega, by omega, by go_num, hown', hb1⟩
            case measure => simp [intOf]; omega
      · have HE := Lib.hid (chL_all l m k (.inr (by omega)))
        rw [HE.out] at hown
        obtain ⟨C, cc, rfl, hs3, _⟩ := own_slf hown
        go_wp2
        go_ret
        exact ⟨⟨C, cc, rfl, hs3⟩, hb⟩
    · have HE := Lib.hid (chL_all l m k (.inl (by omega)))
      rw [HE.out] at hown
      obtain ⟨C, cc, rfl, hs3, _⟩ := own_slf hown
      go_wp2
      go_ret
      exact ⟨⟨C, cc, rfl, hs3⟩, hb⟩
end Go.Proofs.Ytljckcegcfidoaa
