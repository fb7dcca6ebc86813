/-
  Merged by program: Words, Rowa, Gfm, Info, Fld1, Fld2, Intl, Ply1, Plm, Ply2, Shm, Cells, Fld5, Shr1, Ownr, Shl, Iset.
-/
import Derived.WalkKit
import Derived.Lib.Hide
import Derived.Laws.OwnMore
import Derived.Deep.OwnRows
import Derived.Laws.Rows
import Derived.Laws.Tables
import Derived.Deep.Draws
import Derived.Laws.BitsAllLaws
import Derived.Laws.BitsLemmas
import Derived.Test.YtljckcegcfidoaaChecked
import Derived.BigQuiet
import Derived.Laws.IdiomStrings
import Derived.Lib.BufferWrite
import Derived.Deep.AppendLies
import Derived.Deep.RegionLaw
import Derived.Maps.OwnSet

/-
  Words of my own, over any program: slices that read as lists, what a call's own memory is, results, bits.
-/
namespace Go.Kx
open Go.RowKit

/-! ### results -/
theorem ret_bool {a b : Bool} (h : a = b) : Ending.returned (.bool a) = .returned (.bool b) := by rw [h]
theorem ret_int {k : IntKind} {a b : Int} (h : a = b) : Ending.returned (.int k a) = .returned (.int k b) := by rw [h]
theorem ret_int_bool {k : IntKind} {a b : Int} {c d : Bool} (h : a = b) (h' : c = d) : Ending.returned (.tuple #[.int k a, .bool c]) = .returned (.tuple #[.int k b, .bool d]) := by rw [h, h']
theorem ret_str {a b : List UInt8} (h : a = b) : Ending.returned (.string ⟨a.toArray⟩) = .returned (.string ⟨b.toArray⟩) := by rw [h]

/-! ### a slice that reads as a list of one-cell values -/
def Sl (w : World) (A : Option Addr) (vs : List Value) : Prop :=
  vs = [] ∨ ∃ b off, A = some ⟨b, off, none⟩ ∧ b < w.heap.size ∧ ∀ j u, vs[j]? = some u → w.cell? ⟨b, off + j, none⟩ = some u
theorem Sl.nil (w : World) (A : Option Addr) : Sl w A [] := .inl rfl
theorem Sl.at_ {w : World} {A : Option Addr} {vs : List Value} (h : Sl w A vs) {k : Nat} (hk : k < vs.length) :
    ∃ b off u, A = some ⟨b, off, none⟩ ∧ vs[k]? = some u ∧ w.cell? ⟨b, off + k, none⟩ = some u := by
  rcases h with rfl | ⟨b, off, e, _, hc⟩
  · simp at hk
  · exact ⟨b, off, vs[k], e, List.getElem?_eq_getElem hk, hc k _ (List.getElem?_eq_getElem hk)⟩
theorem Sl.keep {w w' : World} {A : Option Addr} {vs : List Value} (h : Sl w A vs) (hb : Below w.heap.size w w') : Sl w' A vs := by
  rcases h with rfl | ⟨b, off, e, hl, hc⟩
  · exact .inl rfl
  · exact .inr ⟨b, off, e, Nat.lt_of_lt_of_le hl hb.size, fun j u hu => (hb.cell (p := ⟨b, off + j, none⟩) hl).trans (hc j u hu)⟩
theorem Sl.set {w : World} {b off : Nat} {vs : List Value} (h : Sl w (some ⟨b, off, none⟩) vs) {a : Addr} (hne : b ≠ a.block) (v : Value) : Sl (w.setCell a v) (some ⟨b, off, none⟩) vs := by
  rcases h with rfl | ⟨b', off', e, hl, hc⟩
  · exact .inl rfl
  · obtain ⟨rfl, rfl⟩ : b = b' ∧ off = off' := by simpa using e
    refine .inr ⟨b, off, rfl, by simpa using hl, fun j u hu => ?_⟩
    rw [World.cell?_setCell_other _ _ _ _ (by rintro rfl; exact hne rfl)]
    exact hc j u hu
theorem Sl.new (w : World) (t : TypeId) (cs : Array Value) : Sl (w.alloc (.cells cs t)) (some ⟨w.heap.size, 0, none⟩) cs.toList := by
  refine .inr ⟨_, 0, rfl, by simp, fun j u hu => ?_⟩
  rw [Nat.zero_add]
  have h := cell_of_row (w.alloc (.cells cs t)) w.heap.size j cs t (0, 0) (heap_alloc_new w _)
  rw [h]
  simpa using hu

theorem Sl.new' {w : World} {t : TypeId} {cs : Array Value} {n : Nat} {vs : List Value} (hn : n = w.heap.size) (hv : cs.toList = vs := by rfl) : Sl (w.alloc (.cells cs t)) (some ⟨n, 0, none⟩) vs := by
  subst hn; subst hv; exact Sl.new w t cs

/-! ### the call's own memory -/
theorem Below.alloc0 (w : World) (o : Obj) : Below w.heap.size w (w.alloc o) := (Below.refl _ _).alloc (Nat.le_refl _) o
theorem Below.drewN0 (w : World) (n : Nat) : Below w.heap.size w (w.drewN n) := ⟨rfl, rfl, rfl, Nat.le_refl _, fun _ _ => rfl⟩
theorem _root_.Go.RowKit.Below.next {w w1 w2 : World} (h : Below w.heap.size w w1) (k : Below w1.heap.size w1 w2) : Below w.heap.size w w2 := h.trans (k.mono h.size)
theorem _root_.Go.RowKit.Below.next' {B : Nat} {w w1 w2 : World} (h : Below B w w1) (k : Below w1.heap.size w1 w2) (hB : B ≤ w.heap.size := by first | exact Nat.le_refl _ | omega) : Below B w w2 := h.trans (k.mono (Nat.le_trans hB h.size))

/-! ### &, |, ^ of two ints that are not below 0 -/
theorem bv64 (n : Nat) : BitVec.ofInt 64 (n : Int) = BitVec.ofNat 64 n := BitVec.ofInt_natCast _ _
theorem wrapNat {n : Nat} (h : n < 2 ^ 63) : IntKind.i64.wrap (n : Int) = (n : Int) := IntWalk.i64_in _ (by omega)
section
variable {a b : Nat} (ha : a < 2 ^ 63) (hb : b < 2 ^ 63)
include ha hb
theorem int_and : bits .and .i64 (a : Int) (b : Int) = ((a &&& b : Nat) : Int) := by
  have e : (BitVec.ofInt 64 (a : Int) &&& BitVec.ofInt 64 (b : Int)).toNat = a &&& b := by
    simp only [bv64, BitVec.toNat_and, BitVec.toNat_ofNat, Nat.mod_eq_of_lt (show a < 2 ^ 64 by omega), Nat.mod_eq_of_lt (show b < 2 ^ 64 by omega)]
  exact (congrArg (fun n : Nat => IntKind.i64.wrap (n : Int)) e).trans (wrapNat (Nat.and_lt_two_pow a hb))
theorem int_or : bits .or .i64 (a : Int) (b : Int) = ((a ||| b : Nat) : Int) := by
  have e : (BitVec.ofInt 64 (a : Int) ||| BitVec.ofInt 64 (b : Int)).toNat = a ||| b := by
    simp only [bv64, BitVec.toNat_or, BitVec.toNat_ofNat, Nat.mod_eq_of_lt (show a < 2 ^ 64 by omega), Nat.mod_eq_of_lt (show b < 2 ^ 64 by omega)]
  exact (congrArg (fun n : Nat => IntKind.i64.wrap (n : Int)) e).trans (wrapNat (Nat.or_lt_two_pow ha hb))
theorem int_xor : bits .xor .i64 (a : Int) (b : Int) = ((a ^^^ b : Nat) : Int) := by
  have e : (BitVec.ofInt 64 (a : Int) ^^^ BitVec.ofInt 64 (b : Int)).toNat = a ^^^ b := by
    simp only [bv64, BitVec.toNat_xor, BitVec.toNat_ofNat, Nat.mod_eq_of_lt (show a < 2 ^ 64 by omega), Nat.mod_eq_of_lt (show b < 2 ^ 64 by omega)]
  exact (congrArg (fun n : Nat => IntKind.i64.wrap (n : Int)) e).trans (wrapNat (Nat.xor_lt_two_pow ha hb))
end
/-! ### strings -/
theorem size_mk (l : List UInt8) : (ByteArray.mk l.toArray).size = l.length := by show l.toArray.size = _; simp
theorem mk_append (x y : List UInt8) : ByteArray.mk x.toArray ++ ByteArray.mk y.toArray = ByteArray.mk (x ++ y).toArray := by
  apply ByteArray.ext
  simp
theorem str_add {P : Program} (x y : List UInt8) (h : x.length + y.length ≤ 9223372036854775807) (W : World) : (Op.stringOp .add ⟨x.toArray⟩ ⟨y.toArray⟩).run P W = .ok (.string ⟨(x ++ y).toArray⟩) W := by
  rw [run_string_add_sum W _ _ (by rw [size_mk, size_mk]; exact h), mk_append]
/-! ### whole rows -/
theorem run_index_ints {P : Program} {t e : TypeId} {n : Nat} {cs : Array Value} {k k' : IntKind} {i : Nat} {v : Value} (h : P.underlying t = some (.array n e)) (hs : (P.info? e).map (·.size) = some 1) (he : P.underlying e = some (.int k'))
    (hi : i < n) (hv : cs[i]? = some v) (w : World) : (Instr.index t (.agg cs) (.int k (i : Int))).run P w = .ok v w := by
  have h1 : 0 ≤ (i : Int) ∧ (i : Int) < (n : Int) := by omega
  have ha : (isAgg e).run P w = .ok false w := by unfold isAgg; rw [Sem.run_bind, run_underlying he w]; rfl
  cases hq : P.info? e with
  | none => simp [hq] at hs
  | some j =>
    have h2 : j.size = 1 := by simpa [hq] using hs
    simp [Instr.index, asIntOf, run_underlying h, h1, hi, sizeOf, typeInfo, hq, h2, part, ha, hv, go_sem]
theorem rowIs_keep {w w' : World} {b : Nat} {t : TypeId} {n : Nat} {f : Nat → Value} (h : w.rowIs b t n f) (hb : Below w.heap.size w w') : w'.rowIs b t n f := h.of_block (hb.block _ h.lt)
theorem rowIs_new {w : World} {t : TypeId} {n : Nat} {z : Value} {c : Array Value} (hc : c = (List.replicate n z).toArray) : (w.alloc (.cells c t)).rowIs w.heap.size t n (fun _ => z) := by
  subst hc
  have h := World.rowIs_alloc w (List.replicate n z).toArray t (fun _ => z) (fun i hi => by simp at hi; simp [hi])
  simpa using h
theorem _root_.Go.RowKit.Below.setRow {B : Nat} {w w' : World} (h : Below B w w') {g : Nat} (hg : B ≤ g) (cs : Array Value) : Below B w (w'.setRow g cs) :=
  ⟨h.os, h.tape, h.output, by simpa using h.size, fun k hk => (setRow_other w' g k cs (by omega)).trans (h.block k hk)⟩
theorem _root_.Go.RowKit.Below.al {W w' : World} (h : Below W.heap.size W w') (o : Obj) : Below W.heap.size W (w'.alloc o) := h.alloc h.size o
theorem Below.drew0 (w : World) : Below w.heap.size w w.drew := (Below.refl _ _).drew
theorem bcell {W w1 : World} (hb : Below W.heap.size W w1) : (∀ b o, b < W.heap.size → w1.cell? ⟨b, o, none⟩ = W.cell? ⟨b, o, none⟩) ∧ (∀ b o, b < W.heap.size → w1.frozen? ⟨b, o, none⟩ = W.frozen? ⟨b, o, none⟩) :=
  ⟨fun b o h => hb.cell (p := ⟨b, o, none⟩) h, fun b o h => hb.frozen (p := ⟨b, o, none⟩) h⟩
theorem wrapU32 {n : Nat} (h : n < 4294967296) : IntKind.u32.wrap (n : Int) = (n : Int) := by rw [IntKind.wrap_u32']; omega
theorem rowIs_heap {w : World} {b : Nat} {t : TypeId} {n : Nat} {f : Nat → Value} (h : w.rowIs b t n f) : w.heap[b]? = some (.cells ((List.range n).map f).toArray t (0, 0)) := by
  obtain ⟨c, hb, hn, hc⟩ := h
  rw [hb]
  congr 2
  apply Array.ext_getElem?
  intro i
  by_cases hi : i < n
  · rw [hc i hi]; simp [hi]
  · rw [Array.getElem?_eq_none (by omega)]; simp [hi]
/-- The block of a row, as one array. -/
theorem rowIs_block {w : World} {b : Nat} {t : TypeId} {n : Nat} {f : Nat → Value} (h : w.rowIs b t n f) : ∃ c : Array Value, w.heap[b]? = some (.cells c t (0, 0)) ∧ c.size = n ∧ c = ((List.range n).map f).toArray := by
  obtain ⟨c, hb, hn, hc⟩ := h
  refine ⟨c, hb, hn, ?_⟩
  apply Array.ext_getElem?
  intro i
  by_cases hi : i < n
  · rw [hc i hi]; simp [hi]
  · rw [Array.getElem?_eq_none (by omega)]; simp [hi]
theorem all_one_ints {n : Nat} {c : Array Value} {k : IntKind} {g : Nat → Int} (h : c = ((List.range n).map (fun j => Value.int k (g j))).toArray) : c.all (·.oneCell') = true := by
  subst h
  rw [Array.all_eq_true_iff_forall_mem]
  intro v hv
  simp only [List.mem_toArray, List.mem_map] at hv
  obtain ⟨j, _, rfl⟩ := hv
  rfl
theorem results_cell_slot {P : Program} {fn : Func} {p q : Tmp} {ty : TypeId} (h : fn.results = #[.cell p ty, .tmp q]) (tmps : Array Value) (w : World) (g : Nat) (t : TypeId) (cs : Array Value) (fr : Nat × Nat) (d : TypeDesc)
    (hp : tmps.getD p undef = .pointer (some ⟨g, 0, none⟩)) (hg : w.heap[g]? = some (.cells cs t fr))
    (hu : P.underlying ty = some d) (hd : (match d with | .struct _ | .array _ _ => true | _ => false) = true) (hi : (P.info? ty).map (·.size) = some cs.size) (v : Value) (hv : tmps.getD q undef = v) :
    (results fn tmps).run P w = .ok (.tuple #[.agg cs, v]) w := by
  subst hv
  have hp' : tmps[p]?.getD undef = .pointer (some ⟨g, 0, none⟩) := by simpa using hp
  simp [results, h, hp', asAddr, run_loadVar_row w g t ty cs fr d hg hu hd hi]
theorem rowIs_setRow {w : World} {b : Nat} {t : TypeId} {n : Nat} {f : Nat → Value} (h : w.rowIs b t n f) (cs : Array Value) : (w.setRow b cs).heap[b]? = some (.cells cs t (0, 0)) := by
  obtain ⟨c, hb, _, _⟩ := h
  exact setRow_heap w b c cs t (0, 0) hb
end Go.Kx

/-
  A row of ints as one array (any program).
-/
namespace Go.Proofs.Ytljckcegcfidoaa
open Go.RowKit Go.Kx

def rowA (k : IntKind) (n : Nat) (f : Nat → Nat) : Array Value := ((List.range n).map fun j => Value.int k (f j : Nat)).toArray
theorem rowA_size (k : IntKind) (n : Nat) (f : Nat → Nat) : (rowA k n f).size = n := by simp [rowA]
theorem rowA_at (k : IntKind) (n : Nat) (f : Nat → Nat) (j : Nat) (h : j < n) : (rowA k n f)[j]? = some (.int k (f j : Nat)) := by simp [rowA, h]
end Go.Proofs.Ytljckcegcfidoaa

/-
  Digits below 256 that are added and multiplied (field, as plain mathematics; any program): sums are xor, products of doubles; laws by what they do to the eight powers of two; powers of three.
-/
namespace Go.Gf

def dbl (a : Nat) : Nat := if 2 * a < 256 then 2 * a else (2 * a - 256) ^^^ 27
def mulK : Nat → Nat → Nat → Nat → Nat
  | 0, n, _, _ => n
  | k + 1, n, a, b => mulK k (if b % 2 = 1 then n ^^^ a else n) (dbl a) (b / 2)
/-- The product. -/
def mulG (a b : Nat) : Nat := mulK 8 0 a b

theorem xor_lt {a b : Nat} (ha : a < 256) (hb : b < 256) : a ^^^ b < 256 := Nat.xor_lt_two_pow (n := 8) ha hb
theorem dbl_lt {a : Nat} (h : a < 256) : dbl a < 256 := by
  unfold dbl
  split
  · assumption
  · exact xor_lt (by omega) (by omega)
theorem mulK_lt : ∀ (k n a b : Nat), n < 256 → a < 256 → mulK k n a b < 256
  | 0, _, _, _, h, _ => h
  | k + 1, n, a, b, h, ha => by
    rw [mulK]
    refine mulK_lt k _ _ _ ?_ (dbl_lt ha)
    split
    · exact xor_lt h ha
    · exact h
theorem mulG_lt {a : Nat} (b : Nat) (ha : a < 256) : mulG a b < 256 := mulK_lt _ _ _ _ (by omega) ha

/-! ### what is the same at the powers of two is the same -/
def Lin (f : Nat → Nat) : Prop := ∀ a b, a < 256 → b < 256 → f (a ^^^ b) = f a ^^^ f b
theorem Lin.zero {f : Nat → Nat} (h : Lin f) : f 0 = 0 := by
  have := h 0 0 (by omega) (by omega)
  rw [Nat.xor_self, Nat.xor_self] at this
  exact this
theorem top_xor (k x : Nat) (h1 : 2 ^ k ≤ x) (h2 : x < 2 ^ (k + 1)) : 2 ^ k ^^^ (x - 2 ^ k) = x := by
  have h3 : x - 2 ^ k < 2 ^ k := by rw [Nat.pow_succ] at h2; omega
  have h4 := Nat.two_pow_add_eq_or_of_lt h3 1
  rw [Nat.mul_one] at h4
  have h5 : 2 ^ k ^^^ (x - 2 ^ k) = 2 ^ k ||| (x - 2 ^ k) := by
    apply Nat.eq_of_testBit_eq
    intro i
    rw [Nat.testBit_xor, Nat.testBit_or, Nat.testBit_two_pow]
    by_cases hi : k = i
    · subst hi
      rw [Nat.testBit_lt_two_pow h3]
      simp
    · simp [hi]
  rw [h5, ← h4]
  omega
theorem Lin.ext {f g : Nat → Nat} (hf : Lin f) (hg : Lin g) (h : ∀ k, k < 8 → f (2 ^ k) = g (2 ^ k)) : ∀ x, x < 256 → f x = g x := by
  have key : ∀ k, k ≤ 8 → ∀ x, x < 2 ^ k → f x = g x := by
    intro k
    induction k with
    | zero =>
      intro _ x hx
      obtain rfl : x = 0 := by simpa using hx
      rw [hf.zero, hg.zero]
    | succ k ih =>
      intro hk x hx
      by_cases h1 : x < 2 ^ k
      · exact ih (by omega) x h1
      · have h2 : (2 : Nat) ^ k < 256 := Nat.lt_of_lt_of_le (Nat.pow_lt_pow_right (by omega) (show k < 8 by omega)) (by decide)
        have h3 : x < 256 := Nat.lt_of_lt_of_le hx (Nat.pow_le_pow_right (n := 2) (by omega) hk)
        have h4 := top_xor k x (by omega) hx
        rw [← h4, hf _ _ h2 (by omega), hg _ _ h2 (by omega), h k (by omega), ih (by omega) (x - 2 ^ k) (by rw [Nat.pow_succ] at hx; omega)]
  exact key 8 (by omega)
theorem xor_two (b c : Nat) : (b ^^^ c) % 2 = (b % 2) ^^^ (c % 2) := by
  have h := Nat.xor_mod_two_pow (a := b) (b := c) (n := 1)
  simpa using h
theorem two_xor (a b : Nat) : 2 * (a ^^^ b) = 2 * a ^^^ 2 * b := by
  apply Nat.eq_of_testBit_eq
  intro i
  cases i with
  | zero => rw [Nat.testBit_xor]; simp [Nat.testBit_zero]
  | succ i => rw [Nat.testBit_xor]; simp [Nat.testBit_succ, Nat.testBit_xor]
theorem lin_dbl : Lin dbl := by
  have h : ∀ a, a < 256 → dbl a = (2 * a) ^^^ (if a < 128 then 0 else 283) := by decide +kernel
  intro a b ha hb
  rw [h _ (xor_lt ha hb), h a ha, h b hb, two_xor]
  have e : (if a ^^^ b < 128 then 0 else 283) = (if a < 128 then 0 else 283) ^^^ (if b < 128 then 0 else 283) := by
    have bit : ∀ x, x < 256 → (x < 128 ↔ x.testBit 7 = false) := by decide +kernel
    have e1 := bit _ (xor_lt ha hb)
    have e2 := bit a ha
    have e3 := bit b hb
    rw [Nat.testBit_xor] at e1
    cases ha7 : a.testBit 7 <;> cases hb7 : b.testBit 7 <;> simp [e1, e2, e3, ha7, hb7]
  rw [e]
  ac_rfl
theorem Lin.comp {f g : Nat → Nat} (hf : Lin f) (hg : Lin g) (hl : ∀ x, x < 256 → g x < 256) : Lin fun x => f (g x) := fun a b ha hb => by
  show f (g (a ^^^ b)) = _
  rw [hg a b ha hb, hf _ _ (hl a ha) (hl b hb)]
theorem lin_mulK_left (k b : Nat) : ∀ (n m a c : Nat), n < 256 → m < 256 → a < 256 → c < 256 → mulK k (n ^^^ m) (a ^^^ c) b = mulK k n a b ^^^ mulK k m c b := by
  induction k generalizing b with
  | zero => intros; rfl
  | succ k ih =>
    intro n m a c hn hm ha hc
    rw [mulK, mulK, mulK, lin_dbl a c ha hc]
    split
    · rw [show n ^^^ m ^^^ (a ^^^ c) = (n ^^^ a) ^^^ (m ^^^ c) by ac_rfl]
      exact ih _ _ _ _ _ (xor_lt hn ha) (xor_lt hm hc) (dbl_lt ha) (dbl_lt hc)
    · exact ih _ _ _ _ _ hn hm (dbl_lt ha) (dbl_lt hc)
theorem lin_left (b : Nat) : Lin fun a => mulG a b := fun a c ha hc => by
  exact lin_mulK_left 8 b 0 0 a c (by omega) (by omega) ha hc
theorem mulK_start (k : Nat) : ∀ (n a b : Nat), mulK k n a b = n ^^^ mulK k 0 a b := by
  induction k with
  | zero => intro n a b; simp [mulK]
  | succ k ih =>
    intro n a b
    rw [mulK, mulK, ih, ih (if b % 2 = 1 then 0 ^^^ a else 0)]
    split
    · rw [Nat.zero_xor]; ac_rfl
    · rw [Nat.zero_xor]
theorem lin_mulK_right (k : Nat) : ∀ (a b c : Nat), mulK k 0 a (b ^^^ c) = mulK k 0 a b ^^^ mulK k 0 a c := by
  induction k with
  | zero => intros; simp [mulK]
  | succ k ih =>
    intro a b c
    rw [mulK, mulK, mulK, Nat.xor_div_two, mulK_start k (if (b ^^^ c) % 2 = 1 then _ else _), mulK_start k (if b % 2 = 1 then _ else _), mulK_start k (if c % 2 = 1 then _ else _), ih]
    have e : (if (b ^^^ c) % 2 = 1 then 0 ^^^ a else 0) = (if b % 2 = 1 then 0 ^^^ a else 0) ^^^ (if c % 2 = 1 then 0 ^^^ a else 0) := by
      rw [xor_two]
      rcases Nat.mod_two_eq_zero_or_one b with hb | hb <;> rcases Nat.mod_two_eq_zero_or_one c with hc | hc <;>
        simp [hb, hc]
    rw [e]
    ac_rfl
theorem lin_right (a : Nat) : Lin fun b => mulG a b := fun b c _ _ => lin_mulK_right 8 a b c

/-! ### the laws -/
theorem mul_comm {a b : Nat} (ha : a < 256) (hb : b < 256) : mulG a b = mulG b a := by
  refine Lin.ext (lin_right a) (lin_left a) (fun k hk => ?_) b hb
  refine Lin.ext (lin_left (2 ^ k)) (lin_right (2 ^ k)) (fun j hj => ?_) a ha
  have h : ∀ k, k < 8 → ∀ j, j < 8 → mulG (2 ^ j) (2 ^ k) = mulG (2 ^ k) (2 ^ j) := by decide +kernel
  exact h k hk j hj
theorem mul_assoc {a b c : Nat} (ha : a < 256) (hb : b < 256) (hc : c < 256) : mulG (mulG a b) c = mulG a (mulG b c) := by
  refine Lin.ext (lin_right (mulG a b)) ((lin_right a).comp (lin_right b) fun x _ => mulG_lt x hb) (fun k hk => ?_) c hc
  refine Lin.ext ((lin_left (2 ^ k)).comp (lin_right a) fun x _ => mulG_lt x ha) ((lin_right a).comp (lin_left (2 ^ k)) fun x hx => mulG_lt _ hx) (fun j hj => ?_) b hb
  refine Lin.ext ((lin_left (2 ^ k)).comp (lin_left (2 ^ j)) fun x hx => mulG_lt _ hx) (lin_left (mulG (2 ^ j) (2 ^ k))) (fun i hi => ?_) a ha
  have h : ∀ k, k < 8 → ∀ j, j < 8 → ∀ i, i < 8 → mulG (mulG (2 ^ i) (2 ^ j)) (2 ^ k) = mulG (2 ^ i) (mulG (2 ^ j) (2 ^ k)) := by decide +kernel
  exact h k hk j hj i hi
theorem mul_xor {b c : Nat} (a : Nat) (hb : b < 256) (hc : c < 256) : mulG a (b ^^^ c) = mulG a b ^^^ mulG a c := lin_right a b c hb hc
theorem xor_mul {a b : Nat} (c : Nat) (ha : a < 256) (hb : b < 256) : mulG (a ^^^ b) c = mulG a c ^^^ mulG b c := lin_left c a b ha hb
theorem mul_zero (a : Nat) : mulG a 0 = 0 := (lin_right a).zero
theorem zero_mul (b : Nat) : mulG 0 b = 0 := (lin_left b).zero
theorem mul_one {a : Nat} (ha : a < 256) : mulG a 1 = a := Lin.ext (lin_left 1) (g := fun x => x) (fun _ _ _ _ => rfl) (by decide +kernel) a ha
theorem one_mul {a : Nat} (ha : a < 256) : mulG 1 a = a := by rw [mul_comm (by omega) ha, mul_one ha]
theorem mul_two {a : Nat} (ha : a < 256) : mulG a 2 = dbl a := Lin.ext (lin_left 2) lin_dbl (by decide +kernel) a ha

/-! ### powers of three -/
def tri (a : Nat) : Nat := a ^^^ dbl a
theorem tri_lt {a : Nat} (h : a < 256) : tri a < 256 := xor_lt h (dbl_lt h)
theorem lin_tri : Lin tri := fun a b ha hb => by
  unfold tri
  rw [lin_dbl a b ha hb]
  ac_rfl
theorem mul_three {a : Nat} (ha : a < 256) : mulG a 3 = tri a := Lin.ext (lin_left 3) lin_tri (by decide +kernel) a ha
def powT : Nat → Nat
  | 0 => 1
  | n + 1 => tri (powT n)
theorem powT_lt : ∀ n, powT n < 256
  | 0 => by decide
  | n + 1 => tri_lt (powT_lt n)
theorem powT_add (i j : Nat) : mulG (powT i) (powT j) = powT (i + j) := by
  induction j with
  | zero => exact mul_one (powT_lt i)
  | succ j ih =>
    show mulG (powT i) (tri (powT j)) = tri (powT (i + j))
    rw [← ih, ← mul_three (powT_lt j), ← mul_three (mulG_lt _ (powT_lt i)), mul_assoc (powT_lt i) (powT_lt j) (by omega)]
theorem powT_255 : powT 255 = 1 := by decide +kernel
theorem powT_add_255 (n : Nat) : powT (n + 255) = powT n := by rw [← powT_add, powT_255, mul_one (powT_lt n)]
theorem powT_mul_255 (n q : Nat) : powT (n + 255 * q) = powT n := by
  induction q with
  | zero => rfl
  | succ q ih => rw [Nat.mul_succ, ← Nat.add_assoc, powT_add_255, ih]
theorem powT_mod (n : Nat) : powT (n % 255) = powT n := by
  conv => rhs; rw [← Nat.mod_add_div n 255]
  rw [powT_mul_255]
theorem powT_ne (n : Nat) : powT n ≠ 0 := by
  intro h
  have h1 := powT_add n (254 * n)
  rw [h, zero_mul, show n + 254 * n = 0 + 255 * n by omega, powT_mul_255] at h1
  exact absurd h1 (by decide)
/-- The number of triplings that a digit is told by (255 of 0). -/
def logT (a : Nat) : Nat := (List.range 255).findIdx fun n => powT n == a
theorem log_spec {a : Nat} (ha : a < 256) (h0 : a ≠ 0) : powT (logT a) = a ∧ logT a < 255 := by
  have h : ∀ a, a < 256 → a ≠ 0 → (powT (logT a) = a ∧ logT a < 255) := by decide +kernel
  exact h a ha h0
theorem log_powT {n : Nat} (hn : n < 255) : logT (powT n) = n := by
  have h : ∀ n, n < 255 → logT (powT n) = n := by decide +kernel
  exact h n hn
theorem mul_log {a b : Nat} (ha : a < 256) (hb : b < 256) (ha0 : a ≠ 0) (hb0 : b ≠ 0) : mulG a b = powT ((logT a + logT b) % 255) := by
  rw [powT_mod, ← powT_add, (log_spec ha ha0).1, (log_spec hb hb0).1]
theorem mul_ne {a b : Nat} (ha : a < 256) (hb : b < 256) (ha0 : a ≠ 0) (hb0 : b ≠ 0) : mulG a b ≠ 0 := by
  rw [mul_log ha hb ha0 hb0]
  exact powT_ne _
theorem mul_eq_zero {a b : Nat} (ha : a < 256) (hb : b < 256) : mulG a b = 0 ↔ a = 0 ∨ b = 0 := by
  constructor
  · intro h
    by_cases ha0 : a = 0
    · exact .inl ha0
    · by_cases hb0 : b = 0
      · exact .inr hb0
      · exact absurd h (mul_ne ha hb ha0 hb0)
  · rintro (rfl | rfl)
    · exact zero_mul _
    · exact mul_zero _
/-- The inverse (of 0 some digit). -/
def invG (a : Nat) : Nat := powT ((255 - logT a) % 255)
theorem invG_lt (a : Nat) : invG a < 256 := powT_lt _
theorem invG_ne (a : Nat) : invG a ≠ 0 := powT_ne _
theorem mul_inv {a : Nat} (ha : a < 256) (h0 : a ≠ 0) : mulG a (invG a) = 1 := by
  have h := log_spec ha h0
  unfold invG
  rw [powT_mod]
  conv => lhs; lhs; rw [← h.1]
  rw [powT_add, show logT a + (255 - logT a) = 0 + 255 by omega, powT_add_255]
  rfl
theorem mul_inv_back {a b : Nat} (ha : a < 256) (hb : b < 256) (h0 : b ≠ 0) : mulG (mulG a b) (invG b) = a := by
  rw [mul_assoc ha hb (invG_lt b), mul_inv hb h0, mul_one ha]
theorem inv_mul_back {a b : Nat} (ha : a < 256) (hb : b < 256) (h0 : b ≠ 0) : mulG (mulG a (invG b)) b = a := by
  rw [mul_assoc ha (invG_lt b) hb, mul_comm (invG_lt b) hb, mul_inv hb h0, mul_one ha]
theorem cancel_right {a b c : Nat} (ha : a < 256) (hb : b < 256) (hc : c < 256) (h0 : c ≠ 0) (h : mulG a c = mulG b c) : a = b := by
  rw [← mul_inv_back ha hc h0, h, mul_inv_back hb hc h0]
theorem inv_unique {a x : Nat} (ha : a < 256) (h0 : a ≠ 0) (hx : x < 256) (h : mulG a x = 1) : x = invG a := by
  refine cancel_right hx (invG_lt a) ha h0 ?_
  rw [mul_comm hx ha, mul_comm (invG_lt a) ha, h, mul_inv ha h0]
theorem inv_inv {a : Nat} (ha : a < 256) (h0 : a ≠ 0) : invG (invG a) = a :=
  (inv_unique (invG_lt a) (invG_ne a) ha (by rw [mul_comm (invG_lt a) ha, mul_inv ha h0])).symm

/-! ### powers -/
def powG (a : Nat) : Nat → Nat
  | 0 => 1
  | n + 1 => mulG (powG a n) a
theorem powG_lt {a : Nat} (_ : a < 256) (n : Nat) : powG a n < 256 := by
  induction n with
  | zero => exact (by decide : 1 < 256)
  | succ n ih => exact mulG_lt _ ih
theorem powG_zero (n : Nat) (h : 0 < n) : powG 0 n = 0 := by
  cases n with
  | zero => omega
  | succ n => exact mul_zero _
theorem powG_log {a : Nat} (ha : a < 256) (h0 : a ≠ 0) (n : Nat) : powG a n = powT (logT a * n) := by
  induction n with
  | zero => rfl
  | succ n ih =>
    rw [powG, ih]
    conv => lhs; rhs; rw [← (log_spec ha h0).1]
    rw [powT_add, Nat.mul_succ]
theorem powG_mod {a : Nat} (ha : a < 256) (h0 : a ≠ 0) (n : Nat) : powG a (n % 255) = powG a n := by
  rw [powG_log ha h0, powG_log ha h0, ← powT_mod, ← powT_mod (logT a * n), Nat.mul_mod, Nat.mod_mod, ← Nat.mul_mod]
theorem powG_255 {a : Nat} (ha : a < 256) (h0 : a ≠ 0) : powG a 255 = 1 := (powG_mod ha h0 255).symm
theorem powG_add {a : Nat} (ha : a < 256) (m n : Nat) : powG a (m + n) = mulG (powG a m) (powG a n) := by
  induction n with
  | zero => exact (mul_one (powG_lt ha m)).symm
  | succ n ih =>
    show mulG (powG a (m + n)) a = mulG (powG a m) (mulG (powG a n) a)
    rw [ih, mul_assoc (powG_lt ha m) (powG_lt ha n) ha]
end Go.Gf

/-
  What a whole number's type is (any program).
-/
namespace Go.Proofs.Ytljckcegcfidoaa
open Go.RowKit Go.Kx

theorem int_info : (Try.prog.info? 3).map (fun i => (i.zero, i.size, i.bytes)) = some (some (.int .i64 0), 1, 8) := by kernel_rfl
end Go.Proofs.Ytljckcegcfidoaa

/-
  field: the contracts of isDigit, double, after; a field in the heap.
-/
namespace Go.Proofs.Ytljckcegcfidoaa
open Go.RowKit Go.Kx
set_option maxRecDepth 20000

/-- Is a number a digit? -/
def dig (a : Int) : Bool := decide (0 ≤ a) && decide (a < 256)
theorem dig_nat {a : Int} (h : dig a = true) : ∃ n : Nat, a = n ∧ n < 256 := by
  simp only [dig, Bool.and_eq_true, decide_eq_true_eq] at h
  exact ⟨a.toNat, by omega, by omega⟩
theorem dig_of {n : Nat} (h : n < 256) : dig (n : Int) = true := by simp [dig]; omega
theorem isDigit_any (a : Int) (w : World) : Calls Try.prog 65 #[.int .i64 a] w fun e w' => e = .returned (.bool (dig a)) ∧ w' = w := by
  go_enter Try.func65, Try.ntmps65
  by_cases h : 0 ≤ a
  · go_wp2
    go_ret
    exact ⟨ret_bool (by simp [dig, h]), rfl⟩
  · go_wp2
    go_ret
    exact ⟨ret_bool (by simp [dig]; omega), rfl⟩
theorem double_any (a : Nat) (ha : a < 256) (w : World) : Calls Try.prog 61 #[.int .i64 (a : Int)] w fun e w' => e = .returned (.int .i64 (Gf.dbl a : Nat)) ∧ w' = w := by
  go_enter Try.func61, Try.ntmps61
  by_cases h : (a : Int) * 2 < 256
  · go_wp2
    go_ret
    exact ⟨ret_int (by rw [Gf.dbl, if_pos (by omega)]; omega), rfl⟩
  · have e : bits .xor .i64 ((a : Int) * 2 - 256) 27 = ((2 * a - 256) ^^^ 27 : Nat) := by
      rw [show (a : Int) * 2 - 256 = ((2 * a - 256 : Nat) : Int) by omega]
      exact int_xor (b := 27) (by omega) (by omega)
    go_wp2
    go_ret
    exact ⟨ret_int (by rw [Gf.dbl, if_neg (by omega)]), rfl⟩

/-! ### a field in the heap -/
def fldAt (j : Nat) : Nat := if j < 256 then (if j = 0 then 0 else Gf.logT j) else Gf.powT (j - 256)
def newAt (n j : Nat) : Nat := if j < 256 then (if j ≠ 0 ∧ Gf.logT j < n then Gf.logT j else 0) else if j - 256 < n then Gf.powT (j - 256) else 0
theorem newAt_zero (j : Nat) : newAt 0 j = 0 := by simp [newAt]
theorem newAt_full (j : Nat) (hj : j < 511) : newAt 255 j = fldAt j := by
  unfold newAt fldAt
  by_cases h : j < 256
  · rw [if_pos h, if_pos h]
    by_cases h0 : j = 0
    · rw [if_neg (by omega), if_pos h0]
    · rw [if_pos ⟨h0, (Gf.log_spec h h0).2⟩, if_neg h0]
  · rw [if_neg h, if_neg h, if_pos (by omega)]
theorem newAt_set (n j : Nat) (hn : n < 255) : (if j = 256 + n then Gf.powT n else if j = Gf.powT n then n else newAt n j) = newAt (n + 1) j := by
  have hp := Gf.powT_lt n
  unfold newAt
  by_cases h : j < 256
  · rw [if_neg (by omega), if_pos h, if_pos h]
    by_cases h1 : j = Gf.powT n
    · subst h1
      rw [if_pos rfl, Gf.log_powT hn, if_pos ⟨Gf.powT_ne n, by omega⟩]
    · rw [if_neg h1]
      by_cases h0 : j = 0
      · rw [if_neg (by omega), if_neg (by omega)]
      · have hs := Gf.log_spec h h0
        have hne : Gf.logT j ≠ n := fun he => h1 (by rw [← hs.1, he])
        by_cases hl : Gf.logT j < n
        · rw [if_pos ⟨h0, hl⟩, if_pos ⟨h0, by omega⟩]
        · rw [if_neg (by omega), if_neg (by omega)]
  · rw [if_neg h, if_neg h, if_neg (show ¬ j = Gf.powT n by omega)]
    by_cases h1 : j = 256 + n
    · rw [if_pos h1, if_pos (by omega)]
      congr 1; omega
    · rw [if_neg h1]
      by_cases h2 : j - 256 < n
      · rw [if_pos h2, if_pos (by omega)]
      · rw [if_neg h2, if_neg (by omega)]
/-- A block that holds a field. -/
def Fld (w : World) (b : Nat) : Prop := w.rowIs b 89 511 (fun j => .int .i64 (fldAt j : Nat))
theorem Fld.keep {w w' : World} {b : Nat} (h : Fld w b) (hb : Below w.heap.size w w') : Fld w' b := rowIs_keep h hb
theorem Fld.log {w : World} {b a : Nat} (h : Fld w b) (ha : a < 256) (h0 : a ≠ 0) : w.cell? ⟨b, a, none⟩ = some (.int .i64 (Gf.logT a : Nat)) := by
  have := World.rowIs.cell h (i := a) (by omega)
  rw [this, fldAt, if_pos ha, if_neg h0]
theorem Fld.pow {w : World} {b n : Nat} (h : Fld w b) (hn : n < 255) : w.cell? ⟨b, 256 + n, none⟩ = some (.int .i64 (Gf.powT n : Nat)) := by
  have := World.rowIs.cell h (i := 256 + n) (by omega)
  rw [this, fldAt, if_neg (by omega)]
  congr 4; omega
theorem after_any (b n : Nat) (hn : n < 4611686018427387904) (w : World) (hf : Fld w b) : Calls Try.prog 66 #[.pointer (some ⟨b, 0, none⟩), .int .i64 (n : Int)] w fun e w' => e = .returned (.int .i64 (Gf.powT n : Nat)) ∧ w' = w := by
  have hm : n % 255 < 255 := Nat.mod_lt _ (by omega)
  have hc := hf.pow hm
  rw [Gf.powT_mod] at hc
  have e : (n : Int).tmod 255 = ((n % 255 : Nat) : Int) := by rw [Int.tmod_eq_emod_of_nonneg (by omega)]; omega
  generalize Gf.powT n = p at *
  go_enter Try.func66, Try.ntmps66
  go_wp2
  go_ret
  exact ⟨rfl, rfl⟩
def zeros (n : Nat) : Array Value := (List.replicate n (Value.int .i64 0)).toArray
theorem zero_fld_info : (Try.prog.info? 89).map (·.zero) = some (some (.agg (zeros 511))) := by kernel_rfl
theorem zero_fld (w : World) : (Sem.run Try.prog (zeroValue 89) w) = .ok (.agg (zeros 511)) w := by
  have h := zero_fld_info
  cases hi : Try.prog.info? 89 with
  | none => simp [hi] at h
  | some i =>
    have hz : i.zero = some (.agg (zeros 511)) := by simpa [hi] using h
    simp [zeroValue, typeInfo, hi, hz, go_sem]
theorem new_any (w : World) : Calls Try.prog 36 #[] w fun e w' => e = .returned (.pointer (some ⟨w.heap.size, 0, none⟩)) ∧ Fld w' w.heap.size ∧ Below w.heap.size w w' := by
  have hz := zero_fld w
  have hr0 := rowIs_new (w := w) (t := 89) (n := 511) (z := .int .i64 0) (c := zeros 511) rfl
  generalize zeros 511 = zs at *
  go_enter Try.func36, Try.ntmps36
  go_wp2
  go_loopw [2, 5] (fun x i wr => ∃ n : Nat, n ≤ 255 ∧ i = .int .i64 n ∧ x = .int .i64 (Gf.powT n : Nat) ∧ wr.rowIs w.heap.size 89 511 (fun j => .int .i64 (newAt n j : Nat)) ∧ Below w.heap.size w wr) (fun _ i _ => 255 - (intOf i).toNat)
  case atStart => exact ⟨0, by omega, rfl, rfl, hr0.congr fun j _ => by rw [newAt_zero]; rfl, Below.alloc0 _ _⟩
  case round =>
    clear hr0
    obtain ⟨n, hn, rfl, rfl, hr, hb⟩ := hrel
    have hpl := Gf.powT_lt n
    by_cases hlt : n < 255
    · have HS := Lib.hid (fun j => newAt_set n j hlt)
      have htri : Hid (Gf.tri (Gf.powT n) = Gf.powT (n + 1)) := Lib.hid rfl
      generalize hp : Gf.powT n = p at *
      have HP := Lib.hid hp
      clear hp
      have hload := hr.cell (i := p) (by omega)
      have hload2 := hr.cell (i := 256 + n) (by omega)
      have hfz := hr.frozen p
      have hfz2 := hr.frozen (256 + n)
      have ex : bits .xor .i64 (p : Int) (Gf.dbl p : Nat) = (Gf.tri p : Nat) := int_xor (by omega) (by have := Gf.dbl_lt hpl; omega)
      rw [htri.out] at ex
      have hq : IntKind.i64.wrap ((Gf.powT (n + 1) : Nat) : Int) = (Gf.powT (n + 1) : Nat) := wrapNat (by have := Gf.powT_lt (n + 1); omega)
      go_wp2_with fail
      refine (double_any p hpl _).mono ?_
      rintro e w1 ⟨rfl, rfl⟩
      generalize hx : Gf.powT (n + 1) = x at *
      have HX := Lib.hid hx
      clear hx
      generalize Gf.dbl p = d at *
      go_wp2
      go_roundw
      case rel =>
        refine ⟨n + 1, by omega, by go_num, by rw [HX.out], ((hr.set p _).set (256 + n) _).congr fun j _ => ?_, (hb.setCell (p := ⟨w.heap.size, p, none⟩) (by simp) _).setCell (p := ⟨w.heap.size, 256 + n, none⟩) (by simp) _⟩
        rw [← HS.out]
        split
        · rfl
        · split <;> rfl
      case measure => simp [intOf]; omega
    · obtain rfl : n = 255 := by omega
      go_wp2
      go_ret
      exact ⟨rfl, hr.congr fun j hj => by rw [newAt_full j hj], hb⟩
end Go.Proofs.Ytljckcegcfidoaa

/-
  field: the contracts of Add, Mul, Inv, Div, Pow.
-/
namespace Go.Proofs.Ytljckcegcfidoaa
open Go.RowKit Go.Kx
set_option maxRecDepth 20000

def addA (a b : Int) : Nat × Bool := if dig a = true ∧ dig b = true then (a.toNat ^^^ b.toNat, true) else (0, false)
def mulA (a b : Int) : Nat × Bool := if dig a = true ∧ dig b = true then (Gf.mulG a.toNat b.toNat, true) else (0, false)
def invA (a : Int) : Nat × Bool := if dig a = true ∧ a ≠ 0 then (Gf.invG a.toNat, true) else (0, false)
def divA (a b : Int) : Nat × Bool := if dig a = true ∧ dig b = true ∧ b ≠ 0 then (Gf.mulG a.toNat (Gf.invG b.toNat), true) else (0, false)
def powA (a n : Int) : Nat × Bool := if dig a = true ∧ 0 ≤ n ∧ n ≤ 1000000 then (Gf.powG a.toNat n.toNat, true) else (0, false)
/-- What a method hands back. -/
def two (r : Nat × Bool) : Ending := .returned (.tuple #[.int .i64 (r.1 : Nat), .bool r.2])
theorem two_eq {r s : Nat × Bool} (h : r = s) : two r = two s := by rw [h]
theorem two_of {r : Nat × Bool} {x : Int} {b : Bool} (h1 : x = (r.1 : Nat)) (h2 : b = r.2) : Ending.returned (.tuple #[.int .i64 x, .bool b]) = two r := by rw [h1, h2]; rfl

theorem fadd_any (a b : Int) (w : World) : Calls Try.prog 67 #[.int .i64 a, .int .i64 b] w fun e w' => e = two (addA a b) ∧ w' = w := by
  cases ha : dig a with
  | false =>
    have hr : addA a b = (0, false) := by simp [addA, ha]
    rw [hr]
    go_enter Try.func67, Try.ntmps67
    go_wp2_with fail
    refine (isDigit_any _ _).mono ?_
    rintro e w1 ⟨rfl, rfl⟩
    go_wp2
    go_ret2
    exact ⟨rfl, rfl⟩
  | true =>
    cases hb : dig b with
    | false =>
      have hr : addA a b = (0, false) := by simp [addA, hb]
      rw [hr]
      go_enter Try.func67, Try.ntmps67
      go_wp2_with fail
      refine (isDigit_any _ _).mono ?_
      rintro e w1 ⟨rfl, rfl⟩
      go_wp2_with fail
      refine (isDigit_any _ _).mono ?_
      rintro e w1 ⟨rfl, rfl⟩
      go_wp2
      go_ret2
      exact ⟨rfl, rfl⟩
    | true =>
      have hr : addA a b = (a.toNat ^^^ b.toNat, true) := by simp [addA, ha, hb]
      rw [hr]
      obtain ⟨m, rfl, hm⟩ := dig_nat ha
      obtain ⟨n, rfl, hn⟩ := dig_nat hb
      have ex : bits .xor .i64 (m : Int) (n : Nat) = (m ^^^ n : Nat) := int_xor (by omega) (by omega)
      go_enter Try.func67, Try.ntmps67
      go_wp2_with fail
      refine (isDigit_any _ _).mono ?_
      rintro e w1 ⟨rfl, rfl⟩
      go_wp2_with fail
      refine (isDigit_any _ _).mono ?_
      rintro e w1 ⟨rfl, rfl⟩
      go_wp2
      go_ret2
      exact ⟨two_of rfl rfl, rfl⟩


theorem mul_none (a b : Int) (w : World) : Calls Try.prog 72 #[.pointer none, .int .i64 a, .int .i64 b] w fun e w' => e = two (0, false) ∧ w' = w := by
  go_enter Try.func72, Try.ntmps72
  go_wp2
  go_ret2
  exact ⟨rfl, rfl⟩
theorem inv_none (a : Int) (w : World) : Calls Try.prog 42 #[.pointer none, .int .i64 a] w fun e w' => e = two (0, false) ∧ w' = w := by
  go_enter Try.func42, Try.ntmps42
  go_wp2
  go_ret2
  exact ⟨rfl, rfl⟩
theorem pow_none (a n : Int) (w : World) : Calls Try.prog 54 #[.pointer none, .int .i64 a, .int .i64 n] w fun e w' => e = two (0, false) ∧ w' = w := by
  go_enter Try.func54, Try.ntmps54
  go_wp2
  go_ret2
  exact ⟨rfl, rfl⟩
theorem div_none (a b : Int) (w : World) : Calls Try.prog 75 #[.pointer none, .int .i64 a, .int .i64 b] w fun e w' => e = two (0, false) ∧ w' = w := by
  go_enter Try.func75, Try.ntmps75
  go_wp2_with fail
  refine (inv_none b _).mono ?_
  rintro e w1 ⟨rfl, rfl⟩
  unfold two
  go_wp2
  go_ret2
  exact ⟨rfl, rfl⟩
theorem inv_any (g : Nat) (a : Int) (w : World) (hf : Fld w g) : Calls Try.prog 42 #[.pointer (some ⟨g, 0, none⟩), .int .i64 a] w fun e w' => e = two (invA a) ∧ w' = w := by
  cases ha : dig a with
  | false =>
    have hr : invA a = (0, false) := by simp [invA, ha]
    rw [hr]
    go_enter Try.func42, Try.ntmps42
    go_wp2_with fail
    refine (isDigit_any _ _).mono ?_
    rintro e w1 ⟨rfl, rfl⟩
    go_wp2
    go_ret2
    exact ⟨rfl, rfl⟩
  | true =>
    by_cases h0 : a = 0
    · have hr : invA a = (0, false) := by simp [invA, h0]
      rw [hr]
      subst h0
      go_enter Try.func42, Try.ntmps42
      go_wp2_with fail
      refine (isDigit_any _ _).mono ?_
      rintro e w1 ⟨rfl, rfl⟩
      go_wp2
      go_ret2
      exact ⟨rfl, rfl⟩
    · have hr : invA a = (Gf.invG a.toNat, true) := by simp [invA, ha, h0]
      rw [hr]
      obtain ⟨m, rfl, hm⟩ := dig_nat ha
      have hm0 : m ≠ 0 := by omega
      have hl := hf.log hm hm0
      have hll := (Gf.log_spec hm hm0).2
      have he : Hid (Gf.powT (255 - Gf.logT m) = Gf.invG m) := Lib.hid (by rw [Gf.invG, Gf.powT_mod])
      generalize hx : Gf.logT m = x at *
      have HX := Lib.hid hx
      clear hx
      go_enter Try.func42, Try.ntmps42
      go_wp2_with fail
      refine (isDigit_any _ _).mono ?_
      rintro e w1 ⟨rfl, rfl⟩
      go_wp2_with fail
      rw [show (255 : Int) - (x : Nat) = ((255 - x : Nat) : Int) by omega]
      refine (after_any g _ (by omega) _ hf).mono ?_
      rintro e w1 ⟨rfl, rfl⟩
      rw [he.out]
      go_wp2
      go_ret2
      exact ⟨two_of rfl rfl, rfl⟩
theorem pow_any (g : Nat) (a n : Int) (w : World) (hf : Fld w g) : Calls Try.prog 54 #[.pointer (some ⟨g, 0, none⟩), .int .i64 a, .int .i64 n] w fun e w' => e = two (powA a n) ∧ w' = w := by
  cases ha : dig a with
  | false =>
    have hr : powA a n = (0, false) := by simp [powA, ha]
    rw [hr]
    go_enter Try.func54, Try.ntmps54
    go_wp2_with fail
    refine (isDigit_any _ _).mono ?_
    rintro e w1 ⟨rfl, rfl⟩
    go_wp2
    go_ret2
    exact ⟨rfl, rfl⟩
  | true =>
    by_cases h1 : n < 0
    · have hr : powA a n = (0, false) := by simp [powA]; omega
      rw [hr]
      go_enter Try.func54, Try.ntmps54
      go_wp2_with fail
      refine (isDigit_any _ _).mono ?_
      rintro e w1 ⟨rfl, rfl⟩
      go_wp2
      go_ret2
      exact ⟨rfl, rfl⟩
    · by_cases h2 : 1000000 < n
      · have hr : powA a n = (0, false) := by simp [powA]; omega
        rw [hr]
        go_enter Try.func54, Try.ntmps54
        go_wp2_with fail
        refine (isDigit_any _ _).mono ?_
        rintro e w1 ⟨rfl, rfl⟩
        go_wp2
        go_ret2
        exact ⟨rfl, rfl⟩
      · have hr : powA a n = (Gf.powG a.toNat n.toNat, true) := by simp [powA, ha]; omega
        rw [hr]
        obtain ⟨m, rfl, hm⟩ := dig_nat ha
        obtain ⟨k, rfl⟩ : ∃ k : Nat, n = k := ⟨n.toNat, by omega⟩
        clear hr
        show Calls _ _ _ _ fun e w' => e = two (Gf.powG m k, true) ∧ w' = w
        by_cases h3 : k = 0
        · subst h3
          go_enter Try.func54, Try.ntmps54
          go_wp2_with fail
          refine (isDigit_any _ _).mono ?_
          rintro e w1 ⟨rfl, rfl⟩
          go_wp2
          go_ret2
          exact ⟨two_of rfl rfl, rfl⟩
        · by_cases h4 : m = 0
          · subst h4
            rw [Gf.powG_zero k (by omega)]
            go_enter Try.func54, Try.ntmps54
            go_wp2_with fail
            refine (isDigit_any _ _).mono ?_
            rintro e w1 ⟨rfl, rfl⟩
            go_wp2
            go_ret2
            exact ⟨two_of rfl rfl, rfl⟩
          · have hl := hf.log hm h4
            have hll := (Gf.log_spec hm h4).2
            rw [Gf.powG_log hm h4]
            generalize hx : Gf.logT m = x at *
            have HX := Lib.hid hx
            clear hx
            have hmul : x * k ≤ 254 * 1000000 := Nat.mul_le_mul (by omega) (by omega)
            have hw : IntKind.i64.wrap ((x : Int) * (k : Int)) = ((x * k : Nat) : Int) := by rw [← Int.natCast_mul]; exact wrapNat (by omega)
            go_enter Try.func54, Try.ntmps54
            go_wp2_with fail
            refine (isDigit_any _ _).mono ?_
            rintro e w1 ⟨rfl, rfl⟩
            go_wp2_with fail
            refine (after_any g _ (by omega) _ hf).mono ?_
            rintro e w1 ⟨rfl, rfl⟩
            go_wp2
            go_ret2
            exact ⟨two_of rfl rfl, rfl⟩

theorem mul_drew (g : Nat) (a b : Int) (w : World) (hf : Fld w g) : Calls Try.prog 72 #[.pointer (some ⟨g, 0, none⟩), .int .i64 a, .int .i64 b] w fun e w' => e = two (mulA a b) ∧ ∃ m, w' = w.drewN m := by
  cases ha : dig a with
  | false =>
    have hr : mulA a b = (0, false) := by simp [mulA, ha]
    rw [hr]
    go_enter Try.func72, Try.ntmps72
    go_wp2_with fail
    refine (isDigit_any _ _).mono ?_
    rintro e w1 ⟨rfl, rfl⟩
    go_wp2
    go_ret2
    exact ⟨rfl, 0, rfl⟩
  | true =>
    cases hb : dig b with
    | false =>
      have hr : mulA a b = (0, false) := by simp [mulA, hb]
      rw [hr]
      go_enter Try.func72, Try.ntmps72
      go_wp2_with fail
      refine (isDigit_any _ _).mono ?_
      rintro e w1 ⟨rfl, rfl⟩
      go_wp2_with fail
      refine (isDigit_any _ _).mono ?_
      rintro e w1 ⟨rfl, rfl⟩
      go_wp2
      go_ret2
      exact ⟨rfl, 0, rfl⟩
    | true =>
      have hr : mulA a b = (Gf.mulG a.toNat b.toNat, true) := by simp [mulA, ha, hb]
      rw [hr]
      obtain ⟨m, rfl, hm⟩ := dig_nat ha
      obtain ⟨n, rfl, hn⟩ := dig_nat hb
      show Calls _ _ _ _ fun e w' => e = two (Gf.mulG m n, true) ∧ ∃ m, w' = w.drewN m
      by_cases h1 : m = 0
      · subst h1
        rw [Gf.zero_mul]
        go_enter Try.func72, Try.ntmps72
        go_wp2_with fail
        refine (isDigit_any _ _).mono ?_
        rintro e w1 ⟨rfl, rfl⟩
        go_wp2_with fail
        refine (isDigit_any _ _).mono ?_
        rintro e w1 ⟨rfl, rfl⟩
        go_wp2
        go_ret2
        exact ⟨two_of rfl rfl, 0, rfl⟩
      · by_cases h2 : n = 0
        · subst h2
          rw [Gf.mul_zero]
          go_enter Try.func72, Try.ntmps72
          go_wp2_with fail
          refine (isDigit_any _ _).mono ?_
          rintro e w1 ⟨rfl, rfl⟩
          go_wp2_with fail
          refine (isDigit_any _ _).mono ?_
          rintro e w1 ⟨rfl, rfl⟩
          go_wp2
          go_ret2
          exact ⟨two_of rfl rfl, 0, rfl⟩
        · have hlm := hf.log hm h1
          have hln := hf.log hn h2
          have hllm := (Gf.log_spec hm h1).2
          have hlln := (Gf.log_spec hn h2).2
          rw [Gf.mul_log hm hn h1 h2, Gf.powT_mod]
          generalize Gf.logT m = x at *
          generalize Gf.logT n = y at *
          have t1 : ((m : Int) == 0) = false := by simp; omega
          have t2 : ((n : Int) == 0) = false := by simp; omega
          go_enter Try.func72, Try.ntmps72
          go_wp2_with fail
          refine (isDigit_any _ _).mono ?_
          rintro e w1 ⟨rfl, rfl⟩
          go_wp2_with fail
          refine (isDigit_any _ _).mono ?_
          rintro e w1 ⟨rfl, rfl⟩
          go_wp2
          go_quiet ((go_at_call 66; refine Calls.quiet_of_same (after_any g (x + y) ?_ _ hf) <;> first | assumption | omega))
          go_wp2
          go_ret2
          exact ⟨two_of rfl rfl, _, rfl⟩
theorem mul_any (g : Nat) (a b : Int) (w : World) (hf : Fld w g) : Calls Try.prog 72 #[.pointer (some ⟨g, 0, none⟩), .int .i64 a, .int .i64 b] w fun e w' => e = two (mulA a b) ∧ Below w.heap.size w w' :=
  (mul_drew g a b w hf).mono fun _ _ ⟨he, m, hm⟩ => ⟨he, hm ▸ Below.drewN0 w m⟩
theorem div_drew (g : Nat) (a b : Int) (w : World) (hf : Fld w g) : Calls Try.prog 75 #[.pointer (some ⟨g, 0, none⟩), .int .i64 a, .int .i64 b] w fun e w' => e = two (divA a b) ∧ ∃ m, w' = w.drewN m := by
  by_cases hb : dig b = true ∧ b ≠ 0
  · have hi : invA b = (Gf.invG b.toNat, true) := by simp [invA, hb]
    have hm : mulA a (Gf.invG b.toNat : Nat) = divA a b := by simp [mulA, divA, hb, dig_of (Gf.invG_lt _)]
    go_enter Try.func75, Try.ntmps75
    go_wp2_with fail
    refine (inv_any g b _ hf).mono ?_
    rw [hi]
    rintro e w1 ⟨rfl, rfl⟩
    unfold two
    go_wp2_with fail
    refine (mul_drew g a _ _ hf).mono ?_
    rw [hm]
    rintro e w1 ⟨rfl, hb1⟩
    unfold two
    go_wp2
    go_ret2
    exact ⟨rfl, hb1⟩
  · have hi : invA b = (0, false) := by simp [invA]; simpa using hb
    have hd : divA a b = (0, false) := by simp [divA]; intro _; simpa using hb
    rw [hd]
    go_enter Try.func75, Try.ntmps75
    go_wp2_with fail
    refine (inv_any g b _ hf).mono ?_
    rw [hi]
    rintro e w1 ⟨rfl, rfl⟩
    unfold two
    go_wp2
    go_ret2
    exact ⟨rfl, 0, rfl⟩
theorem div_any (g : Nat) (a b : Int) (w : World) (hf : Fld w g) : Calls Try.prog 75 #[.pointer (some ⟨g, 0, none⟩), .int .i64 a, .int .i64 b] w fun e w' => e = two (divA a b) ∧ Below w.heap.size w w' :=
  (div_drew g a b w hf).mono fun _ _ ⟨he, m, hm⟩ => ⟨he, hm ▸ Below.drewN0 w m⟩
end Go.Proofs.Ytljckcegcfidoaa

/-
  Slices of intsI that read as a list (any program).
-/
namespace Go.Proofs.Ytljckcegcfidoaa
open Go.RowKit Go.Kx
set_option maxRecDepth 20000

def intsI (l : List Int) : List Value := l.map (Value.int .i64)
theorem intsI_length (l : List Int) : (intsI l).length = l.length := by simp [intsI]
theorem intsI_at {l : List Int} {k : Nat} {u : Value} (h : (intsI l)[k]? = some u) : ∃ x, l[k]? = some x ∧ u = .int .i64 x := by
  simp only [intsI, List.getElem?_map, Option.map_eq_some_iff] at h
  obtain ⟨x, h1, h2⟩ := h
  exact ⟨x, h1, h2.symm⟩
/-- A cell of a slice of intsI. -/
theorem sl_int {w : World} {A : Option Addr} {l : List Int} (h : Sl w A (intsI l)) {k : Nat} (hk : k < l.length) : ∃ b off, A = some ⟨b, off, none⟩ ∧ w.cell? ⟨b, off + k, none⟩ = some (.int .i64 (l.getD k 0)) := by
  obtain ⟨b, off, u, rfl, hu, hc⟩ := h.at_ (k := k) (by rw [intsI_length]; exact hk)
  obtain ⟨x, hx, rfl⟩ := intsI_at hu
  refine ⟨b, off, rfl, ?_⟩
  rw [hc, List.getD, hx]
  rfl
theorem intsI_snoc (l : List Int) (x : Int) : intsI l ++ [Value.int .i64 x] = intsI (l ++ [x]) := by simp [intsI]
/-- All of them. -/
def allI (p : Int → Bool) (l : List Int) : Bool := l.all p
theorem allI_no {p : Int → Bool} {l : List Int} {k : Nat} (hk : k < l.length) (h : p (l.getD k 0) = false) : allI p l = false := by
  rw [allI, List.all_eq_false]
  refine ⟨l[k], List.getElem_mem hk, ?_⟩
  rw [List.getD, List.getElem?_eq_getElem hk] at h
  simpa using h
theorem allI_yes {p : Int → Bool} {l : List Int} (h : ∀ k, k < l.length → p (l.getD k 0) = true) : allI p l = true := by
  rw [allI, List.all_eq_true]
  intro x hx
  obtain ⟨k, hk, rfl⟩ := List.getElem_of_mem hx
  have := h k hk
  rwa [List.getD, List.getElem?_eq_getElem hk] at this
theorem allI_at {p : Int → Bool} {l : List Int} (h : allI p l = true) {k : Nat} (hk : k < l.length) : p (l.getD k 0) = true := by
  rw [List.getD, List.getElem?_eq_getElem hk]
  exact List.all_eq_true.1 h _ (List.getElem_mem hk)
end Go.Proofs.Ytljckcegcfidoaa

/-
  poly: the contracts of isDigit, areDigits, plus, times, Degree.
-/
namespace Go.Proofs.Ytljckcegcfidoaa
open Go.RowKit Go.Kx
set_option maxRecDepth 20000

theorem pIsDigit_any (a : Int) (w : World) : Calls Try.prog 51 #[.int .i64 a] w fun e w' => e = .returned (.bool (dig a)) ∧ w' = w := by
  go_enter Try.func51, Try.ntmps51
  by_cases h : 0 ≤ a
  · go_wp2
    go_ret
    exact ⟨ret_bool (by simp [dig, h]), rfl⟩
  · go_wp2
    go_ret
    exact ⟨ret_bool (by simp [dig]; omega), rfl⟩
theorem areDigits_any (l : List Int) (A : Option Addr) (c : Nat) (hl : l.length ≤ 9223372036854775807) (w : World) (hs : Sl w A (intsI l)) :
    Calls Try.prog 50 #[.slice A l.length c] w fun e w' => e = .returned (.bool (allI dig l)) ∧ w' = w := by
  go_enter Try.func50, Try.ntmps50
  go_wp2
  go_loop [7] (fun i => ∃ k : Nat, i = .int .i64 k ∧ k ≤ l.length ∧ Hid (∀ j, j < k → dig (l.getD j 0) = true)) (fun i => l.length - (intOf i).toNat)
  case atStart => exact ⟨0, rfl, by omega, Lib.hid (fun j hj => by omega)⟩
  case round =>
    obtain ⟨k, rfl, hk, hd⟩ := hrel
    by_cases hlt : k < l.length
    · obtain ⟨b, off, rfl, hc⟩ := sl_int hs hlt
      have hn := Lib.hid (fun h => allI_no (p := dig) hlt h)
      have hd2 : Hid (dig (l.getD k 0) = true → ∀ j, j < k + 1 → dig (l.getD j 0) = true) := Lib.hid (fun h j hj => by
        by_cases e : j = k
        · rw [e]; exact h
        · exact hd.out j (by omega))
      generalize l.getD k 0 = x at *
      cases hx : dig x with
      | true =>
        go_wp2_with fail
        refine (pIsDigit_any _ _).mono ?_
        rintro e w1 ⟨rfl, rfl⟩
        go_wp2
        go_round
        case rel => exact ⟨k + 1, by go_num, by omega, Lib.hid (hd2.out hx)⟩
        case measure => simp [intOf]; omega
      | false =>
        go_wp2_with fail
        refine (pIsDigit_any _ _).mono ?_
        rintro e w1 ⟨rfl, rfl⟩
        go_wp2
        go_ret
        exact ⟨ret_bool (hn.out hx).symm, rfl⟩
    · obtain rfl : k = l.length := by omega
      go_wp2
      go_ret
      exact ⟨ret_bool (allI_yes hd.out).symm, rfl⟩
theorem pplus_any (a b : Int) (w : World) : Calls Try.prog 55 #[.int .i64 a, .int .i64 b] w fun e w' => e = .returned (.int .i64 ((addA a b).1 : Nat)) ∧ w' = w := by
  obtain ⟨⟨s, t⟩, h⟩ : ∃ r, addA a b = r := ⟨_, rfl⟩
  rw [h]
  have H := Lib.hid h
  clear h
  go_enter Try.func55, Try.ntmps55
  go_wp2_with fail
  refine (fadd_any a b _).mono ?_
  rw [H.out]
  rintro e w1 ⟨rfl, rfl⟩
  unfold two
  go_wp2
  go_ret
  exact ⟨rfl, rfl⟩
theorem ptimes_any (g : Nat) (a b : Int) (w : World) (hf : Fld w g) : Calls Try.prog 56 #[.pointer (some ⟨g, 0, none⟩), .int .i64 a, .int .i64 b] w fun e w' => e = .returned (.int .i64 ((mulA a b).1 : Nat)) ∧ ∃ m, w' = w.drewN m := by
  obtain ⟨⟨s, t⟩, h⟩ : ∃ r, mulA a b = r := ⟨_, rfl⟩
  rw [h]
  have H := Lib.hid h
  clear h
  go_enter Try.func56, Try.ntmps56
  go_wp2_with fail
  refine (mul_drew g a b _ hf).mono ?_
  rw [H.out]
  rintro e w1 ⟨rfl, m, rfl⟩
  unfold two
  go_wp2
  go_ret
  exact ⟨rfl, m, rfl⟩
end Go.Proofs.Ytljckcegcfidoaa

/-
  Polynomials over the digits below 256 (poly, as plain mathematics; any program): values, factors, how many zeros there may be, the one that goes through given values.
-/
namespace Go.Gf

/-- A digit. -/
structure G where
  v : Nat
  lt : v < 256
deriving DecidableEq
theorem G.ext' {a b : G} (h : a.v = b.v) : a = b := by cases a; cases b; cases h; rfl
instance : Add G := ⟨fun a b => ⟨a.v ^^^ b.v, xor_lt a.lt b.lt⟩⟩
instance : Mul G := ⟨fun a b => ⟨mulG a.v b.v, mulG_lt _ a.lt⟩⟩
instance : OfNat G 0 := ⟨⟨0, by decide⟩⟩
instance : OfNat G 1 := ⟨⟨1, by decide⟩⟩
def G.inv (a : G) : G := ⟨invG a.v, invG_lt _⟩
theorem G.add_v (a b : G) : (a + b).v = a.v ^^^ b.v := rfl
theorem G.mul_v (a b : G) : (a * b).v = mulG a.v b.v := rfl
theorem G.zero_v : (0 : G).v = 0 := rfl
theorem G.one_v : (1 : G).v = 1 := rfl
theorem G.add_comm (a b : G) : a + b = b + a := G.ext' (Nat.xor_comm _ _)
theorem G.add_assoc (a b c : G) : a + b + c = a + (b + c) := G.ext' (Nat.xor_assoc _ _ _)
theorem G.add_self (a : G) : a + a = 0 := G.ext' (Nat.xor_self _)
theorem G.add_zero (a : G) : a + 0 = a := G.ext' (Nat.xor_zero _)
theorem G.zero_add (a : G) : 0 + a = a := G.ext' (Nat.zero_xor _)
theorem G.mul_comm (a b : G) : a * b = b * a := G.ext' (Gf.mul_comm a.lt b.lt)
theorem G.mul_assoc (a b c : G) : a * b * c = a * (b * c) := G.ext' (Gf.mul_assoc a.lt b.lt c.lt)
theorem G.mul_add (a b c : G) : a * (b + c) = a * b + a * c := G.ext' (mul_xor _ b.lt c.lt)
theorem G.add_mul (a b c : G) : (a + b) * c = a * c + b * c := G.ext' (xor_mul _ a.lt b.lt)
theorem G.mul_zero (a : G) : a * 0 = 0 := G.ext' (Gf.mul_zero a.v)
theorem G.zero_mul (a : G) : 0 * a = 0 := G.ext' (Gf.zero_mul a.v)
theorem G.mul_one (a : G) : a * 1 = a := G.ext' (Gf.mul_one a.lt)
theorem G.one_mul (a : G) : 1 * a = a := G.ext' (Gf.one_mul a.lt)
theorem G.v_ne {a : G} (h : a ≠ 0) : a.v ≠ 0 := fun e => h (G.ext' e)
theorem G.mul_inv {a : G} (h : a ≠ 0) : a * a.inv = 1 := G.ext' (Gf.mul_inv a.lt (G.v_ne h))
theorem G.mul_ne {a b : G} (ha : a ≠ 0) (hb : b ≠ 0) : a * b ≠ 0 := fun e => Gf.mul_ne a.lt b.lt (G.v_ne ha) (G.v_ne hb) (congrArg G.v e)
theorem G.add_eq_zero {a b : G} : a + b = 0 ↔ a = b := by
  constructor
  · intro h
    have h2 : a + b + b = 0 + b := by rw [h]
    rwa [G.add_assoc, G.add_self, G.add_zero, G.zero_add] at h2
  · rintro rfl
    exact G.add_self a
theorem G.mul_eq_zero {a b : G} (h : a * b = 0) (ha : a ≠ 0) : b = 0 := Decidable.byContradiction fun hb => G.mul_ne ha hb h
instance : Std.Commutative (α := G) (· + ·) := ⟨G.add_comm⟩
instance : Std.Associative (α := G) (· + ·) := ⟨G.add_assoc⟩
instance : Std.Commutative (α := G) (· * ·) := ⟨G.mul_comm⟩
instance : Std.Associative (α := G) (· * ·) := ⟨G.mul_assoc⟩
theorem G.add_cancel (a b : G) : a + (a + b) = b := by rw [← G.add_assoc, G.add_self, G.zero_add]

/-! ### values -/
def ev : List G → G → G
  | [], _ => 0
  | c :: r, x => c + x * ev r x
def addL : List G → List G → List G
  | [], m => m
  | l, [] => l
  | a :: l, b :: m => (a + b) :: addL l m
theorem ev_addL (x : G) : ∀ l m : List G, ev (addL l m) x = ev l x + ev m x
  | [], m => by rw [addL, ev, G.zero_add]
  | a :: l, [] => by rw [addL, ev, ev, G.add_zero]; simp
  | a :: l, b :: m => by
    rw [addL, ev, ev, ev, ev_addL x l m, G.mul_add]
    ac_rfl
theorem addL_length : ∀ (l m : List G) (n : Nat), l.length ≤ n → m.length ≤ n → (addL l m).length ≤ n
  | [], _, _, _, h => h
  | _ :: _, [], _, h, _ => h
  | a :: l, b :: m, 0, h, _ => by simp at h
  | a :: l, b :: m, n + 1, h, k => by
    have := addL_length l m n (by simpa using h) (by simpa using k)
    simpa [addL] using this
def scale (c : G) (l : List G) : List G := l.map (c * ·)
theorem ev_scale (c x : G) (l : List G) : ev (scale c l) x = c * ev l x := by
  induction l with
  | nil => exact (G.mul_zero c).symm
  | cons a l ih =>
    show c * a + x * ev (scale c l) x = c * (a + x * ev l x)
    rw [ih, G.mul_add]
    congr 1
    ac_rfl
/-- Times x plus a. -/
def linM (a : G) (l : List G) : List G := addL (0 :: l) (scale a l)
theorem ev_linM (a x : G) (l : List G) : ev (linM a l) x = (x + a) * ev l x := by
  rw [linM, ev_addL, ev, ev_scale, G.zero_add, G.add_mul]
theorem linM_length (a : G) (l : List G) (n : Nat) (h : l.length ≤ n) : (linM a l).length ≤ n + 1 := addL_length _ _ _ (by simpa using h) (by simp [scale]; omega)

/-! ### zeros -/
/-- What is left by x plus a. -/
def divL (a : G) : List G → List G
  | [] => []
  | [_] => []
  | _ :: b :: r => ev (b :: r) a :: divL a (b :: r)
theorem divL_length (a : G) : ∀ l : List G, (divL a l).length = l.length - 1
  | [] => rfl
  | [_] => rfl
  | _ :: b :: r => by simp [divL, divL_length a (b :: r)]
theorem ev_divL (a x : G) : ∀ l : List G, ev l x + ev l a = (x + a) * ev (divL a l) x
  | [] => by rw [divL, ev, ev, G.mul_zero]; rfl
  | [c] => by rw [divL, ev, ev, ev, ev, ev, G.mul_zero, G.mul_zero, G.mul_zero, G.add_zero, G.add_self]
  | c :: b :: r => by
    have ih := ev_divL a x (b :: r)
    rw [divL]
    generalize b :: r = l at *
    rw [ev, ev, ev]
    have e : c + x * ev l x + (c + a * ev l a) = x * (ev l x + ev l a) + (x + a) * ev l a := by
      rw [G.mul_add, G.add_mul]
      rw [show c + x * ev l x + (c + a * ev l a) = (c + c) + (x * ev l x + a * ev l a) by ac_rfl]
      rw [show x * ev l x + x * ev l a + (x * ev l a + a * ev l a) = (x * ev l a + x * ev l a) + (x * ev l x + a * ev l a) by ac_rfl]
      rw [G.add_self, G.add_self]
    rw [e, ih, G.mul_add]
    rw [show x * ((x + a) * ev (divL a l) x) = (x + a) * (x * ev (divL a l) x) by ac_rfl]
    exact G.add_comm _ _
theorem divL_last (a : G) : ∀ (l : List G) (h : divL a l ≠ []), ∃ h2 : l ≠ [], (divL a l).getLast h = l.getLast h2
  | [], h => absurd rfl h
  | [_], h => absurd rfl h
  | [c, b], _ => ⟨by simp, by simp [divL, ev, G.mul_zero, G.add_zero]⟩
  | c :: b :: d :: r, _ => by
    obtain ⟨h2, h3⟩ := divL_last a (b :: d :: r) (by simp [divL])
    refine ⟨by simp, ?_⟩
    rw [List.getLast_cons h2, ← h3]
    exact List.getLast_cons (a := ev (b :: d :: r) a) (by simp [divL])
theorem zero_left {l : List G} {a z : G} (ha : ev l a = 0) (hz : ev l z = 0) (h : z ≠ a) : ev (divL a l) z = 0 := by
  have e := ev_divL a z l
  rw [ha, hz, G.add_self] at e
  exact G.mul_eq_zero e.symm fun h2 => h (G.add_eq_zero.1 h2)
/-- As many zeros as digits: 0 everywhere. -/
theorem all_zero : ∀ (zs : List G) (l : List G), zs.Nodup → l.length ≤ zs.length → (∀ z ∈ zs, ev l z = 0) → ∀ x, ev l x = 0
  | [], l, _, hl, _, x => by
    obtain rfl : l = [] := List.eq_nil_of_length_eq_zero (by simpa using hl)
    rfl
  | a :: zs, l, hn, hl, h, x => by
    have hn' := List.nodup_cons.1 hn
    have ha := h a (by simp)
    have hq := all_zero zs (divL a l) hn'.2 (by rw [divL_length]; simp at hl; omega) (fun z hz => zero_left ha (h z (by simp [hz])) (fun e => hn'.1 (e ▸ hz))) x
    have e := ev_divL a x l
    rw [ha, hq, G.mul_zero, G.add_zero] at e
    exact e
/-- Fewer zeros than digits, if the last one is not 0. -/
theorem few_zeros : ∀ (zs : List G) (l : List G) (hl : l ≠ []), zs.Nodup → l.getLast hl ≠ 0 → (∀ z ∈ zs, ev l z = 0) → zs.length < l.length
  | [], l, hl, _, _, _ => List.length_pos_iff.2 hl
  | a :: zs, l, hl, hn, h0, h => by
    have hn' := List.nodup_cons.1 hn
    have ha := h a (by simp)
    by_cases hd : divL a l = []
    · have h1 : l.length = 1 := by
        have := divL_length a l
        rw [hd] at this
        have h2 := List.length_pos_iff.2 hl
        simp at this
        omega
      obtain ⟨c, rfl⟩ := List.length_eq_one_iff.1 h1
      rw [ev, ev, G.mul_zero, G.add_zero] at ha
      exact absurd ha h0
    · obtain ⟨h2, h3⟩ := divL_last a l hd
      have := few_zeros zs (divL a l) hd hn'.2 (by rw [h3]; exact h0) (fun z hz => zero_left ha (h z (by simp [hz])) (fun e => hn'.1 (e ▸ hz)))
      rw [divL_length] at this
      simp
      omega

/-! ### the one that goes through -/
def prodG : List G → G
  | [] => 1
  | a :: r => a * prodG r
def sumG : List G → G
  | [] => 0
  | a :: r => a + sumG r
theorem prodG_append (a b : List G) : prodG (a ++ b) = prodG a * prodG b := by
  induction a with
  | nil => exact (G.one_mul _).symm
  | cons x a ih => rw [List.cons_append, prodG, ih, prodG, G.mul_assoc]
theorem sumG_append (a b : List G) : sumG (a ++ b) = sumG a + sumG b := by
  induction a with
  | nil => exact (G.zero_add _).symm
  | cons x a ih => rw [List.cons_append, sumG, ih, sumG, G.add_assoc]
theorem prodG_zero {l : List G} (h : 0 ∈ l) : prodG l = 0 := by
  induction l with
  | nil => simp at h
  | cons a l ih =>
    rcases List.mem_cons.1 h with h | h
    · rw [prodG, ← h, G.zero_mul]
    · rw [prodG, ih h, G.mul_zero]
theorem prodG_one {l : List G} (h : ∀ a ∈ l, a = 1) : prodG l = 1 := by
  induction l with
  | nil => rfl
  | cons a l ih => rw [prodG, h a (by simp), ih (fun b hb => h b (by simp [hb])), G.one_mul]
theorem prodG_mul (f g : G → G) (l : List G) : prodG (l.map fun a => f a * g a) = prodG (l.map f) * prodG (l.map g) := by
  induction l with
  | nil => exact (G.mul_one 1).symm
  | cons a l ih =>
    rw [List.map_cons, prodG, ih, List.map_cons, List.map_cons, prodG, prodG]
    ac_rfl
/-- The product of x plus each. -/
def prodL : List G → List G
  | [] => [1]
  | a :: r => linM a (prodL r)
theorem prodL_length (l : List G) : (prodL l).length ≤ l.length + 1 := by
  induction l with
  | nil => simp [prodL]
  | cons a l ih => exact linM_length a _ _ ih
theorem ev_prodL (x : G) (l : List G) : ev (prodL l) x = prodG (l.map fun a => x + a) := by
  induction l with
  | nil => rw [prodL, ev, ev, G.mul_zero, G.add_zero]; rfl
  | cons a l ih => rw [prodL, ev_linM, ih]; rfl
/-- The weight at one of the places, c, of which the others are 'os'. -/
def wgt (c : G) (os : List G) (x : G) : G := prodG (os.map fun a => (x + a) * (c + a).inv)
def wgtL (c : G) (os : List G) : List G := scale (prodG (os.map fun a => (c + a).inv)) (prodL os)
theorem ev_wgtL (c x : G) (os : List G) : ev (wgtL c os) x = wgt c os x := by
  rw [wgtL, ev_scale, ev_prodL, wgt, prodG_mul (fun a => x + a) (fun a => (c + a).inv)]
  exact G.mul_comm _ _
theorem wgt_other {c x : G} {os : List G} (h : x ∈ os) : wgt c os x = 0 :=
  prodG_zero (List.mem_map.2 ⟨x, h, by rw [G.add_self, G.zero_mul]⟩)
theorem wgt_own {c : G} {os : List G} (h : c ∉ os) : wgt c os c = 1 := prodG_one fun b hb => by
  obtain ⟨a, ha, rfl⟩ := List.mem_map.1 hb
  exact G.mul_inv fun e => h (G.add_eq_zero.1 e ▸ ha)
/-- Sums over places: 'pre' are those that have been, 'ps' those that come, each with its value. -/
def thr (pre : List G) : List (G × G) → G → G
  | [], _ => 0
  | (c, y) :: r, x => y * wgt c (pre ++ r.map Prod.fst) x + thr (pre ++ [c]) r x
def thrL (pre : List G) : List (G × G) → List G
  | [] => []
  | (c, y) :: r => addL (scale y (wgtL c (pre ++ r.map Prod.fst))) (thrL (pre ++ [c]) r)
theorem ev_thrL (x : G) : ∀ (ps : List (G × G)) (pre : List G), ev (thrL pre ps) x = thr pre ps x
  | [], _ => rfl
  | (c, y) :: r, pre => by rw [thrL, ev_addL, ev_scale, ev_wgtL, ev_thrL x r, thr]
theorem thrL_length : ∀ (ps : List (G × G)) (pre : List G) (n : Nat), pre.length + ps.length ≤ n → (thrL pre ps).length ≤ n
  | [], _, _, _ => Nat.zero_le _
  | (c, y) :: r, pre, n, h => by
    refine addL_length _ _ _ ?_ (thrL_length r _ n (by simp at h ⊢; omega))
    have := prodL_length (pre ++ r.map Prod.fst)
    simp [wgtL, scale] at this ⊢
    simp at h
    omega
theorem thr_gone {x : G} : ∀ (ps : List (G × G)) (pre : List G), x ∈ pre → thr pre ps x = 0
  | [], _, _ => rfl
  | (c, y) :: r, pre, h => by
    rw [thr, wgt_other (by simp [h]), G.mul_zero, thr_gone r _ (by simp [h]), G.add_zero]
/-- At one of the places it is that one's value. -/
theorem thr_at {x z : G} : ∀ (ps : List (G × G)) (pre : List G), (pre ++ ps.map Prod.fst).Nodup → (x, z) ∈ ps → thr pre ps x = z
  | [], _, _, h => by simp at h
  | (c, y) :: r, pre, hn, h => by
    rw [thr]
    have hc : c ∉ pre ++ r.map Prod.fst := by
      have := List.perm_middle (a := c) (l₁ := pre) (l₂ := r.map Prod.fst)
      exact (List.nodup_cons.1 (this.nodup_iff.1 hn)).1
    rcases List.mem_cons.1 h with h | h
    · obtain ⟨rfl, rfl⟩ := Prod.mk.inj h
      rw [wgt_own hc, G.mul_one, thr_gone r _ (by simp), G.add_zero]
    · have hx : x ∈ r.map Prod.fst := List.mem_map.2 ⟨_, h, rfl⟩
      rw [wgt_other (by simp only [List.mem_append]; exact .inr hx), G.mul_zero, G.zero_add]
      exact thr_at r _ (by simpa using hn) h
/-- Through values of a polynomial with at most as many digits as there are places goes that polynomial. -/
theorem thr_ev (l : List G) (xs : List G) (hn : xs.Nodup) (hl : l.length ≤ xs.length) (x : G) : thr [] (xs.map fun a => (a, ev l a)) x = ev l x := by
  have hm : (xs.map fun a => (a, ev l a)).map Prod.fst = xs := by rw [List.map_map]; simp [Function.comp_def]
  have h := all_zero xs (addL l (thrL [] (xs.map fun a => (a, ev l a)))) hn (addL_length _ _ _ hl (thrL_length _ _ _ (by simp))) (fun z hz => by
    rw [ev_addL, ev_thrL, thr_at (z := ev l z) _ _ (by rw [hm]; exact hn) (List.mem_map.2 ⟨z, hz, rfl⟩), G.add_self]) x
  rw [ev_addL, ev_thrL] at h
  exact (G.add_eq_zero.1 h).symm
end Go.Gf

/-
  poly: the contracts of fold over numbers, of Eval's closure, of Eval.
-/
namespace Go.Proofs.Ytljckcegcfidoaa
open Go.RowKit Go.Kx
set_option maxRecDepth 20000

/-! ### numbers as digits -/
def toG (a : Int) : Gf.G := if h : a.toNat < 256 then ⟨a.toNat, h⟩ else 0
def gs (l : List Int) : List Gf.G := l.map toG
theorem toG_v {a : Int} (h : dig a = true) : ((toG a).v : Int) = a := by
  obtain ⟨n, rfl, hn⟩ := dig_nat h
  simp [toG, hn]
theorem toG_nat {n : Nat} (h : n < 256) : toG (n : Int) = ⟨n, h⟩ := by simp [toG, h]
theorem toG_of (a : Gf.G) : toG (a.v : Int) = a := by rw [toG_nat a.lt]
theorem dig_v (a : Gf.G) : dig (a.v : Int) = true := dig_of a.lt
theorem dig_toG {a : Int} (h : dig a = true) : dig ((toG a).v : Int) = true := by rw [toG_v h]; exact h
theorem addA_G (a b : Gf.G) : addA (a.v : Nat) (b.v : Nat) = ((a + b).v, true) := by simp [addA, dig_of a.lt, dig_of b.lt, Gf.G.add_v]
theorem mulA_G (a b : Gf.G) : mulA (a.v : Nat) (b.v : Nat) = ((a * b).v, true) := by simp [mulA, dig_of a.lt, dig_of b.lt, Gf.G.mul_v]
def pw (x : Gf.G) : Nat → Gf.G
  | 0 => 1
  | k + 1 => pw x k * x
theorem pw_v (x : Gf.G) : ∀ k, (pw x k).v = Gf.powG x.v k
  | 0 => rfl
  | k + 1 => by rw [pw, Gf.G.mul_v, pw_v x k]; rfl
theorem powA_G (x : Gf.G) (k : Nat) (hk : k ≤ 1000000) : powA (x.v : Nat) (k : Nat) = ((pw x k).v, true) := by
  have h : (0 : Int) ≤ k ∧ (k : Int) ≤ 1000000 := by omega
  simp [powA, dig_of x.lt, h, pw_v]
theorem ev_snoc (x c : Gf.G) : ∀ l : List Gf.G, Gf.ev (l ++ [c]) x = Gf.ev l x + c * pw x l.length
  | [] => by
    show c + x * 0 = 0 + c * 1
    rw [Gf.G.mul_zero, Gf.G.add_zero, Gf.G.zero_add, Gf.G.mul_one]
  | a :: l => by
    show a + x * Gf.ev (l ++ [c]) x = (a + x * Gf.ev l x) + c * (pw x l.length * x)
    rw [ev_snoc x c l, Gf.G.mul_add]
    ac_rfl
theorem gs_length (l : List Int) : (gs l).length = l.length := by simp [gs]
theorem gs_take (l : List Int) {k : Nat} (h : k < l.length) : (gs l).take (k + 1) = (gs l).take k ++ [toG (l.getD k 0)] := by
  rw [List.take_add_one]
  congr 1
  simp [gs, List.getD, List.getElem?_eq_getElem h]
/-- The value of the first k digits. -/
def evI (l : List Int) (x : Int) (k : Nat) : Gf.G := Gf.ev ((gs l).take k) (toG x)
theorem evI_succ {l : List Int} {x : Int} (k : Nat) (h : k < l.length) (hl : allI dig l = true) (hx : dig x = true) (hk : k ≤ 1000000) :
    (addA ((evI l x k).v : Nat) ((mulA (l.getD k 0) ((powA x k).1 : Nat)).1 : Nat)).1 = (evI l x (k + 1)).v := by
  have e1 : powA x k = ((pw (toG x) k).v, true) := by
    have := powA_G (toG x) k hk
    rwa [toG_v hx] at this
  have e2 : ∀ b : Gf.G, mulA (l.getD k 0) (b.v : Nat) = ((toG (l.getD k 0) * b).v, true) := fun b => by
    have := mulA_G (toG (l.getD k 0)) b
    rwa [toG_v (allI_at hl h)] at this
  rw [e1, e2, addA_G]
  show (evI l x k + toG (l.getD k 0) * pw (toG x) k).v = _
  unfold evI
  rw [gs_take l h, ev_snoc, List.length_take, gs_length, Nat.min_eq_left (by omega)]
def evalA (l : List Int) (x : Int) : Nat × Bool := if l.length ≤ 255 ∧ allI dig l = true ∧ dig x = true then ((Gf.ev (gs l) (toG x)).v, true) else (0, false)
theorem evI_all (l : List Int) (x : Int) : evI l x l.length = Gf.ev (gs l) (toG x) := by rw [evI, List.take_of_length_le (by rw [gs_length]; exact Nat.le_refl _)]

/-! ### fold -/
theorem foldI_any (F : FuncId) (hF : ∀ (a : Array Value) (w : World), (callFunc F a).run Try.prog w = .ok (.enter F a) w) (p0 p1 : Value) (l : List Int) (S : Nat → Int) (A : Option Addr) (c : Nat) (hl : l.length ≤ 9223372036854775807) (w : World) (hs : Sl w A (intsI l))
    (hstep : ∀ k, k < l.length → ∀ w1, Below w.heap.size w w1 → Calls Try.prog F #[.int .i64 (S k), .int .i64 k, .int .i64 (l.getD k 0), p0, p1] w1 fun e w' => e = .returned (.int .i64 (S (k + 1))) ∧ Below w1.heap.size w1 w') :
    Calls Try.prog 52 #[.slice A l.length c, .int .i64 (S 0), .func (.func F) #[] #[p0, p1]] w fun e w' => e = .returned (.int .i64 (S l.length)) ∧ Below w.heap.size w w' := by
  have HS := Lib.hid hstep
  clear hstep
  go_enter Try.func52, Try.ntmps52
  go_wp2
  go_loopw [7, 13] (fun s i wr => ∃ k : Nat, i = .int .i64 k ∧ s = .int .i64 (S k) ∧ k ≤ l.length ∧ Below w.heap.size w wr) (fun _ i _ => l.length - (intOf i).toNat)
  case atStart => exact ⟨0, rfl, rfl, by omega, Below.refl _ _⟩
  case round =>
    obtain ⟨k, rfl, rfl, hk, hb⟩ := hrel
    by_cases hlt : k < l.length
    · have HC := Lib.hid (HS.out k hlt wr hb)
      obtain ⟨b, off, rfl, hc⟩ := sl_int (hs.keep hb) hlt
      generalize l.getD k 0 = x at *
      generalize hy : S (k + 1) = y at *
      have HY := Lib.hid hy
      clear hy
      go_wp2_with fail
      refine HC.out.mono ?_
      rintro e w1 ⟨rfl, hb1⟩
      replace hb := hb.next' hb1
      go_wp2
      go_roundw
      case rel => exact ⟨k + 1, by go_num, by rw [HY.out], by omega, hb⟩
      case measure => simp [intOf]; omega
    · obtain rfl : k = l.length := by omega
      go_wp2
      go_ret
      exact ⟨rfl, hb⟩

/-! ### Eval -/
/-- What Eval's closure needs. -/
def EvBox (w : World) (N M g : Nat) (x : Int) : Prop := Fld w g ∧ w.cell? ⟨N, 0, none⟩ = some (.pointer (some ⟨g, 0, none⟩)) ∧ w.cell? ⟨M, 0, none⟩ = some (.int .i64 x) ∧ N < w.heap.size ∧ M < w.heap.size
theorem EvBox.keep {w w' : World} {N M g : Nat} {x : Int} (h : EvBox w N M g x) (hb : Below w.heap.size w w') : EvBox w' N M g x :=
  ⟨h.1.keep hb, (hb.cell (p := ⟨N, 0, none⟩) h.2.2.2.1).trans h.2.1, (hb.cell (p := ⟨M, 0, none⟩) h.2.2.2.2).trans h.2.2.1, Nat.lt_of_lt_of_le h.2.2.2.1 hb.size, Nat.lt_of_lt_of_le h.2.2.2.2 hb.size⟩
theorem evalStep_any (N M g : Nat) (x s k d : Int) (w : World) (h : EvBox w N M g x) :
    Calls Try.prog 53 #[.int .i64 s, .int .i64 k, .int .i64 d, .pointer (some ⟨N, 0, none⟩), .pointer (some ⟨M, 0, none⟩)] w
      fun e w' => e = .returned (.int .i64 ((addA s ((mulA d ((powA x k).1 : Nat)).1 : Nat)).1 : Nat)) ∧ Below w.heap.size w w' := by
  obtain ⟨hf, hN, hM, hNl, hMl⟩ := h
  obtain ⟨⟨p, p'⟩, hp⟩ : ∃ r, powA x k = r := ⟨_, rfl⟩
  rw [hp]
  have HP := Lib.hid hp
  clear hp
  go_enter Try.func53, Try.ntmps53
  go_wp2_with fail
  refine (pow_any g x k _ hf).mono ?_
  rw [HP.out]
  rintro e w1 ⟨rfl, rfl⟩
  unfold two
  go_wp2_with fail
  refine (ptimes_any g d p _ hf).mono ?_
  rintro e w1 ⟨rfl, m, rfl⟩
  go_wp2_with fail
  refine (pplus_any _ _ _).mono ?_
  rintro e w1 ⟨rfl, rfl⟩
  go_wp2
  go_ret
  exact ⟨rfl, Below.drewN0 _ _⟩
set_option maxHeartbeats 1000000 in
theorem eval_any (l : List Int) (x : Int) (A : Option Addr) (c : Nat) (hl : l.length ≤ 9223372036854775807) (w : World) (hs : Sl w A (intsI l)) :
    Calls Try.prog 24 #[.slice A l.length c, .int .i64 x] w fun e w' => e = two (evalA l x) ∧ Below w.heap.size w w' := by
  have hb0 : Below w.heap.size w (w.alloc (.cells #[.int .i64 x] 3)) := Below.alloc0 _ _
  have hx0 : (w.alloc (.cells #[.int .i64 x] 3)).cell? ⟨w.heap.size, 0, none⟩ = some (.int .i64 x) := (cell_of_row _ _ _ _ _ _ (heap_alloc_new w _)).trans rfl
  have hs0 := hs.keep hb0
  by_cases h1 : l.length ≤ 255
  · cases h2 : allI dig l with
    | false =>
      have hr : evalA l x = (0, false) := by simp [evalA, h2]
      rw [hr]
      go_enter Try.func24, Try.ntmps24
      go_wp2_with fail
      refine (areDigits_any l A c hl _ hs0).mono ?_
      rintro e w1 ⟨rfl, rfl⟩
      go_wp2
      go_ret2
      exact ⟨rfl, hb0⟩
    | true =>
      cases h3 : dig x with
      | false =>
        have hr : evalA l x = (0, false) := by simp [evalA, h3]
        rw [hr]
        go_enter Try.func24, Try.ntmps24
        go_wp2_with fail
        refine (areDigits_any l A c hl _ hs0).mono ?_
        rintro e w1 ⟨rfl, rfl⟩
        go_wp2_with fail
        refine (pIsDigit_any x _).mono ?_
        rintro e w1 ⟨rfl, rfl⟩
        go_wp2
        go_ret2
        exact ⟨rfl, hb0⟩
      | true =>
        have hr : evalA l x = ((Gf.ev (gs l) (toG x)).v, true) := by simp [evalA, h1, h2, h3]
        rw [hr]
        have hend := Lib.hid (evI_all l x)
        have HST : Hid (∀ k, k < l.length → (addA ((evI l x k).v : Nat) ((mulA (l.getD k 0) ((powA x k).1 : Nat)).1 : Nat)).1 = (evI l x (k + 1)).v) := Lib.hid (fun k hk => evI_succ k hk h2 h3 (by omega))
        have h00 : Hid (((evI l x 0).v : Int) = 0) := Lib.hid rfl
        go_enter Try.func24, Try.ntmps24
        go_wp2_with fail
        generalize w.alloc (.cells #[.int .i64 x] 3) = W0 at *
        refine (areDigits_any l A c hl _ hs0).mono ?_
        rintro e W0 ⟨rfl, rfl⟩
        go_wp2_with fail
        refine (pIsDigit_any x _).mono ?_
        rintro e W0 ⟨rfl, rfl⟩
        go_wp2_with fail
        refine (new_any _).mono ?_
        rintro e w2 ⟨rfl, hf, hb2⟩
        have hx2 := (hb2.cell (p := ⟨w.heap.size, 0, none⟩) (block_lt_of_cell hx0)).trans hx0
        have hs2 := hs0.keep hb2
        replace hb2 := hb0.next' hb2
        clear hs0 hx0 hb0
        generalize W0.heap.size = g at hf ⊢
        have hb3 : Below w.heap.size w (w2.alloc (.cells #[.pointer (some ⟨g, 0, none⟩)] 62)) := hb2.al _
        have hk3 := Below.alloc0 w2 (.cells #[.pointer (some ⟨g, 0, none⟩)] 62)
        have hs3 := hs2.keep hk3
        have hbox : EvBox (w2.alloc (.cells #[.pointer (some ⟨g, 0, none⟩)] 62)) w2.heap.size w.heap.size g x :=
          ⟨hf.keep hk3, (cell_of_row _ _ _ _ _ _ (heap_alloc_new w2 _)).trans rfl, (hk3.cell (p := ⟨w.heap.size, 0, none⟩) (block_lt_of_cell hx2)).trans hx2, by simp, Nat.lt_of_lt_of_le (block_lt_of_cell hx2) hk3.size⟩
        have hmf : ∀ (fn : Fn) (first cap : Array Value) (w : World), (Instr.makeFunc fn first cap).run Try.prog w = .ok (.func fn first cap) w := fun _ _ _ _ => rfl
        go_wp2_with fail
        generalize w2.alloc (.cells #[.pointer (some ⟨g, 0, none⟩)] 62) = W3 at *
        have HFO := foldI_any 53 (fun _ _ => rfl) (.pointer (some ⟨w2.heap.size, 0, none⟩)) (.pointer (some ⟨w.heap.size, 0, none⟩)) l (fun k => ((evI l x k).v : Nat)) A c hl W3 hs3 (fun k hk w1 hb => by
          have h := evalStep_any w2.heap.size w.heap.size g x ((evI l x k).v : Nat) k (l.getD k 0) w1 (hbox.keep hb)
          rw [HST.out k hk] at h
          exact h)
        simp only [h00.out, hend.out] at HFO
        refine HFO.mono ?_
        rintro e w4 ⟨rfl, hb4⟩
        go_wp2
        go_ret2
        exact ⟨rfl, hb3.next' hb4⟩
  · have hr : evalA l x = (0, false) := by simp [evalA]; omega
    rw [hr]
    go_enter Try.func24, Try.ntmps24
    go_wp2
    go_ret2
    exact ⟨rfl, hb0⟩
end Go.Proofs.Ytljckcegcfidoaa

/-
  share: rows of 32 digits and their texts, as plain mathematics.
-/
namespace Go.Proofs.Ytljckcegcfidoaa
open Go.RowKit Go.Kx

/-- A row's cells. -/
def rowV (R : Nat → Gf.G) : Array Value := rowA .u8 32 (fun j => (R j).v)
theorem rowV_size (R : Nat → Gf.G) : (rowV R).size = 32 := rowA_size _ _ _
theorem rowV_congr {R S : Nat → Gf.G} (h : ∀ j, j < 32 → R j = S j) : rowV R = rowV S := by
  unfold rowV rowA
  congr 1
  refine List.map_congr_left fun j hj => ?_
  dsimp only
  rw [h j (List.mem_range.1 hj)]
theorem rowV_one (R : Nat → Gf.G) : (rowV R).all (·.oneCell') = true := all_one_ints (k := .u8) (g := fun j => ((R j).v : Nat)) (n := 32) rfl
theorem rowV_at (R : Nat → Gf.G) {j : Nat} (h : j < 32) : (rowV R)[j]? = some (.int .u8 ((R j).v : Nat)) := rowA_at _ _ _ _ h
/-- A text's digits. -/
def gOf (s : ByteArray) (j : Nat) : Gf.G := ⟨(s.data.toList.getD j 0).toNat, UInt8.toNat_lt _⟩
def txtL (R : Nat → Gf.G) : List UInt8 := (List.range 32).map fun j => UInt8.ofNat (R j).v
def txt (R : Nat → Gf.G) : ByteArray := ⟨(txtL R).toArray⟩
theorem txtL_length (R : Nat → Gf.G) : (txtL R).length = 32 := by simp [txtL]
theorem txt_size (R : Nat → Gf.G) : (txt R).size = 32 := by rw [txt, size_mk, txtL_length]
theorem txtL_at (R : Nat → Gf.G) {j : Nat} (h : j < 32) : (txtL R)[j]? = some (UInt8.ofNat (R j).v) := by simp [txtL, h]
theorem gOf_txt (R : Nat → Gf.G) {j : Nat} (h : j < 32) : gOf (txt R) j = R j := by
  apply Gf.G.ext'
  show ((txtL R).getD j 0).toNat = _
  rw [List.getD, txtL_at R h]
  have := (R j).lt
  simp
  omega
theorem txt_congr {R S : Nat → Gf.G} (h : ∀ j, j < 32 → R j = S j) : txt R = txt S := by
  unfold txt txtL
  congr 2
  refine List.map_congr_left fun j hj => ?_
  rw [h j (List.mem_range.1 hj)]
theorem txt_inj {R S : Nat → Gf.G} (h : txt R = txt S) : ∀ j, j < 32 → R j = S j := fun j hj => by rw [← gOf_txt R hj, h, gOf_txt S hj]
theorem txt_gOf {s : ByteArray} (h : s.size = 32) : txt (gOf s) = s := by
  obtain ⟨⟨l⟩⟩ := s
  have hl : l.length = 32 := h
  unfold txt
  congr 2
  apply List.ext_getElem?
  intro j
  by_cases hj : j < 32
  · rw [txtL_at _ hj]
    show some (UInt8.ofNat (l.getD j 0).toNat) = l[j]?
    rw [List.getD, List.getElem?_eq_getElem (by omega)]
    simp
  · rw [List.getElem?_eq_none (by rw [txtL_length]; omega), List.getElem?_eq_none (by omega)]
theorem gOf_ext {s t : ByteArray} (hs : s.size = 32) (ht : t.size = 32) (h : ∀ j, j < 32 → gOf s j = gOf t j) : s = t := by
  rw [← txt_gOf hs, ← txt_gOf ht, txt_congr h]
end Go.Proofs.Ytljckcegcfidoaa

/-
  The bytes of a string in a block of their own (any program).
-/
namespace Go.Proofs.Ytljckcegcfidoaa
open Go.RowKit Go.Kx

/-- The bytes' block: its first z cells, and that they may be written. -/
def Cells (w : World) (g z : Nat) (f : Nat → Nat) : Prop := g < w.heap.size ∧ ∀ j, j < z → w.cell? ⟨g, j, none⟩ = some (.int .u8 (f j : Nat)) ∧ w.frozen? ⟨g, j, none⟩ = false
theorem Cells.keep {w w' : World} {g z : Nat} {f : Nat → Nat} (h : Cells w g z f) (hb : Below w.heap.size w w') : Cells w' g z f :=
  ⟨Nat.lt_of_lt_of_le h.1 hb.size, fun j hj => ⟨(hb.cell (p := ⟨g, j, none⟩) h.1).trans (h.2 j hj).1, (hb.frozen (p := ⟨g, j, none⟩) h.1).trans (h.2 j hj).2⟩⟩
theorem Cells.set {w : World} {g z k : Nat} {f f' : Nat → Nat} (h : Cells w g z f) (hk : k < z) (x : Nat) (hf : ∀ j, (if j = k then x else f j) = f' j) : Cells (w.setCell ⟨g, k, none⟩ (.int .u8 (x : Nat))) g z f' := by
  refine ⟨by simpa using h.1, fun j hj => ⟨?_, by rw [World.frozen?_setCell]; exact (h.2 j hj).2⟩⟩
  rw [← hf j]
  by_cases hjk : j = k
  · subst hjk
    rw [if_pos rfl]
    exact World.cell?_setCell_same _ _ _ (h.2 j hj).1
  · rw [if_neg hjk, World.cell?_setCell_other _ _ _ _ (fun h => hjk (congrArg Addr.off h).symm)]
    exact (h.2 j hj).1
theorem Cells.setOther {w : World} {g z : Nat} {f : Nat → Nat} (h : Cells w g z f) {b j : Nat} (hne : b ≠ g) (v : Value) : Cells (w.setCell ⟨b, j, none⟩ v) g z f := by
  refine ⟨by simpa using h.1, fun i hi => ⟨?_, by rw [World.frozen?_setCell]; exact (h.2 i hi).2⟩⟩
  rw [World.cell?_setCell_other _ _ _ _ (fun h => hne (congrArg Addr.block h))]
  exact (h.2 i hi).1
theorem Cells.drew {w : World} {g z : Nat} {f : Nat → Nat} (h : Cells w g z f) : Cells w.drew g z f := h
theorem Cells.new (V : World) (s : ByteArray) (e : TypeId) (c : Nat) : Cells (V.drew.alloc (.cells (bytesRow s c) e ((bytesRow s c).size, (bytesRow s c).size + 1))) V.heap.size s.size (fun j => (s.data.toList.getD j 0).toNat) := by
  have hnew : (V.drew.alloc (.cells (bytesRow s c) e ((bytesRow s c).size, (bytesRow s c).size + 1))).heap[V.heap.size]? = some (.cells (bytesRow s c) e ((bytesRow s c).size, (bytesRow s c).size + 1)) := heap_alloc_new V.drew _
  refine ⟨(Array.getElem?_eq_some_iff.1 hnew).1, fun j hj => ⟨?_, ?_⟩⟩
  · rw [cell_of_row _ _ _ _ _ _ hnew, bytesRow, Array.getElem?_append_left (by simpa using hj)]
    simp [List.getD_eq_getElem?_getD, hj]
  · have hz : j < (bytesRow s c).size := by simp [bytesRow]; omega
    unfold World.frozen?
    rw [hnew]
    simp
    omega
end Go.Proofs.Ytljckcegcfidoaa

/-
  field: the contracts of the closure that multiplies a byte, of times, each and Bytes.
-/
namespace Go.Proofs.Ytljckcegcfidoaa
open Go.RowKit Go.Kx
set_option maxRecDepth 20000

/-- A field's Mul as a value. -/
def mv (g : Nat) : Value := .func (.func 72) #[.pointer (some ⟨g, 0, none⟩)] #[]
/-- The closure whose boxes lie at N and behind it. -/
def clo (N : Nat) : Value := .func (.func 79) #[] #[.pointer (some ⟨N, 0, none⟩), .pointer (some ⟨N + 1, 0, none⟩)]
/-- What the closure needs. -/
def Turns (w : World) (g N a : Nat) : Prop := Fld w g ∧ w.cell? ⟨N, 0, none⟩ = some (mv g) ∧ w.cell? ⟨N + 1, 0, none⟩ = some (.int .i64 (a : Nat)) ∧ N + 1 < w.heap.size
theorem Turns.keep {w w' : World} {g N a : Nat} (h : Turns w g N a) (hb : Below w.heap.size w w') : Turns w' g N a :=
  ⟨h.1.keep hb, (hb.cell (p := ⟨N, 0, none⟩) (by have := h.2.2.2; show N < _; omega)).trans h.2.1, (hb.cell (p := ⟨N + 1, 0, none⟩) h.2.2.2).trans h.2.2.1, Nat.lt_of_lt_of_le h.2.2.2 hb.size⟩
theorem fturn_any (g N a x : Nat) (ha : a < 256) (hx : x < 256) (w : World) (h : Turns w g N a) :
    Calls Try.prog 79 #[.int .u8 x, .pointer (some ⟨N, 0, none⟩), .pointer (some ⟨N + 1, 0, none⟩)] w fun e w' => e = .returned (.int .u8 (Gf.mulG a x : Nat)) ∧ Below w.heap.size w w' := by
  obtain ⟨hf, h0, h1, _⟩ := h
  unfold mv at h0
  have hl := Gf.mulG_lt x ha
  have e1 : Hid (mulA (a : Nat) (x : Nat) = (Gf.mulG a x, true)) := Lib.hid (by simp [mulA, dig_of ha, dig_of hx])
  have wx : IntKind.i64.wrap (x : Int) = (x : Int) := wrapNat (by omega)
  generalize Gf.mulG a x = p at *
  have wp : IntKind.u8.wrap (p : Int) = (p : Int) := by simp only [IntKind.wrap, IntKind.bits, IntKind.signed]; simp; omega
  go_enter Try.func79, Try.ntmps79
  go_wp2_with fail
  refine (mul_any g _ _ _ hf).mono ?_
  rw [e1.out]
  rintro e w1 ⟨rfl, hb⟩
  unfold two
  go_wp2
  go_ret
  exact ⟨rfl, hb⟩
theorem turner_any (g a : Nat) (w : World) (hf : Fld w g) :
    Calls Try.prog 77 #[mv g, .int .i64 (a : Nat)] w fun e w' => e = .returned (clo w.heap.size) ∧ Turns w' g w.heap.size a ∧ Below w.heap.size w w' := by
  have hmf : ∀ (fn : Fn) (first cap : Array Value) (w : World), (Instr.makeFunc fn first cap).run Try.prog w = .ok (.func fn first cap) w := fun _ _ _ _ => rfl
  unfold mv clo
  go_enter Try.func77, Try.ntmps77
  go_wp2
  go_ret
  have hb : Below w.heap.size w ((w.alloc (.cells #[mv g] 81)).alloc (.cells #[.int .i64 (a : Nat)] 3)) := (Below.alloc0 w _).al _
  refine ⟨rfl, ⟨hf.keep hb, ?_, ?_, by simp⟩, hb⟩
  · have h1 : (w.alloc (.cells #[mv g] 81)).heap[w.heap.size]? = _ := heap_alloc_new w _
    have h2 := (Below.heap_alloc (w.alloc (.cells #[mv g] 81)) (.cells #[.int .i64 (a : Nat)] 3) w.heap.size (by simp)).trans h1
    exact (cell_of_row _ _ _ _ _ _ h2).trans rfl
  · have h1 := heap_alloc_new (w.alloc (.cells #[mv g] 81)) (.cells #[.int .i64 (a : Nat)] 3)
    rw [World.size_alloc] at h1
    exact (cell_of_row _ _ _ _ _ _ h1).trans rfl

/-! ### each -/
def prodL (a : Nat) (s : List UInt8) : List UInt8 := s.map fun x => UInt8.ofNat (Gf.mulG a x.toNat)
def proAt (a : Nat) (s : List UInt8) (k j : Nat) : Nat := if j < k then Gf.mulG a (s.getD j 0).toNat else (s.getD j 0).toNat
theorem proAt_same (a : Nat) (s : List UInt8) (k : Nat) : proAt a s k k = (s.getD k 0).toNat := if_neg (by omega)
theorem proAt_zero (a : Nat) (s : List UInt8) (j : Nat) : proAt a s 0 j = (s.getD j 0).toNat := if_neg (by omega)
theorem proAt_set (a : Nat) (s : List UInt8) (k j : Nat) : (if j = k then Gf.mulG a (s.getD k 0).toNat else proAt a s k j) = proAt a s (k + 1) j := by
  unfold proAt
  by_cases h : j = k
  · subst h; simp
  · rw [if_neg h]
    by_cases h2 : j < k
    · rw [if_pos h2, if_pos (by omega)]
    · rw [if_neg h2, if_neg (by omega)]
theorem pro_conv (a : Nat) (ha : a < 256) (s : ByteArray) (G c : Nat) (wr : World) (h : Cells wr G s.size (proAt a s.data.toList s.size)) :
    (convert 54 9 (.slice (some ⟨G, 0, none⟩) s.size c)).run Try.prog wr = .ok (.string ⟨(prodL a s.data.toList).toArray⟩) wr := by
  have hl : (prodL a s.data.toList).length = s.size := by simp [prodL]
  have hc := run_convert_bytes_back (P := Try.prog) wr 54 9 5 ⟨G, 0, none⟩ c (prodL a s.data.toList) Try.underlying54 Try.underlying5 Try.underlying9 (fun j hj => by
    have hj' : j < s.size := by rw [hl] at hj; exact hj
    rw [show (⟨G, 0, none⟩ : Addr).add j = ⟨G, j, none⟩ by unfold Addr.add; split <;> simp_all, (h.2 j hj').1, proAt, if_pos hj']
    have hm := Gf.mulG_lt (s.data.toList.getD j 0).toNat ha
    have hj2 : j < s.data.toList.length := by simpa using hj'
    have e : (prodL a s.data.toList)[j] = UInt8.ofNat (Gf.mulG a (s.data.toList.getD j 0).toNat) := by
      have h1 : (prodL a s.data.toList)[j] = UInt8.ofNat (Gf.mulG a (s.data.toList[j]).toNat) := by simp only [prodL, List.getElem_map]
      rw [h1, List.getD_eq_getElem?_getD, List.getElem?_eq_getElem hj2]
      rfl
    rw [e, UInt8.toNat_ofNat', Nat.mod_eq_of_lt hm])
  rwa [hl] at hc
set_option maxHeartbeats 1000000 in
theorem each_any (g N a : Nat) (ha : a < 256) (s : ByteArray) (hs : s.size ≤ 1000000) (r : ByteArray) (hr : ⟨(prodL a s.data.toList).toArray⟩ = r) (w : World) (ht : Turns w g N a) :
    Calls Try.prog 76 #[.string s, clo N] w fun e w' => e = .returned (.string r) ∧ Below w.heap.size w w' := by
  have hconv : ∀ V : World, (convert 9 54 (.string s)).run Try.prog V = .ok (.slice (some ⟨V.heap.size, 0, none⟩) s.size (grownCap V s.size 0 5)) (V.drew.alloc (.cells (bytesRow s (grownCap V s.size 0 5)) 5 ((bytesRow s (grownCap V s.size 0 5)).size, (bytesRow s (grownCap V s.size 0 5)).size + 1))) :=
    fun V => run_bytes_of_string V _ _ _ s Try.underlying9 Try.underlying54 Try.underlying5
  have HCV := Lib.hid hconv
  have HR := Lib.hid hr
  clear hconv hr
  unfold clo
  go_enter Try.func76, Try.ntmps76
  go_wp2_with fail
  have e1 := HCV.out w
  generalize grownCap w s.size 0 5 = c at e1
  have hcs := Cells.new w s 5 c
  have hb4 := (Below.drew0 w).al (.cells (bytesRow s c) 5 ((bytesRow s c).size, (bytesRow s c).size + 1))
  rw [e1]
  clear e1 HCV
  generalize World.alloc _ _ = W4 at *
  obtain ⟨F, hF⟩ : ∃ F, F = proAt a s.data.toList := ⟨_, rfl⟩
  have HSET : Hid (∀ k j, (if j = k then Gf.mulG a (s.data.toList.getD k 0).toNat else F k j) = F (k + 1) j) := Lib.hid (by rw [hF]; exact proAt_set _ _)
  have HSAME : Hid (∀ k, F k k = (s.data.toList.getD k 0).toNat) := Lib.hid (by rw [hF]; exact proAt_same _ _)
  have hcs0 : Cells W4 w.heap.size s.size (F 0) := by
    rw [hF]
    have e : (fun j => (s.data.toList.getD j 0).toNat) = proAt a s.data.toList 0 := funext fun j => (proAt_zero _ _ _).symm
    rw [← e]
    exact hcs
  have HEND : Hid (∀ wr, Cells wr w.heap.size s.size (F s.size) → (convert 54 9 (.slice (some ⟨w.heap.size, 0, none⟩) s.size c)).run Try.prog wr = .ok (.string r) wr) := Lib.hid (by
    intro wr h
    rw [hF] at h
    rw [pro_conv a ha _ _ _ _ h, HR.out])
  have HF := Lib.hid hF
  clear hF hcs HR
  go_wp2
  go_loopw [12] (fun v wr => ∃ k : Nat, v = .int .i64 k ∧ k ≤ s.size ∧ Cells wr w.heap.size s.size (F k) ∧ Below w.heap.size w wr) (fun v _ => s.size - (intOf v).toNat)
  case atStart => exact ⟨0, rfl, by omega, hcs0, hb4⟩
  case round =>
    clear hcs0 hb4
    obtain ⟨k, rfl, hk, hcs, hb⟩ := hrel
    have htw := ht.keep hb
    by_cases hlt : k < s.size
    · have hload := (hcs.2 k hlt).1
      have hsame := HSAME.out k
      have hfz := (hcs.2 k hlt).2
      have hbx : (s.data.toList.getD k 0).toNat < 256 := UInt8.toNat_lt _
      have hset := Lib.hid (HSET.out k)
      rw [hsame] at hload
      generalize (s.data.toList.getD k 0).toNat = x at *
      have HSM := Lib.hid hsame
      clear hsame
      go_wp2_with fail
      refine (fturn_any g N a x ha hbx _ htw).mono ?_
      rintro e w2 ⟨rfl, hb2⟩
      replace hcs := hcs.keep hb2
      replace hb := hb.next' hb2
      have hload2 := (hcs.2 k hlt).1
      have hfz2 := (hcs.2 k hlt).2
      clear hload hfz htw hb2
      generalize F k k = y0 at hload2
      generalize Gf.mulG a x = p at *
      go_wp2
      go_roundw
      case rel => exact ⟨k + 1, by go_num, by omega, hcs.set hlt p hset.out, hb.setCell (p := ⟨w.heap.size, k, none⟩) (by simp) _⟩
      case measure => simp [intOf]; omega
    · obtain rfl : k = s.size := by omega
      have e1 := HEND.out wr hcs
      go_wp2
      go_ret
      exact ⟨rfl, hb⟩

/-! ### Bytes -/
def bytesA (a : Int) (s : ByteArray) : ByteArray × Bool := if dig a = true then (⟨(prodL a.toNat s.data.toList).toArray⟩, true) else (⟨#[]⟩, false)
def strB (r : ByteArray × Bool) : Ending := .returned (.tuple #[.string r.1, .bool r.2])
theorem fbytes_none (a : Int) (s : ByteArray) (w : World) : Calls Try.prog 68 #[.pointer none, .int .i64 a, .string s] w fun e w' => e = strB (⟨#[]⟩, false) ∧ w' = w := by
  go_enter Try.func68, Try.ntmps68
  go_wp2
  go_ret2
  exact ⟨rfl, rfl⟩
theorem fbytes_any (g : Nat) (a : Int) (s : ByteArray) (hs : s.size ≤ 1000000) (w : World) (hf : Fld w g) : Calls Try.prog 68 #[.pointer (some ⟨g, 0, none⟩), .int .i64 a, .string s] w fun e w' => e = strB (bytesA a s) ∧ Below w.heap.size w w' := by
  cases ha : dig a with
  | false =>
    have hr : bytesA a s = (⟨#[]⟩, false) := by simp [bytesA, ha]
    rw [hr]
    go_enter Try.func68, Try.ntmps68
    go_wp2_with fail
    refine (isDigit_any _ _).mono ?_
    rintro e w1 ⟨rfl, rfl⟩
    go_wp2
    go_ret2
    exact ⟨rfl, Below.refl _ _⟩
  | true =>
    have hr : bytesA a s = (⟨(prodL a.toNat s.data.toList).toArray⟩, true) := by simp [bytesA, ha]
    rw [hr]
    obtain ⟨m, rfl, hm⟩ := dig_nat ha
    obtain ⟨r, hr⟩ : ∃ r : ByteArray, ⟨(prodL m s.data.toList).toArray⟩ = r := ⟨_, rfl⟩
    have HR := Lib.hid hr
    show Calls _ _ _ _ fun e w' => e = strB (⟨(prodL m s.data.toList).toArray⟩, true) ∧ _
    rw [hr]
    clear hr
    have hmf : ∀ (fn : Fn) (first cap : Array Value) (w : World), (Instr.makeFunc fn first cap).run Try.prog w = .ok (.func fn first cap) w := fun _ _ _ _ => rfl
    go_enter Try.func68, Try.ntmps68
    go_wp2_with fail
    refine (isDigit_any _ _).mono ?_
    rintro e w1 ⟨rfl, rfl⟩
    go_wp2_with fail
    refine (turner_any g m _ hf).mono ?_
    rintro e w2 ⟨rfl, ht, hb⟩
    generalize hN : w1.heap.size = N at ht ⊢
    go_wp2_with fail
    refine (each_any g N m hm s hs r HR.out _ ht).mono ?_
    rintro e w3 ⟨rfl, hb3⟩
    subst hN
    go_wp2
    go_ret2
    exact ⟨rfl, hb.next' hb3⟩
end Go.Proofs.Ytljckcegcfidoaa

/-
  share: the contracts of a row's text, of rowOf, of plus and of times.
-/
namespace Go.Proofs.Ytljckcegcfidoaa
open Go.RowKit Go.Kx
set_option maxRecDepth 20000

theorem row_info : (Try.prog.info? 52).map (·.size) = some 32 := by kernel_rfl
theorem row_info' (R : Nat → Gf.G) : (Try.prog.info? 52).map (·.size) = some (rowV R).size := by rw [rowV_size]; exact row_info
def zero32 : Array Value := #[.int .u8 0, .int .u8 0, .int .u8 0, .int .u8 0, .int .u8 0, .int .u8 0, .int .u8 0, .int .u8 0, .int .u8 0, .int .u8 0, .int .u8 0, .int .u8 0, .int .u8 0, .int .u8 0, .int .u8 0, .int .u8 0, .int .u8 0, .int .u8 0, .int .u8 0, .int .u8 0, .int .u8 0, .int .u8 0, .int .u8 0, .int .u8 0, .int .u8 0, .int .u8 0, .int .u8 0, .int .u8 0, .int .u8 0, .int .u8 0, .int .u8 0, .int .u8 0]
theorem zero32_eq : zero32 = (List.replicate 32 (Value.int .u8 0)).toArray := rfl

/-! ### text -/
theorem text_conv (R : Nat → Gf.G) (W : World) (b : Nat) (h : W.rowIs b 52 32 (fun j => .int .u8 ((R j).v : Nat))) :
    (convert 54 9 (.slice (some ⟨b, 0, none⟩) 32 32)).run Try.prog W = .ok (.string (txt R)) W := by
  have hc := run_convert_bytes_back (P := Try.prog) W 54 9 5 ⟨b, 0, none⟩ 32 (txtL R) Try.underlying54 Try.underlying5 Try.underlying9 (fun j hj => by
    have hj' : j < 32 := by rw [txtL_length] at hj; exact hj
    have := h.cell (i := j) hj'
    rw [show (⟨b, 0, none⟩ : Addr).add j = ⟨b, j, none⟩ by unfold Addr.add; split <;> simp_all, this]
    have e := txtL_at R hj'
    rw [List.getElem?_eq_getElem hj] at e
    have := (R j).lt
    rw [Option.some.inj e]
    simp
    omega)
  rwa [txtL_length] at hc
theorem text_any (R : Nat → Gf.G) (w : World) : Calls Try.prog 25 #[.agg (rowV R)] w fun e w' => e = .returned (.string (txt R)) ∧ Below w.heap.size w w' := by
  have s32 : (rowV R).size = 32 := rowV_size R
  have hr0 := World.rowIs_alloc w (rowV R) 52 (fun j => .int .u8 ((R j).v : Nat)) (fun j hj => rowV_at R (by omega))
  rw [s32] at hr0
  have hconv := text_conv R _ _ hr0
  have hb0 := Below.alloc0 w (.cells (rowV R) 52)
  generalize txt R = r at *
  generalize rowV R = d at *
  go_enter Try.func25, Try.ntmps25
  go_wp2
  go_ret
  exact ⟨rfl, hb0⟩

/-! ### rowOf -/
theorem rowOf_cells (s : ByteArray) (h : s.size = 32) : (List.take 0 (List.replicate 32 (Value.int .u8 0)) ++ Lib.byteCells s.data.toList ++ List.drop (0 + s.size) (List.replicate 32 (Value.int .u8 0))).toArray = rowV (gOf s) := by
  have hs : s.data.toList.length = s.size := by simp
  apply Array.ext_getElem?
  intro i
  rw [rowV, rowA]
  simp only [List.take_zero, List.nil_append, Nat.zero_add, List.drop_replicate, List.getElem?_toArray]
  by_cases hi : i < 32
  · rw [List.getElem?_map, List.getElem?_range hi]
    simp only [Option.map_some, gOf, List.getD_eq_getElem?_getD]
    rw [List.getElem?_append_left (by simp [Lib.byteCells]; omega), Lib.byteCells, List.getElem?_map, List.getElem?_eq_getElem (by omega)]
    rfl
  · rw [List.getElem?_eq_none (by simp [Lib.byteCells]; omega), List.getElem?_eq_none (by simp; omega)]
theorem copy_row (s : ByteArray) (h : s.size = 32) (d : Array Value) (hd : rowV (gOf s) = d) (g : Nat) (V : World) (hV : V.heap[g]? = some (.cells zero32 52 (0, 0))) :
    (Builtin.copy_ #[54, 9] 3 #[.slice (some ⟨g, 0, none⟩) 32 32, .string s]).run Try.prog V = .ok (goInt s.size) (V.setRow g d) := by
  rw [Lib.run_copy_row_string V _ _ _ 5 g 0 32 32 s zero32 52 Try.underlying54 (by kernel_rfl) hV (by omega) (by show _ ≤ 32; omega), ← hd, ← rowOf_cells s h]
  rfl
set_option maxHeartbeats 1000000 in
theorem rowOf_any (s : ByteArray) (h : s.size = 32) (w : World) : Calls Try.prog 41 #[.string s] w fun e w' => e = .returned (.agg (rowV (gOf s))) ∧ Below w.heap.size w w' := by
  obtain ⟨d, hd⟩ : ∃ d, rowV (gOf s) = d := ⟨_, rfl⟩
  have hds : d.size = 32 := by rw [← hd]; exact rowV_size _
  have hall : d.all (·.oneCell') = true := by rw [← hd]; exact rowV_one _
  have hinfd : (Try.prog.info? 52).map (·.size) = some d.size := by rw [hds]; exact row_info
  have hzd : zero32.size = d.size := by rw [hds]; rfl
  have HC := Lib.hid (copy_row s h d hd)
  have HD := Lib.hid hd
  have hinf : (Try.prog.info? 52).map (·.size) = some d.size := hinfd
  clear hd h
  go_enter Try.func41, Try.ntmps41
  go_wp2
  have hg : ((w.alloc (.cells zero32 52)).alloc (.cells zero32 52)).heap[w.heap.size + 1]? = some (.cells zero32 52 (0, 0)) := by
    have := heap_alloc_new (w.alloc (.cells zero32 52)) (.cells zero32 52)
    rwa [World.size_alloc] at this
  have hg0 : ((w.alloc (.cells zero32 52)).alloc (.cells zero32 52)).heap[w.heap.size]? = some (.cells zero32 52 (0, 0)) :=
    (Below.heap_alloc _ _ _ (by simp)).trans (heap_alloc_new w _)
  have hbw : Below w.heap.size w ((w.alloc (.cells zero32 52)).alloc (.cells zero32 52)) := (Below.alloc0 w _).al _
  have e1 := HC.out _ _ hg
  unfold zero32 at e1
  rw [e1]
  clear e1
  have hg1 := setRow_heap _ (w.heap.size + 1) _ d _ _ hg
  have hg2 := (setRow_other _ (w.heap.size + 1) w.heap.size d (by omega)).trans hg0
  have hb2 := hbw.setRow (g := w.heap.size + 1) (by omega) d
  unfold zero32 at hg1 hg2 hb2
  clear hg hg0 hbw
  generalize (World.setRow _ (w.heap.size + 1) d) = V at *
  go_wp2_with (first
    | (refine wpList_load_row rfl _ _ rfl (w.heap.size + 1) rfl _ _ _ _ hg1 Try.underlying52 rfl hinf ?_)
    | (refine wpList_store_row rfl _ _ _ rfl w.heap.size _ rfl rfl _ _ hg2 hinf hzd hall ?_))
  exact bodyPost_ret (v := .agg d) (results_cell_row rfl _ _ w.heap.size _ _ _ _ rfl (setRow_heap _ _ _ _ _ _ hg2) Try.underlying52 rfl hinf) rfl ⟨by rw [HD.out], hb2.setRow (Nat.le_refl _) _⟩

/-! ### plus -/
def plusAt (R O : Nat → Gf.G) (k j : Nat) : Gf.G := if j < k then R j + O j else R j
theorem plusAt_same (R O : Nat → Gf.G) (k : Nat) : plusAt R O k k = R k := if_neg (by omega)
theorem plusAt_zero (R O : Nat → Gf.G) (j : Nat) : plusAt R O 0 j = R j := if_neg (by omega)
theorem plusAt_set (R O : Nat → Gf.G) (k j : Nat) : (if j = k then R k + O k else plusAt R O k j) = plusAt R O (k + 1) j := by
  unfold plusAt
  by_cases h : j = k
  · subst h; simp
  · rw [if_neg h]
    by_cases h2 : j < k
    · rw [if_pos h2, if_pos (by omega)]
    · rw [if_neg h2, if_neg (by omega)]
theorem row_heap {W : World} {b : Nat} {R : Nat → Gf.G} (h : W.rowIs b 52 32 (fun j => .int .u8 ((R j).v : Nat))) : W.heap[b]? = some (.cells (rowV R) 52 (0, 0)) := rowIs_heap h
set_option maxHeartbeats 2000000 in
theorem splus_any (R O : Nat → Gf.G) (w : World) : Calls Try.prog 43 #[.agg (rowV R), .agg (rowV O)] w fun e w' => e = .returned (.agg (rowV fun j => R j + O j)) ∧ Below w.heap.size w w' := by
  have s32 : (rowV R).size = 32 := rowV_size R
  have s32' : (rowV O).size = 32 := rowV_size O
  have hr0 := World.rowIs_alloc w (rowV R) 52 (fun j => .int .u8 ((R j).v : Nat)) (fun j hj => rowV_at R (by omega))
  rw [s32] at hr0
  have ho0 : ((w.alloc (.cells (rowV R) 52)).alloc (.cells (rowV O) 52)).heap[w.heap.size + 1]? = some (.cells (rowV O) 52 (0, 0)) := by
    have := heap_alloc_new (w.alloc (.cells (rowV R) 52)) (.cells (rowV O) 52)
    rwa [World.size_alloc] at this
  have HI : Hid (∀ k : Nat, k < 32 → ∀ V : World, (Instr.index 52 (.agg (rowV O)) (.int .i64 (k : Int))).run Try.prog V = .ok (.int .u8 ((O k).v : Nat)) V) := Lib.hid (fun k hk V =>
    run_index_ints Try.underlying52 (by kernel_rfl) Try.underlying5 hk (rowV_at O hk) V)
  have HF : Hid (rowV (plusAt R O 32) = rowV fun j => R j + O j) := Lib.hid (rowV_congr fun j hj => if_pos hj)
  have hinfR := row_info' R
  have hinfO := row_info' O
  have hb0 : Below w.heap.size w (((w.alloc (.cells (rowV R) 52)).alloc (.cells (rowV O) 52)).alloc (.cells zero32 52)) := ((Below.alloc0 _ _).al _).al _
  have hz0 : (((w.alloc (.cells (rowV R) 52)).alloc (.cells (rowV O) 52)).alloc (.cells zero32 52)).heap[w.heap.size + 2]? = some (.cells zero32 52 (0, 0)) := by
    have := heap_alloc_new ((w.alloc (.cells (rowV R) 52)).alloc (.cells (rowV O) 52)) (.cells zero32 52)
    rwa [World.size_alloc, World.size_alloc] at this
  have hr1 := rowIs_keep (rowIs_keep hr0 (Below.alloc0 _ (.cells (rowV O) 52))) (Below.alloc0 _ (.cells zero32 52))
  have ho1 := (Below.heap_alloc _ (.cells zero32 52) _ (Array.getElem?_eq_some_iff.1 ho0).1).trans ho0
  clear hr0 ho0 s32 s32'
  generalize rowV R = dR at *
  generalize rowV O = dO at *
  unfold zero32 at hb0 hz0 hr1 ho1
  go_enter Try.func43, Try.ntmps43
  go_wp2_with (refine wpList_load_row rfl _ _ rfl (w.heap.size + 1) rfl _ _ _ _ ho1 Try.underlying52 rfl hinfO ?_)
  generalize World.alloc (World.alloc (World.alloc w _) _) _ = W at *
  obtain ⟨z, hz, hzs⟩ : ∃ z : Array Value, #[.int .u8 0, .int .u8 0, .int .u8 0, .int .u8 0, .int .u8 0, .int .u8 0, .int .u8 0, .int .u8 0, .int .u8 0, .int .u8 0, .int .u8 0, .int .u8 0, .int .u8 0, .int .u8 0, .int .u8 0, .int .u8 0, .int .u8 0, .int .u8 0, .int .u8 0, .int .u8 0, .int .u8 0, .int .u8 0, .int .u8 0, .int .u8 0, .int .u8 0, .int .u8 0, .int .u8 0, .int .u8 0, .int .u8 0, .int .u8 0, .int .u8 0, .int .u8 0] = z ∧ z.size = 32 := ⟨_, rfl, rfl⟩
  rw [hz] at hz0
  clear hz
  go_loopw [5, 6, 7, 8, 10] (fun _ _ _ _ i wr => ∃ k : Nat, k ≤ 32 ∧ i = .int .i64 k ∧ wr.rowIs w.heap.size 52 32 (fun j => .int .u8 ((plusAt R O k j).v : Nat)) ∧ wr.heap[w.heap.size + 2]? = some (.cells z 52 (0, 0)) ∧ Below w.heap.size w wr) (fun _ _ _ _ i _ => 32 - (intOf i).toNat)
  case atStart => exact ⟨0, by omega, rfl, hr1.congr fun j _ => by rw [plusAt_zero], hz0, hb0⟩
  case round =>
    clear hr1 hz0 hb0 ho1
    obtain ⟨k, hk, rfl, hr, hzr, hb⟩ := hrel
    by_cases hlt : k < 32
    · have hload := hr.cell (i := k) hlt
      have hfz := hr.frozen k
      rw [plusAt_same] at hload
      have hix := HI.out k hlt
      have HA : Hid (∀ V, Calls Try.prog 67 #[.int .i64 ((R k).v : Nat), .int .i64 ((O k).v : Nat)] V fun e w' => e = two ((R k + O k).v, true) ∧ w' = V) := Lib.hid (fun V => by rw [← addA_G]; exact fadd_any _ _ V)
      have HS := Lib.hid (fun j => plusAt_set R O k j)
      generalize R k + O k = s at *
      have la := (R k).lt
      have lb := (O k).lt
      have ls := s.lt
      generalize (R k).v = a at *
      generalize (O k).v = b at *
      have wa : IntKind.i64.wrap (a : Int) = (a : Int) := IntWalk.i64_in _ (by omega)
      have wb : IntKind.i64.wrap (b : Int) = (b : Int) := IntWalk.i64_in _ (by omega)
      have wx : IntKind.u8.wrap ((s.v : Nat) : Int) = ((s.v : Nat) : Int) := by simp only [IntKind.wrap, IntKind.bits, IntKind.signed]; simp; omega
      go_wp2_with fail
      refine (HA.out _).mono ?_
      rintro e wr ⟨rfl, rfl⟩
      unfold two
      go_wp2
      go_roundw
      case rel =>
        refine ⟨k + 1, by omega, by go_num, (hr.set k _).congr fun j _ => ?_, ?_, hb.setCell (p := ⟨w.heap.size, k, none⟩) (by simp) _⟩
        · rw [← HS.out]
          split <;> rfl
        · exact (Below.heap_setCell _ _ _ _ (by show w.heap.size + 2 ≠ w.heap.size; omega)).trans hzr
      case measure => simp [intOf]; omega
    · obtain rfl : k = 32 := by omega
      have hg1 := row_heap hr
      rw [HF.out] at hg1
      have hinfd := row_info' (fun j => R j + O j)
      have hzd : z.size = (rowV fun j => R j + O j).size := by rw [hzs, rowV_size]
      have hall := rowV_one (fun j => R j + O j)
      obtain ⟨d, hd⟩ : ∃ d, (rowV fun j => R j + O j) = d := ⟨_, rfl⟩
      have HD := Lib.hid hd
      rw [hd] at hg1 hinfd hzd hall
      clear hd
      go_wp2_with (first
        | (refine wpList_load_row rfl _ _ rfl w.heap.size rfl _ _ _ _ hg1 Try.underlying52 rfl hinfd ?_)
        | (refine wpList_store_row rfl _ _ _ rfl (w.heap.size + 2) _ rfl rfl _ _ hzr hinfd hzd hall ?_))
      exact bodyPost_ret (v := .agg d) (results_cell_row rfl _ _ (w.heap.size + 2) _ _ _ _ rfl (setRow_heap _ _ _ _ _ _ hzr) Try.underlying52 rfl hinfd) rfl ⟨by rw [HD.out], hb.setRow (by omega) _⟩

/-! ### times -/
theorem bytesA_txt (a : Int) (ha : dig a = true) (R : Nat → Gf.G) : bytesA a (txt R) = (txt (fun j => toG a * R j), true) := by
  rw [bytesA, if_pos ha]
  congr 1
  unfold txt
  congr 2
  show (txtL R).map _ = _
  unfold txtL
  rw [List.map_map]
  refine List.map_congr_left fun j _ => ?_
  obtain ⟨n, rfl, hn⟩ := dig_nat ha
  have h := (R j).lt
  show UInt8.ofNat (Gf.mulG _ (UInt8.ofNat (R j).v).toNat) = UInt8.ofNat (toG (n : Int) * R j).v
  rw [UInt8.toNat_ofNat', Nat.mod_eq_of_lt h, toG_nat hn]
  rfl
set_option maxHeartbeats 1000000 in
theorem stimes_any (R : Nat → Gf.G) (g : Nat) (a : Int) (ha : dig a = true) (w : World) (hf : Fld w g) :
    Calls Try.prog 44 #[.agg (rowV R), .pointer (some ⟨g, 0, none⟩), .int .i64 a] w fun e w' => e = .returned (.agg (rowV fun j => toG a * R j)) ∧ Below w.heap.size w w' := by
  obtain ⟨d2, hd2⟩ : ∃ d, (rowV fun j => toG a * R j) = d := ⟨_, rfl⟩
  obtain ⟨r2, hr2⟩ : ∃ r, (txt fun j => toG a * R j) = r := ⟨_, rfl⟩
  have HT : Hid (∀ V, Calls Try.prog 25 #[.agg (rowV R)] V fun e w' => e = .returned (.string (txt R)) ∧ Below V.heap.size V w') := Lib.hid (fun V => text_any R V)
  have HB : Hid (∀ V, Fld V g → Calls Try.prog 68 #[.pointer (some ⟨g, 0, none⟩), .int .i64 a, .string (txt R)] V fun e w' => e = strB (r2, true) ∧ Below V.heap.size V w') := Lib.hid (fun V hV => by
    have := fbytes_any g a (txt R) (by rw [txt_size]; omega) V hV
    rw [bytesA_txt a ha, hr2] at this
    exact this)
  have HO : Hid (∀ V, Calls Try.prog 41 #[.string r2] V fun e w' => e = .returned (.agg d2) ∧ Below V.heap.size V w') := Lib.hid (fun V => by
    have := rowOf_any r2 (by rw [← hr2, txt_size]) V
    rw [← hd2, ← rowV_congr (R := gOf r2) (fun j hj => by rw [← hr2, gOf_txt _ hj])]
    exact this)
  have hinfR := row_info' R
  have hinfd := row_info' (fun j => toG a * R j)
  have hall := rowV_one (fun j => toG a * R j)
  have hzd : zero32.size = (rowV fun j => toG a * R j).size := by rw [rowV_size]; rfl
  rw [hd2] at hinfd hall hzd
  have HD := Lib.hid hd2
  clear hd2 hr2
  have hg0 : (w.alloc (.cells (rowV R) 52)).heap[w.heap.size]? = some (.cells (rowV R) 52 (0, 0)) := heap_alloc_new w _
  have hg1 := (Below.heap_alloc _ (.cells zero32 52) _ (Array.getElem?_eq_some_iff.1 hg0).1).trans hg0
  have hz1 : ((w.alloc (.cells (rowV R) 52)).alloc (.cells zero32 52)).heap[w.heap.size + 1]? = some (.cells zero32 52 (0, 0)) := by
    have := heap_alloc_new (w.alloc (.cells (rowV R) 52)) (.cells zero32 52)
    rwa [World.size_alloc] at this
  have hb1 : Below w.heap.size w ((w.alloc (.cells (rowV R) 52)).alloc (.cells zero32 52)) := (Below.alloc0 _ _).al _
  have hf1 := hf.keep hb1
  clear hg0 hf
  generalize txt R = r at *
  generalize rowV R = dR at *
  unfold zero32 at hg1 hz1 hb1 hf1 hzd
  go_enter Try.func44, Try.ntmps44
  go_wp2_with (refine wpList_load_row rfl _ _ rfl w.heap.size rfl _ _ _ _ hg1 Try.underlying52 rfl hinfR ?_)
  have hlt := (Array.getElem?_eq_some_iff.1 hz1).1
  generalize World.alloc (World.alloc w _) _ = W at *
  refine (HT.out _).mono ?_
  rintro e w1 ⟨rfl, hb2⟩
  have hz2 := (hb2.block _ hlt).trans hz1
  have hf2 := hf1.keep hb2
  replace hb1 := hb1.next' hb2
  clear hf1 hg1
  have hlt := (Array.getElem?_eq_some_iff.1 hz2).1
  go_wp2_with fail
  refine (HB.out _ hf2).mono ?_
  rintro e w2 ⟨rfl, hb3⟩
  unfold strB
  have hz3 := (hb3.block _ hlt).trans hz2
  replace hb1 := hb1.next' hb3
  clear hf2 hz2 hz1 hb2
  have hlt := (Array.getElem?_eq_some_iff.1 hz3).1
  go_wp2_with fail
  refine (HO.out _).mono ?_
  rintro e w3 ⟨rfl, hb4⟩
  have hz4 := (hb4.block _ hlt).trans hz3
  replace hb1 := hb1.next' hb4
  clear hz3 hb3 hb4
  go_wp2_with (refine wpList_store_row rfl _ _ _ rfl (w.heap.size + 1) _ rfl rfl _ _ hz4 hinfd hzd hall ?_)
  exact bodyPost_ret (v := .agg d2) (results_cell_row rfl _ _ (w.heap.size + 1) _ _ _ _ rfl (setRow_heap _ _ _ _ _ _ hz4) Try.underlying52 rfl hinfd) rfl ⟨by rw [HD.out], hb1.setRow (by omega) _⟩
end Go.Proofs.Ytljckcegcfidoaa

/-
  Slices that a walk appends to: what they read as (any program).
-/
namespace Go.Proofs.Ytljckcegcfidoaa
open Go.RowKit Go.Kx
set_option maxRecDepth 20000

theorem own_sl {w : World} {base : Nat} {e : TypeId} {v : Value} {n : Nat} {xs : List Value} (h : w.ownsRow base e 1 v n xs) : ∃ A c, v = .slice A n c ∧ Sl w A xs := by
  have hl := h.1
  rcases Nat.eq_zero_or_pos n with h0 | h0
  · subst h0
    have hx : xs = [] := List.eq_nil_of_length_eq_zero (by simpa using hl)
    subst hx
    rcases h.2 with ⟨rfl, _⟩ | ⟨g, cap, cur, rfl, _⟩
    · exact ⟨_, _, rfl, .inl rfl⟩
    · exact ⟨_, _, rfl, .inl rfl⟩
  · obtain ⟨g, cap, hv, _, hlt⟩ := h.form h0
    subst hv
    refine ⟨_, _, rfl, .inr ⟨g, 0, rfl, hlt, fun j u hu => ?_⟩⟩
    have := h.cells (g := g) rfl j u hu
    rw [Nat.zero_add]
    rw [← this]
    congr 1
    unfold Addr.add
    split <;> simp_all
/-- A slice whose block is not old. -/
def FreshA (B : Nat) (A : Option Addr) : Prop := ∀ a, A = some a → B ≤ a.block
theorem FreshA.ne {B : Nat} {A : Option Addr} (h : FreshA B A) {N : Nat} (hN : N < B) : ∀ a, A = some a → a.block ≠ N := fun a e => by have := h a e; omega
theorem FreshA.mono {B B' : Nat} {A : Option Addr} (h : FreshA B A) (hB : B' ≤ B) : FreshA B' A := fun a e => Nat.le_trans hB (h a e)
theorem own_slf {w : World} {base : Nat} {e : TypeId} {v : Value} {n size : Nat} {xs : List Value} (h : w.ownsRow base e size v n xs) : ∃ A c, v = .slice A n c ∧ Sl w A xs ∧ FreshA base A := by
  have hl := h.1
  rcases h.2 with ⟨rfl, rfl⟩ | ⟨g, cap, cur, rfl, hg, hh, hc, hm, hs, ht⟩
  · have hx : xs = [] := List.eq_nil_of_length_eq_zero (by simpa using hl)
    subst hx
    exact ⟨_, _, rfl, .inl rfl, fun a e => by cases e⟩
  · refine ⟨_, _, rfl, .inr ⟨g, 0, rfl, (Array.getElem?_eq_some_iff.1 hh).1, fun j u hu => ?_⟩, fun a e => by cases e; exact hg⟩
    rw [Nat.zero_add, cell_of_row _ _ _ _ _ _ hh]
    have hj := (List.getElem?_eq_some_iff.1 hu).1
    rw [← ht, List.getElem?_take] at hu
    split at hu
    · simpa using hu
    · cases hu
theorem _root_.Go.Kx.Sl.setA {w : World} {A : Option Addr} {vs : List Value} (h : Sl w A vs) {b : Nat} (hA : ∀ a, A = some a → a.block ≠ b) (o : Nat) (v : Value) : Sl (w.setCell ⟨b, o, none⟩ v) A vs := by
  rcases h with h | ⟨g, off, rfl, hl, hc⟩
  · exact .inl h
  · exact Sl.set (.inr ⟨g, off, rfl, hl, hc⟩) (hA _ rfl) v
theorem own_below {w wr w1 : World} {e : TypeId} {v : Value} {n sz : Nat} {xs : List Value} (hown : wr.ownsRow w.heap.size e sz v n xs) (hb : Below w.heap.size w wr) (hg : wr.grownBy w1 v.ownBlock) : Below w.heap.size w w1 :=
  hb.grown hg hb.size (fun k hk => (hown.lt k hk).1)
theorem own_keep {wr w1 : World} {B : Nat} {e : TypeId} {v : Value} {n sz : Nat} {xs : List Value} (h : wr.ownsRow B e sz v n xs) (hb : Below wr.heap.size wr w1) : w1.ownsRow B e sz v n xs :=
  h.kept (row := none) ⟨hb.os, hb.tape, hb.output, hb.size, fun k hk _ => hb.block k hk⟩ (by cases v.ownBlock <;> simp)
end Go.Proofs.Ytljckcegcfidoaa

/-
  Slices of shares that read as a list; polynomials out of texts.
-/
namespace Go.Proofs.Ytljckcegcfidoaa
open Go.RowKit Go.Kx
set_option maxRecDepth 20000

/-- A share: its X, its Bytes. -/
abbrev Sh := Int × ByteArray
def sh0 : Sh := (0, ⟨#[]⟩)
def shC (s : Sh) (r : Nat) : Value := if r = 0 then .int .i64 s.1 else .string s.2
def shV : List Sh → List Value
  | [] => []
  | s :: l => .int .i64 s.1 :: .string s.2 :: shV l
theorem shV_length : ∀ l : List Sh, (shV l).length = l.length * 2
  | [] => rfl
  | s :: l => by simp [shV, shV_length l]; omega
theorem shV_append : ∀ l m : List Sh, shV (l ++ m) = shV l ++ shV m
  | [], _ => rfl
  | s :: l, m => by simp [shV, shV_append l m]
theorem shV_at : ∀ (l : List Sh) (q : Nat), (shV l)[q]? = if q < l.length * 2 then some (shC (l.getD (q / 2) sh0) (q % 2)) else none
  | [], q => by simp [shV]
  | s :: l, 0 => by simp [shV, shC]
  | s :: l, 1 => by simp [shV, shC]; omega
  | s :: l, q + 2 => by
    have h := shV_at l q
    have e1 : (q + 2) / 2 = q / 2 + 1 := by omega
    have e2 : (q + 2) % 2 = q % 2 := by omega
    rw [e1, e2]
    show (shV l)[q]? = _
    rw [h]
    simp only [List.length_cons, List.getD_cons_succ]
    by_cases hq : q < l.length * 2
    · rw [if_pos hq, if_pos (by omega)]
    · rw [if_neg hq, if_neg (by omega)]
theorem shV_x {l : List Sh} {k : Nat} (h : k < l.length) : (shV l)[k * 2]? = some (.int .i64 (l.getD k sh0).1) := by
  rw [shV_at, if_pos (by omega), show k * 2 / 2 = k by omega, show k * 2 % 2 = 0 by omega]
  rfl
theorem shV_b {l : List Sh} {k : Nat} (h : k < l.length) : (shV l)[k * 2 + 1]? = some (.string (l.getD k sh0).2) := by
  rw [shV_at, if_pos (by omega), show (k * 2 + 1) / 2 = k by omega, show (k * 2 + 1) % 2 = 1 by omega]
  rfl
/-- A share's two cells. -/
theorem sl_sh {w : World} {A : Option Addr} {l : List Sh} (h : Sl w A (shV l)) {k : Nat} (hk : k < l.length) :
    ∃ b off, A = some ⟨b, off, none⟩ ∧ w.cell? ⟨b, off + k * 2, none⟩ = some (.int .i64 (l.getD k sh0).1) ∧ w.cell? ⟨b, off + k * 2 + 1, none⟩ = some (.string (l.getD k sh0).2) := by
  rcases h with h | ⟨b, off, rfl, _, hc⟩
  · have := shV_length l
    rw [h] at this
    simp at this
    omega
  · exact ⟨b, off, rfl, hc _ _ (shV_x hk), by rw [Nat.add_assoc]; exact hc _ _ (shV_b hk)⟩
theorem getD_at {l : List Sh} {k : Nat} (h : k < l.length) : l[k]? = some (l.getD k sh0) := by rw [List.getD, List.getElem?_eq_getElem h]; rfl

/-! ### the digits of a byte's polynomial -/
def polI (s : ByteArray) (j k : Nat) : List Int := (List.range k).map fun p => ((gOf s (32 * p + j)).v : Int)
def polG (s : ByteArray) (j k : Nat) : List Gf.G := (List.range k).map fun p => gOf s (32 * p + j)
theorem polI_length (s : ByteArray) (j k : Nat) : (polI s j k).length = k := by simp [polI]
theorem polG_length (s : ByteArray) (j k : Nat) : (polG s j k).length = k := by simp [polG]
theorem gs_polI (s : ByteArray) (j k : Nat) : gs (polI s j k) = polG s j k := by
  unfold gs polI polG
  rw [List.map_map]
  exact List.map_congr_left fun p _ => toG_of _
theorem dig_polI (s : ByteArray) (j k : Nat) : allI dig (polI s j k) = true := by
  unfold allI polI
  rw [List.all_eq_true]
  intro x hx
  obtain ⟨p, _, rfl⟩ := List.mem_map.1 hx
  exact dig_v _
theorem polI_snoc (s : ByteArray) (j k p : Nat) (h : p < k) : intsI ((polI s j k).take p) ++ [Value.int .i64 ((gOf s (32 * p + j)).v : Nat)] = intsI ((polI s j k).take (p + 1)) := by
  rw [intsI_snoc, List.take_add_one]
  congr 2
  simp [polI, h]
theorem gOf_v (s : ByteArray) (n : Nat) (h : n < s.size) : (gOf s n).v = s[n].toNat := by
  show (s.data.toList.getD n 0).toNat = _
  rw [List.getD, List.getElem?_eq_getElem (by simpa using h)]
  rfl
end Go.Proofs.Ytljckcegcfidoaa

/-
  Sets of intsI kept in a map: how many there are tells whether two are the same (any program).
-/
namespace Go.Proofs.Ytljckcegcfidoaa
open Go.RowKit Go.Kx Go.Maps

/-- No two the same. -/
def apartI : List Int → Bool
  | [] => true
  | a :: r => !r.contains a && apartI r
theorem apartI_nodup : ∀ {l : List Int}, apartI l = true ↔ l.Nodup
  | [] => by simp [apartI]
  | a :: r => by simp [apartI, List.nodup_cons, apartI_nodup (l := r)]
def addI (acc : List Int) (x : Int) : List Int := if acc.contains x then acc else acc ++ [x]
theorem any_int (x : Int) : ∀ l : List Int, (l.map (Lit.int .i64)).any (fun y => y.sameKey (.int .i64 x)) = l.contains x
  | [] => rfl
  | a :: r => by
    rw [List.map_cons, List.any_cons, List.contains_cons, any_int x r]
    congr 1
    show decide (IntKind.i64 = IntKind.i64 ∧ a = x) = (x == a)
    by_cases e : a = x
    · subst e; simp
    · have e' : ¬ x = a := fun h => e h.symm
      simp [e, e']
theorem addKey_int (acc : List Int) (x : Int) : addKey (acc.map (Lit.int .i64)) (.int .i64 x) = (addI acc x).map (Lit.int .i64) := by
  unfold addKey addI
  rw [any_int]
  split <;> simp
theorem foldA_int : ∀ (xs acc : List Int), (xs.map (Lit.int .i64)).foldl addKey (acc.map (Lit.int .i64)) = (xs.foldl addI acc).map (Lit.int .i64)
  | [], _ => rfl
  | x :: xs, acc => by rw [List.map_cons, List.foldl_cons, List.foldl_cons, addKey_int, foldA_int xs]
theorem foldA_le : ∀ (xs acc : List Int), (xs.foldl addI acc).length ≤ acc.length + xs.length
  | [], _ => by simp
  | x :: xs, acc => by
    have := foldA_le xs (addI acc x)
    have h2 : (addI acc x).length ≤ acc.length + 1 := by unfold addI; split <;> simp
    simp only [List.foldl_cons, List.length_cons]
    omega
theorem foldA_all : ∀ (xs acc : List Int), (xs.foldl addI acc).length = acc.length + xs.length ↔ (xs.Nodup ∧ ∀ x ∈ xs, x ∉ acc)
  | [], _ => by simp
  | x :: xs, acc => by
    simp only [List.foldl_cons, List.length_cons, List.nodup_cons, List.mem_cons, forall_eq_or_imp]
    by_cases h : x ∈ acc
    · have e : addI acc x = acc := by rw [addI, if_pos (by simpa using h)]
      have := foldA_le xs acc
      rw [e]
      constructor
      · omega
      · rintro ⟨_, h2, _⟩; exact absurd h h2
    · have e : addI acc x = acc ++ [x] := by rw [addI, if_neg (by simpa using h)]
      have ih := foldA_all xs (acc ++ [x])
      rw [e]
      have e2 : (acc ++ [x]).length = acc.length + 1 := by simp
      rw [show acc.length + (xs.length + 1) = (acc ++ [x]).length + xs.length by omega, ih]
      constructor
      · rintro ⟨h1, h2⟩
        refine ⟨⟨fun hx => (h2 x hx) (by simp), h1⟩, h, fun y hy hc => h2 y hy (by simp [hc])⟩
      · rintro ⟨⟨h1, h2⟩, _, h3⟩
        refine ⟨h2, fun y hy hc => ?_⟩
        rcases List.mem_append.1 hc with hc | hc
        · exact h3 y hy hc
        · rw [List.mem_singleton] at hc
          subst hc
          exact h1 hy
def setI {H : Type} (l : List Int) (k : Nat) : DataW H := setOf (.agg []) ((l.take k).map (Lit.int .i64))
theorem setI_zero {H : Type} (l : List Int) : setI (H := H) l 0 = .map [] := by simp [setI, setOf]
theorem setI_succ {H : Type} (l : List Int) (k : Nat) (hk : k < l.length) : setI (H := H) l (k + 1) = (setI l k).put (.int .i64 (l.getD k 0)) (.agg []) := by
  unfold setI
  have e : (l.take (k + 1)).map (Lit.int .i64) = (l.take k).map (Lit.int .i64) ++ [.int .i64 (l.getD k 0)] := by
    rw [List.take_add_one, List.map_append]
    simp [List.getD, List.getElem?_eq_getElem hk]
  rw [e, setOf_snoc]
theorem setI_size {H : Type} (l : List Int) : Maps.size (setI (H := H) l l.length) = (l.foldl addI []).length := by
  unfold setI
  rw [List.take_length, size_setOf _ _ (fun x hx => by obtain ⟨_, _, rfl⟩ := List.mem_map.1 hx; trivial)]
  have := foldA_int l []
  rw [List.map_nil] at this
  rw [this, List.length_map]
theorem setI_less {H : Type} (l : List Int) : decide (Maps.size (setI (H := H) l l.length) < l.length) = !apartI l := by
  rw [setI_size]
  have h1 := foldA_le l []
  have h2 := foldA_all l []
  simp only [List.length_nil, Nat.zero_add, List.not_mem_nil, not_false_eq_true, implies_true, and_true] at h1 h2
  cases h : apartI l with
  | true =>
    have := h2.2 (apartI_nodup.1 h)
    simp; omega
  | false =>
    have h3 : ¬ l.Nodup := fun hn => by rw [apartI_nodup.2 hn] at h; cases h
    have : (l.foldl addI []).length ≠ l.length := fun he => h3 (h2.1 he)
    simp; omega
theorem run_makeMap_int {P : Program} {t k e : TypeId} (ht : P.underlying t = some (.map k e)) (n : Int) (w : World) : (Instr.makeMap t (some (.int .i64 n))).run P w = .ok (.map (some w.heap.size)) (w.alloc (.map #[] 0)) := by
  simp [Instr.makeMap, run_underlying ht, asInt, asIntOf, go_sem]
end Go.Proofs.Ytljckcegcfidoaa
