/-
  Words of my own, over any program: slices that read as lists, what a call's own memory is, results, bits.
-/
import Derived.WalkKit
import Derived.Lib.Hide
import Derived.Laws.OwnMore
import Derived.Deep.OwnRows
import Derived.Laws.Rows
import Derived.Laws.Tables
import Derived.Deep.Draws
import Derived.Laws.BitsAllLaws
import Derived.Laws.BitsLemmas
namespace Go.Kx
open Go.RowKit

/-! ### results -/
theorem ret_bool {a b : Bool} (h : a = b) : Ending.returned (.bool a) = .returned (.bool b) := by rw [h]
theorem ret_int {k : IntKind} {a b : Int} (h : a = b) : Ending.returned (.int k a) = .returned (.int k b) := by rw [h]
theorem ret_int_bool {k : IntKind} {a b : Int} {c d : Bool} (h : a = b) (h' : c = d) : Ending.returned (.tuple #[.int k a, .bool c]) = .returned (.tuple #[.int k b, .bool d]) := by rw [h, h']
theorem ret_str {a b : List UInt8} (h : a = b) : Ending.returned (.string ⟨a.toArray⟩) = .returned (.string ⟨b.toArray⟩) := by rw [h]

/-! ### a slice that reads as a list of one-cell values -/
def Sl (w : World) (A : Option Addr) (vs : List Value) : Prop :=
  vs = [] ∨ ∃ b off, A = some ⟨b, off, none⟩ ∧ b < w.heap.size ∧ ∀ j u, vs[j]? = some u → w.cell? ⟨b, off + j, none⟩ = some u
theorem Sl.nil (w : World) (A : Option Addr) : Sl w A [] := .inl rfl
theorem Sl.at_ {w : World} {A : Option Addr} {vs : List Value} (h : Sl w A vs) {k : Nat} (hk : k < vs.length) :
    ∃ b off u, A = some ⟨b, off, none⟩ ∧ vs[k]? = some u ∧ w.cell? ⟨b, off + k, none⟩ = some u := by
  rcases h with rfl | ⟨b, off, e, _, hc⟩
  · simp at hk
  · exact ⟨b, off, vs[k], e, List.getElem?_eq_getElem hk, hc k _ (List.getElem?_eq_getElem hk)⟩
theorem Sl.keep {w w' : World} {A : Option Addr} {vs : List Value} (h : Sl w A vs) (hb : Below w.heap.size w w') : Sl w' A vs := by
  rcases h with rfl | ⟨b, off, e, hl, hc⟩
  · exact .inl rfl
  · exact .inr ⟨b, off, e, Nat.lt_of_lt_of_le hl hb.size, fun j u hu => (hb.cell (p := ⟨b, off + j, none⟩) hl).trans (hc j u hu)⟩
theorem Sl.set {w : World} {b off : Nat} {vs : List Value} (h : Sl w (some ⟨b, off, none⟩) vs) {a : Addr} (hne : b ≠ a.block) (v : Value) : Sl (w.setCell a v) (some ⟨b, off, none⟩) vs := by
  rcases h with rfl | ⟨b', off', e, hl, hc⟩
  · exact .inl rfl
  · obtain ⟨rfl, rfl⟩ : b = b' ∧ off = off' := by simpa using e
    refine .inr ⟨b, off, rfl, by simpa using hl, fun j u hu => ?_⟩
    rw [World.cell?_setCell_other _ _ _ _ (by rintro rfl; exact hne rfl)]
    exact hc j u hu
theorem Sl.new (w : World) (t : TypeId) (cs : Array Value) : Sl (w.alloc (.cells cs t)) (some ⟨w.heap.size, 0, none⟩) cs.toList := by
  refine .inr ⟨_, 0, rfl, by simp, fun j u hu => ?_⟩
  rw [Nat.zero_add]
  have h := cell_of_row (w.alloc (.cells cs t)) w.heap.size j cs t (0, 0) (heap_alloc_new w _)
  rw [h]
  simpa using hu

theorem Sl.new' {w : World} {t : TypeId} {cs : Array Value} {n : Nat} {vs : List Value} (hn : n = w.heap.size) (hv : cs.toList = vs := by rfl) : Sl (w.alloc (.cells cs t)) (some ⟨n, 0, none⟩) vs := by
  subst hn; subst hv; exact Sl.new w t cs

/-! ### the call's own memory -/
theorem Below.alloc0 (w : World) (o : Obj) : Below w.heap.size w (w.alloc o) := (Below.refl _ _).alloc (Nat.le_refl _) o
theorem Below.drewN0 (w : World) (n : Nat) : Below w.heap.size w (w.drewN n) := ⟨rfl, rfl, rfl, Nat.le_refl _, fun _ _ => rfl⟩
theorem _root_.Go.RowKit.Below.next {w w1 w2 : World} (h : Below w.heap.size w w1) (k : Below w1.heap.size w1 w2) : Below w.heap.size w w2 := h.trans (k.mono h.size)
theorem _root_.Go.RowKit.Below.next' {B : Nat} {w w1 w2 : World} (h : Below B w w1) (k : Below w1.heap.size w1 w2) (hB : B ≤ w.heap.size := by first | exact Nat.le_refl _ | omega) : Below B w w2 := h.trans (k.mono (Nat.le_trans hB h.size))

/-! ### &, |, ^ of two ints that are not below 0 -/
theorem bv64 (n : Nat) : BitVec.ofInt 64 (n : Int) = BitVec.ofNat 64 n := BitVec.ofInt_natCast _ _
theorem wrapNat {n : Nat} (h : n < 2 ^ 63) : IntKind.i64.wrap (n : Int) = (n : Int) := IntWalk.i64_in _ (by omega)
section
variable {a b : Nat} (ha : a < 2 ^ 63) (hb : b < 2 ^ 63)
include ha hb
theorem int_and : bits .and .i64 (a : Int) (b : Int) = ((a &&& b : Nat) : Int) := by
  have e : (BitVec.ofInt 64 (a : Int) &&& BitVec.ofInt 64 (b : Int)).toNat = a &&& b := by
    simp only [bv64, BitVec.toNat_and, BitVec.toNat_ofNat, Nat.mod_eq_of_lt (show a < 2 ^ 64 by omega), Nat.mod_eq_of_lt (show b < 2 ^ 64 by omega)]
  exact (congrArg (fun n : Nat => IntKind.i64.wrap (n : Int)) e).trans (wrapNat (Nat.and_lt_two_pow a hb))
theorem int_or : bits .or .i64 (a : Int) (b : Int) = ((a ||| b : Nat) : Int) := by
  have e : (BitVec.ofInt 64 (a : Int) ||| BitVec.ofInt 64 (b : Int)).toNat = a ||| b := by
    simp only [bv64, BitVec.toNat_or, BitVec.toNat_ofNat, Nat.mod_eq_of_lt (show a < 2 ^ 64 by omega), Nat.mod_eq_of_lt (show b < 2 ^ 64 by omega)]
  exact (congrArg (fun n : Nat => IntKind.i64.wrap (n : Int)) e).trans (wrapNat (Nat.or_lt_two_pow ha hb))
theorem int_xor : bits .xor .i64 (a : Int) (b : Int) = ((a ^^^ b : Nat) : Int) := by
  have e : (BitVec.ofInt 64 (a : Int) ^^^ BitVec.ofInt 64 (b : Int)).toNat = a ^^^ b := by
    simp only [bv64, BitVec.toNat_xor, BitVec.toNat_ofNat, Nat.mod_eq_of_lt (show a < 2 ^ 64 by omega), Nat.mod_eq_of_lt (show b < 2 ^ 64 by omega)]
  exact (congrArg (fun n : Nat => IntKind.i64.wrap (n : Int)) e).trans (wrapNat (Nat.xor_lt_two_pow ha hb))
end
/-! ### strings -/
theorem size_mk (l : List UInt8) : (ByteArray.mk l.toArray).size = l.length := by show l.toArray.size = _; simp
theorem mk_append (x y : List UInt8) : ByteArray.mk x.toArray ++ ByteArray.mk y.toArray = ByteArray.mk (x ++ y).toArray := by
  apply ByteArray.ext
  simp
theorem str_add {P : Program} (x y : List UInt8) (h : x.length + y.length ≤ 9223372036854775807) (W : World) : (Op.stringOp .add ⟨x.toArray⟩ ⟨y.toArray⟩).run P W = .ok (.string ⟨(x ++ y).toArray⟩) W := by
  rw [run_string_add_sum W _ _ (by rw [size_mk, size_mk]; exact h), mk_append]
/-! ### whole rows -/
theorem run_index_ints {P : Program} {t e : TypeId} {n : Nat} {cs : Array Value} {k k' : IntKind} {i : Nat} {v : Value} (h : P.underlying t = some (.array n e)) (hs : (P.info? e).map (·.size) = some 1) (he : P.underlying e = some (.int k'))
    (hi : i < n) (hv : cs[i]? = some v) (w : World) : (Instr.index t (.agg cs) (.int k (i : Int))).run P w = .ok v w := by
  have h1 : 0 ≤ (i : Int) ∧ (i : Int) < (n : Int) := by omega
  have ha : (isAgg e).run P w = .ok false w := by unfold isAgg; rw [Sem.run_bind, run_underlying he w]; rfl
  cases hq : P.info? e with
  | none => simp [hq] at hs
  | some j =>
    have h2 : j.size = 1 := by simpa [hq] using hs
    simp [Instr.index, asIntOf, run_underlying h, h1, hi, sizeOf, typeInfo, hq, h2, part, ha, hv, go_sem]
theorem rowIs_keep {w w' : World} {b : Nat} {t : TypeId} {n : Nat} {f : Nat → Value} (h : w.rowIs b t n f) (hb : Below w.heap.size w w') : w'.rowIs b t n f := h.of_block (hb.block _ h.lt)
theorem rowIs_new {w : World} {t : TypeId} {n : Nat} {z : Value} {c : Array Value} (hc : c = (List.replicate n z).toArray) : (w.alloc (.cells c t)).rowIs w.heap.size t n (fun _ => z) := by
  subst hc
  have h := World.rowIs_alloc w (List.replicate n z).toArray t (fun _ => z) (fun i hi => by simp at hi; simp [hi])
  simpa using h
theorem _root_.Go.RowKit.Below.setRow {B : Nat} {w w' : World} (h : Below B w w') {g : Nat} (hg : B ≤ g) (cs : Array Value) : Below B w (w'.setRow g cs) :=
  ⟨h.os, h.tape, h.output, by simpa using h.size, fun k hk => (setRow_other w' g k cs (by omega)).trans (h.block k hk)⟩
theorem _root_.Go.RowKit.Below.al {W w' : World} (h : Below W.heap.size W w') (o : Obj) : Below W.heap.size W (w'.alloc o) := h.alloc h.size o
theorem Below.drew0 (w : World) : Below w.heap.size w w.drew := (Below.refl _ _).drew
theorem bcell {W w1 : World} (hb : Below W.heap.size W w1) : (∀ b o, b < W.heap.size → w1.cell? ⟨b, o, none⟩ = W.cell? ⟨b, o, none⟩) ∧ (∀ b o, b < W.heap.size → w1.frozen? ⟨b, o, none⟩ = W.frozen? ⟨b, o, none⟩) :=
  ⟨fun b o h => hb.cell (p := ⟨b, o, none⟩) h, fun b o h => hb.frozen (p := ⟨b, o, none⟩) h⟩
theorem wrapU32 {n : Nat} (h : n < 4294967296) : IntKind.u32.wrap (n : Int) = (n : Int) := by rw [IntKind.wrap_u32']; omega
theorem rowIs_heap {w : World} {b : Nat} {t : TypeId} {n : Nat} {f : Nat → Value} (h : w.rowIs b t n f) : w.heap[b]? = some (.cells ((List.range n).map f).toArray t (0, 0)) := by
  obtain ⟨c, hb, hn, hc⟩ := h
  rw [hb]
  congr 2
  apply Array.ext_getElem?
  intro i
  by_cases hi : i < n
  · rw [hc i hi]; simp [hi]
  · rw [Array.getElem?_eq_none (by omega)]; simp [hi]
/-- The block of a row, as one array. -/
theorem rowIs_block {w : World} {b : Nat} {t : TypeId} {n : Nat} {f : Nat → Value} (h : w.rowIs b t n f) : ∃ c : Array Value, w.heap[b]? = some (.cells c t (0, 0)) ∧ c.size = n ∧ c = ((List.range n).map f).toArray := by
  obtain ⟨c, hb, hn, hc⟩ := h
  refine ⟨c, hb, hn, ?_⟩
  apply Array.ext_getElem?
  intro i
  by_cases hi : i < n
  · rw [hc i hi]; simp [hi]
  · rw [Array.getElem?_eq_none (by omega)]; simp [hi]
theorem all_one_ints {n : Nat} {c : Array Value} {k : IntKind} {g : Nat → Int} (h : c = ((List.range n).map (fun j => Value.int k (g j))).toArray) : c.all (·.oneCell') = true := by
  subst h
  rw [Array.all_eq_true_iff_forall_mem]
  intro v hv
  simp only [List.mem_toArray, List.mem_map] at hv
  obtain ⟨j, _, rfl⟩ := hv
  rfl
theorem results_cell_slot {P : Program} {fn : Func} {p q : Tmp} {ty : TypeId} (h : fn.results = #[.cell p ty, .tmp q]) (tmps : Array Value) (w : World) (g : Nat) (t : TypeId) (cs : Array Value) (fr : Nat × Nat) (d : TypeDesc)
    (hp : tmps.getD p undef = .pointer (some ⟨g, 0, none⟩)) (hg : w.heap[g]? = some (.cells cs t fr))
    (hu : P.underlying ty = some d) (hd : (match d with | .struct _ | .array _ _ => true | _ => false) = true) (hi : (P.info? ty).map (·.size) = some cs.size) (v : Value) (hv : tmps.getD q undef = v) :
    (results fn tmps).run P w = .ok (.tuple #[.agg cs, v]) w := by
  subst hv
  have hp' : tmps[p]?.getD undef = .pointer (some ⟨g, 0, none⟩) := by simpa using hp
  simp [results, h, hp', asAddr, run_loadVar_row w g t ty cs fr d hg hu hd hi]
theorem rowIs_setRow {w : World} {b : Nat} {t : TypeId} {n : Nat} {f : Nat → Value} (h : w.rowIs b t n f) (cs : Array Value) : (w.setRow b cs).heap[b]? = some (.cells cs t (0, 0)) := by
  obtain ⟨c, hb, _, _⟩ := h
  exact setRow_heap w b c cs t (0, 0) hb
end Go.Kx
