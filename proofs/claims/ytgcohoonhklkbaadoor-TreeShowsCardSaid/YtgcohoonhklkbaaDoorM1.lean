/-
  Merged by program: Words, Info, Word, Rowa, Sha, Dig4, Trm, Ownr, Own, Stv, Trf1, Trf2, Trf3, Upto, Uptot.
-/
import Derived.WalkKit
import Derived.Lib.Hide
import Derived.Laws.OwnMore
import Derived.Deep.OwnRows
import Derived.Laws.Rows
import Derived.Laws.Tables
import Derived.Deep.Draws
import Derived.Laws.BitsAllLaws
import Derived.Laws.BitsLemmas
import Derived.Test.YtgcohoonhklkbaaDoorChecked
import Derived.StillTailTactics
import Derived.Deep.QuietTactic
import Derived.BigQuiet
import Derived.Laws.IdiomStrings
import Derived.Deep.AppendLies
import Derived.Deep.RegionLaw
import Derived.Lib.Bytes
import Derived.OrdersHeld
import Derived.Deep.RegionHeld
import Derived.RegionTactic

/-
  Words of my own, over any program: slices that read as lists, what a call's own memory is, results, bits.
-/
namespace Go.Kx
open Go.RowKit

/-! ### results -/
theorem ret_bool {a b : Bool} (h : a = b) : Ending.returned (.bool a) = .returned (.bool b) := by rw [h]
theorem ret_int {k : IntKind} {a b : Int} (h : a = b) : Ending.returned (.int k a) = .returned (.int k b) := by rw [h]
theorem ret_int_bool {k : IntKind} {a b : Int} {c d : Bool} (h : a = b) (h' : c = d) : Ending.returned (.tuple #[.int k a, .bool c]) = .returned (.tuple #[.int k b, .bool d]) := by rw [h, h']
theorem ret_str {a b : List UInt8} (h : a = b) : Ending.returned (.string ⟨a.toArray⟩) = .returned (.string ⟨b.toArray⟩) := by rw [h]

/-! ### a slice that reads as a list of one-cell values -/
def Sl (w : World) (A : Option Addr) (vs : List Value) : Prop :=
  vs = [] ∨ ∃ b off, A = some ⟨b, off, none⟩ ∧ b < w.heap.size ∧ ∀ j u, vs[j]? = some u → w.cell? ⟨b, off + j, none⟩ = some u
theorem Sl.nil (w : World) (A : Option Addr) : Sl w A [] := .inl rfl
theorem Sl.at_ {w : World} {A : Option Addr} {vs : List Value} (h : Sl w A vs) {k : Nat} (hk : k < vs.length) :
    ∃ b off u, A = some ⟨b, off, none⟩ ∧ vs[k]? = some u ∧ w.cell? ⟨b, off + k, none⟩ = some u := by
  rcases h with rfl | ⟨b, off, e, _, hc⟩
  · simp at hk
  · exact ⟨b, off, vs[k], e, List.getElem?_eq_getElem hk, hc k _ (List.getElem?_eq_getElem hk)⟩
theorem Sl.keep {w w' : World} {A : Option Addr} {vs : List Value} (h : Sl w A vs) (hb : Below w.heap.size w w') : Sl w' A vs := by
  rcases h with rfl | ⟨b, off, e, hl, hc⟩
  · exact .inl rfl
  · exact .inr ⟨b, off, e, Nat.lt_of_lt_of_le hl hb.size, fun j u hu => (hb.cell (p := ⟨b, off + j, none⟩) hl).trans (hc j u hu)⟩
theorem Sl.set {w : World} {b off : Nat} {vs : List Value} (h : Sl w (some ⟨b, off, none⟩) vs) {a : Addr} (hne : b ≠ a.block) (v : Value) : Sl (w.setCell a v) (some ⟨b, off, none⟩) vs := by
  rcases h with rfl | ⟨b', off', e, hl, hc⟩
  · exact .inl rfl
  · obtain ⟨rfl, rfl⟩ : b = b' ∧ off = off' := by simpa using e
    refine .inr ⟨b, off, rfl, by simpa using hl, fun j u hu => ?_⟩
    rw [World.cell?_setCell_other _ _ _ _ (by rintro rfl; exact hne rfl)]
    exact hc j u hu
theorem Sl.new (w : World) (t : TypeId) (cs : Array Value) : Sl (w.alloc (.cells cs t)) (some ⟨w.heap.size, 0, none⟩) cs.toList := by
  refine .inr ⟨_, 0, rfl, by simp, fun j u hu => ?_⟩
  rw [Nat.zero_add]
  have h := cell_of_row (w.alloc (.cells cs t)) w.heap.size j cs t (0, 0) (heap_alloc_new w _)
  rw [h]
  simpa using hu

theorem Sl.new' {w : World} {t : TypeId} {cs : Array Value} {n : Nat} {vs : List Value} (hn : n = w.heap.size) (hv : cs.toList = vs := by rfl) : Sl (w.alloc (.cells cs t)) (some ⟨n, 0, none⟩) vs := by
  subst hn; subst hv; exact Sl.new w t cs

/-! ### the call's own memory -/
theorem Below.alloc0 (w : World) (o : Obj) : Below w.heap.size w (w.alloc o) := (Below.refl _ _).alloc (Nat.le_refl _) o
theorem Below.drewN0 (w : World) (n : Nat) : Below w.heap.size w (w.drewN n) := ⟨rfl, rfl, rfl, Nat.le_refl _, fun _ _ => rfl⟩
theorem _root_.Go.RowKit.Below.next {w w1 w2 : World} (h : Below w.heap.size w w1) (k : Below w1.heap.size w1 w2) : Below w.heap.size w w2 := h.trans (k.mono h.size)
theorem _root_.Go.RowKit.Below.next' {B : Nat} {w w1 w2 : World} (h : Below B w w1) (k : Below w1.heap.size w1 w2) (hB : B ≤ w.heap.size := by first | exact Nat.le_refl _ | omega) : Below B w w2 := h.trans (k.mono (Nat.le_trans hB h.size))

/-! ### &, |, ^ of two ints that are not below 0 -/
theorem bv64 (n : Nat) : BitVec.ofInt 64 (n : Int) = BitVec.ofNat 64 n := BitVec.ofInt_natCast _ _
theorem wrapNat {n : Nat} (h : n < 2 ^ 63) : IntKind.i64.wrap (n : Int) = (n : Int) := IntWalk.i64_in _ (by omega)
section
variable {a b : Nat} (ha : a < 2 ^ 63) (hb : b < 2 ^ 63)
include ha hb
theorem int_and : bits .and .i64 (a : Int) (b : Int) = ((a &&& b : Nat) : Int) := by
  have e : (BitVec.ofInt 64 (a : Int) &&& BitVec.ofInt 64 (b : Int)).toNat = a &&& b := by
    simp only [bv64, BitVec.toNat_and, BitVec.toNat_ofNat, Nat.mod_eq_of_lt (show a < 2 ^ 64 by omega), Nat.mod_eq_of_lt (show b < 2 ^ 64 by omega)]
  exact (congrArg (fun n : Nat => IntKind.i64.wrap (n : Int)) e).trans (wrapNat (Nat.and_lt_two_pow a hb))
theorem int_or : bits .or .i64 (a : Int) (b : Int) = ((a ||| b : Nat) : Int) := by
  have e : (BitVec.ofInt 64 (a : Int) ||| BitVec.ofInt 64 (b : Int)).toNat = a ||| b := by
    simp only [bv64, BitVec.toNat_or, BitVec.toNat_ofNat, Nat.mod_eq_of_lt (show a < 2 ^ 64 by omega), Nat.mod_eq_of_lt (show b < 2 ^ 64 by omega)]
  exact (congrArg (fun n : Nat => IntKind.i64.wrap (n : Int)) e).trans (wrapNat (Nat.or_lt_two_pow ha hb))
theorem int_xor : bits .xor .i64 (a : Int) (b : Int) = ((a ^^^ b : Nat) : Int) := by
  have e : (BitVec.ofInt 64 (a : Int) ^^^ BitVec.ofInt 64 (b : Int)).toNat = a ^^^ b := by
    simp only [bv64, BitVec.toNat_xor, BitVec.toNat_ofNat, Nat.mod_eq_of_lt (show a < 2 ^ 64 by omega), Nat.mod_eq_of_lt (show b < 2 ^ 64 by omega)]
  exact (congrArg (fun n : Nat => IntKind.i64.wrap (n : Int)) e).trans (wrapNat (Nat.xor_lt_two_pow ha hb))
end
/-! ### strings -/
theorem size_mk (l : List UInt8) : (ByteArray.mk l.toArray).size = l.length := by show l.toArray.size = _; simp
theorem mk_append (x y : List UInt8) : ByteArray.mk x.toArray ++ ByteArray.mk y.toArray = ByteArray.mk (x ++ y).toArray := by
  apply ByteArray.ext
  simp
theorem str_add {P : Program} (x y : List UInt8) (h : x.length + y.length ≤ 9223372036854775807) (W : World) : (Op.stringOp .add ⟨x.toArray⟩ ⟨y.toArray⟩).run P W = .ok (.string ⟨(x ++ y).toArray⟩) W := by
  rw [run_string_add_sum W _ _ (by rw [size_mk, size_mk]; exact h), mk_append]
/-! ### whole rows -/
theorem run_index_ints {P : Program} {t e : TypeId} {n : Nat} {cs : Array Value} {k k' : IntKind} {i : Nat} {v : Value} (h : P.underlying t = some (.array n e)) (hs : (P.info? e).map (·.size) = some 1) (he : P.underlying e = some (.int k'))
    (hi : i < n) (hv : cs[i]? = some v) (w : World) : (Instr.index t (.agg cs) (.int k (i : Int))).run P w = .ok v w := by
  have h1 : 0 ≤ (i : Int) ∧ (i : Int) < (n : Int) := by omega
  have ha : (isAgg e).run P w = .ok false w := by unfold isAgg; rw [Sem.run_bind, run_underlying he w]; rfl
  cases hq : P.info? e with
  | none => simp [hq] at hs
  | some j =>
    have h2 : j.size = 1 := by simpa [hq] using hs
    simp [Instr.index, asIntOf, run_underlying h, h1, hi, sizeOf, typeInfo, hq, h2, part, ha, hv, go_sem]
theorem rowIs_keep {w w' : World} {b : Nat} {t : TypeId} {n : Nat} {f : Nat → Value} (h : w.rowIs b t n f) (hb : Below w.heap.size w w') : w'.rowIs b t n f := h.of_block (hb.block _ h.lt)
theorem rowIs_new {w : World} {t : TypeId} {n : Nat} {z : Value} {c : Array Value} (hc : c = (List.replicate n z).toArray) : (w.alloc (.cells c t)).rowIs w.heap.size t n (fun _ => z) := by
  subst hc
  have h := World.rowIs_alloc w (List.replicate n z).toArray t (fun _ => z) (fun i hi => by simp at hi; simp [hi])
  simpa using h
theorem _root_.Go.RowKit.Below.setRow {B : Nat} {w w' : World} (h : Below B w w') {g : Nat} (hg : B ≤ g) (cs : Array Value) : Below B w (w'.setRow g cs) :=
  ⟨h.os, h.tape, h.output, by simpa using h.size, fun k hk => (setRow_other w' g k cs (by omega)).trans (h.block k hk)⟩
theorem _root_.Go.RowKit.Below.al {W w' : World} (h : Below W.heap.size W w') (o : Obj) : Below W.heap.size W (w'.alloc o) := h.alloc h.size o
theorem Below.drew0 (w : World) : Below w.heap.size w w.drew := (Below.refl _ _).drew
theorem bcell {W w1 : World} (hb : Below W.heap.size W w1) : (∀ b o, b < W.heap.size → w1.cell? ⟨b, o, none⟩ = W.cell? ⟨b, o, none⟩) ∧ (∀ b o, b < W.heap.size → w1.frozen? ⟨b, o, none⟩ = W.frozen? ⟨b, o, none⟩) :=
  ⟨fun b o h => hb.cell (p := ⟨b, o, none⟩) h, fun b o h => hb.frozen (p := ⟨b, o, none⟩) h⟩
theorem wrapU32 {n : Nat} (h : n < 4294967296) : IntKind.u32.wrap (n : Int) = (n : Int) := by rw [IntKind.wrap_u32']; omega
theorem rowIs_heap {w : World} {b : Nat} {t : TypeId} {n : Nat} {f : Nat → Value} (h : w.rowIs b t n f) : w.heap[b]? = some (.cells ((List.range n).map f).toArray t (0, 0)) := by
  obtain ⟨c, hb, hn, hc⟩ := h
  rw [hb]
  congr 2
  apply Array.ext_getElem?
  intro i
  by_cases hi : i < n
  · rw [hc i hi]; simp [hi]
  · rw [Array.getElem?_eq_none (by omega)]; simp [hi]
/-- The block of a row, as one array. -/
theorem rowIs_block {w : World} {b : Nat} {t : TypeId} {n : Nat} {f : Nat → Value} (h : w.rowIs b t n f) : ∃ c : Array Value, w.heap[b]? = some (.cells c t (0, 0)) ∧ c.size = n ∧ c = ((List.range n).map f).toArray := by
  obtain ⟨c, hb, hn, hc⟩ := h
  refine ⟨c, hb, hn, ?_⟩
  apply Array.ext_getElem?
  intro i
  by_cases hi : i < n
  · rw [hc i hi]; simp [hi]
  · rw [Array.getElem?_eq_none (by omega)]; simp [hi]
theorem all_one_ints {n : Nat} {c : Array Value} {k : IntKind} {g : Nat → Int} (h : c = ((List.range n).map (fun j => Value.int k (g j))).toArray) : c.all (·.oneCell') = true := by
  subst h
  rw [Array.all_eq_true_iff_forall_mem]
  intro v hv
  simp only [List.mem_toArray, List.mem_map] at hv
  obtain ⟨j, _, rfl⟩ := hv
  rfl
theorem results_cell_slot {P : Program} {fn : Func} {p q : Tmp} {ty : TypeId} (h : fn.results = #[.cell p ty, .tmp q]) (tmps : Array Value) (w : World) (g : Nat) (t : TypeId) (cs : Array Value) (fr : Nat × Nat) (d : TypeDesc)
    (hp : tmps.getD p undef = .pointer (some ⟨g, 0, none⟩)) (hg : w.heap[g]? = some (.cells cs t fr))
    (hu : P.underlying ty = some d) (hd : (match d with | .struct _ | .array _ _ => true | _ => false) = true) (hi : (P.info? ty).map (·.size) = some cs.size) (v : Value) (hv : tmps.getD q undef = v) :
    (results fn tmps).run P w = .ok (.tuple #[.agg cs, v]) w := by
  subst hv
  have hp' : tmps[p]?.getD undef = .pointer (some ⟨g, 0, none⟩) := by simpa using hp
  simp [results, h, hp', asAddr, run_loadVar_row w g t ty cs fr d hg hu hd hi]
theorem rowIs_setRow {w : World} {b : Nat} {t : TypeId} {n : Nat} {f : Nat → Value} (h : w.rowIs b t n f) (cs : Array Value) : (w.setRow b cs).heap[b]? = some (.cells cs t (0, 0)) := by
  obtain ⟨c, hb, _, _⟩ := h
  exact setRow_heap w b c cs t (0, 0) hb
end Go.Kx

/-
  What a whole number's type is (any program).
-/
namespace Go.Proofs.YtgcohoonhklkbaaDoor
open Go.RowKit Go.Kx

theorem int_info : (Tryd.prog.info? 3).map (fun i => (i.zero, i.size, i.bytes)) = some (some (.int .i64 0), 1, 8) := by kernel_rfl
end Go.Proofs.YtgcohoonhklkbaaDoor

/-
  word: the contracts of its functions.
-/
namespace Go.Proofs.YtgcohoonhklkbaaDoor
open Go.RowKit Go.Kx
set_option maxRecDepth 20000

def okW (x : Int) : Bool := decide (0 ≤ x) && decide (x ≤ 4294967295)
theorem okW_t {x : Int} (h0 : 0 ≤ x) (h1 : x ≤ 4294967295) : okW x = true := by simp [okW, h0, h1]
theorem okW_lo {x : Int} (h0 : x < 0) : okW x = false := by simp [okW]; omega
theorem okW_hi {x : Int} (h0 : 4294967295 < x) : okW x = false := by simp [okW]; omega
theorem all_bad {xs : List Int} {k : Nat} {x : Int} (h : xs[k]? = some x) (hb : okW x = false) : xs.all okW = false := by
  rw [List.all_eq_false]
  exact ⟨x, List.mem_of_getElem? h, by simp [hb]⟩
theorem all_snoc {xs : List Int} {k : Nat} {x : Int} (h : xs[k]? = some x) (ha : (xs.take k).all okW = true) (hb : okW x = true) : (xs.take (k + 1)).all okW = true := by
  rw [List.take_add_one, List.all_append, ha, h]
  simp [hb]

theorem is_any (A : Option Addr) (c : Nat) (xs : List Int) (w : World) (hm : xs.length ≤ 9223372036854775807) (hs : Sl w A (xs.map (.int .i64))) :
    Calls Tryd.prog 60 #[.slice A xs.length c] w fun e w' => e = .returned (.bool (xs.all okW)) ∧ w = w' := by
  go_enter Tryd.func60, Tryd.ntmps60
  go_wp2
  go_loop [4, 7] (fun _ i => ∃ k : Nat, k ≤ xs.length ∧ i = .int .i64 k ∧ (xs.take k).all okW = true) (fun _ i => xs.length - (intOf i).toNat)
  case atStart => exact ⟨0, Nat.zero_le _, rfl, rfl⟩
  case round =>
    obtain ⟨k, hk, rfl, ha⟩ := hrel
    by_cases hlt : k < xs.length
    · obtain ⟨b, off, u, rfl, hu, hcell⟩ := hs.at_ (k := k) (by simpa using hlt)
      obtain ⟨x, hx, rfl⟩ : ∃ x, xs[k]? = some x ∧ .int .i64 x = u := by simpa using hu
      have HB := Lib.hid (@all_bad xs k x hx)
      have HG := Lib.hid (all_snoc hx ha)
      clear ha hs hx hu
      by_cases h0 : x < 0
      · go_wp2
        go_ret
        exact ⟨ret_bool (HB.out (okW_lo h0)).symm, rfl⟩
      · by_cases h1 : 4294967295 < x
        · go_wp2
          go_ret
          exact ⟨ret_bool (HB.out (okW_hi h1)).symm, rfl⟩
        · go_wp2
          go_round
          case rel => exact ⟨k + 1, by omega, by go_num, HG.out (okW_t (by omega) (by omega))⟩
          case measure => simp [intOf]; omega
    · go_wp2
      go_ret
      exact ⟨ret_bool (by rw [List.take_of_length_le (by omega)] at ha; exact ha.symm), rfl⟩

theorem is_one (a : Int) (t : TypeId) (n : Nat) (w : World) (hn : n = w.heap.size) :
   Calls Tryd.prog 60 #[.slice (some ⟨n, 0, none⟩) 1 1] (w.alloc (.cells #[.int .i64 a] t)) fun e w' => e = .returned (.bool (okW a)) ∧ (w.alloc (.cells #[.int .i64 a] t)) = w' := by
  subst hn
  simpa using is_any (some ⟨w.heap.size, 0, none⟩) 1 [a] (w.alloc (.cells #[.int .i64 a] t)) (by simp) (Sl.new w t #[.int .i64 a])
theorem is_two (a b : Int) (t : TypeId) (n : Nat) (w : World) (hn : n = w.heap.size) :
   Calls Tryd.prog 60 #[.slice (some ⟨n, 0, none⟩) 2 2] (w.alloc (.cells #[.int .i64 a, .int .i64 b] t)) fun e w' => e = .returned (.bool (okW a && okW b)) ∧ (w.alloc (.cells #[.int .i64 a, .int .i64 b] t)) = w' := by
  subst hn
  simpa using is_any (some ⟨w.heap.size, 0, none⟩) 2 [a, b] (w.alloc (.cells #[.int .i64 a, .int .i64 b] t)) (by simp) (Sl.new w t #[.int .i64 a, .int .i64 b])

/-! ### Add -/
def addL (xs : List Nat) : Nat := xs.foldl (fun s x => (s + x) % 4294967296) 0
theorem addL_snoc (xs : List Nat) (x : Nat) : addL (xs ++ [x]) = (addL xs + x) % 4294967296 := by simp [addL, List.foldl_append]
theorem addL_lt (xs : List Nat) : addL xs < 4294967296 := by
  rcases List.eq_nil_or_concat xs with rfl | ⟨ys, y, rfl⟩
  · decide
  · rw [List.concat_eq_append, addL_snoc]; exact Nat.mod_lt _ (by omega)
theorem and_word (a : Nat) (ha : a < 9223372036854775808) : bits .and .i64 (a : Int) 4294967295 = ((a % 4294967296 : Nat) : Int) := by
  rw [show (4294967295 : Int) = ((4294967295 : Nat) : Int) from rfl, int_and ha (by omega), show (4294967295 : Nat) = 2 ^ 32 - 1 from rfl, Nat.and_two_pow_sub_one_eq_mod]
theorem all_ok (xs : List Nat) (h : ∀ x ∈ xs, x < 4294967296) : (xs.map (fun x : Nat => (x : Int))).all okW = true := by
  rw [List.all_eq_true]
  intro y hy
  obtain ⟨x, hx, rfl⟩ := List.mem_map.1 hy
  have := h x hx
  exact okW_t (by omega) (by omega)
def ints (xs : List Nat) : List Value := xs.map (fun x : Nat => Value.int .i64 (x : Int))
theorem ints_map (xs : List Nat) : (xs.map (fun x : Nat => (x : Int))).map (Value.int .i64) = ints xs := by simp [ints]
theorem is_nats (A : Option Addr) (c : Nat) (xs : List Nat) (w : World) (hm : xs.length ≤ 9223372036854775807) (hs : Sl w A (ints xs)) (hok : ∀ x ∈ xs, x < 4294967296) :
    Calls Tryd.prog 60 #[.slice A xs.length c] w fun e w' => e = .returned (.bool true) ∧ w = w' := by
  have h := is_any A c (xs.map (fun x : Nat => (x : Int))) w (by simpa using hm) (by rw [ints_map]; exact hs)
  rw [all_ok xs hok] at h
  simpa using h
theorem add_any (A : Option Addr) (c : Nat) (xs : List Nat) (w : World) (hm : xs.length ≤ 9223372036854775807) (hs : Sl w A (ints xs)) (hok : ∀ x ∈ xs, x < 4294967296) :
    Calls Tryd.prog 63 #[.slice A xs.length c] w fun e w' => e = .returned (.tuple #[.int .i64 (addL xs), .bool true]) ∧ w = w' := by
  have HOK := Lib.hid hok
  clear hok
  go_enter Tryd.func63, Tryd.ntmps63
  go_wp2_with (go_at_call 60; refine (is_nats A c xs _ hm hs HOK.out).mono ?_; rintro e w' ⟨rfl, rfl⟩)
  go_loop [4, 6, 12] (fun s _ i => ∃ k : Nat, k ≤ xs.length ∧ i = .int .i64 k ∧ s = .int .i64 (addL (xs.take k))) (fun _ _ i => xs.length - (intOf i).toNat)
  case atStart => exact ⟨0, Nat.zero_le _, rfl, rfl⟩
  case round =>
    obtain ⟨k, hk, rfl, rfl⟩ := hrel
    by_cases hlt : k < xs.length
    · obtain ⟨b, off, u, rfl, hu, hcell⟩ := hs.at_ (k := k) (by simpa [ints] using hlt)
      obtain ⟨x, hx, rfl⟩ : ∃ x, xs[k]? = some x ∧ .int .i64 (x : Int) = u := by simpa [ints] using hu
      have hx2 : x < 4294967296 := HOK.out x (List.mem_of_getElem? hx)
      have hst : addL (xs.take (k + 1)) = (addL (xs.take k) + x) % 4294967296 := by rw [List.take_add_one, hx]; exact addL_snoc _ _
      have hlt2 := addL_lt (xs.take k)
      have HST := Lib.hid hst
      clear hs hu hx hst
      generalize addL (xs.take k) = a at *
      have hand : bits .and .i64 ((a : Int) + (x : Int)) 4294967295 = (((a + x) % 4294967296 : Nat) : Int) := by rw [← and_word (a + x) (by omega)]; push_cast; rfl
      go_wp2
      go_round
      case rel => exact ⟨k + 1, by omega, by go_num, by rw [HST.out]; first | rfl | (rw [Int.natCast_emod, Int.natCast_add]; rfl)⟩
      case measure => simp [intOf]; omega
    · obtain rfl : k = xs.length := by omega
      go_wp2
      go_ret2
      exact ⟨ret_int_bool (by first | rfl | rw [List.take_length]) rfl, rfl⟩

/-! ### Rot -/
def rotN (x n : Nat) : Nat := (x * 2 ^ n) % 4294967296 + x / 2 ^ (32 - n)
theorem rot_or (x s : Nat) (hx : x < 4294967296) (hs : s < 32) : (x * 2 ^ s % 4294967296) ||| (x / 2 ^ (32 - s)) = rotN x s := by
  have hp : 2 ^ s * 2 ^ (32 - s) = 4294967296 := by rw [← Nat.pow_add, show s + (32 - s) = 32 from by omega]
  have h1 : x * 2 ^ s % 4294967296 % 2 ^ s = 0 := by
    rw [← hp, Nat.mod_mul_right_mod]; exact Nat.mul_mod_left _ _
  have h2 : x / 2 ^ (32 - s) < 2 ^ s := by
    rw [Nat.div_lt_iff_lt_mul (Nat.two_pow_pos _), hp]; exact hx
  exact nat_join s _ _ h1 h2
theorem rotN_lt (x n : Nat) (hx : x < 4294967296) (hn : n ≤ 32) : rotN x n < 4294967296 := by
  rcases Nat.eq_or_lt_of_le hn with rfl | hn
  · show x * 4294967296 % 4294967296 + x / 1 < _; omega
  · rw [← rot_or x n hx hn]
    have h2 : x / 2 ^ (32 - n) ≤ x := Nat.div_le_self _ _
    exact Nat.or_lt_two_pow (n := 32) (Nat.mod_lt _ (by omega)) (by omega)
theorem rotN_32 (x : Nat) : rotN x 32 = x := by show x * 4294967296 % 4294967296 + x / 1 = x; omega
theorem rotN_mod (x n : Nat) (hx : x < 4294967296) (hn : n ≤ 32) : rotN x (n % 32) = rotN x n := by
  rcases Nat.eq_or_lt_of_le hn with rfl | hn
  · rw [rotN_32]; show x * 1 % 4294967296 + x / 4294967296 = x; omega
  · rw [Nat.mod_eq_of_lt hn]
theorem rotN_back (x n : Nat) (hx : x < 4294967296) (hn : n ≤ 32) : rotN (rotN x n) (32 - n) = x := by
  have hp : 2 ^ n * 2 ^ (32 - n) = 4294967296 := by rw [← Nat.pow_add, show n + (32 - n) = 32 from by omega]
  have hq : x / 2 ^ (32 - n) < 2 ^ n := by rw [Nat.div_lt_iff_lt_mul (Nat.two_pow_pos _), hp]; exact hx
  have hdm := Nat.div_add_mod x (2 ^ (32 - n))
  have hr : x % 2 ^ (32 - n) < 2 ^ (32 - n) := Nat.mod_lt _ (Nat.two_pow_pos _)
  have hA : 0 < 2 ^ n := Nat.two_pow_pos _
  unfold rotN
  rw [show 32 - (32 - n) = n from by omega]
  generalize 2 ^ n = A at *
  generalize 2 ^ (32 - n) = B at *
  generalize x / B = q at *
  generalize x % B = r at *
  subst hdm
  have e1 : (B * q + r) * A % 4294967296 = r * A := by
    have : (B * q + r) * A = r * A + 4294967296 * q := by rw [← hp, Nat.add_mul]; ac_rfl
    rw [this, Nat.add_mul_mod_self_left]
    apply Nat.mod_eq_of_lt
    rw [← hp, Nat.mul_comm A B]
    exact Nat.mul_lt_mul_of_pos_right hr hA
  rw [e1]
  have e2 : (r * A + q) * B % 4294967296 = q * B := by
    have : (r * A + q) * B = q * B + 4294967296 * r := by rw [← hp, Nat.add_mul]; ac_rfl
    rw [this, Nat.add_mul_mod_self_left]
    apply Nat.mod_eq_of_lt
    rw [← hp]
    exact Nat.mul_lt_mul_of_pos_right hq (by omega)
  have e3 : (r * A + q) / A = r := by
    rw [Nat.mul_comm r A, Nat.mul_add_div hA, Nat.div_eq_of_lt hq]; rfl
  rw [e2, e3, Nat.mul_comm q B]
theorem u64_and_31 (n : Nat) (h : n < 18446744073709551616) : bits .and .u64 (n : Int) 31 = ((n % 32 : Nat) : Int) := by
  rw [show (31 : Int) = ((31 : Nat) : Int) from rfl, u64_and_nat n 31 h (by omega), nat_mask5]
theorem rotl_any (x n : Nat) (hx : x < 4294967296) (hn : n ≤ 32) (w : World) :
   Calls Tryd.prog 94 #[.int .u32 x, .int .i64 n] w fun e w' => e = .returned (.int .u32 (rotN x n : Nat)) ∧ w = w' := by
  have HM := Lib.hid (rotN_mod x n hx hn)
  have h1 := u64_and_31 n (by omega)
  have h2 : n % 32 < 32 := Nat.mod_lt _ (by omega)
  generalize n % 32 = s at *
  go_enter Tryd.func94, Tryd.ntmps94
  go_wp2
  go_ret
  refine ⟨ret_int ?_, rfl⟩
  have e1 : ((x : Int) * 2 ^ s % 4294967296) = ((x * 2 ^ s % 4294967296 : Nat) : Int) := by rw [Int.natCast_emod, Int.natCast_mul, Int.natCast_pow]; rfl
  have e2 : ((x : Int) / 2 ^ (32 - s)) = ((x / 2 ^ (32 - s) : Nat) : Int) := by rw [Int.natCast_ediv, Int.natCast_pow]; rfl
  rw [e1, e2, u32_or_nat _ _ (Nat.mod_lt _ (by omega)) (Nat.lt_of_le_of_lt (Nat.div_le_self _ _) hx), rot_or x s hx h2, HM.out]
/-! ### Cut -/
theorem below_any (h : Bool) (w : World) :
   Calls Tryd.prog 64 #[.bool h] w fun e w' => e = .returned (.func (.func 83) #[] #[.pointer (some ⟨w.heap.size, 0, none⟩)]) ∧ w.alloc (.cells #[.bool h] 4) = w' := by
  go_enter Tryd.func64, Tryd.ntmps64
  go_wp2
  go_ret
  exact ⟨rfl, rfl⟩

def shB (h : Bool) (m : Int) : Int := if h then 8 * (3 - m) else 8 * m
def shN (h : Bool) (m : Nat) : Nat := if h then 8 * (3 - m) else 8 * m
theorem shN_le (h : Bool) (m : Nat) (hm : m < 4) : shN h m ≤ 24 := by
  cases h <;> simp [shN] <;> omega
theorem shB_eq (h : Bool) (m : Nat) (hm : m < 4) : shB h (m : Int) = (shN h m : Int) := by
  cases h <;> simp [shB, shN] <;> omega
theorem below1 (h : Bool) (a : Addr) (i : Int) (h0 : 0 ≤ i) (h1 : i ≤ 3) (w : World) (hc : w.cell? a = some (.bool h)) :
   Calls Tryd.prog 83 #[.int .i64 i, .pointer (some a)] w fun e w' => e = .returned (.int .u64 (shB h i)) ∧ w' = w := by
  cases h
  · go_enter Tryd.func83, Tryd.ntmps83
    go_wp2
    go_ret
    exact ⟨rfl, rfl⟩
  · go_enter Tryd.func83, Tryd.ntmps83
    go_wp2
    go_ret
    exact ⟨rfl, rfl⟩

def wd (h : Bool) (a b c d : Nat) : Nat := if h then a * 16777216 + b * 65536 + c * 256 + d else d * 16777216 + c * 65536 + b * 256 + a
def byteAt (s : ByteArray) (k i : Nat) : Nat := if i < k then (s.data.toList.getD i 0).toNat else 0
theorem or_top (x y i : Nat) (hx : x < 2 ^ i) : x ||| y * 2 ^ i = x + y * 2 ^ i := by
  rw [Nat.or_comm, nat_join i (y * 2 ^ i) x (Nat.mul_mod_left _ _) hx]; omega
theorem or_low (x y z i j : Nat) (hx : x = z * 2 ^ j) (hy : y * 2 ^ i < 2 ^ j) : x ||| y * 2 ^ i = x + y * 2 ^ i := by
  subst hx; exact nat_join j _ _ (Nat.mul_mod_left _ _) hy
theorem wd0 (h : Bool) (b : Nat) : wd h 0 0 0 0 ||| b * 2 ^ shN h 0 = wd h b 0 0 0 := by
  cases h <;> simp [wd, shN]
theorem wd1 (h : Bool) (a b : Nat) (ha : a < 256) (hb : b < 256) : wd h a 0 0 0 ||| b * 2 ^ shN h 1 = wd h a b 0 0 := by
  cases h
  · show 0 * 16777216 + 0 * 65536 + 0 * 256 + a ||| b * 2 ^ 8 = 0 * 16777216 + 0 * 65536 + b * 256 + a
    rw [or_top _ _ _ (by omega)]; omega
  · show a * 16777216 + 0 * 65536 + 0 * 256 + 0 ||| b * 2 ^ 16 = a * 16777216 + b * 65536 + 0 * 256 + 0
    rw [or_low _ _ a 16 24 (by omega) (by omega)]; omega
theorem wd2 (h : Bool) (a a1 b : Nat) (ha : a < 256) (h1 : a1 < 256) (hb : b < 256) : wd h a a1 0 0 ||| b * 2 ^ shN h 2 = wd h a a1 b 0 := by
  cases h
  · show 0 * 16777216 + 0 * 65536 + a1 * 256 + a ||| b * 2 ^ 16 = 0 * 16777216 + b * 65536 + a1 * 256 + a
    rw [or_top _ _ _ (by omega)]; omega
  · show a * 16777216 + a1 * 65536 + 0 * 256 + 0 ||| b * 2 ^ 8 = a * 16777216 + a1 * 65536 + b * 256 + 0
    rw [or_low _ _ (a * 256 + a1) 8 16 (by omega) (by omega)]; omega
theorem wd3 (h : Bool) (a a1 a2 b : Nat) (ha : a < 256) (h1 : a1 < 256) (h2 : a2 < 256) (hb : b < 256) : wd h a a1 a2 0 ||| b * 2 ^ shN h 3 = wd h a a1 a2 b := by
  cases h
  · show 0 * 16777216 + a2 * 65536 + a1 * 256 + a ||| b * 2 ^ 24 = b * 16777216 + a2 * 65536 + a1 * 256 + a
    rw [or_top _ _ _ (by omega)]; omega
  · show a * 16777216 + a1 * 65536 + a2 * 256 + 0 ||| b * 2 ^ 0 = a * 16777216 + a1 * 65536 + a2 * 256 + b
    rw [or_low _ _ (a * 65536 + a1 * 256 + a2) 0 8 (by omega) (by omega)]; omega
theorem wrap_shl (b sh : Nat) (hb : b < 256) (hs : sh ≤ 24) : IntKind.i64.wrap ((b : Int) * 2 ^ sh) = ((b * 2 ^ sh : Nat) : Int) := by
  have h1 : (2 : Nat) ^ sh ≤ 2 ^ 24 := Nat.pow_le_pow_right (by omega) hs
  have h2 : b * 2 ^ sh ≤ 255 * 2 ^ 24 := Nat.mul_le_mul (by omega) h1
  have h3 : ((b : Int) * 2 ^ sh) = ((b * 2 ^ sh : Nat) : Int) := by push_cast; rfl
  rw [h3]
  exact IntWalk.i64_in _ (by omega)
theorem byteAt_lt (s : ByteArray) (k i : Nat) : byteAt s k i < 256 := by
  unfold byteAt; split
  · exact UInt8.toNat_lt _
  · omega
theorem byteAt_at (s : ByteArray) (k : Nat) (h : k < s.size) : byteAt s (k + 1) k = s[k].toNat := by
  unfold byteAt
  rw [if_pos (by omega), List.getD_eq_getElem?_getD, List.getElem?_eq_getElem (by simpa using h)]; rfl
theorem byteAt_at0 (s : ByteArray) (k i : Nat) (h : k ≤ i) : byteAt s k i = 0 := by
  unfold byteAt; rw [if_neg (by omega)]
theorem byteAt_ne (s : ByteArray) (k i : Nat) (h : i ≠ k) : byteAt s (k + 1) i = byteAt s k i := by
  unfold byteAt
  by_cases hi : i < k
  · rw [if_pos hi, if_pos (by omega)]
  · rw [if_neg hi, if_neg (by omega)]
def cutRow (h : Bool) (s : ByteArray) (k j : Nat) : Nat := wd h (byteAt s k (4 * j)) (byteAt s k (4 * j + 1)) (byteAt s k (4 * j + 2)) (byteAt s k (4 * j + 3))

theorem wd_lt (h : Bool) (a b c d : Nat) (ha : a < 256) (hb : b < 256) (hc : c < 256) (hd : d < 256) : wd h a b c d < 4294967296 := by
  unfold wd; split <;> omega
theorem cutRow_lt (h : Bool) (s : ByteArray) (k j : Nat) : cutRow h s k j < 4294967296 := wd_lt h _ _ _ _ (byteAt_lt _ _ _) (byteAt_lt _ _ _) (byteAt_lt _ _ _) (byteAt_lt _ _ _)
theorem cutRow_ne (h : Bool) (s : ByteArray) (k j : Nat) (hj : j ≠ k / 4) : cutRow h s (k + 1) j = cutRow h s k j := by
  unfold cutRow
  rw [byteAt_ne _ _ _ (by omega), byteAt_ne _ _ _ (by omega), byteAt_ne _ _ _ (by omega), byteAt_ne _ _ _ (by omega)]
theorem cutRow_at (h : Bool) (s : ByteArray) (k : Nat) (hk : k < s.size) : cutRow h s k (k / 4) ||| s[k].toNat * 2 ^ (shN h (k % 4)) = cutRow h s (k + 1) (k / 4) := by
  obtain ⟨j, m, hm, hkj⟩ : ∃ j m, m < 4 ∧ k = 4 * j + m := ⟨k / 4, k % 4, by omega, by omega⟩
  have e1 : k / 4 = j := by omega
  have e2 : k % 4 = m := by omega
  have hl := byteAt_at s k hk
  have hb : s[k].toNat < 256 := UInt8.toNat_lt _
  rw [e1, e2]
  generalize s[k].toNat = b at hl hb ⊢
  unfold cutRow
  have l0 := byteAt_lt s k (4 * j)
  have l1 := byteAt_lt s k (4 * j + 1)
  have l2 := byteAt_lt s k (4 * j + 2)
  rcases (by omega : m = 0 ∨ m = 1 ∨ m = 2 ∨ m = 3) with rfl | rfl | rfl | rfl
  · have hk0 : 4 * j = k := by omega
    rw [hk0, hl, byteAt_ne _ _ (k + 1) (by omega), byteAt_ne _ _ (k + 2) (by omega), byteAt_ne _ _ (k + 3) (by omega), byteAt_at0 s _ k (by omega), byteAt_at0 s _ (k + 1) (by omega), byteAt_at0 s _ (k + 2) (by omega), byteAt_at0 s _ (k + 3) (by omega)]
    exact wd0 h b
  · have hk0 : 4 * j + 1 = k := by omega
    rw [hk0, hl, byteAt_ne _ _ (4 * j) (by omega), byteAt_ne _ _ (4 * j + 2) (by omega), byteAt_ne _ _ (4 * j + 3) (by omega), byteAt_at0 s _ k (by omega), byteAt_at0 s _ (4 * j + 2) (by omega), byteAt_at0 s _ (4 * j + 3) (by omega)]
    exact wd1 h _ b l0 hb
  · have hk0 : 4 * j + 2 = k := by omega
    rw [hk0, hl, byteAt_ne _ _ (4 * j) (by omega), byteAt_ne _ _ (4 * j + 1) (by omega), byteAt_ne _ _ (4 * j + 3) (by omega), byteAt_at0 s _ k (by omega), byteAt_at0 s _ (4 * j + 3) (by omega)]
    exact wd2 h _ _ b l0 l1 hb
  · have hk0 : 4 * j + 3 = k := by omega
    rw [hk0, hl, byteAt_ne _ _ (4 * j) (by omega), byteAt_ne _ _ (4 * j + 1) (by omega), byteAt_ne _ _ (4 * j + 2) (by omega), byteAt_at0 s _ k (by omega)]
    exact wd3 h _ _ _ b l0 l1 l2 hb
set_option maxHeartbeats 4000000 in
theorem cut_any (s : ByteArray) (h : Bool) (w : World) (hs : s.size ≤ 1000000) (h4 : s.size % 4 = 0) :
   Calls Tryd.prog 82 #[.string s, .bool h] w fun e w' => ∃ b, e = .returned (.tuple #[.slice (some ⟨b, 0, none⟩) (s.size / 4) (s.size / 4), .bool true]) ∧ b = w.heap.size + 1 ∧
     w'.rowIs b 3 (s.size / 4) (fun j => .int .i64 (cutRow h s s.size j)) ∧ Below w.heap.size w w' := by
  have hmk0 := run_make_row' (P := Tryd.prog) 67 3 (.int .i64 0) 8 Tryd.underlying67 int_info rfl .i64 .i64 (s.size / 4) (by omega) (by omega)
  have hq : ((s.size / 4 : Nat) : Int) = (s.size : Int) / 4 := by omega
  rw [hq] at hmk0
  have hmk : ∀ W : World, (Instr.makeSlice 67 (.int .i64 ((s.size : Int) / 4)) (.int .i64 ((s.size : Int) / 4))).run Tryd.prog W = .ok (.slice (some ⟨W.heap.size, 0, none⟩) (s.size / 4) (s.size / 4)) (W.alloc (.cells (madeCells #[.int .i64 0] (s.size / 4)) 3)) := hmk0
  clear hq hmk0
  have he : ((s.size : Int) % 4 != 0) = false := by simp; omega
  go_enter Tryd.func82, Tryd.ntmps82
  go_wp2_with (go_at_call 64; refine (below_any h _).mono ?_; rintro e w' ⟨rfl, rfl⟩)
  go_loopw [8, 21] (fun _ i wr => ∃ k : Nat, k ≤ s.size ∧ i = .int .i64 k ∧ wr.cell? ⟨w.heap.size, 0, none⟩ = some (.bool h) ∧ w.heap.size + 1 < wr.heap.size ∧
      wr.rowIs (w.heap.size + 1) 3 (s.size / 4) (fun j => .int .i64 (cutRow h s k j)) ∧ Below w.heap.size w wr) (fun _ i _ => s.size - (intOf i).toNat)
  case atStart =>
    refine ⟨0, Nat.zero_le _, rfl, by go_simp, by simp, ?_, ((Below.refl _ _).alloc (Nat.le_refl _) _).alloc (by simp) _⟩
    have hr := (World.rowIs_made (w.alloc (.cells #[.bool h] 4)) (.int .i64 0) (s.size / 4) 3).congr (g := fun j => .int .i64 (cutRow h s 0 j)) (fun j _ => by simp [cutRow, byteAt, wd])
    simpa using hr
  case round =>
    obtain ⟨k, hk, rfl, hcell, hsz, hrow, hb⟩ := hrel
    by_cases hlt : k < s.size
    · have hload := hrow.cell (i := k / 4) (by omega)
      have hfz := hrow.frozen (k / 4)
      have hw1 : IntKind.i64.wrap ((k : Int) / 4) = (k : Int) / 4 := IntWalk.i64_in _ (by omega)
      have hn1 : ((k : Int) / 4).toNat = k / 4 := by omega
      have hp1 : (0 : Int) ≤ (k : Int) / 4 := by omega
      have hp2 : (k : Int) / 4 < (s.size : Int) / 4 := by omega
      have hby : s[k].toNat < 256 := UInt8.toNat_lt _
      have hbw : IntKind.i64.wrap ((s[k].toNat : Nat) : Int) = ((s[k].toNat : Nat) : Int) := IntWalk.i64_in _ (by omega)
      have hmod : (k : Int).tmod 4 = ((k % 4 : Nat) : Int) := by rw [Int.tmod_eq_emod_of_nonneg (by omega)]; omega
      obtain ⟨sh, hsh, hsh24, hshB⟩ : ∃ sh : Nat, sh = shN h (k % 4) ∧ sh ≤ 24 ∧ shB h ((k : Int) % 4) = (sh : Int) := ⟨_, rfl, shN_le _ _ (by omega), by rw [← shB_eq h (k % 4) (by omega)]; congr 1⟩
      have hsw : IntKind.i64.wrap ((s[k].toNat : Int) * 2 ^ sh) = ((s[k].toNat * 2 ^ sh : Nat) : Int) := wrap_shl _ sh (by omega) hsh24
      have HSH := Lib.hid hsh
      clear hsh
      go_wp2
      refine wp_region_still_tail 16 (by kernel_rfl) (by kernel_rfl) ?_
      simp only [List.take_succ_cons, List.take_zero, List.drop_succ_cons, List.drop_zero]
      repeat still_step
      still_call (below1 _ _ _ (by omega) (by omega) _ (by assumption))
      rw [hshB]
      clear hshB
      repeat still_step
      refine wpStill_nil ?_
      have hrow2 := hrow.drew
      have hb2 := hb.drew
      have hcell2 : wr.drew.cell? ⟨w.heap.size, 0, none⟩ = some (.bool h) := hcell
      have hsz2 : w.heap.size + 1 < wr.drew.heap.size := hsz
      have hload2 : wr.drew.cell? ⟨w.heap.size + 1, k / 4, none⟩ = _ := hload
      have hfz2 : wr.drew.frozen? ⟨w.heap.size + 1, k / 4, none⟩ = _ := hfz
      change wpList _ _ _ _ _ wr.drew
      clear hrow hb hcell hsz hload hfz
      generalize wr.drew = w2 at *
      go_wp2
      go_roundw
      case rel =>
        have hbit : bits .or .i64 ((cutRow h s k (k / 4) : Nat) : Int) ((s[k].toNat : Int) * 2 ^ sh) = ((cutRow h s (k + 1) (k / 4) : Nat) : Int) := by
          have hlt1 := cutRow_lt h s k (k / 4)
          have e : ((s[k].toNat : Int) * 2 ^ sh) = ((s[k].toNat * 2 ^ sh : Nat) : Int) := by push_cast; rfl
          have h1 : (2 : Nat) ^ sh ≤ 2 ^ 24 := Nat.pow_le_pow_right (by omega) hsh24
          have h2 : s[k].toNat * 2 ^ sh ≤ 255 * 2 ^ 24 := Nat.mul_le_mul (by omega) h1
          rw [e, int_or (by omega) (by omega), HSH.out, cutRow_at h s k hlt]
        refine ⟨k + 1, by omega, by go_num, ?_, by simpa using hsz2, ?_, hb2.setCell (p := ⟨w.heap.size + 1, k / 4, none⟩) (by simp) _⟩
        · rw [World.cell?_setCell_other _ _ _ _ (by simp)]; exact hcell2
        · refine (hrow2.set (k / 4) _).congr fun j _ => ?_
          by_cases hj : j = k / 4
          · rw [if_pos hj, hbit, hj]
          · rw [if_neg hj, cutRow_ne h s k j hj]
      case measure => simp [intOf]; omega
    · obtain rfl : k = s.size := by omega
      go_wp2
      go_ret2
      exact ⟨_, rfl, rfl, hrow, hb⟩

/-! ### what Cut tells, as a list -/
theorem Sl_of_row {w : World} {b : Nat} {t : TypeId} {n : Nat} {f : Nat → Value} (h : w.rowIs b t n f) : Sl w (some ⟨b, 0, none⟩) ((List.range n).map f) := by
  refine .inr ⟨b, 0, rfl, h.lt, fun j u hu => ?_⟩
  rw [List.getElem?_map] at hu
  obtain ⟨i, hi, rfl⟩ := Option.map_eq_some_iff.1 hu
  obtain ⟨hj, rfl⟩ := List.getElem?_eq_some_iff.1 hi
  rw [Nat.zero_add]
  simpa using h.cell (i := j) (by simpa using hj)
def cutL (h : Bool) (s : ByteArray) : List Nat := (List.range (s.size / 4)).map (cutRow h s s.size)
theorem cutL_length (h : Bool) (s : ByteArray) : (cutL h s).length = s.size / 4 := by simp [cutL]
theorem cutL_lt (h : Bool) (s : ByteArray) : ∀ x ∈ cutL h s, x < 4294967296 := by
  intro x hx
  obtain ⟨j, _, rfl⟩ := List.mem_map.1 hx
  exact cutRow_lt _ _ _ _
theorem cut_new (s : ByteArray) (h : Bool) (w : World) (hs : s.size ≤ 1000000) (h4 : s.size % 4 = 0) :
   Calls Tryd.prog 82 #[.string s, .bool h] w fun e w' => ∃ b, e = .returned (.tuple #[.slice (some ⟨b, 0, none⟩) (cutL h s).length (cutL h s).length, .bool true]) ∧
     w.heap.size ≤ b ∧ Sl w' (some ⟨b, 0, none⟩) (ints (cutL h s)) ∧ Below w.heap.size w w' := by
  refine (cut_any s h w hs h4).mono ?_
  rintro e w' ⟨b, rfl, rfl, hr, hb⟩
  refine ⟨_, by rw [cutL_length], by omega, ?_, hb⟩
  have := Sl_of_row hr
  unfold ints cutL
  rw [List.map_map]
  exact this
theorem cut_list (s : ByteArray) (h : Bool) (w : World) (hs : s.size ≤ 1000000) (h4 : s.size % 4 = 0) :
   Calls Tryd.prog 82 #[.string s, .bool h] w fun e w' => ∃ b, e = .returned (.tuple #[.slice (some ⟨b, 0, none⟩) (cutL h s).length (cutL h s).length, .bool true]) ∧
     Sl w' (some ⟨b, 0, none⟩) (ints (cutL h s)) ∧ Below w.heap.size w w' :=
  (cut_new s h w hs h4).mono fun _ _ ⟨b, he, _, h1, h2⟩ => ⟨b, he, h1, h2⟩
theorem cut_none (s : ByteArray) (h : Bool) (w : World) (hs : s.size ≤ 9223372036854775807) (h4 : s.size % 4 ≠ 0) :
   Calls Tryd.prog 82 #[.string s, .bool h] w fun e w' => e = .returned (.tuple #[.slice none 0 0, .bool false]) ∧ w = w' := by
  have he : ((s.size : Int) % 4 != 0) = true := by simp; omega
  clear h4
  go_enter Tryd.func82, Tryd.ntmps82
  go_wp2
  go_ret2
  exact ⟨rfl, rfl⟩
end Go.Proofs.YtgcohoonhklkbaaDoor

/-
  A row of ints as one array (any program).
-/
namespace Go.Proofs.YtgcohoonhklkbaaDoor
open Go.RowKit Go.Kx

def rowA (k : IntKind) (n : Nat) (f : Nat → Nat) : Array Value := ((List.range n).map fun j => Value.int k (f j : Nat)).toArray
theorem rowA_size (k : IntKind) (n : Nat) (f : Nat → Nat) : (rowA k n f).size = n := by simp [rowA]
theorem rowA_at (k : IntKind) (n : Nat) (f : Nat → Nat) (j : Nat) (h : j < n) : (rowA k n f)[j]? = some (.int k (f j : Nat)) := by simp [rowA, h]
end Go.Proofs.YtgcohoonhklkbaaDoor

/-
  digest, as plain mathematics over numbers and lists of bytes: what stands behind a text, one step, a sum.
-/
namespace Go.Proofs.YtgcohoonhklkbaaDoor
open Go.RowKit Go.Kx

structure St where
  a : Nat
  b : Nat
  c : Nat
  d : Nat
  e : Nat
  f : Nat
  g : Nat
  h : Nat
deriving DecidableEq
def St.l (s : St) : List Nat := [s.a, s.b, s.c, s.d, s.e, s.f, s.g, s.h]
def St.ok (s : St) : Prop := s.a < 4294967296 ∧ s.b < 4294967296 ∧ s.c < 4294967296 ∧ s.d < 4294967296 ∧ s.e < 4294967296 ∧ s.f < 4294967296 ∧ s.g < 4294967296 ∧ s.h < 4294967296
def St.v (s : St) : Value := .agg #[.int .i64 s.a, .int .i64 s.b, .int .i64 s.c, .int .i64 s.d, .int .i64 s.e, .int .i64 s.f, .int .i64 s.g, .int .i64 s.h]
def St.at (s : St) (j : Nat) : Nat := s.l.getD j 0
theorem St.v_row (s : St) : s.v = .agg (rowA .i64 8 s.at) := rfl
def St.u (s : St) : Value := .agg #[.int .u32 s.a, .int .u32 s.b, .int .u32 s.c, .int .u32 s.d, .int .u32 s.e, .int .u32 s.f, .int .u32 s.g, .int .u32 s.h]

def bk (x n : Nat) : Nat := rotN x (32 - n)
def sg0 (p : Nat) : Nat := (bk p 7 ^^^ bk p 18) ^^^ p / 8
def sg1 (q : Nat) : Nat := (bk q 17 ^^^ bk q 19) ^^^ q / 1024
def nextW (w : List Nat) : Nat :=
  (w.getD (w.length - 16) 0 + sg0 (w.getD (w.length - 15) 0) + w.getD (w.length - 7) 0 + sg1 (w.getD (w.length - 2) 0)) % 4294967296
def grow (f : List Nat → Nat) : Nat → List Nat → List Nat
  | 0, w => w
  | n + 1, w => grow f n (w ++ [f w])
def sched (n : Nat) (w : List Nat) : List Nat := grow nextW n w

def shaK : List Nat := [1116352408, 1899447441, 3049323471, 3921009573, 961987163, 1508970993, 2453635748, 2870763221, 3624381080, 310598401, 607225278, 1426881987, 1925078388, 2162078206, 2614888103, 3248222580, 3835390401, 4022224774, 264347078, 604807628, 770255983, 1249150122, 1555081692, 1996064986, 2554220882, 2821834349, 2952996808, 3210313671, 3336571891, 3584528711, 113926993, 338241895, 666307205, 773529912, 1294757372, 1396182291, 1695183700, 1986661051, 2177026350, 2456956037, 2730485921, 2820302411, 3259730800, 3345764771, 3516065817, 3600352804, 4094571909, 275423344, 430227734, 506948616, 659060556, 883997877, 958139571, 1322822218, 1537002063, 1747873779, 1955562222, 2024104815, 2227730452, 2361852424, 2428436474, 2756734187, 3204031479, 3329325298]

def chA (s : St) : Nat := (s.e &&& s.f) ^^^ ((4294967295 - s.e) &&& s.g)
def mjA (s : St) : Nat := ((s.a &&& s.b) ^^^ (s.a &&& s.c)) ^^^ (s.b &&& s.c)
def bs1 (x : Nat) : Nat := (bk x 6 ^^^ bk x 11) ^^^ bk x 25
def bs0 (x : Nat) : Nat := (bk x 2 ^^^ bk x 13) ^^^ bk x 22
def uA (s : St) (k w : Nat) : Nat := (s.h + bs1 s.e + chA s + k + w) % 4294967296
def vA (s : St) : Nat := (bs0 s.a + mjA s) % 4294967296
def rnd (s : St) (k w : Nat) : St := ⟨(uA s k w + vA s) % 4294967296, s.a, s.b, s.c, (s.d + uA s k w) % 4294967296, s.e, s.f, s.g⟩
def mixN (W : Nat → Nat) (s : St) : Nat → St
  | 0 => s
  | i + 1 => rnd (mixN W s i) (shaK.getD i 0) (W i)
def St.add (s t : St) : St := ⟨(s.a + t.a) % 4294967296, (s.b + t.b) % 4294967296, (s.c + t.c) % 4294967296, (s.d + t.d) % 4294967296, (s.e + t.e) % 4294967296, (s.f + t.f) % 4294967296, (s.g + t.g) % 4294967296, (s.h + t.h) % 4294967296⟩
def blkW (blk : List UInt8) : List Nat := sched 48 (cutL true ⟨blk.toArray⟩)
def stepL (s : St) (blk : List UInt8) : St := s.add (mixN (fun j => (blkW blk).getD j 0) s 64)
def stZ : St := ⟨0, 0, 0, 0, 0, 0, 0, 0⟩
def st0 : St := ⟨1779033703, 3144134277, 1013904242, 2773480762, 1359893119, 2600822924, 528734635, 1541459225⟩

def joinL (h : Bool) (l : List Nat) : List UInt8 := (List.range (4 * l.length)).map fun i => UInt8.ofNat (l.getD (i / 4) 0 / 2 ^ shN h (i % 4))
def padL (n : Nat) : List UInt8 := 128 :: (List.replicate ((64 - (n + 9) % 64) % 64) 0 ++ joinL true [8 * n / 4294967296, 8 * n % 4294967296])
def chunkAt (l : List UInt8) (k : Nat) : List UInt8 := (l.drop (64 * k)).take 64
def chunks (l : List UInt8) : List (List UInt8) := (List.range (l.length / 64)).map (chunkAt l)
def sumL (s : List UInt8) : List UInt8 := joinL true ((chunks (s ++ padL s.length)).foldl stepL st0).l

def hexD : List UInt8 := [48, 49, 50, 51, 52, 53, 54, 55, 56, 57, 97, 98, 99, 100, 101, 102]
def hexL (s : List UInt8) : List UInt8 := s.flatMap fun c => [hexD.getD (c.toNat / 16) 0, hexD.getD (c.toNat % 16) 0]

/-! ### the schedule -/
theorem bk_lt (x n : Nat) (hx : x < 4294967296) : bk x n < 4294967296 := rotN_lt x (32 - n) hx (by omega)
theorem xor_lt {a b : Nat} (ha : a < 4294967296) (hb : b < 4294967296) : a ^^^ b < 4294967296 := Nat.xor_lt_two_pow (n := 32) ha hb
theorem and_lt {a b : Nat} (hb : b < 4294967296) : a &&& b < 4294967296 := Nat.and_lt_two_pow (n := 32) a hb
theorem sg0_lt (p : Nat) (h : p < 4294967296) : sg0 p < 4294967296 := xor_lt (xor_lt (bk_lt _ _ h) (bk_lt _ _ h)) (by omega)
theorem sg1_lt (p : Nat) (h : p < 4294967296) : sg1 p < 4294967296 := xor_lt (xor_lt (bk_lt _ _ h) (bk_lt _ _ h)) (by omega)
theorem getD_app (w v : List Nat) (j : Nat) (h : j < w.length) : (w ++ v).getD j 0 = w.getD j 0 := by
  simp only [List.getD_eq_getElem?_getD]; rw [List.getElem?_append_left h]
section
variable (f : List Nat → Nat)
theorem grow_length (n : Nat) : ∀ w : List Nat, (grow f n w).length = w.length + n := by
  induction n with
  | zero => intro w; rfl
  | succ n ih => intro w; rw [grow, ih]; simp; omega
theorem grow_old (n : Nat) : ∀ (w : List Nat) (j : Nat), j < w.length → (grow f n w).getD j 0 = w.getD j 0 := by
  induction n with
  | zero => intro w j _; rfl
  | succ n ih => intro w j h; rw [grow, ih _ j (by simp; omega), getD_app _ _ _ h]
theorem grow_next (F : List Nat → Nat → Nat) (hF : ∀ w, f w = F w w.length) (hc : ∀ v w i, 16 ≤ i → (∀ j, j < i → v.getD j 0 = w.getD j 0) → F v i = F w i) (n : Nat) :
    ∀ (w : List Nat) (i : Nat), 16 ≤ w.length → w.length ≤ i → i < w.length + n → (grow f n w).getD i 0 = F (grow f n w) i := by
  induction n with
  | zero => intro w i _ _ _; omega
  | succ n ih =>
    intro w i h16 hi hn
    rw [grow]
    by_cases he : i = w.length
    · subst he
      rw [grow_old f n _ _ (by simp)]
      have e1 : (w ++ [f w]).getD w.length 0 = f w := by simp [List.getD_eq_getElem?_getD]
      rw [e1]
      refine (hF w).trans (hc _ _ _ h16 (fun j hj => ?_))
      rw [grow_old f n _ j (by simp; omega), getD_app w _ j hj]
    · exact ih _ i (by simp; omega) (by simp; omega) (by simp; omega)
theorem grow_lt (M : Nat) (hf : ∀ w, f w < M) (n : Nat) : ∀ w : List Nat, (∀ x ∈ w, x < M) → ∀ x ∈ grow f n w, x < M := by
  induction n with
  | zero => intro w h; exact h
  | succ n ih =>
    intro w h
    rw [grow]
    refine ih _ fun x hx => ?_
    rcases List.mem_append.1 hx with hx | hx
    · exact h x hx
    · obtain rfl := List.mem_singleton.1 hx
      exact hf w
end
def schedF (v : List Nat) (i : Nat) : Nat := (v.getD (i - 16) 0 + sg0 (v.getD (i - 15) 0) + v.getD (i - 7) 0 + sg1 (v.getD (i - 2) 0)) % 4294967296
theorem nextW_F (w : List Nat) : nextW w = schedF w w.length := by unfold nextW schedF; rfl
theorem nextW_lt (w : List Nat) : nextW w < 4294967296 := by unfold nextW; exact Nat.mod_lt _ (by omega)
theorem schedF_congr (v w : List Nat) (i : Nat) (hi : 16 ≤ i) (h : ∀ j, j < i → v.getD j 0 = w.getD j 0) : schedF v i = schedF w i := by
  unfold schedF
  rw [h (i - 16) (by omega), h (i - 15) (by omega), h (i - 7) (by omega), h (i - 2) (by omega)]
theorem blkW_eq (s : ByteArray) : blkW s.data.toList = sched 48 (cutL true s) := rfl
theorem blkW_length (s : ByteArray) (h : s.size = 64) : (blkW s.data.toList).length = 64 := by rw [blkW_eq, sched, grow_length, cutL_length, h]
theorem getD_lt (w : List Nat) (h : ∀ x ∈ w, x < 4294967296) (j : Nat) : w.getD j 0 < 4294967296 := by
  rw [List.getD_eq_getElem?_getD]
  cases hq : w[j]? with
  | none => simp
  | some x => exact h x (List.mem_of_getElem? hq)
theorem blkW_lt (s : ByteArray) (j : Nat) : (blkW s.data.toList).getD j 0 < 4294967296 := getD_lt _ (grow_lt nextW _ nextW_lt _ _ (cutL_lt true s)) j
theorem blkW_old (s : ByteArray) (h : s.size = 64) (j : Nat) (hj : j < 16) : (blkW s.data.toList).getD j 0 = (cutL true s).getD j 0 := by
  rw [blkW_eq, sched, grow_old _ _ _ _ (by rw [cutL_length, h]; omega)]
theorem blkW_next (s : ByteArray) (h : s.size = 64) (i : Nat) (h1 : 16 ≤ i) (h2 : i < 64) : (blkW s.data.toList).getD i 0 = schedF (blkW s.data.toList) i := by
  have hl : (cutL true s).length = 16 := by rw [cutL_length, h]
  rw [blkW_eq]
  exact grow_next nextW schedF nextW_F schedF_congr 48 _ i (by omega) (by omega) (by omega)
/-! ### the rounds -/
theorem rnd_ok {s : St} (h : s.ok) (k w : Nat) : (rnd s k w).ok := by
  obtain ⟨ha, hb, hc, hd, he, hf, hg, hh⟩ := h
  exact ⟨Nat.mod_lt _ (by omega), ha, hb, hc, Nat.mod_lt _ (by omega), he, hf, hg⟩
theorem mixN_ok (W : Nat → Nat) {s : St} (h : s.ok) (n : Nat) : (mixN W s n).ok := by
  induction n with
  | zero => exact h
  | succ n ih => exact rnd_ok ih _ _
theorem St.add_ok (s t : St) : (s.add t).ok :=
  ⟨Nat.mod_lt _ (by omega), Nat.mod_lt _ (by omega), Nat.mod_lt _ (by omega), Nat.mod_lt _ (by omega), Nat.mod_lt _ (by omega), Nat.mod_lt _ (by omega), Nat.mod_lt _ (by omega), Nat.mod_lt _ (by omega)⟩
theorem stepL_ok (s : St) (b : List UInt8) : (stepL s b).ok := St.add_ok _ _
theorem shaK_lt (k : Nat) : shaK.getD k 0 < 4294967296 := getD_lt _ (by decide) k
theorem shaK_length : shaK.length = 64 := rfl
set_option maxRecDepth 100000
theorem sum_none : hexL (sumL []) = [101, 51, 98, 48, 99, 52, 52, 50, 57, 56, 102, 99, 49, 99, 49, 52, 57, 97, 102, 98, 102, 52, 99, 56, 57, 57, 54, 102, 98, 57, 50, 52, 50, 55, 97, 101, 52, 49, 101, 52, 54, 52, 57, 98, 57, 51, 52, 99, 97, 52, 57, 53, 57, 57, 49, 98, 55, 56, 53, 50, 98, 56, 53, 53] := by decide +kernel
theorem sum_abc : hexL (sumL [97, 98, 99]) = [98, 97, 55, 56, 49, 54, 98, 102, 56, 102, 48, 49, 99, 102, 101, 97, 52, 49, 52, 49, 52, 48, 100, 101, 53, 100, 97, 101, 50, 50, 50, 51, 98, 48, 48, 51, 54, 49, 97, 51, 57, 54, 49, 55, 55, 97, 57, 99, 98, 52, 49, 48, 102, 102, 54, 49, 102, 50, 48, 48, 49, 53, 97, 100] := by decide +kernel
end Go.Proofs.YtgcohoonhklkbaaDoor

/-
  word: the contract of Join.
-/
namespace Go.Proofs.YtgcohoonhklkbaaDoor
open Go.RowKit Go.Kx
set_option maxRecDepth 20000

theorem byte_info : (Tryd.prog.info? 5).map (fun i => (i.zero, i.size, i.bytes)) = some (some (.int .u8 0), 1, 1) := by kernel_rfl
def joinAt (h : Bool) (xs : List Nat) (i : Nat) : Nat := xs.getD (i / 4) 0 / 2 ^ shN h (i % 4) % 256
theorem joinL_length (h : Bool) (xs : List Nat) : (joinL h xs).length = 4 * xs.length := by simp [joinL]
theorem joinL_at (h : Bool) (xs : List Nat) (j : Nat) (hj : j < (joinL h xs).length) : ((joinL h xs)[j].toNat : Int) = (joinAt h xs j : Nat) := by
  simp [joinL, joinAt, UInt8.toNat_ofNat']
theorem joinAt_lt (h : Bool) (xs : List Nat) (i : Nat) : joinAt h xs i < 256 := Nat.mod_lt _ (by omega)
def rowJ (h : Bool) (xs : List Nat) (k j : Nat) : Nat := if j < k then joinAt h xs j else 0
theorem rowJ_set (h : Bool) (xs : List Nat) (k j : Nat) : (if j = k then joinAt h xs k else rowJ h xs k j) = rowJ h xs (k + 1) j := by
  unfold rowJ
  by_cases h : j = k
  · subst h; simp
  · rw [if_neg h]
    by_cases h2 : j < k
    · rw [if_pos h2, if_pos (by omega)]
    · rw [if_neg h2, if_neg (by omega)]
set_option maxHeartbeats 4000000 in
theorem join_any (A : Option Addr) (c : Nat) (xs : List Nat) (h : Bool) (w : World) (hm : xs.length ≤ 100000) (hs : Sl w A (ints xs)) (hok : ∀ x ∈ xs, x < 4294967296) :
    Calls Tryd.prog 50 #[.slice A xs.length c, .bool h] w fun e w' => e = .returned (.tuple #[.string ⟨(joinL h xs).toArray⟩, .bool true]) ∧ Below w.heap.size w w' := by
  have hmk0 := run_make_row' (P := Tryd.prog) 82 5 (.int .u8 0) 1 Tryd.underlying82 byte_info rfl .i64 .i64 (4 * xs.length) (by omega) (by omega)
  have hq : ((4 * xs.length : Nat) : Int) = 4 * (xs.length : Int) := by omega
  rw [hq] at hmk0
  have hmk : ∀ W : World, (Instr.makeSlice 82 (.int .i64 (4 * (xs.length : Int))) (.int .i64 (4 * (xs.length : Int)))).run Tryd.prog W = .ok (.slice (some ⟨W.heap.size, 0, none⟩) (4 * xs.length) (4 * xs.length)) (W.alloc (.cells (madeCells #[.int .u8 0] (4 * xs.length)) 5)) := hmk0
  have hwr : IntKind.i64.wrap (4 * (xs.length : Int)) = 4 * (xs.length : Int) := IntWalk.i64_in _ (by omega)
  clear hq hmk0
  have HOK := Lib.hid hok
  clear hok
  go_enter Tryd.func50, Tryd.ntmps50
  go_wp2_with (first | (go_at_call 60; refine (is_nats A c xs _ (by omega) hs HOK.out).mono ?_; rintro e w' ⟨rfl, rfl⟩) | (go_at_call 64; refine (below_any h _).mono ?_; rintro e w' ⟨rfl, rfl⟩))
  go_loopw [8, 20] (fun _ i wr => ∃ k : Nat, k ≤ 4 * xs.length ∧ i = .int .i64 k ∧ wr.cell? ⟨w.heap.size, 0, none⟩ = some (.bool h) ∧ w.heap.size + 1 < wr.heap.size ∧
      wr.rowIs (w.heap.size + 1) 5 (4 * xs.length) (fun j => .int .u8 (rowJ h xs k j : Nat)) ∧ Below w.heap.size w wr) (fun _ i _ => 4 * xs.length - (intOf i).toNat)
  case atStart =>
    refine ⟨0, Nat.zero_le _, rfl, by go_simp, by simp, ?_, ((Below.refl _ _).alloc (Nat.le_refl _) _).alloc (by simp) _⟩
    have hr := (World.rowIs_made (w.alloc (.cells #[.bool h] 4)) (.int .u8 0) (4 * xs.length) 5).congr (g := fun j => .int .u8 (rowJ h xs 0 j : Nat)) (fun j _ => by simp [rowJ])
    simpa using hr
  case round =>
    obtain ⟨k, hk, rfl, hcell, hsz, hrow, hb⟩ := hrel
    by_cases hlt : k < 4 * xs.length
    · obtain ⟨b, off, u, rfl, hu, hld⟩ := (hs.keep hb).at_ (k := k / 4) (by simp [ints]; omega)
      obtain ⟨x, hx, rfl⟩ : ∃ x, xs[k / 4]? = some x ∧ .int .i64 (x : Int) = u := by simpa [ints] using hu
      have hxl : x < 4294967296 := HOK.out x (List.mem_of_getElem? hx)
      have HX := Lib.hid (show xs.getD (k / 4) 0 = x by rw [List.getD_eq_getElem?_getD, hx]; rfl)
      clear hx hu hs
      have hload := hrow.cell (i := k) (by omega)
      have hfz := hrow.frozen k
      have hw1 : IntKind.i64.wrap ((k : Int) / 4) = (k : Int) / 4 := IntWalk.i64_in _ (by omega)
      have hn1 : ((k : Int) / 4).toNat = k / 4 := by omega
      have hp1 : (0 : Int) ≤ (k : Int) / 4 := by omega
      have hp2 : (k : Int) / 4 < (xs.length : Int) := by omega
      have hlt' : (k : Int) < 4 * (xs.length : Int) := by omega
      have hmod : (k : Int).tmod 4 = ((k % 4 : Nat) : Int) := by rw [Int.tmod_eq_emod_of_nonneg (by omega)]; omega
      obtain ⟨sh, hsh, hsh24, hshB⟩ : ∃ sh : Nat, sh = shN h (k % 4) ∧ sh ≤ 24 ∧ shB h ((k : Int) % 4) = (sh : Int) := ⟨_, rfl, shN_le _ _ (by omega), by rw [← shB_eq h (k % 4) (by omega)]; congr 1⟩
      have HSH := Lib.hid hsh
      clear hsh
      generalize rowJ h xs k k = z at hload
      go_wp2
      refine wp_region_still_tail 14 (by kernel_rfl) (by kernel_rfl) ?_
      simp only [List.take_succ_cons, List.take_zero, List.drop_succ_cons, List.drop_zero]
      repeat still_step
      still_call (below1 _ _ _ (by omega) (by omega) _ (by assumption))
      rw [hshB]
      clear hshB
      repeat still_step
      refine wpStill_nil ?_
      have hrow2 := hrow.drew
      have hb2 := hb.drew
      have hcell2 : wr.drew.cell? ⟨w.heap.size, 0, none⟩ = some (.bool h) := hcell
      have hsz2 : w.heap.size + 1 < wr.drew.heap.size := hsz
      have hload2 : wr.drew.cell? ⟨w.heap.size + 1, k, none⟩ = _ := hload
      have hfz2 : wr.drew.frozen? ⟨w.heap.size + 1, k, none⟩ = _ := hfz
      change wpList _ _ _ _ _ wr.drew
      clear hrow hb hcell hsz hload hfz
      generalize wr.drew = w2 at *
      go_wp2
      go_roundw
      case rel =>
        have hv : ((x : Int) / 2 ^ sh % 256) = ((joinAt h xs k : Nat) : Int) := by
          unfold joinAt
          rw [HX.out, ← HSH.out, Int.natCast_emod, Int.natCast_ediv, Int.natCast_pow]
          rfl
        rw [hv]
        refine ⟨k + 1, by omega, by go_num, ?_, by simpa using hsz2, ?_, hb2.setCell (p := ⟨w.heap.size + 1, k, none⟩) (by simp) _⟩
        · rw [World.cell?_setCell_other _ _ _ _ (by simp)]; exact hcell2
        · refine (hrow2.set k _).congr fun j _ => ?_
          rw [← rowJ_set h xs k j]
          split <;> rfl
      case measure => simp [intOf]; omega
    · obtain rfl : k = 4 * xs.length := by omega
      have hconv : ∀ dst, Tryd.prog.underlying dst = some .string → (convert 82 dst (.slice (some ⟨w.heap.size + 1, 0, none⟩) (4 * xs.length) (4 * xs.length))).run Tryd.prog wr = .ok (.string ⟨(joinL h xs).toArray⟩) wr := by
        intro dst hd
        have hc := run_convert_bytes_back (P := Tryd.prog) wr 82 dst 5 ⟨w.heap.size + 1, 0, none⟩ (4 * xs.length) (joinL h xs) Tryd.underlying82 Tryd.underlying5 hd (fun j hj => by
          have hj' : j < 4 * xs.length := by rw [← joinL_length h]; exact hj
          have := hrow.cell (i := j) hj'
          rw [show (⟨w.heap.size + 1, 0, none⟩ : Addr).add j = ⟨w.heap.size + 1, j, none⟩ by unfold Addr.add; split <;> simp_all, this, joinL_at h xs j hj]
          simp [rowJ, hj'])
        rwa [joinL_length] at hc
      have hconv' := hconv 9 Tryd.underlying9
      clear hconv
      generalize hout : joinL h xs = out at *
      have HO := Lib.hid hout
      clear hout
      go_wp2
      go_ret2
      exact ⟨by rw [HO.out]; rfl, hb⟩
end Go.Proofs.YtgcohoonhklkbaaDoor

/-
  A digest of many texts (tree, as plain mathematics; any program), over any digest H.
-/
namespace Go.Trm
abbrev Txt := List UInt8
def ofLeafL (s : Txt) : Txt := 0 :: s
def ofNodeL (a b : Txt) : Txt := 1 :: (a ++ b)
theorem ofLeaf_inj {s t : Txt} (h : ofLeafL s = ofLeafL t) : s = t := by simpa [ofLeafL] using h
theorem ofNode_inj {a b c d : Txt} (hl : a.length = c.length) (h : ofNodeL a b = ofNodeL c d) : a = c ∧ b = d := by
  have h1 : a ++ b = c ++ d := by simpa [ofNodeL] using h
  exact List.append_inj h1 hl

section
variable (H : Txt → Txt)
def leafL (s : Txt) : Txt := H (ofLeafL s)
def nodeL (a b : Txt) : Txt := H (ofNodeL a b)

/-! ### the rows of digests -/
def pairsL : List Txt → List Txt
  | a :: b :: r => nodeL H a b :: pairsL r
  | _ => []
theorem pairsL_length : ∀ l : List Txt, (pairsL H l).length = l.length / 2
  | [] => rfl
  | [_] => by simp [pairsL]
  | _ :: _ :: r => by rw [pairsL, List.length_cons, pairsL_length r, List.length_cons, List.length_cons]; omega
theorem pairsL_get : ∀ (l : List Txt) (j : Nat), 2 * j + 1 < l.length → (pairsL H l).getD j [] = nodeL H (l.getD (2 * j) []) (l.getD (2 * j + 1) [])
  | [], _, h => by simp at h
  | [_], _, h => by simp at h
  | a :: b :: r, 0, _ => rfl
  | a :: b :: r, j + 1, h => by
    rw [pairsL, show 2 * (j + 1) = 2 * j + 1 + 1 by omega, List.getD_cons_succ, List.getD_cons_succ, List.getD_cons_succ, List.getD_cons_succ, List.getD_cons_succ]
    exact pairsL_get r j (by simp at h; omega)
def rowL (l : List Txt) : Nat → List Txt
  | 0 => l.map (leafL H)
  | k + 1 => pairsL H (rowL l k)
theorem rowL_length (l : List Txt) {d : Nat} (hl : l.length = 2 ^ d) : ∀ k, k ≤ d → (rowL H l k).length = 2 ^ (d - k)
  | 0, _ => by rw [rowL, List.length_map, hl, Nat.sub_zero]
  | k + 1, h => by
    rw [rowL, pairsL_length, rowL_length l hl k (by omega), show d - k = (d - (k + 1)) + 1 by omega, Nat.pow_succ]
    omega
theorem rowL_get (l : List Txt) {d : Nat} (hl : l.length = 2 ^ d) (k j : Nat) (hk : k < d) (hj : j < 2 ^ (d - (k + 1))) :
    (rowL H l (k + 1)).getD j [] = nodeL H ((rowL H l k).getD (2 * j) []) ((rowL H l k).getD (2 * j + 1) []) := by
  rw [rowL]
  refine pairsL_get H _ j ?_
  rw [rowL_length H l hl k (by omega), show d - k = (d - (k + 1)) + 1 by omega, Nat.pow_succ]
  omega
def rootL (l : List Txt) (d : Nat) : Txt := (rowL H l d).getD 0 []
def partN (i : Nat) : Nat := if i % 2 = 0 then i + 1 else i - 1
def pathL (l : List Txt) (i d : Nat) : List Txt := (List.range d).map fun k => (rowL H l k).getD (partN (i / 2 ^ k)) []
theorem pathL_length (l : List Txt) (i d : Nat) : (pathL H l i d).length = d := by simp [pathL]

/-! ### the way up -/
def stepW (i : Nat) (x p : Txt) : Txt := if i % 2 = 0 then ofNodeL (H x) p else ofNodeL p (H x)
def waysL (i : Nat) (x : Txt) : List Txt → List Txt
  | [] => [x]
  | p :: ps => x :: waysL (i / 2) (stepW H i x p) ps
def climbL (i : Nat) (x : Txt) : List Txt → Txt
  | [] => H x
  | p :: ps => climbL (i / 2) (stepW H i x p) ps
theorem waysL_length : ∀ (ps : List Txt) (i : Nat) (x : Txt), (waysL H i x ps).length = ps.length + 1
  | [], _, _ => rfl
  | p :: ps, i, x => by rw [waysL, List.length_cons, waysL_length ps, List.length_cons]
theorem climbL_last : ∀ (ps : List Txt) (i : Nat) (x : Txt), climbL H i x ps = H ((waysL H i x ps).getD ps.length [])
  | [], _, _ => rfl
  | p :: ps, i, x => by rw [climbL, climbL_last ps, waysL, List.length_cons, List.getD_cons_succ]
theorem waysL_get : ∀ (ps : List Txt) (i : Nat) (x : Txt) (k : Nat), k < ps.length → (waysL H i x ps).getD (k + 1) [] = stepW H (i / 2 ^ k) ((waysL H i x ps).getD k []) (ps.getD k [])
  | [], _, _, _, h => by simp at h
  | p :: ps, i, x, 0, _ => by
    rw [waysL, List.getD_cons_succ, Nat.pow_zero, Nat.div_one]
    cases ps <;> rfl
  | p :: ps, i, x, k + 1, h => by
    rw [waysL, List.getD_cons_succ, List.getD_cons_succ, List.getD_cons_succ, waysL_get ps _ _ k (by simp at h; omega), Nat.div_div_eq_div_mul, Nat.pow_succ, Nat.mul_comm 2]
theorem waysL_zero (ps : List Txt) (i : Nat) (x : Txt) : (waysL H i x ps).getD 0 [] = x := by cases ps <;> rfl

theorem two_even {m : Nat} (h : m % 2 = 0) : 2 * (m / 2) = m := by omega
theorem two_odd {m : Nat} (h : ¬ m % 2 = 0) : 2 * (m / 2) = m - 1 := by omega
/-- On the way of a text that is there stand the digests above its place. -/
theorem ways_row (l : List Txt) {d : Nat} (hl : l.length = 2 ^ d) (i : Nat) (hi : i < 2 ^ d) : ∀ k, k ≤ d → H ((waysL H i (ofLeafL (l.getD i [])) (pathL H l i d)).getD k []) = (rowL H l k).getD (i / 2 ^ k) []
  | 0, _ => by
    rw [waysL_zero, Nat.pow_zero, Nat.div_one, rowL, List.getD, List.getD, List.getElem?_map, List.getElem?_eq_getElem (by omega)]
    rfl
  | k + 1, hk => by
    have ih := ways_row l hl i hi k (by omega)
    have hlt : i / 2 ^ k < 2 ^ (d - k) := by
      rw [Nat.div_lt_iff_lt_mul (Nat.two_pow_pos k), ← Nat.pow_add, show d - k + k = d by omega]
      exact hi
    have hp2 : 2 ^ (d - k) = 2 ^ (d - (k + 1)) * 2 := by rw [← Nat.pow_succ]; congr 1; omega
    have hhalf : i / 2 ^ k / 2 < 2 ^ (d - (k + 1)) := by
      generalize i / 2 ^ k = m at *
      generalize 2 ^ (d - (k + 1)) = Q at *
      omega
    rw [waysL_get H _ _ _ k (by rw [pathL_length]; omega), Nat.pow_succ, ← Nat.div_div_eq_div_mul, rowL_get H l hl k (i / 2 ^ k / 2) (by omega) hhalf]
    have hpk : (pathL H l i d).getD k [] = (rowL H l k).getD (partN (i / 2 ^ k)) [] := by
      rw [pathL, List.getD, List.getElem?_map, List.getElem?_range (by omega)]
      rfl
    unfold stepW nodeL
    rw [ih, hpk]
    unfold partN
    by_cases h2 : i / 2 ^ k % 2 = 0
    · rw [if_pos h2, if_pos h2, two_even h2]
    · rw [if_neg h2, if_neg h2, two_odd h2, show i / 2 ^ k - 1 + 1 = i / 2 ^ k by generalize i / 2 ^ k = m at h2 ⊢; omega]
/-- Each text climbs by its path to the root. -/
theorem climb_root (l : List Txt) {d : Nat} (hl : l.length = 2 ^ d) (i : Nat) (hi : i < 2 ^ d) : climbL H i (ofLeafL (l.getD i [])) (pathL H l i d) = rootL H l d := by
  rw [climbL_last, pathL_length, ways_row H l hl i hi d (Nat.le_refl _), rootL, Nat.div_eq_of_lt hi]

/-! ### what is shown -/
/-- The last place at which two rows are not the same. -/
def lastDiff (a b : List Txt) : Nat → Option (Txt × Txt)
  | 0 => none
  | k + 1 => if a.getD k [] ≠ b.getD k [] then some (a.getD k [], b.getD k []) else lastDiff a b k
theorem lastDiff_some (a b : List Txt) : ∀ n, (∃ k, k < n ∧ a.getD k [] ≠ b.getD k []) → ∃ k, k < n ∧ lastDiff a b n = some (a.getD k [], b.getD k []) ∧ a.getD k [] ≠ b.getD k [] ∧ ∀ j, k < j → j < n → a.getD j [] = b.getD j []
  | 0, ⟨k, h, _⟩ => by omega
  | n + 1, h => by
    by_cases hn : a.getD n [] = b.getD n []
    · obtain ⟨k, hk, hne⟩ := h
      have hkn : k < n := by
        rcases (by omega : k < n ∨ k = n) with h1 | rfl
        · exact h1
        · exact absurd hn hne
      obtain ⟨q, h1, h2, h3, h4⟩ := lastDiff_some a b n ⟨k, hkn, hne⟩
      refine ⟨q, by omega, ?_, h3, fun j hj hjn => ?_⟩
      · rw [lastDiff, if_neg (by simpa using hn), h2]
      · rcases (by omega : j < n ∨ j = n) with h5 | rfl
        · exact h4 j hj h5
        · exact hn
    · exact ⟨n, by omega, by rw [lastDiff, if_pos hn], hn, fun j h1 h2 => by omega⟩
variable (h32 : ∀ x, (H x).length = 32)
include h32
theorem step_inj {i : Nat} {x y p q : Txt} (hp : p.length = 32) (hq : q.length = 32) (h : stepW H i x p = stepW H i y q) : H x = H y := by
  unfold stepW at h
  split at h
  · exact (ofNode_inj (by rw [h32, h32]) h).1
  · exact (ofNode_inj (by rw [hp, hq]) h).2
/-- Two ways with one end that begin unlike show two texts with one digest. -/
theorem ways_show (i : Nat) (x y : Txt) (ps qs : List Txt) (hl : ps.length = qs.length) (hp : ∀ p ∈ ps, p.length = 32) (hq : ∀ q ∈ qs, q.length = 32) (hxy : x ≠ y) (he : climbL H i x ps = climbL H i y qs) :
    ∃ a b, lastDiff (waysL H i x ps) (waysL H i y qs) (ps.length + 1) = some (a, b) ∧ a ≠ b ∧ H a = H b := by
  obtain ⟨k, hk, h1, h2, h3⟩ := lastDiff_some (waysL H i x ps) (waysL H i y qs) (ps.length + 1) ⟨0, by omega, by rw [waysL_zero, waysL_zero]; exact hxy⟩
  refine ⟨_, _, h1, h2, ?_⟩
  by_cases hkl : k = ps.length
  · rw [climbL_last, climbL_last, ← hl] at he
    rw [hkl]
    exact he
  · have e := h3 (k + 1) (by omega) (by omega)
    rw [waysL_get H ps i x k (by omega), waysL_get H qs i y k (by omega)] at e
    refine step_inj H h32 ?_ ?_ e
    · rw [List.getD, List.getElem?_eq_getElem (by omega)]
      exact hp _ (List.getElem_mem _)
    · rw [List.getD, List.getElem?_eq_getElem (by omega)]
      exact hq _ (List.getElem_mem _)
end
end Go.Trm

/-
  Slices that a walk appends to: what they read as (any program).
-/
namespace Go.Proofs.YtgcohoonhklkbaaDoor
open Go.RowKit Go.Kx
set_option maxRecDepth 20000

theorem own_sl {w : World} {base : Nat} {e : TypeId} {v : Value} {n : Nat} {xs : List Value} (h : w.ownsRow base e 1 v n xs) : ∃ A c, v = .slice A n c ∧ Sl w A xs := by
  have hl := h.1
  rcases Nat.eq_zero_or_pos n with h0 | h0
  · subst h0
    have hx : xs = [] := List.eq_nil_of_length_eq_zero (by simpa using hl)
    subst hx
    rcases h.2 with ⟨rfl, _⟩ | ⟨g, cap, cur, rfl, _⟩
    · exact ⟨_, _, rfl, .inl rfl⟩
    · exact ⟨_, _, rfl, .inl rfl⟩
  · obtain ⟨g, cap, hv, _, hlt⟩ := h.form h0
    subst hv
    refine ⟨_, _, rfl, .inr ⟨g, 0, rfl, hlt, fun j u hu => ?_⟩⟩
    have := h.cells (g := g) rfl j u hu
    rw [Nat.zero_add]
    rw [← this]
    congr 1
    unfold Addr.add
    split <;> simp_all
/-- A slice whose block is not old. -/
def FreshA (B : Nat) (A : Option Addr) : Prop := ∀ a, A = some a → B ≤ a.block
theorem FreshA.ne {B : Nat} {A : Option Addr} (h : FreshA B A) {N : Nat} (hN : N < B) : ∀ a, A = some a → a.block ≠ N := fun a e => by have := h a e; omega
theorem FreshA.mono {B B' : Nat} {A : Option Addr} (h : FreshA B A) (hB : B' ≤ B) : FreshA B' A := fun a e => Nat.le_trans hB (h a e)
theorem own_slf {w : World} {base : Nat} {e : TypeId} {v : Value} {n size : Nat} {xs : List Value} (h : w.ownsRow base e size v n xs) : ∃ A c, v = .slice A n c ∧ Sl w A xs ∧ FreshA base A := by
  have hl := h.1
  rcases h.2 with ⟨rfl, rfl⟩ | ⟨g, cap, cur, rfl, hg, hh, hc, hm, hs, ht⟩
  · have hx : xs = [] := List.eq_nil_of_length_eq_zero (by simpa using hl)
    subst hx
    exact ⟨_, _, rfl, .inl rfl, fun a e => by cases e⟩
  · refine ⟨_, _, rfl, .inr ⟨g, 0, rfl, (Array.getElem?_eq_some_iff.1 hh).1, fun j u hu => ?_⟩, fun a e => by cases e; exact hg⟩
    rw [Nat.zero_add, cell_of_row _ _ _ _ _ _ hh]
    have hj := (List.getElem?_eq_some_iff.1 hu).1
    rw [← ht, List.getElem?_take] at hu
    split at hu
    · simpa using hu
    · cases hu
theorem _root_.Go.Kx.Sl.setA {w : World} {A : Option Addr} {vs : List Value} (h : Sl w A vs) {b : Nat} (hA : ∀ a, A = some a → a.block ≠ b) (o : Nat) (v : Value) : Sl (w.setCell ⟨b, o, none⟩ v) A vs := by
  rcases h with h | ⟨g, off, rfl, hl, hc⟩
  · exact .inl h
  · exact Sl.set (.inr ⟨g, off, rfl, hl, hc⟩) (hA _ rfl) v
theorem own_below {w wr w1 : World} {e : TypeId} {v : Value} {n sz : Nat} {xs : List Value} (hown : wr.ownsRow w.heap.size e sz v n xs) (hb : Below w.heap.size w wr) (hg : wr.grownBy w1 v.ownBlock) : Below w.heap.size w w1 :=
  hb.grown hg hb.size (fun k hk => (hown.lt k hk).1)
theorem own_keep {wr w1 : World} {B : Nat} {e : TypeId} {v : Value} {n sz : Nat} {xs : List Value} (h : wr.ownsRow B e sz v n xs) (hb : Below wr.heap.size wr w1) : w1.ownsRow B e sz v n xs :=
  h.kept (row := none) ⟨hb.os, hb.tape, hb.output, hb.size, fun k hk _ => hb.block k hk⟩ (by cases v.ownBlock <;> simp)
end Go.Proofs.YtgcohoonhklkbaaDoor

/-
  Slices that a walk appends to: what they read as.
-/
namespace Go.Proofs.YtgcohoonhklkbaaDoor
open Go.RowKit Go.Kx
set_option maxRecDepth 20000

theorem octet_info : (Tryd.prog.info? 5).map (fun i => (i.zero, i.size, i.bytes)) = some (some (.int .u8 0), 1, 1) := by kernel_rfl
def byts (l : List UInt8) : List Value := l.map (fun b : UInt8 => Value.int .u8 (b.toNat : Int))
theorem byts_snoc (l : List UInt8) (b : UInt8) : byts l ++ [Value.int .u8 (b.toNat : Int)] = byts (l ++ [b]) := by simp [byts]
theorem take_snocB {l : List UInt8} {k : Nat} {x : UInt8} (h : l[k]? = some x) : l.take k ++ [x] = l.take (k + 1) := by rw [List.take_add_one, h]; rfl
theorem own_str {w : World} {B0 : Nat} {v : Value} {l : List UInt8} (h : w.ownsRow B0 5 1 v l.length (byts l)) :
    ∃ A c, v = .slice A l.length c ∧ (0 < l.length → (convert 82 9 v).run Tryd.prog w = .ok (.string ⟨l.toArray⟩) w) := by
  obtain ⟨A, c, rfl, hs⟩ := own_sl h
  refine ⟨A, c, rfl, fun h0 => ?_⟩
  rcases hs with hs | ⟨b, off, rfl, _, hc⟩
  · have : l = [] := by simpa [byts] using hs
    subst this
    simp at h0
  · refine run_convert_bytes_back (P := Tryd.prog) w 82 9 5 ⟨b, off, none⟩ c l Tryd.underlying82 Tryd.underlying5 Tryd.underlying9 (fun j hj => ?_)
    rw [show (⟨b, off, none⟩ : Addr).add j = ⟨b, off + j, none⟩ by unfold Addr.add; split <;> simp_all]
    rw [hc j (.int .u8 (l[j].toNat : Int)) (by simp [byts, hj])]
theorem own_strs {w : World} {B0 : Nat} {v : Value} {l : List UInt8} (h : w.ownsRow B0 5 1 v l.length (byts l)) :
    ∃ A c, v = .slice A l.length c ∧ (convert 82 9 v).run Tryd.prog w = .ok (.string ⟨l.toArray⟩) w := by
  obtain ⟨A, c, rfl, hc⟩ := own_str h
  refine ⟨A, c, rfl, ?_⟩
  rcases Nat.eq_zero_or_pos l.length with h0 | h0
  · obtain rfl : l = [] := List.eq_nil_of_length_eq_zero h0
    show (convert 82 9 (.slice A 0 c)).run Tryd.prog w = _
    rw [run_convert_bytes_string w 82 9 5 A 0 c Tryd.underlying82 Tryd.underlying5 Tryd.underlying9]
    cases A <;> simp [Conv.bytesToString, loadCells] <;> rfl
  · exact hc h0
end Go.Proofs.YtgcohoonhklkbaaDoor

/-
  Slices of strings (any program).
-/
namespace Go.Proofs.YtgcohoonhklkbaaDoor
open Go.RowKit Go.Kx
set_option maxRecDepth 20000

theorem string_info : (Tryd.prog.info? 9).map (fun i => (i.zero, i.size, i.bytes)) = some (some (.string ⟨#[]⟩), 1, 16) := by kernel_rfl
def strsV (l : List ByteArray) : List Value := l.map Value.string
theorem strsV_snoc (l : List ByteArray) (s : ByteArray) : strsV l ++ [Value.string s] = strsV (l ++ [s]) := by simp [strsV]
theorem strsV_length (l : List ByteArray) : (strsV l).length = l.length := by simp [strsV]
theorem strsV_cell {l : List ByteArray} : ∀ u ∈ strsV l, u.oneCell' = true := by
  intro u hu
  obtain ⟨x, _, rfl⟩ := List.mem_map.1 hu
  rfl
/-- A cell of a slice of strings. -/
theorem sl_strV {w : World} {A : Option Addr} {l : List ByteArray} (h : Sl w A (strsV l)) {k : Nat} (hk : k < l.length) : ∃ b off, A = some ⟨b, off, none⟩ ∧ w.cell? ⟨b, off + k, none⟩ = some (.string l[k]) := by
  obtain ⟨b, off, u, rfl, hu, hc⟩ := h.at_ (k := k) (by rw [strsV_length]; exact hk)
  refine ⟨b, off, rfl, ?_⟩
  rw [hc]
  simp only [strsV, List.getElem?_map, List.getElem?_eq_getElem hk, Option.map_some, Option.some.injEq] at hu
  rw [← hu]
theorem own_join {W : World} {B : Nat} {v : Value} {n : Nat} {l : List ByteArray} (h : W.ownsRow B 9 1 v n (strsV l)) (h0 : 0 < n) :
    ∃ g c, v = .slice (some ⟨g, 0, none⟩) n c ∧ g < W.heap.size ∧ n ≤ c ∧ l.length = n ∧ ∀ (j : Nat) x, l[j]? = some x → W.cell? ⟨g, 0 + j, none⟩ = some (.string x) := by
  have hl : l.length = n := by have := h.1; simpa [strsV] using this
  rcases h.2 with ⟨_, rfl⟩ | ⟨g, cap, cur, rfl, hg, hh, hc, hm, hs, ht⟩
  · omega
  · refine ⟨g, cap, rfl, (Array.getElem?_eq_some_iff.1 hh).1, hc, hl, fun j x hx => ?_⟩
    rw [Nat.zero_add, cell_of_row _ _ _ _ _ _ hh]
    have hu : (strsV l)[j]? = some (.string x) := by rw [strsV, List.getElem?_map, hx]; rfl
    rw [← ht, List.getElem?_take] at hu
    split at hu
    · simpa using hu
    · cases hu
end Go.Proofs.YtgcohoonhklkbaaDoor

/-
  keyholeref11: the contracts of ofLeaf, ofNode, Leaf, Node, May, partner, wide (by that of keyholeref02.Sum, a premise here).
-/
namespace Go.Proofs.YtgcohoonhklkbaaDoor
open Go.RowKit Go.Kx Go.Trm
set_option maxRecDepth 20000

/-- What keyholeref02.Sum tells (the premise of the contracts over it). -/
def RSum : Prop := ∀ (s : ByteArray), s.size ≤ 2000 → ∀ w : World, Calls Tryd.prog 35 #[.string s] w fun e w' => e = .returned (.string ⟨(sumL s.data.toList).toArray⟩) ∧ Below w.heap.size w w'
theorem rsum_v (HS : RSum) (s : ByteArray) (hs : s.size ≤ 2000) (d : ByteArray) (hd : sumL s.data.toList = d.data.toList) (w : World) : Calls Tryd.prog 35 #[.string s] w fun e w' => e = .returned (.string d) ∧ Below w.heap.size w w' := by
  have h := HS s hs w
  rw [hd, show (⟨d.data.toList.toArray⟩ : ByteArray) = d from ByteArray.ext (by simp)] at h
  exact h
theorem sumT_length (l : List UInt8) : (sumL l).length = 32 := by rw [sumL, joinL_length]; rfl
theorem mk_list (d : ByteArray) : (⟨d.data.toList.toArray⟩ : ByteArray) = d := ByteArray.ext (by simp)
theorem rofLeaf_any (s d : ByteArray) (hs : s.size ≤ 1000000) (hd : ofLeafL s.data.toList = d.data.toList) (w : World) :
    Calls Tryd.prog 36 #[.string s] w fun e w' => e = .returned (.string d) ∧ w' = w := by
  have e : (⟨#[0]⟩ : ByteArray) ++ s = d := ByteArray.ext (Array.toList_inj.1 (by rw [← hd]; simp [ofLeafL]))
  have hadd : ∀ V : World, (Op.stringOp .add ⟨#[0]⟩ s).run Tryd.prog V = .ok (.string d) V := fun V => by rw [← e]; exact run_string_add_sum V _ s (by show 1 + s.size ≤ _; omega)
  clear e
  go_enter Tryd.func36, Tryd.ntmps36
  go_wp2
  go_ret
  exact ⟨rfl, rfl⟩
theorem rofNode_any (a b d : ByteArray) (ha : a.size ≤ 1000000) (hb : b.size ≤ 1000000) (hd : ofNodeL a.data.toList b.data.toList = d.data.toList) (w : World) :
    Calls Tryd.prog 38 #[.string a, .string b] w fun e w' => e = .returned (.string d) ∧ w' = w := by
  obtain ⟨c, hc⟩ : ∃ c : ByteArray, (⟨#[1]⟩ : ByteArray) ++ a = c := ⟨_, rfl⟩
  have e : c ++ b = d := ByteArray.ext (Array.toList_inj.1 (by rw [← hd, ← hc]; simp [ofNodeL]))
  have hcz : c.size ≤ 1000001 := by rw [← hc, ByteArray.size_append]; show 1 + a.size ≤ _; omega
  have h1 : ∀ V : World, (Op.stringOp .add ⟨#[1]⟩ a).run Tryd.prog V = .ok (.string c) V := fun V => by rw [← hc]; exact run_string_add_sum V _ a (by show 1 + a.size ≤ _; omega)
  have h2 : ∀ V : World, (Op.stringOp .add c b).run Tryd.prog V = .ok (.string d) V := fun V => by rw [← e]; exact run_string_add_sum V c b (by omega)
  clear e hc
  go_enter Tryd.func38, Tryd.ntmps38
  go_wp2
  go_ret
  exact ⟨rfl, rfl⟩
theorem rleaf_any (HS : RSum) (s d : ByteArray) (hs : s.size ≤ 1000) (hd : leafL sumL s.data.toList = d.data.toList) (w : World) :
    Calls Tryd.prog 15 #[.string s] w fun e w' => e = .returned (.string d) ∧ Below w.heap.size w w' := by
  obtain ⟨c, hc⟩ : ∃ c : ByteArray, ofLeafL s.data.toList = c.data.toList := ⟨⟨(ofLeafL s.data.toList).toArray⟩, rfl⟩
  have hcz : c.size = s.size + 1 := by have := congrArg List.length hc; simp [ofLeafL] at this; omega
  have H1 := rofLeaf_any s c (by omega) hc w
  have H2 := rsum_v HS c (by omega) d (by rw [← hc]; exact hd) w
  clear hc hd HS hcz
  go_enter Tryd.func15, Tryd.ntmps15
  go_wp2_with fail
  refine H1.mono ?_
  rintro e w1 ⟨rfl, rfl⟩
  go_wp2_with fail
  refine H2.mono ?_
  rintro e w2 ⟨rfl, hb⟩
  go_wp2
  go_ret
  exact ⟨rfl, hb⟩
theorem rnode_any (HS : RSum) (a b d : ByteArray) (ha : a.size ≤ 900) (hb : b.size ≤ 900) (hd : nodeL sumL a.data.toList b.data.toList = d.data.toList) (w : World) :
    Calls Tryd.prog 17 #[.string a, .string b] w fun e w' => e = .returned (.string d) ∧ Below w.heap.size w w' := by
  obtain ⟨c, hc⟩ : ∃ c : ByteArray, ofNodeL a.data.toList b.data.toList = c.data.toList := ⟨⟨(ofNodeL a.data.toList b.data.toList).toArray⟩, rfl⟩
  have hcz : c.size = a.size + b.size + 1 := by have := congrArg List.length hc; simp [ofNodeL] at this; omega
  have H1 := rofNode_any a b c (by omega) (by omega) hc w
  have H2 := rsum_v HS c (by omega) d (by rw [← hc]; exact hd) w
  clear hc hd HS hcz
  go_enter Tryd.func17, Tryd.ntmps17
  go_wp2_with fail
  refine H1.mono ?_
  rintro e w1 ⟨rfl, rfl⟩
  go_wp2_with fail
  refine H2.mono ?_
  rintro e w2 ⟨rfl, hb⟩
  go_wp2
  go_ret
  exact ⟨rfl, hb⟩

/-! ### May -/
/-- May a row of so many texts have a root? -/
def mayN (n : Nat) : Prop := ∃ d, d ≤ 10 ∧ n = 2 ^ d
theorem may_no {n k : Nat} (h1 : n ≤ 2 ^ k) (h2 : ∀ j, j < k → 2 ^ j < n) (h : n ≠ 2 ^ k ∨ 1024 < n) : ¬ mayN n := by
  rintro ⟨d, hd, rfl⟩
  have hdk : d ≤ k := (Nat.pow_le_pow_iff_right (by omega : 1 < 2)).1 h1
  have hkd : ¬ d < k := fun hlt => by have := h2 d hlt; omega
  obtain rfl : d = k := by omega
  rcases h with h | h
  · exact h rfl
  · have : 2 ^ d ≤ 2 ^ 10 := Nat.pow_le_pow_right (by omega) hd
    omega
theorem may_yes {n k : Nat} (h : n = 2 ^ k) (h2 : n ≤ 1024) : mayN n := by
  refine ⟨k, ?_, h⟩
  have h3 : 2 ^ k ≤ 2 ^ 10 := by omega
  exact (Nat.pow_le_pow_iff_right (by omega : 1 < 2)).1 h3
open Classical in
theorem rmay_any (n : Nat) (hn : n ≤ 1000000) (A : Option Addr) (c : Nat) (b : Bool) (hb : b = decide (mayN n)) (w : World) :
    Calls Tryd.prog 31 #[.slice A n c] w fun e w' => e = .returned (.bool b) ∧ w' = w := by
  have HB := Lib.hid hb
  clear hb
  go_enter Tryd.func31, Tryd.ntmps31
  go_wp2
  go_loopw [3] (fun v wr => ∃ k x : Nat, v = .int .i64 (x : Int) ∧ Hid (x = 2 ^ k) ∧ x ≤ 2000000 ∧ 0 < x ∧ Hid (∀ j, j < k → 2 ^ j < n) ∧ wr = w) (fun v _ => 4000000 - (intOf v).toNat)
  case atStart => exact ⟨0, 1, rfl, Lib.hid rfl, by omega, by omega, Lib.hid (fun j hj => by omega), rfl⟩
  case round =>
    obtain ⟨k, x, rfl, hx, hxl, hx0, hj, rfl⟩ := hrel
    by_cases hlt : x < n
    · have HX : Hid (2 * x = 2 ^ (k + 1)) := Lib.hid (by rw [hx.out, Nat.pow_succ, Nat.mul_comm])
      have HJ : Hid (∀ j, j < k + 1 → 2 ^ j < n) := Lib.hid fun j h => by
        rcases (by omega : j < k ∨ j = k) with h1 | rfl
        · exact hj.out j h1
        · rw [← hx.out]; exact hlt
      go_wp2
      go_roundw
      case rel => exact ⟨k + 1, 2 * x, by simp, HX, by omega, by omega, HJ, trivial⟩
      case measure => simp [intOf]; omega
    · have hres : b = ((x : Int) == (n : Int) && decide ((x : Int) ≤ 1024)) := by
        rw [HB.out]
        by_cases h1 : x = n ∧ x ≤ 1024
        · rw [decide_eq_true (may_yes (by rw [← h1.1, hx.out]) (by omega))]
          have h2 : ((x : Int) == (n : Int)) = true := by rw [beq_iff_eq]; omega
          rw [h2, decide_eq_true (by omega)]
          rfl
        · rw [decide_eq_false (may_no (n := n) (k := k) (by rw [← hx.out]; omega) hj.out (by rw [← hx.out]; omega))]
          by_cases h2 : x = n
          · rw [decide_eq_false (by omega)]; simp
          · have h3 : ((x : Int) == (n : Int)) = false := by rw [beq_eq_false_iff_ne]; omega
            rw [h3]; rfl
      have HRES := Lib.hid hres
      clear hres HB
      by_cases h1 : x = n
      · subst h1
        go_wp2
        go_ret
        exact ⟨ret_bool (by rw [HRES.out]; simp), rfl⟩
      · have h3 : ((x : Int) == (n : Int)) = false := by rw [beq_eq_false_iff_ne]; omega
        go_wp2
        go_ret
        exact ⟨ret_bool (by rw [HRES.out, h3]; rfl), rfl⟩

/-! ### partner, wide -/
theorem rpartner_any (i : Nat) (hi : i < 1000000) (w : World) :
    Calls Tryd.prog 33 #[.int .i64 (i : Int)] w fun e w' => e = .returned (.int .i64 (partN i : Int)) ∧ w' = w := by
  have hm := Int.tmod_eq_emod_of_nonneg (a := (i : Int)) (by omega) (b := 2)
  by_cases h : i % 2 = 0
  · have h1 : ((i : Int) % 2 == 0) = true := by rw [beq_iff_eq]; omega
    have h2 : ((i : Int).tmod 2 == 0) = true := by rw [hm]; exact h1
    have HR : Hid (partN i = i + 1) := Lib.hid (if_pos h)
    clear h hm
    go_enter Tryd.func33, Tryd.ntmps33
    go_wp2
    go_ret
    exact ⟨ret_int (by rw [HR.out]; simp), rfl⟩
  · have h1 : ((i : Int) % 2 == 0) = false := by rw [beq_eq_false_iff_ne]; omega
    have h2 : ((i : Int).tmod 2 == 0) = false := by rw [hm]; exact h1
    have HR : Hid (((partN i : Nat) : Int) = (i : Int) - 1) := Lib.hid (by rw [partN, if_neg h]; omega)
    clear h hm
    go_enter Tryd.func33, Tryd.ntmps33
    go_wp2
    go_ret
    exact ⟨ret_int (by rw [HR.out]), rfl⟩
theorem rwide_any (n : Nat) (hn : n ≤ 10) (x : Nat) (hx : 2 ^ n = x) (w : World) :
    Calls Tryd.prog 56 #[.int .i64 (n : Int)] w fun e w' => e = .returned (.int .i64 (x : Int)) ∧ w' = w := by
  have HX := Lib.hid hx
  clear hx
  go_enter Tryd.func56, Tryd.ntmps56
  go_wp2
  go_loopw [3, 4] (fun v i wr => ∃ k y : Nat, k ≤ n ∧ i = .int .i64 k ∧ v = .int .i64 (y : Int) ∧ Hid (y = 2 ^ k) ∧ y ≤ 1024 ∧ wr = w) (fun _ i _ => n - (intOf i).toNat)
  case atStart => exact ⟨0, 1, by omega, rfl, rfl, Lib.hid rfl, by omega, rfl⟩
  case round =>
    obtain ⟨k, y, hk, rfl, rfl, hy, hyl, rfl⟩ := hrel
    by_cases hlt : k < n
    · have HY : Hid (2 * y = 2 ^ (k + 1)) := Lib.hid (by rw [hy.out, Nat.pow_succ, Nat.mul_comm])
      have hy2 : 2 * y ≤ 1024 := by
        rw [HY.out]
        have : 2 ^ (k + 1) ≤ 2 ^ 10 := Nat.pow_le_pow_right (by omega) (by omega)
        omega
      go_wp2
      go_roundw
      case rel => exact ⟨k + 1, 2 * y, by omega, by go_num, by simp, HY, hy2, trivial⟩
      case measure => simp [intOf]; omega
    · obtain rfl : k = n := by omega
      obtain rfl : y = x := by rw [hy.out, HX.out]
      go_wp2
      go_ret
      exact ⟨rfl, rfl⟩
end Go.Proofs.YtgcohoonhklkbaaDoor

/-
  keyholeref11: the contracts of Ways, Climb, Check.
-/
namespace Go.Proofs.YtgcohoonhklkbaaDoor
open Go.RowKit Go.Kx Go.Trm
set_option maxRecDepth 20000

def toB (l : List UInt8) : ByteArray := ⟨l.toArray⟩
theorem toB_list (l : List UInt8) : (toB l).data.toList = l := by simp [toB]
theorem toB_size (l : List UInt8) : (toB l).size = l.length := size_mk l
theorem toB_eq (s : ByteArray) : toB s.data.toList = s := ByteArray.ext (by simp [toB])
def txtsL (l : List ByteArray) : List (List UInt8) := l.map fun s => s.data.toList
theorem txtsL_length (l : List ByteArray) : (txtsL l).length = l.length := by simp [txtsL]
theorem txtsL_get (l : List ByteArray) {k : Nat} (h : k < l.length) : (txtsL l).getD k [] = l[k].data.toList := by
  simp [txtsL, List.getD, List.getElem?_map, List.getElem?_eq_getElem h]
/-- The texts of a way, as strings. -/
def waysB (i : Nat) (s : ByteArray) (path : List ByteArray) : List ByteArray := (waysL sumL i (ofLeafL s.data.toList) (txtsL path)).map toB
theorem waysB_length (i : Nat) (s : ByteArray) (path : List ByteArray) : (waysB i s path).length = path.length + 1 := by rw [waysB, List.length_map, waysL_length, txtsL_length]
/-- Is it a place, and are the elements digests? -/
def wayOk (i : Int) (path : List ByteArray) : Prop := path.length ≤ 10 ∧ 0 ≤ i ∧ i < 2 ^ path.length ∧ ∀ p ∈ path, p.size = 32
theorem own_made1 (V : World) (B : Nat) (s : ByteArray) (hB : B ≤ V.heap.size) : (V.alloc (.cells #[.string s] 9)).ownsRow B 9 1 (.slice (some ⟨V.heap.size, 0, none⟩) 1 1) 1 (strsV [s]) :=
  ⟨rfl, .inr ⟨V.heap.size, 1, #[.string s], rfl, hB, heap_alloc_new V _, Nat.le_refl _, by unfold maxLen; omega, rfl, rfl⟩⟩
/-- The text k of a way. -/
def wayT (i : Nat) (s : ByteArray) (path : List ByteArray) (k : Nat) : List UInt8 := (waysL sumL i (ofLeafL s.data.toList) (txtsL path)).getD k []
theorem wayT_zero (i : Nat) (s : ByteArray) (path : List ByteArray) : wayT i s path 0 = ofLeafL s.data.toList := waysL_zero _ _ _ _
theorem wayT_succ (i : Nat) (s : ByteArray) (path : List ByteArray) {k : Nat} (h : k < path.length) : wayT i s path (k + 1) = stepW sumL (i / 2 ^ k) (wayT i s path k) path[k].data.toList := by
  unfold wayT
  rw [waysL_get sumL _ _ _ k (by rw [txtsL_length]; exact h), txtsL_get path h]
theorem wayT_len (i : Nat) (s : ByteArray) (path : List ByteArray) (hs : s.size ≤ 1000) : ∀ k, k ≤ path.length → (∀ j, (h : j < path.length) → j < k → path[j].size = 32) → (wayT i s path k).length ≤ 1001
  | 0, _, _ => by
    rw [wayT_zero]
    have : s.data.toList.length = s.size := by simp
    simp [ofLeafL]
    omega
  | k + 1, hk, hp => by
    rw [wayT_succ i s path (by omega)]
    have h1 := hp k (by omega) (by omega)
    have h2 : path[k].data.toList.length = path[k].size := by simp
    unfold stepW ofNodeL
    split <;> simp only [List.length_cons, List.length_append, sumT_length] <;> omega
theorem waysB_take (i : Nat) (s : ByteArray) (path : List ByteArray) {k : Nat} (h : k < path.length + 1) : (waysB i s path).take (k + 1) = (waysB i s path).take k ++ [toB (wayT i s path k)] := by
  have hl := waysB_length i s path
  rw [List.take_add_one, List.getElem?_eq_getElem (by omega)]
  congr 1
  simp only [Option.toList_some, List.cons.injEq, and_true]
  unfold wayT
  have h2 : k < (waysL sumL i (ofLeafL s.data.toList) (txtsL path)).length := by rw [waysL_length, txtsL_length]; omega
  simp only [waysB, List.getElem_map, List.getD, List.getElem?_eq_getElem h2, Option.getD_some]
theorem waysB_get (i : Nat) (s : ByteArray) (path : List ByteArray) {k m : Nat} (h : k < path.length + 1) (h2 : k < ((waysB i s path).take m).length) : ((waysB i s path).take m)[k] = toB (wayT i s path k) := by
  have h3 : k < (waysL sumL i (ofLeafL s.data.toList) (txtsL path)).length := by rw [waysL_length, txtsL_length]; omega
  rw [List.getElem_take]
  simp only [waysB, List.getElem_map, wayT, List.getD, List.getElem?_eq_getElem h3, Option.getD_some]
theorem ways_early (i : Int) (s : ByteArray) (path : List ByteArray) (A : Option Addr) (c : Nat) (hz : path.length ≤ 1000000) (h : ¬ (path.length ≤ 10 ∧ 0 ≤ i ∧ i < 2 ^ path.length)) (w : World) :
    Calls Tryd.prog 41 #[.int .i64 i, .string s, .slice A path.length c] w fun e w' => e = .returned (.tuple #[.slice none 0 0, .bool false]) ∧ w' = w := by
  by_cases h1 : path.length ≤ 10
  · have t1 : ¬ (10 : Int) < (path.length : Int) := by omega
    by_cases h2 : i < 0
    · go_enter Tryd.func41, Tryd.ntmps41
      go_wp2
      go_ret2
      exact ⟨rfl, rfl⟩
    · obtain ⟨x, hx⟩ : ∃ x, 2 ^ path.length = x := ⟨_, rfl⟩
      have hw := rwide_any path.length h1 x hx w
      have t3 : (x : Int) ≤ i := by
        have : ¬ i < ((2 ^ path.length : Nat) : Int) := fun h3 => h ⟨h1, by omega, by push_cast at h3; exact h3⟩
        omega
      clear hx h
      go_enter Tryd.func41, Tryd.ntmps41
      go_wp2_with fail
      refine hw.mono ?_
      rintro e w1 ⟨rfl, rfl⟩
      go_wp2
      go_ret2
      exact ⟨rfl, rfl⟩
  · have t1 : (10 : Int) < (path.length : Int) := by omega
    go_enter Tryd.func41, Tryd.ntmps41
    go_wp2
    go_ret2
    exact ⟨rfl, rfl⟩
/-- What a call of Ways answers. -/
def WaysP (i : Int) (s : ByteArray) (path : List ByteArray) (W : World) (e : Ending) (W' : World) : Prop :=
  (wayOk i path ∧ ∃ v, e = .returned (.tuple #[v, .bool true]) ∧ W'.ownsRow W.heap.size 9 1 v (path.length + 1) (strsV (waysB i.toNat s path)) ∧ Below W.heap.size W W') ∨
  (¬ wayOk i path ∧ e = .returned (.tuple #[.slice none 0 0, .bool false]) ∧ Below W.heap.size W W')
set_option maxHeartbeats 4000000 in
theorem rways_any (HS : RSum) (i : Int) (s : ByteArray) (path : List ByteArray) (A : Option Addr) (c : Nat) (hz : path.length ≤ 1000000) (hs : s.size ≤ 1000) (w : World) (hA : Sl w A (strsV path)) :
    Calls Tryd.prog 41 #[.int .i64 i, .string s, .slice A path.length c] w fun e w' => WaysP i s path w e w' := by
  by_cases h : path.length ≤ 10 ∧ 0 ≤ i ∧ i < 2 ^ path.length
  rotate_left
  · exact (ways_early i s path A c hz h w).mono fun e w' ⟨he, hw⟩ => .inr ⟨fun ho => h ⟨ho.1, ho.2.1, ho.2.2.1⟩, he, hw ▸ Below.refl _ _⟩
  obtain ⟨h1, h2, h3⟩ := h
  obtain ⟨n, rfl⟩ := Int.eq_ofNat_of_zero_le h2
  obtain ⟨x, hx⟩ : ∃ x, 2 ^ path.length = x := ⟨_, rfl⟩
  have hn : n < 2 ^ path.length := by
    have : ((2 : Int) ^ path.length) = ((2 ^ path.length : Nat) : Int) := by push_cast; rfl
    omega
  have hwide := rwide_any path.length h1 x hx
  have hnx : n < x := by rw [← hx]; exact hn
  have hx10 : x ≤ 1024 := by rw [← hx]; have : 2 ^ path.length ≤ 2 ^ 10 := Nat.pow_le_pow_right (by omega) h1; omega
  obtain ⟨q, hq⟩ : ∃ q : ByteArray, ofLeafL s.data.toList = q.data.toList := ⟨toB (ofLeafL s.data.toList), (toB_list _).symm⟩
  have hleaf := rofLeaf_any s q (by omega) hq w
  have hq0 : strsV [q] = strsV ((waysB n s path).take 1) := by
    rw [show (1 : Nat) = 0 + 1 from rfl, waysB_take n s path (by omega), wayT_zero, hq, toB_eq]
    rfl
  have HOK : Hid ((∀ k, (hk : k < path.length) → path[k].size = 32) → wayOk (n : Int) path) := Lib.hid fun hall => ⟨h1, by omega, h3, fun p hp => by
    obtain ⟨k, hk, rfl⟩ := List.getElem_of_mem hp
    exact hall k hk⟩
  have HNO : Hid (∀ k, (hk : k < path.length) → path[k].size ≠ 32 → ¬ wayOk (n : Int) path) := Lib.hid fun k hk hne ho => hne (ho.2.2.2 _ (List.getElem_mem hk))
  have HSM := Lib.hid HS
  have HSZ := Lib.hid hs
  obtain ⟨m, hm⟩ : ∃ m, path.length = m := ⟨_, rfl⟩
  have HM := Lib.hid hm
  have hm10 : m ≤ 10 := by omega
  have hown0 := own_made1 w w.heap.size q (Nat.le_refl _)
  rw [hq0] at hown0
  have hb0 := Below.alloc0 w (.cells #[.string q] 9)
  obtain ⟨i0, hI0, hz0, hz1, hz2⟩ := info_parts string_info
  have t1 : ¬ (10 : Int) < (m : Int) := by omega
  have t2 : ¬ (n : Int) < 0 := by omega
  have t3 : ¬ (x : Int) ≤ (n : Int) := by omega
  rw [hm] at hwide
  have hxl : Hid (n < 2000) := Lib.hid (by omega)
  have hHW := hwide w
  clear h1 h2 h3 hn hx hz hq hq0 HS hwide
  rw [hm]
  clear hm hnx hx10
  go_enter Tryd.func41, Tryd.ntmps41
  go_wp2_with fail
  refine hHW.mono ?_
  rintro e w ⟨rfl, rfl⟩
  go_wp2_with fail
  refine hleaf.mono ?_
  rintro e w ⟨rfl, rfl⟩
  clear hleaf hHW
  -- LOOP
  go_wp2
  go_loopw [0, 8, 9] (fun i v kk wr => ∃ (k y : Nat) (o : Value), k ≤ m ∧ i = .int .i64 (y : Int) ∧ v = o ∧ kk = .int .i64 (k : Int) ∧ Hid (y = n / 2 ^ k) ∧ y < 2000 ∧ Hid (∀ j, (h : j < path.length) → j < k → path[j].size = 32) ∧
    wr.ownsRow w.heap.size 9 1 o (k + 1) (strsV ((waysB n s path).take (k + 1))) ∧ Below w.heap.size w wr) (fun _ _ kk _ => m - (intOf kk).toNat)
  case atStart => exact ⟨0, n, _, by omega, rfl, rfl, rfl, Lib.hid (by simp), hxl.out, Lib.hid (fun j _ h => by omega), hown0, hb0⟩
  case round =>
    clear hown0 hb0
    obtain ⟨k, y, o, hk, rfl, hvo, rfl, hy, hyl, ha, hown, hb⟩ := hrel
    subst hvo
    by_cases hlt : k < m
    · obtain ⟨b, off, hAe, hcp⟩ := sl_strV (hA.keep hb) (k := k) (by rw [HM.out]; exact hlt)
      subst hAe
      obtain ⟨p, hp⟩ : ∃ p, path[k]'(by rw [HM.out]; exact hlt) = p := ⟨_, rfl⟩
      rw [hp] at hcp
      by_cases h32 : p.size = 32
      · have h3 : ((p.size : Int) != 32) = false := by rw [bne_eq_false_iff_eq]; omega
        have H32 : Hid (∀ j, (h : j < path.length) → j < k + 1 → path[j].size = 32) := Lib.hid fun j hj hjk => by
          rcases (by omega : j < k ∨ j = k) with h | rfl
          · exact ha.out j hj h
          · rw [hp]; exact h32
        have HY : Hid (y / 2 = n / 2 ^ (k + 1)) := Lib.hid (by rw [hy.out, Nat.div_div_eq_div_mul, Nat.pow_succ])
        obtain ⟨g, c, rfl, hg, hcl, hll, hco⟩ := own_join hown (by omega)
        obtain ⟨q1, hq1⟩ : ∃ q1 : ByteArray, wayT n s path k = q1.data.toList := ⟨toB (wayT n s path k), (toB_list _).symm⟩
        have hq1z : q1.size ≤ 1001 := by
          have h := wayT_len n s path HSZ.out k (by rw [HM.out]; omega) ha.out
          rw [hq1] at h
          simpa using h
        have hcq := hco k q1 (by
          rw [List.getElem?_eq_getElem (by omega), waysB_get n s path (by rw [HM.out]; omega), hq1, toB_eq])
        rw [Nat.zero_add] at hcq
        clear hco hll hcl
        obtain ⟨d, hd⟩ : ∃ d : ByteArray, sumL q1.data.toList = d.data.toList := ⟨toB (sumL q1.data.toList), (toB_list _).symm⟩
        have hdz : d.size = 32 := by
          have h := sumT_length q1.data.toList
          rw [hd] at h
          simpa using h
        have hsum := rsum_v HSM.out q1 (by omega) d hd wr
        have HT : Hid (wayT n s path k = q1.data.toList) := Lib.hid hq1
        have HD : Hid (sumL q1.data.toList = d.data.toList) := Lib.hid hd
        clear hq1 hd
        go_wp2_with fail
        refine hsum.mono ?_
        rintro e w2 ⟨rfl, hs2⟩
        have hown2 := own_keep hown hs2
        have hb2 := hb.next hs2
        obtain ⟨b', off', hAe', hcp2⟩ := sl_strV (hA.keep hb2) (k := k) (by rw [HM.out]; exact hlt)
        obtain ⟨rfl, rfl⟩ : b' = b ∧ off' = off := by simpa using hAe'.symm
        rw [hp] at hcp2
        clear hsum hown hb hs2 hcp hcq hg hAe'
        have hm2 := Int.tmod_eq_emod_of_nonneg (a := (y : Int)) (by omega) (b := 2)
        by_cases hev : y % 2 = 0
        · clear h3
          have h4 : ((y : Int) % 2 == 0) = true := by rw [beq_iff_eq]; omega
          have h5 : ((y : Int).tmod 2 == 0) = true := by rw [hm2]; exact h4
          obtain ⟨z, hz⟩ : ∃ z : ByteArray, ofNodeL (d).data.toList (p).data.toList = z.data.toList := ⟨toB (ofNodeL (d).data.toList (p).data.toList), (toB_list _).symm⟩
          have hnode := rofNode_any d p z (by omega) (by omega) hz w2
          have HZ : Hid (strsV ((waysB n s path).take (k + 1)) ++ [Value.string z] = strsV ((waysB n s path).take (k + 1 + 1))) := Lib.hid (by
            rw [waysB_take n s path (k := k + 1) (by rw [HM.out]; omega), wayT_succ n s path (by rw [HM.out]; exact hlt), ← hy.out, hp, stepW, if_pos hev, HT.out, HD.out, hz, toB_eq, strsV_snoc])
          clear hz hev hm2
          go_wp2_with fail
          refine hnode.mono ?_
          rintro e w3 ⟨rfl, rfl⟩
          go_wp2_with (first
            | (at_builtin; refine wpList_append_own _ rfl _ _ 22 rfl w.heap.size 9 i0 (.string ⟨#[]⟩) 1 16 Tryd.underlying22 hI0 hz0 hz1 hz2 rfl (by decide) _ _ _ rfl (hown2.alloc _) ⟨w3.heap.size, 0, none⟩ 1 1 [.string z] rfl rfl ?c1 ?c2 ?c3 ?c4 ?c5 ?_)
            | go_in)
          case c1 =>
            intro j u hj
            match j, hj with
            | 0, hj => simp at hj; subst hj; simp [Addr.add]
          case c2 => intro u hu; simp at hu; subst hu; rfl
          case c3 => unfold maxLen; omega
          case c4 => omega
          case c5 => have := hb2.size; simp; omega
          intro v' w4 hown' hgrow _
          rw [HZ.out] at hown'
          have hb4 := own_below (hown2.alloc (.cells #[.string z] 9)) (hb2.al _) hgrow
          clear hown2 hgrow hnode hcp2
          go_wp2
          go_roundw
          case rel => exact ⟨k + 1, y / 2, v', by omega, by simp, rfl, by go_num, HY, by omega, H32, hown', hb4⟩
          case measure => simp [intOf]; omega
        · clear h3
          have h4 : ((y : Int) % 2 == 0) = false := by rw [beq_eq_false_iff_ne]; omega
          have h5 : ((y : Int).tmod 2 == 0) = false := by rw [hm2]; exact h4
          obtain ⟨z, hz⟩ : ∃ z : ByteArray, ofNodeL (p).data.toList (d).data.toList = z.data.toList := ⟨toB (ofNodeL (p).data.toList (d).data.toList), (toB_list _).symm⟩
          have hnode := rofNode_any p d z (by omega) (by omega) hz w2
          have HZ : Hid (strsV ((waysB n s path).take (k + 1)) ++ [Value.string z] = strsV ((waysB n s path).take (k + 1 + 1))) := Lib.hid (by
            rw [waysB_take n s path (k := k + 1) (by rw [HM.out]; omega), wayT_succ n s path (by rw [HM.out]; exact hlt), ← hy.out, hp, stepW, if_neg hev, HT.out, HD.out, hz, toB_eq, strsV_snoc])
          clear hz hev hm2
          go_wp2_with fail
          refine hnode.mono ?_
          rintro e w3 ⟨rfl, rfl⟩
          go_wp2_with (first
            | (at_builtin; refine wpList_append_own _ rfl _ _ 22 rfl w.heap.size 9 i0 (.string ⟨#[]⟩) 1 16 Tryd.underlying22 hI0 hz0 hz1 hz2 rfl (by decide) _ _ _ rfl (hown2.alloc _) ⟨w3.heap.size, 0, none⟩ 1 1 [.string z] rfl rfl ?c1 ?c2 ?c3 ?c4 ?c5 ?_)
            | go_in)
          case c1 =>
            intro j u hj
            match j, hj with
            | 0, hj => simp at hj; subst hj; simp [Addr.add]
          case c2 => intro u hu; simp at hu; subst hu; rfl
          case c3 => unfold maxLen; omega
          case c4 => omega
          case c5 => have := hb2.size; simp; omega
          intro v' w4 hown' hgrow _
          rw [HZ.out] at hown'
          have hb4 := own_below (hown2.alloc (.cells #[.string z] 9)) (hb2.al _) hgrow
          clear hown2 hgrow hnode hcp2
          go_wp2
          go_roundw
          case rel => exact ⟨k + 1, y / 2, v', by omega, by simp, rfl, by go_num, HY, by omega, H32, hown', hb4⟩
          case measure => simp [intOf]; omega
      · have h3 : ((p.size : Int) != 32) = true := by rw [bne_iff_ne]; omega
        have hno : ¬ wayOk (n : Int) path := HNO.out k (by rw [HM.out]; exact hlt) (by rw [hp]; exact h32)
        go_wp2
        go_ret2
        exact .inr ⟨hno, rfl, hb⟩
    · obtain rfl : k = m := by omega
      have hok : wayOk (n : Int) path := HOK.out fun j hj => ha.out j hj (by rw [← HM.out]; exact hj)
      have hfull : (waysB n s path).take (k + 1) = waysB n s path := List.take_of_length_le (by rw [waysB_length, HM.out]; omega)
      rw [hfull] at hown
      have HR : Hid (WaysP (n : Int) s path w (.returned (.tuple #[u8, .bool true])) wr) := Lib.hid (.inl ⟨hok, _, rfl, by rw [HM.out]; exact hown, hb⟩)
      clear hfull hok
      go_wp2
      go_ret2
      exact HR.out
end Go.Proofs.YtgcohoonhklkbaaDoor

/-
  keyholeref11: the contracts of Climb, Check.
-/
namespace Go.Proofs.YtgcohoonhklkbaaDoor
open Go.RowKit Go.Kx Go.Trm
set_option maxRecDepth 20000

open Classical in
/-- What Climb answers. -/
noncomputable def climbR (i : Int) (s : ByteArray) (path : List ByteArray) : ByteArray × Int :=
  if wayOk i path then (toB (climbL sumL i.toNat (ofLeafL s.data.toList) (txtsL path)), 0) else (⟨#[]⟩, 1)
theorem climbR_yes {i : Int} {s : ByteArray} {path : List ByteArray} (h : wayOk i path) : climbR i s path = (toB (climbL sumL i.toNat (ofLeafL s.data.toList) (txtsL path)), 0) := if_pos h
theorem climbR_no {i : Int} {s : ByteArray} {path : List ByteArray} (h : ¬ wayOk i path) : climbR i s path = (⟨#[]⟩, 1) := if_neg h
theorem climb_wayT (n : Nat) (s : ByteArray) (path : List ByteArray) : climbL sumL n (ofLeafL s.data.toList) (txtsL path) = sumL (wayT n s path path.length) := by
  rw [climbL_last, txtsL_length]
  rfl
theorem rclimb_any (HS : RSum) (i : Int) (s : ByteArray) (path : List ByteArray) (A : Option Addr) (c : Nat) (hz : path.length ≤ 1000000) (hs : s.size ≤ 1000) (r : ByteArray) (k : Int) (hr : climbR i s path = (r, k)) (w : World) (hA : Sl w A (strsV path)) :
    Calls Tryd.prog 20 #[.int .i64 i, .string s, .slice A path.length c] w fun e w' => e = .returned (.tuple #[.string r, .int .i64 k]) ∧ Below w.heap.size w w' := by
  have hways := rways_any HS i s path A c hz hs w hA
  have HR := Lib.hid hr
  clear hr hA
  obtain ⟨m, hm⟩ : ∃ m, path.length = m := ⟨_, rfl⟩
  have HM := Lib.hid hm
  rw [hm] at hways ⊢
  clear hm
  have HSM := Lib.hid HS
  have HSZ := Lib.hid hs
  clear HS hs
  go_enter Tryd.func20, Tryd.ntmps20
  go_wp2_with fail
  refine hways.mono ?_
  intro e w1 h
  unfold WaysP at h
  clear hways
  rcases h with ⟨hok, v, rfl, hown, hb⟩ | ⟨hno, rfl, hb⟩
  · obtain ⟨n, rfl⟩ := Int.eq_ofNat_of_zero_le hok.2.1
    rw [Int.toNat_natCast, HM.out] at hown
    obtain ⟨g, c2, rfl, hg, hcl, hll, hco⟩ := own_join hown (by omega)
    obtain ⟨q, hq⟩ : ∃ q : ByteArray, wayT n s path m = q.data.toList := ⟨toB (wayT n s path m), (toB_list _).symm⟩
    have hqz : q.size ≤ 1001 := by
      have h := wayT_len n s path HSZ.out m (by rw [HM.out]; omega) (fun j hj _ => hok.2.2.2 _ (List.getElem_mem hj))
      rw [hq] at h
      simpa using h
    have hcq := hco m q (by
      have h1 : m < ((waysB n s path).take (m + 1)).length := by rw [List.length_take, waysB_length, HM.out]; omega
      have h2 := waysB_get n s path (k := m) (m := m + 1) (by rw [HM.out]; omega) h1
      rw [List.getElem_take] at h2
      rw [List.getElem?_eq_getElem (by omega), h2, hq, toB_eq])
    rw [Nat.zero_add] at hcq
    have hrr : r = toB (sumL q.data.toList) ∧ k = 0 := by
      have h := HR.out
      rw [climbR_yes hok, Int.toNat_natCast, climb_wayT, HM.out, hq] at h
      exact ⟨(Prod.mk.inj h).1.symm, (Prod.mk.inj h).2.symm⟩
    obtain ⟨hd, rfl⟩ := hrr
    have hsum := rsum_v HSM.out q (by omega) r (by rw [hd, toB_list]) w1
    have HOK := Lib.hid hok
    have hm10 : m ≤ 10 := by have := hok.1; rw [HM.out] at this; exact this
    clear hco hll hcl hq hd hok hown
    have hx : ((m + 1 : Nat) : Int) - 1 = (m : Int) := by omega
    obtain ⟨x, hxx⟩ : ∃ x, m + 1 = x := ⟨_, rfl⟩
    rw [hxx] at hx ⊢
    have hxl : x ≤ 11 := by omega
    have hmx : m < x := by omega
    clear hxx
    go_wp2_with fail
    refine hsum.mono ?_
    rintro e w2 ⟨rfl, hs2⟩
    have hb2 := hb.next hs2
    clear hsum hs2 hb hcq
    go_wp2
    go_ret2
    exact ⟨rfl, hb2⟩
  · have hrr : r = ⟨#[]⟩ ∧ k = 1 := by
      have h := HR.out
      rw [climbR_no hno] at h
      exact ⟨(Prod.mk.inj h).1.symm, (Prod.mk.inj h).2.symm⟩
    obtain ⟨rfl, rfl⟩ := hrr
    go_wp2
    go_ret2
    exact ⟨rfl, hb⟩
theorem eq_str (a b : ByteArray) : (a.toList == b.toList) = decide (a = b) := by
  rw [Lib.toList_data, Lib.toList_data]
  by_cases h : a = b
  · rw [h]; simp
  · rw [decide_eq_false h, beq_eq_false_iff_ne]
    exact fun e => h (ByteArray.ext (Array.toList_inj.1 e))
theorem rcheck_any (HS : RSum) (root : ByteArray) (i : Int) (s : ByteArray) (path : List ByteArray) (A : Option Addr) (c : Nat) (hz : path.length ≤ 1000000) (hs : s.size ≤ 1000) (r : ByteArray) (k : Int) (hr : climbR i s path = (r, k)) (b : Bool) (hbb : b = (decide (k = 0) && decide (r = root))) (w : World) (hA : Sl w A (strsV path)) :
    Calls Tryd.prog 22 #[.string root, .int .i64 i, .string s, .slice A path.length c] w fun e w' => e = .returned (.bool b) ∧ Below w.heap.size w w' := by
  have hclimb := rclimb_any HS i s path A c hz hs r k hr w hA
  have HB := Lib.hid hbb
  clear hbb hA HS hz
  have HK : k = 0 ∨ k = 1 := by
    have h := hr
    unfold climbR at h
    split at h
    · exact .inl (Prod.mk.inj h).2.symm
    · exact .inr (Prod.mk.inj h).2.symm
  clear hr
  generalize path.length = m at *
  rcases HK with rfl | rfl
  · go_enter Tryd.func22, Tryd.ntmps22
    go_wp2_with fail
    refine hclimb.mono ?_
    rintro e w1 ⟨rfl, hb⟩
    go_wp2
    go_ret
    exact ⟨ret_bool (by rw [HB.out, eq_str]; rfl), hb⟩
  · go_enter Tryd.func22, Tryd.ntmps22
    go_wp2_with fail
    refine hclimb.mono ?_
    rintro e w1 ⟨rfl, hb⟩
    go_wp2
    go_ret
    exact ⟨ret_bool (by rw [HB.out]; rfl), hb⟩
end Go.Proofs.YtgcohoonhklkbaaDoor

/-
  A region that draws, whose last operation L writes what others of it read: a condition S on the world is asked behind every operation but L. What reads under S may be taken first, if L waits for it.
-/
namespace Go.Kx

section
variable {P : Program} {md : Region.Mode} {ops : Array Oper} {Q : Exit → Act → World → Prop} {S : World → Prop} {L : Nat}

def Upto (P : Program) (md : Region.Mode) (ops : Array Oper) (Q : Exit → Act → World → Prop) (S : World → Prop) (L : Nat) : Nat → Array Bool → Act → World → Prop
  | 0, l, a, w => Region.ready md ops l = [] ∧ Q .normal a w
  | n + 1, l, a, w => (Region.ready md ops l = [] → Q .normal a w) ∧
      ∀ i ∈ Region.ready md ops l, wpOp P ops Q i (fun a' w' => (i = L ∨ S w') ∧ Upto P md ops Q S L n (l.setIfInBounds i true) a' w') a w
theorem Upto.any : ∀ (n : Nat) (l : Array Bool) (a : Act) (w : World), Upto P md ops Q S L n l a w → wpAny P md ops Q n l a w
  | 0, _, _, _, h => h
  | n + 1, _, _, _, h => ⟨h.1, fun i hi => wpOp_mono (fun a' w' h' => Upto.any n _ a' w' h'.2) (h.2 i hi)⟩
def waits (md : Region.Mode) (ops : Array Oper) (L i : Nat) : Bool := match ops[L]? with
  | some o => o.after.toList.any fun e => Region.binds md e && e.on == i
  | none => true
theorem listed_no {l : Array Bool} {i : Nat} (h0 : l.getD i true = false) (h1 : l.getD i false = true) : False := by
  rcases Nat.lt_or_ge i l.size with h | h
  · simp [h] at h0 h1; rw [h0] at h1; cases h1
  · simp [Array.getElem?_eq_none h] at h1
theorem waits_ready {i : Nat} {l : Array Bool} (h : waits md ops L i = true) (hi : i ∈ Region.ready md ops l) : L ∉ Region.ready md ops l := by
  intro hL
  obtain ⟨_, o, ho, hall⟩ := mem_ready.1 hL
  have h0 := (mem_ready.1 hi).1
  unfold waits at h
  rw [ho] at h
  obtain ⟨e, he, hb⟩ := List.any_eq_true.1 h
  simp only [Bool.and_eq_true, beq_iff_eq] at hb
  have h1 := hall e (by simpa using he) hb.1
  rw [hb.2] at h1
  exact listed_no h0 h1
theorem Upto.take_gen {i : Nat} {oi : Oper} {v : Value} (hi : ops[i]? = some oi) (hs : Region.noSelect ops = true) (hL : waits md ops L i = true) (hQ : ∀ c a w, Q (.panic c) (a.put oi.dst v) w → Q (.panic c) a w) :
    ∀ (n : Nat) (l : Array Bool) (a : Act) (w : World), (∀ j oj, ops[j]? = some oj → j ≠ i → l.getD j true = false → (∀ e ∈ oj.after, Region.binds md e = true → e.on ≠ i) → oi.apart ops oj = true) →
      i ∈ Region.ready md ops l → YieldsIf P ops S oi v a → S w → Upto P md ops Q S L n (l.setIfInBounds i true) (a.put oi.dst v) w → Upto P md ops Q S L (n + 1) l a w := by
  intro n
  induction n with
  | zero =>
    intro l a w _ hr hy hS H
    refine ⟨fun h => (by rw [h] at hr; cases hr), fun j hj => ?_⟩
    by_cases hji : j = i
    · subst hji; exact hy.wpOp hi hS ⟨.inr hS, H⟩
    · have h1 := ready_mono hj hji
      rw [H.1] at h1
      cases h1
  | succ n ih =>
    intro l a w hf hr hy hS H
    refine ⟨fun h => (by rw [h] at hr; cases hr), fun j hj => ?_⟩
    by_cases hji : j = i
    · subst hji; exact hy.wpOp hi hS ⟨.inr hS, H⟩
    · have hjL : j ≠ L := fun h => waits_ready hL hr (h ▸ hj)
      obtain ⟨hun, oj, hoj, hall⟩ := mem_ready.1 hj
      have hno : ∀ e ∈ oj.after, Region.binds md e = true → e.on ≠ i := fun e he hb heq => listed_no (mem_ready.1 hr).1 (by have := hall e he hb; rwa [heq] at this)
      have h2 := wpOp_putIf hoj (hf j oj hoj hji hun hno) (fun cs b => Region.noSelect_spec hs i oi cs b hi) (fun cs b => Region.noSelect_spec hs j oj cs b hoj) hQ hy (H.2 j (ready_mono hj hji))
      refine wpOp_mono (fun a' w' h3 => ?_) h2
      have hS' := h3.2.1.resolve_left hjL
      refine ⟨.inr hS', ih _ a' w' (fun k ok hk hki huk hnk => ?_) (ready_mono hr (Ne.symm hji)) h3.1 hS' (by rw [Array.setIfInBounds_comm _ _ hji]; exact h3.2.2)⟩
      refine hf k ok hk hki ?_ hnk
      by_cases hjk : j = k
      · subst hjk; exact hun
      · rwa [getD_set_ne true hjk] at huk
end
section
variable {P : Program} {md : Region.Mode} {ls : List Oper} {Q : Exit → Act → World → Prop} {S : World → Prop} {L n : Nat} {l : Array Bool} {a : Act} {w : World}
theorem drop_at {ls rest : List Oper} {i : Nat} {o : Oper} (h : ls.drop i = o :: rest) : ls.toArray[i]? = some o := by
  have := congrArg (fun x : List Oper => x[0]?) h
  simpa [List.getElem?_drop] using this
theorem Upto.take {i : Nat} {oi : Oper} {rest : List Oper} {v : Value} (hi : ls.drop i = oi :: rest) (hs : Region.noSelect ls.toArray = true) (hf : Region.free md ls.toArray l i = true) (hr : (Region.ready md ls.toArray l).contains i = true)
    (hL : waits md ls.toArray L i = true) (hQ : ∀ c a w, Q (.panic c) (a.put oi.dst v) w → Q (.panic c) a w) (hy : YieldsIf P ls.toArray S oi v a) (hS : S w)
    (h : Upto P md ls.toArray Q S L n (l.setIfInBounds i true) (a.put oi.dst v) w) : Upto P md ls.toArray Q S L (n + 1) l a w :=
  Upto.take_gen (drop_at hi) hs hL hQ n l a w (Region.free_spec (drop_at hi) hf) (by simpa using hr) hy hS h
theorem Upto.step {i : Nat} {o : Oper} {rest : List Oper} (ho : ls.drop i = o :: rest)
    (h : ∀ K : Act → World → Prop, Shut (∀ a w, (i = L ∨ S w) → Upto P md ls.toArray Q S L n (l.setIfInBounds i true) a w → K a w) → if Region.wanted o (yielded ls.toArray a.tmps) = true then Oper.wp P o a w K Q else K (a.put o.dst undef) w) :
    wpOp P ls.toArray Q i (fun a' w' => (i = L ∨ S w') ∧ Upto P md ls.toArray Q S L n (l.setIfInBounds i true) a' w') a w :=
  wpOp_step (drop_at ho) fun K hK => h K fun a w h1 h2 => hK a w ⟨h1, h2⟩
theorem Upto.one {i : Nat} (hr : Region.ready md ls.toArray l = [i]) (h : wpOp P ls.toArray Q i (fun a' w' => (i = L ∨ S w') ∧ Upto P md ls.toArray Q S L n (l.setIfInBounds i true) a' w') a w) :
    Upto P md ls.toArray Q S L (n + 1) l a w := ⟨fun h0 => (by rw [hr] at h0; cases h0), fun j hj => by
  rw [hr] at hj
  obtain rfl := List.mem_singleton.1 hj
  exact h⟩
theorem Upto.two {i j : Nat} (hr : Region.ready md ls.toArray l = [i, j]) (h : wpOp P ls.toArray Q i (fun a' w' => (i = L ∨ S w') ∧ Upto P md ls.toArray Q S L n (l.setIfInBounds i true) a' w') a w)
    (h' : wpOp P ls.toArray Q j (fun a' w' => (j = L ∨ S w') ∧ Upto P md ls.toArray Q S L n (l.setIfInBounds j true) a' w') a w) :
    Upto P md ls.toArray Q S L (n + 1) l a w := ⟨fun h0 => (by rw [hr] at h0; cases h0), fun k hk => by
  rw [hr] at hk
  rcases List.mem_cons.1 hk with rfl | hk
  · exact h
  · obtain rfl := List.mem_singleton.1 hk
    exact h'⟩
theorem Upto.done (hr : Region.ready md ls.toArray l = []) (h : Q .normal a w) : ∀ n, Upto P md ls.toArray Q S L n l a w
  | 0 => ⟨hr, h⟩
  | _ + 1 => ⟨fun _ => h, by rw [hr]; simp⟩
theorem Upto.begin_ {id : Nat} (L : Nat) (S : World → Prop) (hm : P.follows .mixedOrders = true) (h : Upto P .any ls.toArray Q S L ls.length (Array.replicate ls.length false) a w.drew) : (Code.region id ls.toArray true).wp P Q a w := by
  refine wp_region_any hm (Upto.any (S := S) (L := L) _ _ _ _ ?_)
  simpa using h
end
end Go.Kx

/-
  A region that draws, some operations of which (Ls) write what others of it read: of two conditions on the world S is asked behind every operation, T until one of Ls has come. What reads under S and T may be taken first, if those of Ls wait for it; what reads under S alone always.
-/
namespace Go.Kx

section
variable {P : Program} {md : Region.Mode} {ops : Array Oper} {Q : Exit → Act → World → Prop} {S T : World → Prop} {Ls : List Nat}

def come (Ls : List Nat) (l : Array Bool) : Bool := Ls.any fun L => l.getD L false
def Cond (S T : World → Prop) (Ls : List Nat) (l : Array Bool) (w : World) : Prop := S w ∧ (come Ls l = true ∨ T w)
def Uptot (P : Program) (md : Region.Mode) (ops : Array Oper) (Q : Exit → Act → World → Prop) (S T : World → Prop) (Ls : List Nat) : Nat → Array Bool → Act → World → Prop
  | 0, l, a, w => Region.ready md ops l = [] ∧ Q .normal a w
  | n + 1, l, a, w => (Region.ready md ops l = [] → Q .normal a w) ∧
      ∀ i ∈ Region.ready md ops l, wpOp P ops Q i (fun a' w' => Cond S T Ls (l.setIfInBounds i true) w' ∧ Uptot P md ops Q S T Ls n (l.setIfInBounds i true) a' w') a w
theorem Uptot.any : ∀ (n : Nat) (l : Array Bool) (a : Act) (w : World), Uptot P md ops Q S T Ls n l a w → wpAny P md ops Q n l a w
  | 0, _, _, _, h => h
  | n + 1, _, _, _, h => ⟨h.1, fun i hi => wpOp_mono (fun a' w' h' => Uptot.any n _ a' w' h'.2) (h.2 i hi)⟩
theorem come_set {l : Array Bool} {i : Nat} (h : i ∉ Ls) : come Ls (l.setIfInBounds i true) = come Ls l := by
  unfold come
  rw [Bool.eq_iff_iff, List.any_eq_true, List.any_eq_true]
  have e : ∀ L ∈ Ls, (l.setIfInBounds i true).getD L false = l.getD L false := fun L hL => getD_set_ne false (fun e => h (e ▸ hL))
  constructor
  · rintro ⟨L, hL, h1⟩
    exact ⟨L, hL, by rw [← e L hL]; exact h1⟩
  · rintro ⟨L, hL, h1⟩
    exact ⟨L, hL, by rw [e L hL]; exact h1⟩
theorem Uptot.take_gen {i : Nat} {oi : Oper} {v : Value} {R : World → Prop} (hi : ops[i]? = some oi) (hiL : i ∉ Ls) (hs : Region.noSelect ops = true) (hR : ∀ w, S w → T w → R w) (hM : (∀ w, S w → R w) ∨ ∀ L ∈ Ls, waits md ops L i = true)
    (hQ : ∀ c a w, Q (.panic c) (a.put oi.dst v) w → Q (.panic c) a w) :
    ∀ (n : Nat) (l : Array Bool) (a : Act) (w : World), (∀ j oj, ops[j]? = some oj → j ≠ i → l.getD j true = false → (∀ e ∈ oj.after, Region.binds md e = true → e.on ≠ i) → oi.apart ops oj = true) →
      i ∈ Region.ready md ops l → ((∀ w, S w → R w) ∨ come Ls l = false) → YieldsIf P ops R oi v a → Cond S T Ls l w → Uptot P md ops Q S T Ls n (l.setIfInBounds i true) (a.put oi.dst v) w → Uptot P md ops Q S T Ls (n + 1) l a w := by
  have hRw : ∀ l w, ((∀ w, S w → R w) ∨ come Ls l = false) → Cond S T Ls l w → R w := fun l w hD hC => by
    rcases hD with h | h
    · exact h w hC.1
    · exact hR w hC.1 (hC.2.resolve_left (by rw [h]; simp))
  have hCi : ∀ l w, Cond S T Ls l w → Cond S T Ls (l.setIfInBounds i true) w := fun l w hC => by
    unfold Cond
    rw [come_set hiL]
    exact hC
  intro n
  induction n with
  | zero =>
    intro l a w _ hr hD hy hC H
    refine ⟨fun h => (by rw [h] at hr; cases hr), fun j hj => ?_⟩
    by_cases hji : j = i
    · subst hji; exact hy.wpOp hi (hRw l w hD hC) ⟨hCi l w hC, H⟩
    · have h1 := ready_mono hj hji
      rw [H.1] at h1
      cases h1
  | succ n ih =>
    intro l a w hf hr hD hy hC H
    refine ⟨fun h => (by rw [h] at hr; cases hr), fun j hj => ?_⟩
    by_cases hji : j = i
    · subst hji; exact hy.wpOp hi (hRw l w hD hC) ⟨hCi l w hC, H⟩
    · obtain ⟨hun, oj, hoj, hall⟩ := mem_ready.1 hj
      have hno : ∀ e ∈ oj.after, Region.binds md e = true → e.on ≠ i := fun e he hb heq => listed_no (mem_ready.1 hr).1 (by have := hall e he hb; rwa [heq] at this)
      have h2 := wpOp_putIf hoj (hf j oj hoj hji hun hno) (fun cs b => Region.noSelect_spec hs i oi cs b hi) (fun cs b => Region.noSelect_spec hs j oj cs b hoj) hQ hy (H.2 j (ready_mono hj hji))
      refine wpOp_mono (fun a' w' h3 => ?_) h2
      have hC' : Cond S T Ls (l.setIfInBounds j true) w' := by
        have h4 := h3.2.1
        unfold Cond at h4 ⊢
        rw [Array.setIfInBounds_comm _ _ (Ne.symm hji), come_set hiL] at h4
        exact h4
      have hD' : (∀ w, S w → R w) ∨ come Ls (l.setIfInBounds j true) = false := by
        rcases hD with h | h
        · exact .inl h
        · rcases hM with h' | h'
          · exact .inl h'
          · exact .inr (by rw [come_set fun hjL => waits_ready (h' j hjL) hr hj]; exact h)
      refine ⟨hC', ih _ a' w' (fun k ok hk hki huk hnk => ?_) (ready_mono hr (Ne.symm hji)) hD' h3.1 hC' (by rw [Array.setIfInBounds_comm _ _ hji]; exact h3.2.2)⟩
      refine hf k ok hk hki ?_ hnk
      by_cases hjk : j = k
      · subst hjk; exact hun
      · rwa [getD_set_ne true hjk] at huk
end
section
variable {P : Program} {md : Region.Mode} {ls : List Oper} {Q : Exit → Act → World → Prop} {S T : World → Prop} {Ls : List Nat} {n : Nat} {l : Array Bool} {a : Act} {w : World}
/-- Ahead of all of Ls: what reads under S and T. -/
theorem Uptot.take {i : Nat} {oi : Oper} {rest : List Oper} {v : Value} (hi : ls.drop i = oi :: rest) (hs : Region.noSelect ls.toArray = true) (hf : Region.free md ls.toArray l i = true) (hr : (Region.ready md ls.toArray l).contains i = true)
    (hL : (!Ls.contains i && !come Ls l && Ls.all fun L => waits md ls.toArray L i) = true) (hQ : ∀ c a w, Q (.panic c) (a.put oi.dst v) w → Q (.panic c) a w) (hy : YieldsIf P ls.toArray (fun w => S w ∧ T w) oi v a) (hS : S w ∧ T w)
    (h : Uptot P md ls.toArray Q S T Ls n (l.setIfInBounds i true) (a.put oi.dst v) w) : Uptot P md ls.toArray Q S T Ls (n + 1) l a w := by
  simp only [Bool.and_eq_true, Bool.not_eq_true', List.all_eq_true] at hL
  exact Uptot.take_gen (R := fun w => S w ∧ T w) (drop_at hi) (by simpa using hL.1.1) hs (fun _ h1 h2 => ⟨h1, h2⟩) (.inr hL.2) hQ n l a w (Region.free_spec (drop_at hi) hf) (by simpa using hr) (.inr hL.1.2) hy ⟨hS.1, .inr hS.2⟩ h
/-- What reads under S alone. -/
theorem Uptot.takeS {i : Nat} {oi : Oper} {rest : List Oper} {v : Value} (hi : ls.drop i = oi :: rest) (hs : Region.noSelect ls.toArray = true) (hf : Region.free md ls.toArray l i = true) (hr : (Region.ready md ls.toArray l).contains i = true)
    (hL : (!Ls.contains i) = true) (hQ : ∀ c a w, Q (.panic c) (a.put oi.dst v) w → Q (.panic c) a w) (hy : YieldsIf P ls.toArray S oi v a) (hS : S w ∧ T w)
    (h : Uptot P md ls.toArray Q S T Ls n (l.setIfInBounds i true) (a.put oi.dst v) w) : Uptot P md ls.toArray Q S T Ls (n + 1) l a w :=
  Uptot.take_gen (R := S) (drop_at hi) (by simpa using hL) hs (fun _ h1 _ => h1) (.inl fun _ h => h) hQ n l a w (Region.free_spec (drop_at hi) hf) (by simpa using hr) (.inl fun _ h => h) hy ⟨hS.1, .inr hS.2⟩ h
/-- One operation alone may come; b: whether one of Ls has come behind it. -/
theorem Uptot.one {i : Nat} {o : Oper} {rest : List Oper} (hi : ls.drop i = o :: rest) (hr : Region.ready md ls.toArray l = [i])
    (h : ∀ K : Act → World → Prop, Shut (∀ a w, Cond S T Ls (l.setIfInBounds i true) w → Uptot P md ls.toArray Q S T Ls n (l.setIfInBounds i true) a w → K a w) → if Region.wanted o (yielded ls.toArray a.tmps) = true then Oper.wp P o a w K Q else K (a.put o.dst undef) w) :
    Uptot P md ls.toArray Q S T Ls (n + 1) l a w := ⟨fun h0 => (by rw [hr] at h0; cases h0), fun j hj => by
  rw [hr] at hj
  obtain rfl := List.mem_singleton.1 hj
  exact wpOp_step (drop_at hi) fun K hK => h K fun a w h1 h2 => hK a w ⟨h1, h2⟩⟩
theorem Cond.ahead (h : S w ∧ T w) : Cond S T Ls l w := ⟨h.1, .inr h.2⟩
theorem Cond.behind (h : S w) (hc : come Ls l = true) : Cond S T Ls l w := ⟨h, .inl hc⟩
theorem Uptot.done (hr : Region.ready md ls.toArray l = []) (h : Q .normal a w) : ∀ n, Uptot P md ls.toArray Q S T Ls n l a w
  | 0 => ⟨hr, h⟩
  | _ + 1 => ⟨fun _ => h, by rw [hr]; simp⟩
theorem Uptot.begin_ {id : Nat} (Ls : List Nat) (S T : World → Prop) (hm : P.follows .mixedOrders = true) (h : Uptot P .any ls.toArray Q S T Ls ls.length (Array.replicate ls.length false) a w.drew) : (Code.region id ls.toArray true).wp P Q a w := by
  refine wp_region_any hm (Uptot.any (S := S) (T := T) (Ls := Ls) _ _ _ _ ?_)
  simpa using h
end
end Go.Kx
