/-
  Merged by program: Words, Info, TRn1, Slices, Tam, Bld, Grw, Bldg, Tp1, Tp2, Cells, Tp3, Tp4, Tps, Word, Rowa, Sha, Stm, Tab, WordR.
-/
import Derived.WalkKit
import Derived.Lib.Hide
import Derived.Laws.OwnMore
import Derived.Deep.OwnRows
import Derived.Laws.Rows
import Derived.Laws.Tables
import Derived.Deep.Draws
import Derived.Laws.BitsAllLaws
import Derived.Laws.BitsLemmas
import Derived.Test.YtlkdofghhibmbaaDoorChecked
import Derived.Lib.Builder
import Derived.Lib.UnsafeStr
import Derived.Shelf.Strings.Builder2
import Derived.Test.YtlkdofghhibmbaaDoorProg
import Derived.Deep.MidRow
import Derived.Laws.IdiomStrings
import Derived.Deep.QuietTactic
import Derived.BigQuiet
import Derived.Lib.QuietBelow
import Derived.StillTailTactics

/-
  Words of my own, over any program: slices that read as lists, what a call's own memory is, results, bits.
-/
namespace Go.Kx
open Go.RowKit

/-! ### results -/
theorem ret_bool {a b : Bool} (h : a = b) : Ending.returned (.bool a) = .returned (.bool b) := by rw [h]
theorem ret_int {k : IntKind} {a b : Int} (h : a = b) : Ending.returned (.int k a) = .returned (.int k b) := by rw [h]
theorem ret_int_bool {k : IntKind} {a b : Int} {c d : Bool} (h : a = b) (h' : c = d) : Ending.returned (.tuple #[.int k a, .bool c]) = .returned (.tuple #[.int k b, .bool d]) := by rw [h, h']
theorem ret_str {a b : List UInt8} (h : a = b) : Ending.returned (.string ⟨a.toArray⟩) = .returned (.string ⟨b.toArray⟩) := by rw [h]

/-! ### a slice that reads as a list of one-cell values -/
def Sl (w : World) (A : Option Addr) (vs : List Value) : Prop :=
  vs = [] ∨ ∃ b off, A = some ⟨b, off, none⟩ ∧ b < w.heap.size ∧ ∀ j u, vs[j]? = some u → w.cell? ⟨b, off + j, none⟩ = some u
theorem Sl.nil (w : World) (A : Option Addr) : Sl w A [] := .inl rfl
theorem Sl.at_ {w : World} {A : Option Addr} {vs : List Value} (h : Sl w A vs) {k : Nat} (hk : k < vs.length) :
    ∃ b off u, A = some ⟨b, off, none⟩ ∧ vs[k]? = some u ∧ w.cell? ⟨b, off + k, none⟩ = some u := by
  rcases h with rfl | ⟨b, off, e, _, hc⟩
  · simp at hk
  · exact ⟨b, off, vs[k], e, List.getElem?_eq_getElem hk, hc k _ (List.getElem?_eq_getElem hk)⟩
theorem Sl.keep {w w' : World} {A : Option Addr} {vs : List Value} (h : Sl w A vs) (hb : Below w.heap.size w w') : Sl w' A vs := by
  rcases h with rfl | ⟨b, off, e, hl, hc⟩
  · exact .inl rfl
  · exact .inr ⟨b, off, e, Nat.lt_of_lt_of_le hl hb.size, fun j u hu => (hb.cell (p := ⟨b, off + j, none⟩) hl).trans (hc j u hu)⟩
theorem Sl.set {w : World} {b off : Nat} {vs : List Value} (h : Sl w (some ⟨b, off, none⟩) vs) {a : Addr} (hne : b ≠ a.block) (v : Value) : Sl (w.setCell a v) (some ⟨b, off, none⟩) vs := by
  rcases h with rfl | ⟨b', off', e, hl, hc⟩
  · exact .inl rfl
  · obtain ⟨rfl, rfl⟩ : b = b' ∧ off = off' := by simpa using e
    refine .inr ⟨b, off, rfl, by simpa using hl, fun j u hu => ?_⟩
    rw [World.cell?_setCell_other _ _ _ _ (by rintro rfl; exact hne rfl)]
    exact hc j u hu
theorem Sl.new (w : World) (t : TypeId) (cs : Array Value) : Sl (w.alloc (.cells cs t)) (some ⟨w.heap.size, 0, none⟩) cs.toList := by
  refine .inr ⟨_, 0, rfl, by simp, fun j u hu => ?_⟩
  rw [Nat.zero_add]
  have h := cell_of_row (w.alloc (.cells cs t)) w.heap.size j cs t (0, 0) (heap_alloc_new w _)
  rw [h]
  simpa using hu

theorem Sl.new' {w : World} {t : TypeId} {cs : Array Value} {n : Nat} {vs : List Value} (hn : n = w.heap.size) (hv : cs.toList = vs := by rfl) : Sl (w.alloc (.cells cs t)) (some ⟨n, 0, none⟩) vs := by
  subst hn; subst hv; exact Sl.new w t cs

/-! ### the call's own memory -/
theorem Below.alloc0 (w : World) (o : Obj) : Below w.heap.size w (w.alloc o) := (Below.refl _ _).alloc (Nat.le_refl _) o
theorem Below.drewN0 (w : World) (n : Nat) : Below w.heap.size w (w.drewN n) := ⟨rfl, rfl, rfl, Nat.le_refl _, fun _ _ => rfl⟩
theorem _root_.Go.RowKit.Below.next {w w1 w2 : World} (h : Below w.heap.size w w1) (k : Below w1.heap.size w1 w2) : Below w.heap.size w w2 := h.trans (k.mono h.size)
theorem _root_.Go.RowKit.Below.next' {B : Nat} {w w1 w2 : World} (h : Below B w w1) (k : Below w1.heap.size w1 w2) (hB : B ≤ w.heap.size := by first | exact Nat.le_refl _ | omega) : Below B w w2 := h.trans (k.mono (Nat.le_trans hB h.size))

/-! ### &, |, ^ of two ints that are not below 0 -/
theorem bv64 (n : Nat) : BitVec.ofInt 64 (n : Int) = BitVec.ofNat 64 n := BitVec.ofInt_natCast _ _
theorem wrapNat {n : Nat} (h : n < 2 ^ 63) : IntKind.i64.wrap (n : Int) = (n : Int) := IntWalk.i64_in _ (by omega)
section
variable {a b : Nat} (ha : a < 2 ^ 63) (hb : b < 2 ^ 63)
include ha hb
theorem int_and : bits .and .i64 (a : Int) (b : Int) = ((a &&& b : Nat) : Int) := by
  have e : (BitVec.ofInt 64 (a : Int) &&& BitVec.ofInt 64 (b : Int)).toNat = a &&& b := by
    simp only [bv64, BitVec.toNat_and, BitVec.toNat_ofNat, Nat.mod_eq_of_lt (show a < 2 ^ 64 by omega), Nat.mod_eq_of_lt (show b < 2 ^ 64 by omega)]
  exact (congrArg (fun n : Nat => IntKind.i64.wrap (n : Int)) e).trans (wrapNat (Nat.and_lt_two_pow a hb))
theorem int_or : bits .or .i64 (a : Int) (b : Int) = ((a ||| b : Nat) : Int) := by
  have e : (BitVec.ofInt 64 (a : Int) ||| BitVec.ofInt 64 (b : Int)).toNat = a ||| b := by
    simp only [bv64, BitVec.toNat_or, BitVec.toNat_ofNat, Nat.mod_eq_of_lt (show a < 2 ^ 64 by omega), Nat.mod_eq_of_lt (show b < 2 ^ 64 by omega)]
  exact (congrArg (fun n : Nat => IntKind.i64.wrap (n : Int)) e).trans (wrapNat (Nat.or_lt_two_pow ha hb))
theorem int_xor : bits .xor .i64 (a : Int) (b : Int) = ((a ^^^ b : Nat) : Int) := by
  have e : (BitVec.ofInt 64 (a : Int) ^^^ BitVec.ofInt 64 (b : Int)).toNat = a ^^^ b := by
    simp only [bv64, BitVec.toNat_xor, BitVec.toNat_ofNat, Nat.mod_eq_of_lt (show a < 2 ^ 64 by omega), Nat.mod_eq_of_lt (show b < 2 ^ 64 by omega)]
  exact (congrArg (fun n : Nat => IntKind.i64.wrap (n : Int)) e).trans (wrapNat (Nat.xor_lt_two_pow ha hb))
end
/-! ### strings -/
theorem size_mk (l : List UInt8) : (ByteArray.mk l.toArray).size = l.length := by show l.toArray.size = _; simp
theorem mk_append (x y : List UInt8) : ByteArray.mk x.toArray ++ ByteArray.mk y.toArray = ByteArray.mk (x ++ y).toArray := by
  apply ByteArray.ext
  simp
theorem str_add {P : Program} (x y : List UInt8) (h : x.length + y.length ≤ 9223372036854775807) (W : World) : (Op.stringOp .add ⟨x.toArray⟩ ⟨y.toArray⟩).run P W = .ok (.string ⟨(x ++ y).toArray⟩) W := by
  rw [run_string_add_sum W _ _ (by rw [size_mk, size_mk]; exact h), mk_append]
/-! ### whole rows -/
theorem run_index_ints {P : Program} {t e : TypeId} {n : Nat} {cs : Array Value} {k k' : IntKind} {i : Nat} {v : Value} (h : P.underlying t = some (.array n e)) (hs : (P.info? e).map (·.size) = some 1) (he : P.underlying e = some (.int k'))
    (hi : i < n) (hv : cs[i]? = some v) (w : World) : (Instr.index t (.agg cs) (.int k (i : Int))).run P w = .ok v w := by
  have h1 : 0 ≤ (i : Int) ∧ (i : Int) < (n : Int) := by omega
  have ha : (isAgg e).run P w = .ok false w := by unfold isAgg; rw [Sem.run_bind, run_underlying he w]; rfl
  cases hq : P.info? e with
  | none => simp [hq] at hs
  | some j =>
    have h2 : j.size = 1 := by simpa [hq] using hs
    simp [Instr.index, asIntOf, run_underlying h, h1, hi, sizeOf, typeInfo, hq, h2, part, ha, hv, go_sem]
theorem rowIs_keep {w w' : World} {b : Nat} {t : TypeId} {n : Nat} {f : Nat → Value} (h : w.rowIs b t n f) (hb : Below w.heap.size w w') : w'.rowIs b t n f := h.of_block (hb.block _ h.lt)
theorem rowIs_new {w : World} {t : TypeId} {n : Nat} {z : Value} {c : Array Value} (hc : c = (List.replicate n z).toArray) : (w.alloc (.cells c t)).rowIs w.heap.size t n (fun _ => z) := by
  subst hc
  have h := World.rowIs_alloc w (List.replicate n z).toArray t (fun _ => z) (fun i hi => by simp at hi; simp [hi])
  simpa using h
theorem _root_.Go.RowKit.Below.setRow {B : Nat} {w w' : World} (h : Below B w w') {g : Nat} (hg : B ≤ g) (cs : Array Value) : Below B w (w'.setRow g cs) :=
  ⟨h.os, h.tape, h.output, by simpa using h.size, fun k hk => (setRow_other w' g k cs (by omega)).trans (h.block k hk)⟩
theorem _root_.Go.RowKit.Below.al {W w' : World} (h : Below W.heap.size W w') (o : Obj) : Below W.heap.size W (w'.alloc o) := h.alloc h.size o
theorem Below.drew0 (w : World) : Below w.heap.size w w.drew := (Below.refl _ _).drew
theorem bcell {W w1 : World} (hb : Below W.heap.size W w1) : (∀ b o, b < W.heap.size → w1.cell? ⟨b, o, none⟩ = W.cell? ⟨b, o, none⟩) ∧ (∀ b o, b < W.heap.size → w1.frozen? ⟨b, o, none⟩ = W.frozen? ⟨b, o, none⟩) :=
  ⟨fun b o h => hb.cell (p := ⟨b, o, none⟩) h, fun b o h => hb.frozen (p := ⟨b, o, none⟩) h⟩
theorem wrapU32 {n : Nat} (h : n < 4294967296) : IntKind.u32.wrap (n : Int) = (n : Int) := by rw [IntKind.wrap_u32']; omega
theorem rowIs_heap {w : World} {b : Nat} {t : TypeId} {n : Nat} {f : Nat → Value} (h : w.rowIs b t n f) : w.heap[b]? = some (.cells ((List.range n).map f).toArray t (0, 0)) := by
  obtain ⟨c, hb, hn, hc⟩ := h
  rw [hb]
  congr 2
  apply Array.ext_getElem?
  intro i
  by_cases hi : i < n
  · rw [hc i hi]; simp [hi]
  · rw [Array.getElem?_eq_none (by omega)]; simp [hi]
/-- The block of a row, as one array. -/
theorem rowIs_block {w : World} {b : Nat} {t : TypeId} {n : Nat} {f : Nat → Value} (h : w.rowIs b t n f) : ∃ c : Array Value, w.heap[b]? = some (.cells c t (0, 0)) ∧ c.size = n ∧ c = ((List.range n).map f).toArray := by
  obtain ⟨c, hb, hn, hc⟩ := h
  refine ⟨c, hb, hn, ?_⟩
  apply Array.ext_getElem?
  intro i
  by_cases hi : i < n
  · rw [hc i hi]; simp [hi]
  · rw [Array.getElem?_eq_none (by omega)]; simp [hi]
theorem all_one_ints {n : Nat} {c : Array Value} {k : IntKind} {g : Nat → Int} (h : c = ((List.range n).map (fun j => Value.int k (g j))).toArray) : c.all (·.oneCell') = true := by
  subst h
  rw [Array.all_eq_true_iff_forall_mem]
  intro v hv
  simp only [List.mem_toArray, List.mem_map] at hv
  obtain ⟨j, _, rfl⟩ := hv
  rfl
theorem results_cell_slot {P : Program} {fn : Func} {p q : Tmp} {ty : TypeId} (h : fn.results = #[.cell p ty, .tmp q]) (tmps : Array Value) (w : World) (g : Nat) (t : TypeId) (cs : Array Value) (fr : Nat × Nat) (d : TypeDesc)
    (hp : tmps.getD p undef = .pointer (some ⟨g, 0, none⟩)) (hg : w.heap[g]? = some (.cells cs t fr))
    (hu : P.underlying ty = some d) (hd : (match d with | .struct _ | .array _ _ => true | _ => false) = true) (hi : (P.info? ty).map (·.size) = some cs.size) (v : Value) (hv : tmps.getD q undef = v) :
    (results fn tmps).run P w = .ok (.tuple #[.agg cs, v]) w := by
  subst hv
  have hp' : tmps[p]?.getD undef = .pointer (some ⟨g, 0, none⟩) := by simpa using hp
  simp [results, h, hp', asAddr, run_loadVar_row w g t ty cs fr d hg hu hd hi]
theorem rowIs_setRow {w : World} {b : Nat} {t : TypeId} {n : Nat} {f : Nat → Value} (h : w.rowIs b t n f) (cs : Array Value) : (w.setRow b cs).heap[b]? = some (.cells cs t (0, 0)) := by
  obtain ⟨c, hb, _, _⟩ := h
  exact setRow_heap w b c cs t (0, 0) hb
end Go.Kx

/-
  What a whole number's type is (any program).
-/
namespace Go.Proofs.YtlkdofghhibmbaaDoor
open Go.RowKit Go.Kx

theorem int_info : (Tryd.prog.info? 3).map (fun i => (i.zero, i.size, i.bytes)) = some (some (.int .i64 0), 1, 8) := by kernel_rfl
end Go.Proofs.YtlkdofghhibmbaaDoor

/-
  keyholelaw12: scripts (slices of steps), the contract of far.
-/
namespace Go.Proofs.YtlkdofghhibmbaaDoor
open Go.RowKit Go.Kx
set_option maxRecDepth 20000

/-- A step: its kind, number, name. -/
structure TapeOp where
  kind : Int
  num : Int
  name : ByteArray
instance : Inhabited TapeOp := ⟨⟨0, 0, ⟨#[]⟩⟩⟩
def TapeOp.val (o : TapeOp) : Value := .agg #[.int .i64 o.kind, .int .i64 o.num, .string o.name]
/-- A script in memory. -/
def Ops (w : World) (A : Option Addr) (l : List TapeOp) : Prop :=
  l = [] ∨ ∃ b off, A = some ⟨b, off, none⟩ ∧ b < w.heap.size ∧ ∀ i, i < l.length → w.cell? ⟨b, off + i * 3, none⟩ = some (.int .i64 (l.getD i default).kind) ∧ w.cell? ⟨b, off + i * 3 + 1, none⟩ = some (.int .i64 (l.getD i default).num) ∧ w.cell? ⟨b, off + i * 3 + 2, none⟩ = some (.string (l.getD i default).name)
theorem Ops.at_ {w : World} {A : Option Addr} {l : List TapeOp} (h : Ops w A l) {i : Nat} (hi : i < l.length) : ∃ b off, A = some ⟨b, off, none⟩ ∧ ∀ V, Below w.heap.size w V → V.cell? ⟨b, off + i * 3, none⟩ = some (.int .i64 (l.getD i default).kind) ∧ V.cell? ⟨b, off + i * 3 + 1, none⟩ = some (.int .i64 (l.getD i default).num) ∧ V.cell? ⟨b, off + i * 3 + 2, none⟩ = some (.string (l.getD i default).name) := by
  rcases h with rfl | ⟨b, off, rfl, hb, hc⟩
  · exact absurd hi (by simp)
  · refine ⟨b, off, rfl, fun V hV => ?_⟩
    obtain ⟨h0, h1, h2⟩ := hc i hi
    exact ⟨(hV.cell (p := ⟨b, off + i * 3, none⟩) hb).trans h0, (hV.cell (p := ⟨b, off + i * 3 + 1, none⟩) hb).trans h1, (hV.cell (p := ⟨b, off + i * 3 + 2, none⟩) hb).trans h2⟩
/-- What far answers. -/
def FarP (l : List TapeOp) (w : World) (e : Ending) (w' : World) : Prop :=
  ∃ b, e = .returned (.bool b) ∧ (b = false → l.length ≤ 30 ∧ ∀ i, i < l.length → (l.getD i default).name.size ≤ 100) ∧ Below w.heap.size w w'
set_option maxHeartbeats 2000000 in
theorem far_any (l : List TapeOp) (A : Option Addr) (c : Nat) (hl : l.length ≤ 9223372036854775807) (hz : ∀ i, i < l.length → (l.getD i default).name.size ≤ 9223372036854775807) (w : World) (hs : Ops w A l) :
    Calls Tryd.prog 5 #[.slice A l.length c] w fun e w' => FarP l w e w' := by
  by_cases h30 : 30 < l.length
  · obtain ⟨n, hn⟩ : ∃ n, l.length = n := ⟨_, rfl⟩
    rw [hn] at hl h30 ⊢
    have h1 : (0 : Int) < (n : Int) := by omega
    have h2 : ¬ (n : Int) ≤ 30 := by omega
    have h3 : (30 : Int) < (n : Int) := by omega
    go_enter Tryd.func5, Tryd.ntmps5
    go_wp2
    go_loopw [3, 4] (fun z i wr => z = .int .i64 0 ∧ i = .int .i64 0 ∧ Below w.heap.size w wr) (fun _ _ _ => 0)
    case atStart => exact ⟨rfl, rfl, Below.refl _ _⟩
    case round =>
      obtain ⟨rfl, rfl, hb⟩ := hrel
      go_wp2
      go_ret
      exact ⟨true, rfl, (fun h => (by cases h)), hb⟩
  · obtain ⟨n, hn⟩ : ∃ n, l.length = n := ⟨_, rfl⟩
    have HN := Lib.hid hn
    have HZ := Lib.hid hz
    rw [hn] at hl h30 ⊢
    have h2 : (n : Int) ≤ 30 := by omega
    have h3 : ¬ (30 : Int) < (n : Int) := by omega
    clear hn hz
    go_enter Tryd.func5, Tryd.ntmps5
    go_wp2
    go_loopw [3, 4] (fun z i wr => ∃ (y : Int) (j : Nat), z = .int .i64 y ∧ i = .int .i64 (j : Int) ∧ j ≤ n ∧ (∀ i, i < j → (l.getD i default).name.size ≤ 100) ∧ Below w.heap.size w wr) (fun _ i _ => n - (intOf i).toNat)
    case atStart => exact ⟨0, 0, rfl, rfl, by omega, fun i hi => by omega, Below.refl _ _⟩
    case round =>
      obtain ⟨y, j, rfl, rfl, hj, hall, hb⟩ := hrel
      by_cases hlt : j < n
      · have hltI : (j : Int) < (n : Int) := by omega
        obtain ⟨bb, off, rfl, hcell⟩ := hs.at_ (i := j) (by rw [HN.out]; exact hlt)
        obtain ⟨k0, k1, k2⟩ := hcell wr hb
        have hzj := HZ.out j (by rw [HN.out]; exact hlt)
        have HALL := Lib.hid hall
        have HG : Hid ((l.getD j default).name.size ≤ 100 → ∀ i, i < j + 1 → (l.getD i default).name.size ≤ 100) := Lib.hid fun h i hi => by
          by_cases e : i = j
          · rw [e]; exact h
          · exact HALL.out i (by omega)
        clear hall hcell
        generalize l.getD j default = o at *
        obtain ⟨kd, nm, na⟩ := o
        by_cases hna : 100 < na.size
        · have hnaI : (100 : Int) < (na.size : Int) := by omega
          go_wp2
          go_ret
          exact ⟨true, rfl, (fun h => (by cases h)), hb⟩
        have hnaI : ¬ (100 : Int) < (na.size : Int) := by omega
        have hcase : ¬ (0 < nm) ∨ (0 < nm ∧ ¬ nm ≤ 65536) ∨ (0 < nm ∧ nm ≤ 65536 ∧ (kd == 1) = false) ∨ (0 < nm ∧ nm ≤ 65536 ∧ (kd == 1) = true) := by
          rcases hk : (kd == 1) with _ | _ <;> simp <;> omega
        rcases hcase with h | ⟨h, h'⟩ | ⟨h, h', hk⟩ | ⟨h, h', hk⟩
        all_goals
          go_wp2
          go_roundw
          case rel => exact ⟨_, j + 1, rfl, by go_num, by omega, HG.out (by show na.size ≤ 100; omega), hb⟩
          case measure => simp [intOf]; omega
      · obtain rfl : j = n := by omega
        have hltI : ¬ (j : Int) < (j : Int) := by omega
        have h3' : ¬ (30 : Int) < (j : Int) := by omega
        by_cases hy : 400 < y
        · go_wp2
          go_ret
          exact ⟨true, rfl, (fun h => (by cases h)), hb⟩
        · go_wp2
          go_ret
          exact ⟨false, rfl, fun _ => ⟨by rw [HN.out]; omega, fun i hi => hall i (by rw [HN.out] at hi; exact hi)⟩, hb⟩
end Go.Proofs.YtlkdofghhibmbaaDoor

/-
  Parts of a string by slices (any program).
-/
namespace Go.Kx
open Go.RowKit

theorem str_mid {P : Program} {t : TypeId} (h : P.underlying t = some .string) (s : ByteArray) (lo hi : Nat) (h1 : lo ≤ hi) (h2 : hi ≤ s.size) (V : World) :
    (Instr.slice t (.string s) (some (.int .i64 (lo : Int))) (some (.int .i64 (hi : Int))) none).run P V = .ok (.string (s.extract lo hi)) V := by
  have e1 : (Instr.sliceBound (.int .i64 (hi : Int)) s.size .sliceAlen).run P V = .ok hi V := by
    simp only [Instr.sliceBound, asIntOf, Sem.run_bind, Sem.run_pure, Result.andThen_ok, if_pos (show 0 ≤ (hi : Int) ∧ (hi : Int) ≤ (s.size : Int) by omega), Int.toNat_natCast]
  have e2 : (Instr.sliceBound (.int .i64 (lo : Int)) hi .sliceB).run P V = .ok lo V := by
    simp only [Instr.sliceBound, asIntOf, Sem.run_bind, Sem.run_pure, Result.andThen_ok, if_pos (show 0 ≤ (lo : Int) ∧ (lo : Int) ≤ (hi : Int) by omega), Int.toNat_natCast]
  simp only [Instr.slice, Instr.sliceBounds, Sem.run_bind, run_underlying h, Result.andThen_ok, Option.isSome_none, Bool.false_eq_true, if_false, Sem.run_pure, e1, e2]
theorem str_to {P : Program} {t : TypeId} (h : P.underlying t = some .string) (s : ByteArray) (hi : Nat) (h2 : hi ≤ s.size) (V : World) :
    (Instr.slice t (.string s) none (some (.int .i64 (hi : Int))) none).run P V = .ok (.string (s.extract 0 hi)) V := by
  have e1 : (Instr.sliceBound (.int .i64 (hi : Int)) s.size .sliceAlen).run P V = .ok hi V := by
    simp only [Instr.sliceBound, asIntOf, Sem.run_bind, Sem.run_pure, Result.andThen_ok, if_pos (show 0 ≤ (hi : Int) ∧ (hi : Int) ≤ (s.size : Int) by omega), Int.toNat_natCast]
  simp only [Instr.slice, Instr.sliceBounds, Sem.run_bind, run_underlying h, Result.andThen_ok, Option.isSome_none, Bool.false_eq_true, if_false, Sem.run_pure, e1]
theorem str_from {P : Program} {t : TypeId} (h : P.underlying t = some .string) (s : ByteArray) (lo : Nat) (h1 : lo ≤ s.size) (V : World) :
    (Instr.slice t (.string s) (some (.int .i64 (lo : Int))) none none).run P V = .ok (.string (s.extract lo s.size)) V := by
  have e2 : (Instr.sliceBound (.int .i64 (lo : Int)) s.size .sliceB).run P V = .ok lo V := by
    simp only [Instr.sliceBound, asIntOf, Sem.run_bind, Sem.run_pure, Result.andThen_ok, if_pos (show 0 ≤ (lo : Int) ∧ (lo : Int) ≤ (s.size : Int) by omega), Int.toNat_natCast]
  simp only [Instr.slice, Instr.sliceBounds, Sem.run_bind, run_underlying h, Result.andThen_ok, Option.isSome_none, Bool.false_eq_true, if_false, Sem.run_pure, e2]
theorem str_ext (s : ByteArray) (i j : Nat) : (s.extract i j).data.toList = (s.data.toList.drop i).take (j - i) := by
  simp [Array.toList_extract, List.extract_eq_take_drop]
end Go.Kx

/-
  tape, as plain mathematics over lists: what Take and Number answer, the rest of a block.
-/
namespace Go.Proofs.YtlkdofghhibmbaaDoor
open Go.RowKit Go.Kx

/-- What Take answers: the bytes, the error, how many are taken then. -/
def takeR (all : List UInt8) (N : Nat) (n : Int) : List UInt8 × Int × Nat :=
  if n < 0 then ([], 1, N) else if (all.length : Int) - N < n then ([], 120, N) else ((all.drop N).take n.toNat, 0, N + n.toNat)
theorem takeR_neg {all : List UInt8} {N : Nat} {n : Int} (h : n < 0) : takeR all N n = ([], 1, N) := if_pos h
theorem takeR_out {all : List UInt8} {N : Nat} {n : Int} (h : ¬ n < 0) (h2 : (all.length : Int) - N < n) : takeR all N n = ([], 120, N) := by rw [takeR, if_neg h, if_pos h2]
theorem takeR_yes {all : List UInt8} {N n : Nat} (h : n ≤ all.length - N) (hN : N ≤ all.length) : takeR all N (n : Int) = ((all.drop N).take n, 0, N + n) := by
  rw [takeR, if_neg (by omega), if_neg (by omega), Int.toNat_natCast]
theorem takeR_le {all : List UInt8} {N : Nat} {n : Int} (hN : N ≤ all.length) : (takeR all N n).2.2 ≤ all.length := by
  unfold takeR
  split
  · exact hN
  · split
    · exact hN
    · show N + n.toNat ≤ _
      omega
/-- The number of three bytes, what is left of it by below. -/
def numI (l : List UInt8) (below : Int) : Int := (65536 * ((l.getD 0 0).toNat : Int) + 256 * ((l.getD 1 0).toNat : Int) + ((l.getD 2 0).toNat : Int)) % below
/-- What Number answers. -/
def numR (all : List UInt8) (N : Nat) (below : Int) : Int × Int × Nat :=
  if below < 1 ∨ 16777216 < below then (0, 1, N) else if (all.length : Int) - N < 3 then (0, 120, N) else (numI ((all.drop N).take 3) below, 0, N + 3)
theorem numR_le {all : List UInt8} {N : Nat} {n : Int} (hN : N ≤ all.length) : (numR all N n).2.2 ≤ all.length := by
  unfold numR
  split
  · exact hN
  · split
    · exact hN
    · show N + 3 ≤ _
      omega
/-- The bytes that are left of the block at which the next byte stands. -/
def restL (all : List UInt8) (N : Nat) : List UInt8 := (all.drop N).take (64 - N % 64)
theorem restL_length (all : List UInt8) (N : Nat) : (restL all N).length = min (64 - N % 64) (all.length - N) := by rw [restL, List.length_take, List.length_drop]
theorem restL_take (all : List UInt8) (N m : Nat) (h : m ≤ (restL all N).length) : (restL all N).take m = (all.drop N).take m := by
  rw [restL_length] at h
  rw [restL, List.take_take, Nat.min_eq_left (by omega)]
theorem take_more (D : List UInt8) (k m : Nat) : D.take k ++ (D.drop k).take m = D.take (k + m) := by
  rw [List.take_add]
end Go.Proofs.YtlkdofghhibmbaaDoor

/-
  A strings.Builder that a walk keeps over calls that leave its blocks (any program).
-/
namespace Go.Kx
open Go.RowKit

theorem grown_of_below {w w' : World} (h : Below w.heap.size w w') (row : Option Nat) : w.grownBy w' row :=
  ⟨h.os, h.tape, h.output, h.size, fun k hk _ => h.block k hk⟩
theorem builderAt_keep {T e : TypeId} {B b : Nat} {p : Value} {bs : List Value} {w w' : World} (h : Lib.BuilderAt T e B b p bs w) (hb : Below w.heap.size w w') : Lib.BuilderAt T e B b p bs w' := by
  have hlt := h.lt
  obtain ⟨hB, v, hh, hown, hne⟩ := h
  refine ⟨hB, v, (hb.block b hlt).trans hh, hown.kept (grown_of_below hb none) ?_, hne⟩
  cases v.ownBlock <;> simp
theorem isBuilder_keep {T e : TypeId} {B b : Nat} {bs : List Value} {w w' : World} (h : Lib.IsBuilder T e B b bs w) (hb : Below w.heap.size w w') : Lib.IsBuilder T e B b bs w' :=
  h.elim (fun h => .inl (builderAt_keep h hb)) (fun h => .inr (builderAt_keep h hb))
theorem isBuilder_lt {T e : TypeId} {B b : Nat} {bs : List Value} {w : World} (h : Lib.IsBuilder T e B b bs w) : b < w.heap.size := h.elim (·.lt) (·.lt)
end Go.Kx

/-
  What grows but for one block (any program).
-/
namespace Go.Kx
open Go.RowKit

theorem grown_of {w w' : World} {row : Option Nat} (h : Below w.heap.size w w') : w.grownBy w' row := grown_of_below h row
theorem grown_trans {a b c : World} {row : Option Nat} (h : a.grownBy b row) (k : b.grownBy c row) : a.grownBy c row :=
  ⟨k.os.trans h.os, k.tape.trans h.tape, k.output.trans h.output, Nat.le_trans h.size k.size, fun i hi hne => (k.block i (Nat.lt_of_lt_of_le hi h.size) hne).trans (h.block i hi hne)⟩
theorem grown_set (w : World) (T j : Nat) (v : Value) : w.grownBy (w.setCell ⟨T, j, none⟩ v) (some T) :=
  ⟨rfl, rfl, rfl, by simp, fun k _ hne => Below.heap_setCell _ _ _ k (fun e => hne (by rw [e]))⟩
theorem grown_drewN2 (w : World) (n : Nat) (row : Option Nat) : w.grownBy (w.drewN n) row := ⟨rfl, rfl, rfl, Nat.le_refl _, fun _ _ _ => rfl⟩
theorem builderAt_grown {T e : TypeId} {B b X : Nat} {p : Value} {bs : List Value} {w w' : World} (h : Lib.BuilderAt T e B b p bs w) (hX : X < B) (hg : w.grownBy w' (some X)) : Lib.BuilderAt T e B b p bs w' := by
  have hlt := h.lt
  obtain ⟨hB, v, hh, hown, hne⟩ := h
  refine ⟨hB, v, (hg.block b hlt (by intro e; cases e; omega)).trans hh, hown.kept hg ?_, hne⟩
  cases ho : v.ownBlock with
  | none => exact .inl rfl
  | some b9 =>
    right
    intro e
    cases e
    have := (hown.lt _ ho).1
    omega
theorem isBuilder_grown {T e : TypeId} {B b X : Nat} {bs : List Value} {w w' : World} (h : Lib.IsBuilder T e B b bs w) (hX : X < B) (hg : w.grownBy w' (some X)) : Lib.IsBuilder T e B b bs w' :=
  h.elim (fun h => .inl (builderAt_grown h hX hg)) (fun h => .inr (builderAt_grown h hX hg))
/-- Of a world that is below a later base: grown from the first. -/
theorem grown_low {B : Nat} {w w1 w2 : World} {row : Option Nat} (h : w.grownBy w1 row) (hB : w.heap.size ≤ B) (k : Below B w1 w2) : w.grownBy w2 row :=
  ⟨k.os.trans h.os, k.tape.trans h.tape, k.output.trans h.output, Nat.le_trans h.size k.size, fun i hi hne => (k.block i (by omega)).trans (h.block i hi hne)⟩
end Go.Kx

/-
  strings.Builder's Grow, Len, WriteString and String at this program's numbers (by the shelf's laws; no strings.Repeat is wanted beside them).
-/
namespace Go.Proofs
open Go.Shelf
def Tryd.layG_ren : Go.Shelf.Ren := ⟨fun | 165 => 34 | 166 => 37 | 169 => 38 | 170 => 35 | 240 => 55 | 241 => 56 | 276 => 73 | 277 => 74 | n => n, fun | 0 => 0 | 3 => 3 | 4 => 4 | 9 => 9 | 20 => 20 | 37 => 72 | 70 => 73 | 72 => 75 | 75 => 78 | 164 => 117 | 5 => 5 | 76 => 79 | 80 => 60 | 127 => 99 | n => n, fun | n => n⟩
theorem Tryd.layG166 : Go.Proofs.Lays.n166 Tryd.prog Tryd.layG_ren := {
  mixed := by kernel_rfl
  f166 := Tryd.func37.trans (congrArg some (by kernel_rfl))
  f240 := Tryd.func55.trans (congrArg some (by kernel_rfl))
  f276 := Tryd.func73.trans (congrArg some (by kernel_rfl))
  t0 := Tryd.underlying0
  a0 := Tryd.isAgg0
  z0 := Tryd.sizeOf0
  v0 := Tryd.zeroValue0
  t3 := Tryd.underlying3
  a3 := Tryd.isAgg3
  z3 := Tryd.sizeOf3
  v3 := Tryd.zeroValue3
  t4 := Tryd.underlying4
  a4 := Tryd.isAgg4
  z4 := Tryd.sizeOf4
  v4 := Tryd.zeroValue4
  t9 := Tryd.underlying9
  a9 := Tryd.isAgg9
  z9 := Tryd.sizeOf9
  v9 := Tryd.zeroValue9
  t20 := Tryd.underlying20
  a20 := Tryd.isAgg20
  z20 := Tryd.sizeOf20
  v20 := Tryd.zeroValue20
  t37 := Tryd.underlying72
  a37 := Tryd.isAgg72
  z37 := Tryd.sizeOf72
  v37 := Tryd.zeroValue72
  t70 := Tryd.underlying73
  a70 := Tryd.isAgg73
  z70 := Tryd.sizeOf73
  v70 := Tryd.zeroValue73
  t72 := Tryd.underlying75
  a72 := Tryd.isAgg75
  z72 := Tryd.sizeOf75
  v72 := Tryd.zeroValue75
  t75 := Tryd.underlying78
  a75 := Tryd.isAgg78
  z75 := Tryd.sizeOf78
  v75 := Tryd.zeroValue78
  t164 := Tryd.underlying117
  a164 := Tryd.isAgg117
  z164 := Tryd.sizeOf117
  v164 := Tryd.zeroValue117 }
theorem Tryd.layG169 : Go.Proofs.Lays.n169 Tryd.prog Tryd.layG_ren := {
  mixed := by kernel_rfl
  f169 := Tryd.func38.trans (congrArg some (by kernel_rfl))
  t0 := Tryd.underlying0
  a0 := Tryd.isAgg0
  z0 := Tryd.sizeOf0
  v0 := Tryd.zeroValue0
  t3 := Tryd.underlying3
  a3 := Tryd.isAgg3
  z3 := Tryd.sizeOf3
  v3 := Tryd.zeroValue3
  t9 := Tryd.underlying9
  a9 := Tryd.isAgg9
  z9 := Tryd.sizeOf9
  v9 := Tryd.zeroValue9
  t37 := Tryd.underlying72
  a37 := Tryd.isAgg72
  z37 := Tryd.sizeOf72
  v37 := Tryd.zeroValue72
  t70 := Tryd.underlying73
  a70 := Tryd.isAgg73
  z70 := Tryd.sizeOf73
  v70 := Tryd.zeroValue73
  t72 := Tryd.underlying75
  a72 := Tryd.isAgg75
  z72 := Tryd.sizeOf75
  v72 := Tryd.zeroValue75
  t127 := Tryd.underlying99
  a127 := Tryd.isAgg99
  z127 := Tryd.sizeOf99
  v127 := Tryd.zeroValue99 }
theorem Tryd.layG165 : Go.Proofs.Lays.n165 Tryd.prog Tryd.layG_ren := {
  mixed := by kernel_rfl
  f165 := Tryd.func34.trans (congrArg some (by kernel_rfl))
  f240 := Tryd.func55.trans (congrArg some (by kernel_rfl))
  f241 := Tryd.func56.trans (congrArg some (by kernel_rfl))
  f276 := Tryd.func73.trans (congrArg some (by kernel_rfl))
  f277 := Tryd.func74.trans (congrArg some (by kernel_rfl))
  t0 := Tryd.underlying0
  a0 := Tryd.isAgg0
  z0 := Tryd.sizeOf0
  v0 := Tryd.zeroValue0
  t3 := Tryd.underlying3
  a3 := Tryd.isAgg3
  z3 := Tryd.sizeOf3
  v3 := Tryd.zeroValue3
  t4 := Tryd.underlying4
  a4 := Tryd.isAgg4
  z4 := Tryd.sizeOf4
  v4 := Tryd.zeroValue4
  t9 := Tryd.underlying9
  a9 := Tryd.isAgg9
  z9 := Tryd.sizeOf9
  v9 := Tryd.zeroValue9
  t20 := Tryd.underlying20
  a20 := Tryd.isAgg20
  z20 := Tryd.sizeOf20
  v20 := Tryd.zeroValue20
  t37 := Tryd.underlying72
  a37 := Tryd.isAgg72
  z37 := Tryd.sizeOf72
  v37 := Tryd.zeroValue72
  t70 := Tryd.underlying73
  a70 := Tryd.isAgg73
  z70 := Tryd.sizeOf73
  v70 := Tryd.zeroValue73
  t72 := Tryd.underlying75
  a72 := Tryd.isAgg75
  z72 := Tryd.sizeOf75
  v72 := Tryd.zeroValue75
  t164 := Tryd.underlying117
  a164 := Tryd.isAgg117
  z164 := Tryd.sizeOf117
  v164 := Tryd.zeroValue117 }
theorem Tryd.layG170 : Go.Proofs.Lays.n170 Tryd.prog Tryd.layG_ren := {
  mixed := by kernel_rfl
  f170 := Tryd.func35.trans (congrArg some (by kernel_rfl))
  t0 := Tryd.underlying0
  a0 := Tryd.isAgg0
  z0 := Tryd.sizeOf0
  v0 := Tryd.zeroValue0
  t3 := Tryd.underlying3
  a3 := Tryd.isAgg3
  z3 := Tryd.sizeOf3
  v3 := Tryd.zeroValue3
  t37 := Tryd.underlying72
  a37 := Tryd.isAgg72
  z37 := Tryd.sizeOf72
  v37 := Tryd.zeroValue72
  t70 := Tryd.underlying73
  a70 := Tryd.isAgg73
  z70 := Tryd.sizeOf73
  v70 := Tryd.zeroValue73
  t72 := Tryd.underlying75
  a72 := Tryd.isAgg75
  z72 := Tryd.sizeOf75
  v72 := Tryd.zeroValue75 }
theorem Tryd.layG_Extra : Builder.Extra Tryd.prog Tryd.layG_ren := {
  sizeBuilder := by kernel_rfl
  liesBuilder := by kernel_rfl
  t5 := Tryd.underlying5
  a5 := Tryd.isAgg5
  z5 := Tryd.sizeOf5
  v5 := Tryd.zeroValue5
  infoByte := by kernel_rfl
  cellsByte := by kernel_rfl
  sizeByte := by kernel_rfl
  neB5 := by decide }
end Go.Proofs
namespace Go.Proofs.YtlkdofghhibmbaaDoor
open Go.RowKit Go.Kx
theorem bld_write (B b : Nat) (bs : List Value) (s : ByteArray) (w : World) (h : Lib.IsBuilder 75 5 B b bs w) (hlen : bs.length + s.size ≤ 140737488355328) (hBw : B ≤ w.heap.size) :
    Calls Tryd.prog 37 #[.pointer (some ⟨b, 0, none⟩), .string s] w fun e w' => e = .returned (.tuple #[.int .i64 s.size, .nilIface]) ∧ Lib.IsBuilder 75 5 B b (bs ++ Lib.strCells s) w' ∧ Below B w w' :=
  (Any.Builder_WriteString Tryd.layG166 Tryd.layG_Extra B b bs s w h hlen hBw).mono fun _ _ ⟨he, hi, hb⟩ => ⟨he, .inr hi, hb⟩
theorem bld_string (B b : Nat) (l : List UInt8) (w : World) (h : Lib.IsBuilder 75 5 B b (Lib.byteCells l) w) (hBw : B ≤ w.heap.size) :
    Calls Tryd.prog 38 #[.pointer (some ⟨b, 0, none⟩)] w fun e w' => e = .returned (.string ⟨l.toArray⟩) ∧ Below B w w' :=
  Any.Builder_String_any Tryd.layG169 Tryd.layG_Extra B b l w h hBw
theorem bld_new (w : World) : Lib.IsBuilder 75 5 w.heap.size w.heap.size [] (w.alloc (.cells #[.pointer none, .slice none 0 0] 75)) := Lib.fresh_isBuilder _ _ w
theorem bld_len (B b : Nat) (bs : List Value) (w : World) (h : Lib.IsBuilder 75 5 B b bs w) :
    Calls Tryd.prog 35 #[.pointer (some ⟨b, 0, none⟩)] w fun e w' => e = .returned (.int .i64 bs.length) ∧ w' = w :=
  Any.Builder_Len Tryd.layG170 B b bs w h
theorem bld_grow (B b n : Nat) (w : World) (hB : B ≤ b) (hbk : w.heap[b]? = some (.cells #[.pointer none, .slice none 0 0] 75)) (hBw : B ≤ w.heap.size) (hn : n ≤ 281474976710656) :
    Calls Tryd.prog 34 #[.pointer (some ⟨b, 0, none⟩), .int .i64 n] w fun e w' => e = .returned (.tuple #[]) ∧ Lib.IsBuilder 75 5 B b [] w' ∧ Below B w w' :=
  (Any.Builder_Grow_fresh Tryd.layG165 Tryd.layG_Extra B b n w hB hbk hBw hn).mono fun _ _ ⟨he, hi, hb⟩ => ⟨he, .inr hi, hb⟩
end Go.Proofs.YtlkdofghhibmbaaDoor

/-
  tape: a tape in memory; the contracts of left, Taken, Take, over any closure that makes its blocks.
-/
namespace Go.Proofs.YtlkdofghhibmbaaDoor
open Go.RowKit Go.Kx
set_option maxRecDepth 20000

/-- What a tape is: its bytes, the closure that makes its blocks, the boxes of strings that this one holds, the laid rows that it reads. -/
structure TK where
  bytes : List UInt8
  fn : Value
  boxes : List (Nat × ByteArray)
  globs : List (Nat × List Value)
/-- A tape in memory, of which N bytes are taken. -/
def Tp (w : World) (T : Nat) (k : TK) (N : Nat) : Prop :=
  w.heap[T]? = some (.cells #[.int .i64 (N : Int), .int .i64 (k.bytes.length : Int), k.fn] 48) ∧ (∀ p ∈ k.boxes, w.heap[p.1]? = some (.cells #[.string p.2] 9)) ∧ N ≤ k.bytes.length ∧ (∀ p ∈ k.globs, p.1 ≠ T ∧ p.2 ≠ [] ∧ w.rangeAt p.1 0 p.2)
theorem Tp.lt {w : World} {T N : Nat} {k : TK} (h : Tp w T k N) : T < w.heap.size := (Array.getElem?_eq_some_iff.1 h.1).1
theorem Tp.box_lt {w : World} {T N : Nat} {k : TK} (h : Tp w T k N) {p : Nat × ByteArray} (hp : p ∈ k.boxes) : p.1 < w.heap.size := (Array.getElem?_eq_some_iff.1 (h.2.1 p hp)).1
theorem range_lt {w : World} {g : Nat} {l : List Value} (h : w.rangeAt g 0 l) (hl : l ≠ []) : g < w.heap.size := by
  cases l with
  | nil => exact absurd rfl hl
  | cons v r => exact block_lt_of_cell (h 0 v rfl)
theorem range_block {w w' : World} {g : Nat} {l : List Value} (h : w.rangeAt g 0 l) (hb : w'.heap[g]? = w.heap[g]?) : w'.rangeAt g 0 l := by
  intro j v hv
  rw [World.cell?_of_block (a := ⟨g, 0 + j, none⟩) hb]
  exact h j v hv
theorem Tp.glob_lt {w : World} {T N : Nat} {k : TK} (h : Tp w T k N) {p : Nat × List Value} (hp : p ∈ k.globs) : p.1 < w.heap.size := range_lt (h.2.2.2 p hp).2.2 (h.2.2.2 p hp).2.1
theorem Tp.box_ne {w : World} {T N : Nat} {k : TK} (h : Tp w T k N) {X : Nat} {c : Array Value} {t : TypeId} {f : Nat × Nat} (hX : w.heap[X]? = some (.cells c t f)) (hc : c.size ≠ 1) {p : Nat × ByteArray} (hp : p ∈ k.boxes) : p.1 ≠ X := by
  intro e
  have h1 := h.2.1 p hp
  rw [e, hX] at h1
  simp only [Option.some.injEq, Obj.cells.injEq] at h1
  rw [h1.1] at hc
  exact hc rfl
theorem Tp.of_blocks {w w' : World} {T N : Nat} {k : TK} (h : Tp w T k N) (h1 : w'.heap[T]? = w.heap[T]?) (h2 : ∀ p ∈ k.boxes, w'.heap[p.1]? = w.heap[p.1]?) (h3 : ∀ p ∈ k.globs, w'.heap[p.1]? = w.heap[p.1]?) : Tp w' T k N :=
  ⟨h1.trans h.1, fun p hp => (h2 p hp).trans (h.2.1 p hp), h.2.2.1, fun p hp => ⟨(h.2.2.2 p hp).1, (h.2.2.2 p hp).2.1, range_block (h.2.2.2 p hp).2.2 (h3 p hp)⟩⟩
theorem Tp.grown {w w' : World} {T N X : Nat} {k : TK} {c : Array Value} {t : TypeId} {f : Nat × Nat} (h : Tp w T k N) (hX : w.heap[X]? = some (.cells c t f)) (hc : c.size ≠ 1) (hne : X ≠ T) (hgl : ∀ p ∈ k.globs, p.1 ≠ X) (hg : w.grownBy w' (some X)) : Tp w' T k N :=
  h.of_blocks (hg.block T h.lt (by intro e; cases e; exact hne rfl)) (fun p hp => hg.block p.1 (h.box_lt hp) (by intro e; exact h.box_ne hX hc hp (Option.some.inj e))) (fun p hp => hg.block p.1 (h.glob_lt hp) (by intro e; exact hgl p hp (Option.some.inj e)))
theorem Tp.keep {w w' : World} {T N : Nat} {k : TK} (h : Tp w T k N) (hb : Below w.heap.size w w') : Tp w' T k N :=
  h.of_blocks (hb.block T h.lt) (fun p hp => hb.block p.1 (h.box_lt hp)) (fun p hp => hb.block p.1 (h.glob_lt hp))
/-- All that a tape lies in is below. -/
def TK.low (k : TK) (B : Nat) : Prop := (∀ p ∈ k.boxes, p.1 < B) ∧ ∀ p ∈ k.globs, p.1 < B
theorem Tp.low {w : World} {T N : Nat} {k : TK} (h : Tp w T k N) : k.low w.heap.size := ⟨fun _ hp => h.box_lt hp, fun _ hp => h.glob_lt hp⟩
theorem TK.low.mono {k : TK} {B C : Nat} (h : k.low B) (hC : B ≤ C) : k.low C := ⟨fun p hp => Nat.lt_of_lt_of_le (h.1 p hp) hC, fun p hp => Nat.lt_of_lt_of_le (h.2 p hp) hC⟩
theorem Tp.below {w w' : World} {T N B : Nat} {k : TK} (h : Tp w T k N) (hT : T < B) (hk : k.low B) (hb : Below B w w') : Tp w' T k N :=
  h.of_blocks (hb.block T hT) (fun p hp => hb.block p.1 (hk.1 p hp)) (fun p hp => hb.block p.1 (hk.2 p hp))
theorem Tp.drewN {w : World} {T N : Nat} {k : TK} (h : Tp w T k N) (q : Nat) : Tp (w.drewN q) T k N := h
theorem Tp.cells {w : World} {T N : Nat} {k : TK} (h : Tp w T k N) : w.cell? ⟨T, 0, none⟩ = some (.int .i64 (N : Int)) ∧ w.cell? ⟨T, 1, none⟩ = some (.int .i64 (k.bytes.length : Int)) ∧ w.cell? ⟨T, 2, none⟩ = some k.fn ∧ w.frozen? ⟨T, 0, none⟩ = false := by
  have c := fun j => cell_of_row w T j _ _ _ h.1
  exact ⟨(c 0).trans rfl, (c 1).trans rfl, (c 2).trans rfl, by unfold World.frozen?; rw [h.1]; simp⟩
theorem Tp.set {w : World} {T N : Nat} {k : TK} (h : Tp w T k N) (M : Nat) (hM : M ≤ k.bytes.length) : Tp (w.setCell ⟨T, 0, none⟩ (.int .i64 (M : Int))) T k M := by
  refine ⟨(heap_setCell_same w T 0 _ _ _ h.1).trans rfl, fun p hp => ?_, hM, fun p hp => ?_⟩
  · rw [Below.heap_setCell _ _ _ p.1 (h.box_ne h.1 (by simp) hp)]
    exact h.2.1 p hp
  · obtain ⟨g1, g2, g3⟩ := h.2.2.2 p hp
    exact ⟨g1, g2, range_block g3 (Below.heap_setCell _ _ _ p.1 g1)⟩
/-- How many bytes a tape's block says are taken. -/
def tkN (w : World) (T : Nat) : Nat := match w.cell? ⟨T, 0, none⟩ with | some (.int _ z) => z.toNat | _ => 0
theorem tkN_of {w : World} {T N : Nat} {k : TK} (h : Tp w T k N) : tkN w T = N := by
  rw [tkN, h.cells.1]
  exact Int.toNat_natCast N
/-- What Take wants of a tape: its size, and what rest tells. -/
structure TKok (k : TK) : Prop where
  size : k.bytes.length ≤ 1000000000000
  isf : ∃ f a b, k.fn = .func f a b
  rest : ∀ (w : World) (T N : Nat), Tp w T k N → N < k.bytes.length → ∀ b : ByteArray, (⟨(restL k.bytes N).toArray⟩ : ByteArray) = b →
    Calls Tryd.prog 36 #[.pointer (some ⟨T, 0, none⟩)] w fun e w' => e = .returned (.string b) ∧ Below w.heap.size w w'
theorem tleft_any (N L : Nat) (hL : L ≤ 1000000000000) (r : Nat) (hr : N + r = L) (w : World) :
    Calls Tryd.prog 33 #[.agg #[.int .i64 (N : Int), .int .i64 (L : Int)]] w fun e w' => e = .returned (.int .i64 (r : Int)) ∧ Below w.heap.size w w' := by
  have e : (L : Int) - (N : Int) = (r : Int) := by omega
  have hw : IntKind.i64.wrap (r : Int) = (r : Int) := IntWalk.i64_in _ (by omega)
  clear hr
  go_enter Tryd.func33, Tryd.ntmps33
  go_wp2
  go_ret
  exact ⟨rfl, Below.alloc0 _ _⟩
theorem taken_any (T N : Nat) (k : TK) (w : World) (hT : Tp w T k N) :
    Calls Tryd.prog 12 #[.pointer (some ⟨T, 0, none⟩)] w fun e w' => e = .returned (.int .i64 (N : Int)) ∧ w' = w := by
  obtain ⟨c0, c1, c2, cf⟩ := hT.cells
  clear hT
  go_enter Tryd.func12, Tryd.ntmps12
  go_wp2
  go_ret
  exact ⟨rfl, rfl⟩
/-- What a call of Take answers. -/
def TTakeP (T : Nat) (k : TK) (x : List UInt8 × Int × Nat) (w : World) (e : Ending) (w' : World) : Prop :=
  ∃ b : ByteArray, (⟨x.1.toArray⟩ : ByteArray) = b ∧ e = .returned (.tuple #[.string b, .int .i64 x.2.1]) ∧ Tp w' T k x.2.2 ∧ w.grownBy w' (some T)
theorem ttake_early (T N : Nat) (k : TK) (hL : k.bytes.length ≤ 1000000000000) (n : Int) (h : n < 0 ∨ (k.bytes.length : Int) - N < n) (w : World) (hT : Tp w T k N) :
    Calls Tryd.prog 16 #[.pointer (some ⟨T, 0, none⟩), .int .i64 n] w fun e w' => TTakeP T k (takeR k.bytes N n) w e w' := by
  by_cases h0 : n < 0
  · rw [takeR_neg h0]
    go_enter Tryd.func16, Tryd.ntmps16
    go_wp2
    go_ret2
    exact ⟨⟨#[]⟩, rfl, rfl, hT, grown_of (Below.refl _ _)⟩
  · have h2 : (k.bytes.length : Int) - N < n := h.resolve_left h0
    have hN := hT.2.2.1
    rw [takeR_out h0 h2]
    obtain ⟨c0, c1, c2, cf⟩ := hT.cells
    obtain ⟨L, hLL⟩ : ∃ L, k.bytes.length = L := ⟨_, rfl⟩
    rw [hLL] at c1 hL h2 hN
    obtain ⟨r, hr⟩ : ∃ r, N + r = L := ⟨L - N, by omega⟩
    have hleft := tleft_any N L hL r hr
    have hrn : (r : Int) < n := by omega
    clear h h2 hr hLL
    go_enter Tryd.func16, Tryd.ntmps16
    go_wp2_with fail
    refine (hleft w).mono ?_
    rintro e w1 ⟨rfl, hb⟩
    go_wp2
    go_ret2
    exact ⟨⟨#[]⟩, rfl, rfl, hT.keep hb, grown_of hb⟩
end Go.Proofs.YtlkdofghhibmbaaDoor

/-
  tape: the contract of Take.
-/
namespace Go.Proofs.YtlkdofghhibmbaaDoor
open Go.RowKit Go.Kx
set_option maxRecDepth 20000

set_option maxHeartbeats 4000000 in
theorem ttake_yes (T N n : Nat) (k : TK) (hk : TKok k) (hn : N + n ≤ k.bytes.length) (w : World) (hT : Tp w T k N) :
    Calls Tryd.prog 16 #[.pointer (some ⟨T, 0, none⟩), .int .i64 (n : Int)] w fun e w' => TTakeP T k (takeR k.bytes N (n : Int)) w e w' := by
  rw [takeR_yes (by omega) (by omega)]
  obtain ⟨c0, c1, c2, cf⟩ := hT.cells
  have hTl := hT.lt
  have hbx : k.low w.heap.size := hT.low
  have hsz := hk.size
  obtain ⟨L, hL⟩ : ∃ L, k.bytes.length = L := ⟨_, rfl⟩
  rw [hL] at c1 hn hsz
  obtain ⟨r, hr⟩ : ∃ r, N + r = L := ⟨L - N, by omega⟩
  have hleft := tleft_any N L hsz r hr
  have hrn : ¬ (r : Int) < (n : Int) := by omega
  have h0 : ¬ (n : Int) < 0 := by omega
  have HL := Lib.hid hL
  have HK := Lib.hid hk
  clear hL hr hk
  unfold TTakeP
  obtain ⟨out, hout⟩ : ∃ out : ByteArray, (⟨((k.bytes.drop N).take n).toArray⟩ : ByteArray) = out := ⟨_, rfl⟩
  have HOUT := Lib.hid hout
  rw [hout]
  clear hout
  obtain ⟨D, hD⟩ : ∃ D, k.bytes.drop N = D := ⟨_, rfl⟩
  have HD := Lib.hid hD
  have HDL : Hid (D.length = L - N) := Lib.hid (by rw [← hD, List.length_drop, HL.out])
  rw [hD] at HOUT
  clear hD
  go_enter Tryd.func16, Tryd.ntmps16
  go_wp2_with fail
  refine (hleft w).mono ?_
  rintro e w1 ⟨rfl, hb1⟩
  have hT1 := hT.keep hb1
  have hb1s := hb1.size
  clear c0 c1 c2 cf hleft
  go_wp2_with fail
  refine (bld_grow w1.heap.size w1.heap.size n _ (Nat.le_refl _) (heap_alloc_new w1 _) (by simp) (by omega)).mono ?_
  rintro e w3 ⟨rfl, hI, hb3⟩
  have hb13 : Below w1.heap.size w1 w3 := (Below.alloc0 w1 _).trans hb3
  have hT3 := hT1.keep hb13
  have hg3 : w.grownBy w3 (some T) := grown_trans (grown_of hb1) (grown_of hb13)
  have hB3 := hb13.size
  obtain ⟨Bq, hBq⟩ : ∃ B, w1.heap.size = B := ⟨_, rfl⟩
  rw [hBq] at hI hB3 hb1s ⊢
  clear hb1 hT1 hb3 hb13 hBq
  clear w1
  go_wp2
  go_loopw [7] (fun _ wr => ∃ kk : Nat, kk ≤ n ∧ Lib.IsBuilder 75 5 Bq Bq (Lib.byteCells (D.take kk)) wr ∧ Tp wr T k (N + kk) ∧ w.grownBy wr (some T) ∧ Bq ≤ wr.heap.size) (fun _ wr => n + N - tkN wr T)
  case atStart => exact ⟨0, by omega, hI, hT3, hg3, hB3⟩
  case round =>
    clear hI hT3 hg3 hB3
    obtain ⟨kk, hkk, hI, hTr, hg, hBs⟩ := hrel
    have hlk : (Lib.byteCells (D.take kk)).length = kk := by rw [Lib.byteCells_length, List.length_take, HDL.out]; omega
    have hlen := bld_len Bq Bq _ wr hI
    rw [hlk] at hlen
    clear hlk
    by_cases hlt : kk < n
    · have hltI : (kk : Int) < (n : Int) := by omega
      obtain ⟨b, hb⟩ : ∃ b : ByteArray, (⟨(restL k.bytes (N + kk)).toArray⟩ : ByteArray) = b := ⟨_, rfl⟩
      have hrest := HK.out.rest wr T (N + kk) hTr (by rw [HL.out]; omega) b hb
      obtain ⟨z, hz⟩ : ∃ z, b.size = z := ⟨_, rfl⟩
      have hz0 : 0 < z := by rw [← hz, ← hb, size_mk, restL_length, HL.out]; omega
      have hzL : z ≤ 64 := by rw [← hz, ← hb, size_mk, restL_length]; omega
      obtain ⟨d, hd⟩ : ∃ d, n - kk = d := ⟨_, rfl⟩
      have hdI : (n : Int) - (kk : Int) = (d : Int) := by omega
      have hdw : IntKind.i64.wrap (d : Int) = (d : Int) := IntWalk.i64_in _ (by omega)
      obtain ⟨x, hx⟩ : ∃ x, N + kk = x := ⟨_, rfl⟩
      rw [hx] at hTr
      have HX := Lib.hid hx
      have HB := Lib.hid hb
      have HZ := Lib.hid hz
      have hmeas0 := tkN_of hTr
      obtain ⟨m, hm0, hmz, hmd, hmin⟩ : ∃ m : Nat, 0 < m ∧ m ≤ z ∧ m ≤ d ∧ min (z : Int) (d : Int) = (m : Int) := ⟨min z d, by omega, by omega, by omega, by omega⟩
      obtain ⟨p, hp⟩ : ∃ p : ByteArray, b.extract 0 m = p := ⟨_, rfl⟩
      have hpz : p.size = m := by rw [← hp, ByteArray.size_extract]; omega
      have HNX : Hid (Lib.byteCells (D.take kk) ++ Lib.strCells p = Lib.byteCells (D.take (kk + m))) := Lib.hid (by
        have e : p.data.toList = (D.drop kk).take m := by
          rw [← hp, str_ext, ← HB.out]
          show ((restL k.bytes (N + kk)).drop 0).take (m - 0) = _
          rw [List.drop_zero, Nat.sub_zero, restL_take _ _ _ (by have := HZ.out; rw [← HB.out, size_mk] at this; omega), ← HD.out, List.drop_drop]
        rw [Lib.strCells_eq, ← Lib.byteCells_append, e, take_more])
      obtain ⟨y, hy⟩ : ∃ y, x + m = y := ⟨_, rfl⟩
      have hyI : (x : Int) + (m : Int) = (y : Int) := by omega
      have hyw : IntKind.i64.wrap (y : Int) = (y : Int) := IntWalk.i64_in _ (by have := HX.out; omega)
      have HY := Lib.hid hy
      have HDd := Lib.hid hd
      have HPZ := Lib.hid hpz
      clear hb hx hd hy hz
      go_wp2_with fail
      refine hlen.mono ?_
      rintro e wr ⟨rfl, rfl⟩
      go_wp2_with fail
      refine hrest.mono ?_
      rintro e w2 ⟨rfl, hb2⟩
      have hI2 := isBuilder_keep hI hb2
      have hT2 := hTr.keep hb2
      have hg2 := grown_trans hg (grown_of hb2)
      have hBs2 := Nat.le_trans hBs hb2.size
      have hlk : (Lib.byteCells (D.take kk)).length = kk := by rw [Lib.byteCells_length, List.length_take, HDL.out]; omega
      have hlen2 := bld_len Bq Bq _ w2 hI2
      rw [hlk] at hlen2
      have hzz := HZ.out
      clear hrest hlen hI hTr hg hBs hb2
      go_wp2_with fail
      refine hlen2.mono ?_
      rintro e w2 ⟨rfl, rfl⟩
      go_wp2_with fail
      have hzn : 0 ≤ (m : Int) := by omega
      refine (bld_write Bq Bq _ p w2 hI2 (by rw [hlk]; have := HPZ.out; omega) hBs2).mono ?_
      rintro e w4 ⟨rfl, hI4, hb4⟩
      rw [HNX.out] at hI4
      have hT4 := hT2.below (by omega) (hbx.mono (by omega)) hb4
      have hg4 := grown_low hg2 (by omega) hb4
      have hBs4 := Nat.le_trans hBs2 hb4.size
      have hpzz := HPZ.out
      obtain ⟨d0, d1, d2, d3⟩ := hT4.cells
      clear hI2 hT2 hg2 hBs2 hb4 hzz hlen2
      go_wp2
      go_roundw
      case rel => exact ⟨kk + m, by have := HDd.out; omega, isBuilder_grown hI4 (by omega) (grown_set _ _ _ _), by rw [show N + (kk + m) = y by have := HX.out; have := HY.out; omega]; exact hT4.set y (by rw [HL.out]; have := HX.out; have := HY.out; have := HDd.out; omega), grown_trans hg4 (grown_set _ _ _ _), by simpa using hBs4⟩
      case measure =>
        rw [hmeas0, tkN_of (hT4.set y (by rw [HL.out]; have := HX.out; have := HY.out; have := HDd.out; omega))]
        have := HX.out; have := HY.out; have := HDd.out
        omega
    · obtain rfl : kk = n := by omega
      have hltI : ¬ (kk : Int) < (kk : Int) := by omega
      have hT9 := HOUT.out
      go_wp2_with fail
      refine hlen.mono ?_
      rintro e wr ⟨rfl, rfl⟩
      go_wp2_with fail
      refine (bld_string Bq Bq _ wr hI hBs).mono ?_
      rintro e w4 ⟨rfl, hb4⟩
      rw [hT9]
      have hT4 := hTr.below (by omega) (hbx.mono (by omega)) hb4
      have hg4 := grown_low hg (by omega) hb4
      go_wp2
      go_ret2
      exact ⟨out, rfl, rfl, hT4, hg4⟩
/-- Take of any tape. -/
theorem ttake_any (T N : Nat) (k : TK) (hk : TKok k) (n : Int) (w : World) (hT : Tp w T k N) :
    Calls Tryd.prog 16 #[.pointer (some ⟨T, 0, none⟩), .int .i64 n] w fun e w' => TTakeP T k (takeR k.bytes N n) w e w' := by
  by_cases h : n < 0 ∨ (k.bytes.length : Int) - N < n
  · exact ttake_early T N k hk.size n h w hT
  · obtain ⟨m, rfl⟩ := Int.eq_ofNat_of_zero_le (Int.not_lt.1 fun h2 => h (.inl h2))
    have h2 : ¬ (k.bytes.length : Int) - N < (m : Int) := fun h2 => h (.inr h2)
    have := hT.2.2.1
    exact ttake_yes T N m k hk (by omega) w hT
end Go.Proofs.YtlkdofghhibmbaaDoor

/-
  The bytes of a string in a block of their own (any program).
-/
namespace Go.Proofs.YtlkdofghhibmbaaDoor
open Go.RowKit Go.Kx

/-- The bytes' block: its first z cells, and that they may be written. -/
def Cells (w : World) (g z : Nat) (f : Nat → Nat) : Prop := g < w.heap.size ∧ ∀ j, j < z → w.cell? ⟨g, j, none⟩ = some (.int .u8 (f j : Nat)) ∧ w.frozen? ⟨g, j, none⟩ = false
theorem Cells.keep {w w' : World} {g z : Nat} {f : Nat → Nat} (h : Cells w g z f) (hb : Below w.heap.size w w') : Cells w' g z f :=
  ⟨Nat.lt_of_lt_of_le h.1 hb.size, fun j hj => ⟨(hb.cell (p := ⟨g, j, none⟩) h.1).trans (h.2 j hj).1, (hb.frozen (p := ⟨g, j, none⟩) h.1).trans (h.2 j hj).2⟩⟩
theorem Cells.set {w : World} {g z k : Nat} {f f' : Nat → Nat} (h : Cells w g z f) (hk : k < z) (x : Nat) (hf : ∀ j, (if j = k then x else f j) = f' j) : Cells (w.setCell ⟨g, k, none⟩ (.int .u8 (x : Nat))) g z f' := by
  refine ⟨by simpa using h.1, fun j hj => ⟨?_, by rw [World.frozen?_setCell]; exact (h.2 j hj).2⟩⟩
  rw [← hf j]
  by_cases hjk : j = k
  · subst hjk
    rw [if_pos rfl]
    exact World.cell?_setCell_same _ _ _ (h.2 j hj).1
  · rw [if_neg hjk, World.cell?_setCell_other _ _ _ _ (fun h => hjk (congrArg Addr.off h).symm)]
    exact (h.2 j hj).1
theorem Cells.setOther {w : World} {g z : Nat} {f : Nat → Nat} (h : Cells w g z f) {b j : Nat} (hne : b ≠ g) (v : Value) : Cells (w.setCell ⟨b, j, none⟩ v) g z f := by
  refine ⟨by simpa using h.1, fun i hi => ⟨?_, by rw [World.frozen?_setCell]; exact (h.2 i hi).2⟩⟩
  rw [World.cell?_setCell_other _ _ _ _ (fun h => hne (congrArg Addr.block h))]
  exact (h.2 i hi).1
theorem Cells.drew {w : World} {g z : Nat} {f : Nat → Nat} (h : Cells w g z f) : Cells w.drew g z f := h
theorem Cells.new (V : World) (s : ByteArray) (e : TypeId) (c : Nat) : Cells (V.drew.alloc (.cells (bytesRow s c) e ((bytesRow s c).size, (bytesRow s c).size + 1))) V.heap.size s.size (fun j => (s.data.toList.getD j 0).toNat) := by
  have hnew : (V.drew.alloc (.cells (bytesRow s c) e ((bytesRow s c).size, (bytesRow s c).size + 1))).heap[V.heap.size]? = some (.cells (bytesRow s c) e ((bytesRow s c).size, (bytesRow s c).size + 1)) := heap_alloc_new V.drew _
  refine ⟨(Array.getElem?_eq_some_iff.1 hnew).1, fun j hj => ⟨?_, ?_⟩⟩
  · rw [cell_of_row _ _ _ _ _ _ hnew, bytesRow, Array.getElem?_append_left (by simpa using hj)]
    simp [List.getD_eq_getElem?_getD, hj]
  · have hz : j < (bytesRow s c).size := by simp [bytesRow]; omega
    unfold World.frozen?
    rw [hnew]
    simp
    omega
end Go.Proofs.YtlkdofghhibmbaaDoor

/-
  tape: the contract of Number.
-/
namespace Go.Proofs.YtlkdofghhibmbaaDoor
open Go.RowKit Go.Kx
set_option maxRecDepth 20000

/-- The number of the first bytes, the highest first. -/
def nmA (l : List UInt8) : Nat → Nat
  | 0 => 0
  | j + 1 => nmA l j * 256 + (l.getD j 0).toNat
theorem nmA_lt (l : List UInt8) : ∀ j, nmA l j < 256 ^ j
  | 0 => by simp [nmA]
  | j + 1 => by
    have h := nmA_lt l j
    have h2 := UInt8.toNat_lt (l.getD j 0)
    rw [nmA, Nat.pow_succ]
    omega
theorem nmA_or (l : List UInt8) (j : Nat) : nmA l j * 256 ||| (l.getD j 0).toNat = nmA l (j + 1) := by
  have h2 := UInt8.toNat_lt (l.getD j 0)
  rw [nmA, Nat.mul_comm, ← Nat.two_pow_add_eq_or_of_lt (i := 8) (by omega)]
theorem nmA_three (l : List UInt8) (below : Int) : (nmA l 3 : Int) % below = numI l below := by
  rw [numI]
  congr 1
  simp only [nmA]
  omega
/-- What a call of Number answers. -/
def TNumP (T : Nat) (k : TK) (x : Int × Int × Nat) (w : World) (e : Ending) (w' : World) : Prop :=
  e = .returned (.tuple #[.int .i64 x.1, .int .i64 x.2.1]) ∧ Tp w' T k x.2.2 ∧ w.grownBy w' (some T)
set_option maxHeartbeats 2000000 in
theorem tnumber_any (T N : Nat) (k : TK) (hk : TKok k) (below : Int) (w : World) (hT : Tp w T k N) :
    Calls Tryd.prog 22 #[.pointer (some ⟨T, 0, none⟩), .int .i64 below] w fun e w' => TNumP T k (numR k.bytes N below) w e w' := by
  by_cases h1 : below < 1
  · rw [numR, if_pos (.inl h1)]
    go_enter Tryd.func22, Tryd.ntmps22
    go_wp2
    go_ret2
    exact ⟨rfl, hT, grown_of (Below.refl _ _)⟩
  by_cases h2 : 16777216 < below
  · rw [numR, if_pos (.inr h2)]
    go_enter Tryd.func22, Tryd.ntmps22
    go_wp2
    go_ret2
    exact ⟨rfl, hT, grown_of (Below.refl _ _)⟩
  rw [numR, if_neg (by omega)]
  have htk := ttake_any T N k hk 3 w hT
  have hN := hT.2.2.1
  by_cases h3 : (k.bytes.length : Int) - N < 3
  · rw [takeR_out (by omega) h3] at htk
    rw [if_pos h3]
    clear h3 hN hk
    go_enter Tryd.func22, Tryd.ntmps22
    go_wp2_with fail
    refine htk.mono ?_
    rintro e w1 ⟨b, rfl, rfl, hT1, hg⟩
    go_wp2
    go_ret2
    exact ⟨rfl, hT1, hg⟩
  · rw [show (3 : Int) = ((3 : Nat) : Int) from rfl, takeR_yes (by omega) hN] at htk
    rw [if_neg h3]
    obtain ⟨D, hD⟩ : ∃ D, (k.bytes.drop N).take 3 = D := ⟨_, rfl⟩
    have hDl : D.length = 3 := by rw [← hD, List.length_take, List.length_drop]; omega
    rw [hD] at htk ⊢
    obtain ⟨r, hr⟩ : ∃ r, numI D below = r := ⟨_, rfl⟩
    rw [hr]
    have HR : Hid ((nmA D 3 : Int).tmod below = r) := Lib.hid (by rw [Int.tmod_eq_emod_of_nonneg (by omega), nmA_three]; exact hr)
    have HDL := Lib.hid hDl
    clear hD h3 hN hk hr hDl
    go_enter Tryd.func22, Tryd.ntmps22
    go_wp2_with fail
    refine htk.mono ?_
    rintro e w1 ⟨b, hbe, rfl, hT1, hg⟩
    have hbz : b.size = 3 := by rw [← hbe, size_mk]; exact HDL.out
    have hbl : b.data.toList = D := by rw [← hbe]
    have hconv : ∀ V : World, (convert 9 72 (.string b)).run Tryd.prog V = .ok (.slice (some ⟨V.heap.size, 0, none⟩) b.size (grownCap V b.size 0 5)) (V.drew.alloc (.cells (bytesRow b (grownCap V b.size 0 5)) 5 ((bytesRow b (grownCap V b.size 0 5)).size, (bytesRow b (grownCap V b.size 0 5)).size + 1))) :=
      fun V => run_bytes_of_string V _ _ _ b Tryd.underlying9 Tryd.underlying72 Tryd.underlying5
    have HCV := Lib.hid hconv
    have HBZ := Lib.hid hbz
    clear hconv htk hbe hbz
    go_wp2_with fail
    have e1 := HCV.out w1
    rw [HBZ.out] at e1
    generalize grownCap w1 3 0 5 = c at e1
    have hcs := Cells.new w1 b 5 c
    have hb4 := (Below.drew0 w1).al (.cells (bytesRow b c) 5 ((bytesRow b c).size, (bytesRow b c).size + 1))
    rw [HBZ.out, hbl] at hcs
    rw [e1]
    clear e1 HCV
    generalize hG : w1.heap.size = G at *
    generalize World.alloc _ _ = W4 at *
    go_wp2
    go_loopw [8, 30] (fun v i wr => ∃ j : Nat, i = .int .i64 j ∧ v = .int .i64 (nmA D j : Nat) ∧ j ≤ 3 ∧ Cells wr G 3 (fun j => (D.getD j 0).toNat) ∧ Below G w1 wr) (fun _ i _ => 3 - (intOf i).toNat)
    case atStart => exact ⟨0, rfl, rfl, by omega, hcs, hb4⟩
    case round =>
      clear hcs hb4
      obtain ⟨j, rfl, rfl, hj, hcs, hb⟩ := hrel
      by_cases hlt : j < 3
      · have hload := (hcs.2 j hlt).1
        have hlt1 := nmA_lt D j
        have hlt2 := nmA_lt D (j + 1)
        have hlim : nmA D j < 65536 := by
          have : (256 : Nat) ^ j ≤ 256 ^ 2 := Nat.pow_le_pow_right (by omega) (by omega)
          omega
        have hx := UInt8.toNat_lt (D.getD j 0)
        have HOR := Lib.hid (nmA_or D j)
        have hload2 : wr.cell? ⟨G, j, none⟩ = some (.int .u8 ((D.getD j 0).toNat : Int)) := hload
        generalize (D.getD j 0).toNat = x at hload2 HOR hx
        have HE : Hid (bits BinOp.or IntKind.i64 ((nmA D j : Int) * 256) (x : Int) = (nmA D (j + 1) : Int)) := Lib.hid (by
          rw [show ((nmA D j : Int) * 256) = ((nmA D j * 256 : Nat) : Int) by push_cast; rfl, int_or (by omega) (by omega), HOR.out])
        have hwx : wrap64 (x : Int) = (x : Int) := IntWalk.wrap64_in _ (by omega)
        clear hlt1 hlt2 hload
        go_wp2
        refine ⟨⟨j + 1, by go_num, ?_, by omega, hcs, hb⟩, by simp [intOf]; omega⟩
        rw [HE.out]
      · obtain rfl : j = 3 := by omega
        have hr2 := HR.out
        have hT2 : Tp wr T k (N + 3) := hT1.keep (by rw [hG]; exact hb)
        have hg2 : w.grownBy wr (some T) := grown_trans hg (grown_of (by rw [hG]; exact hb))
        go_wp2
        go_ret2
        exact ⟨rfl, hT2, hg2⟩
end Go.Proofs.YtlkdofghhibmbaaDoor

/-
  tape: the contract of Of; what rest tells of such a tape.
-/
namespace Go.Proofs.YtlkdofghhibmbaaDoor
open Go.RowKit Go.Kx
set_option maxRecDepth 20000

/-- A tape of s's bytes, whose closure's box lies at B. -/
def ofK (B : Nat) (s : ByteArray) : TK := ⟨s.data.toList, .func (.func 17) #[] #[.pointer (some ⟨B, 0, none⟩)], [(B, s)], []⟩
theorem ofK_len (B : Nat) (s : ByteArray) : (ofK B s).bytes.length = s.size := by simp [ofK]
theorem tofcl_any (B : Nat) (s : ByteArray) (hs : s.size ≤ 1000000000000) (i lo : Nat) (hlo : i * 64 = lo) (hi : lo ≤ s.size) (r : ByteArray) (hr : (⟨((s.data.toList.drop lo).take 64).toArray⟩ : ByteArray) = r) (w : World) (hB : w.cell? ⟨B, 0, none⟩ = some (.string s)) :
    Calls Tryd.prog 17 #[.int .i64 (i : Int), .pointer (some ⟨B, 0, none⟩)] w fun e w' => e = .returned (.string r) ∧ w' = w := by
  have hloI : (i : Int) * 64 = (lo : Int) := by omega
  have hlow : IntKind.i64.wrap (lo : Int) = (lo : Int) := IntWalk.i64_in _ (by omega)
  obtain ⟨z, hz⟩ : ∃ z, s.size - lo = z := ⟨_, rfl⟩
  obtain ⟨p, hp⟩ : ∃ p : ByteArray, s.extract lo s.size = p := ⟨_, rfl⟩
  have hpz : p.size = z := by rw [← hp, ByteArray.size_extract]; omega
  obtain ⟨m, hmz, hmin⟩ : ∃ m : Nat, m ≤ z ∧ min 64 (z : Int) = (m : Int) := ⟨min 64 z, by omega, by omega⟩
  have hq : p.extract 0 m = r := by
    rw [← hr]
    refine ByteArray.ext (Array.toList_inj.1 ?_)
    rw [str_ext, ← hp, str_ext, List.drop_zero, Nat.sub_zero, List.take_take, hz]
    show _ = (s.data.toList.drop lo).take 64
    have hl : (s.data.toList.drop lo).length = z := by rw [List.length_drop]; simp; omega
    rw [List.take_eq_take_iff, hl]
    omega
  have hlo2 : (lo : Int) ≤ (s.size : Int) := by omega
  clear hr hz hlo
  go_enter Tryd.func17, Tryd.ntmps17
  go_wp2
  go_ret
  exact ⟨rfl, rfl⟩
theorem of_any (s : ByteArray) (w : World) :
    Calls Tryd.prog 6 #[.string s] w fun e w' => e = .returned (.pointer (some ⟨w.heap.size + 1, 0, none⟩)) ∧ Tp w' (w.heap.size + 1) (ofK w.heap.size s) 0 ∧ Below w.heap.size w w' := by
  have hmf : ∀ (fn : Fn) (first cap : Array Value) (w : World), (Instr.makeFunc fn first cap).run Tryd.prog w = .ok (.func fn first cap) w := fun _ _ _ _ => rfl
  go_enter Tryd.func6, Tryd.ntmps6
  go_wp2
  go_ret
  have hb : Below w.heap.size w (w.alloc (.cells #[.string s] 9)) := Below.alloc0 w _
  refine ⟨rfl, ⟨?_, ?_, Nat.zero_le _, fun p hp => by simp [ofK] at hp⟩, hb.al _⟩
  · have h1 := heap_alloc_new (w.alloc (.cells #[.string s] 9)) (.cells #[.int .i64 0, .int .i64 (s.size : Int), .func (.func 17) #[] #[.pointer (some ⟨w.heap.size, 0, none⟩)]] 48)
    rw [World.size_alloc] at h1
    rw [ofK_len]
    exact h1
  · intro p hp
    obtain rfl : p = (w.heap.size, s) := by simpa [ofK] using hp
    exact (Below.heap_alloc (w.alloc (.cells #[.string s] 9)) _ w.heap.size (by simp)).trans (heap_alloc_new w _)
set_option maxHeartbeats 2000000 in
theorem ofrest_any (B : Nat) (s : ByteArray) (hs : s.size ≤ 1000000000000) (w : World) (T N : Nat) (hT : Tp w T (ofK B s) N) (hN : N < s.size) (b : ByteArray) (hb : (⟨(restL s.data.toList N).toArray⟩ : ByteArray) = b) :
    Calls Tryd.prog 36 #[.pointer (some ⟨T, 0, none⟩)] w fun e w' => e = .returned (.string b) ∧ Below w.heap.size w w' := by
  obtain ⟨c0, -, c2, -⟩ := hT.cells
  have hB := cell_of_row w B 0 _ _ _ (hT.2.1 (B, s) (by simp [ofK]))
  replace hB : w.cell? ⟨B, 0, none⟩ = some (.string s) := hB.trans rfl
  unfold ofK at c2
  have hl0 : ∀ d' os, (Go.Sort.grow (redrawn w d') os).cell? ⟨T, 0, none⟩ = some (.int .i64 (N : Int)) := cell_regrown c0
  have hl2 : ∀ d' os, (Go.Sort.grow (redrawn w d') os).cell? ⟨T, 2, none⟩ = some (.func (.func 17) #[] #[.pointer (some ⟨B, 0, none⟩)]) := cell_regrown c2
  have hlB : ∀ d' os, (Go.Sort.grow (redrawn w d') os).cell? ⟨B, 0, none⟩ = some (.string s) := cell_regrown hB
  obtain ⟨q, hq⟩ : ∃ q, N / 64 = q := ⟨_, rfl⟩
  have hqI : (N : Int) / 64 = (q : Int) := by omega
  have hqd : (N : Int).tdiv 64 = (q : Int) := by rw [Int.tdiv_eq_ediv_of_nonneg (by omega)]; exact hqI
  have hwq : IntKind.i64.wrap (q : Int) = (q : Int) := IntWalk.i64_in _ (by omega)
  obtain ⟨m, hm⟩ : ∃ m, N % 64 = m := ⟨_, rfl⟩
  have hmI : (N : Int) % 64 = (m : Int) := by omega
  have hmt : (N : Int).tmod 64 = (m : Int) := by rw [Int.tmod_eq_emod_of_nonneg (by omega)]; exact hmI
  obtain ⟨r, hr⟩ : ∃ r : ByteArray, (⟨((s.data.toList.drop (q * 64)).take 64).toArray⟩ : ByteArray) = r := ⟨_, rfl⟩
  have hrz : r.size = min 64 (s.size - q * 64) := by rw [← hr, size_mk, List.length_take, List.length_drop]; simp
  have hmr : (m : Int) ≤ (r.size : Int) := by omega
  have hmr2 : m ≤ r.size := by omega
  have hbe : r.extract m r.size = b := by
    rw [← hb]
    refine ByteArray.ext (Array.toList_inj.1 ?_)
    rw [str_ext, ← hr]
    show (((s.data.toList.drop (q * 64)).take 64).drop m).take _ = restL s.data.toList N
    rw [restL, List.drop_take, List.drop_drop, show q * 64 + m = N by omega, hm, List.take_take, List.take_eq_take_iff, List.length_drop, size_mk, List.length_take, List.length_drop]
    omega
  have hsl : ∀ V : World, (Instr.slice 9 (.string r) (some (.int .i64 (m : Int))) none none).run Tryd.prog V = .ok (.string b) V := fun V => by
    rw [← hbe]
    exact str_from Tryd.underlying9 r m hmr2 V
  have c1 : ∀ d' os, Calls Tryd.prog 17 #[.int .i64 (q : Int), .pointer (some ⟨B, 0, none⟩)] (Go.Sort.grow (redrawn w d') os) fun e w'' => e = .returned (.string r) ∧ ∃ p : Regrown, w'' = Go.Sort.grow (redrawn w p.d) p.os :=
    fun d' os => (tofcl_any B s hs q (q * 64) rfl (by omega) r hr _ (hlB d' os)).mono fun _ _ ⟨h1, h2⟩ => ⟨h1, ⟨⟨d', os⟩, h2⟩⟩
  clear hT c0 c2 hB hlB hb hbe hr hq hm hrz hqI hmI
  go_enter Tryd.func36, Tryd.ntmps36
  go_wp2_with fail
  refine wp_region_quiet_below (by kernel_rfl) (by kernel_rfl) ?_
  repeat (quiet_step (with_reducible exact c1 _ _))
  refine wpQuiet_nil ?_
  intro _ hw'
  obtain ⟨⟨dq, osq⟩, hw''⟩ := hw'
  subst hw''
  have hq2 := below_regrown w dq osq
  clear hl0 hl2 c1
  generalize Go.Sort.grow (redrawn w dq) osq = w2 at *
  go_wp2
  go_ret
  exact ⟨rfl, hq2⟩
theorem ofK_ok (B : Nat) (s : ByteArray) (hs : s.size ≤ 1000000000000) : TKok (ofK B s) :=
  ⟨by rw [ofK_len]; exact hs, ⟨_, _, _, rfl⟩, fun w T N hT hN b hb => ofrest_any B s hs w T N hT (by rw [ofK_len] at hN; exact hN) b hb⟩
end Go.Proofs.YtlkdofghhibmbaaDoor

/-
  tape: the document's rows.
-/
namespace Go.Proofs.YtlkdofghhibmbaaDoor
open Go.RowKit Go.Kx
set_option maxRecDepth 20000

theorem below_grown {B : Nat} {w w1 w2 : World} {T : Nat} (h : Below B w w1) (hg : w1.grownBy w2 (some T)) (hT : B ≤ T) (hB : B ≤ w1.heap.size) : Below B w w2 :=
  ⟨hg.os.trans h.os, hg.tape.trans h.tape, hg.output.trans h.output, Nat.le_trans h.size hg.size, fun b hb => (hg.block b (by omega) (by intro e; cases e; omega)).trans (h.block b hb)⟩
theorem taken_at (T N : Nat) (k : TK) (w : World) (hT : Tp w T k N) (m : Int) (hm : (N : Int) = m) :
    Calls Tryd.prog 12 #[.pointer (some ⟨T, 0, none⟩)] w fun e w' => e = .returned (.int .i64 m) ∧ w' = w := hm ▸ taken_any T N k w hT
set_option maxHeartbeats 4000000 in
theorem tapes_any (w : World) : Calls Tryd.prog 11 #[] w fun e w' => e = .returned (.bool true) ∧ Below w.heap.size w w' := by
  go_enter Tryd.func11, Tryd.ntmps11
  go_wp2_with fail
  refine (of_any _ w).mono ?_
  rintro e w1 ⟨rfl, hT1, hb1⟩
  have hs1 := hT1.lt
  obtain ⟨T1, hTe⟩ : ∃ T1, w.heap.size + 1 = T1 := ⟨_, rfl⟩
  obtain ⟨k1, hk1⟩ : ∃ k1, ofK w.heap.size ⟨#[97, 98, 99, 100, 101]⟩ = k1 := ⟨_, rfl⟩
  have ok1 : TKok k1 := by rw [← hk1]; exact ofK_ok _ _ (by decide)
  have by1 : k1.bytes = [97, 98, 99, 100, 101] := by rw [← hk1]; rfl
  have gl1 : ∀ X, ∀ p ∈ k1.globs, p.1 ≠ X := by rw [← hk1]; intro X p hp; simp [ofK] at hp
  rw [hTe] at hT1 hs1 ⊢
  rw [hk1] at hT1
  clear hk1
  go_wp2_with fail
  refine (of_any _ w1).mono ?_
  rintro e w2 ⟨rfl, hU2, hb2⟩
  have hT2 := hT1.keep hb2
  have hs2 := hU2.lt
  obtain ⟨T2, hUe⟩ : ∃ T2, w1.heap.size + 1 = T2 := ⟨_, rfl⟩
  obtain ⟨k2, hk2⟩ : ∃ k2, ofK w1.heap.size ⟨#[0, 1, 2]⟩ = k2 := ⟨_, rfl⟩
  have ok2 : TKok k2 := by rw [← hk2]; exact ofK_ok _ _ (by decide)
  have by2 : k2.bytes = [0, 1, 2] := by rw [← hk2]; rfl
  have gl2 : ∀ X, ∀ p ∈ k2.globs, p.1 ≠ X := by rw [← hk2]; intro X p hp; simp [ofK] at hp
  have hne : T1 ≠ T2 := by omega
  have hlo1 : w.heap.size ≤ T1 := by omega
  have hlo2 : w.heap.size ≤ T2 := by have := hb1.size; omega
  rw [hUe] at hU2 hs2 ⊢
  rw [hk2] at hU2
  have hb3 := hb1.next hb2
  clear hk2 hT1 hb1 hb2 hTe hUe
  go_wp2_with fail
  refine (ttake_any T1 0 k1 ok1 2 w2 hT2).mono ?_
  rw [by1, show takeR [97, 98, 99, 100, 101] 0 2 = ([97, 98], 0, 2) from by decide]
  rintro e w3 ⟨b, rfl, rfl, hT3, hg3⟩
  have hU3 := hU2.grown hT2.1 (by simp) hne (gl2 _) hg3
  have hb4 := below_grown hb3 hg3 hlo1 hb3.size
  clear hT2 hU2 hg3 hb3
  go_wp2_with fail
  refine (ttake_any T1 2 k1 ok1 4 w3 hT3).mono ?_
  rw [by1, show takeR [97, 98, 99, 100, 101] 2 4 = ([], 120, 2) from by decide]
  rintro e w4 ⟨b, rfl, rfl, hT4, hg4⟩
  have hU4 := hU3.grown hT3.1 (by simp) hne (gl2 _) hg4
  have hb5 := below_grown hb4 hg4 hlo1 hb4.size
  clear hT3 hU3 hg4 hb4
  go_wp2_with fail
  refine (ttake_any T1 2 k1 ok1 3 w4 hT4).mono ?_
  rw [by1, show takeR [97, 98, 99, 100, 101] 2 3 = ([99, 100, 101], 0, 5) from by decide]
  rintro e w5 ⟨b, rfl, rfl, hT5, hg5⟩
  have hU5 := hU4.grown hT4.1 (by simp) hne (gl2 _) hg5
  have hb6 := below_grown hb5 hg5 hlo1 hb5.size
  clear hT4 hU4 hg5 hb5
  go_wp2_with fail
  refine (tnumber_any T2 0 k2 ok2 100 w5 hU5).mono ?_
  rw [by2, show numR [0, 1, 2] 0 100 = (58, 0, 3) from by decide]
  rintro e w6 ⟨rfl, hU6, hg6⟩
  have hT6 := hT5.grown hU5.1 (by simp) hne.symm (gl1 _) hg6
  have hb7 := below_grown hb6 hg6 hlo2 hb6.size
  clear hT5 hU5 hg6 hb6
  go_wp2_with fail
  refine (taken_at T1 5 k1 w6 hT6 5 rfl).mono ?_
  rintro e w6 ⟨rfl, rfl⟩
  go_wp2
  go_ret
  exact ⟨rfl, hb7⟩
end Go.Proofs.YtlkdofghhibmbaaDoor

/-
  word: the contracts of its functions.
-/
namespace Go.Proofs.YtlkdofghhibmbaaDoor
open Go.RowKit Go.Kx
set_option maxRecDepth 20000

def okW (x : Int) : Bool := decide (0 ≤ x) && decide (x ≤ 4294967295)
theorem okW_t {x : Int} (h0 : 0 ≤ x) (h1 : x ≤ 4294967295) : okW x = true := by simp [okW, h0, h1]
theorem okW_lo {x : Int} (h0 : x < 0) : okW x = false := by simp [okW]; omega
theorem okW_hi {x : Int} (h0 : 4294967295 < x) : okW x = false := by simp [okW]; omega
theorem all_bad {xs : List Int} {k : Nat} {x : Int} (h : xs[k]? = some x) (hb : okW x = false) : xs.all okW = false := by
  rw [List.all_eq_false]
  exact ⟨x, List.mem_of_getElem? h, by simp [hb]⟩
theorem all_snoc {xs : List Int} {k : Nat} {x : Int} (h : xs[k]? = some x) (ha : (xs.take k).all okW = true) (hb : okW x = true) : (xs.take (k + 1)).all okW = true := by
  rw [List.take_add_one, List.all_append, ha, h]
  simp [hb]

theorem is_any (A : Option Addr) (c : Nat) (xs : List Int) (w : World) (hm : xs.length ≤ 9223372036854775807) (hs : Sl w A (xs.map (.int .i64))) :
    Calls Tryd.prog 47 #[.slice A xs.length c] w fun e w' => e = .returned (.bool (xs.all okW)) ∧ w = w' := by
  go_enter Tryd.func47, Tryd.ntmps47
  go_wp2
  go_loop [4, 7] (fun _ i => ∃ k : Nat, k ≤ xs.length ∧ i = .int .i64 k ∧ (xs.take k).all okW = true) (fun _ i => xs.length - (intOf i).toNat)
  case atStart => exact ⟨0, Nat.zero_le _, rfl, rfl⟩
  case round =>
    obtain ⟨k, hk, rfl, ha⟩ := hrel
    by_cases hlt : k < xs.length
    · obtain ⟨b, off, u, rfl, hu, hcell⟩ := hs.at_ (k := k) (by simpa using hlt)
      obtain ⟨x, hx, rfl⟩ : ∃ x, xs[k]? = some x ∧ .int .i64 x = u := by simpa using hu
      have HB := Lib.hid (@all_bad xs k x hx)
      have HG := Lib.hid (all_snoc hx ha)
      clear ha hs hx hu
      by_cases h0 : x < 0
      · go_wp2
        go_ret
        exact ⟨ret_bool (HB.out (okW_lo h0)).symm, rfl⟩
      · by_cases h1 : 4294967295 < x
        · go_wp2
          go_ret
          exact ⟨ret_bool (HB.out (okW_hi h1)).symm, rfl⟩
        · go_wp2
          go_round
          case rel => exact ⟨k + 1, by omega, by go_num, HG.out (okW_t (by omega) (by omega))⟩
          case measure => simp [intOf]; omega
    · go_wp2
      go_ret
      exact ⟨ret_bool (by rw [List.take_of_length_le (by omega)] at ha; exact ha.symm), rfl⟩

theorem is_one (a : Int) (t : TypeId) (n : Nat) (w : World) (hn : n = w.heap.size) :
   Calls Tryd.prog 47 #[.slice (some ⟨n, 0, none⟩) 1 1] (w.alloc (.cells #[.int .i64 a] t)) fun e w' => e = .returned (.bool (okW a)) ∧ (w.alloc (.cells #[.int .i64 a] t)) = w' := by
  subst hn
  simpa using is_any (some ⟨w.heap.size, 0, none⟩) 1 [a] (w.alloc (.cells #[.int .i64 a] t)) (by simp) (Sl.new w t #[.int .i64 a])
theorem is_two (a b : Int) (t : TypeId) (n : Nat) (w : World) (hn : n = w.heap.size) :
   Calls Tryd.prog 47 #[.slice (some ⟨n, 0, none⟩) 2 2] (w.alloc (.cells #[.int .i64 a, .int .i64 b] t)) fun e w' => e = .returned (.bool (okW a && okW b)) ∧ (w.alloc (.cells #[.int .i64 a, .int .i64 b] t)) = w' := by
  subst hn
  simpa using is_any (some ⟨w.heap.size, 0, none⟩) 2 [a, b] (w.alloc (.cells #[.int .i64 a, .int .i64 b] t)) (by simp) (Sl.new w t #[.int .i64 a, .int .i64 b])

/-! ### Add -/
def addL (xs : List Nat) : Nat := xs.foldl (fun s x => (s + x) % 4294967296) 0
theorem addL_snoc (xs : List Nat) (x : Nat) : addL (xs ++ [x]) = (addL xs + x) % 4294967296 := by simp [addL, List.foldl_append]
theorem addL_lt (xs : List Nat) : addL xs < 4294967296 := by
  rcases List.eq_nil_or_concat xs with rfl | ⟨ys, y, rfl⟩
  · decide
  · rw [List.concat_eq_append, addL_snoc]; exact Nat.mod_lt _ (by omega)
theorem and_word (a : Nat) (ha : a < 9223372036854775808) : bits .and .i64 (a : Int) 4294967295 = ((a % 4294967296 : Nat) : Int) := by
  rw [show (4294967295 : Int) = ((4294967295 : Nat) : Int) from rfl, int_and ha (by omega), show (4294967295 : Nat) = 2 ^ 32 - 1 from rfl, Nat.and_two_pow_sub_one_eq_mod]
theorem all_ok (xs : List Nat) (h : ∀ x ∈ xs, x < 4294967296) : (xs.map (fun x : Nat => (x : Int))).all okW = true := by
  rw [List.all_eq_true]
  intro y hy
  obtain ⟨x, hx, rfl⟩ := List.mem_map.1 hy
  have := h x hx
  exact okW_t (by omega) (by omega)
def ints (xs : List Nat) : List Value := xs.map (fun x : Nat => Value.int .i64 (x : Int))
theorem ints_map (xs : List Nat) : (xs.map (fun x : Nat => (x : Int))).map (Value.int .i64) = ints xs := by simp [ints]
theorem is_nats (A : Option Addr) (c : Nat) (xs : List Nat) (w : World) (hm : xs.length ≤ 9223372036854775807) (hs : Sl w A (ints xs)) (hok : ∀ x ∈ xs, x < 4294967296) :
    Calls Tryd.prog 47 #[.slice A xs.length c] w fun e w' => e = .returned (.bool true) ∧ w = w' := by
  have h := is_any A c (xs.map (fun x : Nat => (x : Int))) w (by simpa using hm) (by rw [ints_map]; exact hs)
  rw [all_ok xs hok] at h
  simpa using h
theorem add_any (A : Option Addr) (c : Nat) (xs : List Nat) (w : World) (hm : xs.length ≤ 9223372036854775807) (hs : Sl w A (ints xs)) (hok : ∀ x ∈ xs, x < 4294967296) :
    Calls Tryd.prog 50 #[.slice A xs.length c] w fun e w' => e = .returned (.tuple #[.int .i64 (addL xs), .bool true]) ∧ w = w' := by
  have HOK := Lib.hid hok
  clear hok
  go_enter Tryd.func50, Tryd.ntmps50
  go_wp2_with (go_at_call 47; refine (is_nats A c xs _ hm hs HOK.out).mono ?_; rintro e w' ⟨rfl, rfl⟩)
  go_loop [4, 6, 12] (fun s _ i => ∃ k : Nat, k ≤ xs.length ∧ i = .int .i64 k ∧ s = .int .i64 (addL (xs.take k))) (fun _ _ i => xs.length - (intOf i).toNat)
  case atStart => exact ⟨0, Nat.zero_le _, rfl, rfl⟩
  case round =>
    obtain ⟨k, hk, rfl, rfl⟩ := hrel
    by_cases hlt : k < xs.length
    · obtain ⟨b, off, u, rfl, hu, hcell⟩ := hs.at_ (k := k) (by simpa [ints] using hlt)
      obtain ⟨x, hx, rfl⟩ : ∃ x, xs[k]? = some x ∧ .int .i64 (x : Int) = u := by simpa [ints] using hu
      have hx2 : x < 4294967296 := HOK.out x (List.mem_of_getElem? hx)
      have hst : addL (xs.take (k + 1)) = (addL (xs.take k) + x) % 4294967296 := by rw [List.take_add_one, hx]; exact addL_snoc _ _
      have hlt2 := addL_lt (xs.take k)
      have HST := Lib.hid hst
      clear hs hu hx hst
      generalize addL (xs.take k) = a at *
      have hand : bits .and .i64 ((a : Int) + (x : Int)) 4294967295 = (((a + x) % 4294967296 : Nat) : Int) := by rw [← and_word (a + x) (by omega)]; push_cast; rfl
      go_wp2
      go_round
      case rel => exact ⟨k + 1, by omega, by go_num, by rw [HST.out]; first | rfl | (rw [Int.natCast_emod, Int.natCast_add]; rfl)⟩
      case measure => simp [intOf]; omega
    · obtain rfl : k = xs.length := by omega
      go_wp2
      go_ret2
      exact ⟨ret_int_bool (by first | rfl | rw [List.take_length]) rfl, rfl⟩

/-! ### Rot -/
def rotN (x n : Nat) : Nat := (x * 2 ^ n) % 4294967296 + x / 2 ^ (32 - n)
theorem rot_or (x s : Nat) (hx : x < 4294967296) (hs : s < 32) : (x * 2 ^ s % 4294967296) ||| (x / 2 ^ (32 - s)) = rotN x s := by
  have hp : 2 ^ s * 2 ^ (32 - s) = 4294967296 := by rw [← Nat.pow_add, show s + (32 - s) = 32 from by omega]
  have h1 : x * 2 ^ s % 4294967296 % 2 ^ s = 0 := by
    rw [← hp, Nat.mod_mul_right_mod]; exact Nat.mul_mod_left _ _
  have h2 : x / 2 ^ (32 - s) < 2 ^ s := by
    rw [Nat.div_lt_iff_lt_mul (Nat.two_pow_pos _), hp]; exact hx
  exact nat_join s _ _ h1 h2
theorem rotN_lt (x n : Nat) (hx : x < 4294967296) (hn : n ≤ 32) : rotN x n < 4294967296 := by
  rcases Nat.eq_or_lt_of_le hn with rfl | hn
  · show x * 4294967296 % 4294967296 + x / 1 < _; omega
  · rw [← rot_or x n hx hn]
    have h2 : x / 2 ^ (32 - n) ≤ x := Nat.div_le_self _ _
    exact Nat.or_lt_two_pow (n := 32) (Nat.mod_lt _ (by omega)) (by omega)
theorem rotN_32 (x : Nat) : rotN x 32 = x := by show x * 4294967296 % 4294967296 + x / 1 = x; omega
theorem rotN_mod (x n : Nat) (hx : x < 4294967296) (hn : n ≤ 32) : rotN x (n % 32) = rotN x n := by
  rcases Nat.eq_or_lt_of_le hn with rfl | hn
  · rw [rotN_32]; show x * 1 % 4294967296 + x / 4294967296 = x; omega
  · rw [Nat.mod_eq_of_lt hn]
theorem rotN_back (x n : Nat) (hx : x < 4294967296) (hn : n ≤ 32) : rotN (rotN x n) (32 - n) = x := by
  have hp : 2 ^ n * 2 ^ (32 - n) = 4294967296 := by rw [← Nat.pow_add, show n + (32 - n) = 32 from by omega]
  have hq : x / 2 ^ (32 - n) < 2 ^ n := by rw [Nat.div_lt_iff_lt_mul (Nat.two_pow_pos _), hp]; exact hx
  have hdm := Nat.div_add_mod x (2 ^ (32 - n))
  have hr : x % 2 ^ (32 - n) < 2 ^ (32 - n) := Nat.mod_lt _ (Nat.two_pow_pos _)
  have hA : 0 < 2 ^ n := Nat.two_pow_pos _
  unfold rotN
  rw [show 32 - (32 - n) = n from by omega]
  generalize 2 ^ n = A at *
  generalize 2 ^ (32 - n) = B at *
  generalize x / B = q at *
  generalize x % B = r at *
  subst hdm
  have e1 : (B * q + r) * A % 4294967296 = r * A := by
    have : (B * q + r) * A = r * A + 4294967296 * q := by rw [← hp, Nat.add_mul]; ac_rfl
    rw [this, Nat.add_mul_mod_self_left]
    apply Nat.mod_eq_of_lt
    rw [← hp, Nat.mul_comm A B]
    exact Nat.mul_lt_mul_of_pos_right hr hA
  rw [e1]
  have e2 : (r * A + q) * B % 4294967296 = q * B := by
    have : (r * A + q) * B = q * B + 4294967296 * r := by rw [← hp, Nat.add_mul]; ac_rfl
    rw [this, Nat.add_mul_mod_self_left]
    apply Nat.mod_eq_of_lt
    rw [← hp]
    exact Nat.mul_lt_mul_of_pos_right hq (by omega)
  have e3 : (r * A + q) / A = r := by
    rw [Nat.mul_comm r A, Nat.mul_add_div hA, Nat.div_eq_of_lt hq]; rfl
  rw [e2, e3, Nat.mul_comm q B]
theorem u64_and_31 (n : Nat) (h : n < 18446744073709551616) : bits .and .u64 (n : Int) 31 = ((n % 32 : Nat) : Int) := by
  rw [show (31 : Int) = ((31 : Nat) : Int) from rfl, u64_and_nat n 31 h (by omega), nat_mask5]
theorem rotl_any (x n : Nat) (hx : x < 4294967296) (hn : n ≤ 32) (w : World) :
   Calls Tryd.prog 83 #[.int .u32 x, .int .i64 n] w fun e w' => e = .returned (.int .u32 (rotN x n : Nat)) ∧ w = w' := by
  have HM := Lib.hid (rotN_mod x n hx hn)
  have h1 := u64_and_31 n (by omega)
  have h2 : n % 32 < 32 := Nat.mod_lt _ (by omega)
  generalize n % 32 = s at *
  go_enter Tryd.func83, Tryd.ntmps83
  go_wp2
  go_ret
  refine ⟨ret_int ?_, rfl⟩
  have e1 : ((x : Int) * 2 ^ s % 4294967296) = ((x * 2 ^ s % 4294967296 : Nat) : Int) := by rw [Int.natCast_emod, Int.natCast_mul, Int.natCast_pow]; rfl
  have e2 : ((x : Int) / 2 ^ (32 - s)) = ((x / 2 ^ (32 - s) : Nat) : Int) := by rw [Int.natCast_ediv, Int.natCast_pow]; rfl
  rw [e1, e2, u32_or_nat _ _ (Nat.mod_lt _ (by omega)) (Nat.lt_of_le_of_lt (Nat.div_le_self _ _) hx), rot_or x s hx h2, HM.out]
/-! ### Cut -/
theorem below_any (h : Bool) (w : World) :
   Calls Tryd.prog 54 #[.bool h] w fun e w' => e = .returned (.func (.func 72) #[] #[.pointer (some ⟨w.heap.size, 0, none⟩)]) ∧ w.alloc (.cells #[.bool h] 4) = w' := by
  go_enter Tryd.func54, Tryd.ntmps54
  go_wp2
  go_ret
  exact ⟨rfl, rfl⟩

def shB (h : Bool) (m : Int) : Int := if h then 8 * (3 - m) else 8 * m
def shN (h : Bool) (m : Nat) : Nat := if h then 8 * (3 - m) else 8 * m
theorem shN_le (h : Bool) (m : Nat) (hm : m < 4) : shN h m ≤ 24 := by
  cases h <;> simp [shN] <;> omega
theorem shB_eq (h : Bool) (m : Nat) (hm : m < 4) : shB h (m : Int) = (shN h m : Int) := by
  cases h <;> simp [shB, shN] <;> omega
theorem below1 (h : Bool) (a : Addr) (i : Int) (h0 : 0 ≤ i) (h1 : i ≤ 3) (w : World) (hc : w.cell? a = some (.bool h)) :
   Calls Tryd.prog 72 #[.int .i64 i, .pointer (some a)] w fun e w' => e = .returned (.int .u64 (shB h i)) ∧ w' = w := by
  cases h
  · go_enter Tryd.func72, Tryd.ntmps72
    go_wp2
    go_ret
    exact ⟨rfl, rfl⟩
  · go_enter Tryd.func72, Tryd.ntmps72
    go_wp2
    go_ret
    exact ⟨rfl, rfl⟩

def wd (h : Bool) (a b c d : Nat) : Nat := if h then a * 16777216 + b * 65536 + c * 256 + d else d * 16777216 + c * 65536 + b * 256 + a
def byteAt (s : ByteArray) (k i : Nat) : Nat := if i < k then (s.data.toList.getD i 0).toNat else 0
theorem or_top (x y i : Nat) (hx : x < 2 ^ i) : x ||| y * 2 ^ i = x + y * 2 ^ i := by
  rw [Nat.or_comm, nat_join i (y * 2 ^ i) x (Nat.mul_mod_left _ _) hx]; omega
theorem or_low (x y z i j : Nat) (hx : x = z * 2 ^ j) (hy : y * 2 ^ i < 2 ^ j) : x ||| y * 2 ^ i = x + y * 2 ^ i := by
  subst hx; exact nat_join j _ _ (Nat.mul_mod_left _ _) hy
theorem wd0 (h : Bool) (b : Nat) : wd h 0 0 0 0 ||| b * 2 ^ shN h 0 = wd h b 0 0 0 := by
  cases h <;> simp [wd, shN]
theorem wd1 (h : Bool) (a b : Nat) (ha : a < 256) (hb : b < 256) : wd h a 0 0 0 ||| b * 2 ^ shN h 1 = wd h a b 0 0 := by
  cases h
  · show 0 * 16777216 + 0 * 65536 + 0 * 256 + a ||| b * 2 ^ 8 = 0 * 16777216 + 0 * 65536 + b * 256 + a
    rw [or_top _ _ _ (by omega)]; omega
  · show a * 16777216 + 0 * 65536 + 0 * 256 + 0 ||| b * 2 ^ 16 = a * 16777216 + b * 65536 + 0 * 256 + 0
    rw [or_low _ _ a 16 24 (by omega) (by omega)]; omega
theorem wd2 (h : Bool) (a a1 b : Nat) (ha : a < 256) (h1 : a1 < 256) (hb : b < 256) : wd h a a1 0 0 ||| b * 2 ^ shN h 2 = wd h a a1 b 0 := by
  cases h
  · show 0 * 16777216 + 0 * 65536 + a1 * 256 + a ||| b * 2 ^ 16 = 0 * 16777216 + b * 65536 + a1 * 256 + a
    rw [or_top _ _ _ (by omega)]; omega
  · show a * 16777216 + a1 * 65536 + 0 * 256 + 0 ||| b * 2 ^ 8 = a * 16777216 + a1 * 65536 + b * 256 + 0
    rw [or_low _ _ (a * 256 + a1) 8 16 (by omega) (by omega)]; omega
theorem wd3 (h : Bool) (a a1 a2 b : Nat) (ha : a < 256) (h1 : a1 < 256) (h2 : a2 < 256) (hb : b < 256) : wd h a a1 a2 0 ||| b * 2 ^ shN h 3 = wd h a a1 a2 b := by
  cases h
  · show 0 * 16777216 + a2 * 65536 + a1 * 256 + a ||| b * 2 ^ 24 = b * 16777216 + a2 * 65536 + a1 * 256 + a
    rw [or_top _ _ _ (by omega)]; omega
  · show a * 16777216 + a1 * 65536 + a2 * 256 + 0 ||| b * 2 ^ 0 = a * 16777216 + a1 * 65536 + a2 * 256 + b
    rw [or_low _ _ (a * 65536 + a1 * 256 + a2) 0 8 (by omega) (by omega)]; omega
theorem wrap_shl (b sh : Nat) (hb : b < 256) (hs : sh ≤ 24) : IntKind.i64.wrap ((b : Int) * 2 ^ sh) = ((b * 2 ^ sh : Nat) : Int) := by
  have h1 : (2 : Nat) ^ sh ≤ 2 ^ 24 := Nat.pow_le_pow_right (by omega) hs
  have h2 : b * 2 ^ sh ≤ 255 * 2 ^ 24 := Nat.mul_le_mul (by omega) h1
  have h3 : ((b : Int) * 2 ^ sh) = ((b * 2 ^ sh : Nat) : Int) := by push_cast; rfl
  rw [h3]
  exact IntWalk.i64_in _ (by omega)
theorem byteAt_lt (s : ByteArray) (k i : Nat) : byteAt s k i < 256 := by
  unfold byteAt; split
  · exact UInt8.toNat_lt _
  · omega
theorem byteAt_at (s : ByteArray) (k : Nat) (h : k < s.size) : byteAt s (k + 1) k = s[k].toNat := by
  unfold byteAt
  rw [if_pos (by omega), List.getD_eq_getElem?_getD, List.getElem?_eq_getElem (by simpa using h)]; rfl
theorem byteAt_at0 (s : ByteArray) (k i : Nat) (h : k ≤ i) : byteAt s k i = 0 := by
  unfold byteAt; rw [if_neg (by omega)]
theorem byteAt_ne (s : ByteArray) (k i : Nat) (h : i ≠ k) : byteAt s (k + 1) i = byteAt s k i := by
  unfold byteAt
  by_cases hi : i < k
  · rw [if_pos hi, if_pos (by omega)]
  · rw [if_neg hi, if_neg (by omega)]
def cutRow (h : Bool) (s : ByteArray) (k j : Nat) : Nat := wd h (byteAt s k (4 * j)) (byteAt s k (4 * j + 1)) (byteAt s k (4 * j + 2)) (byteAt s k (4 * j + 3))

theorem wd_lt (h : Bool) (a b c d : Nat) (ha : a < 256) (hb : b < 256) (hc : c < 256) (hd : d < 256) : wd h a b c d < 4294967296 := by
  unfold wd; split <;> omega
theorem cutRow_lt (h : Bool) (s : ByteArray) (k j : Nat) : cutRow h s k j < 4294967296 := wd_lt h _ _ _ _ (byteAt_lt _ _ _) (byteAt_lt _ _ _) (byteAt_lt _ _ _) (byteAt_lt _ _ _)
theorem cutRow_ne (h : Bool) (s : ByteArray) (k j : Nat) (hj : j ≠ k / 4) : cutRow h s (k + 1) j = cutRow h s k j := by
  unfold cutRow
  rw [byteAt_ne _ _ _ (by omega), byteAt_ne _ _ _ (by omega), byteAt_ne _ _ _ (by omega), byteAt_ne _ _ _ (by omega)]
theorem cutRow_at (h : Bool) (s : ByteArray) (k : Nat) (hk : k < s.size) : cutRow h s k (k / 4) ||| s[k].toNat * 2 ^ (shN h (k % 4)) = cutRow h s (k + 1) (k / 4) := by
  obtain ⟨j, m, hm, hkj⟩ : ∃ j m, m < 4 ∧ k = 4 * j + m := ⟨k / 4, k % 4, by omega, by omega⟩
  have e1 : k / 4 = j := by omega
  have e2 : k % 4 = m := by omega
  have hl := byteAt_at s k hk
  have hb : s[k].toNat < 256 := UInt8.toNat_lt _
  rw [e1, e2]
  generalize s[k].toNat = b at hl hb ⊢
  unfold cutRow
  have l0 := byteAt_lt s k (4 * j)
  have l1 := byteAt_lt s k (4 * j + 1)
  have l2 := byteAt_lt s k (4 * j + 2)
  rcases (by omega : m = 0 ∨ m = 1 ∨ m = 2 ∨ m = 3) with rfl | rfl | rfl | rfl
  · have hk0 : 4 * j = k := by omega
    rw [hk0, hl, byteAt_ne _ _ (k + 1) (by omega), byteAt_ne _ _ (k + 2) (by omega), byteAt_ne _ _ (k + 3) (by omega), byteAt_at0 s _ k (by omega), byteAt_at0 s _ (k + 1) (by omega), byteAt_at0 s _ (k + 2) (by omega), byteAt_at0 s _ (k + 3) (by omega)]
    exact wd0 h b
  · have hk0 : 4 * j + 1 = k := by omega
    rw [hk0, hl, byteAt_ne _ _ (4 * j) (by omega), byteAt_ne _ _ (4 * j + 2) (by omega), byteAt_ne _ _ (4 * j + 3) (by omega), byteAt_at0 s _ k (by omega), byteAt_at0 s _ (4 * j + 2) (by omega), byteAt_at0 s _ (4 * j + 3) (by omega)]
    exact wd1 h _ b l0 hb
  · have hk0 : 4 * j + 2 = k := by omega
    rw [hk0, hl, byteAt_ne _ _ (4 * j) (by omega), byteAt_ne _ _ (4 * j + 1) (by omega), byteAt_ne _ _ (4 * j + 3) (by omega), byteAt_at0 s _ k (by omega), byteAt_at0 s _ (4 * j + 3) (by omega)]
    exact wd2 h _ _ b l0 l1 hb
  · have hk0 : 4 * j + 3 = k := by omega
    rw [hk0, hl, byteAt_ne _ _ (4 * j) (by omega), byteAt_ne _ _ (4 * j + 1) (by omega), byteAt_ne _ _ (4 * j + 2) (by omega), byteAt_at0 s _ k (by omega)]
    exact wd3 h _ _ _ b l0 l1 l2 hb
set_option maxHeartbeats 4000000 in
theorem cut_any (s : ByteArray) (h : Bool) (w : World) (hs : s.size ≤ 1000000) (h4 : s.size % 4 = 0) :
   Calls Tryd.prog 48 #[.string s, .bool h] w fun e w' => ∃ b, e = .returned (.tuple #[.slice (some ⟨b, 0, none⟩) (s.size / 4) (s.size / 4), .bool true]) ∧ b = w.heap.size + 1 ∧
     w'.rowIs b 3 (s.size / 4) (fun j => .int .i64 (cutRow h s s.size j)) ∧ Below w.heap.size w w' := by
  have hmk0 := run_make_row' (P := Tryd.prog) 71 3 (.int .i64 0) 8 Tryd.underlying71 int_info rfl .i64 .i64 (s.size / 4) (by omega) (by omega)
  have hq : ((s.size / 4 : Nat) : Int) = (s.size : Int) / 4 := by omega
  rw [hq] at hmk0
  have hmk : ∀ W : World, (Instr.makeSlice 71 (.int .i64 ((s.size : Int) / 4)) (.int .i64 ((s.size : Int) / 4))).run Tryd.prog W = .ok (.slice (some ⟨W.heap.size, 0, none⟩) (s.size / 4) (s.size / 4)) (W.alloc (.cells (madeCells #[.int .i64 0] (s.size / 4)) 3)) := hmk0
  clear hq hmk0
  have he : ((s.size : Int) % 4 != 0) = false := by simp; omega
  go_enter Tryd.func48, Tryd.ntmps48
  go_wp2_with (go_at_call 54; refine (below_any h _).mono ?_; rintro e w' ⟨rfl, rfl⟩)
  go_loopw [8, 21] (fun _ i wr => ∃ k : Nat, k ≤ s.size ∧ i = .int .i64 k ∧ wr.cell? ⟨w.heap.size, 0, none⟩ = some (.bool h) ∧ w.heap.size + 1 < wr.heap.size ∧
      wr.rowIs (w.heap.size + 1) 3 (s.size / 4) (fun j => .int .i64 (cutRow h s k j)) ∧ Below w.heap.size w wr) (fun _ i _ => s.size - (intOf i).toNat)
  case atStart =>
    refine ⟨0, Nat.zero_le _, rfl, by go_simp, by simp, ?_, ((Below.refl _ _).alloc (Nat.le_refl _) _).alloc (by simp) _⟩
    have hr := (World.rowIs_made (w.alloc (.cells #[.bool h] 4)) (.int .i64 0) (s.size / 4) 3).congr (g := fun j => .int .i64 (cutRow h s 0 j)) (fun j _ => by simp [cutRow, byteAt, wd])
    simpa using hr
  case round =>
    obtain ⟨k, hk, rfl, hcell, hsz, hrow, hb⟩ := hrel
    by_cases hlt : k < s.size
    · have hload := hrow.cell (i := k / 4) (by omega)
      have hfz := hrow.frozen (k / 4)
      have hw1 : IntKind.i64.wrap ((k : Int) / 4) = (k : Int) / 4 := IntWalk.i64_in _ (by omega)
      have hn1 : ((k : Int) / 4).toNat = k / 4 := by omega
      have hp1 : (0 : Int) ≤ (k : Int) / 4 := by omega
      have hp2 : (k : Int) / 4 < (s.size : Int) / 4 := by omega
      have hby : s[k].toNat < 256 := UInt8.toNat_lt _
      have hbw : IntKind.i64.wrap ((s[k].toNat : Nat) : Int) = ((s[k].toNat : Nat) : Int) := IntWalk.i64_in _ (by omega)
      have hmod : (k : Int).tmod 4 = ((k % 4 : Nat) : Int) := by rw [Int.tmod_eq_emod_of_nonneg (by omega)]; omega
      obtain ⟨sh, hsh, hsh24, hshB⟩ : ∃ sh : Nat, sh = shN h (k % 4) ∧ sh ≤ 24 ∧ shB h ((k : Int) % 4) = (sh : Int) := ⟨_, rfl, shN_le _ _ (by omega), by rw [← shB_eq h (k % 4) (by omega)]; congr 1⟩
      have hsw : IntKind.i64.wrap ((s[k].toNat : Int) * 2 ^ sh) = ((s[k].toNat * 2 ^ sh : Nat) : Int) := wrap_shl _ sh (by omega) hsh24
      have HSH := Lib.hid hsh
      clear hsh
      go_wp2
      refine wp_region_still_tail 16 (by kernel_rfl) (by kernel_rfl) ?_
      simp only [List.take_succ_cons, List.take_zero, List.drop_succ_cons, List.drop_zero]
      repeat still_step
      still_call (below1 _ _ _ (by omega) (by omega) _ (by assumption))
      rw [hshB]
      clear hshB
      repeat still_step
      refine wpStill_nil ?_
      have hrow2 := hrow.drew
      have hb2 := hb.drew
      have hcell2 : wr.drew.cell? ⟨w.heap.size, 0, none⟩ = some (.bool h) := hcell
      have hsz2 : w.heap.size + 1 < wr.drew.heap.size := hsz
      have hload2 : wr.drew.cell? ⟨w.heap.size + 1, k / 4, none⟩ = _ := hload
      have hfz2 : wr.drew.frozen? ⟨w.heap.size + 1, k / 4, none⟩ = _ := hfz
      change wpList _ _ _ _ _ wr.drew
      clear hrow hb hcell hsz hload hfz
      generalize wr.drew = w2 at *
      go_wp2
      go_roundw
      case rel =>
        have hbit : bits .or .i64 ((cutRow h s k (k / 4) : Nat) : Int) ((s[k].toNat : Int) * 2 ^ sh) = ((cutRow h s (k + 1) (k / 4) : Nat) : Int) := by
          have hlt1 := cutRow_lt h s k (k / 4)
          have e : ((s[k].toNat : Int) * 2 ^ sh) = ((s[k].toNat * 2 ^ sh : Nat) : Int) := by push_cast; rfl
          have h1 : (2 : Nat) ^ sh ≤ 2 ^ 24 := Nat.pow_le_pow_right (by omega) hsh24
          have h2 : s[k].toNat * 2 ^ sh ≤ 255 * 2 ^ 24 := Nat.mul_le_mul (by omega) h1
          rw [e, int_or (by omega) (by omega), HSH.out, cutRow_at h s k hlt]
        refine ⟨k + 1, by omega, by go_num, ?_, by simpa using hsz2, ?_, hb2.setCell (p := ⟨w.heap.size + 1, k / 4, none⟩) (by simp) _⟩
        · rw [World.cell?_setCell_other _ _ _ _ (by simp)]; exact hcell2
        · refine (hrow2.set (k / 4) _).congr fun j _ => ?_
          by_cases hj : j = k / 4
          · rw [if_pos hj, hbit, hj]
          · rw [if_neg hj, cutRow_ne h s k j hj]
      case measure => simp [intOf]; omega
    · obtain rfl : k = s.size := by omega
      go_wp2
      go_ret2
      exact ⟨_, rfl, rfl, hrow, hb⟩

/-! ### what Cut tells, as a list -/
theorem Sl_of_row {w : World} {b : Nat} {t : TypeId} {n : Nat} {f : Nat → Value} (h : w.rowIs b t n f) : Sl w (some ⟨b, 0, none⟩) ((List.range n).map f) := by
  refine .inr ⟨b, 0, rfl, h.lt, fun j u hu => ?_⟩
  rw [List.getElem?_map] at hu
  obtain ⟨i, hi, rfl⟩ := Option.map_eq_some_iff.1 hu
  obtain ⟨hj, rfl⟩ := List.getElem?_eq_some_iff.1 hi
  rw [Nat.zero_add]
  simpa using h.cell (i := j) (by simpa using hj)
def cutL (h : Bool) (s : ByteArray) : List Nat := (List.range (s.size / 4)).map (cutRow h s s.size)
theorem cutL_length (h : Bool) (s : ByteArray) : (cutL h s).length = s.size / 4 := by simp [cutL]
theorem cutL_lt (h : Bool) (s : ByteArray) : ∀ x ∈ cutL h s, x < 4294967296 := by
  intro x hx
  obtain ⟨j, _, rfl⟩ := List.mem_map.1 hx
  exact cutRow_lt _ _ _ _
theorem cut_new (s : ByteArray) (h : Bool) (w : World) (hs : s.size ≤ 1000000) (h4 : s.size % 4 = 0) :
   Calls Tryd.prog 48 #[.string s, .bool h] w fun e w' => ∃ b, e = .returned (.tuple #[.slice (some ⟨b, 0, none⟩) (cutL h s).length (cutL h s).length, .bool true]) ∧
     w.heap.size ≤ b ∧ Sl w' (some ⟨b, 0, none⟩) (ints (cutL h s)) ∧ Below w.heap.size w w' := by
  refine (cut_any s h w hs h4).mono ?_
  rintro e w' ⟨b, rfl, rfl, hr, hb⟩
  refine ⟨_, by rw [cutL_length], by omega, ?_, hb⟩
  have := Sl_of_row hr
  unfold ints cutL
  rw [List.map_map]
  exact this
theorem cut_list (s : ByteArray) (h : Bool) (w : World) (hs : s.size ≤ 1000000) (h4 : s.size % 4 = 0) :
   Calls Tryd.prog 48 #[.string s, .bool h] w fun e w' => ∃ b, e = .returned (.tuple #[.slice (some ⟨b, 0, none⟩) (cutL h s).length (cutL h s).length, .bool true]) ∧
     Sl w' (some ⟨b, 0, none⟩) (ints (cutL h s)) ∧ Below w.heap.size w w' :=
  (cut_new s h w hs h4).mono fun _ _ ⟨b, he, _, h1, h2⟩ => ⟨b, he, h1, h2⟩
theorem cut_none (s : ByteArray) (h : Bool) (w : World) (hs : s.size ≤ 9223372036854775807) (h4 : s.size % 4 ≠ 0) :
   Calls Tryd.prog 48 #[.string s, .bool h] w fun e w' => e = .returned (.tuple #[.slice none 0 0, .bool false]) ∧ w = w' := by
  have he : ((s.size : Int) % 4 != 0) = true := by simp; omega
  clear h4
  go_enter Tryd.func48, Tryd.ntmps48
  go_wp2
  go_ret2
  exact ⟨rfl, rfl⟩
end Go.Proofs.YtlkdofghhibmbaaDoor

/-
  A row of ints as one array (any program).
-/
namespace Go.Proofs.YtlkdofghhibmbaaDoor
open Go.RowKit Go.Kx

def rowA (k : IntKind) (n : Nat) (f : Nat → Nat) : Array Value := ((List.range n).map fun j => Value.int k (f j : Nat)).toArray
theorem rowA_size (k : IntKind) (n : Nat) (f : Nat → Nat) : (rowA k n f).size = n := by simp [rowA]
theorem rowA_at (k : IntKind) (n : Nat) (f : Nat → Nat) (j : Nat) (h : j < n) : (rowA k n f)[j]? = some (.int k (f j : Nat)) := by simp [rowA, h]
end Go.Proofs.YtlkdofghhibmbaaDoor

/-
  digest, as plain mathematics over numbers and lists of bytes: what stands behind a text, one step, a sum.
-/
namespace Go.Proofs.YtlkdofghhibmbaaDoor
open Go.RowKit Go.Kx

structure St where
  a : Nat
  b : Nat
  c : Nat
  d : Nat
  e : Nat
  f : Nat
  g : Nat
  h : Nat
deriving DecidableEq
def St.l (s : St) : List Nat := [s.a, s.b, s.c, s.d, s.e, s.f, s.g, s.h]
def St.ok (s : St) : Prop := s.a < 4294967296 ∧ s.b < 4294967296 ∧ s.c < 4294967296 ∧ s.d < 4294967296 ∧ s.e < 4294967296 ∧ s.f < 4294967296 ∧ s.g < 4294967296 ∧ s.h < 4294967296
def St.v (s : St) : Value := .agg #[.int .i64 s.a, .int .i64 s.b, .int .i64 s.c, .int .i64 s.d, .int .i64 s.e, .int .i64 s.f, .int .i64 s.g, .int .i64 s.h]
def St.at (s : St) (j : Nat) : Nat := s.l.getD j 0
theorem St.v_row (s : St) : s.v = .agg (rowA .i64 8 s.at) := rfl
def St.u (s : St) : Value := .agg #[.int .u32 s.a, .int .u32 s.b, .int .u32 s.c, .int .u32 s.d, .int .u32 s.e, .int .u32 s.f, .int .u32 s.g, .int .u32 s.h]

def bk (x n : Nat) : Nat := rotN x (32 - n)
def sg0 (p : Nat) : Nat := (bk p 7 ^^^ bk p 18) ^^^ p / 8
def sg1 (q : Nat) : Nat := (bk q 17 ^^^ bk q 19) ^^^ q / 1024
def nextW (w : List Nat) : Nat :=
  (w.getD (w.length - 16) 0 + sg0 (w.getD (w.length - 15) 0) + w.getD (w.length - 7) 0 + sg1 (w.getD (w.length - 2) 0)) % 4294967296
def grow (f : List Nat → Nat) : Nat → List Nat → List Nat
  | 0, w => w
  | n + 1, w => grow f n (w ++ [f w])
def sched (n : Nat) (w : List Nat) : List Nat := grow nextW n w

def shaK : List Nat := [1116352408, 1899447441, 3049323471, 3921009573, 961987163, 1508970993, 2453635748, 2870763221, 3624381080, 310598401, 607225278, 1426881987, 1925078388, 2162078206, 2614888103, 3248222580, 3835390401, 4022224774, 264347078, 604807628, 770255983, 1249150122, 1555081692, 1996064986, 2554220882, 2821834349, 2952996808, 3210313671, 3336571891, 3584528711, 113926993, 338241895, 666307205, 773529912, 1294757372, 1396182291, 1695183700, 1986661051, 2177026350, 2456956037, 2730485921, 2820302411, 3259730800, 3345764771, 3516065817, 3600352804, 4094571909, 275423344, 430227734, 506948616, 659060556, 883997877, 958139571, 1322822218, 1537002063, 1747873779, 1955562222, 2024104815, 2227730452, 2361852424, 2428436474, 2756734187, 3204031479, 3329325298]

def chA (s : St) : Nat := (s.e &&& s.f) ^^^ ((4294967295 - s.e) &&& s.g)
def mjA (s : St) : Nat := ((s.a &&& s.b) ^^^ (s.a &&& s.c)) ^^^ (s.b &&& s.c)
def bs1 (x : Nat) : Nat := (bk x 6 ^^^ bk x 11) ^^^ bk x 25
def bs0 (x : Nat) : Nat := (bk x 2 ^^^ bk x 13) ^^^ bk x 22
def uA (s : St) (k w : Nat) : Nat := (s.h + bs1 s.e + chA s + k + w) % 4294967296
def vA (s : St) : Nat := (bs0 s.a + mjA s) % 4294967296
def rnd (s : St) (k w : Nat) : St := ⟨(uA s k w + vA s) % 4294967296, s.a, s.b, s.c, (s.d + uA s k w) % 4294967296, s.e, s.f, s.g⟩
def mixN (W : Nat → Nat) (s : St) : Nat → St
  | 0 => s
  | i + 1 => rnd (mixN W s i) (shaK.getD i 0) (W i)
def St.add (s t : St) : St := ⟨(s.a + t.a) % 4294967296, (s.b + t.b) % 4294967296, (s.c + t.c) % 4294967296, (s.d + t.d) % 4294967296, (s.e + t.e) % 4294967296, (s.f + t.f) % 4294967296, (s.g + t.g) % 4294967296, (s.h + t.h) % 4294967296⟩
def blkW (blk : List UInt8) : List Nat := sched 48 (cutL true ⟨blk.toArray⟩)
def stepL (s : St) (blk : List UInt8) : St := s.add (mixN (fun j => (blkW blk).getD j 0) s 64)
def stZ : St := ⟨0, 0, 0, 0, 0, 0, 0, 0⟩
def st0 : St := ⟨1779033703, 3144134277, 1013904242, 2773480762, 1359893119, 2600822924, 528734635, 1541459225⟩

def joinL (h : Bool) (l : List Nat) : List UInt8 := (List.range (4 * l.length)).map fun i => UInt8.ofNat (l.getD (i / 4) 0 / 2 ^ shN h (i % 4))
def padL (n : Nat) : List UInt8 := 128 :: (List.replicate ((64 - (n + 9) % 64) % 64) 0 ++ joinL true [8 * n / 4294967296, 8 * n % 4294967296])
def chunkAt (l : List UInt8) (k : Nat) : List UInt8 := (l.drop (64 * k)).take 64
def chunks (l : List UInt8) : List (List UInt8) := (List.range (l.length / 64)).map (chunkAt l)
def sumL (s : List UInt8) : List UInt8 := joinL true ((chunks (s ++ padL s.length)).foldl stepL st0).l

def hexD : List UInt8 := [48, 49, 50, 51, 52, 53, 54, 55, 56, 57, 97, 98, 99, 100, 101, 102]
def hexL (s : List UInt8) : List UInt8 := s.flatMap fun c => [hexD.getD (c.toNat / 16) 0, hexD.getD (c.toNat % 16) 0]

/-! ### the schedule -/
theorem bk_lt (x n : Nat) (hx : x < 4294967296) : bk x n < 4294967296 := rotN_lt x (32 - n) hx (by omega)
theorem xor_lt {a b : Nat} (ha : a < 4294967296) (hb : b < 4294967296) : a ^^^ b < 4294967296 := Nat.xor_lt_two_pow (n := 32) ha hb
theorem and_lt {a b : Nat} (hb : b < 4294967296) : a &&& b < 4294967296 := Nat.and_lt_two_pow (n := 32) a hb
theorem sg0_lt (p : Nat) (h : p < 4294967296) : sg0 p < 4294967296 := xor_lt (xor_lt (bk_lt _ _ h) (bk_lt _ _ h)) (by omega)
theorem sg1_lt (p : Nat) (h : p < 4294967296) : sg1 p < 4294967296 := xor_lt (xor_lt (bk_lt _ _ h) (bk_lt _ _ h)) (by omega)
theorem getD_app (w v : List Nat) (j : Nat) (h : j < w.length) : (w ++ v).getD j 0 = w.getD j 0 := by
  simp only [List.getD_eq_getElem?_getD]; rw [List.getElem?_append_left h]
section
variable (f : List Nat → Nat)
theorem grow_length (n : Nat) : ∀ w : List Nat, (grow f n w).length = w.length + n := by
  induction n with
  | zero => intro w; rfl
  | succ n ih => intro w; rw [grow, ih]; simp; omega
theorem grow_old (n : Nat) : ∀ (w : List Nat) (j : Nat), j < w.length → (grow f n w).getD j 0 = w.getD j 0 := by
  induction n with
  | zero => intro w j _; rfl
  | succ n ih => intro w j h; rw [grow, ih _ j (by simp; omega), getD_app _ _ _ h]
theorem grow_next (F : List Nat → Nat → Nat) (hF : ∀ w, f w = F w w.length) (hc : ∀ v w i, 16 ≤ i → (∀ j, j < i → v.getD j 0 = w.getD j 0) → F v i = F w i) (n : Nat) :
    ∀ (w : List Nat) (i : Nat), 16 ≤ w.length → w.length ≤ i → i < w.length + n → (grow f n w).getD i 0 = F (grow f n w) i := by
  induction n with
  | zero => intro w i _ _ _; omega
  | succ n ih =>
    intro w i h16 hi hn
    rw [grow]
    by_cases he : i = w.length
    · subst he
      rw [grow_old f n _ _ (by simp)]
      have e1 : (w ++ [f w]).getD w.length 0 = f w := by simp [List.getD_eq_getElem?_getD]
      rw [e1]
      refine (hF w).trans (hc _ _ _ h16 (fun j hj => ?_))
      rw [grow_old f n _ j (by simp; omega), getD_app w _ j hj]
    · exact ih _ i (by simp; omega) (by simp; omega) (by simp; omega)
theorem grow_lt (M : Nat) (hf : ∀ w, f w < M) (n : Nat) : ∀ w : List Nat, (∀ x ∈ w, x < M) → ∀ x ∈ grow f n w, x < M := by
  induction n with
  | zero => intro w h; exact h
  | succ n ih =>
    intro w h
    rw [grow]
    refine ih _ fun x hx => ?_
    rcases List.mem_append.1 hx with hx | hx
    · exact h x hx
    · obtain rfl := List.mem_singleton.1 hx
      exact hf w
end
def schedF (v : List Nat) (i : Nat) : Nat := (v.getD (i - 16) 0 + sg0 (v.getD (i - 15) 0) + v.getD (i - 7) 0 + sg1 (v.getD (i - 2) 0)) % 4294967296
theorem nextW_F (w : List Nat) : nextW w = schedF w w.length := by unfold nextW schedF; rfl
theorem nextW_lt (w : List Nat) : nextW w < 4294967296 := by unfold nextW; exact Nat.mod_lt _ (by omega)
theorem schedF_congr (v w : List Nat) (i : Nat) (hi : 16 ≤ i) (h : ∀ j, j < i → v.getD j 0 = w.getD j 0) : schedF v i = schedF w i := by
  unfold schedF
  rw [h (i - 16) (by omega), h (i - 15) (by omega), h (i - 7) (by omega), h (i - 2) (by omega)]
theorem blkW_eq (s : ByteArray) : blkW s.data.toList = sched 48 (cutL true s) := rfl
theorem blkW_length (s : ByteArray) (h : s.size = 64) : (blkW s.data.toList).length = 64 := by rw [blkW_eq, sched, grow_length, cutL_length, h]
theorem getD_lt (w : List Nat) (h : ∀ x ∈ w, x < 4294967296) (j : Nat) : w.getD j 0 < 4294967296 := by
  rw [List.getD_eq_getElem?_getD]
  cases hq : w[j]? with
  | none => simp
  | some x => exact h x (List.mem_of_getElem? hq)
theorem blkW_lt (s : ByteArray) (j : Nat) : (blkW s.data.toList).getD j 0 < 4294967296 := getD_lt _ (grow_lt nextW _ nextW_lt _ _ (cutL_lt true s)) j
theorem blkW_old (s : ByteArray) (h : s.size = 64) (j : Nat) (hj : j < 16) : (blkW s.data.toList).getD j 0 = (cutL true s).getD j 0 := by
  rw [blkW_eq, sched, grow_old _ _ _ _ (by rw [cutL_length, h]; omega)]
theorem blkW_next (s : ByteArray) (h : s.size = 64) (i : Nat) (h1 : 16 ≤ i) (h2 : i < 64) : (blkW s.data.toList).getD i 0 = schedF (blkW s.data.toList) i := by
  have hl : (cutL true s).length = 16 := by rw [cutL_length, h]
  rw [blkW_eq]
  exact grow_next nextW schedF nextW_F schedF_congr 48 _ i (by omega) (by omega) (by omega)
/-! ### the rounds -/
theorem rnd_ok {s : St} (h : s.ok) (k w : Nat) : (rnd s k w).ok := by
  obtain ⟨ha, hb, hc, hd, he, hf, hg, hh⟩ := h
  exact ⟨Nat.mod_lt _ (by omega), ha, hb, hc, Nat.mod_lt _ (by omega), he, hf, hg⟩
theorem mixN_ok (W : Nat → Nat) {s : St} (h : s.ok) (n : Nat) : (mixN W s n).ok := by
  induction n with
  | zero => exact h
  | succ n ih => exact rnd_ok ih _ _
theorem St.add_ok (s t : St) : (s.add t).ok :=
  ⟨Nat.mod_lt _ (by omega), Nat.mod_lt _ (by omega), Nat.mod_lt _ (by omega), Nat.mod_lt _ (by omega), Nat.mod_lt _ (by omega), Nat.mod_lt _ (by omega), Nat.mod_lt _ (by omega), Nat.mod_lt _ (by omega)⟩
theorem stepL_ok (s : St) (b : List UInt8) : (stepL s b).ok := St.add_ok _ _
theorem shaK_lt (k : Nat) : shaK.getD k 0 < 4294967296 := getD_lt _ (by decide) k
theorem shaK_length : shaK.length = 64 := rfl
set_option maxRecDepth 100000
theorem sum_none : hexL (sumL []) = [101, 51, 98, 48, 99, 52, 52, 50, 57, 56, 102, 99, 49, 99, 49, 52, 57, 97, 102, 98, 102, 52, 99, 56, 57, 57, 54, 102, 98, 57, 50, 52, 50, 55, 97, 101, 52, 49, 101, 52, 54, 52, 57, 98, 57, 51, 52, 99, 97, 52, 57, 53, 57, 57, 49, 98, 55, 56, 53, 50, 98, 56, 53, 53] := by decide +kernel
theorem sum_abc : hexL (sumL [97, 98, 99]) = [98, 97, 55, 56, 49, 54, 98, 102, 56, 102, 48, 49, 99, 102, 101, 97, 52, 49, 52, 49, 52, 48, 100, 101, 53, 100, 97, 101, 50, 50, 50, 51, 98, 48, 48, 51, 54, 49, 97, 51, 57, 54, 49, 55, 55, 97, 57, 99, 98, 52, 49, 48, 102, 102, 54, 49, 102, 50, 48, 48, 49, 53, 97, 100] := by decide +kernel
end Go.Proofs.YtlkdofghhibmbaaDoor

/-
  stream, as plain mathematics over numbers and lists: four words that are turned, a state's 64 bytes, what hides a text; what follows of hiding twice, in parts, and of two texts.
-/
namespace Go.Proofs.YtlkdofghhibmbaaDoor
open Go.RowKit Go.Kx

structure W4 where
  a : Nat
  b : Nat
  c : Nat
  d : Nat
deriving DecidableEq
def qS (x y : Nat) : Nat := (x + y) % 4294967296
def qR (x y z n : Nat) : Nat := rotN (z ^^^ qS x y) n
def turnW (a b c d : Nat) : W4 :=
  let a1 := qS a b
  let d1 := qR a b d 16
  let c1 := qS c d1
  let b1 := qR c d1 b 12
  let a2 := qS a1 b1
  let d2 := qR a1 b1 d1 8
  ⟨a2, qR c1 d2 b1 7, qS c1 d2, d2⟩
def W4.ok (t : W4) : Prop := t.a < 4294967296 ∧ t.b < 4294967296 ∧ t.c < 4294967296 ∧ t.d < 4294967296
theorem qS_lt (x y : Nat) : qS x y < 4294967296 := Nat.mod_lt _ (by omega)
theorem qR_lt (x y z n : Nat) (hz : z < 4294967296) (hn : n ≤ 32) : qR x y z n < 4294967296 := rotN_lt _ _ (Nat.xor_lt_two_pow (n := 32) hz (qS_lt x y)) hn
theorem turnW_ok (a b c d : Nat) (hb : b < 4294967296) (hd : d < 4294967296) : (turnW a b c d).ok := by
  have h1 := qR_lt a b d 16 hd (by omega)
  have h2 := qR_lt c (qR a b d 16) b 12 hb (by omega)
  have h3 := qR_lt (qS a b) (qR c (qR a b d 16) b 12) (qR a b d 16) 8 h1 (by omega)
  exact ⟨qS_lt _ _, qR_lt _ _ _ _ h2 (by omega), qS_lt _ _, h3⟩
theorem turn_example : turnW 286331153 16909060 2609737539 19088743 = ⟨3928658676, 3407673550, 1166100270, 1484899515⟩ := by decide +kernel

/-! ### a state -/
def okL (l : List Nat) : Prop := l.length = 16 ∧ ∀ x ∈ l, x < 4294967296
def put4 (l : List Nat) (p q r s : Nat) (t : W4) : List Nat := (((l.set p t.a).set q t.b).set r t.c).set s t.d
def stepT (l : List Nat) (p q r s : Nat) : List Nat := put4 l p q r s (turnW (l.getD p 0) (l.getD q 0) (l.getD r 0) (l.getD s 0))
def placeL : List (List Nat) := [[0, 4, 8, 12], [1, 5, 9, 13], [2, 6, 10, 14], [3, 7, 11, 15], [0, 5, 10, 15], [1, 6, 11, 12], [2, 7, 8, 13], [3, 4, 9, 14]]
def placeAt (k m : Nat) : Nat := (placeL.getD k []).getD m 0
def turnN (l : List Nat) : Nat → List Nat
  | 0 => l
  | k + 1 => stepT (turnN l k) (placeAt k 0) (placeAt k 1) (placeAt k 2) (placeAt k 3)
def turnL (l : List Nat) : List Nat := turnN l 8
def roundN (l : List Nat) : Nat → List Nat
  | 0 => l
  | k + 1 => turnL (roundN l k)
def sumRow (r l : List Nat) : List Nat := (List.range 16).map fun j => (r.getD j 0 + l.getD j 0) % 4294967296
def bytesL (l : List Nat) : List UInt8 := joinL false (sumRow (roundN l 10) l)
theorem okL_at {l : List Nat} (h : okL l) (j : Nat) : l.getD j 0 < 4294967296 := by
  rw [List.getD_eq_getElem?_getD]
  rcases Nat.lt_or_ge j l.length with hj | hj
  · rw [List.getElem?_eq_getElem hj]; exact h.2 _ (List.getElem_mem hj)
  · rw [List.getElem?_eq_none hj]; exact (by omega : (0 : Nat) < 4294967296)
theorem okL_set {l : List Nat} (h : okL l) (i : Nat) {x : Nat} (hx : x < 4294967296) : okL (l.set i x) := by
  refine ⟨by rw [List.length_set]; exact h.1, fun y hy => ?_⟩
  rcases List.mem_or_eq_of_mem_set hy with hy | rfl
  · exact h.2 y hy
  · exact hx
theorem okL_put4 {l : List Nat} (h : okL l) (p q r s : Nat) {t : W4} (ht : t.ok) : okL (put4 l p q r s t) :=
  okL_set (okL_set (okL_set (okL_set h p ht.1) q ht.2.1) r ht.2.2.1) s ht.2.2.2
theorem okL_step {l : List Nat} (h : okL l) (p q r s : Nat) : okL (stepT l p q r s) := okL_put4 h p q r s (turnW_ok _ _ _ _ (okL_at h q) (okL_at h s))
theorem okL_turnN {l : List Nat} (h : okL l) : ∀ k, okL (turnN l k)
  | 0 => h
  | k + 1 => okL_step (okL_turnN h k) _ _ _ _
theorem okL_roundN {l : List Nat} (h : okL l) : ∀ k, okL (roundN l k)
  | 0 => h
  | k + 1 => okL_turnN (okL_roundN h k) 8
theorem okL_sum (r l : List Nat) : okL (sumRow r l) := by
  refine ⟨by simp [sumRow], fun x hx => ?_⟩
  obtain ⟨j, _, rfl⟩ := List.mem_map.1 hx
  exact Nat.mod_lt _ (by omega)
theorem bytesL_length (l : List Nat) : (bytesL l).length = 64 := by
  have h := (okL_sum (roundN l 10) l).1
  simp [bytesL, joinL, h]
theorem placeAt_lt (k m : Nat) (hk : k < 8) (hm : m < 4) : placeAt k m < 16 := by
  rcases (by omega : k = 0 ∨ k = 1 ∨ k = 2 ∨ k = 3 ∨ k = 4 ∨ k = 5 ∨ k = 6 ∨ k = 7) with rfl | rfl | rfl | rfl | rfl | rfl | rfl | rfl <;>
  rcases (by omega : m = 0 ∨ m = 1 ∨ m = 2 ∨ m = 3) with rfl | rfl | rfl | rfl <;> decide
def startL (key nonce : ByteArray) (n : Nat) : List Nat := [1634760805, 857760878, 2036477234, 1797285236] ++ cutL false key ++ [n] ++ cutL false nonce
theorem startL_ok (key nonce : ByteArray) (n : Nat) (hk : key.size = 32) (hn : nonce.size = 12) (h : n < 4294967296) : okL (startL key nonce n) := by
  refine ⟨by simp [startL, cutL_length, hk, hn], fun x hx => ?_⟩
  simp only [startL, List.append_assoc, List.mem_append, List.mem_cons, List.not_mem_nil, or_false] at hx
  rcases hx with hx | hx | rfl | hx
  · omega
  · exact cutL_lt _ _ _ hx
  · exact h
  · exact cutL_lt _ _ _ hx
theorem startL_12 (key nonce : ByteArray) (n : Nat) (hk : key.size = 32) : (startL key nonce n).getD 12 0 = n := by
  have h := cutL_length false key
  rw [hk] at h
  rw [startL, List.getD_eq_getElem?_getD, List.append_assoc, List.getElem?_append_right (by simp [h])]
  simp [h]
theorem startL_set (key nonce : ByteArray) (n m : Nat) (hk : key.size = 32) : (startL key nonce n).set 12 m = startL key nonce m := by
  have h := cutL_length false key
  rw [hk] at h
  have e : ∀ x, startL key nonce x = ([1634760805, 857760878, 2036477234, 1797285236] ++ cutL false key) ++ (x :: cutL false nonce) := fun x => by simp [startL]
  rw [e, e, List.set_append_right _ _ (by simp [h])]
  simp [h]
def zeroB (n : Nat) : ByteArray := ⟨(List.replicate n 0).toArray⟩
theorem block_example : (bytesL (startL (zeroB 32) (zeroB 12) 0)).take 4 = [118, 184, 224, 173] := by decide +kernel

/-! ### hiding -/
def ksAt (K : Nat → List UInt8) (n j : Nat) : UInt8 := (K (n + j / 64)).getD (j % 64) 0
def hideL (K : Nat → List UInt8) (n : Nat) (s : List UInt8) : List UInt8 := (List.range s.length).map fun j => s.getD j 0 ^^^ ksAt K n j
theorem hideL_length (K : Nat → List UInt8) (n : Nat) (s : List UInt8) : (hideL K n s).length = s.length := by simp [hideL]
theorem hideL_at (K : Nat → List UInt8) (n : Nat) (s : List UInt8) (j : Nat) (h : j < s.length) : (hideL K n s)[j]? = some (s.getD j 0 ^^^ ksAt K n j) := by simp [hideL, h]
theorem xor_self_back (x y : UInt8) : (x ^^^ y) ^^^ y = x := by rw [UInt8.xor_assoc, UInt8.xor_self, UInt8.xor_zero]
theorem hideL_back (K : Nat → List UInt8) (n : Nat) (s : List UInt8) : hideL K n (hideL K n s) = s := by
  apply List.ext_getElem?
  intro j
  rcases Nat.lt_or_ge j s.length with h | h
  · rw [hideL_at _ _ _ _ (by rw [hideL_length]; exact h), List.getD_eq_getElem?_getD, hideL_at _ _ _ _ h, Option.getD_some, xor_self_back, List.getD_eq_getElem?_getD, List.getElem?_eq_getElem h]
    rfl
  · rw [List.getElem?_eq_none (by rw [hideL_length, hideL_length]; exact h), List.getElem?_eq_none h]
theorem hideL_parts (K : Nat → List UInt8) (n m : Nat) (s : List UInt8) (h : 64 * m ≤ s.length) : hideL K n s = hideL K n (s.take (64 * m)) ++ hideL K (n + m) (s.drop (64 * m)) := by
  have ht : (s.take (64 * m)).length = 64 * m := by rw [List.length_take]; omega
  apply List.ext_getElem?
  intro j
  rcases Nat.lt_or_ge j (64 * m) with h1 | h1
  · rw [List.getElem?_append_left (by rw [hideL_length, ht]; exact h1), hideL_at _ _ _ _ (by omega), hideL_at _ _ _ _ (by rw [ht]; exact h1)]
    simp only [List.getD_eq_getElem?_getD, List.getElem?_take_of_lt h1]
  · rw [List.getElem?_append_right (by rw [hideL_length, ht]; exact h1), hideL_length, ht]
    rcases Nat.lt_or_ge j s.length with h2 | h2
    · rw [hideL_at _ _ _ _ h2, hideL_at _ _ _ _ (by rw [List.length_drop]; omega)]
      have e1 : 64 * m + (j - 64 * m) = j := by omega
      have e2 : n + m + (j - 64 * m) / 64 = n + j / 64 := by omega
      have e3 : (j - 64 * m) % 64 = j % 64 := by omega
      simp only [ksAt, List.getD_eq_getElem?_getD, List.getElem?_drop, e1, e2, e3]
    · rw [List.getElem?_eq_none (by rw [hideL_length]; exact h2), List.getElem?_eq_none (by rw [hideL_length, List.length_drop]; omega)]
def xorB (a b : List UInt8) : List UInt8 := List.zipWith (fun x y => x ^^^ y) a b
theorem xor_xor (x y z : UInt8) : (x ^^^ z) ^^^ (y ^^^ z) = x ^^^ y := by
  rw [UInt8.xor_comm y z, ← UInt8.xor_assoc, xor_self_back]
theorem hideL_xor (K : Nat → List UInt8) (n : Nat) (s t : List UInt8) (h : s.length = t.length) : xorB (hideL K n s) (hideL K n t) = xorB s t := by
  apply List.ext_getElem?
  intro j
  rw [xorB, xorB, List.getElem?_zipWith, List.getElem?_zipWith]
  rcases Nat.lt_or_ge j s.length with h1 | h1
  · rw [hideL_at _ _ _ _ h1, hideL_at _ _ _ _ (by omega), List.getElem?_eq_getElem h1, List.getElem?_eq_getElem (show j < t.length by omega)]
    simp only [List.getD_eq_getElem?_getD, List.getElem?_eq_getElem h1, List.getElem?_eq_getElem (show j < t.length by omega), Option.getD_some, xor_xor]
  · rw [List.getElem?_eq_none (by rw [hideL_length]; exact h1), List.getElem?_eq_none h1]
theorem hideL_inj (K : Nat → List UInt8) (n : Nat) (s t : List UInt8) (h : hideL K n s = hideL K n t) : s = t := by rw [← hideL_back K n s, h, hideL_back]
def ksB (key nonce : ByteArray) (m : Nat) : List UInt8 := bytesL (startL key nonce m)
end Go.Proofs.YtlkdofghhibmbaaDoor

/-
  tape: the bytes of a made tape (mathematics).
-/
namespace Go.Proofs.YtlkdofghhibmbaaDoor
open Go.RowKit Go.Kx
set_option maxRecDepth 20000

/-! ### a tape's bytes -/
/-- The block i of a key, as bytes. -/
def blkL (key : ByteArray) (i : Nat) : List UInt8 := bytesL (startL key (zeroB 12) i)
theorem blkL_length (key : ByteArray) (i : Nat) : (blkL key i).length = 64 := bytesL_length _
/-- The byte j of a made tape. -/
def madeAt (key : ByteArray) (j : Nat) : UInt8 := (blkL key (j / 64)).getD (j % 64) 0
def madeL (key : ByteArray) : List UInt8 := (List.range 65536).map (madeAt key)
theorem madeL_length (key : ByteArray) : (madeL key).length = 65536 := by rw [madeL, List.length_map, List.length_range]
theorem madeL_get (key : ByteArray) {j : Nat} (h : j < 65536) : (madeL key)[j]? = some (madeAt key j) := by
  rw [madeL, List.getElem?_map, List.getElem?_range h]
  rfl
/-- The bytes of a tape. -/
def tapeL (key : ByteArray) (made : Bool) (s : ByteArray) : List UInt8 := if made = true then madeL key else s.data.toList
end Go.Proofs.YtlkdofghhibmbaaDoor

/-
  word: the contracts of Xor and Rot.
-/
namespace Go.Proofs.YtlkdofghhibmbaaDoor
open Go.RowKit Go.Kx
theorem xor_any (a b : Nat) (ha : a < 4294967296) (hb : b < 4294967296) (w : World) :
   Calls Tryd.prog 86 #[.int .i64 a, .int .i64 b] w fun e w' => e = .returned (.tuple #[.int .i64 (a ^^^ b : Nat), .bool true]) ∧ Below w.heap.size w w' := by
  have h1 : okW a = true := okW_t (by omega) (by omega)
  have h2 : okW b = true := okW_t (by omega) (by omega)
  go_enter Tryd.func86, Tryd.ntmps86
  go_wp2_with (go_at_call 47; refine (is_two a b _ _ _ rfl).mono ?_; rintro e w' ⟨rfl, rfl⟩)
  go_ret2
  exact ⟨ret_int_bool (int_xor (a := a) (b := b) (by omega) (by omega)) rfl, Below.alloc0 _ _⟩
theorem rot_any (x n : Nat) (hx : x < 4294967296) (hn : n ≤ 32) (w : World) :
   Calls Tryd.prog 87 #[.int .i64 x, .int .i64 n] w fun e w' => e = .returned (.tuple #[.int .i64 (rotN x n : Nat), .bool true]) ∧ Below w.heap.size w w' := by
  have h1 : okW x = true := okW_t (by omega) (by omega)
  have hlt := rotN_lt x n hx hn
  go_enter Tryd.func87, Tryd.ntmps87
  go_wp2_with (first | (go_at_call 47; refine (is_one x _ _ _ rfl).mono ?_; rintro e w' ⟨rfl, rfl⟩) | (go_at_call 83; refine (rotl_any x n hx hn _).mono ?_; rintro e w' ⟨rfl, rfl⟩))
  go_ret2
  exact ⟨rfl, Below.alloc0 _ _⟩

end Go.Proofs.YtlkdofghhibmbaaDoor
