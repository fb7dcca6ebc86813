/-
  keyed: the iterator over the parts of an Expand.
-/
import Derived.Test.YtelplkidippclaaDoorKey2
import Derived.Test.YtelplkidippclaaDoorRange
import Derived.Shelf.Abstract
import Derived.Shelf.RegionOpen
import Derived.OwnWalkIn
import Derived.TacticsInMore
import Derived.LoopNIn
import Derived.LoopIn
namespace Go.Proofs.YtelplkidippclaaDoor
open Go.RowKit Go.Kx Go.Shelf
set_option maxRecDepth 20000
attribute [local go_sem] Oper.semAt_some

abbrev P32 := { x : ByteArray // x.size = 32 }
def part32 (l info : List UInt8) (i : Nat) : P32 := ⟨⟨(partB l info (i + 1)).toArray⟩, by rw [size_mk, partB_length]⟩
def parts32 (l info : List UInt8) (n : Nat) : List P32 := (List.range n).map (part32 l info)
theorem parts32_succ (l info : List UInt8) (k : Nat) : parts32 l info k ++ [part32 l info k] = parts32 l info (k + 1) := by simp [parts32, List.range_succ]
theorem parts32_length (l info : List UInt8) (k : Nat) : (parts32 l info k).length = k := by simp [parts32]
theorem parts32_prefix (l info : List UInt8) (i j : Nat) : parts32 l info i <+: parts32 l info (i + j) := by
  induction j with
  | zero => exact List.prefix_rfl
  | succ j ih => exact ih.trans ⟨[part32 l info (i + j)], parts32_succ l info (i + j)⟩
theorem parts32_le (l info : List UInt8) (i j : Nat) (h : i ≤ j) : parts32 l info i <+: parts32 l info j := by
  obtain ⟨m, rfl⟩ : ∃ m, j = i + m := ⟨j - i, by omega⟩
  exact parts32_prefix l info i m
theorem parts32_of_prefix (l info : List UInt8) (pre : List P32) (n : Nat) (h : pre <+: parts32 l info n) : pre = parts32 l info pre.length ∧ pre.length ≤ n := by
  have hle : pre.length ≤ n := by have := h.length_le; rwa [parts32_length] at this
  have h2 := parts32_le l info pre.length n hle
  exact ⟨(List.prefix_of_prefix_length_le h h2 (by rw [parts32_length]; exact Nat.le_refl _)).eq_of_length (by rw [parts32_length]), hle⟩
def catP (pre : List P32) : List UInt8 := pre.flatMap fun x => x.1.data.toList
theorem catP_snoc (pre : List P32) (x : P32) : catP (pre ++ [x]) = catP pre ++ x.1.data.toList := by simp [catP]
theorem catP_length (pre : List P32) : (catP pre).length = 32 * pre.length := by
  induction pre with
  | nil => rfl
  | cons x xs ih =>
    have := x.2
    simp only [catP, List.flatMap_cons, List.length_append, List.length_cons] at ih ⊢
    rw [ih]
    simp; omega
theorem catP_parts (l info : List UInt8) (n : Nat) : catP (parts32 l info n) = madeB l info n := by
  induction n with
  | zero => rfl
  | succ n ih => rw [← parts32_succ, catP_snoc, ih]; rfl
theorem Consts.of_block {A B : World} (h : Consts A) (hb : B.heap[0]? = A.heap[0]?) : Consts B := by
  intro j v hv
  exact (cell_of_heap hb (0 + j)).trans (h j v hv)
theorem Consts.lt {w : World} (h : Consts w) : 0 < w.heap.size := block_lt_of_cell (h 0 (.int .u32 1116352408) rfl)

theorem parts_any (d : Array Value) (info : ByteArray) (w : World) :
    Calls Tryd.prog 27 #[.func (.func 25) #[.agg d] #[], .string info] w fun e w' => e = .returned (.func (.func 38) #[] #[.pointer (some ⟨w.heap.size, 0, none⟩), .pointer (some ⟨w.heap.size + 1, 0, none⟩)]) ∧
      (w.alloc (.cells #[.func (.func 25) #[.agg d] #[]] 39)).alloc (.cells #[.string info] 9) = w' := by
  have hmf : ∀ (fn : Fn) (first cap : Array Value) (w : World), (Instr.makeFunc fn first cap).run Tryd.prog w = .ok (.func fn first cap) w := fun _ _ _ _ => rfl
  go_enter Tryd.func27, Tryd.ntmps27
  go_wp2
  go_ret
  exact ⟨rfl, rfl⟩
def KpB (b1 b2 : Nat) (A B : World) : Prop := ∀ k, (k = b1 ∨ k = b2 ∨ k = 0) → B.heap[k]? = A.heap[k]?
theorem u8_wrap (k : Nat) (h : k < 256) : IntKind.u8.wrap (k : Int) = (k : Int) := by
  simp only [IntKind.wrap, IntKind.bits, IntKind.signed]; simp; omega

set_option maxHeartbeats 1000000 in
theorem parts1_in (n : Nat) (hn : 1 ≤ n) (b1 b2 : Nat) (l : List UInt8) (hl : l.length = 64) (d : Array Value) (hd : kvA l = d) (info : ByteArray) (hi : info.size ≤ 1000000) (w : World) (hK : Consts w)
    (h1 : w.cell? ⟨b1, 0, none⟩ = some (.func (.func 25) #[.agg d] #[])) (h2 : w.cell? ⟨b2, 0, none⟩ = some (.string info)) :
    SeqStopsK Fence.wide n Tryd.prog 38 #[.pointer (some ⟨b1, 0, none⟩), .pointer (some ⟨b2, 0, none⟩)] (fun x : P32 => #[.string x.1]) (KpB b1 b2)
      (fun xs => xs = parts32 l info.data.toList 255) (fun pre => pre <+: parts32 l info.data.toList 255) 255 w := by
  intro q J Jx W hW hJ hJx hY h0
  have c1 := (hW.cell (p := ⟨b1, 0, none⟩) (block_lt_of_cell h1)).trans h1
  have c2 := (hW.cell (p := ⟨b2, 0, none⟩) (block_lt_of_cell h2)).trans h2
  have hKW := hK.keep hW
  have HL := Lib.hid hl
  have HD := Lib.hid hd
  clear hl hd h1 h2 hW hK
  refine callsIn_of_wp Tryd.func38 rfl trivial ?_ rfl
  simp only [Tryd.ntmps38, List.size_toArray, List.length_cons, List.length_nil, Nat.reduceAdd, Nat.reduceSub, Array.replicate_succ, Array.replicate_zero, List.push_toArray, List.append_toArray, List.nil_append, List.cons_append]
  gi_wp2
  gi_loopw [4, 5, 6] (fun p _ i wr => ∃ (k : Nat) (t : ByteArray), k ≤ 255 ∧ i = .int .i64 k ∧ p = .string t ∧ Hid (t.data.toList = partB l info.data.toList k) ∧ t.size ≤ 32 ∧ wr.cell? ⟨b1, 0, none⟩ = some (.func (.func 25) #[.agg d] #[]) ∧ wr.cell? ⟨b2, 0, none⟩ = some (.string info) ∧
      Consts wr ∧ J (parts32 l info.data.toList k) wr) (fun _ _ i _ => 255 - (intOf i).toNat)
  case atStart => exact ⟨0, ⟨#[]⟩, by omega, rfl, rfl, Lib.hid rfl, by show 0 ≤ 32; omega, c1, c2, hKW, h0⟩
  case round =>
    clear c1 c2 hKW h0
    obtain ⟨k, t, hk, rfl, rfl, ht, hts, c1, c2, hKr, hJk⟩ := hrel
    by_cases hlt : k < 255
    · obtain ⟨a, ha⟩ : ∃ a : ByteArray, t ++ info = a := ⟨_, rfl⟩
      have hadd1 : ∀ V : World, (Op.stringOp .add t info).run Tryd.prog V = .ok (.string a) V := fun V => by rw [← ha]; exact run_string_add_sum V t info (by omega)
      have haz : a.size ≤ 2000000 := by rw [← ha]; simp; omega
      obtain ⟨u, hu⟩ : ∃ u : ByteArray, (⟨#[UInt8.ofNat (k + 1)]⟩ : ByteArray) = u := ⟨_, rfl⟩
      have huz : u.size = 1 := by rw [← hu]; rfl
      obtain ⟨b, hb⟩ : ∃ b : ByteArray, a ++ u = b := ⟨_, rfl⟩
      have hadd2 : ∀ V : World, (Op.stringOp .add a u).run Tryd.prog V = .ok (.string b) V := fun V => by rw [← hb]; exact run_string_add_sum V a u (by omega)
      have hbz : b.size ≤ 100000000 := by rw [← hb]; simp; omega
      have hbl : b.data.toList = partB l info.data.toList k ++ info.data.toList ++ [UInt8.ofNat (k + 1)] := by rw [← hb, ← ha, ← hu, ← ht.out]; simp
      obtain ⟨r, hr⟩ : ∃ r : P32, part32 l info.data.toList k = r := ⟨_, rfl⟩
      have hr1 : (⟨(macB l b.data.toList).toArray⟩ : ByteArray) = r.1 := by rw [hbl, ← hr]; rfl
      have HR1 := Lib.hid hr1
      have HRL : Hid (r.1.data.toList = partB l info.data.toList (k + 1)) := Lib.hid (by rw [← hr]; rfl)
      have HRS : Hid (r.1.size ≤ 32) := Lib.hid (by rw [r.2]; exact Nat.le_refl _)
      have HPS : Hid (parts32 l info.data.toList k ++ [r] = parts32 l info.data.toList (k + 1)) := Lib.hid (by rw [← hr]; exact parts32_succ _ _ _)
      have hw64 : IntKind.i64.wrap ((k : Int) + 1) = (k : Int) + 1 := IntWalk.i64_in _ (by omega)
      have hw8 : IntKind.u8.wrap ((k : Int) + 1) = (k : Int) + 1 := u8_wrap (k + 1) (by omega)
      have hconv : ∀ V : World, (convert 33 9 (.slice (some ⟨V.heap.size, 0, none⟩) 1 1)).run Tryd.prog (V.alloc (.cells #[.int .u8 ((k : Int) + 1)] 5)) = .ok (.string u) (V.alloc (.cells #[.int .u8 ((k : Int) + 1)] 5)) := fun V => by
        rw [← hu]
        refine run_convert_bytes_back (P := Tryd.prog) _ 33 9 5 ⟨V.heap.size, 0, none⟩ 1 [UInt8.ofNat (k + 1)] Tryd.underlying33 Tryd.underlying5 Tryd.underlying9 (fun j hj => ?_)
        obtain rfl : j = 0 := by simpa using hj
        have hz : ((UInt8.ofNat (k + 1)).toNat : Int) = (k : Int) + 1 := by rw [UInt8.toNat_ofNat']; omega
        simp only [List.getElem_cons_zero, hz]
        rw [show (⟨V.heap.size, 0, none⟩ : Addr).add 0 = ⟨V.heap.size, 0, none⟩ by unfold Addr.add; split <;> simp_all]
        exact cell_of_row _ V.heap.size 0 #[.int .u8 ((k : Int) + 1)] 5 (0, 0) (World.alloc_heap_new V _)
      have hJr : ∀ V : World, Below wr.heap.size wr V → J (parts32 l info.data.toList k) V := fun V hV => hJ _ _ _ none hJk ⟨hV.os, hV.tape, hV.output, hV.size, fun k hk _ => hV.block k hk⟩ (fun _ e => by cases e)
      have HJR := Lib.hid hJr
      have HLEN : Hid ((parts32 l info.data.toList k).length < 255) := Lib.hid (by rw [parts32_length]; exact hlt)
      have b1l := block_lt_of_cell c1
      have b2l := block_lt_of_cell c2
      clear ha hu huz hb hbl hr hr1 hJr hJk
      generalize hps : parts32 l info.data.toList k = ps at *
      gi_wp2_with (refine ⟨trivial, ?_⟩; gi_at_call 23; refine (callsIn_wide.2 (mac_v l HL.out b hbz d HD.out r.1 HR1.out _ (hKr.keep (Below.alloc0 _ _)))).mono ?_; rintro e w1 ⟨rfl, hb1⟩)
      have hbr : Below wr.heap.size wr w1 := (Below.alloc0 wr _).next hb1
      have hJ1 := HJR.out w1 hbr
      have d1 := (hbr.cell (p := ⟨b1, 0, none⟩) b1l).trans c1
      have d2 := (hbr.cell (p := ⟨b2, 0, none⟩) b2l).trans c2
      have hK1 := hKr.keep hbr
      obtain ⟨fn, tmps, assign, body, hy, hR⟩ := hY ps r w1 hJ1 HLEN.out
      clear hb1 hbr hJ1 c1 c2 hKr HJR hconv hadd1 hadd2
      rw [hy]
      gi_wp2
      refine hR.mono ?_
      rintro e W' (⟨rfl, hJ', hk'⟩ | ⟨rfl, hJx'⟩)
      · have e1 : W'.cell? ⟨b1, 0, none⟩ = _ := (cell_of_heap (hk' b1 (.inl rfl)) 0).trans d1
        have e2 : W'.cell? ⟨b2, 0, none⟩ = _ := (cell_of_heap (hk' b2 (.inr (.inl rfl))) 0).trans d2
        have hK' := hK1.of_block (hk' _ (.inr (.inr rfl)))
        clear hy hR d1 d2 hK1 hk'
        rw [HPS.out] at hJ'
        gi_wp2
        go_roundw
        case rel => exact ⟨k + 1, r.1, by omega, by go_num, rfl, HRL, HRS.out, e1, e2, hK', hJ'⟩
        case measure => simp [intOf]; omega
      · clear hy hR
        rw [HPS.out] at hJx'
        gi_wp2
        refine bodyPost_ret (results_none rfl _ _ _) rfl ?_
        exact ⟨⟨_, rfl⟩, .inr ⟨_, parts32_le _ _ (k + 1) 255 (by omega), hJx'⟩⟩
    · obtain rfl : k = 255 := by omega
      gi_wp2
      go_end0
      exact ⟨⟨_, rfl⟩, .inl ⟨_, rfl, hJk⟩⟩
end Go.Proofs.YtelplkidippclaaDoor
