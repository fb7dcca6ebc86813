/-
  keyed: the contracts of a block's pad and of blockOf.
-/
import Derived.Test.YtelplkidippclaaDoorKeym
import Derived.Lib.BufferWrite
import Derived.Laws.IdiomStrings
namespace Go.Proofs.YtelplkidippclaaDoor
open Go.RowKit Go.Kx
set_option maxRecDepth 20000

def octAt (l : List UInt8) (j : Nat) : Nat := (l.getD j 0).toNat
def kvA (l : List UInt8) : Array Value := rowA .u8 64 (octAt l)
theorem kv_size : (Tryd.prog.info? 41).map (·.size) = some 64 := by kernel_rfl
theorem octAt_lt (l : List UInt8) (j : Nat) : octAt l j < 256 := UInt8.toNat_lt _
def padAt (l : List UInt8) (x : UInt8) (k j : Nat) : Nat := if j < k then (l.getD j 0 ^^^ x).toNat else octAt l j
theorem padAt_same (l : List UInt8) (x : UInt8) (k : Nat) : padAt l x k k = octAt l k := if_neg (by omega)
theorem padAt_zero (l : List UInt8) (x : UInt8) (j : Nat) : padAt l x 0 j = octAt l j := if_neg (by omega)
theorem padAt_set (l : List UInt8) (x : UInt8) (k j : Nat) : (if j = k then (l.getD k 0 ^^^ x).toNat else padAt l x k j) = padAt l x (k + 1) j := by
  unfold padAt
  by_cases h : j = k
  · subst h; simp
  · rw [if_neg h]
    by_cases h2 : j < k
    · rw [if_pos h2, if_pos (by omega)]
    · rw [if_neg h2, if_neg (by omega)]
theorem padX_at (l : List UInt8) (x : UInt8) (j : Nat) (hj : j < (padX l x).length) : ((padX l x)[j].toNat : Int) = ((l.getD j 0 ^^^ x).toNat : Nat) := by
  have h : j < l.length := by simpa [padX] using hj
  simp [padX, List.getD_eq_getElem?_getD, h]
set_option maxHeartbeats 1000000 in
theorem pad_any (l : List UInt8) (hl : l.length = 64) (x : UInt8) (w : World) :
    Calls Tryd.prog 25 #[.agg (kvA l), .int .u8 (x.toNat : Int)] w fun e w' => e = .returned (.string ⟨(padX l x).toArray⟩) ∧ Below w.heap.size w w' := by
  have s64 : (kvA l).size = 64 := rowA_size _ _ _
  have hr0 := World.rowIs_alloc w (kvA l) 41 (fun j => .int .u8 (octAt l j : Nat)) (fun j hj => rowA_at _ _ _ _ (by omega))
  rw [s64] at hr0
  obtain ⟨y, hy⟩ : ∃ y : Nat, x.toNat = y := ⟨_, rfl⟩
  have hyl : y < 256 := hy ▸ UInt8.toNat_lt x
  have HX : Hid (∀ k, bits .xor .u8 (octAt l k : Nat) (y : Int) = ((l.getD k 0 ^^^ x).toNat : Nat)) := Lib.hid (fun k => by
    rw [u8_xor_nat _ _ (octAt_lt l k) hyl, ← hy, octAt, UInt8.toNat_xor])
  rw [hy]
  have HL := Lib.hid hl
  clear hy hl
  generalize kvA l = d at *
  go_enter Tryd.func25, Tryd.ntmps25
  go_wp2
  go_loopw [5, 6] (fun _ i wr => ∃ k : Nat, k ≤ 64 ∧ i = .int .i64 k ∧ wr.rowIs w.heap.size 41 64 (fun j => .int .u8 (padAt l x k j : Nat)) ∧ Below w.heap.size w wr) (fun _ i _ => 64 - (intOf i).toNat)
  case atStart => exact ⟨0, by omega, rfl, hr0.congr fun j _ => by rw [padAt_zero], Below.alloc0 _ _⟩
  case round =>
    clear hr0
    obtain ⟨k, hk, rfl, hr, hb⟩ := hrel
    by_cases hlt : k < 64
    · have hload := hr.cell (i := k) hlt
      have hfz := hr.frozen k
      rw [padAt_same] at hload
      have hxk := HX.out k
      have hbl := octAt_lt l k
      generalize octAt l k = b at *
      generalize hz : (l.getD k 0 ^^^ x).toNat = z at *
      have HXK := Lib.hid hxk
      have HZ := Lib.hid hz
      clear hxk hz
      go_wp2
      go_roundw
      case rel =>
        refine ⟨k + 1, by omega, by go_num, (hr.set k _).congr fun j _ => ?_, hb.setCell (p := ⟨w.heap.size, k, none⟩) (by simp) _⟩
        rw [← padAt_set, HZ.out, HXK.out]
        split <;> rfl
      case measure => simp [intOf]; omega
    · obtain rfl : k = 64 := by omega
      have hconv : (convert 33 9 (.slice (some ⟨w.heap.size, 0, none⟩) 64 64)).run Tryd.prog wr = .ok (.string ⟨(padX l x).toArray⟩) wr := by
        have hc := run_convert_bytes_back (P := Tryd.prog) wr 33 9 5 ⟨w.heap.size, 0, none⟩ 64 (padX l x) Tryd.underlying33 Tryd.underlying5 Tryd.underlying9 (fun j hj => by
          have hj' : j < 64 := by rw [padX_length, HL.out] at hj; exact hj
          have := hr.cell (i := j) hj'
          rw [show (⟨w.heap.size, 0, none⟩ : Addr).add j = ⟨w.heap.size, j, none⟩ by unfold Addr.add; split <;> simp_all, this, padX_at l x j hj]
          simp [padAt, hj'])
        rwa [padX_length, HL.out] at hc
      generalize hout : padX l x = out at *
      have HO := Lib.hid hout
      clear hout
      go_wp2
      go_ret
      exact ⟨by rw [HO.out]; rfl, hb⟩
theorem pad_v (l : List UInt8) (hl : l.length = 64) (x : UInt8) (n : Int) (hn : (x.toNat : Int) = n) (d : Array Value) (hd : kvA l = d) (r : ByteArray) (hr : ⟨(padX l x).toArray⟩ = r) (w : World) :
    Calls Tryd.prog 25 #[.agg d, .int .u8 n] w fun e w' => e = .returned (.string r) ∧ Below w.heap.size w w' := by
  subst hn hd hr
  exact pad_any l hl x w

/-! ### blockOf -/
theorem blk_row (key : ByteArray) (h : key.size ≤ 64) (hk : keyL key.data.toList = key.data.toList) : (List.take 0 (List.replicate 64 (Value.int .u8 0)) ++ Lib.byteCells key.data.toList ++ List.drop (0 + key.size) (List.replicate 64 (Value.int .u8 0))).toArray = kvA (blkL key.data.toList) := by
  have hs : key.data.toList.length = key.size := by simp
  apply Array.ext_getElem?
  intro i
  rw [blkL, hk, kvA, rowA]
  simp only [List.take_zero, List.nil_append, Nat.zero_add, List.drop_replicate, List.getElem?_toArray]
  by_cases hi : i < 64
  · rw [List.getElem?_map, List.getElem?_range hi]
    simp only [Option.map_some, octAt, List.getD_eq_getElem?_getD]
    by_cases h2 : i < key.size
    · rw [List.getElem?_append_left (by simp [Lib.byteCells]; omega), List.getElem?_append_left (by omega), Lib.byteCells, List.getElem?_map, List.getElem?_eq_getElem (by omega)]
      rfl
    · rw [List.getElem?_append_right (by simp [Lib.byteCells]; omega), List.getElem?_append_right (by omega), List.getElem?_replicate, List.getElem?_replicate]
      rw [if_pos (by simp [Lib.byteCells]; omega), if_pos (by omega)]
      rfl
  · rw [List.getElem?_eq_none (by simp [Lib.byteCells]; omega), List.getElem?_eq_none (by simp; omega)]
def zero64 : Array Value := #[.int .u8 0, .int .u8 0, .int .u8 0, .int .u8 0, .int .u8 0, .int .u8 0, .int .u8 0, .int .u8 0, .int .u8 0, .int .u8 0, .int .u8 0, .int .u8 0, .int .u8 0, .int .u8 0, .int .u8 0, .int .u8 0, .int .u8 0, .int .u8 0, .int .u8 0, .int .u8 0, .int .u8 0, .int .u8 0, .int .u8 0, .int .u8 0, .int .u8 0, .int .u8 0, .int .u8 0, .int .u8 0, .int .u8 0, .int .u8 0, .int .u8 0, .int .u8 0, .int .u8 0, .int .u8 0, .int .u8 0, .int .u8 0, .int .u8 0, .int .u8 0, .int .u8 0, .int .u8 0, .int .u8 0, .int .u8 0, .int .u8 0, .int .u8 0, .int .u8 0, .int .u8 0, .int .u8 0, .int .u8 0, .int .u8 0, .int .u8 0, .int .u8 0, .int .u8 0, .int .u8 0, .int .u8 0, .int .u8 0, .int .u8 0, .int .u8 0, .int .u8 0, .int .u8 0, .int .u8 0, .int .u8 0, .int .u8 0, .int .u8 0, .int .u8 0]
theorem zero64_eq : zero64 = (List.replicate 64 (Value.int .u8 0)).toArray := rfl
theorem copy_blk (key : ByteArray) (h : key.size ≤ 64) (hk : keyL key.data.toList = key.data.toList) (d : Array Value) (hd : kvA (blkL key.data.toList) = d) (g : Nat) (V : World) (hV : V.heap[g]? = some (.cells zero64 41 (0, 0))) :
    (Builtin.copy_ #[33, 9] 3 #[.slice (some ⟨g, 0, none⟩) 64 64, .string key]).run Tryd.prog V = .ok (goInt key.size) (V.setRow g d) := by
  rw [Lib.run_copy_row_string V _ _ _ 5 g 0 64 64 key zero64 41 Tryd.underlying33 (by kernel_rfl) hV (by omega) (by show _ ≤ 64; omega), ← hd, ← blk_row key h hk]
  rfl
set_option maxHeartbeats 1000000 in
theorem blockOf_any (key : ByteArray) (hk : key.size ≤ 1000000000) (w : World) (hK : Consts w) :
    Calls Tryd.prog 24 #[.string key] w fun e w' => e = .returned (.agg (kvA (blkL key.data.toList))) ∧ Below w.heap.size w w' := by
  have hs : key.data.toList.length = key.size := by simp
  have hinf : (Tryd.prog.info? 41).map (·.size) = some 64 := kv_size
  obtain ⟨d, hd⟩ : ∃ d, kvA (blkL key.data.toList) = d := ⟨_, rfl⟩
  have hds : d.size = 64 := by rw [← hd]; exact rowA_size _ _ _
  have hall : d.all (·.oneCell') = true := by rw [← hd]; exact all_one_ints (k := .u8) (g := fun j => (octAt (blkL key.data.toList) j : Nat)) (n := 64) rfl
  have hinfd : (Tryd.prog.info? 41).map (·.size) = some d.size := by rw [hds]; exact kv_size
  have hzd : zero64.size = d.size := by rw [hds]; rfl
  by_cases h : 64 < key.size
  · have h' : (64 : Int) < (key.size : Int) := by omega
    obtain ⟨key2, hk2⟩ : ∃ k : ByteArray, ⟨(sumL key.data.toList).toArray⟩ = k := ⟨_, rfl⟩
    have hk2s : key2.size = 32 := by rw [← hk2, size_mk, sumL_length]
    have hd2 : kvA (blkL key2.data.toList) = d := by rw [← hd, ← hk2]; exact congrArg kvA (blkL_long _ (by omega))
    have HC := Lib.hid (copy_blk key2 (by omega) (by rw [keyL, if_neg (by simp; omega)]) d hd2)
    have HSUM : Hid (∀ V : World, Consts V → Calls Tryd.prog 18 #[.string key] V fun e w' => e = .returned (.string key2) ∧ Below V.heap.size V w') := Lib.hid (fun V hV => by rw [← hk2]; exact sum_any key hk V hV)
    have HD := Lib.hid hd
    clear hd hd2 hs hk2
    go_enter Tryd.func24, Tryd.ntmps24
    go_wp2_with fail
    have hgz : (w.alloc (.cells zero64 41)).heap[w.heap.size]? = some (.cells zero64 41 (0, 0)) := World.alloc_heap_new w _
    have hbz : Below w.heap.size w (w.alloc (.cells zero64 41)) := Below.alloc0 w _
    have hsz : (w.alloc (.cells zero64 41)).heap.size = w.heap.size + 1 := World.size_alloc _ _
    unfold zero64 at hgz hbz hsz
    generalize (World.alloc w _) = W at *
    refine (HSUM.out _ (hK.keep hbz)).mono ?_
    rintro e w1 ⟨rfl, hb1⟩
    have hgw := (hb1.block w.heap.size (by omega)).trans hgz
    have hbw := hbz.next' hb1 (by omega)
    have hsz1 : w.heap.size < w1.heap.size := by have := hb1.size; omega
    clear hgz hbz hb1
    go_wp2
    obtain ⟨n1, hn1⟩ : ∃ n, n = w1.heap.size := ⟨_, rfl⟩
    have hg : (w1.alloc (.cells zero64 41)).heap[w1.heap.size]? = some (.cells zero64 41 (0, 0)) := World.alloc_heap_new w1 _
    have hg0 := (Below.heap_alloc w1 (.cells zero64 41) w.heap.size hsz1).trans hgw
    have hbw2 := hbw.alloc (by omega) (.cells zero64 41)
    have e1 := HC.out _ _ hg
    unfold zero64 at e1
    rw [e1]
    clear e1
    have hg1 := setRow_heap _ w1.heap.size _ d _ _ hg
    have hg2 := (setRow_other _ w1.heap.size w.heap.size d (by omega)).trans hg0
    have hb2 := hbw2.setRow (g := w1.heap.size) (by omega) d
    unfold zero64 at hg1 hg2 hb2
    clear hg hg0 hbw hbw2 hgw
    generalize (World.setRow _ w1.heap.size d) = V at *
    go_wp2_with (first
      | (refine wpList_load_row rfl _ _ rfl w1.heap.size rfl _ _ _ _ hg1 Tryd.underlying41 rfl hinfd ?_)
      | (refine wpList_store_row rfl _ _ _ rfl w.heap.size _ rfl rfl _ _ hg2 hinfd hzd hall ?_))
    exact bodyPost_ret (v := .agg d) (results_cell_row rfl _ _ w.heap.size _ _ _ _ rfl (setRow_heap _ _ _ _ _ _ hg2) Tryd.underlying41 rfl hinfd) rfl ⟨by rw [HD.out], hb2.setRow (Nat.le_refl _) _⟩
  · have h' : ¬ (64 : Int) < (key.size : Int) := by omega
    have HC := Lib.hid (copy_blk key (by omega) (by rw [keyL, if_neg (by omega)]) d hd)
    have HD := Lib.hid hd
    clear hd hs
    go_enter Tryd.func24, Tryd.ntmps24
    go_wp2
    have hg : ((w.alloc (.cells zero64 41)).alloc (.cells zero64 41)).heap[w.heap.size + 1]? = some (.cells zero64 41 (0, 0)) := by
      have := World.alloc_heap_new (w.alloc (.cells zero64 41)) (.cells zero64 41)
      rwa [World.size_alloc] at this
    have hg0 : ((w.alloc (.cells zero64 41)).alloc (.cells zero64 41)).heap[w.heap.size]? = some (.cells zero64 41 (0, 0)) :=
      (Below.heap_alloc _ _ _ (by simp)).trans (World.alloc_heap_new w _)
    have hbw : Below w.heap.size w ((w.alloc (.cells zero64 41)).alloc (.cells zero64 41)) := (Below.alloc0 w _).al _
    have e1 := HC.out _ _ hg
    unfold zero64 at e1
    rw [e1]
    clear e1
    have hg1 := setRow_heap _ (w.heap.size + 1) _ d _ _ hg
    have hg2 := (setRow_other _ (w.heap.size + 1) w.heap.size d (by omega)).trans hg0
    have hb2 := hbw.setRow (g := w.heap.size + 1) (by omega) d
    unfold zero64 at hg1 hg2 hb2
    clear hg hg0 hbw
    generalize (World.setRow _ (w.heap.size + 1) d) = V at *
    go_wp2_with (first
      | (refine wpList_load_row rfl _ _ rfl (w.heap.size + 1) rfl _ _ _ _ hg1 Tryd.underlying41 rfl hinfd ?_)
      | (refine wpList_store_row rfl _ _ _ rfl w.heap.size _ rfl rfl _ _ hg2 hinfd hzd hall ?_))
    exact bodyPost_ret (v := .agg d) (results_cell_row rfl _ _ w.heap.size _ _ _ _ rfl (setRow_heap _ _ _ _ _ _ hg2) Tryd.underlying41 rfl hinfd) rfl ⟨by rw [HD.out], hb2.setRow (Nat.le_refl _) _⟩
end Go.Proofs.YtelplkidippclaaDoor
