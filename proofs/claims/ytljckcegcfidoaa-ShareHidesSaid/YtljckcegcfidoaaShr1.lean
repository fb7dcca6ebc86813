/-
  share: the contracts of a row's text, of rowOf, of plus and of times.
-/
import Derived.Test.YtljckcegcfidoaaShm
import Derived.Test.YtljckcegcfidoaaFld5
import Derived.Lib.BufferWrite
import Derived.Laws.IdiomStrings
namespace Go.Proofs.Ytljckcegcfidoaa
open Go.RowKit Go.Kx
set_option maxRecDepth 20000

theorem row_info : (Try.prog.info? 52).map (·.size) = some 32 := by kernel_rfl
theorem row_info' (R : Nat → Gf.G) : (Try.prog.info? 52).map (·.size) = some (rowV R).size := by rw [rowV_size]; exact row_info
def zero32 : Array Value := #[.int .u8 0, .int .u8 0, .int .u8 0, .int .u8 0, .int .u8 0, .int .u8 0, .int .u8 0, .int .u8 0, .int .u8 0, .int .u8 0, .int .u8 0, .int .u8 0, .int .u8 0, .int .u8 0, .int .u8 0, .int .u8 0, .int .u8 0, .int .u8 0, .int .u8 0, .int .u8 0, .int .u8 0, .int .u8 0, .int .u8 0, .int .u8 0, .int .u8 0, .int .u8 0, .int .u8 0, .int .u8 0, .int .u8 0, .int .u8 0, .int .u8 0, .int .u8 0]
theorem zero32_eq : zero32 = (List.replicate 32 (Value.int .u8 0)).toArray := rfl

/-! ### text -/
theorem text_conv (R : Nat → Gf.G) (W : World) (b : Nat) (h : W.rowIs b 52 32 (fun j => .int .u8 ((R j).v : Nat))) :
    (convert 54 9 (.slice (some ⟨b, 0, none⟩) 32 32)).run Try.prog W = .ok (.string (txt R)) W := by
  have hc := run_convert_bytes_back (P := Try.prog) W 54 9 5 ⟨b, 0, none⟩ 32 (txtL R) Try.underlying54 Try.underlying5 Try.underlying9 (fun j hj => by
    have hj' : j < 32 := by rw [txtL_length] at hj; exact hj
    have := h.cell (i := j) hj'
    rw [show (⟨b, 0, none⟩ : Addr).add j = ⟨b, j, none⟩ by unfold Addr.add; split <;> simp_all, this]
    have e := txtL_at R hj'
    rw [List.getElem?_eq_getElem hj] at e
    have := (R j).lt
    rw [Option.some.inj e]
    simp
    omega)
  rwa [txtL_length] at hc
theorem text_any (R : Nat → Gf.G) (w : World) : Calls Try.prog 25 #[.agg (rowV R)] w fun e w' => e = .returned (.string (txt R)) ∧ Below w.heap.size w w' := by
  have s32 : (rowV R).size = 32 := rowV_size R
  have hr0 := World.rowIs_alloc w (rowV R) 52 (fun j => .int .u8 ((R j).v : Nat)) (fun j hj => rowV_at R (by omega))
  rw [s32] at hr0
  have hconv := text_conv R _ _ hr0
  have hb0 := Below.alloc0 w (.cells (rowV R) 52)
  generalize txt R = r at *
  generalize rowV R = d at *
  go_enter Try.func25, Try.ntmps25
  go_wp2
  go_ret
  exact ⟨rfl, hb0⟩

/-! ### rowOf -/
theorem rowOf_cells (s : ByteArray) (h : s.size = 32) : (List.take 0 (List.replicate 32 (Value.int .u8 0)) ++ Lib.byteCells s.data.toList ++ List.drop (0 + s.size) (List.replicate 32 (Value.int .u8 0))).toArray = rowV (gOf s) := by
  have hs : s.data.toList.length = s.size := by simp
  apply Array.ext_getElem?
  intro i
  rw [rowV, rowA]
  simp only [List.take_zero, List.nil_append, Nat.zero_add, List.drop_replicate, List.getElem?_toArray]
  by_cases hi : i < 32
  · rw [List.getElem?_map, List.getElem?_range hi]
    simp only [Option.map_some, gOf, List.getD_eq_getElem?_getD]
    rw [List.getElem?_append_left (by simp [Lib.byteCells]; omega), Lib.byteCells, List.getElem?_map, List.getElem?_eq_getElem (by omega)]
    rfl
  · rw [List.getElem?_eq_none (by simp [Lib.byteCells]; omega), List.getElem?_eq_none (by simp; omega)]
theorem copy_row (s : ByteArray) (h : s.size = 32) (d : Array Value) (hd : rowV (gOf s) = d) (g : Nat) (V : World) (hV : V.heap[g]? = some (.cells zero32 52 (0, 0))) :
    (Builtin.copy_ #[54, 9] 3 #[.slice (some ⟨g, 0, none⟩) 32 32, .string s]).run Try.prog V = .ok (goInt s.size) (V.setRow g d) := by
  rw [Lib.run_copy_row_string V _ _ _ 5 g 0 32 32 s zero32 52 Try.underlying54 (by kernel_rfl) hV (by omega) (by show _ ≤ 32; omega), ← hd, ← rowOf_cells s h]
  rfl
set_option maxHeartbeats 1000000 in
theorem rowOf_any (s : ByteArray) (h : s.size = 32) (w : World) : Calls Try.prog 41 #[.string s] w fun e w' => e = .returned (.agg (rowV (gOf s))) ∧ Below w.heap.size w w' := by
  obtain ⟨d, hd⟩ : ∃ d, rowV (gOf s) = d := ⟨_, rfl⟩
  have hds : d.size = 32 := by rw [← hd]; exact rowV_size _
  have hall : d.all (·.oneCell') = true := by rw [← hd]; exact rowV_one _
  have hinfd : (Try.prog.info? 52).map (·.size) = some d.size := by rw [hds]; exact row_info
  have hzd : zero32.size = d.size := by rw [hds]; rfl
  have HC := Lib.hid (copy_row s h d hd)
  have HD := Lib.hid hd
  have hinf : (Try.prog.info? 52).map (·.size) = some d.size := hinfd
  clear hd h
  go_enter Try.func41, Try.ntmps41
  go_wp2
  have hg : ((w.alloc (.cells zero32 52)).alloc (.cells zero32 52)).heap[w.heap.size + 1]? = some (.cells zero32 52 (0, 0)) := by
    have := heap_alloc_new (w.alloc (.cells zero32 52)) (.cells zero32 52)
    rwa [World.size_alloc] at this
  have hg0 : ((w.alloc (.cells zero32 52)).alloc (.cells zero32 52)).heap[w.heap.size]? = some (.cells zero32 52 (0, 0)) :=
    (Below.heap_alloc _ _ _ (by simp)).trans (heap_alloc_new w _)
  have hbw : Below w.heap.size w ((w.alloc (.cells zero32 52)).alloc (.cells zero32 52)) := (Below.alloc0 w _).al _
  have e1 := HC.out _ _ hg
  unfold zero32 at e1
  rw [e1]
  clear e1
  have hg1 := setRow_heap _ (w.heap.size + 1) _ d _ _ hg
  have hg2 := (setRow_other _ (w.heap.size + 1) w.heap.size d (by omega)).trans hg0
  have hb2 := hbw.setRow (g := w.heap.size + 1) (by omega) d
  unfold zero32 at hg1 hg2 hb2
  clear hg hg0 hbw
  generalize (World.setRow _ (w.heap.size + 1) d) = V at *
  go_wp2_with (first
    | (refine wpList_load_row rfl _ _ rfl (w.heap.size + 1) rfl _ _ _ _ hg1 Try.underlying52 rfl hinf ?_)
    | (refine wpList_store_row rfl _ _ _ rfl w.heap.size _ rfl rfl _ _ hg2 hinf hzd hall ?_))
  exact bodyPost_ret (v := .agg d) (results_cell_row rfl _ _ w.heap.size _ _ _ _ rfl (setRow_heap _ _ _ _ _ _ hg2) Try.underlying52 rfl hinf) rfl ⟨by rw [HD.out], hb2.setRow (Nat.le_refl _) _⟩

/-! ### plus -/
def plusAt (R O : Nat → Gf.G) (k j : Nat) : Gf.G := if j < k then R j + O j else R j
theorem plusAt_same (R O : Nat → Gf.G) (k : Nat) : plusAt R O k k = R k := if_neg (by omega)
theorem plusAt_zero (R O : Nat → Gf.G) (j : Nat) : plusAt R O 0 j = R j := if_neg (by omega)
theorem plusAt_set (R O : Nat → Gf.G) (k j : Nat) : (if j = k then R k + O k else plusAt R O k j) = plusAt R O (k + 1) j := by
  unfold plusAt
  by_cases h : j = k
  · subst h; simp
  · rw [if_neg h]
    by_cases h2 : j < k
    · rw [if_pos h2, if_pos (by omega)]
    · rw [if_neg h2, if_neg (by omega)]
theorem row_heap {W : World} {b : Nat} {R : Nat → Gf.G} (h : W.rowIs b 52 32 (fun j => .int .u8 ((R j).v : Nat))) : W.heap[b]? = some (.cells (rowV R) 52 (0, 0)) := rowIs_heap h
set_option maxHeartbeats 2000000 in
theorem splus_any (R O : Nat → Gf.G) (w : World) : Calls Try.prog 43 #[.agg (rowV R), .agg (rowV O)] w fun e w' => e = .returned (.agg (rowV fun j => R j + O j)) ∧ Below w.heap.size w w' := by
  have s32 : (rowV R).size = 32 := rowV_size R
  have s32' : (rowV O).size = 32 := rowV_size O
  have hr0 := World.rowIs_alloc w (rowV R) 52 (fun j => .int .u8 ((R j).v : Nat)) (fun j hj => rowV_at R (by omega))
  rw [s32] at hr0
  have ho0 : ((w.alloc (.cells (rowV R) 52)).alloc (.cells (rowV O) 52)).heap[w.heap.size + 1]? = some (.cells (rowV O) 52 (0, 0)) := by
    have := heap_alloc_new (w.alloc (.cells (rowV R) 52)) (.cells (rowV O) 52)
    rwa [World.size_alloc] at this
  have HI : Hid (∀ k : Nat, k < 32 → ∀ V : World, (Instr.index 52 (.agg (rowV O)) (.int .i64 (k : Int))).run Try.prog V = .ok (.int .u8 ((O k).v : Nat)) V) := Lib.hid (fun k hk V =>
    run_index_ints Try.underlying52 (by kernel_rfl) Try.underlying5 hk (rowV_at O hk) V)
  have HF : Hid (rowV (plusAt R O 32) = rowV fun j => R j + O j) := Lib.hid (rowV_congr fun j hj => if_pos hj)
  have hinfR := row_info' R
  have hinfO := row_info' O
  have hb0 : Below w.heap.size w (((w.alloc (.cells (rowV R) 52)).alloc (.cells (rowV O) 52)).alloc (.cells zero32 52)) := ((Below.alloc0 _ _).al _).al _
  have hz0 : (((w.alloc (.cells (rowV R) 52)).alloc (.cells (rowV O) 52)).alloc (.cells zero32 52)).heap[w.heap.size + 2]? = some (.cells zero32 52 (0, 0)) := by
    have := heap_alloc_new ((w.alloc (.cells (rowV R) 52)).alloc (.cells (rowV O) 52)) (.cells zero32 52)
    rwa [World.size_alloc, World.size_alloc] at this
  have hr1 := rowIs_keep (rowIs_keep hr0 (Below.alloc0 _ (.cells (rowV O) 52))) (Below.alloc0 _ (.cells zero32 52))
  have ho1 := (Below.heap_alloc _ (.cells zero32 52) _ (Array.getElem?_eq_some_iff.1 ho0).1).trans ho0
  clear hr0 ho0 s32 s32'
  generalize rowV R = dR at *
  generalize rowV O = dO at *
  unfold zero32 at hb0 hz0 hr1 ho1
  go_enter Try.func43, Try.ntmps43
  go_wp2_with (refine wpList_load_row rfl _ _ rfl (w.heap.size + 1) rfl _ _ _ _ ho1 Try.underlying52 rfl hinfO ?_)
  generalize World.alloc (World.alloc (World.alloc w _) _) _ = W at *
  obtain ⟨z, hz, hzs⟩ : ∃ z : Array Value, #[.int .u8 0, .int .u8 0, .int .u8 0, .int .u8 0, .int .u8 0, .int .u8 0, .int .u8 0, .int .u8 0, .int .u8 0, .int .u8 0, .int .u8 0, .int .u8 0, .int .u8 0, .int .u8 0, .int .u8 0, .int .u8 0, .int .u8 0, .int .u8 0, .int .u8 0, .int .u8 0, .int .u8 0, .int .u8 0, .int .u8 0, .int .u8 0, .int .u8 0, .int .u8 0, .int .u8 0, .int .u8 0, .int .u8 0, .int .u8 0, .int .u8 0, .int .u8 0] = z ∧ z.size = 32 := ⟨_, rfl, rfl⟩
  rw [hz] at hz0
  clear hz
  go_loopw [5, 6, 7, 8, 10] (fun _ _ _ _ i wr => ∃ k : Nat, k ≤ 32 ∧ i = .int .i64 k ∧ wr.rowIs w.heap.size 52 32 (fun j => .int .u8 ((plusAt R O k j).v : Nat)) ∧ wr.heap[w.heap.size + 2]? = some (.cells z 52 (0, 0)) ∧ Below w.heap.size w wr) (fun _ _ _ _ i _ => 32 - (intOf i).toNat)
  case atStart => exact ⟨0, by omega, rfl, hr1.congr fun j _ => by rw [plusAt_zero], hz0, hb0⟩
  case round =>
    clear hr1 hz0 hb0 ho1
    obtain ⟨k, hk, rfl, hr, hzr, hb⟩ := hrel
    by_cases hlt : k < 32
    · have hload := hr.cell (i := k) hlt
      have hfz := hr.frozen k
      rw [plusAt_same] at hload
      have hix := HI.out k hlt
      have HA : Hid (∀ V, Calls Try.prog 67 #[.int .i64 ((R k).v : Nat), .int .i64 ((O k).v : Nat)] V fun e w' => e = two ((R k + O k).v, true) ∧ w' = V) := Lib.hid (fun V => by rw [← addA_G]; exact fadd_any _ _ V)
      have HS := Lib.hid (fun j => plusAt_set R O k j)
      generalize R k + O k = s at *
      have la := (R k).lt
      have lb := (O k).lt
      have ls := s.lt
      generalize (R k).v = a at *
      generalize (O k).v = b at *
      have wa : IntKind.i64.wrap (a : Int) = (a : Int) := IntWalk.i64_in _ (by omega)
      have wb : IntKind.i64.wrap (b : Int) = (b : Int) := IntWalk.i64_in _ (by omega)
      have wx : IntKind.u8.wrap ((s.v : Nat) : Int) = ((s.v : Nat) : Int) := by simp only [IntKind.wrap, IntKind.bits, IntKind.signed]; simp; omega
      go_wp2_with fail
      refine (HA.out _).mono ?_
      rintro e wr ⟨rfl, rfl⟩
      unfold two
      go_wp2
      go_roundw
      case rel =>
        refine ⟨k + 1, by omega, by go_num, (hr.set k _).congr fun j _ => ?_, ?_, hb.setCell (p := ⟨w.heap.size, k, none⟩) (by simp) _⟩
        · rw [← HS.out]
          split <;> rfl
        · exact (Below.heap_setCell _ _ _ _ (by show w.heap.size + 2 ≠ w.heap.size; omega)).trans hzr
      case measure => simp [intOf]; omega
    · obtain rfl : k = 32 := by omega
      have hg1 := row_heap hr
      rw [HF.out] at hg1
      have hinfd := row_info' (fun j => R j + O j)
      have hzd : z.size = (rowV fun j => R j + O j).size := by rw [hzs, rowV_size]
      have hall := rowV_one (fun j => R j + O j)
      obtain ⟨d, hd⟩ : ∃ d, (rowV fun j => R j + O j) = d := ⟨_, rfl⟩
      have HD := Lib.hid hd
      rw [hd] at hg1 hinfd hzd hall
      clear hd
      go_wp2_with (first
        | (refine wpList_load_row rfl _ _ rfl w.heap.size rfl _ _ _ _ hg1 Try.underlying52 rfl hinfd ?_)
        | (refine wpList_store_row rfl _ _ _ rfl (w.heap.size + 2) _ rfl rfl _ _ hzr hinfd hzd hall ?_))
      exact bodyPost_ret (v := .agg d) (results_cell_row rfl _ _ (w.heap.size + 2) _ _ _ _ rfl (setRow_heap _ _ _ _ _ _ hzr) Try.underlying52 rfl hinfd) rfl ⟨by rw [HD.out], hb.setRow (by omega) _⟩

/-! ### times -/
theorem bytesA_txt (a : Int) (ha : dig a = true) (R : Nat → Gf.G) : bytesA a (txt R) = (txt (fun j => toG a * R j), true) := by
  rw [bytesA, if_pos ha]
  congr 1
  unfold txt
  congr 2
  show (txtL R).map _ = _
  unfold txtL
  rw [List.map_map]
  refine List.map_congr_left fun j _ => ?_
  obtain ⟨n, rfl, hn⟩ := dig_nat ha
  have h := (R j).lt
  show UInt8.ofNat (Gf.mulG _ (UInt8.ofNat (R j).v).toNat) = UInt8.ofNat (toG (n : Int) * R j).v
  rw [UInt8.toNat_ofNat', Nat.mod_eq_of_lt h, toG_nat hn]
  rfl
set_option maxHeartbeats 1000000 in
theorem stimes_any (R : Nat → Gf.G) (g : Nat) (a : Int) (ha : dig a = true) (w : World) (hf : Fld w g) :
    Calls Try.prog 44 #[.agg (rowV R), .pointer (some ⟨g, 0, none⟩), .int .i64 a] w fun e w' => e = .returned (.agg (rowV fun j => toG a * R j)) ∧ Below w.heap.size w w' := by
  obtain ⟨d2, hd2⟩ : ∃ d, (rowV fun j => toG a * R j) = d := ⟨_, rfl⟩
  obtain ⟨r2, hr2⟩ : ∃ r, (txt fun j => toG a * R j) = r := ⟨_, rfl⟩
  have HT : Hid (∀ V, Calls Try.prog 25 #[.agg (rowV R)] V fun e w' => e = .returned (.string (txt R)) ∧ Below V.heap.size V w') := Lib.hid (fun V => text_any R V)
  have HB : Hid (∀ V, Fld V g → Calls Try.prog 68 #[.pointer (some ⟨g, 0, none⟩), .int .i64 a, .string (txt R)] V fun e w' => e = strB (r2, true) ∧ Below V.heap.size V w') := Lib.hid (fun V hV => by
    have := fbytes_any g a (txt R) (by rw [txt_size]; omega) V hV
    rw [bytesA_txt a ha, hr2] at this
    exact this)
  have HO : Hid (∀ V, Calls Try.prog 41 #[.string r2] V fun e w' => e = .returned (.agg d2) ∧ Below V.heap.size V w') := Lib.hid (fun V => by
    have := rowOf_any r2 (by rw [← hr2, txt_size]) V
    rw [← hd2, ← rowV_congr (R := gOf r2) (fun j hj => by rw [← hr2, gOf_txt _ hj])]
    exact this)
  have hinfR := row_info' R
  have hinfd := row_info' (fun j => toG a * R j)
  have hall := rowV_one (fun j => toG a * R j)
  have hzd : zero32.size = (rowV fun j => toG a * R j).size := by rw [rowV_size]; rfl
  rw [hd2] at hinfd hall hzd
  have HD := Lib.hid hd2
  clear hd2 hr2
  have hg0 : (w.alloc (.cells (rowV R) 52)).heap[w.heap.size]? = some (.cells (rowV R) 52 (0, 0)) := heap_alloc_new w _
  have hg1 := (Below.heap_alloc _ (.cells zero32 52) _ (Array.getElem?_eq_some_iff.1 hg0).1).trans hg0
  have hz1 : ((w.alloc (.cells (rowV R) 52)).alloc (.cells zero32 52)).heap[w.heap.size + 1]? = some (.cells zero32 52 (0, 0)) := by
    have := heap_alloc_new (w.alloc (.cells (rowV R) 52)) (.cells zero32 52)
    rwa [World.size_alloc] at this
  have hb1 : Below w.heap.size w ((w.alloc (.cells (rowV R) 52)).alloc (.cells zero32 52)) := (Below.alloc0 _ _).al _
  have hf1 := hf.keep hb1
  clear hg0 hf
  generalize txt R = r at *
  generalize rowV R = dR at *
  unfold zero32 at hg1 hz1 hb1 hf1 hzd
  go_enter Try.func44, Try.ntmps44
  go_wp2_with (refine wpList_load_row rfl _ _ rfl w.heap.size rfl _ _ _ _ hg1 Try.underlying52 rfl hinfR ?_)
  have hlt := (Array.getElem?_eq_some_iff.1 hz1).1
  generalize World.alloc (World.alloc w _) _ = W at *
  refine (HT.out _).mono ?_
  rintro e w1 ⟨rfl, hb2⟩
  have hz2 := (hb2.block _ hlt).trans hz1
  have hf2 := hf1.keep hb2
  replace hb1 := hb1.next' hb2
  clear hf1 hg1
  have hlt := (Array.getElem?_eq_some_iff.1 hz2).1
  go_wp2_with fail
  refine (HB.out _ hf2).mono ?_
  rintro e w2 ⟨rfl, hb3⟩
  unfold strB
  have hz3 := (hb3.block _ hlt).trans hz2
  replace hb1 := hb1.next' hb3
  clear hf2 hz2 hz1 hb2
  have hlt := (Array.getElem?_eq_some_iff.1 hz3).1
  go_wp2_with fail
  refine (HO.out _).mono ?_
  rintro e w3 ⟨rfl, hb4⟩
  have hz4 := (hb4.block _ hlt).trans hz3
  replace hb1 := hb1.next' hb4
  clear hz3 hb3 hb4
  go_wp2_with (refine wpList_store_row rfl _ _ _ rfl (w.heap.size + 1) _ rfl rfl _ _ hz4 hinfd hzd hall ?_)
  exact bodyPost_ret (v := .agg d2) (results_cell_row rfl _ _ (w.heap.size + 1) _ _ _ _ rfl (setRow_heap _ _ _ _ _ _ hz4) Try.underlying52 rfl hinfd) rfl ⟨by rw [HD.out], hb1.setRow (by omega) _⟩
end Go.Proofs.Ytljckcegcfidoaa
