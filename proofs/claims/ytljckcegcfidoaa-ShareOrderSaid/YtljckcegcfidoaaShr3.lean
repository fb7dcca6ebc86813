/-
  share: the contract of Split.
-/
import Derived.Test.YtljckcegcfidoaaShr1
import Derived.Test.YtljckcegcfidoaaShr2
import Derived.Lib.LazyBuf
import Derived.Deep.MidRow
namespace Go.Proofs.Ytljckcegcfidoaa
open Go.RowKit Go.Kx
set_option maxRecDepth 20000

/-! ### mathematics -/
def okS (s : ByteArray) (n k : Int) (t : ByteArray) : Prop := s.size = 32 ∧ 1 ≤ n ∧ n ≤ 255 ∧ 1 ≤ k ∧ k ≤ n ∧ (t.size : Int) = 32 * (k - 1)
/-- Byte j of the share at place i (X is one more). -/
def shY (p : ByteArray) (k i j : Nat) : Gf.G := Gf.ev (polG p j k) (toG ((i : Int) + 1))
def splL (p : ByteArray) (n k : Nat) : List Sh := (List.range n).map fun i : Nat => ((i : Int) + 1, txt (shY p k i))
theorem splL_at (p : ByteArray) (n k i : Nat) (h : i < n) : (splL p n k).getD i sh0 = ((i : Int) + 1, txt (shY p k i)) := by simp [splL, List.getD, h]
theorem splL_length (p : ByteArray) (n k : Nat) : (splL p n k).length = n := by simp [splL]
/-- The rows while they are filled: those columns below j, and of column j those rows below i. -/
def fillG (Y : Nat → Nat → Gf.G) (jc ic i j : Nat) : Gf.G := if j < jc ∨ (j = jc ∧ i < ic) then Y i j else 0
def fillF (Y : Nat → Nat → Gf.G) (jc ic q : Nat) : Value := .int .u8 ((fillG Y jc ic (q / 32) (q % 32)).v : Nat)
theorem fillF_zero (Y : Nat → Nat → Gf.G) (q : Nat) : fillF Y 0 0 q = .int .u8 0 := by
  unfold fillF fillG
  rw [if_neg (by omega)]
  rfl
theorem fillF_set (Y : Nat → Nat → Gf.G) (jc ic q : Nat) (hj : jc < 32) : (if q = ic * 32 + jc then Value.int .u8 ((Y ic jc).v : Nat) else fillF Y jc ic q) = fillF Y jc (ic + 1) q := by
  unfold fillF fillG
  by_cases h : q = ic * 32 + jc
  · rw [if_pos h, if_pos (by omega), show q / 32 = ic by omega, show q % 32 = jc by omega]
  · rw [if_neg h]
    by_cases h2 : q % 32 < jc ∨ (q % 32 = jc ∧ q / 32 < ic)
    · rw [if_pos h2, if_pos (by omega)]
    · rw [if_neg h2, if_neg (by omega)]
theorem fillF_next (Y : Nat → Nat → Gf.G) (n jc q : Nat) (hq : q < n * 32) : fillF Y jc n q = fillF Y (jc + 1) 0 q := by
  unfold fillF fillG
  by_cases h2 : q % 32 < jc ∨ (q % 32 = jc ∧ q / 32 < n)
  · rw [if_pos h2, if_pos (by omega)]
  · rw [if_neg h2, if_neg (by omega)]
/-- A row out of the whole. -/
theorem fill_row (Y : Nat → Nat → Gf.G) {w : World} {N n : Nat} {t : TypeId} (h : w.rowIs N t (n * 32) (fillF Y 32 0)) {i : Nat} (hi : i < n) : w.rangeAt N (i * 32) (rowV (Y i)).toList := by
  intro j v hv
  have hj : j < 32 := by
    have := (List.getElem?_eq_some_iff.1 hv).1
    simpa [rowV_size] using this
  rw [Array.getElem?_toList, rowV_at _ hj] at hv
  rw [h.cell (i := i * 32 + j) (by omega)]
  unfold fillF fillG
  rw [if_pos (by omega), show (i * 32 + j) / 32 = i by omega, show (i * 32 + j) % 32 = j by omega]
  exact hv
/-- The shares while they are filled. -/
def doneC (L : List Sh) (i q : Nat) : Value := if q / 2 < i then shC (L.getD (q / 2) sh0) (q % 2) else shC sh0 (q % 2)
theorem doneC_set (L : List Sh) (i q : Nat) : (if q = i * 2 + 1 then Value.string (L.getD i sh0).2 else if q = i * 2 then Value.int .i64 (L.getD i sh0).1 else doneC L i q) = doneC L (i + 1) q := by
  unfold doneC
  by_cases h : q = i * 2 + 1
  · rw [if_pos h, if_pos (by omega), show q / 2 = i by omega, show q % 2 = 1 by omega]
    rfl
  · rw [if_neg h]
    by_cases h1 : q = i * 2
    · rw [if_pos h1, if_pos (by omega), show q / 2 = i by omega, show q % 2 = 0 by omega]
      rfl
    · rw [if_neg h1]
      by_cases h2 : q / 2 < i
      · rw [if_pos h2, if_pos (by omega)]
      · rw [if_neg h2, if_neg (by omega)]
theorem done_sl {L : List Sh} {w : World} {M : Nat} {t : TypeId} (h : w.rowIs M t (L.length * 2) (doneC L L.length)) : Sl w (some ⟨M, 0, none⟩) (shV L) := by
  refine .inr ⟨M, 0, rfl, h.lt, fun j u hu => ?_⟩
  have hj : j < L.length * 2 := by
    have := (List.getElem?_eq_some_iff.1 hu).1
    rwa [shV_length] at this
  rw [Nat.zero_add, h.cell hj, doneC, if_pos (by omega), ← hu, shV_at, if_pos hj]
theorem rows_info : (Try.prog.info? 52).map (fun i => (i.zero, i.size, i.bytes)) = some (some (.agg zero32), 32, 32) := by kernel_rfl
theorem shares_info : (Try.prog.info? 39).map (fun i => (i.zero, i.size, i.bytes)) = some (some (.agg #[.int .i64 0, .string ⟨#[]⟩]), 2, 24) := by kernel_rfl
theorem run_make_rows (n : Nat) (hn : n ≤ 255) (w : World) : (Instr.makeSlice 47 (.int .i64 (n : Int)) (.int .i64 (n : Int))).run Try.prog w = .ok (.slice (some ⟨w.heap.size, 0, none⟩) n n) (w.alloc (.cells (madeCells zero32 (n * 32)) 52)) := by
  obtain ⟨i, hi, hzz⟩ := Option.map_eq_some_iff.1 rows_info
  simp only [Prod.mk.injEq] at hzz
  obtain ⟨hz, hs, hb⟩ := hzz
  have hr := run_make (P := Try.prog) w 47 52 i _ Try.underlying47 hi hz .i64 .i64 n n (by omega) (Int.le_refl _) (by rw [hb]; omega) (by omega)
  rw [hs] at hr
  simpa [Value.cells] using hr
theorem run_make_shares (n : Nat) (hn : n ≤ 255) (w : World) : (Instr.makeSlice 22 (.int .i64 (n : Int)) (.int .i64 (n : Int))).run Try.prog w = .ok (.slice (some ⟨w.heap.size, 0, none⟩) n n) (w.alloc (.cells (madeCells #[.int .i64 0, .string ⟨#[]⟩] (n * 2)) 39)) := by
  obtain ⟨i, hi, hzz⟩ := Option.map_eq_some_iff.1 shares_info
  simp only [Prod.mk.injEq] at hzz
  obtain ⟨hz, hs, hb⟩ := hzz
  have hr := run_make (P := Try.prog) w 22 39 i _ Try.underlying22 hi hz .i64 .i64 n n (by omega) (Int.le_refl _) (by rw [hb]; omega) (by omega)
  rw [hs] at hr
  simpa [Value.cells] using hr
theorem made_rows (Y : Nat → Nat → Gf.G) (n : Nat) (w : World) : (w.alloc (.cells (madeCells zero32 (n * 32)) 52)).rowIs w.heap.size 52 (n * 32) (fillF Y 0 0) := by
  have h := World.rowIs_alloc w (madeCells zero32 (n * 32)) 52 (fillF Y 0 0) (fun i hi => by
    rw [size_madeCells] at hi
    rw [fillF_zero, madeCells, Array.getElem?_map, Array.getElem?_range, if_pos hi]
    show some (zero32[i % 32]!) = _
    have : i % 32 < zero32.size := Nat.mod_lt _ (by decide)
    rw [getElem!_pos zero32 (i % 32) this]
    have h2 : ∀ r, r < 32 → zero32[r]? = some (.int .u8 0) := fun r hr => by rw [zero32_eq, List.getElem?_toArray, List.getElem?_replicate, if_pos hr]
    have h3 := h2 (i % 32) (Nat.mod_lt _ (by decide))
    rwa [Array.getElem?_eq_getElem this] at h3)
  rwa [size_madeCells] at h
theorem made_shares (L : List Sh) (n : Nat) (w : World) : (w.alloc (.cells (madeCells #[.int .i64 0, .string ⟨#[]⟩] (n * 2)) 39)).rowIs w.heap.size 39 (n * 2) (doneC L 0) := by
  have h := World.rowIs_alloc w (madeCells #[.int .i64 0, .string ⟨#[]⟩] (n * 2)) 39 (doneC L 0) (fun i hi => by
    rw [size_madeCells] at hi
    rw [doneC, if_neg (by omega), madeCells, Array.getElem?_map, Array.getElem?_range, if_pos hi]
    show some ((#[Value.int .i64 0, .string ⟨#[]⟩] : Array Value)[i % 2]!) = _
    rcases (show i % 2 = 0 ∨ i % 2 = 1 by omega) with e | e <;> rw [e] <;> rfl)
  rwa [size_madeCells] at h

/-! ### Split -/
def shEnd (A : Option Addr) (n c : Nat) (e : Int) : Ending := .returned (.tuple #[.slice A n c, .int .i64 e])
theorem split_no (s : ByteArray) (n k : Int) (t : ByteArray) (h : ¬ okS s n k t) (w : World) : Calls Try.prog 9 #[.string s, .int .i64 n, .int .i64 k, .string t] w fun e w' => e = shEnd none 0 0 1 ∧ w' = w := by
  by_cases h1 : (s.size : Int) = 32
  rotate_left
  · have t1 : ((s.size : Int) != 32) = true := by simpa using h1
    go_enter Try.func9, Try.ntmps9
    go_wp2
    go_ret2
    exact ⟨rfl, rfl⟩
  have t1 : ((s.size : Int) != 32) = false := by simpa using h1
  by_cases h2 : n < 1
  · clear h1
    go_enter Try.func9, Try.ntmps9
    go_wp2
    go_ret2
    exact ⟨rfl, rfl⟩
  by_cases h3 : n > 255
  · clear h1
    go_enter Try.func9, Try.ntmps9
    go_wp2
    go_ret2
    exact ⟨rfl, rfl⟩
  by_cases h4 : k < 1
  · clear h1
    go_enter Try.func9, Try.ntmps9
    go_wp2
    go_ret2
    exact ⟨rfl, rfl⟩
  by_cases h5 : k > n
  · clear h1
    go_enter Try.func9, Try.ntmps9
    go_wp2
    go_ret2
    exact ⟨rfl, rfl⟩
  have h6 : (t.size : Int) ≠ 32 * (k - 1) := fun e => h ⟨by omega, by omega, by omega, by omega, by omega, e⟩
  have t6 : ((t.size : Int) != 32 * (k - 1)) = true := by simpa using h6
  clear h h1 h6
  go_enter Try.func9, Try.ntmps9
  go_wp2
  go_ret2
  exact ⟨rfl, rfl⟩
set_option maxHeartbeats 4000000 in
theorem split_yes (s : ByteArray) (n k : Nat) (t : ByteArray) (h1 : s.size = 32) (h2 : 1 ≤ n) (h3 : n ≤ 255) (h4 : 1 ≤ k) (h5 : k ≤ n) (h6 : t.size = 32 * (k - 1)) (w : World) :
    Calls Try.prog 9 #[.string s, .int .i64 (n : Int), .int .i64 (k : Int), .string t] w fun e w' => (∃ A c, e = shEnd A n c 0 ∧ Sl w' A (shV (splL (s ++ t) n k))) ∧ Below w.heap.size w w' := by
  have t1 : ((s.size : Int) != 32) = false := by simp; omega
  have t6 : ((t.size : Int) != 32 * ((k : Int) - 1)) = false := by simp; omega
  obtain ⟨p, hp⟩ : ∃ p, s ++ t = p := ⟨_, rfl⟩
  have hps : p.size = 32 * k := by rw [← hp, ByteArray.size_append]; omega
  have hrun : ∀ W : World, (Op.stringOp .add s t).run Try.prog W = .ok (.string p) W := fun W => by rw [run_string_add_sum W _ _ (by omega), hp]
  rw [hp]
  clear hp
  obtain ⟨L, hL⟩ : ∃ L, splL p n k = L := ⟨_, rfl⟩
  have hLn : L.length = n := by rw [← hL, splL_length]
  have HLN := Lib.hid hLn
  have HLI : Hid (∀ i, i < n → L.getD i sh0 = ((i : Int) + 1, txt (shY p k i))) := Lib.hid (fun i hi => by rw [← hL]; simp [splL, List.getD, hi])
  rw [hL]
  clear hL hLn
  have hmk := run_make_rows n h3
  have hmk2 := run_make_shares n h3
  have HPS := Lib.hid hps
  have hn1 : ¬ (n : Int) < 1 := by omega
  have hn2 : ¬ (n : Int) > 255 := by omega
  have hk1 : ¬ (k : Int) < 1 := by omega
  have hk2 : ¬ (k : Int) > n := by omega
  clear h1 hps
  go_enter Try.func9, Try.ntmps9
  go_wp2_with fail
  refine (polynomials_any p _).mono ?_
  rintro e w1 ⟨rfl, hP, hb1⟩
  go_wp2
  have hrow : (w1.alloc (.cells (madeCells zero32 (n * 32)) 52)).rowIs w1.heap.size 52 (n * 32) (fillF (shY p k) 0 0) := made_rows _ _ _
  have hk1' := Below.alloc0 w1 (.cells (madeCells zero32 (n * 32)) 52)
  have hP0 := hP
  replace hP := (hk1'.cell (p := ⟨w.heap.size, 0, none⟩) (block_lt_of_cell hP)).trans hP
  have hNN : w.heap.size ≤ w1.heap.size := hb1.size
  have hb := hb1.next' hk1'
  have hNe : w.heap.size < w1.heap.size := block_lt_of_cell hP0
  clear hb1 hk1'
  generalize World.alloc w1 _ = W at *
  generalize w1.heap.size = N at *
  go_loopw [54] (fun i wr => ∃ j : Nat, j ≤ 32 ∧ i = .int .i64 (j : Int) ∧ wr.rowIs N 52 (n * 32) (fillF (shY p k) j 0) ∧ wr.cell? ⟨w.heap.size, 0, none⟩ = some (.string p) ∧ Below w.heap.size w wr) (fun i _ => 32 - (intOf i).toNat)
  case atStart => exact ⟨0, by omega, rfl, hrow, hP, hb⟩
  case round =>
    clear hrow hP hb
    obtain ⟨j, hj, rfl, hr, hPr, hb⟩ := hrel
    by_cases hlt : j < 32
    · go_wp2_with fail
      refine (digits_any p j k HPS.out hlt (by omega) w.heap.size _ hPr).mono ?_
      rintro e w2 ⟨⟨A, c, rfl, hs, hA⟩, hb2⟩
      replace hA := hA.ne (N := N) hr.lt
      have hr2 := rowIs_keep hr hb2
      have hP2 := (hb2.cell (p := ⟨w.heap.size, 0, none⟩) (block_lt_of_cell hPr)).trans hPr
      replace hb := hb.next' hb2
      clear hr hPr hb2 hP0
      have HEV : Hid (∀ V (i : Nat), i < n → Sl V A (intsI (polI p j k)) → Calls Try.prog 24 #[.slice A k c, .int .i64 ((i : Int) + 1)] V fun e w' => e = two ((shY p k i j).v, true) ∧ Below V.heap.size V w') := Lib.hid (fun V i hi hV => by
        have h := eval_any (polI p j k) ((i : Int) + 1) A c (by rw [polI_length]; omega) V hV
        have hd : dig ((i : Int) + 1) = true := by simp [dig]; omega
        rw [evalA, if_pos ⟨by rw [polI_length]; omega, dig_polI _ _ _, hd⟩, gs_polI, polI_length] at h
        exact h)
      go_wp2
      have hsz2 := block_lt_of_cell hP2
      go_loopw [62] (fun i wr => ∃ i' : Nat, i' ≤ n ∧ i = .int .i64 (i' : Int) ∧ wr.rowIs N 52 (n * 32) (fillF (shY p k) j i') ∧ wr.cell? ⟨w.heap.size, 0, none⟩ = some (.string p) ∧ Sl wr A (intsI (polI p j k)) ∧ Below w.heap.size w wr) (fun i _ => n - (intOf i).toNat)
      case atStart => exact ⟨0, by omega, rfl, hr2, hP2, hs, hb⟩
      case round =>
        clear hr2 hP2 hb hs
        obtain ⟨i, hi, rfl, hr, hPr, hs, hb⟩ := hrel
        by_cases hli : i < n
        · obtain ⟨y, hy⟩ : ∃ y, shY p k i j = y := ⟨_, rfl⟩
          have HE := Lib.hid (HEV.out wr i hli hs)
          have HSET := Lib.hid (fun q => fillF_set (shY p k) j i q hlt)
          rw [hy] at HE HSET
          clear hy
          have hyl := y.lt
          have hym : ((y.v : Nat) : Int) % 256 = (y.v : Nat) := by omega
          go_wp2_with fail
          refine HE.out.mono ?_
          rintro e w3 ⟨rfl, hb3⟩
          unfold two
          replace hs := hs.keep hb3
          replace hPr := (hb3.cell (p := ⟨w.heap.size, 0, none⟩) (block_lt_of_cell hPr)).trans hPr
          replace hr := rowIs_keep hr hb3
          replace hb := hb.next' hb3
          clear hb3 HE
          have hload := hr.cell (i := i * 32 + j) (by omega)
          have hfz := hr.frozen (i * 32 + j)
          go_wp2
          go_roundw
          case rel => exact ⟨i + 1, by omega, by go_num, (hr.set (i * 32 + j) _).congr fun q _ => HSET.out q, (World.cell?_setCell_other _ _ _ _ (by intro e; have := congrArg Addr.block e; dsimp only at this; omega)).trans hPr, hs.setA hA _ _, hb.setCell (by show w.heap.size ≤ N; omega) _⟩
          case measure => simp [intOf]; omega
        · obtain rfl : i = n := by omega
          replace hr := hr.congr fun q hq => fillF_next (shY p k) i j q hq
          go_wp2
          go_roundw
          case rel => exact ⟨j + 1, by omega, by go_num, hr, hPr, hb⟩
          case measure => simp [intOf]; omega
    · have hj32 : j = 32 := by omega
      rw [hj32] at hr
      clear hPr hj32
      have hM := made_shares L n wr
      have hkm := Below.alloc0 wr (.cells (madeCells #[.int .i64 0, .string ⟨#[]⟩] (n * 2)) 39)
      have hr2 := rowIs_keep hr hkm
      have hb2 := hb.next' hkm
      have hNM : N < wr.heap.size := hr.lt
      have hMg : w.heap.size ≤ wr.heap.size := hb.size
      go_wp2
      clear hr hb hkm
      generalize World.alloc wr _ = W2 at *
      generalize wr.heap.size = M at *
      go_loopw [85] (fun i wr => ∃ i' : Nat, i' ≤ n ∧ i = .int .i64 (i' : Int) ∧ wr.rowIs N 52 (n * 32) (fillF (shY p k) 32 0) ∧ wr.rowIs M 39 (n * 2) (doneC L i') ∧ Below w.heap.size w wr) (fun i _ => n - (intOf i).toNat)
      case atStart => exact ⟨0, by omega, rfl, hr2, hM, hb2⟩
      case round =>
        clear hr2 hM hb2
        obtain ⟨i, hi, rfl, hr, hM, hb⟩ := hrel
        by_cases hli : i < n
        · obtain ⟨d, hd⟩ : ∃ d, rowV (shY p k i) = d := ⟨_, rfl⟩
          have hrg := fill_row (shY p k) hr hli
          have HT := Lib.hid (fun V => text_any (shY p k i) V)
          have hinfd := row_info' (shY p k i)
          have hall := rowV_one (shY p k i)
          have hzd : zero32.size = (rowV (shY p k i)).size := by rw [rowV_size]; rfl
          have hll := HLI.out i hli
          have HSET := Lib.hid (fun q => doneC_set L i q)
          rw [hll] at HSET
          rw [hd] at hrg HT hinfd hall hzd
          generalize txt (shY p k i) = x at *
          clear hd hll
          have hinfl : (Try.prog.info? 52).map (·.size) = some d.toList.length := hinfd
          have hz : (wr.alloc (.cells zero32 52)).heap[wr.heap.size]? = some (.cells zero32 52 (0, 0)) := heap_alloc_new _ _
          have hd1 := setRow_heap _ wr.heap.size _ d _ _ hz
          have hkz := (Below.alloc0 wr (.cells zero32 52)).setRow (Nat.le_refl _) d
          have hr3 := rowIs_keep hr hkz
          have hM3 := rowIs_keep hM hkz
          have hb3 := hb.next' hkz
          unfold zero32 at hz hd1 hzd hr3 hM3 hb3
          clear hkz
          go_wp2_with (first
            | (refine wpList_load_mid rfl _ _ rfl N (i * 32) rfl _ _ hrg Try.underlying52 rfl hinfl ?_)
            | (refine wpList_store_row rfl _ _ _ rfl wr.heap.size d rfl rfl _ _ hz hinfd hzd hall ?_)
            | (refine wpList_load_row rfl _ _ rfl wr.heap.size rfl _ _ _ _ hd1 Try.underlying52 rfl hinfd ?_))
          clear hr hM hb hz hd1 hrg
          generalize World.setRow _ _ d = W4 at *
          refine (HT.out _).mono ?_
          rintro e w4 ⟨rfl, hb4⟩
          replace hr3 := rowIs_keep hr3 hb4
          replace hM3 := rowIs_keep hM3 hb4
          replace hb3 := hb3.next' hb4
          clear hb4
          have hl0 := hM3.cell (i := i * 2) (by omega)
          have hl1 := hM3.cell (i := i * 2 + 1) (by omega)
          have hf0 := hM3.frozen (i * 2)
          have hf1 := hM3.frozen (i * 2 + 1)
          generalize doneC L i (i * 2) = c0 at hl0
          generalize doneC L i (i * 2 + 1) = c1 at hl1
          go_wp2
          go_roundw
          case rel => exact ⟨i + 1, by omega, by go_num, (hr3.setOther (by show N ≠ M; omega) _).setOther (by show N ≠ M; omega) _, ((hM3.set (i * 2) _).set (i * 2 + 1) _).congr fun q _ => HSET.out q, (hb3.setCell (by show w.heap.size ≤ M; omega) _).setCell (by show w.heap.size ≤ M; omega) _⟩
          case measure => simp [intOf]; omega
        · obtain rfl : i = n := by omega
          have hM' : wr.rowIs M 39 (L.length * 2) (doneC L L.length) := by rw [HLN.out]; exact hM
          have hsl := done_sl hM'
          go_wp2
          go_ret2
          exact ⟨⟨_, _, rfl, hsl⟩, hb⟩
theorem splits_any (s : ByteArray) (n k : Int) (t : ByteArray) (w : World) :
    (¬ okS s n k t ∧ Calls Try.prog 9 #[.string s, .int .i64 n, .int .i64 k, .string t] w fun e w' => e = shEnd none 0 0 1 ∧ w' = w) ∨
    (okS s n k t ∧ Calls Try.prog 9 #[.string s, .int .i64 n, .int .i64 k, .string t] w fun e w' => (∃ A c, e = shEnd A n.toNat c 0 ∧ Sl w' A (shV (splL (s ++ t) n.toNat k.toNat))) ∧ Below w.heap.size w w') := by
  by_cases h : okS s n k t
  · refine .inr ⟨h, ?_⟩
    obtain ⟨h1, h2, h3, h4, h5, h6⟩ := h
    obtain ⟨n', rfl⟩ : ∃ m : Nat, n = m := ⟨n.toNat, by omega⟩
    obtain ⟨k', rfl⟩ : ∃ m : Nat, k = m := ⟨k.toNat, by omega⟩
    exact split_yes s n' k' t h1 (by omega) (by omega) (by omega) (by omega) (by omega) w
  · exact .inl ⟨h, split_no s n k t h w⟩
theorem okS_nat {s : ByteArray} {n k : Int} {t : ByteArray} (h : okS s n k t) : ∃ n' k' : Nat, n = n' ∧ k = k' ∧ 1 ≤ n' ∧ n' ≤ 255 ∧ 1 ≤ k' ∧ k' ≤ n' ∧ s.size = 32 ∧ t.size = 32 * (k' - 1) := by
  obtain ⟨h1, h2, h3, h4, h5, h6⟩ := h
  exact ⟨n.toNat, k.toNat, by omega, by omega, by omega, by omega, by omega, by omega, h1, by omega⟩
end Go.Proofs.Ytljckcegcfidoaa
