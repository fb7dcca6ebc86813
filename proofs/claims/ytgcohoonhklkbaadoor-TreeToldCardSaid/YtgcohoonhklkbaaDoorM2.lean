/-
  Merged by program: Trf4, Dig1, Dig2, Tq1, Tq2, Tq3, Tq4, Trf5, Trf6.
-/
import Derived.Test.YtgcohoonhklkbaaDoorM1
import Derived.Laws.Rows
import Derived.Laws.Alloc2
import Derived.Deep.QuietTactic
import Derived.BigQuiet
import Derived.Deep.MidRow

/-
  keyholeref11: rows of strings in a slice of slices; the contract of Rows.
-/
namespace Go.Proofs.YtgcohoonhklkbaaDoor
open Go.RowKit Go.Kx Go.Trm
set_option maxRecDepth 20000

theorem texts_info : (Tryd.prog.info? 22).map (fun i => (i.zero, i.size, i.bytes)) = some (some (.slice none 0 0), 1, 24) := by kernel_rfl
/-- A row k of digests, as strings. -/
def rowB (l : List ByteArray) (k : Nat) : List ByteArray := (rowL sumL (txtsL l) k).map toB
theorem rowB_length (l : List ByteArray) {d k : Nat} (hl : l.length = 2 ^ d) (hk : k ≤ d) : (rowB l k).length = 2 ^ (d - k) := by
  rw [rowB, List.length_map, rowL_length sumL (txtsL l) (by rw [txtsL_length]; exact hl) k hk]
theorem rowB_zero (l : List ByteArray) {j : Nat} (h : j < l.length) : (rowB l 0)[j]? = some (toB (leafL sumL l[j].data.toList)) := by
  simp [rowB, rowL, txtsL, List.getElem?_eq_getElem h]
theorem rowB_get (l : List ByteArray) {k j : Nat} {x : ByteArray} (h : (rowB l k)[j]? = some x) : (rowL sumL (txtsL l) k).getD j [] = x.data.toList := by
  rw [rowB, List.getElem?_map] at h
  obtain ⟨y, hy, rfl⟩ := Option.map_eq_some_iff.1 h
  rw [List.getD, hy, toB_list]
  rfl
theorem rowB_len32 (l : List ByteArray) {d k : Nat} (hl : l.length = 2 ^ d) (hk : k ≤ d) {j : Nat} {x : ByteArray} (h : (rowB l k)[j]? = some x) : x.size = 32 := by
  have hg := rowB_get l h
  have hj := (List.getElem?_eq_some_iff.1 h).1
  rw [rowB_length l hl hk] at hj
  have hx : x.size = x.data.toList.length := by simp
  rw [hx, ← hg]
  cases k with
  | zero =>
    rw [rowL, List.getD, List.getElem?_map, List.getElem?_eq_getElem (by rw [txtsL_length, hl]; exact hj)]
    exact sumT_length _
  | succ k =>
    rw [rowL_get sumL (txtsL l) (by rw [txtsL_length]; exact hl) k j (by omega) hj]
    exact sumT_length _
theorem rowB_succ (l : List ByteArray) {d k j : Nat} (hl : l.length = 2 ^ d) (hk : k < d) (hj : j < 2 ^ (d - (k + 1))) {a b : ByteArray} (ha : (rowB l k)[2 * j]? = some a) (hb : (rowB l k)[2 * j + 1]? = some b) :
    (rowB l (k + 1))[j]? = some (toB (nodeL sumL a.data.toList b.data.toList)) := by
  have hlen := rowB_length l hl (k := k + 1) (by omega)
  rw [List.getElem?_eq_getElem (by omega)]
  congr 1
  have h1 := rowL_get sumL (txtsL l) (by rw [txtsL_length]; exact hl) k j hk hj
  rw [rowB_get l ha, rowB_get l hb] at h1
  rw [← h1]
  simp only [rowB, List.getElem_map, List.getD]
  rw [List.getElem?_eq_getElem (by rw [rowB, List.length_map] at hlen; omega)]
  rfl
theorem strs_snoc (l : List ByteArray) {k : Nat} {x : ByteArray} (h : l[k]? = some x) : strsV (l.take k) ++ [Value.string x] = strsV (l.take (k + 1)) := by
  rw [strsV_snoc, List.take_add_one, h]
  rfl

/-! ### a row in memory -/
/-- The value is a slice over a block whose cells are these strings. -/
def RowAt (w : World) (v : Value) (row : List ByteArray) : Prop := ∃ g c, v = .slice (some ⟨g, 0, none⟩) row.length c ∧ g < w.heap.size ∧ ∀ j x, row[j]? = some x → w.cell? ⟨g, j, none⟩ = some (.string x)
theorem RowAt.keep {w w' : World} {v : Value} {row : List ByteArray} (h : RowAt w v row) (hb : Below w.heap.size w w') : RowAt w' v row := by
  obtain ⟨g, c, rfl, hg, hc⟩ := h
  exact ⟨g, c, rfl, Nat.lt_of_lt_of_le hg hb.size, fun j x hx => (hb.cell (p := ⟨g, j, none⟩) hg).trans (hc j x hx)⟩
theorem RowAt.own {W : World} {B : Nat} {v : Value} {n : Nat} {row : List ByteArray} (h : W.ownsRow B 9 1 v n (strsV row)) (h0 : 0 < n) : RowAt W v row := by
  obtain ⟨g, c, rfl, hg, _, hl, hc⟩ := own_join h h0
  exact ⟨g, c, by rw [hl], hg, fun j x hx => by have := hc j x hx; rwa [Nat.zero_add] at this⟩
/-- What a slice owns, cell by cell. -/
theorem own_vals {W : World} {B : Nat} {e : TypeId} {v : Value} {n : Nat} {xs : List Value} (h : W.ownsRow B e 1 v n xs) (h0 : 0 < n) :
    ∃ g c, v = .slice (some ⟨g, 0, none⟩) n c ∧ g < W.heap.size ∧ xs.length = n ∧ ∀ (j : Nat) x, xs[j]? = some x → W.cell? ⟨g, j, none⟩ = some x := by
  have hl : xs.length = n := by have := h.1; simpa using this
  rcases h.2 with ⟨_, rfl⟩ | ⟨g, cap, cur, rfl, hg, hh, hc, hm, hs, ht⟩
  · omega
  · refine ⟨g, cap, rfl, (Array.getElem?_eq_some_iff.1 hh).1, hl, fun j x hx => ?_⟩
    rw [cell_of_row _ _ _ _ _ _ hh]
    rw [← ht, List.getElem?_take] at hx
    split at hx
    · simpa using hx
    · cases hx
/-- The rows 0 to k of a text row, in a slice of slices. -/
def RowsAt (w : World) (vs : List Value) (l : List ByteArray) : Prop := ∀ k v, vs[k]? = some v → RowAt w v (rowB l k)
theorem RowsAt.keep {w w' : World} {vs : List Value} {l : List ByteArray} (h : RowsAt w vs l) (hb : Below w.heap.size w w') : RowsAt w' vs l := fun k v hv => (h k v hv).keep hb
/-- An append to the outer slice leaves a row that is not empty. -/
theorem RowAt.grown {w w' : World} {v u : Value} {row : List ByteArray} {B n : Nat} {e : TypeId} {vs : List Value} (h : RowAt w v row) (h0 : 0 < row.length) (hown : w.ownsRow B e 1 u n vs) (hvs : ∀ x ∈ vs, ∃ a n c, x = .slice a n c) (hn : 0 < n) (hg : w.grownBy w' u.ownBlock) : RowAt w' v row := by
  obtain ⟨g, c, rfl, hgl, hc⟩ := h
  obtain ⟨g5, c5, rfl, hg5, hl5, hc5⟩ := own_vals hown hn
  have hne : g ≠ g5 := by
    rintro rfl
    have h1 := hc 0 row[0] (List.getElem?_eq_getElem h0)
    have h2 := hc5 0 (vs[0]'(by omega)) (List.getElem?_eq_getElem (by omega))
    obtain ⟨a, n, c, he⟩ := hvs (vs[0]'(by omega)) (List.getElem_mem _)
    rw [h1, he] at h2
    simp at h2
  refine ⟨g, c, rfl, Nat.lt_of_lt_of_le hgl hg.size, fun j x hx => ?_⟩
  rw [World.grownBy.cell_far hg ⟨g, j, none⟩ hgl (by simpa [Value.ownBlock] using hne)]
  exact hc j x hx
theorem RowsAt.slices {w : World} {vs : List Value} {l : List ByteArray} (h : RowsAt w vs l) : ∀ x ∈ vs, ∃ a n c, x = .slice a n c := fun x hx => by
  obtain ⟨k, hk, rfl⟩ := List.getElem_of_mem hx
  obtain ⟨g, c, e, _⟩ := h k _ (List.getElem?_eq_getElem hk)
  exact ⟨_, _, _, e⟩
/-- A row more. -/
theorem RowsAt.snoc {w w' : World} {u v : Value} {B n d : Nat} {e : TypeId} {vs : List Value} {l : List ByteArray} (h : RowsAt w vs l) (hl : l.length = 2 ^ d) (hn : n ≤ d) (hown : w.ownsRow B e 1 u n vs) (hv : RowAt w v (rowB l n)) (h0 : 0 < n) (hg : w.grownBy w' u.ownBlock) : RowsAt w' (vs ++ [v]) l := by
  have hvl : vs.length = n := by have := hown.1; simpa using this
  intro k x hx
  have hk := (List.getElem?_eq_some_iff.1 hx).1
  simp only [List.length_append, List.length_singleton] at hk
  have hpos : 0 < (rowB l k).length := by rw [rowB_length l hl (by omega)]; exact Nat.two_pow_pos _
  have hat : RowAt w x (rowB l k) := by
    by_cases hkn : k < vs.length
    · rw [List.getElem?_append_left hkn] at hx
      exact h k x hx
    · obtain rfl : k = n := by omega
      rw [List.getElem?_append_right (by omega), hvl, Nat.sub_self] at hx
      obtain rfl : v = x := by simpa using hx
      exact hv
  exact hat.grown hpos hown h.slices h0 hg
end Go.Proofs.YtgcohoonhklkbaaDoor

/-
  digest: the contracts of back, schedule, mix.
-/
namespace Go.Proofs.YtgcohoonhklkbaaDoor
open Go.RowKit Go.Kx
set_option maxRecDepth 20000

theorem rotl_neg (x n : Nat) (hx : x < 4294967296) (h0 : 0 < n) (hn : n < 32) (w : World) :
   Calls Tryd.prog 94 #[.int .u32 x, .int .i64 (-(n : Int))] w fun e w' => e = .returned (.int .u32 (bk x n : Nat)) ∧ w = w' := by
  have h1 : bits .and .u64 (IntKind.u64.wrap (-(n : Int))) 31 = ((32 - n : Nat) : Int) := by
    have e : IntKind.u64.wrap (-(n : Int)) = ((18446744073709551616 - n : Nat) : Int) := by
      simp only [IntKind.wrap, IntKind.bits, IntKind.signed]; simp; omega
    rw [e, u64_and_31 _ (by omega)]
    congr 1
    omega
  have h3 : 32 - n < 32 := by omega
  have HB := Lib.hid (show bk x n = rotN x (32 - n) from rfl)
  have HC := Lib.hid (show 32 - (32 - n) = n by omega)
  generalize 32 - n = s at *
  go_enter Tryd.func94, Tryd.ntmps94
  go_wp2
  go_ret
  refine ⟨ret_int ?_, rfl⟩
  have e1 : ((x : Int) * 2 ^ s % 4294967296) = ((x * 2 ^ s % 4294967296 : Nat) : Int) := by rw [Int.natCast_emod, Int.natCast_mul, Int.natCast_pow]; rfl
  have e2 : ((x : Int) / 2 ^ (32 - s)) = ((x / 2 ^ (32 - s) : Nat) : Int) := by rw [Int.natCast_ediv, Int.natCast_pow]; rfl
  rw [e1, e2, u32_or_nat _ _ (Nat.mod_lt _ (by omega)) (Nat.lt_of_le_of_lt (Nat.div_le_self _ _) hx), rot_or x s hx h3, HB.out]
theorem back_any (x n : Nat) (hx : x < 4294967296) (h0 : 0 < n) (hn : n < 32) (w : World) :
   Calls Tryd.prog 81 #[.int .u32 x, .int .i64 n] w fun e w' => e = .returned (.int .u32 (bk x n : Nat)) ∧ w = w' := by
  go_enter Tryd.func81, Tryd.ntmps81
  go_wp2_with (go_at_call 94; refine (rotl_neg x n hx h0 hn _).mono ?_; rintro e w' ⟨rfl, rfl⟩)
  go_ret
  exact ⟨rfl, rfl⟩

theorem back_q (x n : Nat) (m : Int) (hm : m = (n : Int)) (hx : x < 4294967296) (h0 : 0 < n) (hn : n < 32) (w : World) :
   Calls Tryd.prog 81 #[.int .u32 x, .int .i64 m] w fun e w' => e = .returned (.int .u32 (bk x n : Nat)) ∧ w' = w := by
  subst hm
  exact (back_any x n hx h0 hn w).mono fun _ _ ⟨he, hw⟩ => ⟨he, hw.symm⟩
def rowW (W : Nat → Nat) (k j : Nat) : Nat := if j < k then W j else 0
theorem rowW_in (W : Nat → Nat) {k j : Nat} (h : j < k) : rowW W k j = W j := if_pos h
theorem rowW_set (W : Nat → Nat) (k j : Nat) : (if j = k then W k else rowW W k j) = rowW W (k + 1) j := by
  unfold rowW
  by_cases h : j = k
  · subst h; simp
  · rw [if_neg h]
    by_cases h2 : j < k
    · rw [if_pos h2, if_pos (by omega)]
    · rw [if_neg h2, if_neg (by omega)]
theorem sum4 (a b c d : Nat) : IntKind.u32.wrap (IntKind.u32.wrap (IntKind.u32.wrap ((a : Int) + (b : Int)) + (c : Int)) + (d : Int)) = (((a + b + c + d) % 4294967296 : Nat) : Int) := by
  simp only [IntKind.wrap_u32']
  omega
theorem row64_size : (Tryd.prog.info? 76).map (·.size) = some 64 := by kernel_rfl
set_option maxHeartbeats 1000000 in
theorem sched_gen (W : Nat → Nat) (s : ByteArray) (w : World) (hs : s.size = 64) (hlt : ∀ x ∈ cutL true s, x < 4294967296) (hlen : (cutL true s).length = 16)
   (hold : ∀ j, j < 16 → W j = (cutL true s).getD j 0) (hWl : ∀ j, W j < 4294967296) (hWn : ∀ i, 16 ≤ i → i < 64 → W i = (W (i - 16) + sg0 (W (i - 15)) + W (i - 7) + sg1 (W (i - 2))) % 4294967296) :
   Calls Tryd.prog 62 #[.string s] w fun e w' => e = .returned (.agg (rowA .u32 64 W)) ∧ Below w.heap.size w w' := by
  have HLT := Lib.hid hlt
  have HOLD := Lib.hid hold
  have HWL := Lib.hid hWl
  have HWN := Lib.hid hWn
  clear hlt hold hWl hWn
  go_enter Tryd.func62, Tryd.ntmps62
  go_wp2_with fail
  refine (cut_new s true _ (by omega) (by omega)).mono ?_
  rintro e w1 ⟨b, rfl, hbb, hsl, hb⟩
  generalize cutL true s = xs at *
  have hr1 := rowIs_keep (rowIs_new (n := 64) (z := .int .u32 0) rfl) hb
  have hr0 := rowIs_keep ((rowIs_new (n := 64) (z := .int .u32 0) rfl).alloc _) hb
  simp only [World.size_alloc] at hr1 hr0 hbb
  have hbw := ((((Below.refl _ w).alloc (Nat.le_refl _) _).alloc (by simp) _).trans (hb.mono (by simp; omega)))
  clear hb
  go_wp2_with fail
  go_loopw [6, 7, 18] (fun _ _ i wr => ∃ k : Nat, k ≤ 16 ∧ i = .int .i64 k ∧ Sl wr (some ⟨b, 0, none⟩) (ints xs) ∧ wr.rowIs (w.heap.size + 1) 76 64 (fun j => .int .u32 (rowW W k j : Nat)) ∧
     wr.rowIs w.heap.size 76 64 (fun _ => .int .u32 0) ∧ Below w.heap.size w wr) (fun _ _ i _ => 16 - (intOf i).toNat)
  case atStart => exact ⟨0, by omega, rfl, hsl, hr1, hr0, hbw⟩
  case round =>
    obtain ⟨k, hk, rfl, hsk, hrk, hr0k, hbk⟩ := hrel
    clear hsl hr1 hr0 hbw
    by_cases hl : k < 16
    · obtain ⟨b', off, u, he, hu, hcell⟩ := hsk.at_ (k := k) (by simp [ints]; omega)
      obtain ⟨rfl, rfl⟩ : b = b' ∧ 0 = off := by simpa using he
      obtain ⟨x, hx, rfl⟩ : ∃ x, xs[k]? = some x ∧ .int .i64 (x : Int) = u := by simpa [ints] using hu
      have hxl : x < 4294967296 := HLT.out x (List.mem_of_getElem? hx)
      have hxw := wrapU32 hxl
      have hload := hrk.cell (i := k) (by omega)
      have hfz := hrk.frozen k
      rw [Nat.zero_add] at hcell
      have HX := Lib.hid (show W k = x by rw [HOLD.out k hl, List.getD_eq_getElem?_getD, hx]; rfl)
      clear hx hu he
      go_wp2
      go_roundw
      case rel =>
        refine ⟨k + 1, by omega, by go_num, hsk.set (by simp; omega) _, ?_, hr0k.setOther (by simp) _, hbk.setCell (p := ⟨w.heap.size + 1, k, none⟩) (by simp) _⟩
        refine (hrk.set k _).congr fun j _ => ?_
        rw [← rowW_set W k j, HX.out]
        split <;> rfl
      case measure => simp [intOf]; omega
    · obtain rfl : k = 16 := by omega
      clear hl hk hsk HOLD HLT
      go_wp2
      rw [show ((16 : Nat) : Int) = 16 from rfl]
      go_loopw [8, 9, 10] (fun i _ _ wr => ∃ k : Nat, 16 ≤ k ∧ k ≤ 64 ∧ i = .int .i64 k ∧ wr.rowIs (w.heap.size + 1) 76 64 (fun j => .int .u32 (rowW W k j : Nat)) ∧
         wr.rowIs w.heap.size 76 64 (fun _ => .int .u32 0) ∧ Below w.heap.size w wr) (fun i _ _ _ => 64 - (intOf i).toNat)
      case atStart => exact ⟨16, by omega, by omega, rfl, hrk, hr0k, hbk⟩
      case round =>
        clear hrk hr0k hbk
        obtain ⟨k, hk1, hk2, rfl, hrk, hr0k, hbk⟩ := hrel
        by_cases hl : k < 64
        · have c16 := hrk.cell (i := k - 16) (by omega)
          have c15 := hrk.cell (i := k - 15) (by omega)
          have c7 := hrk.cell (i := k - 7) (by omega)
          have c2 := hrk.cell (i := k - 2) (by omega)
          have c0 := hrk.cell (i := k) (by omega)
          have hfz := hrk.frozen k
          rw [rowW_in W (by omega)] at c16 c15 c7 c2
          have l15 := HWL.out (k - 15)
          have l2 := HWL.out (k - 2)
          have HN := Lib.hid (HWN.out k hk1 hl)
          generalize W (k - 15) = p at *
          generalize W (k - 2) = q at *
          generalize W (k - 16) = x at *
          generalize W (k - 7) = y at *
          have w16 : IntKind.i64.wrap ((k : Int) - 16) = (k : Int) - 16 := IntWalk.i64_in _ (by omega)
          have w15 : IntKind.i64.wrap ((k : Int) - 15) = (k : Int) - 15 := IntWalk.i64_in _ (by omega)
          have w7 : IntKind.i64.wrap ((k : Int) - 7) = (k : Int) - 7 := IntWalk.i64_in _ (by omega)
          have w2 : IntKind.i64.wrap ((k : Int) - 2) = (k : Int) - 2 := IntWalk.i64_in _ (by omega)
          have n16 : ((k : Int) - 16).toNat = k - 16 := by omega
          have n15 : ((k : Int) - 15).toNat = k - 15 := by omega
          have n7 : ((k : Int) - 7).toNat = k - 7 := by omega
          have n2 : ((k : Int) - 2).toNat = k - 2 := by omega
          have p16 : 0 ≤ (k : Int) - 16 := by omega
          have p15 : 0 ≤ (k : Int) - 15 := by omega
          have p7 : 0 ≤ (k : Int) - 7 := by omega
          have p2 : 0 ≤ (k : Int) - 2 := by omega
          have q16 : (16 : Int) ≤ (k : Int) := by omega
          have q7 : (7 : Int) ≤ (k : Int) := by omega
          have b16 : (k : Int) - 16 < 64 := by omega
          have b15 : (k : Int) - 15 < 64 := by omega
          have b7 : (k : Int) - 7 < 64 := by omega
          have b2 : (k : Int) - 2 < 64 := by omega
          go_wp2
          go_quiet (fail)
          go_wp2
          clear c15 c2
          have d16 : (wr.drewN nq).cell? ⟨w.heap.size + 1, k - 16, none⟩ = _ := c16
          have d7 : (wr.drewN nq).cell? ⟨w.heap.size + 1, k - 7, none⟩ = _ := c7
          have d0 : (wr.drewN nq).cell? ⟨w.heap.size + 1, k, none⟩ = _ := c0
          have dfz : (wr.drewN nq).frozen? ⟨w.heap.size + 1, k, none⟩ = _ := hfz
          have drk : (wr.drewN nq).rowIs (w.heap.size + 1) _ _ _ := hrk
          have dr0k : (wr.drewN nq).rowIs (w.heap.size) _ _ _ := hr0k
          have dbk : Below w.heap.size w (wr.drewN nq) := hbk.next' (Below.drewN0 _ _)
          clear c16 c7 c0 hfz hrk hr0k hbk
          generalize wr.drewN nq = w2 at *
          refine wp_region_still_tail 29 (by kernel_rfl) (by kernel_rfl) ?_
          simp only [List.take_succ_cons, List.take_zero, List.drop_succ_cons, List.drop_zero]
          repeat still_step
          still_call (back_q p 7 7 rfl l15 (by omega) (by omega) _)
          repeat still_step
          still_call (back_q p 18 18 rfl l15 (by omega) (by omega) _)
          repeat still_step
          still_call (back_q q 17 17 rfl l2 (by omega) (by omega) _)
          repeat still_step
          still_call (back_q q 19 19 rfl l2 (by omega) (by omega) _)
          repeat still_step
          refine wpStill_nil ?_
          have e0 : w2.drew.cell? ⟨w.heap.size + 1, k, none⟩ = _ := d0
          have efz : w2.drew.frozen? ⟨w.heap.size + 1, k, none⟩ = _ := dfz
          have erk := drk.drew
          have er0k := dr0k.drew
          have ebk := dbk.drew
          change wpList _ _ _ _ _ w2.drew
          clear d16 d7 d0 dfz drk dr0k dbk
          generalize w2.drew = w3 at *
          go_wp2
          go_roundw
          case rel =>
            refine ⟨k + 1, by omega, by omega, by go_num, ?_, er0k.setOther (by simp) _, ebk.setCell (p := ⟨w.heap.size + 1, k, none⟩) (by simp) _⟩
            refine (erk.set k _).congr fun j _ => ?_
            rw [← rowW_set W k j, HN.out]
            by_cases hjk : j = k
            · rw [if_pos hjk, if_pos hjk]
              refine congrArg (Value.int .u32) ?_
              have e0 : bits .xor .u32 (bits .xor .u32 (bk p 7 : Nat) (bk p 18 : Nat)) ((p : Int) / 8) = ((sg0 p : Nat) : Int) := by
                rw [show ((p : Int) / 8) = ((p / 8 : Nat) : Int) from rfl, u32_xor_nat _ _ (bk_lt _ _ l15) (bk_lt _ _ l15), u32_xor_nat _ _ (xor_lt (bk_lt _ _ l15) (bk_lt _ _ l15)) (by omega)]; rfl
              have e1 : bits .xor .u32 (bits .xor .u32 (bk q 17 : Nat) (bk q 19 : Nat)) ((q : Int) / 1024) = ((sg1 q : Nat) : Int) := by
                rw [show ((q : Int) / 1024) = ((q / 1024 : Nat) : Int) from rfl, u32_xor_nat _ _ (bk_lt _ _ l2) (bk_lt _ _ l2), u32_xor_nat _ _ (xor_lt (bk_lt _ _ l2) (bk_lt _ _ l2)) (by omega)]; rfl
              rw [e0, e1]
              omega
            · rw [if_neg hjk, if_neg hjk]
          case measure => simp [intOf]; omega
        · obtain rfl : k = 64 := by omega
          obtain ⟨c, h43, hcs, hc⟩ := rowIs_block hrk
          obtain ⟨c0, h0, hcs0, hc0⟩ := rowIs_block hr0k
          have hinf : (Tryd.prog.info? 76).map (·.size) = some c.size := by rw [hcs]; exact row64_size
          have hold : c0.size = c.size := by rw [hcs, hcs0]
          have hall := all_one_ints hc
          have HC := Lib.hid hc
          clear hc hc0 hcs0 hcs
          go_wp2_with (first
            | (refine wpList_load_row rfl _ _ rfl (w.heap.size + 1) rfl _ _ _ _ h43 Tryd.underlying76 rfl hinf ?_)
            | (refine wpList_store_row rfl _ _ _ rfl w.heap.size _ rfl rfl _ _ h0 hinf hold hall ?_))
          refine bodyPost_ret (v := .agg c) (results_cell_row rfl _ _ w.heap.size _ _ _ _ rfl (setRow_heap _ _ _ _ _ _ h0) Tryd.underlying76 rfl hinf) rfl ⟨?_, hbk.setRow (Nat.le_refl _) _⟩
          rw [HC.out, rowA]
          refine congrArg (fun l : List Value => Ending.returned (.agg l.toArray)) (List.map_congr_left fun j hj => ?_)
          rw [rowW_in W (by simpa using hj)]
theorem sched_any (s : ByteArray) (w : World) (hs : s.size = 64) :
   Calls Tryd.prog 62 #[.string s] w fun e w' => e = .returned (.agg (rowA .u32 64 fun j => (blkW s.data.toList).getD j 0)) ∧ Below w.heap.size w w' :=
  sched_gen (fun j => (blkW s.data.toList).getD j 0) s w hs (cutL_lt true s) (by rw [cutL_length, hs]) (blkW_old s hs) (blkW_lt s) (fun i h1 h2 => by have := blkW_next s hs i h1 h2; unfold schedF at this; exact this)
end Go.Proofs.YtgcohoonhklkbaaDoor

/-
  digest: the contract of mix.
-/
namespace Go.Proofs.YtgcohoonhklkbaaDoor
open Go.RowKit Go.Kx
set_option maxRecDepth 20000

theorem back_z (x : Nat) (m : Int) (hx : x < 4294967296) (h0 : 0 < m) (hn : m < 32) (w : World) :
   Calls Tryd.prog 81 #[.int .u32 x, .int .i64 m] w fun e w' => e = .returned (.int .u32 (bk x m.toNat : Nat)) ∧ w' = w :=
  back_q x m.toNat m (by omega) hx (by omega) (by omega) w
def Consts (w : World) : Prop := w.rangeAt 0 0 (shaK.map fun x : Nat => Value.int .u32 x)
theorem Consts.keep {w w' : World} (h : Consts w) (hb : Below w.heap.size w w') : Consts w' := by
  intro j v hv
  have hc := h j v hv
  exact (hb.cell (p := ⟨0, 0 + j, none⟩) (block_lt_of_cell hc)).trans hc
theorem St.at_lt {s : St} (h : s.ok) (j : Nat) : s.at j < 4294967296 := by
  refine getD_lt _ (fun x hx => ?_) j
  obtain ⟨ha, hb, hc, hd, he, hf, hg, hh⟩ := h
  simp only [St.l, List.mem_cons, List.not_mem_nil, or_false] at hx
  rcases hx with rfl | rfl | rfl | rfl | rfl | rfl | rfl | rfl <;> assumption
theorem int_u32 : (Tryd.prog.info? 73).map (·.size) = some 1 := by kernel_rfl
theorem int_i64 : (Tryd.prog.info? 3).map (·.size) = some 1 := by kernel_rfl

theorem not32 (e : Nat) (h : e < 4294967296) : 4294967295 ^^^ e = 4294967295 - e := by
  have h1 := congrArg BitVec.toNat (BitVec.allOnes_xor (x := BitVec.ofNat 32 e))
  rw [BitVec.toNat_xor, BitVec.toNat_not, BitVec.toNat_allOnes, BitVec.toNat_ofNat, Nat.mod_eq_of_lt (by omega)] at h1
  exact h1
theorem bs1_bits (e : Nat) (h : e < 4294967296) : bits .xor .u32 (bits .xor .u32 (bk e 6 : Nat) (bk e 11 : Nat)) (bk e 25 : Nat) = ((bs1 e : Nat) : Int) := by
  rw [u32_xor_nat _ _ (bk_lt _ _ h) (bk_lt _ _ h), u32_xor_nat _ _ (xor_lt (bk_lt _ _ h) (bk_lt _ _ h)) (bk_lt _ _ h)]; rfl
theorem bs0_bits (a : Nat) (h : a < 4294967296) : bits .xor .u32 (bits .xor .u32 (bk a 2 : Nat) (bk a 13 : Nat)) (bk a 22 : Nat) = ((bs0 a : Nat) : Int) := by
  rw [u32_xor_nat _ _ (bk_lt _ _ h) (bk_lt _ _ h), u32_xor_nat _ _ (xor_lt (bk_lt _ _ h) (bk_lt _ _ h)) (bk_lt _ _ h)]; rfl
theorem ch_bits (e f g : Nat) (he : e < 4294967296) (hf : f < 4294967296) (hg : g < 4294967296) :
    bits .xor .u32 (bits .and .u32 (e : Int) f) (bits .and .u32 (bits .xor .u32 IntKind.u32.max e) g) = ((((e &&& f) ^^^ ((4294967295 - e) &&& g)) : Nat) : Int) := by
  rw [show IntKind.u32.max = ((4294967295 : Nat) : Int) from rfl, u32_xor_nat _ _ (by omega) he, not32 e he, u32_and_nat _ _ he hf, u32_and_nat _ _ (by omega) hg, u32_xor_nat _ _ (and_lt hf) (and_lt hg)]
theorem mj_bits (a b c : Nat) (ha : a < 4294967296) (hb : b < 4294967296) (hc : c < 4294967296) :
    bits .xor .u32 (bits .xor .u32 (bits .and .u32 (a : Int) b) (bits .and .u32 (a : Int) c)) (bits .and .u32 (b : Int) c) = (((((a &&& b) ^^^ (a &&& c)) ^^^ (b &&& c)) : Nat) : Int) := by
  rw [u32_and_nat _ _ ha hb, u32_and_nat _ _ ha hc, u32_and_nat _ _ hb hc, u32_xor_nat _ _ (and_lt hb) (and_lt hc), u32_xor_nat _ _ (xor_lt (and_lt hb) (and_lt hc)) (and_lt hc)]
def arr8 (k : IntKind) (a b c d e f g h : Nat) : Array Value := #[.int k a, .int k b, .int k c, .int k d, .int k e, .int k f, .int k g, .int k h]
theorem rowIs_first {w : World} {B : Nat} {t : TypeId} {f : Nat → Nat} (h : w.rowIs B t 8 (fun j => .int .u32 (f j : Nat))) : ∀ j, j < 8 → w.cell? ⟨B, j, none⟩ = some (.int .u32 (f j : Nat)) := fun _ hj => h.cell hj
set_option maxRecDepth 100000 in
set_option maxHeartbeats 1000000 in
theorem mix_gen (s : St) (hs : s.ok) (W : Nat → Nat) (hW : ∀ j, W j < 4294967296) (w : World) (hK : Consts w) (d : Array Value) (hd : d = rowA .u32 64 W) :
   Calls Tryd.prog 61 #[s.v, .agg d] w fun e w' => e = .returned (mixN W s 64).u ∧ Below w.heap.size w w' := by
  have s64 : d.size = 64 := by rw [hd, rowA_size]
  have hat := St.at_lt hs
  have hrd := World.rowIs_alloc (w.alloc (.cells (arr8 .i64 s.a s.b s.c s.d s.e s.f s.g s.h) 59)) d 76 (fun j => .int .u32 (W j : Nat)) (fun j hj => by rw [hd]; exact rowA_at _ _ _ _ (by omega))
  rw [s64, World.size_alloc] at hrd
  have hix : ∀ (k : Nat), k < 8 → ∀ V, (Instr.index 59 (.agg (arr8 .i64 s.a s.b s.c s.d s.e s.f s.g s.h)) (.int .i64 (k : Int))).run Tryd.prog V = .ok (.int .i64 (s.at k)) V := fun k hk V =>
    run_index_ints Tryd.underlying59 int_i64 Tryd.underlying3 hk (rowA_at .i64 8 s.at k hk) V
  unfold arr8 at hix hrd
  have HIX := Lib.hid hix
  have HRD := Lib.hid hrd
  have HD := Lib.hid hd
  have HW := Lib.hid hW
  have HAT := Lib.hid hat
  clear hd hW hix hrd hat
  unfold St.v
  go_enter Tryd.func61, Tryd.ntmps61
  go_wp2_with fail
  have hrd := (HRD.out.alloc (.cells (List.replicate 8 (Value.int .u32 0)).toArray 74)).alloc (.cells (List.replicate 8 (Value.int .u32 0)).toArray 74)
  have hr2 := (rowIs_new (w := (w.alloc (.cells #[.int .i64 s.a, .int .i64 s.b, .int .i64 s.c, .int .i64 s.d, .int .i64 s.e, .int .i64 s.f, .int .i64 s.g, .int .i64 s.h] 59)).alloc (.cells d 76)) (t := 74) (n := 8) (z := .int .u32 0) rfl).alloc (.cells (List.replicate 8 (Value.int .u32 0)).toArray 74)
  have hr3 := rowIs_new (w := ((w.alloc (.cells #[.int .i64 s.a, .int .i64 s.b, .int .i64 s.c, .int .i64 s.d, .int .i64 s.e, .int .i64 s.f, .int .i64 s.g, .int .i64 s.h] 59)).alloc (.cells d 76)).alloc (.cells (List.replicate 8 (Value.int .u32 0)).toArray 74)) (t := 74) (n := 8) (z := .int .u32 0) rfl
  simp only [World.size_alloc] at hr2 hr3
  have hbw : Below w.heap.size w _ := ((((Below.refl _ w).alloc (Nat.le_refl _) (.cells #[.int .i64 s.a, .int .i64 s.b, .int .i64 s.c, .int .i64 s.d, .int .i64 s.e, .int .i64 s.f, .int .i64 s.g, .int .i64 s.h] 59)).alloc (by simp) (.cells d 76)).alloc (by simp; omega) (.cells (List.replicate 8 (Value.int .u32 0)).toArray 74)).alloc (by simp; omega) (.cells (List.replicate 8 (Value.int .u32 0)).toArray 74)
  go_loopw [6, 7, 23] (fun _ _ i wr => ∃ k : Nat, k ≤ 8 ∧ i = .int .i64 k ∧ wr.rowIs (w.heap.size + 1) 76 64 (fun j => .int .u32 (W j : Nat)) ∧ wr.rowIs (w.heap.size + 1 + 1) 74 8 (fun _ => .int .u32 0) ∧
     wr.rowIs (w.heap.size + 1 + 1 + 1) 74 8 (fun j => .int .u32 (rowW s.at k j : Nat)) ∧ Below w.heap.size w wr) (fun _ _ i _ => 8 - (intOf i).toNat)
  case atStart => exact ⟨0, by omega, rfl, hrd, hr2, hr3, hbw⟩
  case round =>
    clear hrd hr2 hr3 hbw
    obtain ⟨k, hk, rfl, hrd, hr2, hr3, hbk⟩ := hrel
    by_cases hl : k < 8
    · have hix := HIX.out k hl
      have hxw := wrapU32 (HAT.out k)
      have hload := hr3.cell (i := k) (by omega)
      have hfz := hr3.frozen k
      have hset := rowW_set s.at k
      have HSET := Lib.hid hset
      clear hset
      generalize s.at k = x at *
      go_wp2
      go_roundw
      case rel =>
        refine ⟨k + 1, by omega, by go_num, hrd.setOther (by simp) _, hr2.setOther (by simp) _, ?_, hbk.setCell (p := ⟨w.heap.size + 1 + 1 + 1, k, none⟩) (by simp; omega) _⟩
        refine (hr3.set k _).congr fun j _ => ?_
        rw [← HSET.out j]
        split <;> rfl
      case measure => simp [intOf]; omega
    · obtain rfl : k = 8 := by omega
      clear hl hk
      have c0 := hr3.cell (i := 0) (by omega)
      have c1 := hr3.cell (i := 1) (by omega)
      have c2 := hr3.cell (i := 2) (by omega)
      have c3 := hr3.cell (i := 3) (by omega)
      have c4 := hr3.cell (i := 4) (by omega)
      have c5 := hr3.cell (i := 5) (by omega)
      have c6 := hr3.cell (i := 6) (by omega)
      have c7 := hr3.cell (i := 7) (by omega)
      rw [rowW_in s.at (by omega)] at c0 c1 c2 c3 c4 c5 c6 c7
      simp only [St.at, St.l, List.getD_cons_zero, List.getD_cons_succ] at c0 c1 c2 c3 c4 c5 c6 c7
      go_wp2
      go_quiet (fail)
      have hKr : Consts (wr.drewN nq) := hK.keep (hbk.next (Below.drewN0 _ _))
      have drd : (wr.drewN nq).rowIs (w.heap.size + 1) _ _ _ := hrd
      have dr2 : (wr.drewN nq).rowIs (w.heap.size + 1 + 1) _ _ _ := hr2
      have dbk := hbk.next (Below.drewN0 _ nq)
      clear c0 c1 c2 c3 c4 c5 c6 c7 hrd hr2 hr3 hbk hK
      generalize wr.drewN nq = w0 at *
      obtain ⟨cK, hcK⟩ : ∃ l, l = shaK.map fun x : Nat => Value.int .u32 x := ⟨_, rfl⟩
      have hlK : (Tryd.prog.info? 76).map (·.size) = some cK.length := by rw [hcK, List.length_map, shaK_length]; exact row64_size
      have hgK : w0.rangeAt 0 0 cK := by rw [hcK]; exact hKr
      have hixK : ∀ (k : Nat), k < 64 → ∀ V, (Instr.index 76 (.agg cK.toArray) (.int .i64 (k : Int))).run Tryd.prog V = .ok (.int .u32 (shaK.getD k 0 : Nat)) V := fun k hk V =>
        run_index_ints Tryd.underlying76 int_u32 Tryd.underlying73 hk (by rw [hcK]; simp [List.getD_eq_getElem?_getD, List.getElem?_eq_getElem (show k < shaK.length from hk)]) V
      have HIXK := Lib.hid hixK
      clear hcK hKr hixK
      go_wp2_with (refine wpList_load_mid rfl _ _ rfl 0 0 rfl cK _ hgK Tryd.underlying76 rfl hlK ?_)
      clear hlK hgK
      go_loopw [8, 9, 10, 11, 12, 13, 14, 15, 49] (fun va vb vc vd ve vf vg vh i wr => ∃ k n : Nat, k ≤ 64 ∧ i = .int .i64 k ∧ wr = w0.drewN n ∧ va = .int .u32 (mixN W s k).a ∧ vb = .int .u32 (mixN W s k).b ∧ vc = .int .u32 (mixN W s k).c ∧
          vd = .int .u32 (mixN W s k).d ∧ ve = .int .u32 (mixN W s k).e ∧ vf = .int .u32 (mixN W s k).f ∧ vg = .int .u32 (mixN W s k).g ∧ vh = .int .u32 (mixN W s k).h) (fun _ _ _ _ _ _ _ _ i _ => 64 - (intOf i).toNat)
      case atStart => exact ⟨0, 0, by omega, rfl, rfl, rfl, rfl, rfl, rfl, rfl, rfl, rfl, rfl⟩
      case round =>
        obtain ⟨k, n, hk, rfl, hwr, rfl, rfl, rfl, rfl, rfl, rfl, rfl, rfl⟩ := hrel
        have hok := mixN_ok W hs k
        by_cases hl : k < 64
        · have hix := HIXK.out k hl
          have hw : wr.cell? ⟨w.heap.size + 1, k, none⟩ = some (.int .u32 (W k : Nat)) := by rw [hwr]; exact drd.cell (i := k) hl
          have HWR := Lib.hid hwr
          clear hwr
          have hwl := HW.out k
          have hkl := shaK_lt k
          have HS := Lib.hid (show mixN W s (k + 1) = rnd (mixN W s k) (shaK.getD k 0) (W k) from rfl)
          generalize mixN W s k = m at *
          generalize shaK.getD k 0 = x at *
          generalize W k = y at *
          obtain ⟨a, b, c, d', e, f, g, h⟩ := m
          obtain ⟨ha, hb, hc, hd, he, hf, hg, hh⟩ := hok
          dsimp only at ha hb hc hd he hf hg hh
          go_wp2
          go_quiet ((go_at_call 81; refine Calls.quiet_of_same (back_z _ _ ?_ ?_ ?_ _) <;> first | assumption | omega))
          go_wp2_with (go_at_call 81; refine (back_z _ _ ?_ ?_ ?_ _).mono ?_; assumption; omega; omega; rintro e' w' ⟨rfl, rfl⟩)
          go_roundw
          case rel =>
            have e1 := bs1_bits e he
            have e0 := bs0_bits a ha
            have ec := ch_bits e f g he hf hg
            have em := mj_bits a b c ha hb hc
            rw [e1, e0, ec, em]
            refine ⟨k + 1, n + nq, by omega, by go_num, ?_, ?_⟩
            · rw [HWR.out]; exact World.drewN_drewN _ _ _
            · rw [HS.out]
              simp only [rnd, uA, vA, chA, mjA]
              refine ⟨congrArg (Value.int .u32) (by omega), trivial, trivial, trivial, congrArg (Value.int .u32) (by omega), trivial, trivial, trivial⟩
          case measure => simp [intOf]; omega
        · obtain rfl : k = 64 := by omega
          have hr2' : wr.rowIs (w.heap.size + 1 + 1) 74 8 (fun _ => .int .u32 0) := by rw [hwr]; exact dr2
          have hbk' : Below w.heap.size w wr := by rw [hwr]; exact dbk.next' (Below.drewN0 _ _)
          obtain ⟨c0, h0, hcs0, _⟩ := rowIs_block hr2'
          clear hwr HIXK drd dr2 dbk hr2'
          generalize hm : mixN W s 64 = m at *
          have HM := Lib.hid hm
          clear hm
          obtain ⟨a, b, c, d', e, f, g, h⟩ := m
          have hinf : (Tryd.prog.info? 74).map (·.size) = some (arr8 .u32 a b c d' e f g h).size := by kernel_rfl
          have hold : c0.size = (arr8 .u32 a b c d' e f g h).size := hcs0
          have hall : (arr8 .u32 a b c d' e f g h).all (·.oneCell') = true := by simp [arr8, Value.oneCell']
          unfold arr8 at hinf hold hall
          go_wp2_with (refine wpList_store_row rfl _ _ _ rfl (w.heap.size + 1 + 1) _ rfl rfl _ _ h0 hinf hold hall ?_)
          refine bodyPost_ret (v := .agg #[.int .u32 a, .int .u32 b, .int .u32 c, .int .u32 d', .int .u32 e, .int .u32 f, .int .u32 g, .int .u32 h]) (results_cell_row rfl _ _ (w.heap.size + 1 + 1) _ _ _ _ rfl (setRow_heap _ _ _ _ _ _ h0) Tryd.underlying74 rfl hinf) rfl ⟨by rw [HM.out]; rfl, hbk'.setRow (by omega) _⟩
theorem mix_any (s : St) (hs : s.ok) (W : Nat → Nat) (hW : ∀ j, W j < 4294967296) (w : World) (hK : Consts w) :
   Calls Tryd.prog 61 #[s.v, .agg (rowA .u32 64 W)] w fun e w' => e = .returned (mixN W s 64).u ∧ Below w.heap.size w w' := mix_gen s hs W hW w hK _ rfl
theorem mix_lit (s : St) (hs : s.ok) (W : Nat → Nat) (hW : ∀ j, W j < 4294967296) (m : St) (hm : mixN W s 64 = m) (w : World) (hK : Consts w) :
   Calls Tryd.prog 61 #[.agg #[.int .i64 s.a, .int .i64 s.b, .int .i64 s.c, .int .i64 s.d, .int .i64 s.e, .int .i64 s.f, .int .i64 s.g, .int .i64 s.h], .agg (rowA .u32 64 W)] w fun e w' =>
     e = .returned (.agg #[.int .u32 m.a, .int .u32 m.b, .int .u32 m.c, .int .u32 m.d, .int .u32 m.e, .int .u32 m.f, .int .u32 m.g, .int .u32 m.h]) ∧ Below w.heap.size w w' := by
  subst hm
  exact mix_gen s hs W hW w hK _ rfl
end Go.Proofs.YtgcohoonhklkbaaDoor

/-
  tree: the digest of any text (sumH); the contracts of leafText, nodeText, Leaf, Node, mayHaveRoot, areDigests (by that of digest.Sum, a premise here).
-/
namespace Go.Proofs.YtgcohoonhklkbaaDoor
open Go.RowKit Go.Kx Go.Trm
set_option maxRecDepth 20000

/-- The digest of a text: none, if it is too long. -/
def sumH (x : Txt) : Txt := if x.length ≤ 1000000000 then sumL x else []
theorem sumH_short {x : Txt} (h : x.length ≤ 1000000000) : sumH x = sumL x := if_pos h
theorem sumH_len {x : Txt} (h : x.length ≤ 1000000000) : (sumH x).length = 32 := by rw [sumH_short h]; exact sumT_length x
theorem sumH_le (x : Txt) : (sumH x).length ≤ 32 := by
  unfold sumH
  split
  · exact Nat.le_of_eq (sumT_length x)
  · simp
/-- What digest.Sum tells of any text (the premise of the contracts over it). -/
def DSumH : Prop := ∀ (s d : ByteArray), s.size ≤ 140737488355328 → sumH s.data.toList = d.data.toList → ∀ w, Consts w → Calls Tryd.prog 27 #[.string s] w fun e w' => e = .returned (.string d) ∧ Below w.heap.size w w'
theorem leafText_any (s d : ByteArray) (hs : s.size ≤ 140737488351232) (hd : ofLeafL s.data.toList = d.data.toList) (w : World) :
    Calls Tryd.prog 34 #[.string s] w fun e w' => e = .returned (.string d) ∧ w' = w := by
  have e : (⟨#[0]⟩ : ByteArray) ++ s = d := ByteArray.ext (Array.toList_inj.1 (by rw [← hd]; simp [ofLeafL]))
  have hadd : ∀ V : World, (Op.stringOp .add ⟨#[0]⟩ s).run Tryd.prog V = .ok (.string d) V := fun V => by rw [← e]; exact run_string_add_sum V _ s (by show 1 + s.size ≤ _; omega)
  clear e
  go_enter Tryd.func34, Tryd.ntmps34
  go_wp2
  go_ret
  exact ⟨rfl, rfl⟩
theorem nodeText_any (a b d : ByteArray) (ha : a.size ≤ 1000000) (hb : b.size ≤ 1000000) (hd : ofNodeL a.data.toList b.data.toList = d.data.toList) (w : World) :
    Calls Tryd.prog 37 #[.string a, .string b] w fun e w' => e = .returned (.string d) ∧ w' = w := by
  obtain ⟨c, hc⟩ : ∃ c : ByteArray, (⟨#[1]⟩ : ByteArray) ++ a = c := ⟨_, rfl⟩
  have e : c ++ b = d := ByteArray.ext (Array.toList_inj.1 (by rw [← hd, ← hc]; simp [ofNodeL]))
  have hcz : c.size ≤ 1000001 := by rw [← hc, ByteArray.size_append]; show 1 + a.size ≤ _; omega
  have h1 : ∀ V : World, (Op.stringOp .add ⟨#[1]⟩ a).run Tryd.prog V = .ok (.string c) V := fun V => by rw [← hc]; exact run_string_add_sum V _ a (by show 1 + a.size ≤ _; omega)
  have h2 : ∀ V : World, (Op.stringOp .add c b).run Tryd.prog V = .ok (.string d) V := fun V => by rw [← e]; exact run_string_add_sum V c b (by omega)
  clear e hc
  go_enter Tryd.func37, Tryd.ntmps37
  go_wp2
  go_ret
  exact ⟨rfl, rfl⟩
theorem tleaf_any (HD : DSumH) (s d : ByteArray) (hs : s.size ≤ 140737488351232) (hd : leafL sumH s.data.toList = d.data.toList) (w : World) (hK : Consts w) :
    Calls Tryd.prog 14 #[.string s] w fun e w' => e = .returned (.string d) ∧ Below w.heap.size w w' := by
  obtain ⟨c, hc⟩ : ∃ c : ByteArray, ofLeafL s.data.toList = c.data.toList := ⟨⟨(ofLeafL s.data.toList).toArray⟩, rfl⟩
  have hcz : c.size = s.size + 1 := by have := congrArg List.length hc; simp [ofLeafL] at this; omega
  have H1 := leafText_any s c hs hc w
  have H2 := HD c d (by omega) (by rw [← hc]; exact hd) w hK
  clear hc hd HD hcz
  go_enter Tryd.func14, Tryd.ntmps14
  go_wp2_with fail
  refine H1.mono ?_
  rintro e w1 ⟨rfl, rfl⟩
  go_wp2_with fail
  refine H2.mono ?_
  rintro e w2 ⟨rfl, hb⟩
  go_wp2
  go_ret
  exact ⟨rfl, hb⟩
theorem tnode_any (HD : DSumH) (a b d : ByteArray) (ha : a.size ≤ 1000000) (hb : b.size ≤ 1000000) (hd : nodeL sumH a.data.toList b.data.toList = d.data.toList) (w : World) (hK : Consts w) :
    Calls Tryd.prog 16 #[.string a, .string b] w fun e w' => e = .returned (.string d) ∧ Below w.heap.size w w' := by
  obtain ⟨c, hc⟩ : ∃ c : ByteArray, ofNodeL a.data.toList b.data.toList = c.data.toList := ⟨⟨(ofNodeL a.data.toList b.data.toList).toArray⟩, rfl⟩
  have hcz : c.size = a.size + b.size + 1 := by have := congrArg List.length hc; simp [ofNodeL] at this; omega
  have H1 := nodeText_any a b c ha hb hc w
  have H2 := HD c d (by omega) (by rw [← hc]; exact hd) w hK
  clear hc hd HD hcz
  go_enter Tryd.func16, Tryd.ntmps16
  go_wp2_with fail
  refine H1.mono ?_
  rintro e w1 ⟨rfl, rfl⟩
  go_wp2_with fail
  refine H2.mono ?_
  rintro e w2 ⟨rfl, hb⟩
  go_wp2
  go_ret
  exact ⟨rfl, hb⟩

/-! ### mayHaveRoot, areDigests -/
theorem may_fin : ∀ n : Fin 1025, 1 ≤ n.1 → ((n.1 &&& (n.1 - 1) = 0) ↔ ∃ d : Fin 11, n.1 = 2 ^ d.1) := by decide +kernel
theorem may_and {n : Nat} (h1 : 1 ≤ n) (h2 : n ≤ 1024) : n &&& (n - 1) = 0 ↔ mayN n := by
  refine (may_fin ⟨n, by omega⟩ h1).trans ⟨fun ⟨d, h⟩ => ⟨d.1, by omega, h⟩, fun ⟨d, hd, h⟩ => ⟨⟨d, by omega⟩, h⟩⟩
theorem may_pos {n : Nat} (h : mayN n) : 1 ≤ n ∧ n ≤ 1024 := by
  obtain ⟨d, hd, rfl⟩ := h
  exact ⟨Nat.two_pow_pos _, by have : 2 ^ d ≤ 2 ^ 10 := Nat.pow_le_pow_right (by omega) hd; omega⟩
open Classical in
theorem tmay_any (n : Nat) (hn : n ≤ 9223372036854775807) (A : Option Addr) (c : Nat) (b : Bool) (hb : b = decide (mayN n)) (w : World) :
    Calls Tryd.prog 28 #[.slice A n c] w fun e w' => e = .returned (.bool b) ∧ w = w' := by
  by_cases h0 : 1 ≤ n
  rotate_left
  · obtain rfl : b = false := by rw [hb, decide_eq_false]; exact fun h => h0 (may_pos h).1
    have t0 : ¬ (1 : Int) ≤ (n : Int) := by omega
    clear hb
    go_enter Tryd.func28, Tryd.ntmps28
    go_wp2
    go_ret
    exact ⟨rfl, rfl⟩
  have t0 : (1 : Int) ≤ (n : Int) := by omega
  by_cases h1 : n ≤ 1024
  rotate_left
  · obtain rfl : b = false := by rw [hb, decide_eq_false]; exact fun h => h1 (may_pos h).2
    have t1 : ¬ (n : Int) ≤ (1024 : Int) := by omega
    clear hb
    go_enter Tryd.func28, Tryd.ntmps28
    go_wp2
    go_ret
    exact ⟨rfl, rfl⟩
  have t1 : (n : Int) ≤ (1024 : Int) := by omega
  have e : (bits .and .i64 (n : Int) ((n : Int) - 1) == 0) = b := by
    rw [show ((n : Int) - 1) = ((n - 1 : Nat) : Int) by omega, int_and (by omega) (by omega), hb]
    by_cases h : n &&& (n - 1) = 0
    · rw [h, decide_eq_true ((may_and h0 h1).1 h)]
      rfl
    · rw [decide_eq_false fun hm => h ((may_and h0 h1).2 hm), beq_eq_false_iff_ne]
      omega
  clear hb
  have E := Lib.hid e
  clear e
  go_enter Tryd.func28, Tryd.ntmps28
  go_wp2
  go_ret
  exact ⟨ret_bool E.out, rfl⟩
theorem areDigests_any (l : List ByteArray) (A : Option Addr) (c : Nat) (hz : l.length ≤ 9223372036854775807) (b : Bool) (hb : b = decide (∀ p ∈ l, p.size = 32)) (w : World) (hA : Sl w A (strsV l)) :
    Calls Tryd.prog 39 #[.slice A l.length c] w fun e w' => e = .returned (.bool b) ∧ w = w' := by
  have HB := Lib.hid hb
  obtain ⟨m, hm⟩ : ∃ m, l.length = m := ⟨_, rfl⟩
  have HM := Lib.hid hm
  rw [hm] at hz ⊢
  clear hb hm
  go_enter Tryd.func39, Tryd.ntmps39
  go_wp2
  go_loopw [7] (fun i wr => ∃ k : Nat, k ≤ m ∧ i = .int .i64 (k : Int) ∧ Hid (∀ j, (h : j < l.length) → j < k → l[j].size = 32) ∧ w = wr) (fun i _ => m - (intOf i).toNat)
  case atStart => exact ⟨0, by omega, rfl, Lib.hid (fun j _ h => by omega), rfl⟩
  case round =>
    obtain ⟨k, hk, rfl, ha, rfl⟩ := hrel
    by_cases hlt : k < m
    · obtain ⟨b0, off, hAe, hcp⟩ := sl_strV hA (k := k) (by rw [HM.out]; exact hlt)
      subst hAe
      obtain ⟨p, hp⟩ : ∃ p, l[k]'(by rw [HM.out]; exact hlt) = p := ⟨_, rfl⟩
      rw [hp] at hcp
      by_cases h32 : p.size = 32
      · have h3 : ((p.size : Int) != 32) = false := by rw [bne_eq_false_iff_eq]; omega
        have HA : Hid (∀ j, (h : j < l.length) → j < k + 1 → l[j].size = 32) := Lib.hid fun j h hj => by
          rcases (by omega : j < k ∨ j = k) with h1 | rfl
          · exact ha.out j h h1
          · rw [hp]; exact h32
        clear hp h32
        go_wp2
        go_roundw
        case rel => exact ⟨k + 1, by omega, by go_num, HA, trivial⟩
        case measure => simp [intOf]; omega
      · have h3 : ((p.size : Int) != 32) = true := by rw [bne_iff_ne]; omega
        have HF : Hid (b = false) := Lib.hid (by
          rw [HB.out, decide_eq_false]
          intro h
          exact h32 (by rw [← hp]; exact h _ (List.getElem_mem _)))
        clear hp h32
        go_wp2
        go_ret
        exact ⟨ret_bool HF.out.symm, rfl⟩
    · obtain rfl : k = m := by omega
      have HF : Hid (b = true) := Lib.hid (by
        rw [HB.out, decide_eq_true]
        intro p hp
        obtain ⟨j, hj, rfl⟩ := List.getElem_of_mem hp
        exact ha.out j hj (by rw [← HM.out]; exact hj))
      go_wp2
      go_ret
      exact ⟨ret_bool HF.out.symm, rfl⟩
end Go.Proofs.YtgcohoonhklkbaaDoor

/-
  tree: the rows of digests of any texts; the contracts of under and root (methods of rows).
-/
namespace Go.Proofs.YtgcohoonhklkbaaDoor
open Go.RowKit Go.Kx Go.Trm
set_option maxRecDepth 20000

/-- A row k of digests, as strings. -/
def rowH (l : List ByteArray) (k : Nat) : List ByteArray := (rowL sumH (txtsL l) k).map toB
theorem rowH_length (l : List ByteArray) {d k : Nat} (hl : l.length = 2 ^ d) (hk : k ≤ d) : (rowH l k).length = 2 ^ (d - k) := by
  rw [rowH, List.length_map, rowL_length sumH (txtsL l) (by rw [txtsL_length]; exact hl) k hk]
theorem rowH_zero (l : List ByteArray) {j : Nat} (h : j < l.length) : (rowH l 0)[j]? = some (toB (leafL sumH l[j].data.toList)) := by
  simp [rowH, rowL, txtsL, List.getElem?_eq_getElem h]
theorem rowH_get (l : List ByteArray) {k j : Nat} {x : ByteArray} (h : (rowH l k)[j]? = some x) : (rowL sumH (txtsL l) k).getD j [] = x.data.toList := by
  rw [rowH, List.getElem?_map] at h
  obtain ⟨y, hy, rfl⟩ := Option.map_eq_some_iff.1 h
  rw [List.getD, hy, toB_list]
  rfl
theorem rowH_le (l : List ByteArray) {d k : Nat} (hl : l.length = 2 ^ d) (hk : k ≤ d) {j : Nat} {x : ByteArray} (h : (rowH l k)[j]? = some x) : x.size ≤ 32 := by
  have hg := rowH_get l h
  have hj := (List.getElem?_eq_some_iff.1 h).1
  rw [rowH_length l hl hk] at hj
  have hx : x.size = x.data.toList.length := by simp
  rw [hx, ← hg]
  cases k with
  | zero =>
    rw [rowL, List.getD, List.getElem?_map, List.getElem?_eq_getElem (by rw [txtsL_length, hl]; exact hj)]
    exact sumH_le _
  | succ k =>
    rw [rowL_get sumH (txtsL l) (by rw [txtsL_length]; exact hl) k j (by omega) hj]
    exact sumH_le _
theorem rowH_succ (l : List ByteArray) {d k j : Nat} (hl : l.length = 2 ^ d) (hk : k < d) (hj : j < 2 ^ (d - (k + 1))) {a b : ByteArray} (ha : (rowH l k)[2 * j]? = some a) (hb : (rowH l k)[2 * j + 1]? = some b) :
    (rowH l (k + 1))[j]? = some (toB (nodeL sumH a.data.toList b.data.toList)) := by
  have hlen := rowH_length l hl (k := k + 1) (by omega)
  rw [List.getElem?_eq_getElem (by omega)]
  congr 1
  have h1 := rowL_get sumH (txtsL l) (by rw [txtsL_length]; exact hl) k j hk hj
  rw [rowH_get l ha, rowH_get l hb] at h1
  rw [← h1]
  simp only [rowH, List.getElem_map, List.getD]
  rw [List.getElem?_eq_getElem (by rw [rowH, List.length_map] at hlen; omega)]
  rfl
/-- The text that a digest is the Sum of. -/
def undT (l : List ByteArray) (h j : Nat) : Txt := match h with
  | 0 => ofLeafL ((txtsL l).getD j [])
  | h + 1 => ofNodeL ((rowL sumH (txtsL l) h).getD (2 * j) []) ((rowL sumH (txtsL l) h).getD (2 * j + 1) [])
theorem undT_row (l : List ByteArray) {d h j : Nat} (hl : l.length = 2 ^ d) (hh : h ≤ d) (hj : j < 2 ^ (d - h)) : (rowH l h)[j]? = some (toB (sumH (undT l h j))) := by
  cases h with
  | zero =>
    have hjl : j < l.length := by rw [hl]; simpa using hj
    rw [rowH_zero l hjl, undT, txtsL_get l hjl]
    rfl
  | succ h =>
    have h2 : 2 ^ (d - h) = 2 * 2 ^ (d - (h + 1)) := by rw [← Nat.pow_succ']; congr 1; omega
    have hlen := rowH_length l hl (k := h) (by omega)
    have e1 := List.getElem?_eq_getElem (l := rowH l h) (i := 2 * j) (by omega)
    have e2 := List.getElem?_eq_getElem (l := rowH l h) (i := 2 * j + 1) (by omega)
    rw [rowH_succ l hl (by omega) hj e1 e2, undT, rowH_get l e1, rowH_get l e2]
    rfl
/-- The rows of digests that lie in a slice of slices. -/
def DigsV (w : World) (vs : List Value) (l : List ByteArray) : Prop := ∀ k v, vs[k]? = some v → RowAt w v (rowH l k)
theorem DigsV.keep {w w' : World} {vs : List Value} {l : List ByteArray} (h : DigsV w vs l) (hb : Below w.heap.size w w') : DigsV w' vs l := fun k v hv => (h k v hv).keep hb
theorem RowAt.cell {w : World} {v : Value} {row : List ByteArray} (h : RowAt w v row) : ∃ g c, v = .slice (some ⟨g, 0, none⟩) row.length c ∧ ∀ j x, row[j]? = some x → w.cell? ⟨g, j, none⟩ = some (.string x) := by
  obtain ⟨g, c, e, -, h⟩ := h
  exact ⟨g, c, e, h⟩

/-! ### under -/
theorem under_zero (l : List ByteArray) (A B : Option Addr) (c m c' j : Nat) (hj : j < l.length) (hs : ∀ s ∈ l, s.size ≤ 140737488351232) (q : ByteArray) (hq : undT l 0 j = q.data.toList) (w : World) (hA : Sl w A (strsV l)) :
    Calls Tryd.prog 44 #[.agg #[.slice A l.length c, .slice B m c'], .int .i64 0, .int .i64 (j : Int)] w fun e w' => e = .returned (.string q) ∧ Below w.heap.size w w' := by
  obtain ⟨b, off, rfl, hc⟩ := sl_strV hA hj
  obtain ⟨p, hp⟩ : ∃ p, l[j] = p := ⟨_, rfl⟩
  rw [hp] at hc
  have hps : p.size ≤ 140737488351232 := by rw [← hp]; exact hs _ (List.getElem_mem _)
  rw [undT, txtsL_get l hj, hp] at hq
  have H := fun V => leafText_any p q hps hq V
  have hcB := fun V (hb : Below w.heap.size w V) => (hb.cell (p := ⟨b, off + j, none⟩) (block_lt_of_cell hc)).trans hc
  have hA1 := Below.alloc0 w (.cells #[.slice (some ⟨b, off, none⟩) l.length c, .slice B m c'] 44)
  have hc1 := hcB _ hA1
  clear hA hp hq hs hcB hc
  generalize l.length = n at *
  have hnI : (j : Int) < (n : Int) := by omega
  go_enter Tryd.func44, Tryd.ntmps44
  go_wp2_with fail
  refine (H _).mono ?_
  rintro e w1 ⟨rfl, rfl⟩
  go_wp2
  go_ret
  exact ⟨rfl, hA1⟩
theorem under_succ (A : Option Addr) (n c g m c' h j : Nat) (hh : h < m) (hm : m ≤ 1000) (v : Value) (row : List ByteArray) (hz : row.length ≤ 2000) (a b : ByteArray) (ha : row[2 * j]? = some a) (hb : row[2 * j + 1]? = some b) (hal : a.size ≤ 32) (hbl : b.size ≤ 32) (q : ByteArray) (hq : ofNodeL a.data.toList b.data.toList = q.data.toList)
    (w : World) (hc : w.cell? ⟨g, h, none⟩ = some v) (hrow : RowAt w v row) :
    Calls Tryd.prog 44 #[.agg #[.slice A n c, .slice (some ⟨g, 0, none⟩) m c'], .int .i64 ((h + 1 : Nat) : Int), .int .i64 (j : Int)] w fun e w' => e = .returned (.string q) ∧ Below w.heap.size w w' := by
  obtain ⟨g1, c1, rfl, hg1, hcs⟩ := hrow
  have H := fun V => nodeText_any a b q (by omega) (by omega) hq V
  have hA1 := Below.alloc0 w (.cells #[.slice A n c, .slice (some ⟨g, 0, none⟩) m c'] 44)
  obtain ⟨x, hx⟩ : ∃ x, 2 * j = x := ⟨_, rfl⟩
  obtain ⟨x1, hx1⟩ : ∃ x1, x + 1 = x1 := ⟨_, rfl⟩
  have hl1 := (List.getElem?_eq_some_iff.1 ha).1
  have hl2 := (List.getElem?_eq_some_iff.1 hb).1
  rw [hx] at ha hb hl1 hl2
  rw [hx1] at hb hl2
  have hc2 := (hA1.cell (p := ⟨g, h, none⟩) (block_lt_of_cell hc)).trans hc
  have hca := (hA1.cell (p := ⟨g1, x, none⟩) hg1).trans (hcs _ _ ha)
  have hcb := (hA1.cell (p := ⟨g1, x1, none⟩) hg1).trans (hcs _ _ hb)
  have hb1 := hA1.drew
  have hxI : (2 : Int) * (j : Int) = (x : Int) := by omega
  have hxI1 : (x : Int) + 1 = (x1 : Int) := by omega
  have hh1 : ((h + 1 : Nat) : Int) - 1 = (h : Int) := by omega
  have hhI : (h : Int) < (m : Int) := by omega
  have hne : (((h + 1 : Nat) : Int) == 0) = false := by rw [beq_eq_false_iff_ne]; omega
  generalize ((h + 1 : Nat) : Int) = z at *
  generalize row.length = L at *
  have hw1 : IntKind.i64.wrap (x : Int) = (x : Int) := IntWalk.i64_in _ (by omega)
  have hw2 : IntKind.i64.wrap (x1 : Int) = (x1 : Int) := IntWalk.i64_in _ (by omega)
  have ht1 : (x : Int).toNat = x := by omega
  have ht2 : (x1 : Int).toNat = x1 := by omega
  have hg0 : (0 : Int) ≤ (x : Int) := by omega
  have hg2 : (0 : Int) ≤ (x1 : Int) := by omega
  have hg3 : (x : Int) < (L : Int) := by omega
  have hg4 : (x1 : Int) < (L : Int) := by omega
  clear hq hcs ha hb hx hx1 hc hg1
  go_enter Tryd.func44, Tryd.ntmps44
  go_wp2
  generalize World.alloc w _ = W at *
  go_quiet ((go_at_call 37; exact Calls.quiet_of_same (H _)))
  go_wp2
  go_ret
  exact ⟨rfl, hA1.next (Below.drewN0 _ _)⟩

/-- The row below a digest of row h lies there. -/
def Under (w : World) (l : List ByteArray) (B : Option Addr) (m h : Nat) : Prop := ∀ h', h = h' + 1 → ∃ g u, B = some ⟨g, 0, none⟩ ∧ h' < m ∧ m ≤ 1000 ∧ w.cell? ⟨g, h', none⟩ = some u ∧ RowAt w u (rowH l h')
theorem under_any (l : List ByteArray) (d : Nat) (hd : l.length = 2 ^ d) (hd10 : d ≤ 10) (hs : ∀ s ∈ l, s.size ≤ 140737488351232) (A B : Option Addr) (c m c' h j : Nat) (hh : h ≤ d) (hj : j < 2 ^ (d - h)) (q : ByteArray) (hq : undT l h j = q.data.toList) (w : World) (hA : Sl w A (strsV l)) (hu : Under w l B m h) :
    Calls Tryd.prog 44 #[.agg #[.slice A l.length c, .slice B m c'], .int .i64 (h : Int), .int .i64 (j : Int)] w fun e w' => e = .returned (.string q) ∧ Below w.heap.size w w' := by
  cases h with
  | zero => exact under_zero l A B c m c' j (by rw [hd]; simpa using hj) hs q hq w hA
  | succ h =>
    obtain ⟨g, u, rfl, hm, hm2, hc, hrow⟩ := hu h rfl
    have h2 : 2 ^ (d - h) = 2 * 2 ^ (d - (h + 1)) := by rw [← Nat.pow_succ']; congr 1; omega
    have hlen := rowH_length l hd (k := h) (by omega)
    have h3 : 2 ^ (d - h) ≤ 2 ^ 10 := Nat.pow_le_pow_right (by omega) (by omega)
    have e1 := List.getElem?_eq_getElem (l := rowH l h) (i := 2 * j) (by omega)
    have e2 := List.getElem?_eq_getElem (l := rowH l h) (i := 2 * j + 1) (by omega)
    refine under_succ A l.length c g m c' h j hm hm2 u _ (by omega) _ _ e1 e2 (rowH_le l hd (by omega) e1) (rowH_le l hd (by omega) e2) q ?_ w hc hrow
    rw [← hq, undT, rowH_get l e1, rowH_get l e2]

/-! ### root -/
/-- The rows 0 to d of a row of texts, in a slice of slices. -/
def DigsAt (w : World) (v : Value) (d : Nat) (l : List ByteArray) : Prop := ∃ g c, v = .slice (some ⟨g, 0, none⟩) (d + 1) c ∧ g < w.heap.size ∧ ∀ q, q ≤ d → ∃ u, w.cell? ⟨g, q, none⟩ = some u ∧ RowAt w u (rowH l q)
theorem DigsAt.keep {w w' : World} {v : Value} {d : Nat} {l : List ByteArray} (h : DigsAt w v d l) (hb : Below w.heap.size w w') : DigsAt w' v d l := by
  obtain ⟨g, c, rfl, hg, hq⟩ := h
  refine ⟨g, c, rfl, Nat.lt_of_lt_of_le hg hb.size, fun q hqd => ?_⟩
  obtain ⟨u, h1, h2⟩ := hq q hqd
  exact ⟨u, (hb.cell (p := ⟨g, q, none⟩) hg).trans h1, h2.keep hb⟩
theorem root_any (l : List ByteArray) (d : Nat) (hd : l.length = 2 ^ d) (hd10 : d ≤ 10) (A : Option Addr) (n c : Nat) (v : Value) (r : ByteArray) (hr : toB (rootL sumH (txtsL l) d) = r) (w : World) (hv : DigsAt w v d l) :
    Calls Tryd.prog 30 #[.agg #[.slice A n c, v]] w fun e w' => e = .returned (.string r) ∧ Below w.heap.size w w' := by
  obtain ⟨g, c1, rfl, hg, hq⟩ := hv
  obtain ⟨u, hu, g1, c2, rfl, hg1, hc⟩ := hq d (Nat.le_refl _)
  have hlen := rowH_length l hd (Nat.le_refl d)
  rw [Nat.sub_self, Nat.pow_zero] at hlen
  have e1 := List.getElem?_eq_getElem (l := rowH l d) (i := 0) (by omega)
  have hx : (rowH l d)[0]'(by omega) = r := by
    have h1 := rowH_get l e1
    rw [← hr, rootL, h1, toB_eq]
  rw [hx] at e1
  have hA1 := Below.alloc0 w (.cells #[.slice A n c, .slice (some ⟨g, 0, none⟩) (d + 1) c1] 44)
  have hca := (hA1.cell (p := ⟨g, d, none⟩) hg).trans hu
  have hcb := (hA1.cell (p := ⟨g1, 0, none⟩) hg1).trans (hc _ _ e1)
  rw [hlen] at hca
  have hd1 : ((d + 1 : Nat) : Int) - 1 = (d : Int) := by omega
  have hdI : (d : Int) < ((d + 1 : Nat) : Int) := by omega
  clear hq hc e1 hx hr hlen hu
  have hm1 : d + 1 ≤ 1000 := by omega
  clear hd hd10 hg hg1
  generalize d + 1 = m at *
  go_enter Tryd.func30, Tryd.ntmps30
  go_wp2
  go_ret
  exact ⟨rfl, hA1⟩
theorem DigsAt.under {w : World} {v : Value} {d : Nat} {l : List ByteArray} (h : DigsAt w v d l) (hd10 : d ≤ 10) : ∃ g c, v = .slice (some ⟨g, 0, none⟩) (d + 1) c ∧ g < w.heap.size ∧ ∀ q, q ≤ d → Under w l (some ⟨g, 0, none⟩) (d + 1) q := by
  obtain ⟨g, c, rfl, hg, hq⟩ := h
  refine ⟨g, c, rfl, hg, fun q hqd h' hh => ?_⟩
  obtain ⟨u, h1, h2⟩ := hq h' (by omega)
  exact ⟨g, u, rfl, by omega, by omega, h1, h2⟩
end Go.Proofs.YtgcohoonhklkbaaDoor

/-
  tree: the contract of add (a method of rows).
-/
namespace Go.Proofs.YtgcohoonhklkbaaDoor
open Go.RowKit Go.Kx Go.Trm
set_option maxRecDepth 20000

/-- A row that is being made: its first j digests are there. -/
def madeV (row : List ByteArray) (j i : Nat) : Value := .string (if i < j then row.getD i ⟨#[]⟩ else ⟨#[]⟩)
theorem madeV_set (row : List ByteArray) (j : Nat) (z : ByteArray) (hz : row[j]? = some z) (i : Nat) : (if i = j then Value.string z else madeV row j i) = madeV row (j + 1) i := by
  unfold madeV
  by_cases h : i = j
  · subst h
    rw [if_pos rfl, if_pos (by omega), List.getD, hz]
    rfl
  · rw [if_neg h]
    by_cases h2 : i < j
    · rw [if_pos h2, if_pos (by omega)]
    · rw [if_neg h2, if_neg (by omega)]
theorem madeV_at {row : List ByteArray} {j : Nat} {x : ByteArray} (h : row[j]? = some x) : madeV row row.length j = .string x := by
  unfold madeV
  rw [if_pos (List.getElem?_eq_some_iff.1 h).1, List.getD, h]
  rfl
theorem own_other {V W : World} {B b : Nat} {e : TypeId} {sz : Nat} {v : Value} {n : Nat} {xs : List Value} (h : V.ownsRow B e sz v n xs) (hh : V.grownBy W (some b)) (hB : b < B) : W.ownsRow B e sz v n xs := by
  refine h.kept hh ?_
  cases ho : v.ownBlock with
  | none => exact .inl rfl
  | some k =>
    right
    intro e
    cases e
    have := (h.lt _ ho).1
    omega
theorem grownCell (w : World) (a : Addr) (u : Value) : w.grownBy (w.setCell a u) (some a.block) :=
  ⟨rfl, rfl, rfl, by simp, fun k _ hne => Below.heap_setCell _ _ _ k (fun e => hne (by rw [e]))⟩
/-- A store into another block leaves a row. -/
theorem RowAt.set {w : World} {v : Value} {row : List ByteArray} (h : RowAt w v row) (h0 : 0 < row.length) {R o : Nat} {a : Option Addr} {n c : Nat} (hR : w.cell? ⟨R, 0, none⟩ = some (.slice a n c)) (x : Value) : RowAt (w.setCell ⟨R, o, none⟩ x) v row := by
  obtain ⟨g, c1, rfl, hg, hc⟩ := h
  have hne : g ≠ R := by
    rintro rfl
    have h1 := hc 0 row[0] (List.getElem?_eq_getElem h0)
    rw [hR] at h1
    simp at h1
  exact ⟨g, c1, rfl, by simp [hg], fun j y hy => (World.cell?_setCell_other _ _ _ _ (fun e => hne (by cases e; rfl))).trans (hc j y hy)⟩
set_option maxHeartbeats 4000000 in
theorem rowsAdd_any (HD : DSumH) (l : List ByteArray) (d : Nat) (hd : l.length = 2 ^ d) (hd10 : d ≤ 10) (hs : ∀ s ∈ l, s.size ≤ 140737488351232) (A : Option Addr) (c R k size : Nat) (hk : k ≤ d) (hsz : 2 ^ (d - k) = size) (v : Value) (vs : List Value) (W : World)
    (hA : ∀ V, Below W.heap.size W V → Sl V A (strsV l)) (hK : ∀ V, Below W.heap.size W V → Consts V) (hL : W.heap[R]? = some (.cells #[.slice A l.length c, v] 44)) (hown : W.ownsRow (R + 1) 22 1 v k vs) (hdig : DigsV W vs l) :
    Calls Tryd.prog 51 #[.pointer (some ⟨R, 0, none⟩), .int .i64 (size : Int)] W fun e W' => (∃ u, e = .returned u) ∧
      ∃ v' vs', W'.heap[R]? = some (.cells #[.slice A l.length c, v'] 44) ∧ W'.ownsRow (R + 1) 22 1 v' (k + 1) vs' ∧ DigsV W' vs' l ∧ Below R W W' := by
  obtain ⟨B, c', rfl, -⟩ := own_sl hown
  have hlen := rowH_length l hd hk
  rw [hsz] at hlen
  have hs0 : 0 < size := by rw [← hsz]; exact Nat.two_pow_pos _
  have hs9 : size ≤ 1024 := by rw [← hsz]; have : 2 ^ (d - k) ≤ 2 ^ 10 := Nat.pow_le_pow_right (by omega) (by omega); omega
  have hRW := (Array.getElem?_eq_some_iff.1 hL).1
  have HK := Lib.hid hK
  have HUND : Hid (∀ j q, j < size → undT l k j = q.data.toList → ∀ V, Below W.heap.size W V → Calls Tryd.prog 44 #[.agg #[.slice A l.length c, .slice B k c'], .int .i64 (k : Int), .int .i64 (j : Int)] V fun e w' => e = .returned (.string q) ∧ Below V.heap.size V w') := Lib.hid fun j q hj hq V hV => by
    refine under_any l d hd hd10 hs A B c k c' k j hk (by rw [hsz]; exact hj) q hq V (hA V hV) fun h' hh => ?_
    obtain ⟨g, c1, e, hg, hvl, hcl⟩ := own_vals hown (by omega)
    obtain rfl : B = some ⟨g, 0, none⟩ := by injection e
    have e1 := List.getElem?_eq_getElem (l := vs) (i := h') (by omega)
    exact ⟨g, _, rfl, by omega, by omega, (hV.cell (p := ⟨g, h', none⟩) hg).trans (hcl _ _ e1), (hdig _ _ e1).keep hV⟩
  have HROW : Hid (∀ j, j < size → ∃ q z : ByteArray, undT l k j = q.data.toList ∧ q.size ≤ 140737488355328 ∧ sumH q.data.toList = z.data.toList ∧ (rowH l k)[j]? = some z) := Lib.hid fun j hj => by
    have h1 := undT_row l hd hk (j := j) (by rw [hsz]; exact hj)
    refine ⟨toB (undT l k j), _, (toB_list _).symm, ?_, ?_, h1⟩
    · rw [toB_size]
      cases k with
      | zero =>
        have hjl : j < l.length := by rw [hd]; rw [Nat.sub_zero] at hsz; omega
        rw [undT, txtsL_get l hjl]
        have := hs _ (List.getElem_mem hjl)
        have e3 : l[j].data.toList.length = l[j].size := by simp
        simp only [ofLeafL, List.length_cons]
        omega
      | succ k =>
        have h2 : 2 ^ (d - k) = 2 * 2 ^ (d - (k + 1)) := by rw [← Nat.pow_succ']; congr 1; omega
        have hlen := rowH_length l hd (k := k) (by omega)
        have e1 := List.getElem?_eq_getElem (l := rowH l k) (i := 2 * j) (by omega)
        have e2 := List.getElem?_eq_getElem (l := rowH l k) (i := 2 * j + 1) (by omega)
        have g1 := rowH_le l hd (by omega) e1
        have g2 := rowH_le l hd (by omega) e2
        rw [undT, rowH_get l e1, rowH_get l e2]
        have e3 : ((rowH l k)[2 * j]'(by omega)).data.toList.length = ((rowH l k)[2 * j]'(by omega)).size := by simp
        have e4 : ((rowH l k)[2 * j + 1]'(by omega)).data.toList.length = ((rowH l k)[2 * j + 1]'(by omega)).size := by simp
        simp only [ofNodeL, List.length_cons, List.length_append]
        omega
    · rw [toB_list, toB_list]
  have HDIG := Lib.hid hdig
  have HDS := Lib.hid HD
  obtain ⟨j0, hJ0, hy0, hy1, hy2⟩ := info_parts texts_info
  have hmk := run_make_row' (P := Tryd.prog) 22 9 (.string ⟨#[]⟩) 16 Tryd.underlying22 string_info rfl .i64 .i64 size (by omega) (by omega)
  have HLEN := Lib.hid hlen
  have HPOS : Hid (∀ i, i ≤ k → 0 < (rowH l i).length) := Lib.hid fun i hi => by rw [rowH_length l hd (by omega)]; exact Nat.two_pow_pos _
  have hl1 : l.length ≤ 1024 := by rw [hd]; have : 2 ^ d ≤ 2 ^ 10 := Nat.pow_le_pow_right (by omega) hd10; omega
  clear HD hs hA hK hdig hd hsz hlen
  obtain ⟨row, hrow⟩ : ∃ row, rowH l k = row := ⟨_, rfl⟩
  rw [hrow] at HLEN HROW
  have HRW := Lib.hid hrow
  clear hrow
  generalize l.length = n at *
  have hr0 := World.rowIs_made W (.string ⟨#[]⟩) size 9
  replace hr0 := hr0.congr (g := madeV row 0) (fun i _ => by simp [madeV])
  have hb0 := Below.alloc0 W (.cells (madeCells #[.string ⟨#[]⟩] size) 9)
  go_enter Tryd.func51, Tryd.ntmps51
  go_wp2
  generalize World.alloc W _ = W1 at *
  go_loopw [10] (fun i wr => ∃ j : Nat, i = .int .i64 (j : Int) ∧ j ≤ size ∧ wr.rowIs W.heap.size 9 size (madeV row j) ∧ Below W.heap.size W wr) (fun i _ => size - (intOf i).toNat)
  case atStart => exact ⟨0, rfl, by omega, hr0, hb0⟩
  case round =>
    clear hr0 hb0
    obtain ⟨j, rfl, hj, hr, hb⟩ := hrel
    have hLr : wr.heap[R]? = some (.cells #[.slice A n c, .slice B k c'] 44) := (hb.block R hRW).trans hL
    by_cases hlt : j < size
    · obtain ⟨q, z, hq, hqz, hz, hrz⟩ := HROW.out j hlt
      have hund := HUND.out j q hlt hq wr.drew (hb.drew)
      have HDS := Lib.hid (HDS.out q z hqz hz)
      have HSET := Lib.hid (madeV_set row j z hrz)
      have hc0 : wr.cell? ⟨R, 0, none⟩ = some (.slice A n c) := by rw [cell_of_row _ _ _ _ _ _ hLr]; rfl
      have hc1 : wr.cell? ⟨R, 1, none⟩ = some (.slice B k c') := by rw [cell_of_row _ _ _ _ _ _ hLr]; rfl
      have hRV : R < wr.drew.heap.size := (Array.getElem?_eq_some_iff.1 hLr).1
      clear hq hqz hz hrz hLr
      have hjI : (j : Int) < (size : Int) := by omega
      go_wp2_with fail
      refine Uptot.begin_ [] (fun w' => w'.cell? ⟨R, 0, none⟩ = some (.slice A n c) ∧ w'.cell? ⟨R, 1, none⟩ = some (.slice B k c')) (fun _ => True) (by kernel_rfl) ?_
      have hST : (wr.drew.cell? ⟨R, 0, none⟩ = some (.slice A n c) ∧ wr.drew.cell? ⟨R, 1, none⟩ = some (.slice B k c')) ∧ True := ⟨⟨hc0, hc1⟩, trivial⟩
      have hrD := hr.drew
      have hbD := hb.drew
      clear hc0 hc1 hr hb
      generalize wr.drew = V2 at *
      refine Uptot.takeS (i := 0) (v := ?_) rfl (by kernel_rfl) (by kernel_rfl) (by kernel_rfl) (by kernel_rfl) (fun _ _ _ h => h) (Or.inl ⟨by rfl, ?_⟩) hST ?_
      rotate_left 1
      · intro w9 hSw; (try dsimp only at hSw); obtain ⟨h91, h92⟩ := hSw; go_simp; (try with_reducible rfl)
      try simp only [Act.put, List.setIfInBounds_toArray, List.set_cons_zero, List.set_cons_succ]
      refine Uptot.takeS (i := 1) (v := ?_) rfl (by kernel_rfl) (by kernel_rfl) (by kernel_rfl) (by kernel_rfl) (fun _ _ _ h => h) (Or.inl ⟨by rfl, ?_⟩) hST ?_
      rotate_left 1
      · intro w9 hSw; (try dsimp only at hSw); obtain ⟨h91, h92⟩ := hSw; go_simp; (try with_reducible rfl)
      try simp only [Act.put, List.setIfInBounds_toArray, List.set_cons_zero, List.set_cons_succ]
      refine Uptot.takeS (i := 2) (v := ?_) rfl (by kernel_rfl) (by kernel_rfl) (by kernel_rfl) (by kernel_rfl) (fun _ _ _ h => h) (Or.inl ⟨by rfl, ?_⟩) hST ?_
      rotate_left 1
      · intro w9 hSw; (try dsimp only at hSw); obtain ⟨h91, h92⟩ := hSw; go_simp; (try with_reducible rfl)
      try simp only [Act.put, List.setIfInBounds_toArray, List.set_cons_zero, List.set_cons_succ]
      refine Uptot.takeS (i := 3) (v := ?_) rfl (by kernel_rfl) (by kernel_rfl) (by kernel_rfl) (by kernel_rfl) (fun _ _ _ h => h) (Or.inl ⟨by rfl, ?_⟩) hST ?_
      rotate_left 1
      · intro w9 hSw; (try dsimp only at hSw); obtain ⟨h91, h92⟩ := hSw; go_simp; (try with_reducible rfl)
      try simp only [Act.put, List.setIfInBounds_toArray, List.set_cons_zero, List.set_cons_succ]
      refine Uptot.takeS (i := 4) (v := ?_) rfl (by kernel_rfl) (by kernel_rfl) (by kernel_rfl) (by kernel_rfl) (fun _ _ _ h => h) (Or.inl ⟨by rfl, ?_⟩) hST ?_
      rotate_left 1
      · intro w9 hSw; (try dsimp only at hSw); obtain ⟨h91, h92⟩ := hSw; go_simp; (try with_reducible rfl)
      try simp only [Act.put, List.setIfInBounds_toArray, List.set_cons_zero, List.set_cons_succ]
      refine Uptot.takeS (i := 5) (v := ?_) rfl (by kernel_rfl) (by kernel_rfl) (by kernel_rfl) (by kernel_rfl) (fun _ _ _ h => h) (Or.inl ⟨by rfl, ?_⟩) hST ?_
      rotate_left 1
      · intro w9 hSw; (try dsimp only at hSw); obtain ⟨h91, h92⟩ := hSw; go_simp; (try with_reducible rfl)
      try simp only [Act.put, List.setIfInBounds_toArray, List.set_cons_zero, List.set_cons_succ]
      refine Uptot.takeS (i := 6) (v := ?_) rfl (by kernel_rfl) (by kernel_rfl) (by kernel_rfl) (by kernel_rfl) (fun _ _ _ h => h) (Or.inl ⟨by rfl, ?_⟩) hST ?_
      rotate_left 1
      · intro w9 hSw; (try dsimp only at hSw); obtain ⟨h91, h92⟩ := hSw; go_simp; (try with_reducible rfl)
      try simp only [Act.put, List.setIfInBounds_toArray, List.set_cons_zero, List.set_cons_succ]
      refine Uptot.takeS (i := 7) (v := ?_) rfl (by kernel_rfl) (by kernel_rfl) (by kernel_rfl) (by kernel_rfl) (fun _ _ _ h => h) (Or.inl ⟨by rfl, ?_⟩) hST ?_
      rotate_left 1
      · intro w9 hSw; (try dsimp only at hSw); obtain ⟨h91, h92⟩ := hSw; go_simp; (try with_reducible rfl)
      try simp only [Act.put, List.setIfInBounds_toArray, List.set_cons_zero, List.set_cons_succ]
      refine Uptot.takeS (i := 8) (v := ?_) rfl (by kernel_rfl) (by kernel_rfl) (by kernel_rfl) (by kernel_rfl) (fun _ _ _ h => h) (Or.inl ⟨by rfl, ?_⟩) hST ?_
      rotate_left 1
      · intro w9 hSw; (try dsimp only at hSw); obtain ⟨h91, h92⟩ := hSw; go_simp; (try with_reducible rfl)
      try simp only [Act.put, List.setIfInBounds_toArray, List.set_cons_zero, List.set_cons_succ]
      refine Uptot.takeS (i := 9) (v := ?_) rfl (by kernel_rfl) (by kernel_rfl) (by kernel_rfl) (by kernel_rfl) (fun _ _ _ h => h) (Or.inl ⟨by rfl, ?_⟩) hST ?_
      rotate_left 1
      · intro w9 hSw; (try dsimp only at hSw); obtain ⟨h91, h92⟩ := hSw; go_simp; (try with_reducible rfl)
      try simp only [Act.put, List.setIfInBounds_toArray, List.set_cons_zero, List.set_cons_succ]
      refine Uptot.takeS (i := 10) (v := ?_) rfl (by kernel_rfl) (by kernel_rfl) (by kernel_rfl) (by kernel_rfl) (fun _ _ _ h => h) (Or.inl ⟨by rfl, ?_⟩) hST ?_
      rotate_left 1
      · intro w9 hSw; (try dsimp only at hSw); obtain ⟨h91, h92⟩ := hSw; go_simp; (try with_reducible rfl)
      try simp only [Act.put, List.setIfInBounds_toArray, List.set_cons_zero, List.set_cons_succ]
      refine Uptot.one (i := 11) rfl (by kernel_rfl) (fun K hK9 => ?_)
      go_simp
      go_at_call 44
      refine (hund.mono ?_)
      rintro e w3 ⟨rfl, hs3⟩
      replace hST : (w3.cell? ⟨R, 0, none⟩ = some (.slice A n c) ∧ w3.cell? ⟨R, 1, none⟩ = some (.slice B k c')) ∧ True := ⟨⟨(hs3.cell (p := ⟨R, 0, none⟩) hRV).trans hST.1.1, (hs3.cell (p := ⟨R, 1, none⟩) hRV).trans hST.1.2⟩, trivial⟩
      have hr3 := rowIs_keep hrD hs3
      have hb3 := hbD.next' hs3 (by have := hbD.size; omega)
      have hR3 : R < w3.heap.size := Nat.lt_of_lt_of_le hRV hs3.size
      clear hund hrD hbD hs3
      refine hK9.out _ _ (Cond.ahead hST) ?_
      clear hK9 K
      try simp only [Act.put, List.setIfInBounds_toArray, List.set_cons_zero, List.set_cons_succ]
      refine Uptot.one (i := 12) rfl (by kernel_rfl) (fun K hK9 => ?_)
      go_simp
      go_at_call 27
      refine (HDS.out _ (HK.out _ hb3)).mono ?_
      rintro e w4 ⟨rfl, hs4⟩
      replace hST : (w4.cell? ⟨R, 0, none⟩ = some (.slice A n c) ∧ w4.cell? ⟨R, 1, none⟩ = some (.slice B k c')) ∧ True := ⟨⟨(hs4.cell (p := ⟨R, 0, none⟩) hR3).trans hST.1.1, (hs4.cell (p := ⟨R, 1, none⟩) hR3).trans hST.1.2⟩, trivial⟩
      have hr4 := rowIs_keep hr3 hs4
      have hb4 := hb3.next' hs4 (by have := hb3.size; omega)
      have hc4 := hr4.cell hlt
      have hf4 := hr4.frozen j
      clear hr3 hb3 hs4
      refine hK9.out _ _ (Cond.ahead hST) ?_
      clear hK9 K
      try simp only [Act.put, List.setIfInBounds_toArray, List.set_cons_zero, List.set_cons_succ]
      refine Uptot.one (i := 13) rfl (by kernel_rfl) (fun K hK9 => ?_)
      go_simp
      refine hK9.out _ _ (Cond.ahead hST) ?_
      clear hK9 K
      try simp only [Act.put, List.setIfInBounds_toArray, List.set_cons_zero, List.set_cons_succ]
      refine Uptot.one (i := 14) rfl (by kernel_rfl) (fun K hK9 => ?_)
      go_simp
      replace hST : ((w4.setCell ⟨W.heap.size, j, none⟩ (.string z)).cell? ⟨R, 0, none⟩ = some (.slice A n c) ∧ (w4.setCell ⟨W.heap.size, j, none⟩ (.string z)).cell? ⟨R, 1, none⟩ = some (.slice B k c')) ∧ True := ⟨⟨(World.cell?_setCell_other _ _ _ _ (by simp <;> omega)).trans hST.1.1, (World.cell?_setCell_other _ _ _ _ (by simp <;> omega)).trans hST.1.2⟩, trivial⟩
      replace hr4 := (hr4.set j (.string z)).congr (g := madeV row (j + 1)) (fun i _ => HSET.out i)
      replace hb4 := hb4.setCell (p := ⟨W.heap.size, j, none⟩) (by simp) (.string z)
      refine hK9.out _ _ (Cond.ahead hST) ?_
      clear hK9 K
      try simp only [Act.put, List.setIfInBounds_toArray, List.set_cons_zero, List.set_cons_succ]
      refine Uptot.done (by kernel_rfl) ?_ _
      clear hST
      have hLV := hb4.size
      go_wp2
      go_roundw
      case rel => exact ⟨j + 1, by go_num, by omega, hr4, hb4⟩
      case measure => simp [intOf]; omega
    · obtain rfl : j = size := by omega
      rw [← HLEN.out] at hr
      have hrow : RowAt wr (.slice (some ⟨W.heap.size, 0, none⟩) j j) row := ⟨W.heap.size, j, by rw [HLEN.out], hr.lt, fun i x hx => by
        have h1 := (List.getElem?_eq_some_iff.1 hx).1
        rw [hr.cell h1]
        exact congrArg some (madeV_at hx)⟩
      have hown1 := own_keep hown hb
      have hdig1 := HDIG.out.keep hb
      have hc0 : wr.cell? ⟨R, 0, none⟩ = some (.slice A n c) := by rw [cell_of_row _ _ _ _ _ _ hLr]; rfl
      have hc1 : wr.cell? ⟨R, 1, none⟩ = some (.slice B k c') := by rw [cell_of_row _ _ _ _ _ _ hLr]; rfl
      clear hr
      go_wp2_with (first
        | (at_builtin; refine wpList_append_own _ rfl _ _ 42 rfl (R + 1) 22 j0 (.slice none 0 0) 1 24 Tryd.underlying42 hJ0 hy0 hy1 hy2 rfl (by decide) _ _ _ rfl (hown1.alloc _) ⟨wr.heap.size, 0, none⟩ 1 1 [.slice (some ⟨W.heap.size, 0, none⟩) j j] rfl rfl ?c1 ?c2 ?c3 ?c4 ?c5 ?_)
        | go_in)
      case c1 =>
        intro i u hi
        match i, hi with
        | 0, hi => simp at hi; subst hi; simp [Addr.add]
      case c2 => intro u hu; simp at hu; subst hu; rfl
      case c3 => unfold maxLen; omega
      case c4 => omega
      case c5 => have := hb.size; simp; omega
      intro v' w4 hown' hgrow _
      have hne : ∀ b, (Value.slice B k c').ownBlock = some b → R + 1 ≤ b ∧ b < W.heap.size := fun b e => hown.lt b e
      have hWr := hb.size
      have hL4 := (hgrow.block R (by simp; omega) (fun e => by have := (hne _ e.symm).1; omega)).trans ((Below.heap_alloc wr (.cells #[.slice (some ⟨W.heap.size, 0, none⟩) j j] 22) R (by omega)).trans hLr)
      have hb4 : Below (R + 1) W w4 := ((hb.mono hRW).alloc (by omega) (.cells #[.slice (some ⟨W.heap.size, 0, none⟩) j j] 22)).grown hgrow (by simp; omega) (fun b e => (hne b e).1)
      have hpos : ∀ i, i ≤ k → 0 < (rowH l i).length := HPOS.out
      have hrow4 : RowAt w4 (.slice (some ⟨W.heap.size, 0, none⟩) j j) row := by
        obtain ⟨g, c5, e5, hg5, hc5⟩ := hrow.keep (Below.alloc0 wr (.cells #[.slice (some ⟨W.heap.size, 0, none⟩) j j] 22))
        obtain rfl : W.heap.size = g := by simp at e5; exact e5.1
        refine ⟨_, c5, e5, Nat.lt_of_lt_of_le hg5 hgrow.size, fun i x hx => ?_⟩
        rw [World.grownBy.cell_far hgrow ⟨W.heap.size, i, none⟩ hg5 (fun e => absurd (hne _ e.symm).2 (Nat.lt_irrefl _))]
        exact hc5 i x hx
      have hvl : vs.length = k := by have := hown.1; simpa using this
      have hdig4 : DigsV w4 (vs ++ [.slice (some ⟨W.heap.size, 0, none⟩) j j]) l := fun i u hu => by
        by_cases hik : i < vs.length
        · rw [List.getElem?_append_left hik] at hu
          have h5 := (hdig1.keep (Below.alloc0 wr (.cells #[.slice (some ⟨W.heap.size, 0, none⟩) j j] 22))) i u hu
          refine h5.grown (hpos i (by omega)) (hown1.alloc _) (fun x hx => ?_) (by omega) hgrow
          obtain ⟨i2, hi2, rfl⟩ := List.getElem_of_mem hx
          obtain ⟨g, c, e, _⟩ := HDIG.out i2 _ (List.getElem?_eq_getElem hi2)
          exact ⟨_, _, _, e⟩
        · have hi3 := (List.getElem?_eq_some_iff.1 hu).1
          simp only [List.length_append, List.length_singleton] at hi3
          obtain rfl : i = k := by omega
          rw [List.getElem?_append_right (by omega), hvl, Nat.sub_self] at hu
          obtain rfl := Option.some.inj hu
          rw [HRW.out]
          exact hrow4
      obtain ⟨A1, c1, rfl, -⟩ := own_sl hown'
      have hc40 : w4.cell? ⟨R, 0, none⟩ = some (.slice A n c) := by rw [cell_of_row _ _ _ _ _ _ hL4]; rfl
      have hc41 : w4.cell? ⟨R, 1, none⟩ = some (.slice B k c') := by rw [cell_of_row _ _ _ _ _ _ hL4]; rfl
      have hf41 : w4.frozen? ⟨R, 1, none⟩ = false := by unfold World.frozen?; rw [hL4]; simp
      clear hown1 hdig1 hgrow hrow hrow4 hb hLr hc0 hc1 hne hL hown
      go_wp2
      go_end0
      refine ⟨⟨_, rfl⟩, _, _, (heap_setCell_same w4 R 1 _ _ _ hL4).trans rfl, own_other hown' (grownCell w4 ⟨R, 1, none⟩ _) (by simp), fun i u hu => ?_, (hb4.mono (by omega)).setCell (p := ⟨R, 1, none⟩) (by simp) _⟩
      have hi3 := (List.getElem?_eq_some_iff.1 hu).1
      simp only [List.length_append, List.length_singleton] at hi3
      exact (hdig4 i u hu).set (hpos i (by omega)) hc40 _
end Go.Proofs.YtgcohoonhklkbaaDoor

/-
  tree: the contract of over.
-/
namespace Go.Proofs.YtgcohoonhklkbaaDoor
open Go.RowKit Go.Kx Go.Trm
set_option maxRecDepth 20000

theorem treeRows_info : (Tryd.prog.info? 44).map (·.size) = some 2 := by kernel_rfl
theorem DigsAt.of {w : World} {B : Nat} {v : Value} {d : Nat} {vs : List Value} {l : List ByteArray} (hown : w.ownsRow B 22 1 v (d + 1) vs) (h : DigsV w vs l) : DigsAt w v d l := by
  obtain ⟨g, c, rfl, hg, hl, hc⟩ := own_vals hown (by omega)
  refine ⟨g, c, rfl, hg, fun q hq => ?_⟩
  have e := List.getElem?_eq_getElem (l := vs) (i := q) (by omega)
  exact ⟨_, hc q _ e, h q _ e⟩
/-- What over tells. -/
def OverP (l : List ByteArray) (A : Option Addr) (n c d : Nat) (W : World) (e : Ending) (W' : World) : Prop :=
  ∃ v, e = .returned (.agg #[.slice A n c, v]) ∧ DigsAt W' v d l ∧ Below W.heap.size W W'
theorem pow_half (d k : Nat) (hk : k ≤ d) : 2 ^ d / 2 ^ k = 2 ^ (d - k) := Nat.pow_div hk (by omega)
set_option maxHeartbeats 4000000 in
theorem over_any (HD : DSumH) (l : List ByteArray) (d : Nat) (hd : l.length = 2 ^ d) (hd10 : d ≤ 10) (hs : ∀ s ∈ l, s.size ≤ 140737488351232) (A : Option Addr) (c : Nat) (w : World) (hA : Sl w A (strsV l)) (hK : Consts w) :
    Calls Tryd.prog 29 #[.slice A l.length c] w fun e w' => OverP l A l.length c d w e w' := by
  have HADD : Hid (∀ (k x : Nat) (v : Value) (vs : List Value) (V : World), k ≤ d → 2 ^ (d - k) = x → Below w.heap.size w V → V.heap[w.heap.size + 1]? = some (.cells #[.slice A l.length c, v] 44) → V.ownsRow (w.heap.size + 1 + 1) 22 1 v k vs → DigsV V vs l →
      Calls Tryd.prog 51 #[.pointer (some ⟨w.heap.size + 1, 0, none⟩), .int .i64 (x : Int)] V fun e W' => (∃ u, e = .returned u) ∧
      ∃ v' vs', W'.heap[w.heap.size + 1]? = some (.cells #[.slice A l.length c, v'] 44) ∧ W'.ownsRow (w.heap.size + 1 + 1) 22 1 v' (k + 1) vs' ∧ DigsV W' vs' l ∧ Below (w.heap.size + 1) V W') := Lib.hid fun k x v vs V hk hx hb hL hown hdig =>
    rowsAdd_any HD l d hd hd10 hs A c (w.heap.size + 1) k x hk hx v vs V (fun U hU => hA.keep (hb.next hU)) (fun U hU => hK.keep (hb.next hU)) hL hown hdig
  have hn1 : l.length ≤ 1024 := by rw [hd]; have : 2 ^ d ≤ 2 ^ 10 := Nat.pow_le_pow_right (by omega) hd10; omega
  have HPOS : Hid (∀ i, i ≤ d → 0 < (rowH l i).length) := Lib.hid fun i hi => by rw [rowH_length l hd hi]; exact Nat.two_pow_pos _
  have HSZ : Hid (l.length = 2 ^ d / 2 ^ 0) := Lib.hid (by rw [hd]; simp)
  clear hd hs hA hK HD
  generalize l.length = n at *
  go_enter Tryd.func29, Tryd.ntmps29
  go_wp2
  have hb0 : Below w.heap.size w ((w.alloc (.cells #[.slice none 0 0, .slice none 0 0] 44)).alloc (.cells #[.slice A n c, .slice none 0 0] 44)) := (Below.alloc0 w _).alloc (by simp) _
  have hN0 : ((w.alloc (.cells #[.slice none 0 0, .slice none 0 0] 44)).alloc (.cells #[.slice A n c, .slice none 0 0] 44)).heap[w.heap.size]? = some (.cells #[.slice none 0 0, .slice none 0 0] 44) :=
    (Below.heap_alloc _ _ _ (by simp)).trans (heap_alloc_new w _)
  have hR0 : ((w.alloc (.cells #[.slice none 0 0, .slice none 0 0] 44)).alloc (.cells #[.slice A n c, .slice none 0 0] 44)).heap[w.heap.size + 1]? = some (.cells #[.slice A n c, .slice none 0 0] 44) := by
    have h := heap_alloc_new (w.alloc (.cells #[.slice none 0 0, .slice none 0 0] 44)) (.cells #[.slice A n c, .slice none 0 0] 44)
    rwa [World.size_alloc] at h
  generalize ((w.alloc _).alloc _) = W0 at *
  go_loopw [4] (fun s wr => ∃ (k x : Nat) (v : Value) (vs : List Value), s = .int .i64 (x : Int) ∧ Hid (x = 2 ^ d / 2 ^ k) ∧ x ≤ 1024 ∧ k ≤ d + 1 ∧ wr.heap[w.heap.size + 1]? = some (.cells #[.slice A n c, v] 44) ∧
    wr.ownsRow (w.heap.size + 1 + 1) 22 1 v k vs ∧ DigsV wr vs l ∧ Below w.heap.size w wr ∧ wr.heap[w.heap.size]? = some (.cells #[.slice none 0 0, .slice none 0 0] 44)) (fun s _ => (intOf s).toNat)
  case atStart => exact ⟨0, n, _, [], rfl, HSZ, hn1, by omega, hR0, World.ownsRow_nil _ _ _ _, (fun k v h => by simp at h), hb0, hN0⟩
  case round =>
    clear hb0 hN0 hR0
    obtain ⟨k, x, v, vs, rfl, hx, hxl, hk, hR, hown, hdig, hb, hN⟩ := hrel
    by_cases hkd : k ≤ d
    · have hx2 : 2 ^ (d - k) = x := by rw [hx.out, pow_half d k hkd]
      have hx0 : 0 < x := by rw [← hx2]; exact Nat.two_pow_pos _
      have hadd := HADD.out k x v vs wr hkd hx2 hb hR hown hdig
      have HX : Hid (x / 2 = 2 ^ d / 2 ^ (k + 1)) := Lib.hid (by rw [hx.out, Nat.div_div_eq_div_mul, Nat.pow_succ])
      have hNl := (Array.getElem?_eq_some_iff.1 hN).1
      clear hx2 hR hown hdig
      go_wp2_with fail
      refine hadd.mono ?_
      rintro e w1 ⟨⟨u, rfl⟩, v1, vs1, hR1, hown1, hdig1, hb1⟩
      have hN1 := (hb1.block w.heap.size (by omega)).trans hN
      have hb2 : Below w.heap.size w w1 := hb.trans (hb1.mono (by omega))
      clear hadd hb hb1 hN
      go_wp2
      go_roundw
      case rel => exact ⟨k + 1, x / 2, v1, vs1, by simp, HX, by omega, by omega, hR1, hown1, hdig1, hb2, hN1⟩
      case measure => simp [intOf]; omega
    · obtain rfl : k = d + 1 := by omega
      obtain rfl : x = 0 := by rw [hx.out]; exact Nat.div_eq_of_lt (by rw [Nat.pow_succ]; have := Nat.two_pow_pos d; omega)
      obtain ⟨B, c', rfl, -⟩ := own_sl hown
      have hc0 : wr.cell? ⟨w.heap.size + 1, 0, none⟩ = some (.slice A n c) := by rw [cell_of_row _ _ _ _ _ _ hR]; rfl
      have hc1 : wr.cell? ⟨w.heap.size + 1, 1, none⟩ = some (.slice B (d + 1) c') := by rw [cell_of_row _ _ _ _ _ _ hR]; rfl
      have hz0 : wr.cell? ⟨w.heap.size, 0, none⟩ = some (.slice none 0 0) := by rw [cell_of_row _ _ _ _ _ _ hN]; rfl
      have hz1 : wr.cell? ⟨w.heap.size, 1, none⟩ = some (.slice none 0 0) := by rw [cell_of_row _ _ _ _ _ _ hN]; rfl
      have hzf : ∀ o, wr.frozen? ⟨w.heap.size, o, none⟩ = false := fun o => by unfold World.frozen?; rw [hN]; simp
      have hzf0 := hzf 0
      have hzf1 := hzf 1
      clear hzf
      have hown2 := own_other (own_other hown (grownCell wr ⟨w.heap.size, 0, none⟩ (.slice A n c)) (by show w.heap.size < _; omega)) (grownCell _ ⟨w.heap.size, 1, none⟩ (.slice B (d + 1) c')) (by show w.heap.size < _; omega)
      have hzs : (wr.setCell ⟨w.heap.size, 0, none⟩ (.slice A n c)).cell? ⟨w.heap.size, 0, none⟩ = some (.slice A n c) := World.cell?_setCell_same' _ _ _ (by rw [hz0]; rfl)
      have hvl : vs.length = d + 1 := by have := hown.1; simpa using this
      have hdig2 : DigsV ((wr.setCell ⟨w.heap.size, 0, none⟩ (.slice A n c)).setCell ⟨w.heap.size, 1, none⟩ (.slice B (d + 1) c')) vs l := fun i u hu => by
        have hi := (List.getElem?_eq_some_iff.1 hu).1
        exact ((hdig i u hu).set (HPOS.out i (by omega)) hz0 _).set (HPOS.out i (by omega)) hzs _
      have hat := DigsAt.of hown2 hdig2
      have hN2 := heap_setCell_same (wr.setCell ⟨w.heap.size, 0, none⟩ (.slice A n c)) w.heap.size 1 _ _ (.slice B (d + 1) c') ((heap_setCell_same wr w.heap.size 0 _ _ (.slice A n c) hN).trans rfl)
      have hbE := (hb.setCell (p := ⟨w.heap.size, 0, none⟩) (by simp) (.slice A n c)).setCell (p := ⟨w.heap.size, 1, none⟩) (by simp) (.slice B (d + 1) c')
      clear hown hdig hown2 hdig2 hR hN hzs hvl
      go_wp2
      exact bodyPost_ret (v := .agg #[.slice A n c, .slice B (d + 1) c']) (results_cell_row rfl _ _ w.heap.size _ _ _ _ rfl (hN2.trans rfl) Tryd.underlying44 rfl treeRows_info) rfl ⟨_, rfl, hat, hbE⟩
end Go.Proofs.YtgcohoonhklkbaaDoor

/-
  keyholeref11: the contract of Rows.
-/
namespace Go.Proofs.YtgcohoonhklkbaaDoor
open Go.RowKit Go.Kx Go.Trm
set_option maxRecDepth 20000

/-- What a call of Rows answers. -/
def RowsP (l : List ByteArray) (d : Nat) (W : World) (e : Ending) (W' : World) : Prop :=
  ∃ v vs, e = .returned v ∧ W'.ownsRow W.heap.size 22 1 v (d + 1) vs ∧ RowsAt W' vs l ∧ Below W.heap.size W W'
def slN : Value → Nat
  | .slice _ n _ => n
  | _ => 0
set_option maxHeartbeats 4000000 in
theorem rrows_any (HS : RSum) (l : List ByteArray) (d : Nat) (hd : l.length = 2 ^ d) (hd10 : d ≤ 10) (hs : ∀ s ∈ l, s.size ≤ 1000) (A : Option Addr) (c : Nat) (w : World) (hA : Sl w A (strsV l)) :
    Calls Tryd.prog 32 #[.slice A l.length c] w fun e w' => RowsP l d w e w' := by
  have HSM := Lib.hid HS
  have HSZ := Lib.hid hs
  have HD := Lib.hid hd
  obtain ⟨n, hn⟩ : ∃ n, l.length = n := ⟨_, rfl⟩
  have HN := Lib.hid hn
  have hn1 : n ≤ 1024 := by rw [← hn, hd]; have : 2 ^ d ≤ 2 ^ 10 := Nat.pow_le_pow_right (by omega) hd10; omega
  have hn0 : 0 < n := by rw [← hn, hd]; exact Nat.two_pow_pos _
  rw [hn]
  clear hn hd hs HS
  obtain ⟨i0, hI0, hz0, hz1, hz2⟩ := info_parts string_info
  obtain ⟨j0, hJ0, hy0, hy1, hy2⟩ := info_parts texts_info
  go_enter Tryd.func32, Tryd.ntmps32
  go_wp2
  go_loopw [3, 4] (fun v i wr => ∃ k : Nat, k ≤ n ∧ i = .int .i64 (k : Int) ∧ wr.ownsRow w.heap.size 9 1 v k (strsV ((rowB l 0).take k)) ∧ Below w.heap.size w wr) (fun _ i _ => n - (intOf i).toNat)
  case atStart => exact ⟨0, by omega, rfl, World.ownsRow_nil _ _ _ _, Below.refl _ _⟩
  case round =>
    obtain ⟨k, hk, rfl, hown, hb⟩ := hrel
    by_cases hlt : k < n
    · obtain ⟨b, off, hAe, hcp⟩ := sl_strV (hA.keep hb) (k := k) (by rw [HN.out]; exact hlt)
      subst hAe
      obtain ⟨p, hp⟩ : ∃ p, l[k]'(by rw [HN.out]; exact hlt) = p := ⟨_, rfl⟩
      rw [hp] at hcp
      have hps : p.size ≤ 1000 := by rw [← hp]; exact HSZ.out _ (List.getElem_mem _)
      obtain ⟨z, hz⟩ : ∃ z : ByteArray, leafL sumL p.data.toList = z.data.toList := ⟨toB (leafL sumL p.data.toList), (toB_list _).symm⟩
      have hleaf := rleaf_any HSM.out p z hps hz wr
      have HZ : Hid (strsV ((rowB l 0).take k) ++ [Value.string z] = strsV ((rowB l 0).take (k + 1))) := Lib.hid (strs_snoc _ (by
        rw [rowB_zero l (by rw [HN.out]; exact hlt), hp, hz, toB_eq]))
      clear hz hp
      go_wp2_with fail
      refine hleaf.mono ?_
      rintro e w2 ⟨rfl, hs2⟩
      have hown2 := own_keep hown hs2
      have hb2 := hb.next hs2
      clear hleaf hown hs2 hcp
      go_wp2_with (first
        | (at_builtin; refine wpList_append_own _ rfl _ _ 22 rfl w.heap.size 9 i0 (.string ⟨#[]⟩) 1 16 Tryd.underlying22 hI0 hz0 hz1 hz2 rfl (by decide) _ _ _ rfl (hown2.alloc _) ⟨w2.heap.size, 0, none⟩ 1 1 [.string z] rfl rfl ?c1 ?c2 ?c3 ?c4 ?c5 ?_)
        | go_in)
      case c1 =>
        intro j u hj
        match j, hj with
        | 0, hj => simp at hj; subst hj; simp [Addr.add]
      case c2 => intro u hu; simp at hu; subst hu; rfl
      case c3 => unfold maxLen; omega
      case c4 => omega
      case c5 => have := hb2.size; simp; omega
      intro v' w4 hown' hgrow _
      rw [HZ.out] at hown'
      have hb4 := own_below (hown2.alloc (.cells #[.string z] 9)) (hb2.al _) hgrow
      clear hown2 hgrow hb hb2
      go_wp2
      go_roundw
      case rel => exact ⟨k + 1, by omega, by go_num, hown', hb4⟩
      case measure => simp [intOf]; omega
    · obtain rfl : k = n := by omega
      have hlen0 : (rowB l 0).length = k := by rw [rowB_length l HD.out (Nat.zero_le _), Nat.sub_zero, ← HD.out, HN.out]
      rw [List.take_of_length_le (by omega)] at hown
      obtain ⟨g0, c0, hv0, hg0, hc0⟩ := RowAt.own hown hn0
      rw [hlen0] at hv0
      subst hv0
      have hrow : RowAt wr (.slice (some ⟨g0, 0, none⟩) k c0) (rowB l 0) := ⟨g0, c0, by rw [hlen0], hg0, hc0⟩
      have hown1 : (wr.alloc (.cells #[.slice (some ⟨g0, 0, none⟩) k c0] 22)).ownsRow w.heap.size 22 1 (.slice (some ⟨wr.heap.size, 0, none⟩) 1 1) 1 [.slice (some ⟨g0, 0, none⟩) k c0] :=
        ⟨rfl, .inr ⟨wr.heap.size, 1, #[.slice (some ⟨g0, 0, none⟩) k c0], rfl, hb.size, heap_alloc_new wr _, Nat.le_refl _, by unfold maxLen; omega, rfl, rfl⟩⟩
      have hrow1 := hrow.keep (Below.alloc0 wr (.cells #[.slice (some ⟨g0, 0, none⟩) k c0] 22))
      have hrows1 : RowsAt (wr.alloc (.cells #[.slice (some ⟨g0, 0, none⟩) k c0] 22)) [.slice (some ⟨g0, 0, none⟩) k c0] l := fun j x hx => by
        obtain rfl : j = 0 := by have := (List.getElem?_eq_some_iff.1 hx).1; simpa using this
        obtain rfl := Option.some.inj hx
        exact hrow1
      have hb1 := hb.al (.cells #[.slice (some ⟨g0, 0, none⟩) k c0] 22)
      have hlast : [Value.slice (some ⟨g0, 0, none⟩) k c0][0]? = some (.slice (some ⟨g0, 0, none⟩) k c0) := rfl
      clear hown hlen0 hg0 hc0
      go_wp2
      clear hrow hrow1 hb
      go_loopw [3, 5] (fun r o wr => ∃ (k : Nat) (vs : List Value), k ≤ d ∧ vs[k]? = some r ∧ wr.ownsRow w.heap.size 22 1 o (k + 1) vs ∧ RowsAt wr vs l ∧ Below w.heap.size w wr) (fun _ o _ => d + 1 - slN o)
      case atStart => exact ⟨0, _, Nat.zero_le _, hlast, hown1, hrows1, hb1⟩
      case round =>
        clear hown1 hrows1 hb1 hlast
        obtain ⟨q, vs, hq, hlast, hown, hrows, hb⟩ := hrel
        obtain ⟨g, c1, rfl, hg, hc⟩ := hrows q u3 hlast
        have hlen := rowB_length l HD.out hq
        obtain ⟨m, hm⟩ : ∃ m, (rowB l q).length = m := ⟨_, rfl⟩
        obtain ⟨g5, c5, rfl, -, hvl, -⟩ := own_vals hown (by omega)
        rw [hm] at hlast hlen ⊢
        generalize hW : wr = W1 at *
        clear hW
        have HC := Lib.hid hc
        clear hc
        by_cases hlt : q < d
        · obtain ⟨h, hh⟩ : ∃ h, 2 ^ (d - (q + 1)) = h := ⟨_, rfl⟩
          have hm2 : m = 2 * h := by rw [hlen, ← hh, show d - q = d - (q + 1) + 1 by omega, Nat.pow_succ, Nat.mul_comm]
          have hh0 : 0 < h := by rw [← hh]; exact Nat.two_pow_pos _
          have hh9 : h ≤ 1024 := by rw [← hh]; have : 2 ^ (d - (q + 1)) ≤ 2 ^ 10 := Nat.pow_le_pow_right (by omega) (by omega); omega
          have hlen1 := rowB_length l HD.out (k := q + 1) (by omega)
          rw [hh] at hlen1
          have HROW : Hid (∀ j, j < h → ∃ a b z : ByteArray, (rowB l q)[2 * j]? = some a ∧ (rowB l q)[2 * j + 1]? = some b ∧ a.size = 32 ∧ b.size = 32 ∧ nodeL sumL a.data.toList b.data.toList = z.data.toList ∧ strsV ((rowB l (q + 1)).take j) ++ [Value.string z] = strsV ((rowB l (q + 1)).take (j + 1))) := Lib.hid fun j hj => by
            have e1 : (rowB l q)[2 * j]? = some ((rowB l q)[2 * j]'(by omega)) := List.getElem?_eq_getElem (by omega)
            have e2 : (rowB l q)[2 * j + 1]? = some ((rowB l q)[2 * j + 1]'(by omega)) := List.getElem?_eq_getElem (by omega)
            have e3 := rowB_succ l HD.out hlt (by omega) e1 e2
            exact ⟨_, _, _, e1, e2, rowB_len32 l HD.out hq e1, rowB_len32 l HD.out hq e2, (toB_list _).symm, strs_snoc _ e3⟩
          have HL1 := Lib.hid hlen1
          clear hlen hm hh hlen1
          have t1 : (1 : Int) < (m : Int) := by omega
          have HM2 := Lib.hid hm2
          have hm9 : m ≤ 2048 := by omega
          clear hm2
          go_wp2
          go_loopw [6, 7] (fun v i wr => ∃ j x : Nat, x = 2 * j ∧ j ≤ h ∧ i = .int .i64 (x : Int) ∧ wr.ownsRow W1.heap.size 9 1 v j (strsV ((rowB l (q + 1)).take j)) ∧ Below W1.heap.size W1 wr) (fun _ i _ => m - (intOf i).toNat)
          case atStart => exact ⟨0, 0, rfl, Nat.zero_le _, rfl, World.ownsRow_nil _ _ _ _, Below.refl _ _⟩
          case round =>
            obtain ⟨j, x, hx, hj, rfl, hown6, hb6⟩ := hrel
            by_cases hlt2 : j < h
            · obtain ⟨a, b, z, ha, hb', haz, hbz, hz, hsn⟩ := HROW.out j hlt2
              obtain ⟨x1, hx1⟩ : ∃ x1, x + 1 = x1 := ⟨_, rfl⟩
              have hca : wr.cell? ⟨g, x, none⟩ = some (.string a) := (hb6.cell (p := ⟨g, x, none⟩) hg).trans (by rw [hx]; exact HC.out _ _ ha)
              have hcb : wr.cell? ⟨g, x1, none⟩ = some (.string b) := (hb6.cell (p := ⟨g, x1, none⟩) hg).trans (by rw [← hx1, hx]; exact HC.out _ _ hb')
              have hnode := rnode_any HSM.out a b z (by omega) (by omega) hz
              have HSN := Lib.hid hsn
              have hxI : (x : Int) + 1 = (x1 : Int) := by omega
              have hxm : x < m := by have := HM2.out; omega
              have hxm1 : x1 < m := by have := HM2.out; omega
              have hw1 : IntKind.i64.wrap (x1 : Int) = (x1 : Int) := IntWalk.i64_in _ (by omega)
              have hw0 : (0 : Int) ≤ (x1 : Int) := by omega
              have hwm : (x1 : Int) < (m : Int) := by omega
              have HX := Lib.hid hx
              clear ha hb' hz hsn hx hx1
              go_wp2_with fail
              refine Uptot.begin_ [10] (fun _ => True) (fun w' => w'.cell? ⟨g, x, none⟩ = some (.string a) ∧ w'.cell? ⟨g, x1, none⟩ = some (.string b)) (by kernel_rfl) ?_
              have hST : True ∧ (wr.drew.cell? ⟨g, x, none⟩ = some (.string a) ∧ wr.drew.cell? ⟨g, x1, none⟩ = some (.string b)) := ⟨trivial, hca, hcb⟩
              have hownD := hown6.drew
              have hbD := hb6.drew
              clear hown6 hb6 hca hcb
              generalize wr.drew = V2 at *
              refine Uptot.takeS (i := 0) (v := ?_) rfl (by kernel_rfl) (by kernel_rfl) (by kernel_rfl) (by kernel_rfl) (fun _ _ _ h => h) (Or.inl ⟨by rfl, ?_⟩) hST ?_
              rotate_left 1
              · intro w9 hSw; go_simp; (try with_reducible rfl)
              try simp only [Act.put, List.setIfInBounds_toArray, List.set_cons_zero, List.set_cons_succ]
              refine Uptot.takeS (i := 1) (v := ?_) rfl (by kernel_rfl) (by kernel_rfl) (by kernel_rfl) (by kernel_rfl) (fun _ _ _ h => h) (Or.inl ⟨by rfl, ?_⟩) hST ?_
              rotate_left 1
              · intro w9 hSw; go_simp; (try with_reducible rfl)
              try simp only [Act.put, List.setIfInBounds_toArray, List.set_cons_zero, List.set_cons_succ]
              refine Uptot.takeS (i := 2) (v := ?_) rfl (by kernel_rfl) (by kernel_rfl) (by kernel_rfl) (by kernel_rfl) (fun _ _ _ h => h) (Or.inl ⟨by rfl, ?_⟩) hST ?_
              rotate_left 1
              · intro w9 hSw; go_simp; (try with_reducible rfl)
              try simp only [Act.put, List.setIfInBounds_toArray, List.set_cons_zero, List.set_cons_succ]
              refine Uptot.takeS (i := 3) (v := ?_) rfl (by kernel_rfl) (by kernel_rfl) (by kernel_rfl) (by kernel_rfl) (fun _ _ _ h => h) (Or.inl ⟨by rfl, ?_⟩) hST ?_
              rotate_left 1
              · intro w9 hSw; go_simp; (try with_reducible rfl)
              try simp only [Act.put, List.setIfInBounds_toArray, List.set_cons_zero, List.set_cons_succ]
              refine Uptot.take (i := 4) (v := ?_) rfl (by kernel_rfl) (by kernel_rfl) (by kernel_rfl) (by kernel_rfl) (fun _ _ _ h => h) (Or.inl ⟨by rfl, ?_⟩) hST ?_
              rotate_left 1
              · intro w9 hSw; (try dsimp only at hSw); obtain ⟨-, h91, h92⟩ := hSw; go_simp; (try with_reducible rfl)
              try simp only [Act.put, List.setIfInBounds_toArray, List.set_cons_zero, List.set_cons_succ]
              refine Uptot.takeS (i := 5) (v := ?_) rfl (by kernel_rfl) (by kernel_rfl) (by kernel_rfl) (by kernel_rfl) (fun _ _ _ h => h) (Or.inl ⟨by rfl, ?_⟩) hST ?_
              rotate_left 1
              · intro w9 hSw; go_simp; (try with_reducible rfl)
              try simp only [Act.put, List.setIfInBounds_toArray, List.set_cons_zero, List.set_cons_succ]
              refine Uptot.takeS (i := 6) (v := ?_) rfl (by kernel_rfl) (by kernel_rfl) (by kernel_rfl) (by kernel_rfl) (fun _ _ _ h => h) (Or.inl ⟨by rfl, ?_⟩) hST ?_
              rotate_left 1
              · intro w9 hSw; go_simp; (try with_reducible rfl)
              try simp only [Act.put, List.setIfInBounds_toArray, List.set_cons_zero, List.set_cons_succ]
              refine Uptot.takeS (i := 7) (v := ?_) rfl (by kernel_rfl) (by kernel_rfl) (by kernel_rfl) (by kernel_rfl) (fun _ _ _ h => h) (Or.inl ⟨by rfl, ?_⟩) hST ?_
              rotate_left 1
              · intro w9 hSw; go_simp; (try with_reducible rfl)
              try simp only [Act.put, List.setIfInBounds_toArray, List.set_cons_zero, List.set_cons_succ]
              refine Uptot.takeS (i := 8) (v := ?_) rfl (by kernel_rfl) (by kernel_rfl) (by kernel_rfl) (by kernel_rfl) (fun _ _ _ h => h) (Or.inl ⟨by rfl, ?_⟩) hST ?_
              rotate_left 1
              · intro w9 hSw; go_simp; (try with_reducible rfl)
              try simp only [Act.put, List.setIfInBounds_toArray, List.set_cons_zero, List.set_cons_succ]
              refine Uptot.take (i := 9) (v := ?_) rfl (by kernel_rfl) (by kernel_rfl) (by kernel_rfl) (by kernel_rfl) (fun _ _ _ h => h) (Or.inl ⟨by rfl, ?_⟩) hST ?_
              rotate_left 1
              · intro w9 hSw; (try dsimp only at hSw); obtain ⟨-, h91, h92⟩ := hSw; go_simp; (try with_reducible rfl)
              try simp only [Act.put, List.setIfInBounds_toArray, List.set_cons_zero, List.set_cons_succ]
              refine Uptot.one (i := 10) rfl (by kernel_rfl) (fun K hK9 => ?_)
              go_simp
              go_at_call 17
              refine (hnode V2).mono ?_
              rintro e w3 ⟨rfl, hs3⟩
              have hown3 := own_keep hownD hs3
              have hb3 := hbD.next' hs3 (by have := hbD.size; omega)
              clear hownD hs3 hST hnode hbD
              refine hK9.out _ _ (Cond.behind trivial (by kernel_rfl)) ?_
              clear hK9 K
              try simp only [Act.put, List.setIfInBounds_toArray, List.set_cons_zero, List.set_cons_succ]
              refine Uptot.one (i := 11) rfl (by kernel_rfl) (fun K hK9 => ?_)
              go_simp
              refine hK9.out _ _ (Cond.behind trivial (by kernel_rfl)) ?_
              clear hK9 K
              try simp only [Act.put, List.setIfInBounds_toArray, List.set_cons_zero, List.set_cons_succ]
              refine Uptot.one (i := 12) rfl (by kernel_rfl) (fun K hK9 => ?_)
              refine step_append_lies _ (by rfl) _ _ _ (by rfl) W1.heap.size 9 i0 _ 1 16 Tryd.underlying22 hI0 hz0 hz1 hz2 rfl (by omega) u6 j _ (by rfl) (hown3.alloc _) ⟨w3.heap.size, 0, none⟩ 1 1 [.string z] (by rfl) (by rfl) (by intro j u hj; match j, hj with | 0, hj => (simp at hj; subst hj; simp [Addr.add])) (by simp [Value.oneCell']) (by omega) (by unfold maxLen; omega) (by omega) (by have := hb3.size; simp; omega) (w3.heap.size + 1) (by simp) ?_
              intro gg cap w4 hown4 hgrow _ _
              refine hK9.out _ _ (Cond.behind trivial (by kernel_rfl)) ?_
              clear hK9 K
              try simp only [Act.put, List.setIfInBounds_toArray, List.set_cons_zero, List.set_cons_succ]
              refine Uptot.one (i := 13) rfl (by kernel_rfl) (fun K hK9 => ?_)
              go_simp
              refine hK9.out _ _ (Cond.behind trivial (by kernel_rfl)) ?_
              clear hK9 K
              try simp only [Act.put, List.setIfInBounds_toArray, List.set_cons_zero, List.set_cons_succ]
              refine Uptot.done (by kernel_rfl) ?_ _
              have hb4 := own_below (hown3.alloc (.cells #[.string z] 9)) (hb3.al _) hgrow
              rw [HSN.out] at hown4
              clear hown3 hb3 hgrow
              go_wp2
              go_roundw
              case rel => exact ⟨j + 1, x + 2, by have := HX.out; omega, by omega, by go_num, hown4, hb4⟩
              case measure => simp [intOf]; omega
            · obtain rfl : j = h := by omega
              rw [List.take_of_length_le (by rw [HL1.out]; omega)] at hown6
              obtain ⟨g6, c6, hv6, hg6, hc6⟩ := RowAt.own hown6 hh0
              rw [HL1.out] at hv6
              subst hv6
              have hrow6 : RowAt wr (.slice (some ⟨g6, 0, none⟩) j c6) (rowB l (q + 1)) := ⟨g6, c6, by rw [HL1.out], hg6, hc6⟩
              have hown5 := own_keep hown hb6
              have hrows5 := hrows.keep hb6
              have hb5 := hb.next hb6
              have hxm : ¬ x < m := by have := HM2.out; omega
              clear hown6 hb6 hg6 hc6 hlast hown hrows hb hg hx
              go_wp2_with (first
                | (at_builtin; refine wpList_append_own _ rfl _ _ 42 rfl w.heap.size 22 j0 (.slice none 0 0) 1 24 Tryd.underlying42 hJ0 hy0 hy1 hy2 rfl (by decide) _ _ _ rfl (hown5.alloc _) ⟨wr.heap.size, 0, none⟩ 1 1 [.slice (some ⟨g6, 0, none⟩) j c6] rfl rfl ?c1 ?c2 ?c3 ?c4 ?c5 ?_)
                | go_in)
              case c1 =>
                intro j u hj
                match j, hj with
                | 0, hj => simp at hj; subst hj; simp [Addr.add]
              case c2 => intro u hu; simp at hu; subst hu; rfl
              case c3 => unfold maxLen; omega
              case c4 => omega
              case c5 => have := hb5.size; simp; omega
              intro v' w4 hown' hgrow _
              have hrows4 := (hrows5.keep (Below.alloc0 wr (.cells #[.slice (some ⟨g6, 0, none⟩) j c6] 22))).snoc HD.out (by omega) (hown5.alloc _) (hrow6.keep (Below.alloc0 wr _)) (by omega) hgrow
              have hb4 := own_below (hown5.alloc (.cells #[.slice (some ⟨g6, 0, none⟩) j c6] 22)) (hb5.al _) hgrow
              have hlast4 : (vs ++ [Value.slice (some ⟨g6, 0, none⟩) j c6])[q + 1]? = some (.slice (some ⟨g6, 0, none⟩) j c6) := by
                rw [List.getElem?_append_right (by omega), hvl, Nat.sub_self]
                rfl
              obtain ⟨g7, c7, rfl, -, -, -⟩ := own_vals hown' (by omega)
              clear hown5 hgrow hrow6 hrows5 hb5
              go_wp2
              go_roundw
              case rel => exact ⟨q + 1, _, by omega, hlast4, hown', hrows4, hb4⟩
              case measure => simp [slN]; omega
        · obtain rfl : q = d := by omega
          rw [Nat.sub_self, Nat.pow_zero] at hlen
          subst hlen
          clear hm
          go_wp2
          go_ret
          exact ⟨_, vs, rfl, hown, hrows, hb⟩
end Go.Proofs.YtgcohoonhklkbaaDoor

/-
  keyholeref11: the contracts of Root, Path.
-/
namespace Go.Proofs.YtgcohoonhklkbaaDoor
open Go.RowKit Go.Kx Go.Trm
set_option maxRecDepth 20000

open Classical in
theorem rmay_yes {n : Nat} (hm : mayN n) (hn : n ≤ 1000000) (A : Option Addr) (c : Nat) (w : World) :
    Calls Tryd.prog 31 #[.slice A n c] w fun e w' => e = .returned (.bool true) ∧ w' = w := rmay_any n hn A c true (by rw [decide_eq_true hm]) w
open Classical in
theorem rmay_no {n : Nat} (hm : ¬ mayN n) (hn : n ≤ 1000000) (A : Option Addr) (c : Nat) (w : World) :
    Calls Tryd.prog 31 #[.slice A n c] w fun e w' => e = .returned (.bool false) ∧ w' = w := rmay_any n hn A c false (by rw [decide_eq_false hm]) w
theorem own_mono {W : World} {B B' : Nat} {e : TypeId} {v : Value} {n sz : Nat} {xs : List Value} (h : W.ownsRow B' e sz v n xs) (hB : B ≤ B') : W.ownsRow B e sz v n xs := by
  rcases h.2 with h1 | ⟨g, cap, cur, hv, hg, h2⟩
  · exact ⟨h.1, .inl h1⟩
  · exact ⟨h.1, .inr ⟨g, cap, cur, hv, Nat.le_trans hB hg, h2⟩⟩
/-- The first n rows of digests lie behind block g5. -/
def RowsMem (w : World) (g5 n : Nat) (l : List ByteArray) : Prop := g5 < w.heap.size ∧ ∀ k, k < n → ∃ g c, g < w.heap.size ∧ w.cell? ⟨g5, k, none⟩ = some (.slice (some ⟨g, 0, none⟩) (rowB l k).length c) ∧ ∀ j x, (rowB l k)[j]? = some x → w.cell? ⟨g, j, none⟩ = some (.string x)
theorem RowsMem.keep {w w' : World} {g5 n : Nat} {l : List ByteArray} (h : RowsMem w g5 n l) (hb : Below w.heap.size w w') : RowsMem w' g5 n l := by
  refine ⟨Nat.lt_of_lt_of_le h.1 hb.size, fun k hk => ?_⟩
  obtain ⟨g, c, hg, h1, h2⟩ := h.2 k hk
  exact ⟨g, c, Nat.lt_of_lt_of_le hg hb.size, (hb.cell (p := ⟨g5, k, none⟩) h.1).trans h1, fun j x hx => (hb.cell (p := ⟨g, j, none⟩) hg).trans (h2 j x hx)⟩
theorem rows_mem {W : World} {B n : Nat} {v : Value} {vs : List Value} {l : List ByteArray} (hown : W.ownsRow B 22 1 v n vs) (h0 : 0 < n) (hrows : RowsAt W vs l) : ∃ g5 c5, v = .slice (some ⟨g5, 0, none⟩) n c5 ∧ RowsMem W g5 n l := by
  obtain ⟨g5, c5, rfl, hg5, hl, hc⟩ := own_vals hown h0
  refine ⟨g5, c5, rfl, hg5, fun k hk => ?_⟩
  have e : vs[k]? = some (vs[k]'(by omega)) := List.getElem?_eq_getElem (by omega)
  obtain ⟨g, c, hv, hg, hx⟩ := hrows k _ e
  exact ⟨g, c, hg, by rw [hc k _ e, hv], hx⟩

open Classical in
/-- What Root answers. -/
noncomputable def rootR (l : List ByteArray) : ByteArray × Int := if mayN l.length then (toB (rootL sumL (txtsL l) l.length.log2), 0) else (⟨#[]⟩, 1)
theorem rootR_yes {l : List ByteArray} {d : Nat} (hd : l.length = 2 ^ d) (h : d ≤ 10) : rootR l = (toB (rootL sumL (txtsL l) d), 0) := by
  rw [rootR, if_pos ⟨d, h, hd⟩, hd, Nat.log2_two_pow]
theorem rootR_no {l : List ByteArray} (h : ¬ mayN l.length) : rootR l = (⟨#[]⟩, 1) := if_neg h
theorem rroot_any (HS : RSum) (l : List ByteArray) (A : Option Addr) (c : Nat) (hz : l.length ≤ 1000000) (hs : ∀ s ∈ l, s.size ≤ 1000) (r : ByteArray) (k : Int) (hr : rootR l = (r, k)) (w : World) (hA : Sl w A (strsV l)) :
    Calls Tryd.prog 10 #[.slice A l.length c] w fun e w' => e = .returned (.tuple #[.string r, .int .i64 k]) ∧ Below w.heap.size w w' := by
  by_cases hm : mayN l.length
  · obtain ⟨d, hd10, hd⟩ := hm
    have hmay := rmay_yes ⟨d, hd10, hd⟩ hz A c w
    have hrows := rrows_any HS l d hd hd10 hs A c w hA
    rw [rootR_yes hd hd10] at hr
    have hr1 := Lib.hid (Prod.mk.inj hr).1
    obtain rfl := (Prod.mk.inj hr).2
    have HL : Hid ((rowB l d).length = 1) := Lib.hid (by rw [rowB_length l hd (Nat.le_refl _), Nat.sub_self, Nat.pow_zero])
    obtain ⟨n, hn⟩ : ∃ n, l.length = n := ⟨_, rfl⟩
    rw [hn] at hmay hrows ⊢
    clear hn hd hr hA HS hz
    go_enter Tryd.func10, Tryd.ntmps10
    go_wp2_with fail
    refine hmay.mono ?_
    rintro e w ⟨rfl, rfl⟩
    go_wp2_with fail
    refine hrows.mono ?_
    intro e w1 h
    obtain ⟨v, vs, rfl, hown, hra, hb⟩ := h
    obtain ⟨g5, c5, rfl, hrm⟩ := rows_mem hown (by omega) hra
    obtain ⟨g, c1, -, hc1, hc2⟩ := hrm.2 d (by omega)
    rw [HL.out] at hc1
    have hc3 := hc2 0 r (by
      rw [List.getElem?_eq_getElem (by rw [HL.out]; omega), ← hr1.out]
      simp only [rowB, List.getElem_map, rootL, List.getD]
      have h1 := HL.out
      rw [rowB, List.length_map] at h1
      rw [List.getElem?_eq_getElem (by omega)]
      rfl)
    clear hmay hrows hown hra hrm hc2
    have hx : ((d + 1 : Nat) : Int) - 1 = (d : Int) := by omega
    obtain ⟨x, hxx⟩ : ∃ x, d + 1 = x := ⟨_, rfl⟩
    rw [hxx] at hx ⊢
    have hxl : x ≤ 11 := by omega
    have hmx : d < x := by omega
    clear hxx
    go_wp2
    go_ret2
    exact ⟨rfl, hb⟩
  · have hmay := rmay_no hm hz A c w
    rw [rootR_no hm] at hr
    obtain rfl := (Prod.mk.inj hr).1
    obtain rfl := (Prod.mk.inj hr).2
    generalize l.length = n at *
    clear hm
    go_enter Tryd.func10, Tryd.ntmps10
    go_wp2_with fail
    refine hmay.mono ?_
    rintro e w ⟨rfl, rfl⟩
    go_wp2
    go_ret2
    exact ⟨rfl, Below.refl _ _⟩

/-! ### Path -/
open Classical in
/-- What Path answers. -/
noncomputable def pathR (l : List ByteArray) (i : Int) : List ByteArray × Int := if mayN l.length ∧ 0 ≤ i ∧ i < l.length then ((pathL sumL (txtsL l) i.toNat l.length.log2).map toB, 0) else ([], 1)
theorem pathR_yes {l : List ByteArray} {d n : Nat} (hd : l.length = 2 ^ d) (h : d ≤ 10) (hn : n < l.length) : pathR l (n : Int) = ((pathL sumL (txtsL l) n d).map toB, 0) := by
  rw [pathR, if_pos ⟨⟨d, h, hd⟩, by omega, by omega⟩, hd, Nat.log2_two_pow, Int.toNat_natCast]
theorem pathR_no {l : List ByteArray} {i : Int} (h : ¬ (mayN l.length ∧ 0 ≤ i ∧ i < l.length)) : pathR l i = ([], 1) := if_neg h
/-- What a call of Path answers. -/
def PathP (ps : List ByteArray) (k : Int) (W : World) (e : Ending) (W' : World) : Prop :=
  ∃ v, e = .returned (.tuple #[v, .int .i64 k]) ∧ W'.ownsRow W.heap.size 9 1 v ps.length (strsV ps) ∧ Below W.heap.size W W'
theorem path_early (l : List ByteArray) (A : Option Addr) (c : Nat) (hz : l.length ≤ 1000000) (i : Int) (h : ¬ (mayN l.length ∧ 0 ≤ i ∧ i < l.length)) (w : World) :
    Calls Tryd.prog 12 #[.slice A l.length c, .int .i64 i] w fun e w' => e = .returned (.tuple #[.slice none 0 0, .int .i64 1]) ∧ w' = w := by
  by_cases hm : mayN l.length
  · have hmay := rmay_yes hm hz A c w
    have h1 : i < 0 ∨ (l.length : Int) ≤ i := by
      by_cases h2 : i < 0
      · exact .inl h2
      · exact .inr (Int.not_lt.1 fun h3 => h ⟨hm, by omega, h3⟩)
    generalize l.length = n at *
    clear h hm
    by_cases h2 : i < 0
    · clear h1
      go_enter Tryd.func12, Tryd.ntmps12
      go_wp2_with fail
      refine hmay.mono ?_
      rintro e w ⟨rfl, rfl⟩
      go_wp2
      go_ret2
      exact ⟨rfl, rfl⟩
    · have h3 : (n : Int) ≤ i := by omega
      clear h1
      go_enter Tryd.func12, Tryd.ntmps12
      go_wp2_with fail
      refine hmay.mono ?_
      rintro e w ⟨rfl, rfl⟩
      go_wp2
      go_ret2
      exact ⟨rfl, rfl⟩
  · have hmay := rmay_no hm hz A c w
    generalize l.length = n at *
    clear h hm
    go_enter Tryd.func12, Tryd.ntmps12
    go_wp2_with fail
    refine hmay.mono ?_
    rintro e w ⟨rfl, rfl⟩
    go_wp2
    go_ret2
    exact ⟨rfl, rfl⟩
theorem partN_lt {i h : Nat} (hi : i < 2 * h) : partN i < 2 * h := by
  unfold partN
  split <;> omega
theorem half_lt {n k d : Nat} (hn : n < 2 ^ d) (hk : k ≤ d) : n / 2 ^ k < 2 ^ (d - k) := by
  rw [Nat.div_lt_iff_lt_mul (Nat.two_pow_pos k), ← Nat.pow_add, show d - k + k = d by omega]
  exact hn
set_option maxHeartbeats 4000000 in
theorem rpath_any (HS : RSum) (l : List ByteArray) (A : Option Addr) (c : Nat) (hz : l.length ≤ 1000000) (hs : ∀ s ∈ l, s.size ≤ 1000) (i : Int) (ps : List ByteArray) (k : Int) (hr : pathR l i = (ps, k)) (w : World) (hA : Sl w A (strsV l)) :
    Calls Tryd.prog 12 #[.slice A l.length c, .int .i64 i] w fun e w' => PathP ps k w e w' := by
  by_cases hm : mayN l.length ∧ 0 ≤ i ∧ i < l.length
  rotate_left
  · rw [pathR_no hm] at hr
    obtain rfl := (Prod.mk.inj hr).1
    obtain rfl := (Prod.mk.inj hr).2
    exact (path_early l A c hz i hm w).mono fun e w' ⟨he, hw⟩ => ⟨_, he, World.ownsRow_nil _ _ _ _, hw ▸ Below.refl _ _⟩
  obtain ⟨⟨d, hd10, hd⟩, h2, h3⟩ := hm
  obtain ⟨m, rfl⟩ := Int.eq_ofNat_of_zero_le h2
  have hml : m < l.length := by omega
  have hmay := rmay_yes ⟨d, hd10, hd⟩ hz A c w
  have hrows := rrows_any HS l d hd hd10 hs A c w hA
  rw [pathR_yes hd hd10 hml] at hr
  have hp1 := (Prod.mk.inj hr).1
  obtain rfl := (Prod.mk.inj hr).2
  have hpl : ps.length = d := by rw [← hp1, List.length_map, pathL_length]
  have HPL := Lib.hid hpl
  have HK : Hid (∀ q, q < d → ∃ p x, partN (m / 2 ^ q) = p ∧ p < 2048 ∧ p < (rowB l q).length ∧ (rowB l q).length ≤ 2048 ∧ (rowB l q)[p]? = some x ∧ ps[q]? = some x) := Lib.hid fun q hq => by
    have h4 := half_lt (n := m) (k := q) (d := d) (by omega) (by omega)
    have h5 : 2 ^ (d - q) = 2 * 2 ^ (d - q - 1) := by rw [← Nat.pow_succ']; congr 1; omega
    have h6 := partN_lt (i := m / 2 ^ q) (h := 2 ^ (d - q - 1)) (by omega)
    have h7 := rowB_length l hd (k := q) (by omega)
    have h8 : 2 ^ (d - q) ≤ 2 ^ 10 := Nat.pow_le_pow_right (by omega) (by omega)
    have h9 : partN (m / 2 ^ q) < (rowB l q).length := by omega
    refine ⟨_, (rowB l q)[partN (m / 2 ^ q)], rfl, by omega, h9, by omega, List.getElem?_eq_getElem h9, ?_⟩
    rw [← hp1, List.getElem?_map, pathL, List.getElem?_map, List.getElem?_range hq]
    simp only [Option.map_some, Option.some.injEq, rowB, List.getElem_map, List.getD]
    rw [List.getElem?_eq_getElem (by rw [rowB, List.length_map] at h9; exact h9)]
    rfl
  have hm9 : m < 2048 := by have : 2 ^ d ≤ 2 ^ 10 := Nat.pow_le_pow_right (by omega) hd10; omega
  have hn9 : l.length < 2048 := by have : 2 ^ d ≤ 2 ^ 10 := Nat.pow_le_pow_right (by omega) hd10; omega
  obtain ⟨n, hn⟩ : ∃ n, l.length = n := ⟨_, rfl⟩
  rw [hn] at hmay hrows hml hn9 ⊢
  have t1 : ¬ (m : Int) < 0 := by omega
  have t2 : ¬ (n : Int) ≤ (m : Int) := by omega
  clear hn hd hr hA HS hz h2 h3 hp1 hpl
  obtain ⟨i0, hI0, hz0, hz1, hz2⟩ := info_parts string_info
  go_enter Tryd.func12, Tryd.ntmps12
  go_wp2_with fail
  refine hmay.mono ?_
  rintro e w ⟨rfl, rfl⟩
  go_wp2_with fail
  refine hrows.mono ?_
  intro e w1 h
  obtain ⟨v, vs, rfl, hown, hra, hb⟩ := h
  obtain ⟨g5, c5, rfl, hrm⟩ := rows_mem hown (by omega) hra
  clear hown hra hmay hrows
  have hx : ((d + 1 : Nat) : Int) - 1 = (d : Int) := by omega
  obtain ⟨x, hxx⟩ : ∃ x, d + 1 = x := ⟨_, rfl⟩
  rw [hxx] at hx hrm ⊢
  have HXX := Lib.hid hxx
  have hxl : x ≤ 11 := by omega
  clear hxx
  go_wp2
  go_loopw [1, 7, 8] (fun i v kk wr => ∃ k y : Nat, k ≤ d ∧ i = .int .i64 (y : Int) ∧ kk = .int .i64 (k : Int) ∧ Hid (y = m / 2 ^ k) ∧ y < 2048 ∧ wr.ownsRow w1.heap.size 9 1 v k (strsV (ps.take k)) ∧ Below w1.heap.size w1 wr) (fun _ _ kk _ => d - (intOf kk).toNat)
  case atStart => exact ⟨0, m, by omega, rfl, rfl, Lib.hid (by simp), hm9, World.ownsRow_nil _ _ _ _, Below.refl _ _⟩
  case round =>
    obtain ⟨k, y, hk, rfl, rfl, hy, hyl, hown, hb1⟩ := hrel
    by_cases hlt : k < d
    · obtain ⟨p, s, hpp, hp9, hpr, hrl, hps, hpk⟩ := HK.out k hlt
      obtain ⟨g, c1, hg, hc1, hc2⟩ := (hrm.keep hb1).2 k (by have := HXX.out; omega)
      have hc3 := hc2 p s hps
      obtain ⟨z, hz⟩ : ∃ z, (rowB l k).length = z := ⟨_, rfl⟩
      rw [hz] at hc1 hpr hrl
      have hpart := rpartner_any y (by omega)
      rw [hy.out, hpp, ← hy.out] at hpart
      have HY : Hid (y / 2 = m / 2 ^ (k + 1)) := Lib.hid (by rw [hy.out, Nat.div_div_eq_div_mul, Nat.pow_succ])
      have HSN : Hid (strsV (ps.take k) ++ [Value.string s] = strsV (ps.take (k + 1))) := Lib.hid (strs_snoc _ hpk)
      have hkx : k < x := by have := HXX.out; omega
      have hw1 : IntKind.i64.wrap (p : Int) = (p : Int) := IntWalk.i64_in _ (by omega)
      clear hpp hps hpk hc2 hz
      go_wp2_with fail
      refine Uptot.begin_ [7] (fun _ => True) (fun w' => w'.cell? ⟨g5, k, none⟩ = some (.slice (some ⟨g, 0, none⟩) z c1)) (by kernel_rfl) ?_
      have hST : True ∧ wr.drew.cell? ⟨g5, k, none⟩ = some (.slice (some ⟨g, 0, none⟩) z c1) := ⟨trivial, hc1⟩
      have hcD : wr.drew.cell? ⟨g, p, none⟩ = some (.string s) := hc3
      have hownD := hown.drew
      have hbD := hb1.drew
      clear hown hb1 hc1 hc3 hg
      generalize wr.drew = V2 at *
      refine Uptot.takeS (i := 0) (v := ?_) rfl (by kernel_rfl) (by kernel_rfl) (by kernel_rfl) (by kernel_rfl) (fun _ _ _ h => h) (Or.inl ⟨by rfl, ?_⟩) hST ?_
      rotate_left 1
      · intro w9 hSw; go_simp; (try with_reducible rfl)
      try simp only [Act.put, List.setIfInBounds_toArray, List.set_cons_zero, List.set_cons_succ]
      refine Uptot.takeS (i := 1) (v := ?_) rfl (by kernel_rfl) (by kernel_rfl) (by kernel_rfl) (by kernel_rfl) (fun _ _ _ h => h) (Or.inl ⟨by rfl, ?_⟩) hST ?_
      rotate_left 1
      · intro w9 hSw; go_simp; (try with_reducible rfl)
      try simp only [Act.put, List.setIfInBounds_toArray, List.set_cons_zero, List.set_cons_succ]
      refine Uptot.takeS (i := 2) (v := ?_) rfl (by kernel_rfl) (by kernel_rfl) (by kernel_rfl) (by kernel_rfl) (fun _ _ _ h => h) (Or.inl ⟨by rfl, ?_⟩) hST ?_
      rotate_left 1
      · intro w9 hSw; go_simp; (try with_reducible rfl)
      try simp only [Act.put, List.setIfInBounds_toArray, List.set_cons_zero, List.set_cons_succ]
      refine Uptot.takeS (i := 3) (v := ?_) rfl (by kernel_rfl) (by kernel_rfl) (by kernel_rfl) (by kernel_rfl) (fun _ _ _ h => h) (Or.inl ⟨by rfl, ?_⟩) hST ?_
      rotate_left 1
      · intro w9 hSw; go_simp; (try with_reducible rfl)
      try simp only [Act.put, List.setIfInBounds_toArray, List.set_cons_zero, List.set_cons_succ]
      refine Uptot.take (i := 4) (v := ?_) rfl (by kernel_rfl) (by kernel_rfl) (by kernel_rfl) (by kernel_rfl) (fun _ _ _ h => h) (Or.inl ⟨by rfl, ?_⟩) hST ?_
      rotate_left 1
      · intro w9 hSw; (try dsimp only at hSw); obtain ⟨-, h91⟩ := hSw; go_simp; (try with_reducible rfl)
      try simp only [Act.put, List.setIfInBounds_toArray, List.set_cons_zero, List.set_cons_succ]
      refine Uptot.takeS (i := 5) (v := ?_) rfl (by kernel_rfl) (by kernel_rfl) (by kernel_rfl) (by kernel_rfl) (fun _ _ _ h => h) (Or.inl ⟨by rfl, ?_⟩) hST ?_
      rotate_left 1
      · intro w9 hSw; go_simp; (try with_reducible rfl)
      try simp only [Act.put, List.setIfInBounds_toArray, List.set_cons_zero, List.set_cons_succ]
      refine Uptot.one (i := 6) rfl (by kernel_rfl) (fun K hK9 => ?_)
      go_simp
      go_at_call 33
      refine (hpart V2).mono ?_
      rintro e w3 ⟨rfl, rfl⟩
      refine hK9.out _ _ (Cond.ahead hST) ?_
      clear hK9 K
      try simp only [Act.put, List.setIfInBounds_toArray, List.set_cons_zero, List.set_cons_succ]
      refine Uptot.one (i := 7) rfl (by kernel_rfl) (fun K hK9 => ?_)
      go_simp
      refine hK9.out _ _ (Cond.behind trivial (by kernel_rfl)) ?_
      clear hK9 K
      try simp only [Act.put, List.setIfInBounds_toArray, List.set_cons_zero, List.set_cons_succ]
      refine Uptot.one (i := 8) rfl (by kernel_rfl) (fun K hK9 => ?_)
      go_simp
      refine hK9.out _ _ (Cond.behind trivial (by kernel_rfl)) ?_
      clear hK9 K
      try simp only [Act.put, List.setIfInBounds_toArray, List.set_cons_zero, List.set_cons_succ]
      refine Uptot.one (i := 9) rfl (by kernel_rfl) (fun K hK9 => ?_)
      go_simp
      refine hK9.out _ _ (Cond.behind trivial (by kernel_rfl)) ?_
      clear hK9 K
      try simp only [Act.put, List.setIfInBounds_toArray, List.set_cons_zero, List.set_cons_succ]
      refine Uptot.one (i := 10) rfl (by kernel_rfl) (fun K hK9 => ?_)
      refine step_append_lies _ (by rfl) _ _ _ (by rfl) w1.heap.size 9 i0 _ 1 16 Tryd.underlying22 hI0 hz0 hz1 hz2 rfl (by omega) u7 k _ (by rfl) (hownD.alloc _) ⟨w3.heap.size, 0, none⟩ 1 1 [.string s] (by rfl) (by rfl) (by intro j u hj; match j, hj with | 0, hj => (simp at hj; subst hj; simp [Addr.add])) (by simp [Value.oneCell']) (by omega) (by unfold maxLen; omega) (by omega) (by have := hbD.size; simp; omega) (w3.heap.size + 1) (by simp) ?_
      intro gg cap w4 hown4 hgrow _ _
      refine hK9.out _ _ (Cond.behind trivial (by kernel_rfl)) ?_
      clear hK9 K
      try simp only [Act.put, List.setIfInBounds_toArray, List.set_cons_zero, List.set_cons_succ]
      refine Uptot.one (i := 11) rfl (by kernel_rfl) (fun K hK9 => ?_)
      go_simp
      refine hK9.out _ _ (Cond.behind trivial (by kernel_rfl)) ?_
      clear hK9 K
      try simp only [Act.put, List.setIfInBounds_toArray, List.set_cons_zero, List.set_cons_succ]
      refine Uptot.done (by kernel_rfl) ?_ _
      have hb4 := own_below (hownD.alloc (.cells #[.string s] 9)) (hbD.al _) hgrow
      rw [HSN.out] at hown4
      have hm2 := Int.tdiv_eq_ediv_of_nonneg (a := (y : Int)) (by omega) (b := 2)
      clear hownD hbD hgrow hpart
      go_wp2
      go_roundw
      case rel => exact ⟨k + 1, y / 2, by omega, by simp, by go_num, HY, by omega, hown4, hb4⟩
      case measure => simp [intOf]; omega
    · obtain rfl : k = d := by omega
      rw [List.take_of_length_le (by rw [HPL.out]; omega)] at hown
      have HR : Hid (PathP ps 0 w (.returned (.tuple #[u7, .int .i64 0])) wr) := Lib.hid ⟨_, rfl, by rw [HPL.out]; exact own_mono hown hb.size, hb.next hb1⟩
      clear hown hb hb1
      go_wp2
      go_ret2
      exact HR.out
end Go.Proofs.YtgcohoonhklkbaaDoor
