/-
  Merged by program: Stf2, Many, Tar1, Tar2, Tar3, TRn2, TRn, Ref7.
-/
import Derived.Test.YtlkdofghhibmbaaDoorM3
import Derived.Test.YtlkdofghhibmbaaDoorM2
import Derived.Maps.AppendAt
import Derived.Test.YtlkdofghhibmbaaDoorM1
import Derived.Deep.QuietTactic
import Derived.BigQuiet
import Derived.Lib.QuietBelow
import Derived.Lib.Bytes
import Derived.OwnWalk
import Derived.Deep.RegionLaw

/-
  keyholeref04: the contract of Block.
-/
namespace Go.Proofs.YtlkdofghhibmbaaDoor
open Go.RowKit Go.Kx
set_option maxRecDepth 20000

/-! ### eighty steps -/
def flatN (l : List Nat) : Nat → List Nat
  | 0 => l
  | i + 1 => stepT (flatN l i) (placeAt (i % 8) 0) (placeAt (i % 8) 1) (placeAt (i % 8) 2) (placeAt (i % 8) 3)
theorem flat_turn (l : List Nat) : ∀ r k, k ≤ 8 → flatN l (8 * r + k) = turnN (roundN l r) k
  | 0, 0, _ => rfl
  | r + 1, 0, _ => by
    have h := flat_turn l r 8 (Nat.le_refl _)
    rw [show 8 * (r + 1) + 0 = 8 * r + 8 by omega, h, roundN, turnL]
    generalize turnN (roundN l r) 8 = a
    rfl
  | r, k + 1, h => by
    have ih := flat_turn l r k (by omega)
    rw [← Nat.add_assoc, flatN, ih, show (8 * r + k) % 8 = k by omega, turnN]
theorem flat_end (l : List Nat) : flatN l 80 = roundN l 10 := by
  have h := flat_turn l 10 0 (by omega)
  rw [turnN] at h
  exact h
theorem okL_flat {l : List Nat} (h : okL l) : ∀ i, okL (flatN l i)
  | 0 => h
  | i + 1 => okL_step (okL_flat h i) _ _ _ _
/-- The first j of four stores. -/
def putJ (l : List Nat) (p : Nat → Nat) (y : Nat → Nat) : Nat → List Nat
  | 0 => l
  | j + 1 => (putJ l p y j).set (p j) (y j)
theorem putJ_length (l : List Nat) (p y : Nat → Nat) : ∀ j, (putJ l p y j).length = l.length
  | 0 => rfl
  | j + 1 => by rw [putJ, List.length_set, putJ_length l p y j]
theorem putJ_four (l : List Nat) (p : Nat → Nat) (t : W4) : putJ l p (fun j => [t.a, t.b, t.c, t.d].getD j 0) 4 = put4 l (p 0) (p 1) (p 2) (p 3) t := rfl
/-- The first i of sixteen sums. -/
def sumI (r l : List Nat) (i : Nat) : List Nat := (List.range 16).map fun j => if j < i then (r.getD j 0 + l.getD j 0) % 4294967296 else r.getD j 0
theorem sumI_end (r l : List Nat) : sumI r l 16 = sumRow r l := List.map_congr_left fun j hj => by rw [if_pos (List.mem_range.1 hj)]
theorem sumI_start (r l : List Nat) (hr : r.length = 16) : sumI r l 0 = r := by
  refine List.ext_getElem (by simp [sumI, hr]) fun j h1 h2 => ?_
  simp [sumI, List.getD, List.getElem?_eq_getElem h2]
theorem sumI_length (r l : List Nat) (i : Nat) : (sumI r l i).length = 16 := by simp [sumI]
theorem sumI_at (r l : List Nat) (i : Nat) (hi : i < 16) : (sumI r l i).getD i 0 = r.getD i 0 := by
  rw [sumI, List.getD, List.getElem?_map, List.getElem?_range hi]
  simp
theorem sumI_set (r l : List Nat) (i : Nat) : (sumI r l i).set i ((r.getD i 0 + l.getD i 0) % 4294967296) = sumI r l (i + 1) := by
  refine List.ext_getElem (by simp [sumI]) fun j h1 h2 => ?_
  rw [List.getElem_set]
  have hj : j < 16 := by rw [sumI_length] at h2; exact h2
  by_cases h : i = j
  · subst h
    simp [sumI]
  · rw [if_neg h]
    simp only [sumI, List.getElem_map, List.getElem_range]
    by_cases h3 : j < i
    · rw [if_pos h3, if_pos (by omega)]
    · rw [if_neg h3, if_neg (by omega)]

/-! ### sixteen words in memory -/
def St16 (w : World) (X cap : Nat) (l : List Nat) : Prop := ∃ f, w.rowIs X 3 cap f ∧ 16 ≤ cap ∧ l.length = 16 ∧ ∀ j, j < 16 → f j = .int .i64 (l.getD j 0 : Nat)
theorem St16.keep {w w' : World} {X cap : Nat} {l : List Nat} (h : St16 w X cap l) (hb : Below w.heap.size w w') : St16 w' X cap l := by
  obtain ⟨f, h1, h2⟩ := h
  exact ⟨f, rowIs_keep h1 hb, h2⟩
theorem St16.cell {w : World} {X cap : Nat} {l : List Nat} (h : St16 w X cap l) {j : Nat} (hj : j < 16) : w.cell? ⟨X, j, none⟩ = some (.int .i64 (l.getD j 0 : Nat)) := by
  obtain ⟨f, h1, h2, _, h3⟩ := h
  rw [h1.cell (by omega), h3 j hj]
theorem St16.frozen {w : World} {X cap : Nat} {l : List Nat} (h : St16 w X cap l) (j : Nat) : w.frozen? ⟨X, j, none⟩ = false := by
  obtain ⟨f, h1, _⟩ := h
  exact h1.frozen j
theorem St16.set {w : World} {X cap : Nat} {l : List Nat} (h : St16 w X cap l) {j : Nat} (hj : j < 16) (x : Nat) : St16 (w.setCell ⟨X, j, none⟩ (.int .i64 (x : Int))) X cap (l.set j x) := by
  obtain ⟨f, h1, h2, h3, h4⟩ := h
  refine ⟨_, h1.set j _, h2, by rw [List.length_set, h3], fun k hk => ?_⟩
  by_cases hkj : k = j
  · subst hkj
    rw [if_pos rfl, List.getD, List.getElem?_set_self (by omega)]
    rfl
  · rw [if_neg hkj, h4 k hk, List.getD, List.getD, List.getElem?_set_ne (by omega)]
theorem St16.sl {w : World} {X cap : Nat} {l : List Nat} (h : St16 w X cap l) : Sl w (some ⟨X, 0, none⟩) (ints l) := by
  have hl : l.length = 16 := h.choose_spec.2.2.1
  refine .inr ⟨X, 0, rfl, h.choose_spec.1.lt, fun j u hu => ?_⟩
  simp only [ints, List.getElem?_map, Option.map_eq_some_iff] at hu
  obtain ⟨y, hy, rfl⟩ := hu
  have hj := (List.getElem?_eq_some_iff.1 hy).1
  rw [Nat.zero_add, h.cell (by omega), List.getD, hy]
  rfl
theorem St16.of_own {w : World} {B : Nat} {v : Value} {l : List Nat} (h : w.ownsRow B 3 1 v 16 (ints l)) : ∃ X cap, v = .slice (some ⟨X, 0, none⟩) 16 cap ∧ B ≤ X ∧ St16 w X cap l := by
  have hl : l.length = 16 := by have := h.1; simpa [ints] using this
  rcases h.2 with ⟨_, h0⟩ | ⟨g, cap, cur, rfl, hg, hh, hc, hm, hs, ht⟩
  · omega
  · refine ⟨g, cap, rfl, hg, fun j => cur[j]?.getD undef, ⟨cur, hh, by omega, fun i hi => ?_⟩, hc, hl, fun j hj => ?_⟩
    · show cur[i]? = some (cur[i]?.getD undef)
      rw [Array.getElem?_eq_getElem (by omega)]
      rfl
    · have h1 : (cur.toList.take 16)[j]? = some (.int .i64 (l.getD j 0 : Nat)) := by
        rw [show (16 : Nat) = 16 * 1 from rfl, ht, ints, List.getElem?_map, List.getD, List.getElem?_eq_getElem (by omega)]
        rfl
      rw [List.getElem?_take, if_pos hj] at h1
      have h2 : cur[j]? = some (.int .i64 (l.getD j 0 : Nat)) := by simpa using h1
      show cur[j]?.getD undef = _
      rw [h2]
      rfl
theorem keepC {V V' : World} {p : Addr} {v : Value} (h : V.cell? p = some v) (hb : Below V.heap.size V V') : V'.cell? p = some v := (hb.cell (block_lt_of_cell h)).trans h
theorem sints_one {xs : List Nat} : ∀ u ∈ ints xs, u.oneCell' = true := by
  intro u hu
  obtain ⟨x, _, rfl⟩ := List.mem_map.1 hu
  rfl
theorem sints_append (a b : List Nat) : ints a ++ ints b = ints (a ++ b) := by simp [ints]
theorem sints_len (a : List Nat) : (ints a).length = a.length := by simp [ints]
/-- A row of ints that is owned: where it lies, and its cells. -/
theorem own_adds {W : World} {B : Nat} {v : Value} {n : Nat} {xs : List Nat} (h : W.ownsRow B 3 1 v n (ints xs)) (h0 : 0 < n) : ∃ g c, v = .slice (some ⟨g, 0, none⟩) n c ∧ xs.length = n ∧ B ≤ g ∧ g < W.heap.size ∧ ∀ (j : Nat) u, (ints xs)[j]? = some u → W.cell? ⟨g, j, none⟩ = some u := by
  have hl : xs.length = n := by have := h.1; simpa [ints] using this
  obtain ⟨A, c, rfl, hs⟩ := own_sl h
  rcases h.2 with ⟨_, h0'⟩ | ⟨g, cap, cur, e, hg, hh, -⟩
  · omega
  · obtain ⟨rfl, -, rfl⟩ := Value.slice.inj e
    refine ⟨g, c, rfl, hl, hg, (Array.getElem?_eq_some_iff.1 hh).1, fun j u hu => ?_⟩
    rcases hs with h3 | ⟨b, off, e, _, hc⟩
    · rw [h3] at hu; simp at hu
    · cases e
      have := hc j u hu
      rwa [Nat.zero_add] at this
theorem add_cell {V : World} {g : Nat} {vs : List Value} (h : ∀ (j : Nat) u, vs[j]? = some u → V.cell? ⟨g, j, none⟩ = some u) : ∀ (j : Nat) u, vs[j]? = some u → V.cell? ((⟨g, 0, none⟩ : Addr).add j) = some u := fun j u hu => by
  have h1 := h j u hu
  unfold Addr.add
  split
  · rename_i h0
    rw [h0] at h1
    exact h1
  · simpa using h1
theorem sl0 {V : World} {g : Nat} {xs : List Nat} (h : Sl V (some ⟨g, 0, none⟩) (ints xs)) {j : Nat} (hj : j < xs.length) : V.cell? ⟨g, j, none⟩ = some (.int .i64 (xs.getD j 0 : Nat)) := by
  rcases h with h3 | ⟨b, off, e, _, hc⟩
  · rw [ints, List.map_eq_nil_iff] at h3
    rw [h3] at hj
    simp at hj
  · cases e
    have h1 := hc j (.int .i64 (xs.getD j 0 : Nat)) (by rw [ints, List.getElem?_map, List.getD, List.getElem?_eq_getElem hj]; rfl)
    rwa [Nat.zero_add] at h1
/-- A cell of a block that lies as it lay. -/
theorem farC {V W : World} {X : Nat} (h : ∀ b, b < V.heap.size → b ≠ X → W.heap[b]? = V.heap[b]?) {g : Nat} (hg : g < V.heap.size) (hX : g ≠ X) (o : Nat) : W.cell? ⟨g, o, none⟩ = V.cell? ⟨g, o, none⟩ := by simp [World.cell?, h g hg hX]
set_option maxHeartbeats 4000000 in
theorem rblock_yes (key nonce : ByteArray) (n : Nat) (hk : key.size = 32) (hn : nonce.size = 12) (hl : n < 4294967296) (r : ByteArray) (hr : (⟨(bytesL (startL key nonce n)).toArray⟩ : ByteArray) = r) (w : World) :
    Calls Tryd.prog 69 #[.string key, .string nonce, .int .i64 (n : Int)] w fun e w' => e = .returned (.tuple #[.string r, .int .i64 0]) ∧ Below w.heap.size w w' := by
  have t1 : ((key.size : Int) != 32) = false := by rw [bne_eq_false_iff_eq]; omega
  have t2 : ((nonce.size : Int) != 12) = false := by rw [bne_eq_false_iff_eq]; omega
  have his := ris_any (n : Int) w
  rw [okW_t (by omega) (by omega)] at his
  obtain ⟨i0, hI0, hz0, hz1, hz2⟩ := info_parts int_info
  obtain ⟨kw, hkw⟩ : ∃ kw, cutL false key = kw := ⟨_, rfl⟩
  obtain ⟨nw, hnw⟩ : ∃ nw, cutL false nonce = nw := ⟨_, rfl⟩
  have hkl : kw.length = 8 := by rw [← hkw, cutL_length]; omega
  have hnl : nw.length = 3 := by rw [← hnw, cutL_length]; omega
  have HCK := Lib.hid fun V => rcut_any key false V (by omega) (by omega)
  have HCN := Lib.hid fun V => rcut_any nonce false V (by omega) (by omega)
  rw [hkw, hkl] at HCK
  rw [hnw, hnl] at HCN
  have HOK0 := startL_ok key nonce n hk hn hl
  obtain ⟨l0, hl0⟩ : ∃ l0, startL key nonce n = l0 := ⟨_, rfl⟩
  have HL0 : Hid (([1634760805, 857760878, 2036477234, 1797285236] ++ kw ++ [n]) ++ nw = l0) := Lib.hid (by rw [← hl0, startL, hkw, hnw])
  rw [hl0] at HOK0 hr
  have HOK := Lib.hid HOK0
  have HR := Lib.hid hr
  have HKL := Lib.hid hkl
  have HNL := Lib.hid hnl
  clear hkw hnw hl0 hr HOK0 hkl hnl
  go_enter Tryd.func69, Tryd.ntmps69
  go_wp2_with fail
  refine his.mono ?_
  rintro e w ⟨rfl, rfl⟩
  go_wp2_with fail
  have hown0 : (w.alloc (.cells #[.int .i64 1634760805, .int .i64 857760878, .int .i64 2036477234, .int .i64 1797285236] 3)).ownsRow w.heap.size 3 1 (.slice (some ⟨w.heap.size, 0, none⟩) 4 4) 4 (ints [1634760805, 857760878, 2036477234, 1797285236]) :=
    ⟨rfl, .inr ⟨w.heap.size, 4, _, rfl, Nat.le_refl _, heap_alloc_new w _, Nat.le_refl _, by unfold maxLen; omega, rfl, rfl⟩⟩
  have hb0 := Below.alloc0 w (.cells #[.int .i64 1634760805, .int .i64 857760878, .int .i64 2036477234, .int .i64 1797285236] 3)
  generalize World.alloc w _ = w1 at *
  refine (HCK.out w1).mono ?_
  rintro e w2 ⟨v1, rfl, hown1, hb1⟩
  have hown0' := own_keep hown0 hb1
  have hb2 := hb0.next hb1
  obtain ⟨gk, ck, rfl, hlk, hgk1, hgk2, hck⟩ := own_adds hown1 (by omega)
  have hs1 := hb0.size
  have hs2 := hb1.size
  have hw0 : w.heap.size < w1.heap.size := by
    rcases hown0.2 with ⟨h, _⟩ | ⟨g, _, _, e, _, hh, _⟩
    · cases h
    · have := (Array.getElem?_eq_some_iff.1 hh).1
      obtain ⟨rfl, -, -⟩ : w.heap.size = g ∧ True ∧ True := by simp at e; exact ⟨e.1, trivial, trivial⟩
      exact this
  clear hown0 hown1 hb0
  go_wp2_with fail
  refine (HCN.out w2).mono ?_
  rintro e w3 ⟨v2, rfl, hown2, hb3⟩
  have hown3 := own_keep hown0' hb3
  have hb4 := hb2.next hb3
  have hck3 : ∀ (j : Nat) u, (ints kw)[j]? = some u → w3.cell? ⟨gk, j, none⟩ = some u := fun j u hu => (hb3.cell (p := ⟨gk, j, none⟩) hgk2).trans (hck j u hu)
  obtain ⟨gn, cn, rfl, hln, hgn1, hgn2, hcn⟩ := own_adds hown2 (by omega)
  clear hown0' hown2 hb2 hb1 hck
  go_wp2_with (first
    | (at_builtin; refine wpList_append_own_at _ rfl _ _ 71 rfl w.heap.size 3 i0 (.int .i64 0) 1 8 Tryd.underlying71 hI0 hz0 hz1 hz2 rfl (by decide) _ _ _ rfl (hown3) ⟨gk, 0, none⟩ 8 ck (ints kw) rfl (by rw [sints_len, HKL.out]) (add_cell hck3) sints_one ?c3 ?c4 ?c5 ?_)
    | go_in)
  case c3 => unfold maxLen; omega
  case c4 => omega
  case c5 => have := hb4.size; omega
  intro v5 w5 hown5 hgrow5 _ hblk5
  have hb5 := own_below hown3 hb4 hgrow5
  rw [sints_append] at hown5
  have hs5 := hgrow5.size
  have hne5 : v5.ownBlock ≠ some gn := by
    rcases hblk5 with h | h <;> rw [h] <;> simp [Value.ownBlock] <;> omega
  have hcn5 : ∀ (j : Nat) u, (ints nw)[j]? = some u → w5.cell? ⟨gn, j, none⟩ = some u := fun j u hu => by
    rw [World.grownBy.cell_far hgrow5 ⟨gn, j, none⟩ hgn2 (by simp [Value.ownBlock]; omega)]
    exact hcn j u hu
  obtain ⟨g5, c5, rfl, hl5, hg51, hg52, -⟩ := own_adds hown5 (by omega)
  clear hown3 hb4 hgrow5 hcn hck3
  go_wp2_with (first
    | (at_builtin; refine wpList_append_own_at _ rfl _ _ 71 rfl w.heap.size 3 i0 (.int .i64 0) 1 8 Tryd.underlying71 hI0 hz0 hz1 hz2 rfl (by decide) _ _ _ rfl (hown5.alloc _) ⟨w5.heap.size, 0, none⟩ 1 1 (ints [n]) rfl (rfl) (?c0) sints_one ?c3 ?c4 ?c5 ?_)
    | go_in)
  case c0 =>
    intro j u hj
    match j, hj with
    | 0, hj => simp [ints] at hj; subst hj; simp [Addr.add]
  case c3 => unfold maxLen; omega
  case c4 => omega
  case c5 => have := hb5.size; simp; omega
  intro v6 w6 hown6 hgrow6 _ hblk6
  have hb6 := own_below (hown5.alloc (.cells #[.int .i64 (n : Int)] 3)) (hb5.al _) hgrow6
  rw [sints_append] at hown6
  have hs6 := hgrow6.size
  have hne5' : g5 ≠ gn := by simpa [Value.ownBlock] using hne5
  have hcn6 : ∀ (j : Nat) u, (ints nw)[j]? = some u → w6.cell? ⟨gn, j, none⟩ = some u := fun j u hu => by
    rw [World.grownBy.cell_far hgrow6 ⟨gn, j, none⟩ (by simp; omega) (by simp only [Value.ownBlock, ne_eq, Option.some.injEq]; exact fun h => hne5' h.symm)]
    exact ((Below.alloc0 w5 (.cells #[.int .i64 (n : Int)] 3)).cell (p := ⟨gn, j, none⟩) (by show gn < w5.heap.size; omega)).trans (hcn5 j u hu)
  obtain ⟨g6, c6, rfl, hl6, hg61, hg62, -⟩ := own_adds hown6 (by omega)
  clear hown5 hb5 hgrow6 hcn5 hblk5 hblk6
  go_wp2_with (first
    | (at_builtin; refine wpList_append_own_at _ rfl _ _ 71 rfl w.heap.size 3 i0 (.int .i64 0) 1 8 Tryd.underlying71 hI0 hz0 hz1 hz2 rfl (by decide) _ _ _ rfl (hown6) ⟨gn, 0, none⟩ 3 cn (ints nw) rfl (by rw [sints_len, HNL.out]) (add_cell hcn6) sints_one ?c3 ?c4 ?c5 ?_)
    | go_in)
  case c3 => unfold maxLen; omega
  case c4 => omega
  case c5 => exact hb6.size
  intro v7 w7 hown7 hgrow7 _ _
  have hb7 := own_below hown6 hb6 hgrow7
  replace hown7 : w7.ownsRow w.heap.size 3 1 v7 16 (ints l0) := by
    have h := hown7
    rw [← HL0.out]
    simpa [sints_append] using h
  obtain ⟨F, c7, rfl, hl7, hF1, hF2, hcF⟩ := own_adds hown7 (by omega)
  clear hown6 hb6 hgrow7 hcn6
  go_wp2_with (first
    | (at_builtin; refine wpList_append_own_at _ rfl _ _ 71 rfl w.heap.size 3 i0 (.int .i64 0) 1 8 Tryd.underlying71 hI0 hz0 hz1 hz2 rfl (by decide) _ _ _ rfl (World.ownsRow_nil w7 w.heap.size 3 1) ⟨F, 0, none⟩ 16 c7 (ints l0) rfl (by rw [sints_len, hl7]) (add_cell hcF) sints_one ?c3 ?c4 ?c5 ?_)
    | go_in)
  case c3 => unfold maxLen; omega
  case c4 => omega
  case c5 => exact hb7.size
  intro v8 w8 hown8 hgrow8 _ hblk8
  try simp only [Nat.zero_add, List.nil_append] at hown8
  have hb8 := own_below (World.ownsRow_nil w7 w.heap.size 3 1) hb7 hgrow8
  have hcF8 : ∀ (j : Nat) u, (ints l0)[j]? = some u → w8.cell? ⟨F, j, none⟩ = some u := fun j u hu => by
    rw [World.grownBy.cell_far hgrow8 ⟨F, j, none⟩ hF2 (by simp [Value.ownBlock])]
    exact hcF j u hu
  have hF8 : F < w8.heap.size := Nat.lt_of_lt_of_le hF2 hgrow8.size
  obtain ⟨X, cap, rfl, hBX, hSt0⟩ := St16.of_own hown8
  have hXF : X ≠ F := by
    rcases hblk8 with h | h
    · simp [Value.ownBlock] at h
    · simp [Value.ownBlock] at h
      omega
  have hXl : X < w8.heap.size := by obtain ⟨f, h1, _⟩ := hSt0; exact h1.lt
  clear hown7 hb7 hgrow8 hblk8 hcF hF2 hown8
  go_wp2_with fail
  refine (rplaces_any w8).mono ?_
  rintro e w9 ⟨PP, rfl, hPP, hpl, hb9⟩
  have hSt9 := hSt0.keep hb9
  have hcF9 : ∀ (j : Nat) u, (ints l0)[j]? = some u → w9.cell? ⟨F, j, none⟩ = some u := fun j u hu => (hb9.cell (p := ⟨F, j, none⟩) hF8).trans (hcF8 j u hu)
  have hb10 := hb8.next hb9
  have HPL := Lib.hid hpl
  have hw9 := hb9.size
  have hF9 : F < w9.heap.size := by omega
  have hX9 : X < w9.heap.size := by omega
  have hXP : X ≠ PP := by omega
  have HFC := Lib.hid hcF9
  have HW8 : Hid (w8.heap.size ≤ PP ∧ X < w8.heap.size) := Lib.hid ⟨hPP, hXl⟩
  have hw0X : w.heap.size ≤ X := hBX
  have hPPl : PP < w9.heap.size := by
    obtain ⟨g, _, h, _⟩ := hpl 0 (by omega)
    exact block_lt_of_cell h
  clear hSt0 hcF8 hb8 hb9 hpl
  go_wp2_with fail
  go_loopw [15] (fun i wr => ∃ k : Nat, k ≤ 80 ∧ i = .int .i64 (k : Int) ∧ St16 wr X cap (flatN l0 k) ∧ (∀ b, b < w9.heap.size → b ≠ X → wr.heap[b]? = w9.heap[b]?) ∧ w9.heap.size ≤ wr.heap.size ∧ Below w.heap.size w wr) (fun i _ => 80 - (intOf i).toNat)
  case atStart => exact ⟨0, by omega, rfl, hSt9, fun b _ _ => rfl, Nat.le_refl _, hb10⟩
  case round =>
    clear hSt9 hb10
    obtain ⟨k, hk, rfl, hSt, hfar, hsz, hb⟩ := hrel
    by_cases hlt : k < 80
    · obtain ⟨q, hq⟩ : ∃ q, k % 8 = q := ⟨_, rfl⟩
      have hq8 : q < 8 := by omega
      obtain ⟨G, hGf, hG1, hG2⟩ := HPL.out q hq8
      have hGl : G < w9.heap.size := block_lt_of_cell (hG2 0 (by omega))
      have hGX : G ≠ X := by have := HW8.out; omega
      have hem : (k : Int) % 8 = (q : Int) := by omega
      have htm : (k : Int).tmod 8 = (q : Int) := by rw [Int.tmod_eq_emod_of_nonneg (by omega)]; exact hem
      have hqI : (q : Int) < 8 := by omega
      have hq0 : (0 : Int) ≤ (q : Int) := by omega
      have hGc : wr.cell? ⟨PP, q, none⟩ = some (.slice (some ⟨G, 0, none⟩) 4 4) := (farC hfar hPPl (Ne.symm hXP) q).trans hG1
      obtain ⟨l2, hl2⟩ : ∃ l2, flatN l0 k = l2 := ⟨_, rfl⟩
      have hok2 : okL l2 := by rw [← hl2]; exact okL_flat HOK.out k
      have HSTEP : Hid (stepT l2 (placeAt q 0) (placeAt q 1) (placeAt q 2) (placeAt q 3) = flatN l0 (k + 1)) := Lib.hid (by rw [flatN, hl2, hq])
      rw [hl2] at hSt
      obtain ⟨p0, hp0'⟩ : ∃ p, placeAt q 0 = p := ⟨_, rfl⟩
      obtain ⟨p1, hp1'⟩ : ∃ p, placeAt q 1 = p := ⟨_, rfl⟩
      obtain ⟨p2, hp2'⟩ : ∃ p, placeAt q 2 = p := ⟨_, rfl⟩
      obtain ⟨p3, hp3'⟩ : ∃ p, placeAt q 3 = p := ⟨_, rfl⟩
      have lp0 : p0 < 16 := by rw [← hp0']; exact placeAt_lt q 0 hq8 (by omega)
      have lq0 : (p0 : Int) < 16 := by omega
      have lp1 : p1 < 16 := by rw [← hp1']; exact placeAt_lt q 1 hq8 (by omega)
      have lq1 : (p1 : Int) < 16 := by omega
      have lp2 : p2 < 16 := by rw [← hp2']; exact placeAt_lt q 2 hq8 (by omega)
      have lq2 : (p2 : Int) < 16 := by omega
      have lp3 : p3 < 16 := by rw [← hp3']; exact placeAt_lt q 3 hq8 (by omega)
      have lq3 : (p3 : Int) < 16 := by omega
      have hp0 : wr.cell? ⟨G, 0, none⟩ = some (.int .i64 (p0 : Int)) := by rw [← hp0']; exact (farC hfar hGl hGX 0).trans (hG2 0 (by omega))
      have hp1 : wr.cell? ⟨G, 1, none⟩ = some (.int .i64 (p1 : Int)) := by rw [← hp1']; exact (farC hfar hGl hGX 1).trans (hG2 1 (by omega))
      have hp2 : wr.cell? ⟨G, 2, none⟩ = some (.int .i64 (p2 : Int)) := by rw [← hp2']; exact (farC hfar hGl hGX 2).trans (hG2 2 (by omega))
      have hp3 : wr.cell? ⟨G, 3, none⟩ = some (.int .i64 (p3 : Int)) := by rw [← hp3']; exact (farC hfar hGl hGX 3).trans (hG2 3 (by omega))
      have HPJ : Hid (∀ j, j < 4 → placeAt q j = [p0, p1, p2, p3].getD j 0) := Lib.hid fun j hj => by
        rcases (by omega : j = 0 ∨ j = 1 ∨ j = 2 ∨ j = 3) with rfl | rfl | rfl | rfl
        · exact hp0'
        · exact hp1'
        · exact hp2'
        · exact hp3'
      have HG2 := Lib.hid hG2
      rw [hp0', hp1', hp2', hp3'] at HSTEP
      obtain ⟨a, ha⟩ : ∃ a, l2.getD p0 0 = a := ⟨_, rfl⟩
      obtain ⟨b, hb'⟩ : ∃ a, l2.getD p1 0 = a := ⟨_, rfl⟩
      obtain ⟨c1, hc'⟩ : ∃ a, l2.getD p2 0 = a := ⟨_, rfl⟩
      obtain ⟨d, hd'⟩ : ∃ a, l2.getD p3 0 = a := ⟨_, rfl⟩
      have hx0 := hSt.cell lp0
      have hx1 := hSt.cell lp1
      have hx2 := hSt.cell lp2
      have hx3 := hSt.cell lp3
      rw [ha] at hx0
      rw [hb'] at hx1
      rw [hc'] at hx2
      rw [hd'] at hx3
      have la : a < 4294967296 := by rw [← ha]; exact okL_at hok2 _
      have lb : b < 4294967296 := by rw [← hb']; exact okL_at hok2 _
      have lc : c1 < 4294967296 := by rw [← hc']; exact okL_at hok2 _
      have ld : d < 4294967296 := by rw [← hd']; exact okL_at hok2 _
      obtain ⟨t, ht⟩ : ∃ t, turnW a b c1 d = t := ⟨_, rfl⟩
      have HT := Lib.hid ht
      have HSTEP2 : Hid (put4 l2 p0 p1 p2 p3 t = flatN l0 (k + 1)) := Lib.hid (by rw [← HSTEP.out, stepT, ha, hb', hc', hd', ht])
      have HL2 := Lib.hid hok2.1
      have HFAR := Lib.hid hfar
      clear hq hG1 hG2 hl2 hp0' hp1' hp2' hp3' ha hb' hc' hd' ht hok2 HSTEP hfar
      go_wp2_with fail
      refine Uptot.begin_ [] (fun w' : World => (w'.cell? ⟨G, 0, none⟩ = some (.int .i64 (p0 : Int)) ∧ w'.cell? ⟨G, 1, none⟩ = some (.int .i64 (p1 : Int)) ∧ w'.cell? ⟨G, 2, none⟩ = some (.int .i64 (p2 : Int)) ∧ w'.cell? ⟨G, 3, none⟩ = some (.int .i64 (p3 : Int))) ∧ w'.cell? ⟨X, p0, none⟩ = some (.int .i64 (a : Int)) ∧ w'.cell? ⟨X, p1, none⟩ = some (.int .i64 (b : Int)) ∧ w'.cell? ⟨X, p2, none⟩ = some (.int .i64 (c1 : Int)) ∧ w'.cell? ⟨X, p3, none⟩ = some (.int .i64 (d : Int))) (fun _ => True) (by kernel_rfl) ?_
      have hST : (fun w' : World => (w'.cell? ⟨G, 0, none⟩ = some (.int .i64 (p0 : Int)) ∧ w'.cell? ⟨G, 1, none⟩ = some (.int .i64 (p1 : Int)) ∧ w'.cell? ⟨G, 2, none⟩ = some (.int .i64 (p2 : Int)) ∧ w'.cell? ⟨G, 3, none⟩ = some (.int .i64 (p3 : Int))) ∧ w'.cell? ⟨X, p0, none⟩ = some (.int .i64 (a : Int)) ∧ w'.cell? ⟨X, p1, none⟩ = some (.int .i64 (b : Int)) ∧ w'.cell? ⟨X, p2, none⟩ = some (.int .i64 (c1 : Int)) ∧ w'.cell? ⟨X, p3, none⟩ = some (.int .i64 (d : Int))) wr.drew ∧ True := ⟨⟨⟨hp0, hp1, hp2, hp3⟩, hx0, hx1, hx2, hx3⟩, trivial⟩
      have hSt2 : St16 wr.drew X cap l2 := hSt
      have hb2 := hb.drew
      have hbr := Below.drew0 wr
      clear hp0 hp1 hp2 hp3 hx0 hx1 hx2 hx3 hSt hb
      generalize hV2 : wr.drew = V2 at *
      clear hV2
      refine Uptot.takeS (i := 0) (v := ?_) rfl (by kernel_rfl) (by kernel_rfl) (by kernel_rfl) (by kernel_rfl) (fun _ _ _ h => h) (Or.inl ⟨by rfl, ?_⟩) hST ?_
      rotate_left 1
      · intro w9 hSw; (try dsimp only at hSw); obtain ⟨⟨h91, h92, h93, h94⟩, h95, h96, h97, h98⟩ := hSw; go_simp; (try with_reducible rfl)
      try simp only [Act.put, List.setIfInBounds_toArray, List.set_cons_zero, List.set_cons_succ]
      refine Uptot.takeS (i := 1) (v := ?_) rfl (by kernel_rfl) (by kernel_rfl) (by kernel_rfl) (by kernel_rfl) (fun _ _ _ h => h) (Or.inl ⟨by rfl, ?_⟩) hST ?_
      rotate_left 1
      · intro w9 hSw; (try dsimp only at hSw); obtain ⟨⟨h91, h92, h93, h94⟩, h95, h96, h97, h98⟩ := hSw; go_simp; (try with_reducible rfl)
      try simp only [Act.put, List.setIfInBounds_toArray, List.set_cons_zero, List.set_cons_succ]
      refine Uptot.takeS (i := 2) (v := ?_) rfl (by kernel_rfl) (by kernel_rfl) (by kernel_rfl) (by kernel_rfl) (fun _ _ _ h => h) (Or.inl ⟨by rfl, ?_⟩) hST ?_
      rotate_left 1
      · intro w9 hSw; (try dsimp only at hSw); obtain ⟨⟨h91, h92, h93, h94⟩, h95, h96, h97, h98⟩ := hSw; go_simp; (try with_reducible rfl)
      try simp only [Act.put, List.setIfInBounds_toArray, List.set_cons_zero, List.set_cons_succ]
      refine Uptot.takeS (i := 3) (v := ?_) rfl (by kernel_rfl) (by kernel_rfl) (by kernel_rfl) (by kernel_rfl) (fun _ _ _ h => h) (Or.inl ⟨by rfl, ?_⟩) hST ?_
      rotate_left 1
      · intro w9 hSw; (try dsimp only at hSw); obtain ⟨⟨h91, h92, h93, h94⟩, h95, h96, h97, h98⟩ := hSw; go_simp; (try with_reducible rfl)
      try simp only [Act.put, List.setIfInBounds_toArray, List.set_cons_zero, List.set_cons_succ]
      refine Uptot.takeS (i := 4) (v := ?_) rfl (by kernel_rfl) (by kernel_rfl) (by kernel_rfl) (by kernel_rfl) (fun _ _ _ h => h) (Or.inl ⟨by rfl, ?_⟩) hST ?_
      rotate_left 1
      · intro w9 hSw; (try dsimp only at hSw); obtain ⟨⟨h91, h92, h93, h94⟩, h95, h96, h97, h98⟩ := hSw; go_simp; (try with_reducible rfl)
      try simp only [Act.put, List.setIfInBounds_toArray, List.set_cons_zero, List.set_cons_succ]
      refine Uptot.takeS (i := 5) (v := ?_) rfl (by kernel_rfl) (by kernel_rfl) (by kernel_rfl) (by kernel_rfl) (fun _ _ _ h => h) (Or.inl ⟨by rfl, ?_⟩) hST ?_
      rotate_left 1
      · intro w9 hSw; (try dsimp only at hSw); obtain ⟨⟨h91, h92, h93, h94⟩, h95, h96, h97, h98⟩ := hSw; go_simp; (try with_reducible rfl)
      try simp only [Act.put, List.setIfInBounds_toArray, List.set_cons_zero, List.set_cons_succ]
      refine Uptot.takeS (i := 6) (v := ?_) rfl (by kernel_rfl) (by kernel_rfl) (by kernel_rfl) (by kernel_rfl) (fun _ _ _ h => h) (Or.inl ⟨by rfl, ?_⟩) hST ?_
      rotate_left 1
      · intro w9 hSw; (try dsimp only at hSw); obtain ⟨⟨h91, h92, h93, h94⟩, h95, h96, h97, h98⟩ := hSw; go_simp; (try with_reducible rfl)
      try simp only [Act.put, List.setIfInBounds_toArray, List.set_cons_zero, List.set_cons_succ]
      refine Uptot.takeS (i := 7) (v := ?_) rfl (by kernel_rfl) (by kernel_rfl) (by kernel_rfl) (by kernel_rfl) (fun _ _ _ h => h) (Or.inl ⟨by rfl, ?_⟩) hST ?_
      rotate_left 1
      · intro w9 hSw; (try dsimp only at hSw); obtain ⟨⟨h91, h92, h93, h94⟩, h95, h96, h97, h98⟩ := hSw; go_simp; (try with_reducible rfl)
      try simp only [Act.put, List.setIfInBounds_toArray, List.set_cons_zero, List.set_cons_succ]
      refine Uptot.takeS (i := 8) (v := ?_) rfl (by kernel_rfl) (by kernel_rfl) (by kernel_rfl) (by kernel_rfl) (fun _ _ _ h => h) (Or.inl ⟨by rfl, ?_⟩) hST ?_
      rotate_left 1
      · intro w9 hSw; (try dsimp only at hSw); obtain ⟨⟨h91, h92, h93, h94⟩, h95, h96, h97, h98⟩ := hSw; go_simp; (try with_reducible rfl)
      try simp only [Act.put, List.setIfInBounds_toArray, List.set_cons_zero, List.set_cons_succ]
      refine Uptot.takeS (i := 9) (v := ?_) rfl (by kernel_rfl) (by kernel_rfl) (by kernel_rfl) (by kernel_rfl) (fun _ _ _ h => h) (Or.inl ⟨by rfl, ?_⟩) hST ?_
      rotate_left 1
      · intro w9 hSw; (try dsimp only at hSw); obtain ⟨⟨h91, h92, h93, h94⟩, h95, h96, h97, h98⟩ := hSw; go_simp; (try with_reducible rfl)
      try simp only [Act.put, List.setIfInBounds_toArray, List.set_cons_zero, List.set_cons_succ]
      refine Uptot.takeS (i := 10) (v := ?_) rfl (by kernel_rfl) (by kernel_rfl) (by kernel_rfl) (by kernel_rfl) (fun _ _ _ h => h) (Or.inl ⟨by rfl, ?_⟩) hST ?_
      rotate_left 1
      · intro w9 hSw; (try dsimp only at hSw); obtain ⟨⟨h91, h92, h93, h94⟩, h95, h96, h97, h98⟩ := hSw; go_simp; (try with_reducible rfl)
      try simp only [Act.put, List.setIfInBounds_toArray, List.set_cons_zero, List.set_cons_succ]
      refine Uptot.takeS (i := 11) (v := ?_) rfl (by kernel_rfl) (by kernel_rfl) (by kernel_rfl) (by kernel_rfl) (fun _ _ _ h => h) (Or.inl ⟨by rfl, ?_⟩) hST ?_
      rotate_left 1
      · intro w9 hSw; (try dsimp only at hSw); obtain ⟨⟨h91, h92, h93, h94⟩, h95, h96, h97, h98⟩ := hSw; go_simp; (try with_reducible rfl)
      try simp only [Act.put, List.setIfInBounds_toArray, List.set_cons_zero, List.set_cons_succ]
      refine Uptot.takeS (i := 12) (v := ?_) rfl (by kernel_rfl) (by kernel_rfl) (by kernel_rfl) (by kernel_rfl) (fun _ _ _ h => h) (Or.inl ⟨by rfl, ?_⟩) hST ?_
      rotate_left 1
      · intro w9 hSw; (try dsimp only at hSw); obtain ⟨⟨h91, h92, h93, h94⟩, h95, h96, h97, h98⟩ := hSw; go_simp; (try with_reducible rfl)
      try simp only [Act.put, List.setIfInBounds_toArray, List.set_cons_zero, List.set_cons_succ]
      refine Uptot.takeS (i := 13) (v := ?_) rfl (by kernel_rfl) (by kernel_rfl) (by kernel_rfl) (by kernel_rfl) (fun _ _ _ h => h) (Or.inl ⟨by rfl, ?_⟩) hST ?_
      rotate_left 1
      · intro w9 hSw; (try dsimp only at hSw); obtain ⟨⟨h91, h92, h93, h94⟩, h95, h96, h97, h98⟩ := hSw; go_simp; (try with_reducible rfl)
      try simp only [Act.put, List.setIfInBounds_toArray, List.set_cons_zero, List.set_cons_succ]
      refine Uptot.takeS (i := 14) (v := ?_) rfl (by kernel_rfl) (by kernel_rfl) (by kernel_rfl) (by kernel_rfl) (fun _ _ _ h => h) (Or.inl ⟨by rfl, ?_⟩) hST ?_
      rotate_left 1
      · intro w9 hSw; (try dsimp only at hSw); obtain ⟨⟨h91, h92, h93, h94⟩, h95, h96, h97, h98⟩ := hSw; go_simp; (try with_reducible rfl)
      try simp only [Act.put, List.setIfInBounds_toArray, List.set_cons_zero, List.set_cons_succ]
      refine Uptot.takeS (i := 15) (v := ?_) rfl (by kernel_rfl) (by kernel_rfl) (by kernel_rfl) (by kernel_rfl) (fun _ _ _ h => h) (Or.inl ⟨by rfl, ?_⟩) hST ?_
      rotate_left 1
      · intro w9 hSw; (try dsimp only at hSw); obtain ⟨⟨h91, h92, h93, h94⟩, h95, h96, h97, h98⟩ := hSw; go_simp; (try with_reducible rfl)
      try simp only [Act.put, List.setIfInBounds_toArray, List.set_cons_zero, List.set_cons_succ]
      refine Uptot.takeS (i := 16) (v := ?_) rfl (by kernel_rfl) (by kernel_rfl) (by kernel_rfl) (by kernel_rfl) (fun _ _ _ h => h) (Or.inl ⟨by rfl, ?_⟩) hST ?_
      rotate_left 1
      · intro w9 hSw; (try dsimp only at hSw); obtain ⟨⟨h91, h92, h93, h94⟩, h95, h96, h97, h98⟩ := hSw; go_simp; (try with_reducible rfl)
      try simp only [Act.put, List.setIfInBounds_toArray, List.set_cons_zero, List.set_cons_succ]
      refine Uptot.takeS (i := 17) (v := ?_) rfl (by kernel_rfl) (by kernel_rfl) (by kernel_rfl) (by kernel_rfl) (fun _ _ _ h => h) (Or.inl ⟨by rfl, ?_⟩) hST ?_
      rotate_left 1
      · intro w9 hSw; (try dsimp only at hSw); obtain ⟨⟨h91, h92, h93, h94⟩, h95, h96, h97, h98⟩ := hSw; go_simp; (try with_reducible rfl)
      try simp only [Act.put, List.setIfInBounds_toArray, List.set_cons_zero, List.set_cons_succ]
      refine Uptot.takeS (i := 18) (v := ?_) rfl (by kernel_rfl) (by kernel_rfl) (by kernel_rfl) (by kernel_rfl) (fun _ _ _ h => h) (Or.inl ⟨by rfl, ?_⟩) hST ?_
      rotate_left 1
      · intro w9 hSw; (try dsimp only at hSw); obtain ⟨⟨h91, h92, h93, h94⟩, h95, h96, h97, h98⟩ := hSw; go_simp; (try with_reducible rfl)
      try simp only [Act.put, List.setIfInBounds_toArray, List.set_cons_zero, List.set_cons_succ]
      refine Uptot.takeS (i := 19) (v := ?_) rfl (by kernel_rfl) (by kernel_rfl) (by kernel_rfl) (by kernel_rfl) (fun _ _ _ h => h) (Or.inl ⟨by rfl, ?_⟩) hST ?_
      rotate_left 1
      · intro w9 hSw; (try dsimp only at hSw); obtain ⟨⟨h91, h92, h93, h94⟩, h95, h96, h97, h98⟩ := hSw; go_simp; (try with_reducible rfl)
      try simp only [Act.put, List.setIfInBounds_toArray, List.set_cons_zero, List.set_cons_succ]
      refine Uptot.takeS (i := 20) (v := ?_) rfl (by kernel_rfl) (by kernel_rfl) (by kernel_rfl) (by kernel_rfl) (fun _ _ _ h => h) (Or.inl ⟨by rfl, ?_⟩) hST ?_
      rotate_left 1
      · intro w9 hSw; (try dsimp only at hSw); obtain ⟨⟨h91, h92, h93, h94⟩, h95, h96, h97, h98⟩ := hSw; go_simp; (try with_reducible rfl)
      try simp only [Act.put, List.setIfInBounds_toArray, List.set_cons_zero, List.set_cons_succ]
      refine Uptot.takeS (i := 21) (v := ?_) rfl (by kernel_rfl) (by kernel_rfl) (by kernel_rfl) (by kernel_rfl) (fun _ _ _ h => h) (Or.inl ⟨by rfl, ?_⟩) hST ?_
      rotate_left 1
      · intro w9 hSw; (try dsimp only at hSw); obtain ⟨⟨h91, h92, h93, h94⟩, h95, h96, h97, h98⟩ := hSw; go_simp; (try with_reducible rfl)
      try simp only [Act.put, List.setIfInBounds_toArray, List.set_cons_zero, List.set_cons_succ]
      refine Uptot.takeS (i := 22) (v := ?_) rfl (by kernel_rfl) (by kernel_rfl) (by kernel_rfl) (by kernel_rfl) (fun _ _ _ h => h) (Or.inl ⟨by rfl, ?_⟩) hST ?_
      rotate_left 1
      · intro w9 hSw; (try dsimp only at hSw); obtain ⟨⟨h91, h92, h93, h94⟩, h95, h96, h97, h98⟩ := hSw; go_simp; (try with_reducible rfl)
      try simp only [Act.put, List.setIfInBounds_toArray, List.set_cons_zero, List.set_cons_succ]
      refine Uptot.takeS (i := 23) (v := ?_) rfl (by kernel_rfl) (by kernel_rfl) (by kernel_rfl) (by kernel_rfl) (fun _ _ _ h => h) (Or.inl ⟨by rfl, ?_⟩) hST ?_
      rotate_left 1
      · intro w9 hSw; (try dsimp only at hSw); obtain ⟨⟨h91, h92, h93, h94⟩, h95, h96, h97, h98⟩ := hSw; go_simp; (try with_reducible rfl)
      try simp only [Act.put, List.setIfInBounds_toArray, List.set_cons_zero, List.set_cons_succ]
      refine Uptot.one (i := 24) rfl (by kernel_rfl) (fun K hK9 => ?_)
      go_simp
      have hsl := Sl.new V2 3 #[.int .i64 (a : Int), .int .i64 (b : Int), .int .i64 (c1 : Int), .int .i64 (d : Int)]
      have hal := Below.alloc0 V2 (.cells #[.int .i64 (a : Int), .int .i64 (b : Int), .int .i64 (c1 : Int), .int .i64 (d : Int)] 3)
      have hSt3 := hSt2.keep hal
      have hbrs := hbr.size
      have hals := hal.size
      replace hbr := hbr.next hal
      have hb3 := hb2.next' hal (by have := hb2.size; omega)
      replace hST : (fun w' : World => (w'.cell? ⟨G, 0, none⟩ = some (.int .i64 (p0 : Int)) ∧ w'.cell? ⟨G, 1, none⟩ = some (.int .i64 (p1 : Int)) ∧ w'.cell? ⟨G, 2, none⟩ = some (.int .i64 (p2 : Int)) ∧ w'.cell? ⟨G, 3, none⟩ = some (.int .i64 (p3 : Int))) ∧ w'.cell? ⟨X, p0, none⟩ = some (.int .i64 (a : Int)) ∧ w'.cell? ⟨X, p1, none⟩ = some (.int .i64 (b : Int)) ∧ w'.cell? ⟨X, p2, none⟩ = some (.int .i64 (c1 : Int)) ∧ w'.cell? ⟨X, p3, none⟩ = some (.int .i64 (d : Int))) (V2.alloc (.cells #[.int .i64 (a : Int), .int .i64 (b : Int), .int .i64 (c1 : Int), .int .i64 (d : Int)] 3)) ∧ True := ⟨⟨⟨keepC hST.1.1.1 hal, keepC hST.1.1.2.1 hal, keepC hST.1.1.2.2.1 hal, keepC hST.1.1.2.2.2 hal⟩, keepC hST.1.2.1 hal, keepC hST.1.2.2.1 hal, keepC hST.1.2.2.2.1 hal, keepC hST.1.2.2.2.2 hal⟩, trivial⟩
      refine hK9.out _ _ (Cond.ahead hST) ?_
      clear hK9 K
      try simp only [Act.put, List.setIfInBounds_toArray, List.set_cons_zero, List.set_cons_succ]
      refine Uptot.one (i := 25) rfl (by kernel_rfl) (fun K hK9 => ?_)
      go_simp
      go_at_call 81
      refine (rturn_any (some ⟨V2.heap.size, 0, none⟩) 4 a b c1 d la lb lc ld t HT.out _ hsl).mono ?_
      rintro e V4 ⟨gy, rfl, hgy, hy, hb4⟩
      have hSt4 := hSt3.keep hb4
      replace hbr := hbr.next hb4
      have hgs3 := hbr.size
      have hb5 := hb3.next' hb4 (by have := hb3.size; omega)
      replace hST : (fun w' : World => (w'.cell? ⟨G, 0, none⟩ = some (.int .i64 (p0 : Int)) ∧ w'.cell? ⟨G, 1, none⟩ = some (.int .i64 (p1 : Int)) ∧ w'.cell? ⟨G, 2, none⟩ = some (.int .i64 (p2 : Int)) ∧ w'.cell? ⟨G, 3, none⟩ = some (.int .i64 (p3 : Int))) ∧ w'.cell? ⟨X, p0, none⟩ = some (.int .i64 (a : Int)) ∧ w'.cell? ⟨X, p1, none⟩ = some (.int .i64 (b : Int)) ∧ w'.cell? ⟨X, p2, none⟩ = some (.int .i64 (c1 : Int)) ∧ w'.cell? ⟨X, p3, none⟩ = some (.int .i64 (d : Int))) V4 ∧ True := ⟨⟨⟨keepC hST.1.1.1 hb4, keepC hST.1.1.2.1 hb4, keepC hST.1.1.2.2.1 hb4, keepC hST.1.1.2.2.2 hb4⟩, keepC hST.1.2.1 hb4, keepC hST.1.2.2.1 hb4, keepC hST.1.2.2.2.1 hb4, keepC hST.1.2.2.2.2 hb4⟩, trivial⟩
      clear hSt2 hSt3 hb2 hb3 hal hsl hb4
      refine hK9.out _ _ (Cond.ahead hST) ?_
      clear hK9 K
      try simp only [Act.put, List.setIfInBounds_toArray, List.set_cons_zero, List.set_cons_succ]
      refine Uptot.one (i := 26) rfl (by kernel_rfl) (fun K hK9 => ?_)
      go_simp
      refine hK9.out _ _ (Cond.ahead hST) ?_
      clear hK9 K
      try simp only [Act.put, List.setIfInBounds_toArray, List.set_cons_zero, List.set_cons_succ]
      refine Uptot.done (by kernel_rfl) ?_ _
      clear hST
      have hfar4 : ∀ b, b < w9.heap.size → b ≠ X → V4.heap[b]? = w9.heap[b]? := fun b h1 h2 => (hbr.block b (by omega)).trans (HFAR.out b h1 h2)
      have hgyw : wr.heap.size ≤ gy := by omega
      have hgyX : gy ≠ X := by omega
      have hGl4 : G < V4.heap.size := by omega
      have hgyl : gy < V4.heap.size := by
        rcases hy with h | ⟨b1, o1, e1, h1, _⟩
        · simp [ints] at h
        · cases e1
          exact h1
      have HY : Hid (∀ j, j < 4 → V4.cell? ⟨gy, j, none⟩ = some (.int .i64 ([t.a, t.b, t.c, t.d].getD j 0 : Nat))) := Lib.hid fun j hj => sl0 hy (by simpa using hj)
      have HP4 : Hid (∀ j, j < 4 → V4.cell? ⟨G, j, none⟩ = some (.int .i64 ([p0, p1, p2, p3].getD j 0 : Nat))) := Lib.hid fun j hj => by
        rw [← HPJ.out j hj]
        exact (farC hfar4 hGl hGX j).trans (HG2.out j hj)
      have HLT : Hid (∀ j, j < 4 → [p0, p1, p2, p3].getD j 0 < 16) := Lib.hid fun j hj => by
        rcases (by omega : j = 0 ∨ j = 1 ∨ j = 2 ∨ j = 3) with rfl | rfl | rfl | rfl
        · exact lp0
        · exact lp1
        · exact lp2
        · exact lp3
      have HBR := Lib.hid hfar4
      have hV4s : w9.heap.size ≤ V4.heap.size := by omega
      obtain ⟨pf, hpf⟩ : ∃ pf : Nat → Nat, (fun j => [p0, p1, p2, p3].getD j 0) = pf := ⟨_, rfl⟩
      obtain ⟨yf, hyf⟩ : ∃ yf : Nat → Nat, (fun j => [t.a, t.b, t.c, t.d].getD j 0) = yf := ⟨_, rfl⟩
      have HPF := Lib.hid hpf
      have HYF := Lib.hid hyf
      clear hy hgy hbr hbrs hals hgs3 hfar4 hpf hyf
      go_wp2
      go_loopw [18] (fun i wr2 => ∃ j : Nat, j ≤ 4 ∧ i = .int .i64 (j : Int) ∧ St16 wr2 X cap (putJ l2 pf yf j) ∧ (∀ b, b < V4.heap.size → b ≠ X → wr2.heap[b]? = V4.heap[b]?) ∧ V4.heap.size ≤ wr2.heap.size ∧ Below w.heap.size w wr2) (fun i _ => 4 - (intOf i).toNat)
      case atStart => exact ⟨0, by omega, rfl, hSt4, fun b _ _ => rfl, Nat.le_refl _, hb5⟩
      case round =>
        clear hSt4 hb5
        obtain ⟨j, hj, rfl, hStj, hfar2, hsz2, hb6⟩ := hrel
        by_cases hjl : j < 4
        · have hpj := (farC hfar2 hGl4 hGX j).trans (HP4.out j hjl)
          have hyj := (farC hfar2 hgyl hgyX j).trans (HY.out j hjl)
          have hpl := HLT.out j hjl
          obtain ⟨pj, epj⟩ : ∃ p, [p0, p1, p2, p3].getD j 0 = p := ⟨_, rfl⟩
          obtain ⟨yj, eyj⟩ : ∃ y, [t.a, t.b, t.c, t.d].getD j 0 = y := ⟨_, rfl⟩
          rw [epj] at hpj hpl
          rw [eyj] at hyj
          have HNX : Hid ((putJ l2 pf yf j).set pj yj = putJ l2 pf yf (j + 1)) := Lib.hid (by rw [putJ, ← HPF.out, ← HYF.out]; simp only [epj, eyj])
          have hplI : (pj : Int) < 16 := by omega
          have hjI : (j : Int) < 4 := by omega
          obtain ⟨lj, hlj⟩ : ∃ lj, putJ l2 pf yf j = lj := ⟨_, rfl⟩
          rw [hlj] at hStj HNX
          have HF2 := Lib.hid hfar2
          clear epj eyj hlj hfar2
          go_wp2_with fail
          refine Uptot.begin_ [] (fun w' : World => w'.cell? ⟨G, j, none⟩ = some (.int .i64 (pj : Int)) ∧ w'.cell? ⟨gy, j, none⟩ = some (.int .i64 (yj : Int))) (fun _ => True) (by kernel_rfl) ?_
          have hST : (fun w' : World => w'.cell? ⟨G, j, none⟩ = some (.int .i64 (pj : Int)) ∧ w'.cell? ⟨gy, j, none⟩ = some (.int .i64 (yj : Int))) wr.drew ∧ True := ⟨⟨hpj, hyj⟩, trivial⟩
          have hSt7 : St16 wr.drew X cap lj := hStj
          have hb7 := hb6.drew
          have hd7 : ∀ b : Nat, wr.drew.heap[b]? = wr.heap[b]? := fun b => rfl
          have hs7 : wr.heap.size ≤ wr.drew.heap.size := Nat.le_refl _
          clear hpj hyj hStj hb6
          generalize hV7 : wr.drew = V7 at *
          clear hV7
          have hcx := hSt7.cell hpl
          have hfx := hSt7.frozen pj
          refine Uptot.takeS (i := 0) (v := ?_) rfl (by kernel_rfl) (by kernel_rfl) (by kernel_rfl) (by kernel_rfl) (fun _ _ _ h => h) (Or.inl ⟨by rfl, ?_⟩) hST ?_
          rotate_left 1
          · intro w9 hSw; (try dsimp only at hSw); obtain ⟨h91, h92⟩ := hSw; go_simp; (try with_reducible rfl)
          try simp only [Act.put, List.setIfInBounds_toArray, List.set_cons_zero, List.set_cons_succ]
          refine Uptot.takeS (i := 1) (v := ?_) rfl (by kernel_rfl) (by kernel_rfl) (by kernel_rfl) (by kernel_rfl) (fun _ _ _ h => h) (Or.inl ⟨by rfl, ?_⟩) hST ?_
          rotate_left 1
          · intro w9 hSw; (try dsimp only at hSw); obtain ⟨h91, h92⟩ := hSw; go_simp; (try with_reducible rfl)
          try simp only [Act.put, List.setIfInBounds_toArray, List.set_cons_zero, List.set_cons_succ]
          refine Uptot.takeS (i := 2) (v := ?_) rfl (by kernel_rfl) (by kernel_rfl) (by kernel_rfl) (by kernel_rfl) (fun _ _ _ h => h) (Or.inl ⟨by rfl, ?_⟩) hST ?_
          rotate_left 1
          · intro w9 hSw; (try dsimp only at hSw); obtain ⟨h91, h92⟩ := hSw; go_simp; (try with_reducible rfl)
          try simp only [Act.put, List.setIfInBounds_toArray, List.set_cons_zero, List.set_cons_succ]
          refine Uptot.takeS (i := 3) (v := ?_) rfl (by kernel_rfl) (by kernel_rfl) (by kernel_rfl) (by kernel_rfl) (fun _ _ _ h => h) (Or.inl ⟨by rfl, ?_⟩) hST ?_
          rotate_left 1
          · intro w9 hSw; (try dsimp only at hSw); obtain ⟨h91, h92⟩ := hSw; go_simp; (try with_reducible rfl)
          try simp only [Act.put, List.setIfInBounds_toArray, List.set_cons_zero, List.set_cons_succ]
          refine Uptot.takeS (i := 4) (v := ?_) rfl (by kernel_rfl) (by kernel_rfl) (by kernel_rfl) (by kernel_rfl) (fun _ _ _ h => h) (Or.inl ⟨by rfl, ?_⟩) hST ?_
          rotate_left 1
          · intro w9 hSw; (try dsimp only at hSw); obtain ⟨h91, h92⟩ := hSw; go_simp; (try with_reducible rfl)
          try simp only [Act.put, List.setIfInBounds_toArray, List.set_cons_zero, List.set_cons_succ]
          refine Uptot.takeS (i := 5) (v := ?_) rfl (by kernel_rfl) (by kernel_rfl) (by kernel_rfl) (by kernel_rfl) (fun _ _ _ h => h) (Or.inl ⟨by rfl, ?_⟩) hST ?_
          rotate_left 1
          · intro w9 hSw; (try dsimp only at hSw); obtain ⟨h91, h92⟩ := hSw; go_simp; (try with_reducible rfl)
          try simp only [Act.put, List.setIfInBounds_toArray, List.set_cons_zero, List.set_cons_succ]
          refine Uptot.takeS (i := 6) (v := ?_) rfl (by kernel_rfl) (by kernel_rfl) (by kernel_rfl) (by kernel_rfl) (fun _ _ _ h => h) (Or.inl ⟨by rfl, ?_⟩) hST ?_
          rotate_left 1
          · intro w9 hSw; (try dsimp only at hSw); obtain ⟨h91, h92⟩ := hSw; go_simp; (try with_reducible rfl)
          try simp only [Act.put, List.setIfInBounds_toArray, List.set_cons_zero, List.set_cons_succ]
          refine Uptot.takeS (i := 7) (v := ?_) rfl (by kernel_rfl) (by kernel_rfl) (by kernel_rfl) (by kernel_rfl) (fun _ _ _ h => h) (Or.inl ⟨by rfl, ?_⟩) hST ?_
          rotate_left 1
          · intro w9 hSw; (try dsimp only at hSw); obtain ⟨h91, h92⟩ := hSw; go_simp; (try with_reducible rfl)
          try simp only [Act.put, List.setIfInBounds_toArray, List.set_cons_zero, List.set_cons_succ]
          refine Uptot.takeS (i := 8) (v := ?_) rfl (by kernel_rfl) (by kernel_rfl) (by kernel_rfl) (by kernel_rfl) (fun _ _ _ h => h) (Or.inl ⟨by rfl, ?_⟩) hST ?_
          rotate_left 1
          · intro w9 hSw; (try dsimp only at hSw); obtain ⟨h91, h92⟩ := hSw; go_simp; (try with_reducible rfl)
          try simp only [Act.put, List.setIfInBounds_toArray, List.set_cons_zero, List.set_cons_succ]
          refine Uptot.one (i := 9) rfl (by kernel_rfl) (fun K hK9 => ?_)
          go_simp
          refine hK9.out _ _ (Cond.ahead hST) ?_
          clear hK9 K
          try simp only [Act.put, List.setIfInBounds_toArray, List.set_cons_zero, List.set_cons_succ]
          refine Uptot.one (i := 10) rfl (by kernel_rfl) (fun K hK9 => ?_)
          go_simp
          replace hST : (fun w' : World => w'.cell? ⟨G, j, none⟩ = some (.int .i64 (pj : Int)) ∧ w'.cell? ⟨gy, j, none⟩ = some (.int .i64 (yj : Int))) (V7.setCell ⟨X, pj, none⟩ (.int .i64 (yj : Int))) ∧ True := ⟨⟨(World.cell?_setCell_other _ _ _ _ (by simp <;> omega)).trans hST.1.1, (World.cell?_setCell_other _ _ _ _ (by simp <;> omega)).trans hST.1.2⟩, trivial⟩
          have hSt8 := hSt7.set hpl yj
          have hb8 := hb7.setCell (p := ⟨X, pj, none⟩) hw0X (.int .i64 (yj : Int))
          clear hSt7 hb7 hcx hfx
          refine hK9.out _ _ (Cond.ahead hST) ?_
          clear hK9 K
          try simp only [Act.put, List.setIfInBounds_toArray, List.set_cons_zero, List.set_cons_succ]
          refine Uptot.done (by kernel_rfl) ?_ _
          clear hST
          rw [HNX.out] at hSt8
          have hfar3 : ∀ b, b < V4.heap.size → b ≠ X → (V7.setCell ⟨X, pj, none⟩ (.int .i64 (yj : Int))).heap[b]? = V4.heap[b]? := fun b h1 h2 => (Below.heap_setCell V7 ⟨X, pj, none⟩ _ b h2).trans ((hd7 b).trans (HF2.out b h1 h2))
          have hsz3 : V4.heap.size ≤ (V7.setCell ⟨X, pj, none⟩ (.int .i64 (yj : Int))).heap.size := by simp; omega
          generalize V7.setCell ⟨X, pj, none⟩ (.int .i64 (yj : Int)) = V9 at *
          clear hd7 hs7
          go_wp2
          go_roundw
          case rel => exact ⟨j + 1, by omega, by go_num, hSt8, hfar3, hsz3, hb8⟩
          case measure => simp [intOf] <;> omega
        · obtain rfl : j = 4 := by omega
          have hEND : putJ l2 pf yf 4 = flatN l0 (k + 1) := by
            rw [← HPF.out, ← HYF.out, putJ_four]
            exact HSTEP2.out
          rw [hEND] at hStj
          have hfar5 : ∀ b, b < w9.heap.size → b ≠ X → wr.heap[b]? = w9.heap[b]? := fun b h1 h2 => (hfar2 b (by omega) h2).trans (HBR.out b h1 h2)
          have hsz5 : w9.heap.size ≤ wr.heap.size := by omega
          clear hfar2 hsz2 hEND
          go_wp2
          go_roundw
          case rel => exact ⟨k + 1, by omega, by go_num, hStj, hfar5, hsz5, hb6⟩
          case measure => simp [intOf] <;> omega
    · obtain rfl : k = 80 := by omega
      rw [flat_end] at hSt
      obtain ⟨R10, hR10⟩ : ∃ R10, roundN l0 10 = R10 := ⟨_, rfl⟩
      have hokR : okL R10 := by rw [← hR10]; exact okL_roundN HOK.out 10
      have HFIN : Hid ((⟨(joinL false (sumI R10 l0 16)).toArray⟩ : ByteArray) = r) := Lib.hid (by rw [sumI_end, ← hR10]; exact HR.out)
      rw [hR10] at hSt
      have hst0 : St16 wr X cap (sumI R10 l0 0) := by rw [sumI_start R10 l0 hokR.1]; exact hSt
      have HFAR := Lib.hid hfar
      have HOKR := Lib.hid hokR
      generalize hwA : wr = WA at *
      clear hwA hSt hR10 hokR hfar
      go_wp2
      rw [show ((80 : Nat) : Int) = 80 from rfl]
      go_loopw [19] (fun i wr => ∃ k : Nat, k ≤ 16 ∧ i = .int .i64 (k : Int) ∧ St16 wr X cap (sumI R10 l0 k) ∧ (∀ b, b < WA.heap.size → b ≠ X → wr.heap[b]? = WA.heap[b]?) ∧ WA.heap.size ≤ wr.heap.size ∧ Below w.heap.size w wr) (fun i _ => 16 - (intOf i).toNat)
      case atStart => exact ⟨0, by omega, rfl, hst0, fun b _ _ => rfl, Nat.le_refl _, hb⟩
      case round =>
        clear hst0 hb
        obtain ⟨i, hi, rfl, hSt, hfar2, hsz2, hb⟩ := hrel
        by_cases hi16 : i < 16
        · have hFX : F ≠ X := Ne.symm hXF
          have hFA : F < WA.heap.size := by omega
          have hfi0 := (farC hfar2 hFA hFX i).trans ((farC HFAR.out hF9 hFX i).trans (HFC.out i _ (by rw [ints, List.getElem?_map, List.getElem?_eq_getElem (show i < l0.length by rw [HOK.out.1]; exact hi16)]; rfl)))
          have hxi0 := hSt.cell hi16
          rw [sumI_at R10 l0 i hi16] at hxi0
          obtain ⟨xi, exi⟩ : ∃ x, R10.getD i 0 = x := ⟨_, rfl⟩
          obtain ⟨fi, efi⟩ : ∃ x, l0[i]'(by rw [HOK.out.1]; exact hi16) = x := ⟨_, rfl⟩
          have efi2 : l0.getD i 0 = fi := by rw [List.getD, List.getElem?_eq_getElem (by rw [HOK.out.1]; exact hi16), ← efi]; rfl
          have hxi : wr.cell? ⟨X, i, none⟩ = some (.int .i64 (xi : Int)) := by rw [← exi]; exact hxi0
          have hfi : wr.cell? ⟨F, i, none⟩ = some (.int .i64 (fi : Int)) := by rw [← efi]; exact hfi0
          have lxi : xi < 4294967296 := by rw [← exi]; exact okL_at HOKR.out i
          have lfi : fi < 4294967296 := by rw [← efi2]; exact okL_at HOK.out i
          obtain ⟨z, hz⟩ : ∃ z, qS xi fi = z := ⟨_, rfl⟩
          have HNX : Hid ((sumI R10 l0 i).set i z = sumI R10 l0 (i + 1)) := Lib.hid (by rw [← sumI_set, exi, efi2, ← hz]; rfl)
          obtain ⟨l2, hl2⟩ : ∃ l2, sumI R10 l0 i = l2 := ⟨_, rfl⟩
          rw [hl2] at hSt HNX
          have hiI : (i : Int) < 16 := by omega
          have HF2 := Lib.hid hfar2
          clear hfi0 hxi0 exi efi efi2 hl2 hfar2
          go_wp2_with fail
          refine Uptot.begin_ [12] (fun w' : World => w'.cell? ⟨F, i, none⟩ = some (.int .i64 (fi : Int))) (fun w' : World => w'.cell? ⟨X, i, none⟩ = some (.int .i64 (xi : Int))) (by kernel_rfl) ?_
          have hST : (fun w' : World => w'.cell? ⟨F, i, none⟩ = some (.int .i64 (fi : Int))) wr.drew ∧ (fun w' : World => w'.cell? ⟨X, i, none⟩ = some (.int .i64 (xi : Int))) wr.drew := ⟨hfi, hxi⟩
          have hSt7 : St16 wr.drew X cap l2 := hSt
          have hb7 := hb.drew
          have hd7 : ∀ b : Nat, wr.drew.heap[b]? = wr.heap[b]? := fun b => rfl
          have hs7 : wr.heap.size ≤ wr.drew.heap.size := Nat.le_refl _
          clear hxi hfi hSt hb
          generalize hV7 : wr.drew = V7 at *
          clear hV7
          have hfx := hSt7.frozen i
          refine Uptot.takeS (i := 0) (v := ?_) rfl (by kernel_rfl) (by kernel_rfl) (by kernel_rfl) (by kernel_rfl) (fun _ _ _ h => h) (Or.inl ⟨by rfl, ?_⟩) hST ?_
          rotate_left 1
          · intro w9 hSw; (try dsimp only at hSw); have h91 := hSw; go_simp; (try with_reducible rfl)
          try simp only [Act.put, List.setIfInBounds_toArray, List.set_cons_zero, List.set_cons_succ]
          refine Uptot.takeS (i := 1) (v := ?_) rfl (by kernel_rfl) (by kernel_rfl) (by kernel_rfl) (by kernel_rfl) (fun _ _ _ h => h) (Or.inl ⟨by rfl, ?_⟩) hST ?_
          rotate_left 1
          · intro w9 hSw; (try dsimp only at hSw); have h91 := hSw; go_simp; (try with_reducible rfl)
          try simp only [Act.put, List.setIfInBounds_toArray, List.set_cons_zero, List.set_cons_succ]
          refine Uptot.takeS (i := 2) (v := ?_) rfl (by kernel_rfl) (by kernel_rfl) (by kernel_rfl) (by kernel_rfl) (fun _ _ _ h => h) (Or.inl ⟨by rfl, ?_⟩) hST ?_
          rotate_left 1
          · intro w9 hSw; (try dsimp only at hSw); have h91 := hSw; go_simp; (try with_reducible rfl)
          try simp only [Act.put, List.setIfInBounds_toArray, List.set_cons_zero, List.set_cons_succ]
          refine Uptot.takeS (i := 3) (v := ?_) rfl (by kernel_rfl) (by kernel_rfl) (by kernel_rfl) (by kernel_rfl) (fun _ _ _ h => h) (Or.inl ⟨by rfl, ?_⟩) hST ?_
          rotate_left 1
          · intro w9 hSw; (try dsimp only at hSw); have h91 := hSw; go_simp; (try with_reducible rfl)
          try simp only [Act.put, List.setIfInBounds_toArray, List.set_cons_zero, List.set_cons_succ]
          refine Uptot.takeS (i := 4) (v := ?_) rfl (by kernel_rfl) (by kernel_rfl) (by kernel_rfl) (by kernel_rfl) (fun _ _ _ h => h) (Or.inl ⟨by rfl, ?_⟩) hST ?_
          rotate_left 1
          · intro w9 hSw; (try dsimp only at hSw); have h91 := hSw; go_simp; (try with_reducible rfl)
          try simp only [Act.put, List.setIfInBounds_toArray, List.set_cons_zero, List.set_cons_succ]
          refine Uptot.take (i := 5) (v := ?_) rfl (by kernel_rfl) (by kernel_rfl) (by kernel_rfl) (by kernel_rfl) (fun _ _ _ h => h) (Or.inl ⟨by rfl, ?_⟩) hST ?_
          rotate_left 1
          · intro w9 hSw; (try dsimp only at hSw); obtain ⟨h91, h92⟩ := hSw; go_simp; (try with_reducible rfl)
          try simp only [Act.put, List.setIfInBounds_toArray, List.set_cons_zero, List.set_cons_succ]
          refine Uptot.takeS (i := 6) (v := ?_) rfl (by kernel_rfl) (by kernel_rfl) (by kernel_rfl) (by kernel_rfl) (fun _ _ _ h => h) (Or.inl ⟨by rfl, ?_⟩) hST ?_
          rotate_left 1
          · intro w9 hSw; (try dsimp only at hSw); have h91 := hSw; go_simp; (try with_reducible rfl)
          try simp only [Act.put, List.setIfInBounds_toArray, List.set_cons_zero, List.set_cons_succ]
          refine Uptot.takeS (i := 7) (v := ?_) rfl (by kernel_rfl) (by kernel_rfl) (by kernel_rfl) (by kernel_rfl) (fun _ _ _ h => h) (Or.inl ⟨by rfl, ?_⟩) hST ?_
          rotate_left 1
          · intro w9 hSw; (try dsimp only at hSw); have h91 := hSw; go_simp; (try with_reducible rfl)
          try simp only [Act.put, List.setIfInBounds_toArray, List.set_cons_zero, List.set_cons_succ]
          refine Uptot.takeS (i := 8) (v := ?_) rfl (by kernel_rfl) (by kernel_rfl) (by kernel_rfl) (by kernel_rfl) (fun _ _ _ h => h) (Or.inl ⟨by rfl, ?_⟩) hST ?_
          rotate_left 1
          · intro w9 hSw; (try dsimp only at hSw); have h91 := hSw; go_simp; (try with_reducible rfl)
          try simp only [Act.put, List.setIfInBounds_toArray, List.set_cons_zero, List.set_cons_succ]
          refine Uptot.takeS (i := 9) (v := ?_) rfl (by kernel_rfl) (by kernel_rfl) (by kernel_rfl) (by kernel_rfl) (fun _ _ _ h => h) (Or.inl ⟨by rfl, ?_⟩) hST ?_
          rotate_left 1
          · intro w9 hSw; (try dsimp only at hSw); have h91 := hSw; go_simp; (try with_reducible rfl)
          try simp only [Act.put, List.setIfInBounds_toArray, List.set_cons_zero, List.set_cons_succ]
          refine Uptot.one (i := 10) rfl (by kernel_rfl) (fun K hK9 => ?_)
          go_simp
          go_at_call 78
          refine (sum2_v xi fi z lxi lfi hz V7).mono ?_
          rintro e V8 ⟨rfl, rfl⟩
          refine hK9.out _ _ (Cond.ahead hST) ?_
          clear hK9 K
          try simp only [Act.put, List.setIfInBounds_toArray, List.set_cons_zero, List.set_cons_succ]
          have hcx := hST.2
          refine Uptot.one (i := 11) rfl (by kernel_rfl) (fun K hK9 => ?_)
          go_simp
          refine hK9.out _ _ (Cond.ahead hST) ?_
          clear hK9 K
          try simp only [Act.put, List.setIfInBounds_toArray, List.set_cons_zero, List.set_cons_succ]
          refine Uptot.one (i := 12) rfl (by kernel_rfl) (fun K hK9 => ?_)
          go_simp
          have hfi2 := (World.cell?_setCell_other V8 ⟨X, i, none⟩ ⟨F, i, none⟩ (.int .i64 (z : Int)) (by simp <;> omega)).trans hST.1
          have hSt8 := hSt7.set hi16 z
          have hb8 := hb7.setCell (p := ⟨X, i, none⟩) hw0X (.int .i64 (z : Int))
          refine hK9.out _ _ (Cond.behind hfi2 (by kernel_rfl)) ?_
          clear hK9 K
          try simp only [Act.put, List.setIfInBounds_toArray, List.set_cons_zero, List.set_cons_succ]
          refine Uptot.done (by kernel_rfl) ?_ _
          clear hST hcx hfx hfi2
          rw [HNX.out] at hSt8
          have hfar3 : ∀ b, b < WA.heap.size → b ≠ X → (V8.setCell ⟨X, i, none⟩ (.int .i64 (z : Int))).heap[b]? = WA.heap[b]? := fun b h1 h2 => (Below.heap_setCell V8 ⟨X, i, none⟩ _ b h2).trans ((hd7 b).trans (HF2.out b h1 h2))
          have hsz3 : WA.heap.size ≤ (V8.setCell ⟨X, i, none⟩ (.int .i64 (z : Int))).heap.size := by simp; omega
          generalize V8.setCell ⟨X, i, none⟩ (.int .i64 (z : Int)) = V9 at *
          clear hd7 hs7 hz
          go_wp2
          go_roundw
          case rel => exact ⟨i + 1, by omega, by go_num, hSt8, hfar3, hsz3, hb8⟩
          case measure => simp [intOf] <;> omega
        · obtain rfl : i = 16 := by omega
          have hj := rjoin_any (some ⟨X, 0, none⟩) cap (sumI R10 l0 16) false wr (by rw [sumI_length]; omega) hSt.sl (by rw [sumI_end]; exact (okL_sum R10 l0).2)
          rw [sumI_length, HFIN.out] at hj
          go_wp2_with fail
          refine hj.mono ?_
          rintro e w2 ⟨rfl, hb2⟩
          go_wp2
          go_ret2
          exact ⟨rfl, hb.next hb2⟩
end Go.Proofs.YtlkdofghhibmbaaDoor

/-
  keyholeref01.Many: the contract (a part of Refm).
-/
namespace Go.Proofs.YtlkdofghhibmbaaDoor
open Go.RowKit Go.Kx
set_option maxRecDepth 20000

def manyAt (c k j : Nat) : Nat := if j < k then c else 0
theorem manyAt_set (c k j : Nat) : (if j = k then c else manyAt c k j) = manyAt c (k + 1) j := by
  unfold manyAt
  by_cases h : j = k
  · subst h; simp
  · rw [if_neg h]
    by_cases h2 : j < k
    · rw [if_pos h2, if_pos (by omega)]
    · rw [if_neg h2, if_neg (by omega)]
set_option maxHeartbeats 1000000 in
theorem rmany_any (c : UInt8) (n : Nat) (hn : n ≤ 100000) (w : World) :
    Calls Tryd.prog 15 #[.int .u8 (c.toNat : Int), .int .i64 (n : Int)] w fun e w' => e = .returned (.string ⟨(List.replicate n c).toArray⟩) ∧ Below w.heap.size w w' := by
  have hmk := run_make_row' (P := Tryd.prog) 72 5 (.int .u8 0) 1 Tryd.underlying72 octet_info rfl .i64 .i64 n (by omega) (by omega)
  obtain ⟨y, hy⟩ : ∃ y : Nat, c.toNat = y := ⟨_, rfl⟩
  have HY := Lib.hid hy
  rw [hy]
  clear hy
  go_enter Tryd.func15, Tryd.ntmps15
  go_wp2
  go_loopw [6] (fun i wr => ∃ k : Nat, k ≤ n ∧ i = .int .i64 k ∧ wr.rowIs w.heap.size 5 n (fun j => .int .u8 (manyAt y k j : Nat)) ∧ Below w.heap.size w wr) (fun i _ => n - (intOf i).toNat)
  case atStart =>
    refine ⟨0, Nat.zero_le _, rfl, ?_, Below.alloc0 _ _⟩
    exact (World.rowIs_made w (.int .u8 0) n 5).congr (g := fun j => .int .u8 (manyAt y 0 j : Nat)) (fun j _ => by simp [manyAt])
  case round =>
    obtain ⟨k, hk, rfl, hrow, hb⟩ := hrel
    by_cases hlt : k < n
    · have hload := hrow.cell (i := k) hlt
      have hfz := hrow.frozen k
      generalize manyAt y k k = z at hload
      go_wp2
      go_roundw
      case rel =>
        refine ⟨k + 1, by omega, by go_num, (hrow.set k _).congr fun j _ => ?_, hb.setCell (p := ⟨w.heap.size, k, none⟩) (by simp) _⟩
        rw [← manyAt_set]
        split <;> rfl
      case measure => simp [intOf]; omega
    · obtain rfl : k = n := by omega
      have hconv : (convert 72 9 (.slice (some ⟨w.heap.size, 0, none⟩) k k)).run Tryd.prog wr = .ok (.string ⟨(List.replicate k c).toArray⟩) wr := by
        have hc := run_convert_bytes_back (P := Tryd.prog) wr 72 9 5 ⟨w.heap.size, 0, none⟩ k (List.replicate k c) Tryd.underlying72 Tryd.underlying5 Tryd.underlying9 (fun j hj => by
          have hj' : j < k := by simpa using hj
          have := hrow.cell (i := j) hj'
          rw [show (⟨w.heap.size, 0, none⟩ : Addr).add j = ⟨w.heap.size, j, none⟩ by unfold Addr.add; split <;> simp_all, this, manyAt, if_pos hj', ← HY.out]
          simp)
        rwa [List.length_replicate] at hc
      generalize hout : List.replicate k c = out at *
      have HO := Lib.hid hout
      clear hout
      go_wp2
      go_ret
      exact ⟨by rw [HO.out]; rfl, hb⟩
end Go.Proofs.YtlkdofghhibmbaaDoor

/-
  keyholeref12: tapes (mathematics); the contracts of Of, New, left, block.
-/
namespace Go.Proofs.YtlkdofghhibmbaaDoor
open Go.RowKit Go.Kx
set_option maxRecDepth 20000

/-! ### a tape in memory -/
def RefT (w : World) (T : Nat) (key : ByteArray) (made : Bool) (s : ByteArray) (N : Nat) : Prop := w.heap[T]? = some (.cells #[.string key, .bool made, .string s, .int .i64 (N : Int)] 35)
theorem RefT.keep {w w' : World} {T N : Nat} {key s : ByteArray} {made : Bool} (h : RefT w T key made s N) (hb : Below w.heap.size w w') : RefT w' T key made s N := (hb.block T (Array.getElem?_eq_some_iff.1 h).1).trans h
theorem RefT.lt {w : World} {T N : Nat} {key s : ByteArray} {made : Bool} (h : RefT w T key made s N) : T < w.heap.size := (Array.getElem?_eq_some_iff.1 h).1
theorem RefT.cells {w : World} {T N : Nat} {key s : ByteArray} {made : Bool} (h : RefT w T key made s N) : w.cell? ⟨T, 0, none⟩ = some (.string key) ∧ w.cell? ⟨T, 1, none⟩ = some (.bool made) ∧ w.cell? ⟨T, 2, none⟩ = some (.string s) ∧ w.cell? ⟨T, 3, none⟩ = some (.int .i64 (N : Int)) ∧ w.frozen? ⟨T, 3, none⟩ = false := by
  have c := fun j => cell_of_row w T j _ _ _ h
  exact ⟨(c 0).trans rfl, (c 1).trans rfl, (c 2).trans rfl, (c 3).trans rfl, by unfold World.frozen?; rw [h]; simp⟩
theorem RefT.set {w : World} {T N : Nat} {key s : ByteArray} {made : Bool} (h : RefT w T key made s N) (M : Nat) : RefT (w.setCell ⟨T, 3, none⟩ (.int .i64 (M : Int))) T key made s M := (heap_setCell_same w T 3 _ _ _ h).trans rfl
theorem of12_any (s : ByteArray) (w : World) :
    Calls Tryd.prog 7 #[.string s] w fun e w' => e = .returned (.pointer (some ⟨w.heap.size, 0, none⟩)) ∧ RefT w' w.heap.size ⟨#[]⟩ false s 0 ∧ Below w.heap.size w w' := by
  go_enter Tryd.func7, Tryd.ntmps7
  go_wp2
  go_ret
  exact ⟨rfl, heap_alloc_new w _, Below.alloc0 _ _⟩
/-- What keyholeref02.Sum tells (the premise of the contracts over it), as in tree's. -/
def RSumT : Prop := ∀ (s d : ByteArray), s.size ≤ 2000 → sumL s.data.toList = d.data.toList → ∀ w : World, Calls Tryd.prog 20 #[.string s] w fun e w' => e = .returned (.string d) ∧ Below w.heap.size w w'
theorem new12_any (HS : RSumT) (seed key : ByteArray) (hs : seed.size ≤ 2000) (hk : sumL seed.data.toList = key.data.toList) (w : World) :
    Calls Tryd.prog 9 #[.string seed] w fun e w' => ∃ T, e = .returned (.pointer (some ⟨T, 0, none⟩)) ∧ w.heap.size ≤ T ∧ RefT w' T key true ⟨#[]⟩ 0 ∧ Below w.heap.size w w' := by
  have h := HS seed key hs hk w
  clear hk
  go_enter Tryd.func9, Tryd.ntmps9
  go_wp2_with fail
  refine h.mono ?_
  rintro e w1 ⟨rfl, hb⟩
  go_wp2
  go_ret
  exact ⟨_, rfl, hb.size, heap_alloc_new w1 _, hb.al _⟩
theorem left12_any (T : Nat) (key : ByteArray) (made : Bool) (s : ByteArray) (N : Nat) (hs : s.size ≤ 9223372036854775807) (hN : N ≤ (tapeL key made s).length) (r : Nat) (hr : (tapeL key made s).length - N = r) (w : World) (hT : RefT w T key made s N) :
    Calls Tryd.prog 45 #[.pointer (some ⟨T, 0, none⟩)] w fun e w' => e = .returned (.int .i64 (r : Int)) ∧ ∃ q, w' = w.drewN q := by
  obtain ⟨h0, h1, h2, h3, -⟩ := hT.cells
  cases made with
  | true =>
    have e : (65536 : Int) - (N : Int) = (r : Int) := by
      rw [tapeL, if_pos rfl, madeL_length] at hN hr
      omega
    have hN2 : N ≤ 65536 := by rw [tapeL, if_pos rfl, madeL_length] at hN; exact hN
    clear hN hr hT
    go_enter Tryd.func45, Tryd.ntmps45
    go_wp2
    go_ret
    exact ⟨rfl, 0, rfl⟩
  | false =>
    rw [tapeL, if_neg (by simp)] at hN hr
    have hl : s.data.toList.length = s.size := by simp
    have e : (s.size : Int) - (N : Int) = (r : Int) := by omega
    have hN2 : N ≤ s.size := by omega
    clear hN hr hT hl
    go_enter Tryd.func45, Tryd.ntmps45
    go_wp2
    go_quiet (fail)
    go_wp2
    go_ret
    exact ⟨rfl, _, rfl⟩
theorem block12_any (T : Nat) (key s : ByteArray) (N : Nat) (hk : key.size = 32) (i : Nat) (hi : i < 65536) (b : ByteArray) (hb : (⟨(blkL key (i / 64)).toArray⟩ : ByteArray) = b) (w : World) (hT : RefT w T key true s N) :
    Calls Tryd.prog 46 #[.pointer (some ⟨T, 0, none⟩), .int .i64 (i : Int)] w fun e w' => e = .returned (.string b) ∧ Below w.heap.size w w' := by
  obtain ⟨h0, -⟩ := hT.cells
  have hl0 : ∀ d' os, (Go.Sort.grow (redrawn w d') os).cell? ⟨T, 0, none⟩ = some (.string key) := cell_regrown h0
  obtain ⟨z, hz⟩ : ∃ z : ByteArray, (⟨(List.replicate 12 0).toArray⟩ : ByteArray) = z := ⟨_, rfl⟩
  have hz12 : z.size = 12 := by rw [← hz]; rfl
  obtain ⟨q, hq⟩ : ∃ q, i / 64 = q := ⟨_, rfl⟩
  have hqI : (i : Int) / 64 = (q : Int) := by omega
  have hqd : (i : Int).tdiv 64 = (q : Int) := by rw [Int.tdiv_eq_ediv_of_nonneg (by omega)]; exact hqI
  have hwq : IntKind.i64.wrap (q : Int) = (q : Int) := IntWalk.i64_in _ (by omega)
  have hM := rmany_any 0 12 (by omega)
  rw [hz] at hM
  have hB := rblock_yes key z q hk hz12 (by omega) b (by rw [← hb, hq, blkL, zeroB, hz])
  have c1 : ∀ d' os, Calls Tryd.prog 15 #[.int .u8 0, .int .i64 12] (Go.Sort.grow (redrawn w d') os) fun e w'' => e = .returned (.string z) ∧ ∃ p : Regrown, w'' = Go.Sort.grow (redrawn w p.d) p.os := fun d' os => Calls.regrown_of (hM _)
  have c2 : ∀ d' os, Calls Tryd.prog 69 #[.string key, .string z, .int .i64 (q : Int)] (Go.Sort.grow (redrawn w d') os) fun e w'' => e = .returned (.tuple #[.string b, .int .i64 0]) ∧ ∃ p : Regrown, w'' = Go.Sort.grow (redrawn w p.d) p.os := fun d' os => Calls.regrown_of (hB _)
  clear hT h0 hM hB hz hb hq
  go_enter Tryd.func46, Tryd.ntmps46
  go_wp2_with fail
  refine wp_region_quiet_below (by kernel_rfl) (by kernel_rfl) ?_
  repeat (quiet_step (first | with_reducible exact c1 _ _ | with_reducible exact c2 _ _))
  refine wpQuiet_nil ?_
  intro _ hw'
  obtain ⟨⟨dq, osq⟩, hw''⟩ := hw'
  subst hw''
  have hq2 := below_regrown w dq osq
  clear hl0 c1 c2
  generalize Go.Sort.grow (redrawn w dq) osq = w2 at *
  go_wp2
  go_ret
  exact ⟨rfl, hq2⟩
end Go.Proofs.YtlkdofghhibmbaaDoor

/-
  keyholeref12: the contract of Take.
-/
namespace Go.Proofs.YtlkdofghhibmbaaDoor
open Go.RowKit Go.Kx
set_option maxRecDepth 20000

/-- What a call of Take answers. -/
def TakeP (T : Nat) (key : ByteArray) (made : Bool) (s : ByteArray) (x : List UInt8 × Int × Nat) (w : World) (e : Ending) (w' : World) : Prop :=
  ∃ b : ByteArray, (⟨x.1.toArray⟩ : ByteArray) = b ∧ e = .returned (.tuple #[.string b, .int .i64 x.2.1]) ∧ RefT w' T key made s x.2.2 ∧ w.grownBy w' (some T)
theorem RefT.drewN {w : World} {T N : Nat} {key s : ByteArray} {made : Bool} (h : RefT w T key made s N) (q : Nat) : RefT (w.drewN q) T key made s N := h
set_option maxHeartbeats 2000000 in
theorem take12_early (T : Nat) (key : ByteArray) (made : Bool) (s : ByteArray) (N : Nat) (hs : s.size ≤ 9223372036854775807) (hN : N ≤ (tapeL key made s).length) (n : Int) (h : n < 0 ∨ ((tapeL key made s).length : Int) - N < n) (w : World) (hT : RefT w T key made s N) :
    Calls Tryd.prog 21 #[.pointer (some ⟨T, 0, none⟩), .int .i64 n] w fun e w' => TakeP T key made s (takeR (tapeL key made s) N n) w e w' := by
  by_cases h0 : n < 0
  · rw [takeR_neg h0]
    go_enter Tryd.func21, Tryd.ntmps21
    go_wp2
    go_ret2
    exact ⟨⟨#[]⟩, rfl, rfl, hT, grown_of (Below.refl _ _)⟩
  · have h2 : ((tapeL key made s).length : Int) - N < n := h.resolve_left h0
    rw [takeR_out h0 h2]
    obtain ⟨r, hr⟩ : ∃ r, (tapeL key made s).length - N = r := ⟨_, rfl⟩
    have hleft := left12_any T key made s N hs hN r hr w hT
    have hrn : (r : Int) < n := by omega
    clear h h2 hr hN
    go_enter Tryd.func21, Tryd.ntmps21
    go_wp2_with fail
    refine hleft.mono ?_
    rintro e w1 ⟨rfl, q, rfl⟩
    go_wp2
    go_ret2
    exact ⟨⟨#[]⟩, rfl, rfl, hT.drewN q, grown_drewN2 _ _ _⟩
set_option maxHeartbeats 2000000 in
theorem take12_of (T : Nat) (key s : ByteArray) (N n : Nat) (hs : s.size ≤ 9223372036854775807) (hn : N + n ≤ s.size) (w : World) (hT : RefT w T key false s N) :
    Calls Tryd.prog 21 #[.pointer (some ⟨T, 0, none⟩), .int .i64 (n : Int)] w fun e w' => TakeP T key false s (takeR (tapeL key false s) N (n : Int)) w e w' := by
  have hl : (tapeL key false s).length = s.size := by rw [tapeL, if_neg (by simp)]; simp
  rw [takeR_yes (by omega) (by omega)]
  obtain ⟨r, hr⟩ : ∃ r, (tapeL key false s).length - N = r := ⟨_, rfl⟩
  have hleft := left12_any T key false s N hs (by omega) r hr w hT
  have hrn : ¬ (r : Int) < (n : Int) := by omega
  have h0 : ¬ (n : Int) < 0 := by omega
  obtain ⟨M, hM⟩ : ∃ M, N + n = M := ⟨_, rfl⟩
  have hMI : (N : Int) + (n : Int) = (M : Int) := by omega
  have hMw : IntKind.i64.wrap (M : Int) = (M : Int) := IntWalk.i64_in _ (by omega)
  obtain ⟨b, hb⟩ : ∃ b : ByteArray, s.extract N M = b := ⟨_, rfl⟩
  have hsl : ∀ V : World, (Instr.slice 9 (.string s) (some (.int .i64 (N : Int))) (some (.int .i64 (M : Int))) none).run Tryd.prog V = .ok (.string b) V := fun V => by
    rw [← hb]
    exact str_mid Tryd.underlying9 s N M (by omega) (by omega) V
  have HB : Hid ((⟨(((tapeL key false s).drop N).take n).toArray⟩ : ByteArray) = b) := Lib.hid (by
    rw [← hb]
    refine ByteArray.ext (Array.toList_inj.1 ?_)
    rw [str_ext, tapeL, if_neg (by simp), show M - N = n by omega])
  clear hr hb hl hn
  unfold TakeP
  rw [hM, HB.out]
  clear hM
  go_enter Tryd.func21, Tryd.ntmps21
  go_wp2_with fail
  refine hleft.mono ?_
  rintro e w1 ⟨rfl, q, rfl⟩
  have hT2 := hT.drewN q
  have hg := grown_drewN2 w q (some T)
  generalize w.drewN q = w2 at *
  obtain ⟨c0, c1, c2, c3, cf⟩ := hT2.cells
  go_wp2
  go_quiet (fail)
  go_wp2
  go_ret2
  exact ⟨b, rfl, rfl, (hT2.drewN _).set M, grown_trans (grown_trans hg (grown_drewN2 w2 _ _)) (grown_set _ T 3 _)⟩
/-! ### a made tape -/
theorem empty_no {b : ByteArray} (h : 0 < b.size) : b.toList.isEmpty = false := by
  rw [Lib.toList_data, List.isEmpty_eq_false_iff]
  intro e
  have h2 : b.data.toList.length = b.size := by simp
  rw [e] at h2
  simp at h2
  omega
set_option maxHeartbeats 4000000 in
theorem take12_made (T : Nat) (key : ByteArray) (hk : key.size = 32) (N n : Nat) (hn : N + n ≤ 65536) (w : World) (hT : RefT w T key true ⟨#[]⟩ N) :
    Calls Tryd.prog 21 #[.pointer (some ⟨T, 0, none⟩), .int .i64 (n : Int)] w fun e w' => TakeP T key true ⟨#[]⟩ (takeR (tapeL key true ⟨#[]⟩) N (n : Int)) w e w' := by
  have hl : (tapeL key true ⟨#[]⟩).length = 65536 := by rw [tapeL, if_pos rfl, madeL_length]
  rw [takeR_yes (by omega) (by omega)]
  obtain ⟨r, hr⟩ : ∃ r, (tapeL key true ⟨#[]⟩).length - N = r := ⟨_, rfl⟩
  have hleft := left12_any T key true ⟨#[]⟩ N (by show 0 ≤ _; omega) (by omega) r hr w hT
  have hrn : ¬ (r : Int) < (n : Int) := by omega
  have hrn2 : ¬ r < n := by omega
  have h0 : ¬ (n : Int) < 0 := by omega
  obtain ⟨M, hM⟩ : ∃ M, N + n = M := ⟨_, rfl⟩
  have hMI : (N : Int) + (n : Int) = (M : Int) := by omega
  have hMw : IntKind.i64.wrap (M : Int) = (M : Int) := IntWalk.i64_in _ (by omega)
  obtain ⟨D, hD⟩ : ∃ D, (tapeL key true ⟨#[]⟩).drop N = D := ⟨_, rfl⟩
  have HD : Hid (∀ k, N + k < 65536 → D[k]? = some (madeAt key (N + k))) := Lib.hid fun k hk => by
    rw [← hD, List.getElem?_drop, tapeL, if_pos rfl, madeL_get key hk]
  have HDL : Hid (D.length = 65536 - N) := Lib.hid (by rw [← hD, List.length_drop, hl])
  obtain ⟨out, hout⟩ : ∃ out : ByteArray, (⟨(D.take n).toArray⟩ : ByteArray) = out := ⟨_, rfl⟩
  have HOUT := Lib.hid hout
  obtain ⟨i0, hI0, hz0, hz1, hz2⟩ := info_parts octet_info
  rw [hD]
  unfold TakeP
  rw [hout, hM]
  clear hD hr hl hout
  have HM := Lib.hid hM
  clear hM
  go_enter Tryd.func21, Tryd.ntmps21
  go_wp2_with fail
  refine hleft.mono ?_
  rintro e w1 ⟨rfl, q, rfl⟩
  have hT2 := hT.drewN q
  have hg2 := grown_drewN2 w q (some T)
  clear hleft hT
  generalize w.drewN q = w at *
  obtain ⟨c0, c1, c2, c3, cf⟩ := hT2.cells
  go_wp2
  go_loopw [7, 8, 9] (fun v nw i wr => ∃ (k : Nat) (b : ByteArray), i = .int .i64 ((N + k : Nat) : Int) ∧ k ≤ n ∧ nw = .string b ∧ Hid (k = 0 → b = ⟨#[]⟩) ∧ Hid (0 < k → (⟨(blkL key ((N + k - 1) / 64)).toArray⟩ : ByteArray) = b) ∧ wr.ownsRow w.heap.size 5 1 v k (byts (D.take k)) ∧ Below w.heap.size w wr) (fun _ _ i _ => N + n - (intOf i).toNat)
  case atStart => exact ⟨0, ⟨#[]⟩, rfl, by omega, rfl, Lib.hid (fun _ => rfl), Lib.hid (fun h => by omega), World.ownsRow_nil _ _ _ _, Below.refl _ _⟩
  case round =>
    obtain ⟨k, b, rfl, hkn, rfl, HB0, HB1, hown, hb⟩ := hrel
    have hTr := hT2.keep hb
    obtain ⟨d0, d1, d2, d3, df⟩ := hTr.cells
    obtain ⟨x, hx⟩ : ∃ x, N + k = x := ⟨_, rfl⟩
    rw [hx]
    by_cases hlt : k < n
    · have hxM : (x : Int) < (M : Int) := by have := HM.out; omega
      have hx64 : x < 65536 := by omega
      obtain ⟨bb, hbb⟩ : ∃ bb : ByteArray, (⟨(blkL key (x / 64)).toArray⟩ : ByteArray) = bb := ⟨_, rfl⟩
      have HBB := Lib.hid hbb
      have hbz : bb.size = 64 := by rw [← hbb, size_mk, blkL_length]
      obtain ⟨xm, hxm⟩ : ∃ xm, x % 64 = xm := ⟨_, rfl⟩
      have hxml : xm < 64 := by omega
      have hem : (x : Int) % 64 = (xm : Int) := by omega
      have htm : (x : Int).tmod 64 = (xm : Int) := by rw [Int.tmod_eq_emod_of_nonneg (by omega)]; exact hem
      have hbz2 : (bb.size : Int) = 64 := by omega
      have hxmI : (xm : Int) < (bb.size : Int) := by omega
      obtain ⟨y, hy⟩ : ∃ y, madeAt key x = y := ⟨_, rfl⟩
      have hidx : xm < bb.size := by omega
      have HYB : Hid (bb[xm]'hidx = y) := Lib.hid (by
        have h1 : bb.data.toList = blkL key (x / 64) := by rw [← hbb]
        have h2 : bb[xm]'hidx = (blkL key (x / 64)).getD xm 0 := by
          rw [← h1, List.getD, List.getElem?_eq_getElem (by simp; omega)]
          rfl
        rw [h2, ← hy, madeAt, hxm])
      have HSN : Hid (byts (D.take k) ++ [Value.int .u8 (y.toNat : Int)] = byts (D.take (k + 1))) := Lib.hid (by
        rw [byts_snoc, take_snocB (x := y) (by rw [HD.out k (by omega), hx, hy])])
      have HBN : Hid (0 < k + 1 → (⟨(blkL key ((N + (k + 1) - 1) / 64)).toArray⟩ : ByteArray) = bb) := Lib.hid fun _ => by rw [← hbb, show N + (k + 1) - 1 = x by omega]
      have hxl9 : x < 70000 := by omega
      clear hbb hy
      by_cases hk0 : k = 0
      · have he : b.toList.isEmpty = true := by rw [HB0.out hk0, Lib.toList_data]; rfl
        have HK0 := Lib.hid hk0
        clear hxm hk0
        have hblk := block12_any T key ⟨#[]⟩ N hk x hx64 bb HBB.out wr hTr
        go_wp2_with fail
        refine hblk.mono ?_
        rintro e wx ⟨rfl, hbx⟩
        have hown2 := own_keep hown hbx
        have hb2 := hb.next hbx
        clear hown hbx hb hblk hTr d0 d1 d2 d3
        go_wp2_with (first
          | (at_builtin; refine wpList_append_own _ rfl _ _ 72 rfl w.heap.size 5 i0 (.int .u8 0) 1 1 Tryd.underlying72 hI0 hz0 hz1 hz2 rfl (by decide) _ _ _ rfl (hown2.alloc _) ⟨wx.heap.size, 0, none⟩ 1 1 [.int .u8 ((bb[xm]'hidx).toNat : Int)] rfl rfl ?c1 ?c2 ?c3 ?c4 ?c5 ?_)
          | go_in)
        case c1 =>
          intro j u hj
          match j, hj with
          | 0, hj => simp at hj; subst hj; simp [Addr.add]
        case c2 => intro u hu; simp at hu; subst hu; rfl
        case c3 => unfold maxLen; omega
        case c4 => omega
        case c5 => have := hb2.size; simp; omega
        intro v' w4 hown' hgrow _
        rw [HYB.out, HSN.out] at hown'
        have hb4 := own_below (hown2.alloc (.cells #[.int .u8 ((bb[xm]'hidx).toNat : Int)] 5)) (hb2.al _) hgrow
        clear hown2 hgrow hb2
        go_wp2
        go_roundw
        case rel => exact ⟨k + 1, bb, by go_num, by omega, rfl, Lib.hid (fun h => by omega), HBN, hown', hb4⟩
        case measure => simp [intOf] <;> omega
      · have hbs : b.size = 64 := by rw [← HB1.out (by omega), size_mk, blkL_length]
        have he : b.toList.isEmpty = false := empty_no (by omega)
        by_cases hx0 : xm = 0
        · have hz : ((xm : Int) == 0) = true := by rw [beq_iff_eq]; omega
          have HX0 := Lib.hid hx0
          clear hxm hx0
          have hblk := block12_any T key ⟨#[]⟩ N hk x hx64 bb HBB.out wr hTr
          go_wp2_with fail
          refine hblk.mono ?_
          rintro e wx ⟨rfl, hbx⟩
          have hown2 := own_keep hown hbx
          have hb2 := hb.next hbx
          clear hown hbx hb hblk hTr d0 d1 d2 d3
          go_wp2_with (first
            | (at_builtin; refine wpList_append_own _ rfl _ _ 72 rfl w.heap.size 5 i0 (.int .u8 0) 1 1 Tryd.underlying72 hI0 hz0 hz1 hz2 rfl (by decide) _ _ _ rfl (hown2.alloc _) ⟨wx.heap.size, 0, none⟩ 1 1 [.int .u8 ((bb[xm]'hidx).toNat : Int)] rfl rfl ?c1 ?c2 ?c3 ?c4 ?c5 ?_)
            | go_in)
          case c1 =>
            intro j u hj
            match j, hj with
            | 0, hj => simp at hj; subst hj; simp [Addr.add]
          case c2 => intro u hu; simp at hu; subst hu; rfl
          case c3 => unfold maxLen; omega
          case c4 => omega
          case c5 => have := hb2.size; simp; omega
          intro v' w4 hown' hgrow _
          rw [HYB.out, HSN.out] at hown'
          have hb4 := own_below (hown2.alloc (.cells #[.int .u8 ((bb[xm]'hidx).toNat : Int)] 5)) (hb2.al _) hgrow
          clear hown2 hgrow hb2
          go_wp2
          go_roundw
          case rel => exact ⟨k + 1, bb, by go_num, by omega, rfl, Lib.hid (fun h => by omega), HBN, hown', hb4⟩
          case measure => simp [intOf] <;> omega
        · have hz : ((xm : Int) == 0) = false := by rw [beq_eq_false_iff_ne]; omega
          have HX0 := Lib.hid hx0
          have hdiv : (N + k - 1) / 64 = x / 64 := by omega
          clear hx0
          have hown2 := hown
          have hb2 := hb
          obtain rfl : bb = b := by rw [← HB1.out (by omega), ← HBB.out, hdiv]
          clear hown hb
          go_wp2_with (first
            | (at_builtin; refine wpList_append_own _ rfl _ _ 72 rfl w.heap.size 5 i0 (.int .u8 0) 1 1 Tryd.underlying72 hI0 hz0 hz1 hz2 rfl (by decide) _ _ _ rfl (hown2.alloc _) ⟨wr.heap.size, 0, none⟩ 1 1 [.int .u8 ((bb[xm]'hidx).toNat : Int)] rfl rfl ?c1 ?c2 ?c3 ?c4 ?c5 ?_)
            | go_in)
          case c1 =>
            intro j u hj
            match j, hj with
            | 0, hj => simp at hj; subst hj; simp [Addr.add]
          case c2 => intro u hu; simp at hu; subst hu; rfl
          case c3 => unfold maxLen; omega
          case c4 => omega
          case c5 => have := hb2.size; simp; omega
          intro v' w4 hown' hgrow _
          rw [HYB.out, HSN.out] at hown'
          have hb4 := own_below (hown2.alloc (.cells #[.int .u8 ((bb[xm]'hidx).toNat : Int)] 5)) (hb2.al _) hgrow
          clear hown2 hgrow hb2
          go_wp2
          go_roundw
          case rel => exact ⟨k + 1, bb, by go_num, by omega, rfl, Lib.hid (fun h => by omega), HBN, hown', hb4⟩
          case measure => simp [intOf] <;> omega
    · obtain rfl : k = n := by omega
      have hxM : ¬ (x : Int) < (M : Int) := by have := HM.out; omega
      have hTs := hTr.set M
      have hlen : (D.take k).length = k := by rw [List.length_take, HDL.out]; omega
      have hown3 : wr.ownsRow w.heap.size 5 1 u7 (D.take k).length (byts (D.take k)) := by rw [hlen]; exact hown
      have hown4 : (wr.setCell ⟨T, 3, none⟩ (.int .i64 (M : Int))).ownsRow w.heap.size 5 1 u7 (D.take k).length (byts (D.take k)) := by
        refine hown3.kept (grown_set wr T 3 _) ?_
        cases ho : u7.ownBlock with
        | none => exact .inl rfl
        | some b9 =>
          right
          intro e
          cases e
          have := (hown3.lt _ ho).1
          have := hT2.lt
          omega
      obtain ⟨A, cc, rfl, hconv⟩ := own_strs hown4
      rw [hlen, HOUT.out] at hconv
      have hb9 := grown_trans (grown_trans hg2 (grown_of hb)) (grown_set wr T 3 (.int .i64 (M : Int)))
      rw [hlen]
      clear hown hown3 hown4
      go_wp2
      go_ret2
      exact ⟨rfl, hTs, hb9⟩
/-- Take of any tape. -/
theorem take12_any (T : Nat) (key : ByteArray) (made : Bool) (s : ByteArray) (N : Nat) (hm : made = true → key.size = 32 ∧ s = ⟨#[]⟩) (hs : s.size ≤ 9223372036854775807) (hN : N ≤ (tapeL key made s).length) (n : Int) (w : World) (hT : RefT w T key made s N) :
    Calls Tryd.prog 21 #[.pointer (some ⟨T, 0, none⟩), .int .i64 n] w fun e w' => TakeP T key made s (takeR (tapeL key made s) N n) w e w' := by
  by_cases h : n < 0 ∨ ((tapeL key made s).length : Int) - N < n
  · exact take12_early T key made s N hs hN n h w hT
  · obtain ⟨m, rfl⟩ := Int.eq_ofNat_of_zero_le (Int.not_lt.1 fun h2 => h (.inl h2))
    have h2 : ¬ ((tapeL key made s).length : Int) - N < (m : Int) := fun h2 => h (.inr h2)
    cases made with
    | true =>
      obtain ⟨hk, rfl⟩ := hm rfl
      rw [tapeL, if_pos rfl, madeL_length] at h2
      exact take12_made T key hk N m (by omega) w hT
    | false =>
      rw [tapeL, if_neg (by simp)] at h2
      have hl : s.data.toList.length = s.size := by simp
      exact take12_of T key s N m hs (by omega) w hT
end Go.Proofs.YtlkdofghhibmbaaDoor

/-
  keyholeref12: the contracts of Number, Fork.
-/
namespace Go.Proofs.YtlkdofghhibmbaaDoor
open Go.RowKit Go.Kx
set_option maxRecDepth 20000

/-- What a call of Number answers. -/
def NumP (T : Nat) (key : ByteArray) (made : Bool) (s : ByteArray) (x : Int × Int × Nat) (w : World) (e : Ending) (w' : World) : Prop :=
  e = .returned (.tuple #[.int .i64 x.1, .int .i64 x.2.1]) ∧ RefT w' T key made s x.2.2 ∧ w.grownBy w' (some T)
set_option maxHeartbeats 2000000 in
theorem number12_any (T : Nat) (key : ByteArray) (made : Bool) (s : ByteArray) (N : Nat) (hm : made = true → key.size = 32 ∧ s = ⟨#[]⟩) (hs : s.size ≤ 9223372036854775807) (hN : N ≤ (tapeL key made s).length) (below : Int) (w : World) (hT : RefT w T key made s N) :
    Calls Tryd.prog 23 #[.pointer (some ⟨T, 0, none⟩), .int .i64 below] w fun e w' => NumP T key made s (numR (tapeL key made s) N below) w e w' := by
  by_cases h1 : below < 1
  · rw [numR, if_pos (.inl h1)]
    go_enter Tryd.func23, Tryd.ntmps23
    go_wp2
    go_ret2
    exact ⟨rfl, hT, grown_of (Below.refl _ _)⟩
  by_cases h2 : 16777216 < below
  · rw [numR, if_pos (.inr h2)]
    go_enter Tryd.func23, Tryd.ntmps23
    go_wp2
    go_ret2
    exact ⟨rfl, hT, grown_of (Below.refl _ _)⟩
  rw [numR, if_neg (by omega)]
  have htk := take12_any T key made s N hm hs hN 3 w hT
  by_cases h3 : ((tapeL key made s).length : Int) - N < 3
  · rw [takeR_out (by omega) h3] at htk
    rw [if_pos h3]
    clear h3 hN hm
    go_enter Tryd.func23, Tryd.ntmps23
    go_wp2_with fail
    refine htk.mono ?_
    rintro e w1 ⟨b, rfl, rfl, hT1, hg⟩
    go_wp2
    go_ret2
    exact ⟨rfl, hT1, hg⟩
  · rw [show (3 : Int) = ((3 : Nat) : Int) from rfl, takeR_yes (by omega) hN] at htk
    rw [if_neg h3]
    obtain ⟨D, hD⟩ : ∃ D, ((tapeL key made s).drop N).take 3 = D := ⟨_, rfl⟩
    have hDl : D.length = 3 := by rw [← hD, List.length_take, List.length_drop]; omega
    rw [hD] at htk ⊢
    obtain ⟨x0, x1, x2, rfl⟩ : ∃ a b c, D = [a, b, c] := by
      match D, hDl with
      | [a, b, c], _ => exact ⟨a, b, c, rfl⟩
    obtain ⟨r, hr⟩ : ∃ r, numI [x0, x1, x2] below = r := ⟨_, rfl⟩
    rw [hr]
    have l0 := UInt8.toNat_lt x0
    have l1 := UInt8.toNat_lt x1
    have l2 := UInt8.toNat_lt x2
    obtain ⟨n0, hn0⟩ : ∃ n, x0.toNat = n := ⟨_, rfl⟩
    obtain ⟨n1, hn1⟩ : ∃ n, x1.toNat = n := ⟨_, rfl⟩
    obtain ⟨n2, hn2⟩ : ∃ n, x2.toNat = n := ⟨_, rfl⟩
    have hb : (⟨#[x0, x1, x2]⟩ : ByteArray).size = 3 := rfl
    have hr1 : (65536 * (n0 : Int) + 256 * (n1 : Int) + (n2 : Int)) % below = r := by rw [← hr, numI, ← hn0, ← hn1, ← hn2]; rfl
    have hr2 : (65536 * (n0 : Int) + 256 * (n1 : Int) + (n2 : Int)).tmod below = r := by rw [Int.tmod_eq_emod_of_nonneg (by omega)]; exact hr1
    rw [hn0] at l0
    rw [hn1] at l1
    rw [hn2] at l2
    clear hD hDl h3 hN hm hr
    go_enter Tryd.func23, Tryd.ntmps23
    go_wp2_with fail
    refine htk.mono ?_
    rintro e w1 ⟨b, hbe, rfl, hT1, hg⟩
    have hbz : b.size = 3 := by rw [← hbe]; rfl
    have e0 : (b[0]'(by omega)).toNat = n0 := by subst hbe; exact hn0
    have e1 : (b[1]'(by omega)).toNat = n1 := by subst hbe; exact hn1
    have e2 : (b[2]'(by omega)).toNat = n2 := by subst hbe; exact hn2
    clear htk hb hbe
    go_wp2
    go_quiet (fail)
    go_wp2
    go_ret2
    exact ⟨rfl, hT1.drewN _, grown_trans hg (grown_drewN2 _ _ _)⟩
/-- What a call of Fork answers: with fewer than 32 bytes left, nil and the error; else the tape of the Sum of 32 bytes and the name. -/
def ForkP (T : Nat) (key : ByteArray) (made : Bool) (s name : ByteArray) (N : Nat) (w : World) (e : Ending) (w' : World) : Prop :=
  if ((tapeL key made s).length : Int) - N < 32 then e = .returned (.tuple #[.pointer none, .int .i64 120]) ∧ RefT w' T key made s N ∧ w.grownBy w' (some T)
  else ∃ (T2 : Nat) (key2 : ByteArray), e = .returned (.tuple #[.pointer (some ⟨T2, 0, none⟩), .int .i64 0]) ∧ sumL (((tapeL key made s).drop N).take 32 ++ name.data.toList) = key2.data.toList ∧ key2.size = 32 ∧ w.heap.size ≤ T2 ∧ RefT w' T2 key2 true ⟨#[]⟩ 0 ∧ RefT w' T key made s (N + 32) ∧ w.grownBy w' (some T)
set_option maxHeartbeats 2000000 in
theorem fork12_any (HS : RSumT) (T : Nat) (key : ByteArray) (made : Bool) (s : ByteArray) (N : Nat) (hm : made = true → key.size = 32 ∧ s = ⟨#[]⟩) (hs : s.size ≤ 9223372036854775807) (hN : N ≤ (tapeL key made s).length) (name : ByteArray) (hname : name.size ≤ 1000) (w : World) (hT : RefT w T key made s N) :
    Calls Tryd.prog 25 #[.pointer (some ⟨T, 0, none⟩), .string name] w fun e w' => ForkP T key made s name N w e w' := by
  have htk := take12_any T key made s N hm hs hN 32 w hT
  by_cases h3 : ((tapeL key made s).length : Int) - N < 32
  · rw [takeR_out (by omega) h3] at htk
    obtain ⟨P, hP⟩ : ∃ P, (fun e w' => ForkP T key made s name N w e w') = P := ⟨_, rfl⟩
    have hPe : ∀ e w', e = .returned (.tuple #[.pointer none, .int .i64 120]) → RefT w' T key made s N → w.grownBy w' (some T) → P e w' := by
      intro e w' a b c; rw [← hP]; show ForkP _ _ _ _ _ _ _ _ _; rw [ForkP, if_pos h3]; exact ⟨a, b, c⟩
    suffices hS : Calls Tryd.prog 25 #[.pointer (some ⟨T, 0, none⟩), .string name] w fun e w' => P e w' ∧ True from hS.mono fun e w' h => by have k := h.1; rw [← hP] at k; exact k
    clear h3 hN hm hP
    go_enter Tryd.func25, Tryd.ntmps25
    go_wp2_with fail
    refine htk.mono ?_
    rintro e w1 ⟨b, rfl, rfl, hT1, hg⟩
    go_wp2
    go_ret2
    exact ⟨hPe _ _ rfl hT1 hg, trivial⟩
  · rw [show (32 : Int) = ((32 : Nat) : Int) from rfl, takeR_yes (by omega) hN] at htk
    obtain ⟨D, hD⟩ : ∃ D, ((tapeL key made s).drop N).take 32 = D := ⟨_, rfl⟩
    have hDl : D.length = 32 := by rw [← hD, List.length_take, List.length_drop]; omega
    obtain ⟨P, hP⟩ : ∃ P, (fun e w' => ForkP T key made s name N w e w') = P := ⟨_, rfl⟩
    have hPe : ∀ (e : Ending) (w' : World) (T2 : Nat) (key2 : ByteArray), e = .returned (.tuple #[.pointer (some ⟨T2, 0, none⟩), .int .i64 0]) → sumL (D ++ name.data.toList) = key2.data.toList → w.heap.size ≤ T2 → RefT w' T2 key2 true ⟨#[]⟩ 0 → RefT w' T key made s (N + 32) → w.grownBy w' (some T) → P e w' := by
      intro e w' T2 key2 a b c d f g; rw [← hP]; show ForkP _ _ _ _ _ _ _ _ _; rw [ForkP, if_neg h3, hD]
      exact ⟨T2, key2, a, b, by have := congrArg List.length b; rw [show (sumL (D ++ name.data.toList)).length = 32 by rw [sumL, joinL_length]; rfl] at this; exact this.symm, c, d, f, g⟩
    rw [hD] at htk
    suffices hS : Calls Tryd.prog 25 #[.pointer (some ⟨T, 0, none⟩), .string name] w fun e w' => P e w' ∧ True from hS.mono fun e w' h => by have k := h.1; rw [← hP] at k; exact k
    clear h3 hN hm hP hD
    go_enter Tryd.func25, Tryd.ntmps25
    go_wp2_with fail
    refine htk.mono ?_
    rintro e w1 ⟨b, hb, rfl, hT1, hg⟩
    have hbz : b.size = 32 := by rw [← hb, size_mk]; exact hDl
    have hcat : (b ++ name).data.toList = D ++ name.data.toList := by rw [← hb]; simp
    have hcz : (b ++ name).size ≤ 2000 := by rw [ByteArray.size_append]; omega
    obtain ⟨key2, hk2⟩ : ∃ key2 : ByteArray, sumL (b ++ name).data.toList = key2.data.toList := ⟨⟨(sumL (b ++ name).data.toList).toArray⟩, by simp⟩
    have hnew := new12_any HS (b ++ name) key2 hcz hk2
    rw [hcat] at hk2
    go_wp2_with fail
    refine (hnew _).mono ?_
    rintro e w2 ⟨T2, rfl, h2, hT2, hb2⟩
    go_wp2
    go_ret2
    exact ⟨hPe _ _ T2 key2 rfl hk2 (Nat.le_trans hg.size h2) hT2 (hT1.keep hb2) (grown_trans hg (grown_of hb2)), trivial⟩
end Go.Proofs.YtlkdofghhibmbaaDoor

/-
  keyholelaw12: both tapes; the contract of do.
-/
namespace Go.Proofs.YtlkdofghhibmbaaDoor
open Go.RowKit Go.Kx
set_option maxRecDepth 20000

/-- The program's tape and the reference's, of the same bytes, as far taken. -/
structure Two (w : World) (B T X : Nat) (k : TK) (key : ByteArray) (made : Bool) (s : ByteArray) (N : Nat) : Prop where
  tp : Tp w T k N
  rt : RefT w X key made s N
  same : k.bytes = tapeL key made s
  ok : TKok k
  hm : made = true → key.size = 32 ∧ s = ⟨#[]⟩
  hs : s.size ≤ 300
  lo : B ≤ T
  lo2 : B ≤ X
  glob : ∀ p ∈ k.globs, p.1 < B
theorem Two.ne {w : World} {B T X N : Nat} {k : TK} {key s : ByteArray} {made : Bool} (h : Two w B T X k key made s N) : T ≠ X := by
  intro e
  have h1 := h.tp.1
  have h2 : w.heap[X]? = some (.cells #[.string key, .bool made, .string s, .int .i64 (N : Int)] 35) := h.rt
  rw [← e, h1] at h2
  simp at h2
theorem Two.takeT {w w' : World} {B T X N M : Nat} {k : TK} {key s : ByteArray} {made : Bool} (h : Two w B T X k key made s N) (hg : w.grownBy w' (some T)) (hT : Tp w' T k M) : Tp w' T k M ∧ RefT w' X key made s N :=
  ⟨hT, (hg.block X h.rt.lt (by intro e; exact h.ne (Option.some.inj e).symm)).trans h.rt⟩
theorem Two.takeX {w w' w2 : World} {B T X N M : Nat} {k : TK} {key s : ByteArray} {made : Bool} (h : Two w B T X k key made s N) (hT : Tp w' T k M) (hX : RefT w' X key made s N) (hg : w'.grownBy w2 (some X)) (hX2 : RefT w2 X key made s M) : Two w2 B T X k key made s M :=
  ⟨hT.grown (X := X) hX (by simp) (by intro e; exact h.ne e.symm) (fun p hp => by have := h.glob p hp; have := h.lo2; omega) hg, hX2, h.same, h.ok, h.hm, h.hs, h.lo, h.lo2, h.glob⟩
/-- What do answers: three of a tuple, of two tapes that go on alike. -/
def DoP (B : Nat) (w0 : World) (e : Ending) (w' : World) : Prop :=
  ∃ (T X : Nat) (k : TK) (key : ByteArray) (made : Bool) (s : ByteArray) (N : Nat), e = .returned (.tuple #[.pointer (some ⟨T, 0, none⟩), .pointer (some ⟨X, 0, none⟩), .bool true]) ∧ Two w' B T X k key made s N ∧ Below B w0 w'
set_option maxHeartbeats 4000000 in
theorem do_any (HS : RSumT) (B : Nat) (w0 : World) (hB0 : w0.heap.size ≤ B) (HC : ∀ V, Below B w0 V → Consts V ∧ Places V) (T X N : Nat) (k : TK) (key s : ByteArray) (made : Bool) (kd nm : Int) (na : ByteArray) (hna : na.size ≤ 100) (w : World) (hb0 : Below B w0 w) (hBw : B ≤ w.heap.size) (h2 : Two w B T X k key made s N) :
    Calls Tryd.prog 10 #[.pointer (some ⟨T, 0, none⟩), .pointer (some ⟨X, 0, none⟩), .agg #[.int .i64 kd, .int .i64 nm, .string na]] w fun e w' => DoP B w0 e w' ∧ True := by
  have hN := h2.rt
  have hal : Below w.heap.size w (w.alloc (.cells #[.int .i64 kd, .int .i64 nm, .string na] 31)) := Below.alloc0 w _
  have hba := hb0.trans (hal.mono hBw)
  obtain ⟨wa, hwa⟩ : ∃ wa, w.alloc (.cells #[.int .i64 kd, .int .i64 nm, .string na] 31) = wa := ⟨_, rfl⟩
  have hlo := h2.lo
  have hlo2 := h2.lo2
  have hc : ∀ j u, #[Value.int .i64 kd, .int .i64 nm, .string na][j]? = some u → wa.cell? ⟨w.heap.size, j, none⟩ = some u := by
    intro j u hu
    have h := heap_alloc_new w (.cells #[Value.int .i64 kd, .int .i64 nm, .string na] 31)
    rw [hwa] at h
    exact (cell_of_row wa w.heap.size j _ _ _ h).trans hu
  have hsza : w.heap.size < wa.heap.size := by rw [← hwa]; simp
  have hta : Tp wa T k N := by rw [← hwa]; exact h2.tp.keep hal
  have hra : RefT wa X key made s N := by rw [← hwa]; exact h2.rt.keep hal
  have hTs := h2.tp.lt
  have hXs := h2.rt.lt
  rw [hwa] at hba
  have HWA := Lib.hid hwa
  have hle : N ≤ (tapeL key made s).length := by rw [← h2.same]; exact h2.tp.2.2.1
  have hs9 : s.size ≤ 9223372036854775807 := by have := h2.hs; omega
  have H2 : Two wa B T X k key made s N := ⟨hta, hra, h2.same, h2.ok, h2.hm, h2.hs, h2.lo, h2.lo2, h2.glob⟩
  have a0 := hc 0 _ rfl
  have a1 := hc 1 _ rfl
  have a2 := hc 2 _ rfl
  have hbT : w.heap.size ≠ T := by omega
  have hbX : w.heap.size ≠ X := by omega
  have hBa : B ≤ wa.heap.size := by omega
  have KEEP : Hid (∀ V, wa.grownBy V (some T) → ∀ j, V.cell? ⟨w.heap.size, j, none⟩ = wa.cell? ⟨w.heap.size, j, none⟩) := Lib.hid fun V hg j => World.cell?_of_block (a := ⟨w.heap.size, j, none⟩) (hg.block w.heap.size hsza (by intro e; exact hbT (Option.some.inj e)))
  clear hN hal hwa hc
  by_cases hk1 : kd = 1
  · subst hk1
    have htk := ttake_any T N k h2.ok nm wa hta
    have hrk : ∀ V, RefT V X key made s N → Calls Tryd.prog 21 #[.pointer (some ⟨X, 0, none⟩), .int .i64 nm] V fun e w' => TakeP X key made s (takeR (tapeL key made s) N nm) V e w' := fun V hV => take12_any X key made s N h2.hm hs9 hle nm V hV
    rw [← h2.same] at hrk
    obtain ⟨q, hq⟩ : ∃ q, takeR k.bytes N nm = q := ⟨_, rfl⟩
    rw [hq] at htk hrk
    go_enter Tryd.func10, Tryd.ntmps10
    go_wp2_with fail
    rw [HWA.out]
    refine htk.mono ?_
    rintro e w1 ⟨b, hbe, rfl, hT1, hg1⟩
    have hX1 := (H2.takeT hg1 hT1).2
    have g1 := (KEEP.out w1 hg1 1).trans a1
    have hb1 := below_grown hba hg1 hlo hBa
    have hB1 := Nat.le_trans hBa hg1.size
    go_wp2_with fail
    refine (hrk w1 hX1).mono ?_
    rintro e w2 ⟨b', hbe', rfl, hX2, hg2⟩
    obtain rfl : b = b' := by rw [← hbe, ← hbe']
    have hb2 := below_grown hb1 hg2 hlo2 hB1
    have H3 := H2.takeX hT1 hX1 hg2 hX2
    go_wp2
    go_ret3
    exact ⟨⟨T, X, k, key, made, s, _, rfl, H3, hb2⟩, trivial⟩
  by_cases hk2 : kd = 2
  · subst hk2
    have htk := tnumber_any T N k h2.ok nm wa hta
    have hrk : ∀ V, RefT V X key made s N → Calls Tryd.prog 23 #[.pointer (some ⟨X, 0, none⟩), .int .i64 nm] V fun e w' => NumP X key made s (numR (tapeL key made s) N nm) V e w' := fun V hV => number12_any X key made s N h2.hm hs9 hle nm V hV
    rw [← h2.same] at hrk
    obtain ⟨q, hq⟩ : ∃ q, numR k.bytes N nm = q := ⟨_, rfl⟩
    rw [hq] at htk hrk
    go_enter Tryd.func10, Tryd.ntmps10
    go_wp2_with fail
    rw [HWA.out]
    refine htk.mono ?_
    rintro e w1 ⟨rfl, hT1, hg1⟩
    have hX1 := (H2.takeT hg1 hT1).2
    have g1 := (KEEP.out w1 hg1 1).trans a1
    have hb1 := below_grown hba hg1 hlo hBa
    have hB1 := Nat.le_trans hBa hg1.size
    go_wp2_with fail
    refine (hrk w1 hX1).mono ?_
    rintro e w2 ⟨rfl, hX2, hg2⟩
    have hb2 := below_grown hb1 hg2 hlo2 hB1
    have H3 := H2.takeX hT1 hX1 hg2 hX2
    go_wp2
    go_ret3
    exact ⟨⟨T, X, k, key, made, s, _, rfl, H3, hb2⟩, trivial⟩
  by_cases hk3 : kd = 3
  · subst hk3
    have htk := tfork_any T N k h2.ok na (by omega) wa hta (fun V hV => HC V (below_grown hba hV hlo hBa))
    have hrk : ∀ V, RefT V X key made s N → Calls Tryd.prog 25 #[.pointer (some ⟨X, 0, none⟩), .string na] V fun e w' => ForkP X key made s na N V e w' := fun V hV => fork12_any HS X key made s N h2.hm hs9 hle na (by omega) V hV
    have hTf : ∀ e V, TForkP T k na N wa e V → _ := fun e V h => by unfold TForkP at h; exact h
    have hXf : ∀ V e V', ForkP X key made s na N V e V' → _ := fun V e V' h => by unfold ForkP at h; rw [← h2.same] at h; exact h
    by_cases hlen : (k.bytes.length : Int) - N < 32
    · simp only [if_pos hlen] at hTf hXf
      go_enter Tryd.func10, Tryd.ntmps10
      go_wp2_with fail
      rw [HWA.out]
      refine htk.mono ?_
      intro e w1 he
      obtain ⟨rfl, hT1, hg1⟩ := hTf e w1 he
      have hX1 := (H2.takeT hg1 hT1).2
      have g1 := (KEEP.out w1 hg1 2).trans a2
      have hb1 := below_grown hba hg1 hlo hBa
      have hB1 := Nat.le_trans hBa hg1.size
      clear he
      go_wp2_with fail
      refine (hrk w1 hX1).mono ?_
      intro e w2 he
      obtain ⟨rfl, hX2, hg2⟩ := hXf w1 e w2 he
      have hb2 := below_grown hb1 hg2 hlo2 hB1
      have H3 := H2.takeX hT1 hX1 hg2 hX2
      clear he
      go_wp2
      go_ret3
      exact ⟨⟨T, X, k, key, made, s, _, rfl, H3, hb2⟩, trivial⟩
    · simp only [if_neg hlen] at hTf hXf
      go_enter Tryd.func10, Tryd.ntmps10
      go_wp2_with fail
      rw [HWA.out]
      refine htk.mono ?_
      intro e w1 he
      obtain ⟨T2, K, Z, key2, rfl, hk2, hkz, hlT2, hN1, hT1, hg1⟩ := hTf e w1 he
      have hX1 := (H2.takeT hg1 hT1).2
      have g1 := (KEEP.out w1 hg1 2).trans a2
      have hb1 := below_grown hba hg1 hlo hBa
      have hB1 := Nat.le_trans hBa hg1.size
      clear he
      go_wp2_with fail
      refine (hrk w1 hX1).mono ?_
      intro e w2 he
      obtain ⟨X2, key3, rfl, hk3, hkz3, hlX2, hM2, hX2, hg2⟩ := hXf w1 e w2 he
      obtain rfl : key2 = key3 := ByteArray.ext (Array.toList_inj.1 (hk2.symm.trans hk3))
      have hb2 := below_grown hb1 hg2 hlo2 hB1
      have hgl : ∀ p ∈ (madeK K Z key2).globs, p.1 < B := by
        intro p hp
        obtain rfl : p = (0, placeV) := by simpa [madeK] using hp
        exact Nat.lt_of_lt_of_le (range_lt (HC w0 (Below.refl _ _)).2 (by decide)) hB0
      have H3 : Two w2 B T2 X2 (madeK K Z key2) key2 true ⟨#[]⟩ 0 :=
        ⟨hN1.grown (X := X) hX1 (by simp) (by omega) (fun p hp => by have := hgl p hp; omega) hg2, hM2, madeK_bytes K Z key2, madeK_ok K Z key2 hkz, fun _ => ⟨hkz, rfl⟩, by show 0 ≤ 300; omega, by omega, by omega, hgl⟩
      clear he
      go_wp2
      go_ret3
      exact ⟨⟨T2, X2, _, key2, true, _, _, rfl, H3, hb2⟩, trivial⟩
  · have e1 : (kd == 1) = false := by simpa using hk1
    have e2 : (kd == 2) = false := by simpa using hk2
    have e3 : (kd == 3) = false := by simpa using hk3
    go_enter Tryd.func10, Tryd.ntmps10
    go_wp2
    rw [HWA.out]
    go_ret3
    exact ⟨⟨T, X, k, key, made, s, N, rfl, H2, hba⟩, trivial⟩
end Go.Proofs.YtlkdofghhibmbaaDoor

/-
  keyholelaw12.TapeRuns: the walk.
-/
namespace Go.Proofs.YtlkdofghhibmbaaDoor
open Go.RowKit Go.Kx
set_option maxRecDepth 20000

/-- What the law's loop keeps: two tapes that stand alike. -/
def RunP (B : Nat) (w : World) (t m : Value) (wr : World) : Prop :=
  ∃ (T X : Nat) (k : TK) (key : ByteArray) (made : Bool) (s : ByteArray) (N : Nat), t = .pointer (some ⟨T, 0, none⟩) ∧ m = .pointer (some ⟨X, 0, none⟩) ∧ Two wr B T X k key made s N ∧ Below B w wr
set_option maxHeartbeats 4000000 in
theorem runs_yes (HS : RSumT) (seed : ByteArray) (mk : Bool) (l : List TapeOp) (A : Option Addr) (c : Nat) (hl : l.length ≤ 9223372036854775807) (hz : ∀ i, i < l.length → (l.getD i default).name.size ≤ 9223372036854775807) (w : World) (hs : Ops w A l) (hC : Consts w) (hP : Places w) :
    Calls Tryd.prog 3 #[.string seed, .bool mk, .slice A l.length c] w fun e w' => e = .returned (.bool true) ∧ Below w.heap.size w w' := by
  by_cases h1 : 300 < seed.size
  · have h1I : (300 : Int) < (seed.size : Int) := by omega
    go_enter Tryd.func3, Tryd.ntmps3
    go_wp2
    go_ret
    exact ⟨rfl, Below.refl _ _⟩
  have h1I : ¬ (300 : Int) < (seed.size : Int) := by omega
  have hfar := far_any l A c hl hz w hs
  have HC : Hid (∀ V, Below w.heap.size w V → Consts V ∧ Places V) := Lib.hid fun V hV => ⟨hC.keep hV, hP.keep hV⟩
  obtain ⟨n, hn⟩ : ∃ n, l.length = n := ⟨_, rfl⟩
  have HN := Lib.hid hn
  rw [hn] at hfar hl ⊢
  obtain ⟨key, hk⟩ : ∃ key : ByteArray, sumL seed.data.toList = key.data.toList := ⟨⟨(sumL seed.data.toList).toArray⟩, by simp⟩
  have hkz : key.size = 32 := by
    have := congrArg List.length hk
    rw [show (sumL seed.data.toList).length = 32 by rw [sumL, joinL_length]; rfl] at this
    simpa using this.symm
  have HK := Lib.hid hk
  have hgP := range_lt hP (by decide)
  clear hn hk hz
  go_enter Tryd.func3, Tryd.ntmps3
  go_wp2_with fail
  refine hfar.mono ?_
  rintro e w1 ⟨b, rfl, hbf, hb1⟩
  cases b with
  | true =>
    go_wp2
    go_ret
    exact ⟨rfl, hb1⟩
  | false =>
  have HSM := Lib.hid (hbf rfl)
  clear hbf hfar
  go_wp2_with fail
  refine (of_any seed w1).mono ?_
  rintro e w2 ⟨rfl, hT2, hb2⟩
  have hs1 := hb1.size
  have hlo : w.heap.size ≤ w1.heap.size + 1 := by omega
  obtain ⟨T, hTe⟩ : ∃ T, w1.heap.size + 1 = T := ⟨_, rfl⟩
  have hb3 := hb1.next hb2
  rw [hTe] at hT2 hlo ⊢
  go_wp2_with fail
  refine (of12_any seed w2).mono ?_
  rintro e w3 ⟨rfl, hX3, hb4⟩
  have hT3 := hT2.keep hb4
  have hlo2 : w.heap.size ≤ w2.heap.size := hb3.size
  have hb5 := hb3.next hb4
  have hbody : RunP w.heap.size w (.pointer (some ⟨T, 0, none⟩)) (.pointer (some ⟨w2.heap.size, 0, none⟩)) w3 :=
    ⟨T, w2.heap.size, _, ⟨#[]⟩, false, seed, 0, rfl, rfl, ⟨hT3, hX3, by rw [tapeL, if_neg (by simp)]; rfl, ofK_ok _ _ (by omega), fun h => (by cases h), by omega, hlo, hlo2, fun p hp => by simp [ofK] at hp⟩, hb5⟩
  clear hT2 hT3 hX3 hb2 hb3 hb4 hTe
  cases mk with
  | true =>
    go_wp2_with fail
    refine (tnew_any seed key (by omega) HK.out w3 (HC.out w3 hb5).1 (HC.out w3 hb5).2).mono ?_
    rintro e w4 ⟨T2, K, Z, rfl, hlT2, hT4, hb6⟩
    have hs3 := hb5.size
    have hb7 := hb5.next hb6
    go_wp2_with fail
    refine (new12_any HS seed key (by omega) HK.out w4).mono ?_
    rintro e w5 ⟨X2, rfl, hlX2, hX5, hb8⟩
    have hT5 := hT4.keep hb8
    have hs4 := hb7.size
    have hb9 := hb7.next hb8
    have hbody2 : RunP w.heap.size w (.pointer (some ⟨T2, 0, none⟩)) (.pointer (some ⟨X2, 0, none⟩)) w5 :=
      ⟨T2, X2, _, key, true, ⟨#[]⟩, 0, rfl, rfl, ⟨hT5, hX5, madeK_bytes K Z key, madeK_ok K Z key hkz, fun _ => ⟨hkz, rfl⟩, by show 0 ≤ 300; omega, by omega, by omega, fun p hp => by
        obtain rfl : p = (0, placeV) := by simpa [madeK] using hp
        exact hgP⟩, hb9⟩
    clear hbody hT4 hT5 hX5 hb6 hb7 hb8 hb9
    go_wp2
    go_loopw [7, 8, 9] (fun t m i wr => ∃ j : Nat, i = .int .i64 (j : Int) ∧ j ≤ n ∧ RunP w.heap.size w t m wr) (fun _ _ i _ => n - (intOf i).toNat)
    case atStart => exact ⟨0, rfl, by omega, hbody2⟩
    case round =>
      obtain ⟨j, rfl, hj, T, X, k, key2, made, s, N, rfl, rfl, h2, hb⟩ := hrel
      by_cases hlt : j < n
      · have hltI : (j : Int) < (n : Int) := by omega
        obtain ⟨bb, off, rfl, hcell⟩ := hs.at_ (i := j) (by rw [HN.out]; exact hlt)
        obtain ⟨k0, k1, k2⟩ := hcell wr hb
        have hna := HSM.out.2 j (by rw [HN.out]; exact hlt)
        generalize l.getD j default = o at *
        obtain ⟨kd, nm, na⟩ := o
        have hdo := do_any HS w.heap.size w (Nat.le_refl _) HC.out T X N k key2 s made kd nm na hna wr hb hb.size h2
        go_wp2_with fail
        refine hdo.mono ?_
        rintro e w9 ⟨⟨T9, X9, k9, key9, made9, s9, N9, rfl, h9, hb9⟩, -⟩
        clear hdo hcell k0 k1 k2 hb
        go_wp2
        go_roundw
        case rel => exact ⟨j + 1, by go_num, by omega, T9, X9, k9, key9, made9, s9, N9, rfl, rfl, h9, hb9⟩
        case measure => simp [intOf]; omega
      · obtain rfl : j = n := by omega
        have hltI : ¬ (j : Int) < (j : Int) := by omega
        have hX3 := h2.rt.cells.2.2.2.1
        have c1 : ∀ d' os, Calls Tryd.prog 11 #[] (Go.Sort.grow (redrawn wr d') os) fun e w'' => e = .returned (.bool true) ∧ ∃ p : Regrown, w'' = Go.Sort.grow (redrawn wr p.d) p.os := fun d' os => Calls.regrown_of (tapes_any _)
        have c2 : ∀ d' os, Calls Tryd.prog 12 #[.pointer (some ⟨T, 0, none⟩)] (Go.Sort.grow (redrawn wr d') os) fun e w'' => e = .returned (.int .i64 (N : Int)) ∧ ∃ p : Regrown, w'' = Go.Sort.grow (redrawn wr p.d) p.os :=
          fun d' os => (taken_any T N k _ (h2.tp.keep (below_regrown wr d' os))).mono fun _ _ ⟨h1, h2⟩ => ⟨h1, ⟨⟨d', os⟩, h2⟩⟩
        have hl0 : ∀ d' os, (Go.Sort.grow (redrawn wr d') os).cell? ⟨X, 3, none⟩ = some (.int .i64 (N : Int)) := cell_regrown hX3
        clear h2 hX3
        go_wp2_with fail
        refine wp_region_quiet_below (by kernel_rfl) (by kernel_rfl) ?_
        repeat (quiet_step (first | with_reducible exact c1 _ _ | with_reducible exact c2 _ _))
        refine wpQuiet_nil ?_
        intro _ hw'
        obtain ⟨⟨dq, osq⟩, hw''⟩ := hw'
        subst hw''
        have hq2 := hb.next (below_regrown wr dq osq)
        clear hl0 c1 c2
        generalize Go.Sort.grow (redrawn wr dq) osq = w9 at *
        go_wp2
        go_ret
        exact ⟨rfl, hq2⟩
  | false =>
    go_wp2
    go_loopw [7, 8, 9] (fun t m i wr => ∃ j : Nat, i = .int .i64 (j : Int) ∧ j ≤ n ∧ RunP w.heap.size w t m wr) (fun _ _ i _ => n - (intOf i).toNat)
    case atStart => exact ⟨0, rfl, by omega, hbody⟩
    case round =>
      obtain ⟨j, rfl, hj, T, X, k, key2, made, s, N, rfl, rfl, h2, hb⟩ := hrel
      by_cases hlt : j < n
      · have hltI : (j : Int) < (n : Int) := by omega
        obtain ⟨bb, off, rfl, hcell⟩ := hs.at_ (i := j) (by rw [HN.out]; exact hlt)
        obtain ⟨k0, k1, k2⟩ := hcell wr hb
        have hna := HSM.out.2 j (by rw [HN.out]; exact hlt)
        generalize l.getD j default = o at *
        obtain ⟨kd, nm, na⟩ := o
        have hdo := do_any HS w.heap.size w (Nat.le_refl _) HC.out T X N k key2 s made kd nm na hna wr hb hb.size h2
        go_wp2_with fail
        refine hdo.mono ?_
        rintro e w9 ⟨⟨T9, X9, k9, key9, made9, s9, N9, rfl, h9, hb9⟩, -⟩
        clear hdo hcell k0 k1 k2 hb
        go_wp2
        go_roundw
        case rel => exact ⟨j + 1, by go_num, by omega, T9, X9, k9, key9, made9, s9, N9, rfl, rfl, h9, hb9⟩
        case measure => simp [intOf]; omega
      · obtain rfl : j = n := by omega
        have hltI : ¬ (j : Int) < (j : Int) := by omega
        have hX3 := h2.rt.cells.2.2.2.1
        have c1 : ∀ d' os, Calls Tryd.prog 11 #[] (Go.Sort.grow (redrawn wr d') os) fun e w'' => e = .returned (.bool true) ∧ ∃ p : Regrown, w'' = Go.Sort.grow (redrawn wr p.d) p.os := fun d' os => Calls.regrown_of (tapes_any _)
        have c2 : ∀ d' os, Calls Tryd.prog 12 #[.pointer (some ⟨T, 0, none⟩)] (Go.Sort.grow (redrawn wr d') os) fun e w'' => e = .returned (.int .i64 (N : Int)) ∧ ∃ p : Regrown, w'' = Go.Sort.grow (redrawn wr p.d) p.os :=
          fun d' os => (taken_any T N k _ (h2.tp.keep (below_regrown wr d' os))).mono fun _ _ ⟨h1, h2⟩ => ⟨h1, ⟨⟨d', os⟩, h2⟩⟩
        have hl0 : ∀ d' os, (Go.Sort.grow (redrawn wr d') os).cell? ⟨X, 3, none⟩ = some (.int .i64 (N : Int)) := cell_regrown hX3
        clear h2 hX3
        go_wp2_with fail
        refine wp_region_quiet_below (by kernel_rfl) (by kernel_rfl) ?_
        repeat (quiet_step (first | with_reducible exact c1 _ _ | with_reducible exact c2 _ _))
        refine wpQuiet_nil ?_
        intro _ hw'
        obtain ⟨⟨dq, osq⟩, hw''⟩ := hw'
        subst hw''
        have hq2 := hb.next (below_regrown wr dq osq)
        clear hl0 c1 c2
        generalize Go.Sort.grow (redrawn wr dq) osq = w9 at *
        go_wp2
        go_ret
        exact ⟨rfl, hq2⟩
theorem runs_yes' (HS : RSumT) (seed : ByteArray) (mk : Bool) (l : List TapeOp) (A : Option Addr) (c : Nat) (hl : l.length ≤ 9223372036854775807) (hz : ∀ i, i < l.length → (l.getD i default).name.size ≤ 9223372036854775807) (w : World) (hs : Ops w A l) (hP : Places w) (hC : Consts w) :
    Calls Tryd.prog 3 #[.string seed, .bool mk, .slice A l.length c] w fun e w' => e = .returned (.bool true) ∧ Below w.heap.size w w' := runs_yes HS seed mk l A c hl hz w hs hC hP
end Go.Proofs.YtlkdofghhibmbaaDoor

/-
  keyholeref02.spread: the contract.
-/
namespace Go.Proofs.YtlkdofghhibmbaaDoor
open Go.RowKit Go.Kx
set_option maxRecDepth 20000

theorem rback_v (x n : Nat) (m : Int) (hm : m = (n : Int)) (hx : x < 4294967296) (hn : n ≤ 32) (y : Nat) (hy : bk x n = y) (w : World) :
    Calls Tryd.prog 67 #[.int .i64 x, .int .i64 m] w fun e w' => e = .returned (.int .i64 (y : Nat)) ∧ w' = w := by
  subst hy; exact rback_any x n m hm hx hn w
theorem fall_v (x n : Nat) (m : Int) (hm : m = (n : Int)) (hx : x < 4294967296) (hn : n ≤ 32) (y : Nat) (hy : x / 2 ^ n = y) (w : World) :
    Calls Tryd.prog 77 #[.int .i64 x, .int .i64 m] w fun e w' => e = .returned (.int .i64 (y : Nat)) ∧ w' = w := by
  subst hy; exact fall_any x n m hm hx hn w
theorem three_v (a b c : Nat) (ha : a < 4294967296) (hb : b < 4294967296) (hc : c < 4294967296) (y : Nat) (hy : (a ^^^ b) ^^^ c = y) (w : World) :
    Calls Tryd.prog 65 #[.int .i64 a, .int .i64 b, .int .i64 c] w fun e w' => e = .returned (.int .i64 (y : Nat)) ∧ w' = w := by
  subst hy; exact three_any a b c ha hb hc w
theorem both_v (a b : Nat) (ha : a < 4294967296) (hb : b < 4294967296) (y : Nat) (hy : a &&& b = y) (w : World) :
    Calls Tryd.prog 64 #[.int .i64 a, .int .i64 b] w fun e w' => e = .returned (.int .i64 (y : Nat)) ∧ w' = w := by
  subst hy; exact both_any a b ha hb w
theorem radd_v (n : Nat) (c : Nat) (xs : List Nat) (l : Nat) (hl : l = xs.length) (w : World) (hm : xs.length ≤ 1000) (hx : ∀ x ∈ xs, x < 4294967296) (hs : Sl w (some ⟨n, 0, none⟩) (ints xs)) (y : Nat) (hy : addL xs = y) :
    Calls Tryd.prog 66 #[.slice (some ⟨n, 0, none⟩) l c] w fun e w' => e = .returned (.int .i64 (y : Nat)) ∧ w' = w := by
  subst hy; subst hl; exact radd_any _ c xs w (by omega) hx hs
theorem addL4 (a b c d : Nat) : addL [a, b, c, d] = (a + b + c + d) % 4294967296 := by simp [addL]
theorem own_cell {w : World} {base g n c : Nat} {e : TypeId} {xs : List Value} (h : w.ownsRow base e 1 (.slice (some ⟨g, 0, none⟩) n c) n xs) {j : Nat} {u : Value} (hu : xs[j]? = some u) : w.cell? ⟨g, j, none⟩ = some u := by
  have := h.cells (g := g) rfl j u hu
  rw [← this]
  congr 1
  unfold Addr.add
  split <;> simp_all
theorem Sl_drew {w : World} {A : Option Addr} {vs : List Value} (h : Sl w A vs) : Sl w.drew A vs := h
def wrowL (W : Nat → Nat) (n : Nat) : List Nat := (List.range n).map W
theorem wrowL_length (W : Nat → Nat) (n : Nat) : (wrowL W n).length = n := by simp [wrowL]
theorem wrowL_get (W : Nat → Nat) (n j : Nat) (h : j < n) : (ints (wrowL W n))[j]? = some (.int .i64 (W j : Nat)) := by simp [wrowL, ints, h]
theorem wrowL_snoc (W : Nat → Nat) (n : Nat) : ints (wrowL W n) ++ [Value.int .i64 (W n : Nat)] = ints (wrowL W (n + 1)) := by simp [wrowL, ints, List.range_succ]
set_option maxHeartbeats 4000000 in
theorem spread_gen (W : Nat → Nat) (s : ByteArray) (w : World) (hs : s.size = 64) (hcut : cutL true s = wrowL W 16) (hWl : ∀ j, W j < 4294967296)
    (hWn : ∀ i, 16 ≤ i → i < 64 → W i = (W (i - 16) + sg0 (W (i - 15)) + W (i - 7) + sg1 (W (i - 2))) % 4294967296) :
    Calls Tryd.prog 61 #[.string s] w fun e w' => ∃ g c, e = .returned (.slice (some ⟨g, 0, none⟩) 64 c) ∧ Sl w' (some ⟨g, 0, none⟩) (ints (wrowL W 64)) ∧ Below w.heap.size w w' := by
  obtain ⟨i0, hi, hz0, hz1, hz2⟩ := info_parts int_info
  have HWL := Lib.hid hWl
  have HWN := Lib.hid hWn
  have HC := Lib.hid hcut
  clear hcut hWl hWn
  go_enter Tryd.func61, Tryd.ntmps61
  go_wp2_with fail
  refine (rcut_any s true _ (by omega) (by omega)).mono ?_
  rintro e w1 ⟨v, rfl, hown, hb⟩
  rw [HC.out, wrowL_length] at hown
  obtain ⟨g, c, rfl, _⟩ := hown.form (by omega)
  go_wp2_with fail
  go_loopw [3, 5, 6, 7, 8, 9] (fun v i _ _ _ _ wr => ∃ k g c : Nat, 16 ≤ k ∧ k ≤ 64 ∧ i = .int .i64 k ∧ v = .slice (some ⟨g, 0, none⟩) k c ∧ wr.ownsRow w.heap.size 3 1 v k (ints (wrowL W k)) ∧ Below w.heap.size w wr) (fun _ i _ _ _ _ _ => 64 - (intOf i).toNat)
  case atStart => exact ⟨16, g, c, by omega, by omega, rfl, rfl, hown, hb⟩
  case round =>
    clear hown hb
    obtain ⟨k, g, c, hk1, hk2, rfl, rfl, hown, hb⟩ := hrel
    by_cases hl : k < 64
    · have c16 := own_cell hown (wrowL_get W k (k - 16) (by omega))
      have c15 := own_cell hown (wrowL_get W k (k - 15) (by omega))
      have c7 := own_cell hown (wrowL_get W k (k - 7) (by omega))
      have c2 := own_cell hown (wrowL_get W k (k - 2) (by omega))
      have l16 := HWL.out (k - 16)
      have l15 := HWL.out (k - 15)
      have l7 := HWL.out (k - 7)
      have l2 := HWL.out (k - 2)
      have hlk := HWL.out k
      have HSN := Lib.hid (wrowL_snoc W k)
      have HN := Lib.hid (HWN.out k hk1 hl)
      generalize wrowL W k = ws at *
      generalize W (k - 15) = p at *
      generalize W (k - 2) = q at *
      generalize W (k - 16) = x at *
      generalize W (k - 7) = y at *
      generalize W k = wk at *
      have w16 : IntKind.i64.wrap ((k : Int) - 16) = (k : Int) - 16 := IntWalk.i64_in _ (by omega)
      have w15 : IntKind.i64.wrap ((k : Int) - 15) = (k : Int) - 15 := IntWalk.i64_in _ (by omega)
      have w7 : IntKind.i64.wrap ((k : Int) - 7) = (k : Int) - 7 := IntWalk.i64_in _ (by omega)
      have w2 : IntKind.i64.wrap ((k : Int) - 2) = (k : Int) - 2 := IntWalk.i64_in _ (by omega)
      have n16 : ((k : Int) - 16).toNat = k - 16 := by omega
      have n15 : ((k : Int) - 15).toNat = k - 15 := by omega
      have n7 : ((k : Int) - 7).toNat = k - 7 := by omega
      have n2 : ((k : Int) - 2).toNat = k - 2 := by omega
      have p16 : 0 ≤ (k : Int) - 16 := by omega
      have p15 : 0 ≤ (k : Int) - 15 := by omega
      have p7 : 0 ≤ (k : Int) - 7 := by omega
      have p2 : 0 ≤ (k : Int) - 2 := by omega
      have q16 : (16 : Int) ≤ (k : Int) := by omega
      have q7 : (7 : Int) ≤ (k : Int) := by omega
      have b16 : (k : Int) - 16 < (k : Int) := by omega
      have b15 : (k : Int) - 15 < (k : Int) := by omega
      have b7 : (k : Int) - 7 < (k : Int) := by omega
      have b2 : (k : Int) - 2 < (k : Int) := by omega
      obtain ⟨pa, hpa⟩ : ∃ a, bk p 7 = a := ⟨_, rfl⟩
      obtain ⟨pb, hpb⟩ : ∃ a, bk p 18 = a := ⟨_, rfl⟩
      obtain ⟨pc, hpc⟩ : ∃ a, p / 2 ^ 3 = a := ⟨_, rfl⟩
      obtain ⟨qa, hqa⟩ : ∃ a, bk q 17 = a := ⟨_, rfl⟩
      obtain ⟨qb, hqb⟩ : ∃ a, bk q 19 = a := ⟨_, rfl⟩
      obtain ⟨qc, hqc⟩ : ∃ a, q / 2 ^ 10 = a := ⟨_, rfl⟩
      have lpa : pa < 4294967296 := hpa ▸ bk_lt _ _ l15
      have lpb : pb < 4294967296 := hpb ▸ bk_lt _ _ l15
      have lpc : pc < 4294967296 := by omega
      have lqa : qa < 4294967296 := hqa ▸ bk_lt _ _ l2
      have lqb : qb < 4294967296 := hqb ▸ bk_lt _ _ l2
      have lqc : qc < 4294967296 := by omega
      obtain ⟨sp, hsp⟩ : ∃ a, sg0 p = a := ⟨_, rfl⟩
      obtain ⟨sq, hsq⟩ : ∃ a, sg1 q = a := ⟨_, rfl⟩
      have lsp : sp < 4294967296 := hsp ▸ sg0_lt _ l15
      have lsq : sq < 4294967296 := hsq ▸ sg1_lt _ l2
      have HSP : Hid ((pa ^^^ pb) ^^^ pc = sp) := Lib.hid (by rw [← hsp, ← hpa, ← hpb, ← hpc]; rfl)
      have HSQ : Hid ((qa ^^^ qb) ^^^ qc = sq) := Lib.hid (by rw [← hsq, ← hqa, ← hqb, ← hqc]; rfl)
      have HK : Hid (addL [x, sp, y, sq] = wk) := Lib.hid (by rw [addL4, HN.out, hsp, hsq])
      have HLT : Hid (∀ z ∈ [x, sp, y, sq], z < 4294967296) := Lib.hid (by simp; omega)
      have HPA := Lib.hid hpa
      have HPB := Lib.hid hpb
      have HPC := Lib.hid hpc
      have HQA := Lib.hid hqa
      have HQB := Lib.hid hqb
      have HQC := Lib.hid hqc
      clear hpa hpb hpc hqa hqb hqc hsp hsq HN
      go_wp2_with fail
      refine (rback_v p 7 7 rfl l15 (by omega) pa HPA.out _).mono ?_
      rintro e w' ⟨rfl, rfl⟩
      go_wp2_with fail
      refine (rback_v p 18 18 rfl l15 (by omega) pb HPB.out _).mono ?_
      rintro e w' ⟨rfl, rfl⟩
      go_wp2_with fail
      refine (fall_v p 3 3 rfl l15 (by omega) pc HPC.out _).mono ?_
      rintro e w' ⟨rfl, rfl⟩
      go_wp2_with fail
      refine (three_v pa pb pc lpa lpb lpc sp HSP.out _).mono ?_
      rintro e w' ⟨rfl, rfl⟩
      go_wp2_with fail
      refine (rback_v q 17 17 rfl l2 (by omega) qa HQA.out _).mono ?_
      rintro e w' ⟨rfl, rfl⟩
      go_wp2_with fail
      refine (rback_v q 19 19 rfl l2 (by omega) qb HQB.out _).mono ?_
      rintro e w' ⟨rfl, rfl⟩
      go_wp2_with fail
      refine (fall_v q 10 10 rfl l2 (by omega) qc HQC.out _).mono ?_
      rintro e w' ⟨rfl, rfl⟩
      go_wp2_with fail
      refine (three_v qa qb qc lqa lqb lqc sq HSQ.out _).mono ?_
      rintro e w' ⟨rfl, rfl⟩
      go_wp2_with fail
      have hsz := hb.size
      go_region_law (first
        | (refine step_append_lies _ (by rfl) _ _ _ (by rfl) w.heap.size 3 i0 _ 1 8 Tryd.underlying71 hi hz0 hz1 hz2 rfl (by omega) (.slice (some ⟨g, 0, none⟩) k c) k (ints ws) (by rfl) ((hown.alloc _).alloc _).drew ⟨w'.heap.size + 1, 0, none⟩ 1 1 [.int .i64 (wk : Int)] (by rfl) (by rfl) (by intro j u hj; match j, hj with | 0, hj => (simp at hj; subst hj; simp [Addr.add])) (by simp [Value.oneCell']) (by omega) (by unfold maxLen; omega) (by omega) (by simp; omega) (w'.heap.size + 2) (by simp) ?_; intro gg cap w2 hown2 hgrow hat hlt)
        | (go_simp; go_at_call 66; refine (radd_v _ _ [x, sp, y, sq] _ rfl _ (by simp) HLT.out (Sl_drew (Sl.new' rfl)) wk HK.out).mono ?_; rintro e w'' ⟨rfl, rfl⟩))
      all_goals have hb2 := own_below (((hown.alloc _).alloc _).drew) (((hb.al _).al _).drew) hgrow
      all_goals rw [HSN.out] at hown2
      all_goals clear hown hb hgrow hat hlt c16 c15 c7 c2
      all_goals go_wp2
      all_goals go_roundw
      all_goals first
        | exact ⟨k + 1, gg, cap, by omega, by omega, by go_num, rfl, hown2, hb2⟩
        | (simp [intOf]; omega)
    · obtain rfl : k = 64 := by omega
      obtain ⟨A, c', e, hsl⟩ := own_sl hown
      obtain ⟨rfl, rfl⟩ : some ⟨g, 0, none⟩ = A ∧ c = c' := by simpa using e
      clear e
      go_wp2
      go_ret
      exact ⟨_, _, rfl, hsl, hb⟩
theorem wrowL_of (xs : List Nat) (W : Nat → Nat) (n : Nat) (hl : xs.length = n) (h : ∀ j, j < n → W j = xs.getD j 0) : xs = wrowL W n := by
  apply List.ext_getElem?
  intro j
  by_cases hj : j < n
  · simp only [wrowL, List.getElem?_map, List.getElem?_range hj, Option.map_some, h j hj, List.getD_eq_getElem?_getD]
    rw [List.getElem?_eq_getElem (by omega)]; rfl
  · rw [List.getElem?_eq_none (by omega), List.getElem?_eq_none (by rw [wrowL_length]; omega)]
theorem spread_any (s : ByteArray) (w : World) (hs : s.size = 64) :
    Calls Tryd.prog 61 #[.string s] w fun e w' => ∃ g c, e = .returned (.slice (some ⟨g, 0, none⟩) 64 c) ∧ Sl w' (some ⟨g, 0, none⟩) (ints (wrowL (fun j => (blkW s.data.toList).getD j 0) 64)) ∧ Below w.heap.size w w' :=
  spread_gen (fun j => (blkW s.data.toList).getD j 0) s w hs (wrowL_of _ _ 16 (by rw [cutL_length, hs]) (blkW_old s hs)) (blkW_lt s) (fun i h1 h2 => by have := blkW_next s hs i h1 h2; unfold schedF at this; exact this)
end Go.Proofs.YtlkdofghhibmbaaDoor
