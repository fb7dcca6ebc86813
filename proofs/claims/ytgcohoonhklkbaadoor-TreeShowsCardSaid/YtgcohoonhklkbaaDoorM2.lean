/-
  Merged by program: Trf4, Trf5, Trf6, Txs, Trf7, Trf8, Trf9, Dig1.
-/
import Derived.Test.YtgcohoonhklkbaaDoorM1
import Derived.Lib.Bytes
import Derived.StillTailTactics
import Derived.Deep.QuietTactic
import Derived.BigQuiet
import Derived.Laws.Rows
import Derived.Laws.Alloc2

/-
  keyholeref11: rows of strings in a slice of slices; the contract of Rows.
-/
namespace Go.Proofs.YtgcohoonhklkbaaDoor
open Go.RowKit Go.Kx Go.Trm
set_option maxRecDepth 20000

theorem texts_info : (Tryd.prog.info? 22).map (fun i => (i.zero, i.size, i.bytes)) = some (some (.slice none 0 0), 1, 24) := by kernel_rfl
/-- A row k of digests, as strings. -/
def rowB (l : List ByteArray) (k : Nat) : List ByteArray := (rowL sumL (txtsL l) k).map toB
theorem rowB_length (l : List ByteArray) {d k : Nat} (hl : l.length = 2 ^ d) (hk : k ≤ d) : (rowB l k).length = 2 ^ (d - k) := by
  rw [rowB, List.length_map, rowL_length sumL (txtsL l) (by rw [txtsL_length]; exact hl) k hk]
theorem rowB_zero (l : List ByteArray) {j : Nat} (h : j < l.length) : (rowB l 0)[j]? = some (toB (leafL sumL l[j].data.toList)) := by
  simp [rowB, rowL, txtsL, List.getElem?_eq_getElem h]
theorem rowB_get (l : List ByteArray) {k j : Nat} {x : ByteArray} (h : (rowB l k)[j]? = some x) : (rowL sumL (txtsL l) k).getD j [] = x.data.toList := by
  rw [rowB, List.getElem?_map] at h
  obtain ⟨y, hy, rfl⟩ := Option.map_eq_some_iff.1 h
  rw [List.getD, hy, toB_list]
  rfl
theorem rowB_len32 (l : List ByteArray) {d k : Nat} (hl : l.length = 2 ^ d) (hk : k ≤ d) {j : Nat} {x : ByteArray} (h : (rowB l k)[j]? = some x) : x.size = 32 := by
  have hg := rowB_get l h
  have hj := (List.getElem?_eq_some_iff.1 h).1
  rw [rowB_length l hl hk] at hj
  have hx : x.size = x.data.toList.length := by simp
  rw [hx, ← hg]
  cases k with
  | zero =>
    rw [rowL, List.getD, List.getElem?_map, List.getElem?_eq_getElem (by rw [txtsL_length, hl]; exact hj)]
    exact sumT_length _
  | succ k =>
    rw [rowL_get sumL (txtsL l) (by rw [txtsL_length]; exact hl) k j (by omega) hj]
    exact sumT_length _
theorem rowB_succ (l : List ByteArray) {d k j : Nat} (hl : l.length = 2 ^ d) (hk : k < d) (hj : j < 2 ^ (d - (k + 1))) {a b : ByteArray} (ha : (rowB l k)[2 * j]? = some a) (hb : (rowB l k)[2 * j + 1]? = some b) :
    (rowB l (k + 1))[j]? = some (toB (nodeL sumL a.data.toList b.data.toList)) := by
  have hlen := rowB_length l hl (k := k + 1) (by omega)
  rw [List.getElem?_eq_getElem (by omega)]
  congr 1
  have h1 := rowL_get sumL (txtsL l) (by rw [txtsL_length]; exact hl) k j hk hj
  rw [rowB_get l ha, rowB_get l hb] at h1
  rw [← h1]
  simp only [rowB, List.getElem_map, List.getD]
  rw [List.getElem?_eq_getElem (by rw [rowB, List.length_map] at hlen; omega)]
  rfl
theorem strs_snoc (l : List ByteArray) {k : Nat} {x : ByteArray} (h : l[k]? = some x) : strsV (l.take k) ++ [Value.string x] = strsV (l.take (k + 1)) := by
  rw [strsV_snoc, List.take_add_one, h]
  rfl

/-! ### a row in memory -/
/-- The value is a slice over a block whose cells are these strings. -/
def RowAt (w : World) (v : Value) (row : List ByteArray) : Prop := ∃ g c, v = .slice (some ⟨g, 0, none⟩) row.length c ∧ g < w.heap.size ∧ ∀ j x, row[j]? = some x → w.cell? ⟨g, j, none⟩ = some (.string x)
theorem RowAt.keep {w w' : World} {v : Value} {row : List ByteArray} (h : RowAt w v row) (hb : Below w.heap.size w w') : RowAt w' v row := by
  obtain ⟨g, c, rfl, hg, hc⟩ := h
  exact ⟨g, c, rfl, Nat.lt_of_lt_of_le hg hb.size, fun j x hx => (hb.cell (p := ⟨g, j, none⟩) hg).trans (hc j x hx)⟩
theorem RowAt.own {W : World} {B : Nat} {v : Value} {n : Nat} {row : List ByteArray} (h : W.ownsRow B 9 1 v n (strsV row)) (h0 : 0 < n) : RowAt W v row := by
  obtain ⟨g, c, rfl, hg, _, hl, hc⟩ := own_join h h0
  exact ⟨g, c, by rw [hl], hg, fun j x hx => by have := hc j x hx; rwa [Nat.zero_add] at this⟩
/-- What a slice owns, cell by cell. -/
theorem own_vals {W : World} {B : Nat} {e : TypeId} {v : Value} {n : Nat} {xs : List Value} (h : W.ownsRow B e 1 v n xs) (h0 : 0 < n) :
    ∃ g c, v = .slice (some ⟨g, 0, none⟩) n c ∧ g < W.heap.size ∧ xs.length = n ∧ ∀ (j : Nat) x, xs[j]? = some x → W.cell? ⟨g, j, none⟩ = some x := by
  have hl : xs.length = n := by have := h.1; simpa using this
  rcases h.2 with ⟨_, rfl⟩ | ⟨g, cap, cur, rfl, hg, hh, hc, hm, hs, ht⟩
  · omega
  · refine ⟨g, cap, rfl, (Array.getElem?_eq_some_iff.1 hh).1, hl, fun j x hx => ?_⟩
    rw [cell_of_row _ _ _ _ _ _ hh]
    rw [← ht, List.getElem?_take] at hx
    split at hx
    · simpa using hx
    · cases hx
/-- The rows 0 to k of a text row, in a slice of slices. -/
def RowsAt (w : World) (vs : List Value) (l : List ByteArray) : Prop := ∀ k v, vs[k]? = some v → RowAt w v (rowB l k)
theorem RowsAt.keep {w w' : World} {vs : List Value} {l : List ByteArray} (h : RowsAt w vs l) (hb : Below w.heap.size w w') : RowsAt w' vs l := fun k v hv => (h k v hv).keep hb
/-- An append to the outer slice leaves a row that is not empty. -/
theorem RowAt.grown {w w' : World} {v u : Value} {row : List ByteArray} {B n : Nat} {e : TypeId} {vs : List Value} (h : RowAt w v row) (h0 : 0 < row.length) (hown : w.ownsRow B e 1 u n vs) (hvs : ∀ x ∈ vs, ∃ a n c, x = .slice a n c) (hn : 0 < n) (hg : w.grownBy w' u.ownBlock) : RowAt w' v row := by
  obtain ⟨g, c, rfl, hgl, hc⟩ := h
  obtain ⟨g5, c5, rfl, hg5, hl5, hc5⟩ := own_vals hown hn
  have hne : g ≠ g5 := by
    rintro rfl
    have h1 := hc 0 row[0] (List.getElem?_eq_getElem h0)
    have h2 := hc5 0 (vs[0]'(by omega)) (List.getElem?_eq_getElem (by omega))
    obtain ⟨a, n, c, he⟩ := hvs (vs[0]'(by omega)) (List.getElem_mem _)
    rw [h1, he] at h2
    simp at h2
  refine ⟨g, c, rfl, Nat.lt_of_lt_of_le hgl hg.size, fun j x hx => ?_⟩
  rw [World.grownBy.cell_far hg ⟨g, j, none⟩ hgl (by simpa [Value.ownBlock] using hne)]
  exact hc j x hx
theorem RowsAt.slices {w : World} {vs : List Value} {l : List ByteArray} (h : RowsAt w vs l) : ∀ x ∈ vs, ∃ a n c, x = .slice a n c := fun x hx => by
  obtain ⟨k, hk, rfl⟩ := List.getElem_of_mem hx
  obtain ⟨g, c, e, _⟩ := h k _ (List.getElem?_eq_getElem hk)
  exact ⟨_, _, _, e⟩
/-- A row more. -/
theorem RowsAt.snoc {w w' : World} {u v : Value} {B n d : Nat} {e : TypeId} {vs : List Value} {l : List ByteArray} (h : RowsAt w vs l) (hl : l.length = 2 ^ d) (hn : n ≤ d) (hown : w.ownsRow B e 1 u n vs) (hv : RowAt w v (rowB l n)) (h0 : 0 < n) (hg : w.grownBy w' u.ownBlock) : RowsAt w' (vs ++ [v]) l := by
  have hvl : vs.length = n := by have := hown.1; simpa using this
  intro k x hx
  have hk := (List.getElem?_eq_some_iff.1 hx).1
  simp only [List.length_append, List.length_singleton] at hk
  have hpos : 0 < (rowB l k).length := by rw [rowB_length l hl (by omega)]; exact Nat.two_pow_pos _
  have hat : RowAt w x (rowB l k) := by
    by_cases hkn : k < vs.length
    · rw [List.getElem?_append_left hkn] at hx
      exact h k x hx
    · obtain rfl : k = n := by omega
      rw [List.getElem?_append_right (by omega), hvl, Nat.sub_self] at hx
      obtain rfl : v = x := by simpa using hx
      exact hv
  exact hat.grown hpos hown h.slices h0 hg
end Go.Proofs.YtgcohoonhklkbaaDoor

/-
  keyholeref11: the contract of Rows.
-/
namespace Go.Proofs.YtgcohoonhklkbaaDoor
open Go.RowKit Go.Kx Go.Trm
set_option maxRecDepth 20000

/-- What a call of Rows answers. -/
def RowsP (l : List ByteArray) (d : Nat) (W : World) (e : Ending) (W' : World) : Prop :=
  ∃ v vs, e = .returned v ∧ W'.ownsRow W.heap.size 22 1 v (d + 1) vs ∧ RowsAt W' vs l ∧ Below W.heap.size W W'
def slN : Value → Nat
  | .slice _ n _ => n
  | _ => 0
set_option maxHeartbeats 4000000 in
theorem rrows_any (HS : RSum) (l : List ByteArray) (d : Nat) (hd : l.length = 2 ^ d) (hd10 : d ≤ 10) (hs : ∀ s ∈ l, s.size ≤ 1000) (A : Option Addr) (c : Nat) (w : World) (hA : Sl w A (strsV l)) :
    Calls Tryd.prog 32 #[.slice A l.length c] w fun e w' => RowsP l d w e w' := by
  have HSM := Lib.hid HS
  have HSZ := Lib.hid hs
  have HD := Lib.hid hd
  obtain ⟨n, hn⟩ : ∃ n, l.length = n := ⟨_, rfl⟩
  have HN := Lib.hid hn
  have hn1 : n ≤ 1024 := by rw [← hn, hd]; have : 2 ^ d ≤ 2 ^ 10 := Nat.pow_le_pow_right (by omega) hd10; omega
  have hn0 : 0 < n := by rw [← hn, hd]; exact Nat.two_pow_pos _
  rw [hn]
  clear hn hd hs HS
  obtain ⟨i0, hI0, hz0, hz1, hz2⟩ := info_parts string_info
  obtain ⟨j0, hJ0, hy0, hy1, hy2⟩ := info_parts texts_info
  go_enter Tryd.func32, Tryd.ntmps32
  go_wp2
  go_loopw [3, 4] (fun v i wr => ∃ k : Nat, k ≤ n ∧ i = .int .i64 (k : Int) ∧ wr.ownsRow w.heap.size 9 1 v k (strsV ((rowB l 0).take k)) ∧ Below w.heap.size w wr) (fun _ i _ => n - (intOf i).toNat)
  case atStart => exact ⟨0, by omega, rfl, World.ownsRow_nil _ _ _ _, Below.refl _ _⟩
  case round =>
    obtain ⟨k, hk, rfl, hown, hb⟩ := hrel
    by_cases hlt : k < n
    · obtain ⟨b, off, hAe, hcp⟩ := sl_strV (hA.keep hb) (k := k) (by rw [HN.out]; exact hlt)
      subst hAe
      obtain ⟨p, hp⟩ : ∃ p, l[k]'(by rw [HN.out]; exact hlt) = p := ⟨_, rfl⟩
      rw [hp] at hcp
      have hps : p.size ≤ 1000 := by rw [← hp]; exact HSZ.out _ (List.getElem_mem _)
      obtain ⟨z, hz⟩ : ∃ z : ByteArray, leafL sumL p.data.toList = z.data.toList := ⟨toB (leafL sumL p.data.toList), (toB_list _).symm⟩
      have hleaf := rleaf_any HSM.out p z hps hz wr
      have HZ : Hid (strsV ((rowB l 0).take k) ++ [Value.string z] = strsV ((rowB l 0).take (k + 1))) := Lib.hid (strs_snoc _ (by
        rw [rowB_zero l (by rw [HN.out]; exact hlt), hp, hz, toB_eq]))
      clear hz hp
      go_wp2_with fail
      refine hleaf.mono ?_
      rintro e w2 ⟨rfl, hs2⟩
      have hown2 := own_keep hown hs2
      have hb2 := hb.next hs2
      clear hleaf hown hs2 hcp
      go_wp2_with (first
        | (at_builtin; refine wpList_append_own _ rfl _ _ 22 rfl w.heap.size 9 i0 (.string ⟨#[]⟩) 1 16 Tryd.underlying22 hI0 hz0 hz1 hz2 rfl (by decide) _ _ _ rfl (hown2.alloc _) ⟨w2.heap.size, 0, none⟩ 1 1 [.string z] rfl rfl ?c1 ?c2 ?c3 ?c4 ?c5 ?_)
        | go_in)
      case c1 =>
        intro j u hj
        match j, hj with
        | 0, hj => simp at hj; subst hj; simp [Addr.add]
      case c2 => intro u hu; simp at hu; subst hu; rfl
      case c3 => unfold maxLen; omega
      case c4 => omega
      case c5 => have := hb2.size; simp; omega
      intro v' w4 hown' hgrow _
      rw [HZ.out] at hown'
      have hb4 := own_below (hown2.alloc (.cells #[.string z] 9)) (hb2.al _) hgrow
      clear hown2 hgrow hb hb2
      go_wp2
      go_roundw
      case rel => exact ⟨k + 1, by omega, by go_num, hown', hb4⟩
      case measure => simp [intOf]; omega
    · obtain rfl : k = n := by omega
      have hlen0 : (rowB l 0).length = k := by rw [rowB_length l HD.out (Nat.zero_le _), Nat.sub_zero, ← HD.out, HN.out]
      rw [List.take_of_length_le (by omega)] at hown
      obtain ⟨g0, c0, hv0, hg0, hc0⟩ := RowAt.own hown hn0
      rw [hlen0] at hv0
      subst hv0
      have hrow : RowAt wr (.slice (some ⟨g0, 0, none⟩) k c0) (rowB l 0) := ⟨g0, c0, by rw [hlen0], hg0, hc0⟩
      have hown1 : (wr.alloc (.cells #[.slice (some ⟨g0, 0, none⟩) k c0] 22)).ownsRow w.heap.size 22 1 (.slice (some ⟨wr.heap.size, 0, none⟩) 1 1) 1 [.slice (some ⟨g0, 0, none⟩) k c0] :=
        ⟨rfl, .inr ⟨wr.heap.size, 1, #[.slice (some ⟨g0, 0, none⟩) k c0], rfl, hb.size, heap_alloc_new wr _, Nat.le_refl _, by unfold maxLen; omega, rfl, rfl⟩⟩
      have hrow1 := hrow.keep (Below.alloc0 wr (.cells #[.slice (some ⟨g0, 0, none⟩) k c0] 22))
      have hrows1 : RowsAt (wr.alloc (.cells #[.slice (some ⟨g0, 0, none⟩) k c0] 22)) [.slice (some ⟨g0, 0, none⟩) k c0] l := fun j x hx => by
        obtain rfl : j = 0 := by have := (List.getElem?_eq_some_iff.1 hx).1; simpa using this
        obtain rfl := Option.some.inj hx
        exact hrow1
      have hb1 := hb.al (.cells #[.slice (some ⟨g0, 0, none⟩) k c0] 22)
      have hlast : [Value.slice (some ⟨g0, 0, none⟩) k c0][0]? = some (.slice (some ⟨g0, 0, none⟩) k c0) := rfl
      clear hown hlen0 hg0 hc0
      go_wp2
      clear hrow hrow1 hb
      go_loopw [3, 5] (fun r o wr => ∃ (k : Nat) (vs : List Value), k ≤ d ∧ vs[k]? = some r ∧ wr.ownsRow w.heap.size 22 1 o (k + 1) vs ∧ RowsAt wr vs l ∧ Below w.heap.size w wr) (fun _ o _ => d + 1 - slN o)
      case atStart => exact ⟨0, _, Nat.zero_le _, hlast, hown1, hrows1, hb1⟩
      case round =>
        clear hown1 hrows1 hb1 hlast
        obtain ⟨q, vs, hq, hlast, hown, hrows, hb⟩ := hrel
        obtain ⟨g, c1, rfl, hg, hc⟩ := hrows q u3 hlast
        have hlen := rowB_length l HD.out hq
        obtain ⟨m, hm⟩ : ∃ m, (rowB l q).length = m := ⟨_, rfl⟩
        obtain ⟨g5, c5, rfl, -, hvl, -⟩ := own_vals hown (by omega)
        rw [hm] at hlast hlen ⊢
        generalize hW : wr = W1 at *
        clear hW
        have HC := Lib.hid hc
        clear hc
        by_cases hlt : q < d
        · obtain ⟨h, hh⟩ : ∃ h, 2 ^ (d - (q + 1)) = h := ⟨_, rfl⟩
          have hm2 : m = 2 * h := by rw [hlen, ← hh, show d - q = d - (q + 1) + 1 by omega, Nat.pow_succ, Nat.mul_comm]
          have hh0 : 0 < h := by rw [← hh]; exact Nat.two_pow_pos _
          have hh9 : h ≤ 1024 := by rw [← hh]; have : 2 ^ (d - (q + 1)) ≤ 2 ^ 10 := Nat.pow_le_pow_right (by omega) (by omega); omega
          have hlen1 := rowB_length l HD.out (k := q + 1) (by omega)
          rw [hh] at hlen1
          have HROW : Hid (∀ j, j < h → ∃ a b z : ByteArray, (rowB l q)[2 * j]? = some a ∧ (rowB l q)[2 * j + 1]? = some b ∧ a.size = 32 ∧ b.size = 32 ∧ nodeL sumL a.data.toList b.data.toList = z.data.toList ∧ strsV ((rowB l (q + 1)).take j) ++ [Value.string z] = strsV ((rowB l (q + 1)).take (j + 1))) := Lib.hid fun j hj => by
            have e1 : (rowB l q)[2 * j]? = some ((rowB l q)[2 * j]'(by omega)) := List.getElem?_eq_getElem (by omega)
            have e2 : (rowB l q)[2 * j + 1]? = some ((rowB l q)[2 * j + 1]'(by omega)) := List.getElem?_eq_getElem (by omega)
            have e3 := rowB_succ l HD.out hlt (by omega) e1 e2
            exact ⟨_, _, _, e1, e2, rowB_len32 l HD.out hq e1, rowB_len32 l HD.out hq e2, (toB_list _).symm, strs_snoc _ e3⟩
          have HL1 := Lib.hid hlen1
          clear hlen hm hh hlen1
          have t1 : (1 : Int) < (m : Int) := by omega
          have HM2 := Lib.hid hm2
          have hm9 : m ≤ 2048 := by omega
          clear hm2
          go_wp2
          go_loopw [6, 7] (fun v i wr => ∃ j x : Nat, x = 2 * j ∧ j ≤ h ∧ i = .int .i64 (x : Int) ∧ wr.ownsRow W1.heap.size 9 1 v j (strsV ((rowB l (q + 1)).take j)) ∧ Below W1.heap.size W1 wr) (fun _ i _ => m - (intOf i).toNat)
          case atStart => exact ⟨0, 0, rfl, Nat.zero_le _, rfl, World.ownsRow_nil _ _ _ _, Below.refl _ _⟩
          case round =>
            obtain ⟨j, x, hx, hj, rfl, hown6, hb6⟩ := hrel
            by_cases hlt2 : j < h
            · obtain ⟨a, b, z, ha, hb', haz, hbz, hz, hsn⟩ := HROW.out j hlt2
              obtain ⟨x1, hx1⟩ : ∃ x1, x + 1 = x1 := ⟨_, rfl⟩
              have hca : wr.cell? ⟨g, x, none⟩ = some (.string a) := (hb6.cell (p := ⟨g, x, none⟩) hg).trans (by rw [hx]; exact HC.out _ _ ha)
              have hcb : wr.cell? ⟨g, x1, none⟩ = some (.string b) := (hb6.cell (p := ⟨g, x1, none⟩) hg).trans (by rw [← hx1, hx]; exact HC.out _ _ hb')
              have hnode := rnode_any HSM.out a b z (by omega) (by omega) hz
              have HSN := Lib.hid hsn
              have hxI : (x : Int) + 1 = (x1 : Int) := by omega
              have hxm : x < m := by have := HM2.out; omega
              have hxm1 : x1 < m := by have := HM2.out; omega
              have hw1 : IntKind.i64.wrap (x1 : Int) = (x1 : Int) := IntWalk.i64_in _ (by omega)
              have hw0 : (0 : Int) ≤ (x1 : Int) := by omega
              have hwm : (x1 : Int) < (m : Int) := by omega
              have HX := Lib.hid hx
              clear ha hb' hz hsn hx hx1
              go_wp2_with fail
              refine Uptot.begin_ [10] (fun _ => True) (fun w' => w'.cell? ⟨g, x, none⟩ = some (.string a) ∧ w'.cell? ⟨g, x1, none⟩ = some (.string b)) (by kernel_rfl) ?_
              have hST : True ∧ (wr.drew.cell? ⟨g, x, none⟩ = some (.string a) ∧ wr.drew.cell? ⟨g, x1, none⟩ = some (.string b)) := ⟨trivial, hca, hcb⟩
              have hownD := hown6.drew
              have hbD := hb6.drew
              clear hown6 hb6 hca hcb
              generalize wr.drew = V2 at *
              refine Uptot.takeS (i := 0) (v := ?_) rfl (by kernel_rfl) (by kernel_rfl) (by kernel_rfl) (by kernel_rfl) (fun _ _ _ h => h) (Or.inl ⟨by rfl, ?_⟩) hST ?_
              rotate_left 1
              · intro w9 hSw; go_simp; (try with_reducible rfl)
              try simp only [Act.put, List.setIfInBounds_toArray, List.set_cons_zero, List.set_cons_succ]
              refine Uptot.takeS (i := 1) (v := ?_) rfl (by kernel_rfl) (by kernel_rfl) (by kernel_rfl) (by kernel_rfl) (fun _ _ _ h => h) (Or.inl ⟨by rfl, ?_⟩) hST ?_
              rotate_left 1
              · intro w9 hSw; go_simp; (try with_reducible rfl)
              try simp only [Act.put, List.setIfInBounds_toArray, List.set_cons_zero, List.set_cons_succ]
              refine Uptot.takeS (i := 2) (v := ?_) rfl (by kernel_rfl) (by kernel_rfl) (by kernel_rfl) (by kernel_rfl) (fun _ _ _ h => h) (Or.inl ⟨by rfl, ?_⟩) hST ?_
              rotate_left 1
              · intro w9 hSw; go_simp; (try with_reducible rfl)
              try simp only [Act.put, List.setIfInBounds_toArray, List.set_cons_zero, List.set_cons_succ]
              refine Uptot.takeS (i := 3) (v := ?_) rfl (by kernel_rfl) (by kernel_rfl) (by kernel_rfl) (by kernel_rfl) (fun _ _ _ h => h) (Or.inl ⟨by rfl, ?_⟩) hST ?_
              rotate_left 1
              · intro w9 hSw; go_simp; (try with_reducible rfl)
              try simp only [Act.put, List.setIfInBounds_toArray, List.set_cons_zero, List.set_cons_succ]
              refine Uptot.take (i := 4) (v := ?_) rfl (by kernel_rfl) (by kernel_rfl) (by kernel_rfl) (by kernel_rfl) (fun _ _ _ h => h) (Or.inl ⟨by rfl, ?_⟩) hST ?_
              rotate_left 1
              · intro w9 hSw; (try dsimp only at hSw); obtain ⟨-, h91, h92⟩ := hSw; go_simp; (try with_reducible rfl)
              try simp only [Act.put, List.setIfInBounds_toArray, List.set_cons_zero, List.set_cons_succ]
              refine Uptot.takeS (i := 5) (v := ?_) rfl (by kernel_rfl) (by kernel_rfl) (by kernel_rfl) (by kernel_rfl) (fun _ _ _ h => h) (Or.inl ⟨by rfl, ?_⟩) hST ?_
              rotate_left 1
              · intro w9 hSw; go_simp; (try with_reducible rfl)
              try simp only [Act.put, List.setIfInBounds_toArray, List.set_cons_zero, List.set_cons_succ]
              refine Uptot.takeS (i := 6) (v := ?_) rfl (by kernel_rfl) (by kernel_rfl) (by kernel_rfl) (by kernel_rfl) (fun _ _ _ h => h) (Or.inl ⟨by rfl, ?_⟩) hST ?_
              rotate_left 1
              · intro w9 hSw; go_simp; (try with_reducible rfl)
              try simp only [Act.put, List.setIfInBounds_toArray, List.set_cons_zero, List.set_cons_succ]
              refine Uptot.takeS (i := 7) (v := ?_) rfl (by kernel_rfl) (by kernel_rfl) (by kernel_rfl) (by kernel_rfl) (fun _ _ _ h => h) (Or.inl ⟨by rfl, ?_⟩) hST ?_
              rotate_left 1
              · intro w9 hSw; go_simp; (try with_reducible rfl)
              try simp only [Act.put, List.setIfInBounds_toArray, List.set_cons_zero, List.set_cons_succ]
              refine Uptot.takeS (i := 8) (v := ?_) rfl (by kernel_rfl) (by kernel_rfl) (by kernel_rfl) (by kernel_rfl) (fun _ _ _ h => h) (Or.inl ⟨by rfl, ?_⟩) hST ?_
              rotate_left 1
              · intro w9 hSw; go_simp; (try with_reducible rfl)
              try simp only [Act.put, List.setIfInBounds_toArray, List.set_cons_zero, List.set_cons_succ]
              refine Uptot.take (i := 9) (v := ?_) rfl (by kernel_rfl) (by kernel_rfl) (by kernel_rfl) (by kernel_rfl) (fun _ _ _ h => h) (Or.inl ⟨by rfl, ?_⟩) hST ?_
              rotate_left 1
              · intro w9 hSw; (try dsimp only at hSw); obtain ⟨-, h91, h92⟩ := hSw; go_simp; (try with_reducible rfl)
              try simp only [Act.put, List.setIfInBounds_toArray, List.set_cons_zero, List.set_cons_succ]
              refine Uptot.one (i := 10) rfl (by kernel_rfl) (fun K hK9 => ?_)
              go_simp
              go_at_call 17
              refine (hnode V2).mono ?_
              rintro e w3 ⟨rfl, hs3⟩
              have hown3 := own_keep hownD hs3
              have hb3 := hbD.next' hs3 (by have := hbD.size; omega)
              clear hownD hs3 hST hnode hbD
              refine hK9.out _ _ (Cond.behind trivial (by kernel_rfl)) ?_
              clear hK9 K
              try simp only [Act.put, List.setIfInBounds_toArray, List.set_cons_zero, List.set_cons_succ]
              refine Uptot.one (i := 11) rfl (by kernel_rfl) (fun K hK9 => ?_)
              go_simp
              refine hK9.out _ _ (Cond.behind trivial (by kernel_rfl)) ?_
              clear hK9 K
              try simp only [Act.put, List.setIfInBounds_toArray, List.set_cons_zero, List.set_cons_succ]
              refine Uptot.one (i := 12) rfl (by kernel_rfl) (fun K hK9 => ?_)
              refine step_append_lies _ (by rfl) _ _ _ (by rfl) W1.heap.size 9 i0 _ 1 16 Tryd.underlying22 hI0 hz0 hz1 hz2 rfl (by omega) u6 j _ (by rfl) (hown3.alloc _) ⟨w3.heap.size, 0, none⟩ 1 1 [.string z] (by rfl) (by rfl) (by intro j u hj; match j, hj with | 0, hj => (simp at hj; subst hj; simp [Addr.add])) (by simp [Value.oneCell']) (by omega) (by unfold maxLen; omega) (by omega) (by have := hb3.size; simp; omega) (w3.heap.size + 1) (by simp) ?_
              intro gg cap w4 hown4 hgrow _ _
              refine hK9.out _ _ (Cond.behind trivial (by kernel_rfl)) ?_
              clear hK9 K
              try simp only [Act.put, List.setIfInBounds_toArray, List.set_cons_zero, List.set_cons_succ]
              refine Uptot.one (i := 13) rfl (by kernel_rfl) (fun K hK9 => ?_)
              go_simp
              refine hK9.out _ _ (Cond.behind trivial (by kernel_rfl)) ?_
              clear hK9 K
              try simp only [Act.put, List.setIfInBounds_toArray, List.set_cons_zero, List.set_cons_succ]
              refine Uptot.done (by kernel_rfl) ?_ _
              have hb4 := own_below (hown3.alloc (.cells #[.string z] 9)) (hb3.al _) hgrow
              rw [HSN.out] at hown4
              clear hown3 hb3 hgrow
              go_wp2
              go_roundw
              case rel => exact ⟨j + 1, x + 2, by have := HX.out; omega, by omega, by go_num, hown4, hb4⟩
              case measure => simp [intOf]; omega
            · obtain rfl : j = h := by omega
              rw [List.take_of_length_le (by rw [HL1.out]; omega)] at hown6
              obtain ⟨g6, c6, hv6, hg6, hc6⟩ := RowAt.own hown6 hh0
              rw [HL1.out] at hv6
              subst hv6
              have hrow6 : RowAt wr (.slice (some ⟨g6, 0, none⟩) j c6) (rowB l (q + 1)) := ⟨g6, c6, by rw [HL1.out], hg6, hc6⟩
              have hown5 := own_keep hown hb6
              have hrows5 := hrows.keep hb6
              have hb5 := hb.next hb6
              have hxm : ¬ x < m := by have := HM2.out; omega
              clear hown6 hb6 hg6 hc6 hlast hown hrows hb hg hx
              go_wp2_with (first
                | (at_builtin; refine wpList_append_own _ rfl _ _ 42 rfl w.heap.size 22 j0 (.slice none 0 0) 1 24 Tryd.underlying42 hJ0 hy0 hy1 hy2 rfl (by decide) _ _ _ rfl (hown5.alloc _) ⟨wr.heap.size, 0, none⟩ 1 1 [.slice (some ⟨g6, 0, none⟩) j c6] rfl rfl ?c1 ?c2 ?c3 ?c4 ?c5 ?_)
                | go_in)
              case c1 =>
                intro j u hj
                match j, hj with
                | 0, hj => simp at hj; subst hj; simp [Addr.add]
              case c2 => intro u hu; simp at hu; subst hu; rfl
              case c3 => unfold maxLen; omega
              case c4 => omega
              case c5 => have := hb5.size; simp; omega
              intro v' w4 hown' hgrow _
              have hrows4 := (hrows5.keep (Below.alloc0 wr (.cells #[.slice (some ⟨g6, 0, none⟩) j c6] 22))).snoc HD.out (by omega) (hown5.alloc _) (hrow6.keep (Below.alloc0 wr _)) (by omega) hgrow
              have hb4 := own_below (hown5.alloc (.cells #[.slice (some ⟨g6, 0, none⟩) j c6] 22)) (hb5.al _) hgrow
              have hlast4 : (vs ++ [Value.slice (some ⟨g6, 0, none⟩) j c6])[q + 1]? = some (.slice (some ⟨g6, 0, none⟩) j c6) := by
                rw [List.getElem?_append_right (by omega), hvl, Nat.sub_self]
                rfl
              obtain ⟨g7, c7, rfl, -, -, -⟩ := own_vals hown' (by omega)
              clear hown5 hgrow hrow6 hrows5 hb5
              go_wp2
              go_roundw
              case rel => exact ⟨q + 1, _, by omega, hlast4, hown', hrows4, hb4⟩
              case measure => simp [slN]; omega
        · obtain rfl : q = d := by omega
          rw [Nat.sub_self, Nat.pow_zero] at hlen
          subst hlen
          clear hm
          go_wp2
          go_ret
          exact ⟨_, vs, rfl, hown, hrows, hb⟩
end Go.Proofs.YtgcohoonhklkbaaDoor

/-
  keyholeref11: the contracts of Root, Path.
-/
namespace Go.Proofs.YtgcohoonhklkbaaDoor
open Go.RowKit Go.Kx Go.Trm
set_option maxRecDepth 20000

open Classical in
theorem rmay_yes {n : Nat} (hm : mayN n) (hn : n ≤ 1000000) (A : Option Addr) (c : Nat) (w : World) :
    Calls Tryd.prog 31 #[.slice A n c] w fun e w' => e = .returned (.bool true) ∧ w' = w := rmay_any n hn A c true (by rw [decide_eq_true hm]) w
open Classical in
theorem rmay_no {n : Nat} (hm : ¬ mayN n) (hn : n ≤ 1000000) (A : Option Addr) (c : Nat) (w : World) :
    Calls Tryd.prog 31 #[.slice A n c] w fun e w' => e = .returned (.bool false) ∧ w' = w := rmay_any n hn A c false (by rw [decide_eq_false hm]) w
theorem own_mono {W : World} {B B' : Nat} {e : TypeId} {v : Value} {n sz : Nat} {xs : List Value} (h : W.ownsRow B' e sz v n xs) (hB : B ≤ B') : W.ownsRow B e sz v n xs := by
  rcases h.2 with h1 | ⟨g, cap, cur, hv, hg, h2⟩
  · exact ⟨h.1, .inl h1⟩
  · exact ⟨h.1, .inr ⟨g, cap, cur, hv, Nat.le_trans hB hg, h2⟩⟩
/-- The first n rows of digests lie behind block g5. -/
def RowsMem (w : World) (g5 n : Nat) (l : List ByteArray) : Prop := g5 < w.heap.size ∧ ∀ k, k < n → ∃ g c, g < w.heap.size ∧ w.cell? ⟨g5, k, none⟩ = some (.slice (some ⟨g, 0, none⟩) (rowB l k).length c) ∧ ∀ j x, (rowB l k)[j]? = some x → w.cell? ⟨g, j, none⟩ = some (.string x)
theorem RowsMem.keep {w w' : World} {g5 n : Nat} {l : List ByteArray} (h : RowsMem w g5 n l) (hb : Below w.heap.size w w') : RowsMem w' g5 n l := by
  refine ⟨Nat.lt_of_lt_of_le h.1 hb.size, fun k hk => ?_⟩
  obtain ⟨g, c, hg, h1, h2⟩ := h.2 k hk
  exact ⟨g, c, Nat.lt_of_lt_of_le hg hb.size, (hb.cell (p := ⟨g5, k, none⟩) h.1).trans h1, fun j x hx => (hb.cell (p := ⟨g, j, none⟩) hg).trans (h2 j x hx)⟩
theorem rows_mem {W : World} {B n : Nat} {v : Value} {vs : List Value} {l : List ByteArray} (hown : W.ownsRow B 22 1 v n vs) (h0 : 0 < n) (hrows : RowsAt W vs l) : ∃ g5 c5, v = .slice (some ⟨g5, 0, none⟩) n c5 ∧ RowsMem W g5 n l := by
  obtain ⟨g5, c5, rfl, hg5, hl, hc⟩ := own_vals hown h0
  refine ⟨g5, c5, rfl, hg5, fun k hk => ?_⟩
  have e : vs[k]? = some (vs[k]'(by omega)) := List.getElem?_eq_getElem (by omega)
  obtain ⟨g, c, hv, hg, hx⟩ := hrows k _ e
  exact ⟨g, c, hg, by rw [hc k _ e, hv], hx⟩

open Classical in
/-- What Root answers. -/
noncomputable def rootR (l : List ByteArray) : ByteArray × Int := if mayN l.length then (toB (rootL sumL (txtsL l) l.length.log2), 0) else (⟨#[]⟩, 1)
theorem rootR_yes {l : List ByteArray} {d : Nat} (hd : l.length = 2 ^ d) (h : d ≤ 10) : rootR l = (toB (rootL sumL (txtsL l) d), 0) := by
  rw [rootR, if_pos ⟨d, h, hd⟩, hd, Nat.log2_two_pow]
theorem rootR_no {l : List ByteArray} (h : ¬ mayN l.length) : rootR l = (⟨#[]⟩, 1) := if_neg h
theorem rroot_any (HS : RSum) (l : List ByteArray) (A : Option Addr) (c : Nat) (hz : l.length ≤ 1000000) (hs : ∀ s ∈ l, s.size ≤ 1000) (r : ByteArray) (k : Int) (hr : rootR l = (r, k)) (w : World) (hA : Sl w A (strsV l)) :
    Calls Tryd.prog 10 #[.slice A l.length c] w fun e w' => e = .returned (.tuple #[.string r, .int .i64 k]) ∧ Below w.heap.size w w' := by
  by_cases hm : mayN l.length
  · obtain ⟨d, hd10, hd⟩ := hm
    have hmay := rmay_yes ⟨d, hd10, hd⟩ hz A c w
    have hrows := rrows_any HS l d hd hd10 hs A c w hA
    rw [rootR_yes hd hd10] at hr
    have hr1 := Lib.hid (Prod.mk.inj hr).1
    obtain rfl := (Prod.mk.inj hr).2
    have HL : Hid ((rowB l d).length = 1) := Lib.hid (by rw [rowB_length l hd (Nat.le_refl _), Nat.sub_self, Nat.pow_zero])
    obtain ⟨n, hn⟩ : ∃ n, l.length = n := ⟨_, rfl⟩
    rw [hn] at hmay hrows ⊢
    clear hn hd hr hA HS hz
    go_enter Tryd.func10, Tryd.ntmps10
    go_wp2_with fail
    refine hmay.mono ?_
    rintro e w ⟨rfl, rfl⟩
    go_wp2_with fail
    refine hrows.mono ?_
    intro e w1 h
    obtain ⟨v, vs, rfl, hown, hra, hb⟩ := h
    obtain ⟨g5, c5, rfl, hrm⟩ := rows_mem hown (by omega) hra
    obtain ⟨g, c1, -, hc1, hc2⟩ := hrm.2 d (by omega)
    rw [HL.out] at hc1
    have hc3 := hc2 0 r (by
      rw [List.getElem?_eq_getElem (by rw [HL.out]; omega), ← hr1.out]
      simp only [rowB, List.getElem_map, rootL, List.getD]
      have h1 := HL.out
      rw [rowB, List.length_map] at h1
      rw [List.getElem?_eq_getElem (by omega)]
      rfl)
    clear hmay hrows hown hra hrm hc2
    have hx : ((d + 1 : Nat) : Int) - 1 = (d : Int) := by omega
    obtain ⟨x, hxx⟩ : ∃ x, d + 1 = x := ⟨_, rfl⟩
    rw [hxx] at hx ⊢
    have hxl : x ≤ 11 := by omega
    have hmx : d < x := by omega
    clear hxx
    go_wp2
    go_ret2
    exact ⟨rfl, hb⟩
  · have hmay := rmay_no hm hz A c w
    rw [rootR_no hm] at hr
    obtain rfl := (Prod.mk.inj hr).1
    obtain rfl := (Prod.mk.inj hr).2
    generalize l.length = n at *
    clear hm
    go_enter Tryd.func10, Tryd.ntmps10
    go_wp2_with fail
    refine hmay.mono ?_
    rintro e w ⟨rfl, rfl⟩
    go_wp2
    go_ret2
    exact ⟨rfl, Below.refl _ _⟩

/-! ### Path -/
open Classical in
/-- What Path answers. -/
noncomputable def pathR (l : List ByteArray) (i : Int) : List ByteArray × Int := if mayN l.length ∧ 0 ≤ i ∧ i < l.length then ((pathL sumL (txtsL l) i.toNat l.length.log2).map toB, 0) else ([], 1)
theorem pathR_yes {l : List ByteArray} {d n : Nat} (hd : l.length = 2 ^ d) (h : d ≤ 10) (hn : n < l.length) : pathR l (n : Int) = ((pathL sumL (txtsL l) n d).map toB, 0) := by
  rw [pathR, if_pos ⟨⟨d, h, hd⟩, by omega, by omega⟩, hd, Nat.log2_two_pow, Int.toNat_natCast]
theorem pathR_no {l : List ByteArray} {i : Int} (h : ¬ (mayN l.length ∧ 0 ≤ i ∧ i < l.length)) : pathR l i = ([], 1) := if_neg h
/-- What a call of Path answers. -/
def PathP (ps : List ByteArray) (k : Int) (W : World) (e : Ending) (W' : World) : Prop :=
  ∃ v, e = .returned (.tuple #[v, .int .i64 k]) ∧ W'.ownsRow W.heap.size 9 1 v ps.length (strsV ps) ∧ Below W.heap.size W W'
theorem path_early (l : List ByteArray) (A : Option Addr) (c : Nat) (hz : l.length ≤ 1000000) (i : Int) (h : ¬ (mayN l.length ∧ 0 ≤ i ∧ i < l.length)) (w : World) :
    Calls Tryd.prog 12 #[.slice A l.length c, .int .i64 i] w fun e w' => e = .returned (.tuple #[.slice none 0 0, .int .i64 1]) ∧ w' = w := by
  by_cases hm : mayN l.length
  · have hmay := rmay_yes hm hz A c w
    have h1 : i < 0 ∨ (l.length : Int) ≤ i := by
      by_cases h2 : i < 0
      · exact .inl h2
      · exact .inr (Int.not_lt.1 fun h3 => h ⟨hm, by omega, h3⟩)
    generalize l.length = n at *
    clear h hm
    by_cases h2 : i < 0
    · clear h1
      go_enter Tryd.func12, Tryd.ntmps12
      go_wp2_with fail
      refine hmay.mono ?_
      rintro e w ⟨rfl, rfl⟩
      go_wp2
      go_ret2
      exact ⟨rfl, rfl⟩
    · have h3 : (n : Int) ≤ i := by omega
      clear h1
      go_enter Tryd.func12, Tryd.ntmps12
      go_wp2_with fail
      refine hmay.mono ?_
      rintro e w ⟨rfl, rfl⟩
      go_wp2
      go_ret2
      exact ⟨rfl, rfl⟩
  · have hmay := rmay_no hm hz A c w
    generalize l.length = n at *
    clear h hm
    go_enter Tryd.func12, Tryd.ntmps12
    go_wp2_with fail
    refine hmay.mono ?_
    rintro e w ⟨rfl, rfl⟩
    go_wp2
    go_ret2
    exact ⟨rfl, rfl⟩
theorem partN_lt {i h : Nat} (hi : i < 2 * h) : partN i < 2 * h := by
  unfold partN
  split <;> omega
theorem half_lt {n k d : Nat} (hn : n < 2 ^ d) (hk : k ≤ d) : n / 2 ^ k < 2 ^ (d - k) := by
  rw [Nat.div_lt_iff_lt_mul (Nat.two_pow_pos k), ← Nat.pow_add, show d - k + k = d by omega]
  exact hn
set_option maxHeartbeats 4000000 in
theorem rpath_any (HS : RSum) (l : List ByteArray) (A : Option Addr) (c : Nat) (hz : l.length ≤ 1000000) (hs : ∀ s ∈ l, s.size ≤ 1000) (i : Int) (ps : List ByteArray) (k : Int) (hr : pathR l i = (ps, k)) (w : World) (hA : Sl w A (strsV l)) :
    Calls Tryd.prog 12 #[.slice A l.length c, .int .i64 i] w fun e w' => PathP ps k w e w' := by
  by_cases hm : mayN l.length ∧ 0 ≤ i ∧ i < l.length
  rotate_left
  · rw [pathR_no hm] at hr
    obtain rfl := (Prod.mk.inj hr).1
    obtain rfl := (Prod.mk.inj hr).2
    exact (path_early l A c hz i hm w).mono fun e w' ⟨he, hw⟩ => ⟨_, he, World.ownsRow_nil _ _ _ _, hw ▸ Below.refl _ _⟩
  obtain ⟨⟨d, hd10, hd⟩, h2, h3⟩ := hm
  obtain ⟨m, rfl⟩ := Int.eq_ofNat_of_zero_le h2
  have hml : m < l.length := by omega
  have hmay := rmay_yes ⟨d, hd10, hd⟩ hz A c w
  have hrows := rrows_any HS l d hd hd10 hs A c w hA
  rw [pathR_yes hd hd10 hml] at hr
  have hp1 := (Prod.mk.inj hr).1
  obtain rfl := (Prod.mk.inj hr).2
  have hpl : ps.length = d := by rw [← hp1, List.length_map, pathL_length]
  have HPL := Lib.hid hpl
  have HK : Hid (∀ q, q < d → ∃ p x, partN (m / 2 ^ q) = p ∧ p < 2048 ∧ p < (rowB l q).length ∧ (rowB l q).length ≤ 2048 ∧ (rowB l q)[p]? = some x ∧ ps[q]? = some x) := Lib.hid fun q hq => by
    have h4 := half_lt (n := m) (k := q) (d := d) (by omega) (by omega)
    have h5 : 2 ^ (d - q) = 2 * 2 ^ (d - q - 1) := by rw [← Nat.pow_succ']; congr 1; omega
    have h6 := partN_lt (i := m / 2 ^ q) (h := 2 ^ (d - q - 1)) (by omega)
    have h7 := rowB_length l hd (k := q) (by omega)
    have h8 : 2 ^ (d - q) ≤ 2 ^ 10 := Nat.pow_le_pow_right (by omega) (by omega)
    have h9 : partN (m / 2 ^ q) < (rowB l q).length := by omega
    refine ⟨_, (rowB l q)[partN (m / 2 ^ q)], rfl, by omega, h9, by omega, List.getElem?_eq_getElem h9, ?_⟩
    rw [← hp1, List.getElem?_map, pathL, List.getElem?_map, List.getElem?_range hq]
    simp only [Option.map_some, Option.some.injEq, rowB, List.getElem_map, List.getD]
    rw [List.getElem?_eq_getElem (by rw [rowB, List.length_map] at h9; exact h9)]
    rfl
  have hm9 : m < 2048 := by have : 2 ^ d ≤ 2 ^ 10 := Nat.pow_le_pow_right (by omega) hd10; omega
  have hn9 : l.length < 2048 := by have : 2 ^ d ≤ 2 ^ 10 := Nat.pow_le_pow_right (by omega) hd10; omega
  obtain ⟨n, hn⟩ : ∃ n, l.length = n := ⟨_, rfl⟩
  rw [hn] at hmay hrows hml hn9 ⊢
  have t1 : ¬ (m : Int) < 0 := by omega
  have t2 : ¬ (n : Int) ≤ (m : Int) := by omega
  clear hn hd hr hA HS hz h2 h3 hp1 hpl
  obtain ⟨i0, hI0, hz0, hz1, hz2⟩ := info_parts string_info
  go_enter Tryd.func12, Tryd.ntmps12
  go_wp2_with fail
  refine hmay.mono ?_
  rintro e w ⟨rfl, rfl⟩
  go_wp2_with fail
  refine hrows.mono ?_
  intro e w1 h
  obtain ⟨v, vs, rfl, hown, hra, hb⟩ := h
  obtain ⟨g5, c5, rfl, hrm⟩ := rows_mem hown (by omega) hra
  clear hown hra hmay hrows
  have hx : ((d + 1 : Nat) : Int) - 1 = (d : Int) := by omega
  obtain ⟨x, hxx⟩ : ∃ x, d + 1 = x := ⟨_, rfl⟩
  rw [hxx] at hx hrm ⊢
  have HXX := Lib.hid hxx
  have hxl : x ≤ 11 := by omega
  clear hxx
  go_wp2
  go_loopw [1, 7, 8] (fun i v kk wr => ∃ k y : Nat, k ≤ d ∧ i = .int .i64 (y : Int) ∧ kk = .int .i64 (k : Int) ∧ Hid (y = m / 2 ^ k) ∧ y < 2048 ∧ wr.ownsRow w1.heap.size 9 1 v k (strsV (ps.take k)) ∧ Below w1.heap.size w1 wr) (fun _ _ kk _ => d - (intOf kk).toNat)
  case atStart => exact ⟨0, m, by omega, rfl, rfl, Lib.hid (by simp), hm9, World.ownsRow_nil _ _ _ _, Below.refl _ _⟩
  case round =>
    obtain ⟨k, y, hk, rfl, rfl, hy, hyl, hown, hb1⟩ := hrel
    by_cases hlt : k < d
    · obtain ⟨p, s, hpp, hp9, hpr, hrl, hps, hpk⟩ := HK.out k hlt
      obtain ⟨g, c1, hg, hc1, hc2⟩ := (hrm.keep hb1).2 k (by have := HXX.out; omega)
      have hc3 := hc2 p s hps
      obtain ⟨z, hz⟩ : ∃ z, (rowB l k).length = z := ⟨_, rfl⟩
      rw [hz] at hc1 hpr hrl
      have hpart := rpartner_any y (by omega)
      rw [hy.out, hpp, ← hy.out] at hpart
      have HY : Hid (y / 2 = m / 2 ^ (k + 1)) := Lib.hid (by rw [hy.out, Nat.div_div_eq_div_mul, Nat.pow_succ])
      have HSN : Hid (strsV (ps.take k) ++ [Value.string s] = strsV (ps.take (k + 1))) := Lib.hid (strs_snoc _ hpk)
      have hkx : k < x := by have := HXX.out; omega
      have hw1 : IntKind.i64.wrap (p : Int) = (p : Int) := IntWalk.i64_in _ (by omega)
      clear hpp hps hpk hc2 hz
      go_wp2_with fail
      refine Uptot.begin_ [7] (fun _ => True) (fun w' => w'.cell? ⟨g5, k, none⟩ = some (.slice (some ⟨g, 0, none⟩) z c1)) (by kernel_rfl) ?_
      have hST : True ∧ wr.drew.cell? ⟨g5, k, none⟩ = some (.slice (some ⟨g, 0, none⟩) z c1) := ⟨trivial, hc1⟩
      have hcD : wr.drew.cell? ⟨g, p, none⟩ = some (.string s) := hc3
      have hownD := hown.drew
      have hbD := hb1.drew
      clear hown hb1 hc1 hc3 hg
      generalize wr.drew = V2 at *
      refine Uptot.takeS (i := 0) (v := ?_) rfl (by kernel_rfl) (by kernel_rfl) (by kernel_rfl) (by kernel_rfl) (fun _ _ _ h => h) (Or.inl ⟨by rfl, ?_⟩) hST ?_
      rotate_left 1
      · intro w9 hSw; go_simp; (try with_reducible rfl)
      try simp only [Act.put, List.setIfInBounds_toArray, List.set_cons_zero, List.set_cons_succ]
      refine Uptot.takeS (i := 1) (v := ?_) rfl (by kernel_rfl) (by kernel_rfl) (by kernel_rfl) (by kernel_rfl) (fun _ _ _ h => h) (Or.inl ⟨by rfl, ?_⟩) hST ?_
      rotate_left 1
      · intro w9 hSw; go_simp; (try with_reducible rfl)
      try simp only [Act.put, List.setIfInBounds_toArray, List.set_cons_zero, List.set_cons_succ]
      refine Uptot.takeS (i := 2) (v := ?_) rfl (by kernel_rfl) (by kernel_rfl) (by kernel_rfl) (by kernel_rfl) (fun _ _ _ h => h) (Or.inl ⟨by rfl, ?_⟩) hST ?_
      rotate_left 1
      · intro w9 hSw; go_simp; (try with_reducible rfl)
      try simp only [Act.put, List.setIfInBounds_toArray, List.set_cons_zero, List.set_cons_succ]
      refine Uptot.takeS (i := 3) (v := ?_) rfl (by kernel_rfl) (by kernel_rfl) (by kernel_rfl) (by kernel_rfl) (fun _ _ _ h => h) (Or.inl ⟨by rfl, ?_⟩) hST ?_
      rotate_left 1
      · intro w9 hSw; go_simp; (try with_reducible rfl)
      try simp only [Act.put, List.setIfInBounds_toArray, List.set_cons_zero, List.set_cons_succ]
      refine Uptot.take (i := 4) (v := ?_) rfl (by kernel_rfl) (by kernel_rfl) (by kernel_rfl) (by kernel_rfl) (fun _ _ _ h => h) (Or.inl ⟨by rfl, ?_⟩) hST ?_
      rotate_left 1
      · intro w9 hSw; (try dsimp only at hSw); obtain ⟨-, h91⟩ := hSw; go_simp; (try with_reducible rfl)
      try simp only [Act.put, List.setIfInBounds_toArray, List.set_cons_zero, List.set_cons_succ]
      refine Uptot.takeS (i := 5) (v := ?_) rfl (by kernel_rfl) (by kernel_rfl) (by kernel_rfl) (by kernel_rfl) (fun _ _ _ h => h) (Or.inl ⟨by rfl, ?_⟩) hST ?_
      rotate_left 1
      · intro w9 hSw; go_simp; (try with_reducible rfl)
      try simp only [Act.put, List.setIfInBounds_toArray, List.set_cons_zero, List.set_cons_succ]
      refine Uptot.one (i := 6) rfl (by kernel_rfl) (fun K hK9 => ?_)
      go_simp
      go_at_call 33
      refine (hpart V2).mono ?_
      rintro e w3 ⟨rfl, rfl⟩
      refine hK9.out _ _ (Cond.ahead hST) ?_
      clear hK9 K
      try simp only [Act.put, List.setIfInBounds_toArray, List.set_cons_zero, List.set_cons_succ]
      refine Uptot.one (i := 7) rfl (by kernel_rfl) (fun K hK9 => ?_)
      go_simp
      refine hK9.out _ _ (Cond.behind trivial (by kernel_rfl)) ?_
      clear hK9 K
      try simp only [Act.put, List.setIfInBounds_toArray, List.set_cons_zero, List.set_cons_succ]
      refine Uptot.one (i := 8) rfl (by kernel_rfl) (fun K hK9 => ?_)
      go_simp
      refine hK9.out _ _ (Cond.behind trivial (by kernel_rfl)) ?_
      clear hK9 K
      try simp only [Act.put, List.setIfInBounds_toArray, List.set_cons_zero, List.set_cons_succ]
      refine Uptot.one (i := 9) rfl (by kernel_rfl) (fun K hK9 => ?_)
      go_simp
      refine hK9.out _ _ (Cond.behind trivial (by kernel_rfl)) ?_
      clear hK9 K
      try simp only [Act.put, List.setIfInBounds_toArray, List.set_cons_zero, List.set_cons_succ]
      refine Uptot.one (i := 10) rfl (by kernel_rfl) (fun K hK9 => ?_)
      refine step_append_lies _ (by rfl) _ _ _ (by rfl) w1.heap.size 9 i0 _ 1 16 Tryd.underlying22 hI0 hz0 hz1 hz2 rfl (by omega) u7 k _ (by rfl) (hownD.alloc _) ⟨w3.heap.size, 0, none⟩ 1 1 [.string s] (by rfl) (by rfl) (by intro j u hj; match j, hj with | 0, hj => (simp at hj; subst hj; simp [Addr.add])) (by simp [Value.oneCell']) (by omega) (by unfold maxLen; omega) (by omega) (by have := hbD.size; simp; omega) (w3.heap.size + 1) (by simp) ?_
      intro gg cap w4 hown4 hgrow _ _
      refine hK9.out _ _ (Cond.behind trivial (by kernel_rfl)) ?_
      clear hK9 K
      try simp only [Act.put, List.setIfInBounds_toArray, List.set_cons_zero, List.set_cons_succ]
      refine Uptot.one (i := 11) rfl (by kernel_rfl) (fun K hK9 => ?_)
      go_simp
      refine hK9.out _ _ (Cond.behind trivial (by kernel_rfl)) ?_
      clear hK9 K
      try simp only [Act.put, List.setIfInBounds_toArray, List.set_cons_zero, List.set_cons_succ]
      refine Uptot.done (by kernel_rfl) ?_ _
      have hb4 := own_below (hownD.alloc (.cells #[.string s] 9)) (hbD.al _) hgrow
      rw [HSN.out] at hown4
      have hm2 := Int.tdiv_eq_ediv_of_nonneg (a := (y : Int)) (by omega) (b := 2)
      clear hownD hbD hgrow hpart
      go_wp2
      go_roundw
      case rel => exact ⟨k + 1, y / 2, by omega, by simp, by go_num, HY, by omega, hown4, hb4⟩
      case measure => simp [intOf]; omega
    · obtain rfl : k = d := by omega
      rw [List.take_of_length_le (by rw [HPL.out]; omega)] at hown
      have HR : Hid (PathP ps 0 w (.returned (.tuple #[u7, .int .i64 0])) wr) := Lib.hid ⟨_, rfl, by rw [HPL.out]; exact own_mono hown hb.size, hb.next hb1⟩
      clear hown hb hb1
      go_wp2
      go_ret2
      exact HR.out
end Go.Proofs.YtgcohoonhklkbaaDoor

/-
  keyholeref01.Texts, keyholeref01.Own, keyholeref11.Big: the contracts.
-/
namespace Go.Proofs.YtgcohoonhklkbaaDoor
open Go.RowKit Go.Kx
set_option maxRecDepth 20000

theorem str_eq (a b : ByteArray) : (a.toList == b.toList) = decide (a = b) := by
  rw [Lib.toList_data, Lib.toList_data]
  by_cases h : a = b
  · rw [h]; simp
  · rw [decide_eq_false h, beq_eq_false_iff_ne]
    exact fun e => h (ByteArray.ext (Array.toList_inj.1 e))
theorem takeB_eq {xs ys : List ByteArray} {k : Nat} {x : ByteArray} (hx : xs[k]? = some x) (hy : ys[k]? = some x) (h : xs.take k = ys.take k) : xs.take (k + 1) = ys.take (k + 1) := by
  rw [List.take_add_one, List.take_add_one, h, hx, hy]
theorem texts_any (A B : Option Addr) (c d : Nat) (xs ys : List ByteArray) (w : World) (hx : xs.length ≤ 1000000) (b : Bool) (hb : b = decide (xs = ys)) (hA : Sl w A (strsV xs)) (hB : Sl w B (strsV ys)) :
    Calls Tryd.prog 13 #[.slice A xs.length c, .slice B ys.length d] w fun e w' => e = .returned (.bool b) ∧ ∃ n, w' = w.drewN n := by
  have HB := Lib.hid hb
  clear hb
  by_cases hl : xs.length = ys.length
  · have HL := Lib.hid hl
    have hne : ((xs.length : Int) != (ys.length : Int)) = false := by simp [hl]
    have HSA := Lib.hid hA
    have HSB := Lib.hid hB
    obtain ⟨n, hn⟩ : ∃ n, xs.length = n := ⟨_, rfl⟩
    obtain ⟨m, hm⟩ : ∃ m, ys.length = m := ⟨_, rfl⟩
    have HN := Lib.hid hn
    have HM := Lib.hid hm
    have hnm : m = n := by omega
    have hm6 : m ≤ 1000000 := by omega
    rw [hn, hm] at hne ⊢
    subst hnm
    clear hl hn hm hA hB
    go_enter Tryd.func13, Tryd.ntmps13
    go_wp2
    go_loopw [5] (fun i wr => ∃ k q : Nat, k ≤ m ∧ i = .int .i64 (k : Int) ∧ wr = w.drewN q ∧ xs.take k = ys.take k) (fun i _ => m - (intOf i).toNat)
    case atStart => exact ⟨0, 0, Nat.zero_le _, rfl, rfl, rfl⟩
    case round =>
      obtain ⟨k, q, hk, rfl, rfl, ht⟩ := hrel
      have HT := Lib.hid ht
      clear ht
      by_cases hlt : k < m
      · have hkx : k < xs.length := by rw [HN.out]; exact hlt
        have hky : k < ys.length := by rw [HM.out]; exact hlt
        obtain ⟨b1, o1, rfl, hc1⟩ := sl_strV HSA.out hkx
        obtain ⟨b2, o2, rfl, hc2⟩ := sl_strV HSB.out hky
        obtain ⟨x, hx1⟩ : ∃ x, xs[k] = x := ⟨_, rfl⟩
        obtain ⟨y, hy1⟩ : ∃ y, ys[k] = y := ⟨_, rfl⟩
        rw [hx1] at hc1
        rw [hy1] at hc2
        have e1 : Hid (xs[k]? = some x) := Lib.hid (by rw [List.getElem?_eq_getElem hkx, hx1])
        have e2 : Hid (ys[k]? = some y) := Lib.hid (by rw [List.getElem?_eq_getElem hky, hy1])
        have hk1 : (k : Int) < (m : Int) := by omega
        clear hkx hky hx1 hy1
        by_cases hxy : x = y
        · subst hxy
          have HE : Hid (xs.take (k + 1) = ys.take (k + 1)) := Lib.hid (takeB_eq e1.out e2.out HT.out)
          go_wp2
          go_quiet (fail)
          go_wp2
          go_roundw
          case rel => exact ⟨k + 1, _, by omega, by go_num, rfl, HE.out⟩
          case measure => simp [intOf]; omega
        · have hbq : (x.toList == y.toList) = false := by rw [str_eq, decide_eq_false hxy]
          have HF : Hid (b = false) := Lib.hid (by
            rw [HB.out, decide_eq_false]
            rintro rfl
            have := e1.out
            rw [e2.out] at this
            exact hxy (Option.some.inj this).symm)
          clear hxy
          go_wp2
          go_quiet (fail)
          go_wp2
          go_ret
          exact ⟨ret_bool HF.out.symm, _, World.drewN_drewN _ _ _⟩
      · obtain rfl : k = m := by omega
        have HF : Hid (b = true) := Lib.hid (by
          have h := HT.out
          rw [List.take_of_length_le (by rw [HN.out]; omega), List.take_of_length_le (by rw [HM.out]; omega)] at h
          rw [HB.out, decide_eq_true h])
        go_wp2
        go_ret
        exact ⟨ret_bool HF.out.symm, _, rfl⟩
  · have hne : ((xs.length : Int) != (ys.length : Int)) = true := by rw [bne_iff_ne]; omega
    have HF : Hid (b = false) := Lib.hid (by rw [HB.out, decide_eq_false]; rintro rfl; exact hl rfl)
    go_enter Tryd.func13, Tryd.ntmps13
    go_wp2
    go_ret
    exact ⟨ret_bool HF.out.symm, 0, rfl⟩

/-! ### Big -/
/-- Are texts more than are looked at? -/
def bigN (l : List ByteArray) : Prop := (16 < l.length ∧ l.length ≤ 1024) ∨ 1100 < l.length ∨ ∃ s ∈ l, 200 < s.size
theorem rbig_any (l : List ByteArray) (hz : l.length ≤ 9223372036854775807) (hs : ∀ s ∈ l, s.size ≤ 9223372036854775807) (A : Option Addr) (c : Nat) (w : World) (hA : Sl w A (strsV l)) :
    Calls Tryd.prog 7 #[.slice A l.length c] w fun e w' => ((bigN l ∧ e = .returned (.bool true)) ∨ (¬ bigN l ∧ e = .returned (.bool false))) ∧ w' = w := by
  have HSA := Lib.hid hA
  have HS := Lib.hid hs
  obtain ⟨n, hn⟩ : ∃ n, l.length = n := ⟨_, rfl⟩
  have HN := Lib.hid hn
  rw [hn] at hz ⊢
  clear hn hA hs
  have HYES : Hid (((16 < n ∧ n ≤ 1024) ∨ 1100 < n) → bigN l) := Lib.hid fun h => by
    rw [← HN.out] at h
    rcases h with h | h
    · exact .inl h
    · exact .inr (.inl h)
  by_cases h1 : 1100 < n
  · have HB := Lib.hid (HYES.out (.inr h1))
    have t1 : (16 : Int) < (n : Int) := by omega
    have t2 : ¬ (n : Int) ≤ 1024 := by omega
    have t3 : (1100 : Int) < (n : Int) := by omega
    go_enter Tryd.func7, Tryd.ntmps7
    go_wp2
    go_ret
    exact ⟨.inl ⟨HB.out, rfl⟩, rfl⟩
  · by_cases h2 : 16 < n ∧ n ≤ 1024
    · have HB := Lib.hid (HYES.out (.inl h2))
      have t1 : (16 : Int) < (n : Int) := by omega
      have t2 : (n : Int) ≤ 1024 := by omega
      clear h2
      go_enter Tryd.func7, Tryd.ntmps7
      go_wp2
      go_ret
      exact ⟨.inl ⟨HB.out, rfl⟩, rfl⟩
    · have HNO : Hid ((∀ k, (hk : k < l.length) → l[k].size ≤ 200) → ¬ bigN l) := Lib.hid fun h3 h4 => by
        rcases h4 with h5 | h5 | ⟨s, hs, h5⟩
        · rw [HN.out] at h5; exact h2 h5
        · rw [HN.out] at h5; exact h1 h5
        · obtain ⟨k, hk, rfl⟩ := List.getElem_of_mem hs
          have := h3 k hk
          omega
      have t3 : ¬ (1100 : Int) < (n : Int) := by omega
      rcases (by omega : n ≤ 16 ∨ (16 < n ∧ 1024 < n)) with t | t
      all_goals
        first
          | have t1 : ¬ (16 : Int) < (n : Int) := by omega
          | (have t1 : (16 : Int) < (n : Int) := by omega
             have t2 : ¬ (n : Int) ≤ 1024 := by omega)
        clear t h2 HYES
        go_enter Tryd.func7, Tryd.ntmps7
        go_wp2
        go_loopw [3] (fun i wr => ∃ k : Nat, k ≤ n ∧ i = .int .i64 (k : Int) ∧ wr = w ∧ Hid (∀ j, (hj : j < l.length) → j < k → l[j].size ≤ 200)) (fun i _ => n - (intOf i).toNat)
        case atStart => exact ⟨0, Nat.zero_le _, rfl, rfl, Lib.hid fun j _ h => by omega⟩
        case round =>
          obtain ⟨k, hk, rfl, rfl, ha⟩ := hrel
          by_cases hlt : k < n
          · have hkl : k < l.length := by rw [HN.out]; exact hlt
            obtain ⟨b1, o1, rfl, hc1⟩ := sl_strV HSA.out hkl
            obtain ⟨x, hx1⟩ : ∃ x, l[k] = x := ⟨_, rfl⟩
            have hxz : x.size ≤ 9223372036854775807 := by rw [← hx1]; exact HS.out _ (List.getElem_mem _)
            rw [hx1] at hc1
            by_cases hx : 200 < x.size
            · have HB : Hid (bigN l) := Lib.hid (.inr (.inr ⟨x, by rw [← hx1]; exact List.getElem_mem _, hx⟩))
              have t5 : (200 : Int) < (x.size : Int) := by omega
              clear hx1
              go_wp2
              go_ret
              exact ⟨.inl ⟨HB.out, rfl⟩, rfl⟩
            · have HA : Hid (∀ j, (hj : j < l.length) → j < k + 1 → l[j].size ≤ 200) := Lib.hid fun j hj hjk => by
                rcases (by omega : j < k ∨ j = k) with h | rfl
                · exact ha.out j hj h
                · rw [hx1]; omega
              have t5 : ¬ (200 : Int) < (x.size : Int) := by omega
              clear hx1
              go_wp2
              go_roundw
              case rel => exact ⟨k + 1, by omega, by go_num, trivial, HA⟩
              case measure => simp [intOf]; omega
          · obtain rfl : k = n := by omega
            have HB : Hid (¬ bigN l) := Lib.hid (HNO.out fun j hj => ha.out j hj (by rw [← HN.out]; exact hj))
            go_wp2
            go_ret
            exact ⟨.inr ⟨HB.out, rfl⟩, rfl⟩

/-! ### Own -/
theorem own_texts (l : List ByteArray) (hz : l.length ≤ 1000000) (A : Option Addr) (c : Nat) (w : World) (hA : Sl w A (strsV l)) :
    Calls Tryd.prog 8 #[.slice A l.length c] w fun e w' => ∃ v, e = .returned v ∧ w'.ownsRow w.heap.size 9 1 v l.length (strsV l) ∧ Below w.heap.size w w' := by
  obtain ⟨i0, hI0, hz0, hz1, hz2⟩ := info_parts string_info
  rcases Nat.eq_zero_or_pos l.length with h0 | h0
  · have hl : l = [] := List.eq_nil_of_length_eq_zero h0
    subst hl
    rw [List.length_nil]
    rcases A with _ | a
    all_goals
      go_enter Tryd.func8, Tryd.ntmps8
      go_wp2
      go_ret
      exact ⟨_, rfl, World.ownsRow_nil _ _ _ _, Below.refl _ _⟩
  · obtain ⟨b, off, u, rfl, -, -⟩ := hA.at_ (k := 0) (by rw [strsV_length]; exact h0)
    have hcells : ∀ (j : Nat) u, (strsV l)[j]? = some u → w.cell? ((⟨b, off, none⟩ : Addr).add j) = some u := fun j u hu => by
      rcases hA with h | ⟨b', off', e, _, hc⟩
      · rw [h] at hu; cases hu
      · obtain ⟨rfl, rfl⟩ : b = b' ∧ off = off' := by simpa using e
        rw [show (⟨b, off, none⟩ : Addr).add j = ⟨b, off + j, none⟩ by unfold Addr.add; split <;> simp_all]
        exact hc j u hu
    have HC := Lib.hid hcells
    have hlen : (strsV l).length = l.length * 1 := by rw [strsV_length, Nat.mul_one]
    have HLEN := Lib.hid hlen
    clear hcells hA hlen
    go_enter Tryd.func8, Tryd.ntmps8
    go_wp2_with (first
      | (at_builtin; refine wpList_append_own _ rfl _ _ 22 rfl w.heap.size 9 i0 (.string ⟨#[]⟩) 1 16 Tryd.underlying22 hI0 hz0 hz1 hz2 rfl (by decide) _ 0 [] rfl (World.ownsRow_nil _ _ _ _) ⟨b, off, none⟩ l.length c (strsV l) rfl HLEN.out ?c1 ?c2 ?c3 ?c4 ?c5 ?_)
      | go_in)
    case c1 => exact HC.out
    case c2 => exact strsV_cell
    case c3 => unfold maxLen; omega
    case c4 => omega
    case c5 => exact Nat.le_refl _
    intro v' w4 hown' hgrow _
    have hb4 := own_below (World.ownsRow_nil w w.heap.size 9 1) (Below.refl _ _) hgrow
    clear hgrow
    go_wp2
    go_ret
    exact ⟨_, rfl, hown', hb4⟩
end Go.Proofs.YtgcohoonhklkbaaDoor

/-
  keyholeref11: the contract of below.
-/
namespace Go.Proofs.YtgcohoonhklkbaaDoor
open Go.RowKit Go.Kx Go.Trm
set_option maxRecDepth 20000

/-- What a digest of a row is the Sum of. -/
def belowL (l : List Txt) (r k : Nat) : Txt := if r = 0 then ofLeafL (l.getD k []) else ofNodeL ((rowL sumL l (r - 1)).getD (2 * k) []) ((rowL sumL l (r - 1)).getD (2 * k + 1) [])
theorem below_row (l : List Txt) {d r k : Nat} (hl : l.length = 2 ^ d) (hr : r ≤ d) (hk : k < 2 ^ (d - r)) : (rowL sumL l r).getD k [] = sumL (belowL l r k) := by
  cases r with
  | zero =>
    rw [belowL, if_pos rfl, rowL, List.getD, List.getElem?_map, List.getD, List.getElem?_eq_getElem (by rw [hl]; exact hk)]
    rfl
  | succ r =>
    rw [belowL, if_neg (by omega), Nat.add_sub_cancel, rowL_get sumL l hl r k (by omega) hk]
    rfl
theorem rbelow_any (l : List ByteArray) (d : Nat) (hd : l.length = 2 ^ d) (hd10 : d ≤ 10) (hs : ∀ s ∈ l, s.size ≤ 1000) (A : Option Addr) (c c5 g5 : Nat) (r k : Nat) (hr : r ≤ d) (hk : k < 2 ^ (d - r)) (n : Nat) (hn : n = d + 1) (z : ByteArray) (hz : belowL (txtsL l) r k = z.data.toList)
    (w : World) (hA : Sl w A (strsV l)) (hM : RowsMem w g5 n l) :
    Calls Tryd.prog 45 #[.slice A l.length c, .slice (some ⟨g5, 0, none⟩) n c5, .int .i64 (r : Int), .int .i64 (k : Int)] w fun e w' => e = .returned (.string z) ∧ ∃ q, w' = w.drewN q := by
  have hpk : 2 ^ (d - r) ≤ 2 ^ 10 := Nat.pow_le_pow_right (by omega) (by omega)
  have hk9 : k < 1024 := by omega
  cases r with
  | zero =>
    have hkl : k < l.length := by rw [hd]; exact hk
    obtain ⟨b, off, rfl, hc⟩ := sl_strV hA hkl
    obtain ⟨p, hp⟩ : ∃ p, l[k] = p := ⟨_, rfl⟩
    have hps : p.size ≤ 1000 := by rw [← hp]; exact hs _ (List.getElem_mem _)
    rw [hp] at hc
    have hleaf := rofLeaf_any p z (by omega) (by rw [← hz, belowL, if_pos rfl, txtsL_get l hkl, hp]) w
    have hkl2 : (k : Int) < (l.length : Int) := by omega
    clear hp hz hd hs hA hM hk hpk hn
    generalize l.length = m at *
    go_enter Tryd.func45, Tryd.ntmps45
    go_wp2_with fail
    refine hleaf.mono ?_
    rintro e w1 ⟨rfl, rfl⟩
    go_wp2
    go_ret
    exact ⟨rfl, 0, rfl⟩
  | succ r =>
    obtain ⟨g, c1, -, hc1, hc2⟩ := hM.2 r (by omega)
    have hlen := rowB_length l hd (k := r) (by omega)
    have h5 : 2 ^ (d - r) = 2 * 2 ^ (d - (r + 1)) := by rw [← Nat.pow_succ']; congr 1; omega
    have h6 : 2 * k + 1 < (rowB l r).length := by omega
    obtain ⟨a, ha⟩ : ∃ a, (rowB l r)[2 * k]? = some a := ⟨_, List.getElem?_eq_getElem (by omega)⟩
    obtain ⟨b, hb⟩ : ∃ b, (rowB l r)[2 * k + 1]? = some b := ⟨_, List.getElem?_eq_getElem h6⟩
    have haz := rowB_len32 l hd (k := r) (by omega) ha
    have hbz := rowB_len32 l hd (k := r) (by omega) hb
    have hca := hc2 _ _ ha
    have hcb := hc2 _ _ hb
    have hnode := rofNode_any a b z (by omega) (by omega) (by rw [← hz, belowL, if_neg (by omega), Nat.add_sub_cancel, rowB_get l ha, rowB_get l hb])
    obtain ⟨m, hm⟩ : ∃ m, (rowB l r).length = m := ⟨_, rfl⟩
    obtain ⟨x, hx⟩ : ∃ x, 2 * k = x := ⟨_, rfl⟩
    obtain ⟨x1, hx1⟩ : ∃ x1, x + 1 = x1 := ⟨_, rfl⟩
    obtain ⟨r1, hr1⟩ : ∃ r1, r + 1 = r1 := ⟨_, rfl⟩
    rw [hm] at hc1 h6
    rw [hx] at hca hcb h6
    rw [hx1] at hcb h6
    rw [hr1]
    have e1 : (2 : Int) * (k : Int) = (x : Int) := by omega
    have e2 : (x : Int) + 1 = (x1 : Int) := by omega
    have e3 : (r1 : Int) - 1 = (r : Int) := by omega
    have t1 : ((r1 : Int) == 0) = false := by rw [beq_eq_false_iff_ne]; omega
    have w1 : IntKind.i64.wrap (x : Int) = (x : Int) := IntWalk.i64_in _ (by omega)
    have w2 : IntKind.i64.wrap (x1 : Int) = (x1 : Int) := IntWalk.i64_in _ (by omega)
    have w3 : IntKind.i64.wrap (r : Int) = (r : Int) := IntWalk.i64_in _ (by omega)
    have p1 : (0 : Int) ≤ (x : Int) := by omega
    have p2 : (0 : Int) ≤ (x1 : Int) := by omega
    have p3 : (0 : Int) ≤ (r : Int) := by omega
    have q1 : (x : Int) < (m : Int) := by omega
    have q2 : (x1 : Int) < (m : Int) := by omega
    have q3 : (r : Int) < (n : Int) := by omega
    have hrn : r < n := by omega
    have hxm : x < m := by omega
    clear hm hx hx1 hr1 ha hb hc2 h5 hlen hz hd hs hA hM hk hpk hn haz hbz hr
    generalize l.length = y at *
    go_enter Tryd.func45, Tryd.ntmps45
    go_wp2_with fail
    refine Uptot.begin_ [] (fun w' => w'.cell? ⟨g5, r, none⟩ = some (.slice (some ⟨g, 0, none⟩) m c1) ∧ w'.cell? ⟨g, x, none⟩ = some (.string a) ∧ w'.cell? ⟨g, x1, none⟩ = some (.string b)) (fun _ => True) (by kernel_rfl) ?_
    have hST : (w.drew.cell? ⟨g5, r, none⟩ = some (.slice (some ⟨g, 0, none⟩) m c1) ∧ w.drew.cell? ⟨g, x, none⟩ = some (.string a) ∧ w.drew.cell? ⟨g, x1, none⟩ = some (.string b)) ∧ True := ⟨⟨hc1, hca, hcb⟩, trivial⟩
    have hw : Hid (w.drew = w.drewN 1) := Lib.hid rfl
    generalize w.drew = V2 at *
    refine Uptot.takeS (i := 0) (v := ?_) rfl (by kernel_rfl) (by kernel_rfl) (by kernel_rfl) (by kernel_rfl) (fun _ _ _ h => h) (Or.inl ⟨by rfl, ?_⟩) hST ?_
    rotate_left 1
    · intro w9 hSw; (try dsimp only at hSw); obtain ⟨h90, h91, h92⟩ := hSw; go_simp; (try with_reducible rfl)
    try simp only [Act.put, List.setIfInBounds_toArray, List.set_cons_zero, List.set_cons_succ]
    refine Uptot.takeS (i := 1) (v := ?_) rfl (by kernel_rfl) (by kernel_rfl) (by kernel_rfl) (by kernel_rfl) (fun _ _ _ h => h) (Or.inl ⟨by rfl, ?_⟩) hST ?_
    rotate_left 1
    · intro w9 hSw; (try dsimp only at hSw); obtain ⟨h90, h91, h92⟩ := hSw; go_simp; (try with_reducible rfl)
    try simp only [Act.put, List.setIfInBounds_toArray, List.set_cons_zero, List.set_cons_succ]
    refine Uptot.takeS (i := 2) (v := ?_) rfl (by kernel_rfl) (by kernel_rfl) (by kernel_rfl) (by kernel_rfl) (fun _ _ _ h => h) (Or.inl ⟨by rfl, ?_⟩) hST ?_
    rotate_left 1
    · intro w9 hSw; (try dsimp only at hSw); obtain ⟨h90, h91, h92⟩ := hSw; go_simp; (try with_reducible rfl)
    try simp only [Act.put, List.setIfInBounds_toArray, List.set_cons_zero, List.set_cons_succ]
    refine Uptot.takeS (i := 3) (v := ?_) rfl (by kernel_rfl) (by kernel_rfl) (by kernel_rfl) (by kernel_rfl) (fun _ _ _ h => h) (Or.inl ⟨by rfl, ?_⟩) hST ?_
    rotate_left 1
    · intro w9 hSw; (try dsimp only at hSw); obtain ⟨h90, h91, h92⟩ := hSw; go_simp; (try with_reducible rfl)
    try simp only [Act.put, List.setIfInBounds_toArray, List.set_cons_zero, List.set_cons_succ]
    refine Uptot.takeS (i := 4) (v := ?_) rfl (by kernel_rfl) (by kernel_rfl) (by kernel_rfl) (by kernel_rfl) (fun _ _ _ h => h) (Or.inl ⟨by rfl, ?_⟩) hST ?_
    rotate_left 1
    · intro w9 hSw; (try dsimp only at hSw); obtain ⟨h90, h91, h92⟩ := hSw; go_simp; (try with_reducible rfl)
    try simp only [Act.put, List.setIfInBounds_toArray, List.set_cons_zero, List.set_cons_succ]
    refine Uptot.takeS (i := 5) (v := ?_) rfl (by kernel_rfl) (by kernel_rfl) (by kernel_rfl) (by kernel_rfl) (fun _ _ _ h => h) (Or.inl ⟨by rfl, ?_⟩) hST ?_
    rotate_left 1
    · intro w9 hSw; (try dsimp only at hSw); obtain ⟨h90, h91, h92⟩ := hSw; go_simp; (try with_reducible rfl)
    try simp only [Act.put, List.setIfInBounds_toArray, List.set_cons_zero, List.set_cons_succ]
    refine Uptot.takeS (i := 6) (v := ?_) rfl (by kernel_rfl) (by kernel_rfl) (by kernel_rfl) (by kernel_rfl) (fun _ _ _ h => h) (Or.inl ⟨by rfl, ?_⟩) hST ?_
    rotate_left 1
    · intro w9 hSw; (try dsimp only at hSw); obtain ⟨h90, h91, h92⟩ := hSw; go_simp; (try with_reducible rfl)
    try simp only [Act.put, List.setIfInBounds_toArray, List.set_cons_zero, List.set_cons_succ]
    refine Uptot.takeS (i := 7) (v := ?_) rfl (by kernel_rfl) (by kernel_rfl) (by kernel_rfl) (by kernel_rfl) (fun _ _ _ h => h) (Or.inl ⟨by rfl, ?_⟩) hST ?_
    rotate_left 1
    · intro w9 hSw; (try dsimp only at hSw); obtain ⟨h90, h91, h92⟩ := hSw; go_simp; (try with_reducible rfl)
    try simp only [Act.put, List.setIfInBounds_toArray, List.set_cons_zero, List.set_cons_succ]
    refine Uptot.takeS (i := 8) (v := ?_) rfl (by kernel_rfl) (by kernel_rfl) (by kernel_rfl) (by kernel_rfl) (fun _ _ _ h => h) (Or.inl ⟨by rfl, ?_⟩) hST ?_
    rotate_left 1
    · intro w9 hSw; (try dsimp only at hSw); obtain ⟨h90, h91, h92⟩ := hSw; go_simp; (try with_reducible rfl)
    try simp only [Act.put, List.setIfInBounds_toArray, List.set_cons_zero, List.set_cons_succ]
    refine Uptot.takeS (i := 9) (v := ?_) rfl (by kernel_rfl) (by kernel_rfl) (by kernel_rfl) (by kernel_rfl) (fun _ _ _ h => h) (Or.inl ⟨by rfl, ?_⟩) hST ?_
    rotate_left 1
    · intro w9 hSw; (try dsimp only at hSw); obtain ⟨h90, h91, h92⟩ := hSw; go_simp; (try with_reducible rfl)
    try simp only [Act.put, List.setIfInBounds_toArray, List.set_cons_zero, List.set_cons_succ]
    refine Uptot.takeS (i := 10) (v := ?_) rfl (by kernel_rfl) (by kernel_rfl) (by kernel_rfl) (by kernel_rfl) (fun _ _ _ h => h) (Or.inl ⟨by rfl, ?_⟩) hST ?_
    rotate_left 1
    · intro w9 hSw; (try dsimp only at hSw); obtain ⟨h90, h91, h92⟩ := hSw; go_simp; (try with_reducible rfl)
    try simp only [Act.put, List.setIfInBounds_toArray, List.set_cons_zero, List.set_cons_succ]
    refine Uptot.takeS (i := 11) (v := ?_) rfl (by kernel_rfl) (by kernel_rfl) (by kernel_rfl) (by kernel_rfl) (fun _ _ _ h => h) (Or.inl ⟨by rfl, ?_⟩) hST ?_
    rotate_left 1
    · intro w9 hSw; (try dsimp only at hSw); obtain ⟨h90, h91, h92⟩ := hSw; go_simp; (try with_reducible rfl)
    try simp only [Act.put, List.setIfInBounds_toArray, List.set_cons_zero, List.set_cons_succ]
    refine Uptot.takeS (i := 12) (v := ?_) rfl (by kernel_rfl) (by kernel_rfl) (by kernel_rfl) (by kernel_rfl) (fun _ _ _ h => h) (Or.inl ⟨by rfl, ?_⟩) hST ?_
    rotate_left 1
    · intro w9 hSw; (try dsimp only at hSw); obtain ⟨h90, h91, h92⟩ := hSw; go_simp; (try with_reducible rfl)
    try simp only [Act.put, List.setIfInBounds_toArray, List.set_cons_zero, List.set_cons_succ]
    refine Uptot.takeS (i := 13) (v := ?_) rfl (by kernel_rfl) (by kernel_rfl) (by kernel_rfl) (by kernel_rfl) (fun _ _ _ h => h) (Or.inl ⟨by rfl, ?_⟩) hST ?_
    rotate_left 1
    · intro w9 hSw; (try dsimp only at hSw); obtain ⟨h90, h91, h92⟩ := hSw; go_simp; (try with_reducible rfl)
    try simp only [Act.put, List.setIfInBounds_toArray, List.set_cons_zero, List.set_cons_succ]
    refine Uptot.takeS (i := 14) (v := ?_) rfl (by kernel_rfl) (by kernel_rfl) (by kernel_rfl) (by kernel_rfl) (fun _ _ _ h => h) (Or.inl ⟨by rfl, ?_⟩) hST ?_
    rotate_left 1
    · intro w9 hSw; (try dsimp only at hSw); obtain ⟨h90, h91, h92⟩ := hSw; go_simp; (try with_reducible rfl)
    try simp only [Act.put, List.setIfInBounds_toArray, List.set_cons_zero, List.set_cons_succ]
    refine Uptot.takeS (i := 15) (v := ?_) rfl (by kernel_rfl) (by kernel_rfl) (by kernel_rfl) (by kernel_rfl) (fun _ _ _ h => h) (Or.inl ⟨by rfl, ?_⟩) hST ?_
    rotate_left 1
    · intro w9 hSw; (try dsimp only at hSw); obtain ⟨h90, h91, h92⟩ := hSw; go_simp; (try with_reducible rfl)
    try simp only [Act.put, List.setIfInBounds_toArray, List.set_cons_zero, List.set_cons_succ]
    refine Uptot.takeS (i := 16) (v := ?_) rfl (by kernel_rfl) (by kernel_rfl) (by kernel_rfl) (by kernel_rfl) (fun _ _ _ h => h) (Or.inl ⟨by rfl, ?_⟩) hST ?_
    rotate_left 1
    · intro w9 hSw; (try dsimp only at hSw); obtain ⟨h90, h91, h92⟩ := hSw; go_simp; (try with_reducible rfl)
    try simp only [Act.put, List.setIfInBounds_toArray, List.set_cons_zero, List.set_cons_succ]
    refine Uptot.takeS (i := 17) (v := ?_) rfl (by kernel_rfl) (by kernel_rfl) (by kernel_rfl) (by kernel_rfl) (fun _ _ _ h => h) (Or.inl ⟨by rfl, ?_⟩) hST ?_
    rotate_left 1
    · intro w9 hSw; (try dsimp only at hSw); obtain ⟨h90, h91, h92⟩ := hSw; go_simp; (try with_reducible rfl)
    try simp only [Act.put, List.setIfInBounds_toArray, List.set_cons_zero, List.set_cons_succ]
    refine Uptot.takeS (i := 18) (v := ?_) rfl (by kernel_rfl) (by kernel_rfl) (by kernel_rfl) (by kernel_rfl) (fun _ _ _ h => h) (Or.inl ⟨by rfl, ?_⟩) hST ?_
    rotate_left 1
    · intro w9 hSw; (try dsimp only at hSw); obtain ⟨h90, h91, h92⟩ := hSw; go_simp; (try with_reducible rfl)
    try simp only [Act.put, List.setIfInBounds_toArray, List.set_cons_zero, List.set_cons_succ]
    refine Uptot.one (i := 19) rfl (by kernel_rfl) (fun K hK9 => ?_)
    go_simp
    go_at_call 38
    refine (hnode V2).mono ?_
    rintro e w9 ⟨rfl, rfl⟩
    refine hK9.out _ _ (Cond.ahead hST) ?_
    clear hK9 K
    try simp only [Act.put, List.setIfInBounds_toArray, List.set_cons_zero, List.set_cons_succ]
    refine Uptot.one (i := 20) rfl (by kernel_rfl) (fun K hK9 => ?_)
    go_simp
    refine hK9.out _ _ (Cond.ahead hST) ?_
    clear hK9 K
    try simp only [Act.put, List.setIfInBounds_toArray, List.set_cons_zero, List.set_cons_succ]
    refine Uptot.done (by kernel_rfl) ?_ _
    go_wp2
    go_ret
    exact ⟨rfl, 1, hw.out⟩
end Go.Proofs.YtgcohoonhklkbaaDoor

/-
  keyholeref11: the contract of Collide.
-/
namespace Go.Proofs.YtgcohoonhklkbaaDoor
open Go.RowKit Go.Kx Go.Trm
set_option maxRecDepth 20000

/-- The first place at which two functions are not the same. -/
def colK (f g : Nat → Txt) : Nat → Nat → Option (Txt × Txt)
  | 0, _ => none
  | n + 1, k => if f k = g k then colK f g n (k + 1) else some (f k, g k)
theorem colK_step {f g : Nat → Txt} {n k : Nat} (hk : k < n) (h : f k = g k) : colK f g (n - k) k = colK f g (n - (k + 1)) (k + 1) := by
  rw [show n - k = n - (k + 1) + 1 by omega, colK, if_pos h]
theorem colK_hit {f g : Nat → Txt} {n k : Nat} (hk : k < n) (h : f k ≠ g k) : colK f g (n - k) k = some (f k, g k) := by
  rw [show n - k = n - (k + 1) + 1 by omega, colK, if_neg h]
def colD (l m : List Txt) (d : Nat) : Nat → Option (Txt × Txt)
  | 0 => none
  | r + 1 => match colK (belowL l r) (belowL m r) (2 ^ (d - r)) 0 with
    | some p => some p
    | none => colD l m d r
theorem colD_some {l m : List Txt} {d r : Nat} {p : Txt × Txt} (h : colK (belowL l r) (belowL m r) (2 ^ (d - r)) 0 = some p) : colD l m d (r + 1) = some p := by rw [colD, h]
theorem colD_none {l m : List Txt} {d r : Nat} (h : colK (belowL l r) (belowL m r) (2 ^ (d - r)) 0 = none) : colD l m d (r + 1) = colD l m d r := by rw [colD, h]
/-- When does Collide look? -/
def colOk (l m : List ByteArray) (d : Nat) : Prop := l.length = m.length ∧ l.length = 2 ^ d ∧ d ≤ 10 ∧ l ≠ m ∧ rootL sumL (txtsL l) d = rootL sumL (txtsL m) d
open Classical in
noncomputable def colA (l m : List ByteArray) : Option (Txt × Txt) := if colOk l m l.length.log2 then colD (txtsL l) (txtsL m) l.length.log2 (l.length.log2 + 1) else none
theorem colA_yes {l m : List ByteArray} {d : Nat} (h : colOk l m d) : colA l m = colD (txtsL l) (txtsL m) d (d + 1) := by
  have hd : l.length.log2 = d := by rw [h.2.1, Nat.log2_two_pow]
  rw [colA, hd, if_pos h]
theorem colA_no {l m : List ByteArray} (h : ∀ d, ¬ colOk l m d) : colA l m = none := by rw [colA, if_neg (h _)]
/-- What is shown, as a value. -/
def outV : Option (Txt × Txt) → Value
  | some (x, y) => .tuple #[.string (toB x), .string (toB y), .bool true]
  | none => .tuple #[.string ⟨#[]⟩, .string ⟨#[]⟩, .bool false]
theorem rowB_last (l : List ByteArray) {d : Nat} (hl : l.length = 2 ^ d) : (rowB l d)[0]? = some (toB (rootL sumL (txtsL l) d)) := by
  have h1 := rowB_length l hl (Nat.le_refl d)
  rw [Nat.sub_self, Nat.pow_zero] at h1
  rw [List.getElem?_eq_getElem (by omega)]
  simp only [rowB, List.getElem_map, rootL, List.getD]
  rw [rowB, List.length_map] at h1
  rw [List.getElem?_eq_getElem (by omega)]
  rfl
theorem toB_inj {a b : Txt} (h : toB a = toB b) : a = b := by rw [← toB_list a, h, toB_list]
theorem belowB (l : List Txt) (r k : Nat) : ∃ z : ByteArray, belowL l r k = z.data.toList := ⟨toB (belowL l r k), (toB_list _).symm⟩
/-- What a call of Collide answers. -/
def CollideP (ans : Option (Txt × Txt)) (W : World) (e : Ending) (W' : World) : Prop := e = .returned (outV ans) ∧ Below W.heap.size W W'
theorem collide_early (l m : List ByteArray) (A B : Option Addr) (c c' : Nat) (hz : l.length ≤ 1000000) (h : ¬ (l.length = m.length ∧ mayN l.length ∧ l ≠ m)) (w : World) (hA : Sl w A (strsV l)) (hB : Sl w B (strsV m)) :
    Calls Tryd.prog 24 #[.slice A l.length c, .slice B m.length c'] w fun e w' => CollideP none w e w' := by
  by_cases hl : l.length = m.length
  · have hne : ((l.length : Int) != (m.length : Int)) = false := by simp [hl]
    by_cases hm : mayN l.length
    · have hlm : l = m := Classical.byContradiction fun h2 => h ⟨hl, hm, h2⟩
      have hmay := rmay_yes hm hz A c w
      have htx := texts_any A B c c' l m w hz true (by rw [decide_eq_true hlm]) hA hB
      clear hlm h hA hB hm hl
      generalize l.length = x at *
      generalize m.length = y at *
      go_enter Tryd.func24, Tryd.ntmps24
      go_wp2_with fail
      refine hmay.mono ?_
      rintro e w ⟨rfl, rfl⟩
      go_wp2_with fail
      refine htx.mono ?_
      rintro e w1 ⟨rfl, n, rfl⟩
      go_wp2
      go_ret3
      exact ⟨rfl, Below.drewN0 _ _⟩
    · have hmay := rmay_no hm hz A c w
      clear h hA hB hm hl
      generalize l.length = x at *
      generalize m.length = y at *
      go_enter Tryd.func24, Tryd.ntmps24
      go_wp2_with fail
      refine hmay.mono ?_
      rintro e w ⟨rfl, rfl⟩
      go_wp2
      go_ret3
      exact ⟨rfl, Below.refl _ _⟩
  · have hne : ((l.length : Int) != (m.length : Int)) = true := by rw [bne_iff_ne]; omega
    clear h hA hB hl
    generalize l.length = x at *
    generalize m.length = y at *
    go_enter Tryd.func24, Tryd.ntmps24
    go_wp2
    go_ret3
    exact ⟨rfl, Below.refl _ _⟩
set_option maxHeartbeats 4000000 in
theorem rcollide_any (HS : RSum) (l m : List ByteArray) (A B : Option Addr) (c c' : Nat) (hz : l.length ≤ 1000000) (hs : ∀ s ∈ l, s.size ≤ 1000) (hsm : ∀ s ∈ m, s.size ≤ 1000) (ans : Option (Txt × Txt)) (hans : colA l m = ans) (w : World) (hA : Sl w A (strsV l)) (hB : Sl w B (strsV m)) :
    Calls Tryd.prog 24 #[.slice A l.length c, .slice B m.length c'] w fun e w' => CollideP ans w e w' := by
  by_cases h : l.length = m.length ∧ mayN l.length ∧ l ≠ m
  rotate_left
  · rw [colA_no fun d hd => h ⟨hd.1, ⟨d, hd.2.2.1, hd.2.1⟩, hd.2.2.2.1⟩] at hans
    subst hans
    exact collide_early l m A B c c' hz h w hA hB
  obtain ⟨hl, ⟨d, hd10, hd⟩, hlm⟩ := h
  have hdm : m.length = 2 ^ d := by omega
  have hmay := rmay_yes ⟨d, hd10, hd⟩ hz A c w
  have htx := texts_any A B c c' l m w hz false (by rw [decide_eq_false hlm]) hA hB
  have hrl := fun V hAV => rrows_any HS l d hd hd10 hs A c V hAV
  have hrm := fun V hAV => rrows_any HS m d hdm hd10 hsm B c' V hAV
  have hne : ((l.length : Int) != (m.length : Int)) = false := by simp [hl]
  have HRL := Lib.hid hrl
  have HRM := Lib.hid hrm
  have HBL := Lib.hid fun (g5 c5 n r k : Nat) z => rbelow_any l d hd hd10 hs A c c5 g5 r k (n := n) (z := z)
  have HBM := Lib.hid fun (g5 c5 n r k : Nat) z => rbelow_any m d hdm hd10 hsm B c' c5 g5 r k (n := n) (z := z)
  have HTL := Lib.hid (rowB_last l hd)
  have HTM := Lib.hid (rowB_last m hdm)
  have HLL := Lib.hid fun k (hk : k ≤ d) => rowB_length l hd hk
  have HLM := Lib.hid fun k (hk : k ≤ d) => rowB_length m hdm hk
  have HYES := Lib.hid fun (h : rootL sumL (txtsL l) d = rootL sumL (txtsL m) d) => (colA_yes (l := l) (m := m) (d := d) ⟨hl, hd, hd10, hlm, h⟩).symm.trans hans
  have HNO : Hid (rootL sumL (txtsL l) d ≠ rootL sumL (txtsL m) d → ans = none) := Lib.hid fun h => by
    rw [← hans]
    refine colA_no fun d' hd' => h ?_
    obtain rfl : d' = d := by
      have h1 := hd'.2.1
      rw [hd] at h1
      exact Nat.le_antisymm ((Nat.pow_le_pow_iff_right (by omega : 1 < 2)).1 (by omega)) ((Nat.pow_le_pow_iff_right (by omega : 1 < 2)).1 (by omega))
    exact hd'.2.2.2.2
  have HDA := Lib.hid hA
  have HDB := Lib.hid hB
  clear hrl hrm hA hB hans hlm hd hdm hs hsm HS hl
  generalize l.length = x at *
  generalize m.length = y at *
  go_enter Tryd.func24, Tryd.ntmps24
  go_wp2_with fail
  refine hmay.mono ?_
  rintro e w ⟨rfl, rfl⟩
  go_wp2_with fail
  refine htx.mono ?_
  rintro e w1 ⟨rfl, q0, rfl⟩
  have hb0 := Below.drewN0 w q0
  generalize w.drewN q0 = w1 at *
  go_wp2_with fail
  refine (HRL.out w1 (HDA.out.keep hb0)).mono ?_
  intro e w2 h
  obtain ⟨v, vs, rfl, hown, hra, hb2⟩ := h
  obtain ⟨g5, c5, rfl, hM1⟩ := rows_mem hown (by omega) hra
  clear hown hra
  have hb02 := hb0.next hb2
  go_wp2_with fail
  refine (HRM.out w2 (HDB.out.keep hb02)).mono ?_
  intro e w3 h
  obtain ⟨v, vs, rfl, hown, hra, hb3⟩ := h
  obtain ⟨g6, c6, rfl, hM2⟩ := rows_mem hown (by omega) hra
  have hb := hb02.next hb3
  replace hM1 := hM1.keep hb3
  clear hown hra hb02 hb2 hb3 hb0 hmay htx hne
  have hx : ((d + 1 : Nat) : Int) - 1 = (d : Int) := by omega
  obtain ⟨n, hn⟩ : ∃ n, d + 1 = n := ⟨_, rfl⟩
  rw [hn] at hx hM1 hM2 ⊢
  have HN := Lib.hid hn
  have hdn : d < n := by omega
  have hn11 : n ≤ 11 := by omega
  clear hn
  obtain ⟨ga, ca, -, h1, h2⟩ := hM1.2 d hdn
  obtain ⟨gb, cb, -, h3, h4⟩ := hM2.2 d hdn
  have h5 := h2 0 _ HTL.out
  have h6 := h4 0 _ HTM.out
  have h7 := HLL.out d (Nat.le_refl _)
  have h8 := HLM.out d (Nat.le_refl _)
  rw [Nat.sub_self, Nat.pow_zero] at h7 h8
  rw [h7] at h1
  rw [h8] at h3
  clear h2 h4 h7 h8
  by_cases hroot : rootL sumL (txtsL l) d = rootL sumL (txtsL m) d
  rotate_left
  · have hans := HNO.out hroot
    obtain ⟨s, hs⟩ : ∃ s, toB (rootL sumL (txtsL l) d) = s := ⟨_, rfl⟩
    obtain ⟨t, ht⟩ : ∃ t, toB (rootL sumL (txtsL m) d) = t := ⟨_, rfl⟩
    rw [hs] at h5
    rw [ht] at h6
    have hst : (s.toList == t.toList) = false := by
      rw [str_eq, decide_eq_false]
      rw [← hs, ← ht]
      exact fun h => hroot (toB_inj h)
    have HANS := Lib.hid hans
    clear hs ht hroot hans
    go_wp2
    go_quiet (fail)
    go_wp2
    go_ret3
    exact ⟨by rw [HANS.out]; rfl, hb.trans (Below.drewN0 _ _ |>.mono hb.size)⟩
  have HANS := Lib.hid (HYES.out hroot)
  rw [← hroot] at h6
  obtain ⟨s, hs⟩ : ∃ s, toB (rootL sumL (txtsL l) d) = s := ⟨_, rfl⟩
  rw [hs] at h5 h6
  clear hroot hs
  go_wp2
  go_quiet (fail)
  have hbq := hb.trans ((Below.drewN0 w3 nq).mono hb.size)
  replace hM1 := hM1.keep (Below.drewN0 w3 nq)
  replace hM2 := hM2.keep (Below.drewN0 w3 nq)
  clear hb h1 h3 h5 h6
  generalize w3.drewN nq = W at *
  go_wp2
  go_loopw [10] (fun r wr => ∃ (rr : Nat) (z : Int), rr ≤ d + 1 ∧ r = .int .i64 z ∧ z = (rr : Int) - 1 ∧ Hid (colD (txtsL l) (txtsL m) d rr = ans) ∧ Below W.heap.size W wr) (fun r _ => (intOf r + 1).toNat)
  case atStart => exact ⟨d + 1, d, by omega, rfl, by omega, HANS, Below.refl _ _⟩
  case round =>
    obtain ⟨rr, z, hrr, rfl, hz1, ha, hb⟩ := hrel
    rcases rr with _ | r
    · obtain rfl : z = -1 := by omega
      have HA : Hid (ans = none) := Lib.hid ha.out.symm
      clear hz1
      go_wp2
      go_ret3
      exact ⟨by rw [HA.out]; rfl, hbq.next hb⟩
    · obtain rfl : z = (r : Int) := by omega
      have hrd : r ≤ d := by omega
      obtain ⟨g, c1, hg, hc1, -⟩ := hM1.2 r (by omega)
      obtain ⟨y1, hy1⟩ : ∃ y1, (rowB l r).length = y1 := ⟨_, rfl⟩
      have hy2 : Hid (y1 = 2 ^ (d - r)) := Lib.hid (by rw [← hy1, HLL.out r hrd])
      have hy9 : y1 ≤ 1024 := by rw [hy2.out]; have : 2 ^ (d - r) ≤ 2 ^ 10 := Nat.pow_le_pow_right (by omega) (by omega); omega
      rw [hy1] at hc1
      have hr0 : (0 : Int) ≤ (r : Int) := by omega
      have hrn : r < n := by omega
      have hrnI : (r : Int) < (n : Int) := by omega
      clear hy1 hz1
      go_wp2
      go_loopw [11] (fun k wr => ∃ kk : Nat, k = .int .i64 (kk : Int) ∧ kk ≤ y1 ∧ Hid (colK (belowL (txtsL l) r) (belowL (txtsL m) r) y1 0 = colK (belowL (txtsL l) r) (belowL (txtsL m) r) (y1 - kk) kk) ∧ Below W.heap.size W wr) (fun k _ => y1 - (intOf k).toNat)
      case atStart => exact ⟨0, rfl, Nat.zero_le _, Lib.hid rfl, hb⟩
      case round =>
        clear hb
        obtain ⟨k, rfl, hk, hcol, hb⟩ := hrel
        have hc2 := (hb.cell (p := ⟨g5, r, none⟩) hM1.1).trans hc1
        by_cases hlt : k < y1
        · obtain ⟨p, hp⟩ := belowB (txtsL l) r k
          obtain ⟨q, hq⟩ := belowB (txtsL m) r k
          have hkp : k < 2 ^ (d - r) := by rw [← hy2.out]; exact hlt
          have hB1 := HBL.out g5 c5 n r k p hrd hkp HN.out.symm hp wr (HDA.out.keep (hbq.next hb)) (hM1.keep hb)
          have hB2 := fun q0 => HBM.out g6 c6 n r k q hrd hkp HN.out.symm hq (wr.drewN q0) (HDB.out.keep ((hbq.next hb).next (Below.drewN0 wr q0))) (hM2.keep (hb.next (Below.drewN0 wr q0)))
          have hkI : (k : Int) < (y1 : Int) := by omega
          have HP := Lib.hid hp
          have HQ := Lib.hid hq
          clear hp hq hkp
          go_wp2_with fail
          refine hB1.mono ?_
          rintro e w4 ⟨rfl, q0, rfl⟩
          have hB3 := hB2 q0
          clear hB1 hB2
          go_wp2_with fail
          refine hB3.mono ?_
          rintro e w5 ⟨rfl, q1, rfl⟩
          have hb5 := (hb.next (Below.drewN0 wr q0)).next (Below.drewN0 (wr.drewN q0) q1)
          clear hB3 hb hc2
          generalize (wr.drewN q0).drewN q1 = W5 at *
          by_cases hpq : p = q
          · subst hpq
            have HC : Hid (colK (belowL (txtsL l) r) (belowL (txtsL m) r) y1 0 = colK (belowL (txtsL l) r) (belowL (txtsL m) r) (y1 - (k + 1)) (k + 1)) := Lib.hid (by
              rw [hcol.out, colK_step hlt (by rw [HP.out, HQ.out])])
            go_wp2
            go_roundw
            case rel => exact ⟨k + 1, by go_num, by omega, HC, hb5⟩
            case measure => simp [intOf]; omega
          · have hpq2 : (p.toList == q.toList) = false := by rw [str_eq, decide_eq_false hpq]
            have HC : Hid (ans = some (p.data.toList, q.data.toList)) := Lib.hid (by
              rw [← ha.out, colD_some (p := (p.data.toList, q.data.toList))]
              rw [← hy2.out, hcol.out, colK_hit hlt (by rw [HP.out, HQ.out]; exact fun h => hpq (ByteArray.ext (Array.toList_inj.1 h))), HP.out, HQ.out])
            clear hpq
            go_wp2
            go_ret3
            exact ⟨by rw [HC.out, outV, toB_eq, toB_eq]; rfl, hbq.next hb5⟩
        · obtain rfl : k = y1 := by omega
          have HD : Hid (colD (txtsL l) (txtsL m) d r = ans) := Lib.hid (by
            rw [← ha.out, colD_none]
            rw [← hy2.out, hcol.out, Nat.sub_self]
            rfl)
          go_wp2
          go_roundw
          case rel => exact ⟨r, (r : Int) - 1, by omega, rfl, rfl, HD, hb⟩
          case measure => simp [intOf]
end Go.Proofs.YtgcohoonhklkbaaDoor

/-
  keyholeref11: the contract of Trace.
-/
namespace Go.Proofs.YtgcohoonhklkbaaDoor
open Go.RowKit Go.Kx Go.Trm
set_option maxRecDepth 20000

theorem pathR_len {l : List ByteArray} {d n : Nat} {ps : List ByteArray} (hd : l.length = 2 ^ d) (h : d ≤ 10) (hn : n < l.length) (hp : pathR l (n : Int) = (ps, 0)) : ps.length = d := by
  rw [pathR_yes hd h hn] at hp
  rw [← (Prod.mk.inj hp).1, List.length_map, pathL_length]
theorem pathR_ok {l : List ByteArray} {d n : Nat} {ps : List ByteArray} (hd : l.length = 2 ^ d) (h : d ≤ 10) (hn : n < l.length) (hp : pathR l (n : Int) = (ps, 0)) : wayOk (n : Int) ps := by
  have hl := pathR_len hd h hn hp
  rw [pathR_yes hd h hn] at hp
  refine ⟨by omega, by omega, ?_, fun p hpp => ?_⟩
  · rw [hl]
    have : ((2 : Int) ^ d) = ((2 ^ d : Nat) : Int) := by push_cast; rfl
    omega
  · rw [← (Prod.mk.inj hp).1] at hpp
    obtain ⟨y, hy, rfl⟩ := List.mem_map.1 hpp
    obtain ⟨q, hq, rfl⟩ := List.mem_map.1 hy
    have hqd : q < d := List.mem_range.1 hq
    have h4 := half_lt (n := n) (k := q) (d := d) (by omega) (by omega)
    have h5 : 2 ^ (d - q) = 2 * 2 ^ (d - q - 1) := by rw [← Nat.pow_succ']; congr 1; omega
    have h6 := partN_lt (i := n / 2 ^ q) (h := 2 ^ (d - q - 1)) (by omega)
    have h7 := rowB_length l hd (k := q) (by omega)
    have h9 : partN (n / 2 ^ q) < (rowB l q).length := by omega
    have e := List.getElem?_eq_getElem h9
    have h10 := rowB_len32 l hd (k := q) (by omega) e
    have h11 := rowB_get l e
    rw [h11, toB_eq]
    exact h10
theorem pathR_texts {l : List ByteArray} {d n : Nat} {ps : List ByteArray} (hd : l.length = 2 ^ d) (h : d ≤ 10) (hn : n < l.length) (hp : pathR l (n : Int) = (ps, 0)) : txtsL ps = pathL sumL (txtsL l) n d := by
  rw [pathR_yes hd h hn] at hp
  rw [← (Prod.mk.inj hp).1, txtsL, List.map_map]
  conv => rhs; rw [← List.map_id (pathL sumL (txtsL l) n d)]
  exact List.map_congr_left fun x _ => toB_list x

/-- When does Trace look? -/
def trcOk (l : List ByteArray) (n d : Nat) (s : ByteArray) (path : List ByteArray) : Prop :=
  l.length = 2 ^ d ∧ d ≤ 10 ∧ n < l.length ∧ path.length = d ∧ l[n]? ≠ some s ∧ wayOk (n : Int) path ∧ climbL sumL n (ofLeafL s.data.toList) (txtsL path) = rootL sumL (txtsL l) d
open Classical in
noncomputable def trcA (l : List ByteArray) (i : Int) (s : ByteArray) (path : List ByteArray) : Option (Txt × Txt) :=
  if 0 ≤ i ∧ trcOk l i.toNat path.length s path then lastDiff (waysL sumL i.toNat (ofLeafL ((txtsL l).getD i.toNat [])) (pathL sumL (txtsL l) i.toNat path.length)) (waysL sumL i.toNat (ofLeafL s.data.toList) (txtsL path)) (path.length + 1) else none
theorem trcA_yes {l : List ByteArray} {n d : Nat} {s : ByteArray} {path : List ByteArray} (h : trcOk l n d s path) : trcA l (n : Int) s path = lastDiff (waysL sumL n (ofLeafL ((txtsL l).getD n [])) (pathL sumL (txtsL l) n d)) (waysL sumL n (ofLeafL s.data.toList) (txtsL path)) (d + 1) := by
  have hd : path.length = d := h.2.2.2.1
  subst hd
  rw [trcA, Int.toNat_natCast, if_pos ⟨by omega, h⟩]
theorem trcA_no {l : List ByteArray} {i : Int} {s : ByteArray} {path : List ByteArray} (h : ∀ n d : Nat, i = (n : Int) → ¬ trcOk l n d s path) : trcA l i s path = none := by
  rw [trcA, if_neg]
  rintro ⟨h1, h2⟩
  exact h _ _ (by omega) h2
theorem trc_early (HS : RSum) (l : List ByteArray) (i : Int) (s : ByteArray) (path : List ByteArray) (A B : Option Addr) (c c' : Nat) (hz : l.length ≤ 1000000) (hs : ∀ s ∈ l, s.size ≤ 1000) (h : ¬ (mayN l.length ∧ 0 ≤ i ∧ i < l.length)) (w : World) (hA : Sl w A (strsV l)) :
    Calls Tryd.prog 26 #[.slice A l.length c, .int .i64 i, .string s, .slice B path.length c'] w fun e w' => e = .returned (outV none) ∧ Below w.heap.size w w' := by
  obtain ⟨r, k, hr⟩ : ∃ r k, rootR l = (r, k) := ⟨_, _, rfl⟩
  have hk : k = 0 ∨ k = 1 := by
    unfold rootR at hr
    split at hr
    · exact .inl (Prod.mk.inj hr).2.symm
    · exact .inr (Prod.mk.inj hr).2.symm
  have hroot := rroot_any HS l A c hz hs r k hr w hA
  have hpath := fun V => path_early l A c hz i h V
  clear hr h hA hs HS hz
  generalize l.length = x at *
  generalize path.length = y at *
  rcases hk with rfl | rfl
  all_goals
    go_enter Tryd.func26, Tryd.ntmps26
    go_wp2_with fail
    refine hroot.mono ?_
    rintro e w1 ⟨rfl, hb⟩
    have hp1 := hpath w1
    clear hpath hroot
    go_wp2_with fail
    refine hp1.mono ?_
    rintro e w1 ⟨rfl, rfl⟩
    go_wp2
    go_ret3
    exact ⟨rfl, hb⟩
set_option maxHeartbeats 4000000 in
theorem rtrace_any (HS : RSum) (l : List ByteArray) (i : Int) (s : ByteArray) (path : List ByteArray) (A B : Option Addr) (c c' : Nat) (hz : l.length ≤ 1000000) (hzp : path.length ≤ 1000000) (hs : ∀ s ∈ l, s.size ≤ 1000) (hss : s.size ≤ 1000) (ans : Option (Txt × Txt)) (hans : trcA l i s path = ans) (w : World) (hA : Sl w A (strsV l)) (hB : Sl w B (strsV path)) :
    Calls Tryd.prog 26 #[.slice A l.length c, .int .i64 i, .string s, .slice B path.length c'] w fun e w' => e = .returned (outV ans) ∧ Below w.heap.size w w' := by
  by_cases h : mayN l.length ∧ 0 ≤ i ∧ i < l.length
  rotate_left
  · rw [trcA_no fun n d hi hd => h ⟨⟨d, hd.2.1, hd.1⟩, by omega, by have := hd.2.2.1; omega⟩] at hans
    subst hans
    exact trc_early HS l i s path A B c c' hz hs h w hA
  obtain ⟨⟨d, hd10, hd⟩, hi0, hil⟩ := h
  obtain ⟨n, rfl⟩ := Int.eq_ofNat_of_zero_le hi0
  have hnl : n < l.length := by omega
  have hroot := rroot_any HS l A c hz hs _ _ (rootR_yes hd hd10) w hA
  obtain ⟨r, hr⟩ : ∃ r, toB (rootL sumL (txtsL l) d) = r := ⟨_, rfl⟩
  rw [hr] at hroot
  obtain ⟨ps, hps⟩ : ∃ ps, pathR l (n : Int) = (ps, 0) := ⟨_, pathR_yes hd hd10 hnl⟩
  have hpath := fun V hAV => rpath_any HS l A c hz hs (n : Int) ps 0 hps V hAV
  have hpl := pathR_len hd hd10 hnl hps
  have hpok := pathR_ok hd hd10 hnl hps
  have hpt := pathR_texts hd hd10 hnl hps
  obtain ⟨t, k, hck⟩ : ∃ t k, climbR (n : Int) s path = (t, k) := ⟨_, _, rfl⟩
  obtain ⟨bb, hbb⟩ : ∃ bb : Bool, bb = (decide (k = 0) && decide (t = r)) := ⟨_, rfl⟩
  have hcheck := fun V hBV => rcheck_any HS r (n : Int) s path B c' hzp hss t k hck bb hbb V hBV
  obtain ⟨b0, off0, rfl, hc0⟩ := sl_strV hA hnl
  obtain ⟨p, hp⟩ : ∃ p, l[n] = p := ⟨_, rfl⟩
  rw [hp] at hc0
  have hps1 : p.size ≤ 1000 := by rw [← hp]; exact hs _ (List.getElem_mem _)
  have hln : l[n]? = some p := by rw [List.getElem?_eq_getElem hnl, hp]
  have hway1 := fun V A' c1 hAV => rways_any HS (n : Int) p ps A' c1 (by omega) hps1 V hAV
  have hway2 := fun V hBV => rways_any HS (n : Int) s path B c' hzp hss V hBV
  have hbbT : Hid (bb = true → path.length = d → p ≠ s → trcOk l n d s path) := Lib.hid fun h1 h2 h3 => by
    rw [hbb, Bool.and_eq_true, decide_eq_true_eq, decide_eq_true_eq] at h1
    have h4 : wayOk (n : Int) path := Classical.byContradiction fun h5 => by
      rw [climbR_no h5] at hck
      have := (Prod.mk.inj hck).2
      omega
    rw [climbR_yes h4, Int.toNat_natCast] at hck
    refine ⟨hd, hd10, hnl, h2, by rw [hln]; exact fun h => h3 (Option.some.inj h), h4, ?_⟩
    have h5 := (Prod.mk.inj hck).1
    rw [h1.2, ← hr] at h5
    exact toB_inj h5
  have hbbF : Hid (bb = false ∨ path.length ≠ d ∨ p = s → ans = none) := Lib.hid fun h1 => by
    rw [← hans]
    refine trcA_no fun n' d' hn' hd' => ?_
    obtain rfl : n' = n := by omega
    obtain rfl : d' = d := by
      have h2 := hd'.1
      rw [hd] at h2
      exact Nat.le_antisymm ((Nat.pow_le_pow_iff_right (by omega : 1 < 2)).1 (by omega)) ((Nat.pow_le_pow_iff_right (by omega : 1 < 2)).1 (by omega))
    obtain ⟨-, -, -, g1, g2, g3, g4⟩ := hd'
    rcases h1 with h1 | h1 | h1
    · rw [climbR_yes g3, Int.toNat_natCast, g4, hr] at hck
      rw [hbb, ← (Prod.mk.inj hck).1, ← (Prod.mk.inj hck).2] at h1
      simp at h1
    · exact h1 g1
    · exact g2 (by rw [hln, h1])
  have hLD : Hid (trcOk l n d s path → lastDiff (waysL sumL n (ofLeafL p.data.toList) (txtsL ps)) (waysL sumL n (ofLeafL s.data.toList) (txtsL path)) (d + 1) = ans) := Lib.hid fun h => by
    rw [← hans, trcA_yes h, hpt, txtsL_get l hnl, hp]
  have HCELL : Hid (∀ V, Below w.heap.size w V → V.cell? ⟨b0, off0 + n, none⟩ = some (.string p)) := Lib.hid fun V hV => by
    obtain ⟨b', off', hAe, hc⟩ := sl_strV (hA.keep hV) hnl
    obtain ⟨rfl, rfl⟩ : b' = b0 ∧ off' = off0 := by simpa using hAe.symm
    rw [hp] at hc
    exact hc
  have HA := Lib.hid hA
  have HB := Lib.hid hB
  have HPL := Lib.hid hpl
  have HPOK := Lib.hid hpok
  have HCH := Lib.hid hcheck
  have HW1 := Lib.hid hway1
  have HW2 := Lib.hid hway2
  have HPT := Lib.hid hpath
  have hn9 : n < 2048 := by have : 2 ^ d ≤ 2 ^ 10 := Nat.pow_le_pow_right (by omega) hd10; omega
  have hnI : (n : Int) < (l.length : Int) := by omega
  have hrd : d ≤ 10 := hd10
  clear hpl hpok hcheck hway1 hway2 hpath hpt hans hbb hck hp hr hps hd hs HS hA hB hln hil hi0
  generalize l.length = x at *
  obtain ⟨y, hy⟩ : ∃ y, path.length = y := ⟨_, rfl⟩
  have HY := Lib.hid hy
  rw [hy] at hzp ⊢
  clear hy
  go_enter Tryd.func26, Tryd.ntmps26
  go_wp2_with fail
  refine hroot.mono ?_
  rintro e w1 ⟨rfl, hb1⟩
  clear hroot
  have hpth := HPT.out w1 (HA.out.keep hb1)
  go_wp2_with fail
  refine hpth.mono ?_
  intro e w2 h
  obtain ⟨v, rfl, hown, hb2⟩ := h
  clear hpth
  rw [HPL.out] at hown
  obtain ⟨A1, c1, rfl, hA1⟩ := own_sl hown
  have hb12 := hb1.next hb2
  have hc2 := HCELL.out w2 hb12
  clear hown
  by_cases hyd : y = d
  rotate_left
  · have hne : ((d : Int) != (y : Int)) = true := by rw [bne_iff_ne]; omega
    have HN := Lib.hid (hbbF.out (.inr (.inl (by rw [HY.out]; exact hyd))))
    clear hyd
    go_wp2
    go_ret3
    exact ⟨by rw [HN.out]; rfl, hb12⟩
  obtain rfl : d = y := hyd.symm
  have hne : ((d : Int) != (d : Int)) = false := by simp
  by_cases hps2 : p = s
  · have hse : (s.toList == p.toList) = true := by rw [str_eq, decide_eq_true hps2.symm]
    have HN := Lib.hid (hbbF.out (.inr (.inr hps2)))
    clear hps2
    go_wp2
    go_ret3
    exact ⟨by rw [HN.out]; rfl, hb12⟩
  have hse : (s.toList == p.toList) = false := by rw [str_eq, decide_eq_false fun h => hps2 h.symm]
  have hch := HCH.out w2 (HB.out.keep hb12)
  rw [HY.out] at hch
  cases bb with
  | false =>
    have HN := Lib.hid (hbbF.out (.inl rfl))
    clear hps2
    go_wp2_with fail
    refine hch.mono ?_
    rintro e w3 ⟨rfl, hb3⟩
    go_wp2
    go_ret3
    exact ⟨by rw [HN.out]; rfl, hb12.next hb3⟩
  | true =>
    have HTO := Lib.hid (hbbT.out rfl HY.out hps2)
    have HLD := Lib.hid (hLD.out HTO.out)
    clear hps2 hLD hbbT hbbF
    go_wp2_with fail
    refine hch.mono ?_
    rintro e w3 ⟨rfl, hb3⟩
    have hb13 := hb12.next hb3
    have hc3 := HCELL.out w3 hb13
    have hw1 := HW1.out w3 A1 c1 (hA1.keep hb3)
    rw [HPL.out] at hw1
    clear hch hc2
    go_wp2_with fail
    refine hw1.mono ?_
    intro e w4 h
    clear hw1
    rcases h with ⟨-, v4, rfl, hown4, hb4⟩ | ⟨hno, -, -⟩
    rotate_left
    · exact absurd HPOK.out hno
    rw [HPL.out, Int.toNat_natCast] at hown4
    obtain ⟨ga, ca, rfl, hga, hla, hcella⟩ := own_vals hown4 (by omega)
    have hb14 := hb13.next hb4
    have hw2 := HW2.out w4 (HB.out.keep hb14)
    rw [HY.out] at hw2
    clear hown4
    go_wp2_with fail
    refine hw2.mono ?_
    intro e w5 h
    clear hw2
    rcases h with ⟨-, v5, rfl, hown5, hb5⟩ | ⟨hno, -, -⟩
    rotate_left
    · exact absurd HTO.out.2.2.2.2.2.1 hno
    rw [HY.out, Int.toNat_natCast] at hown5
    obtain ⟨gb, cb, rfl, hgb, hlb, hcellb⟩ := own_vals hown5 (by omega)
    have hb := hb14.next hb5
    have HCA : Hid (∀ k, k < d + 1 → ∃ a b : ByteArray, (waysL sumL n (ofLeafL p.data.toList) (txtsL ps)).getD k [] = a.data.toList ∧ (waysL sumL n (ofLeafL s.data.toList) (txtsL path)).getD k [] = b.data.toList ∧ w5.cell? ⟨ga, k, none⟩ = some (.string a) ∧ w5.cell? ⟨gb, k, none⟩ = some (.string b)) := Lib.hid fun k hk => by
      have g1 : k < (waysB n p ps).length := by rw [waysB_length, HPL.out]; exact hk
      have g2 : k < (waysB n s path).length := by rw [waysB_length, HY.out]; exact hk
      have f1 := waysB_get n p ps (k := k) (m := k + 1) (by rw [HPL.out]; exact hk) (by rw [List.length_take]; omega)
      have f2 := waysB_get n s path (k := k) (m := k + 1) (by rw [HY.out]; exact hk) (by rw [List.length_take]; omega)
      rw [List.getElem_take] at f1 f2
      refine ⟨toB (wayT n p ps k), toB (wayT n s path k), by rw [toB_list]; rfl, by rw [toB_list]; rfl, ?_, ?_⟩
      · refine (hb5.cell (p := ⟨ga, k, none⟩) hga).trans (hcella k _ ?_)
        rw [strsV, List.getElem?_map, List.getElem?_eq_getElem g1, f1]
        rfl
      · refine hcellb k _ ?_
        rw [strsV, List.getElem?_map, List.getElem?_eq_getElem g2, f2]
        rfl
    have hx : ((d + 1 : Nat) : Int) - 1 = (d : Int) := by omega
    obtain ⟨m, hm⟩ : ∃ m, d + 1 = m := ⟨_, rfl⟩
    rw [hm] at hx ⊢
    have HM := Lib.hid hm
    have hm11 : m ≤ 11 := by omega
    clear hm hown5 hcella hcellb hga hgb hla hlb hb14 hb13 hb12 hb3 hb4 hb5 hc0 hc3 hb1 hb2 hA1
    go_wp2
    go_loopw [19] (fun r wr => ∃ (rr q : Nat) (z : Int), rr ≤ d + 1 ∧ r = .int .i64 z ∧ z = (rr : Int) - 1 ∧ Hid (lastDiff (waysL sumL n (ofLeafL p.data.toList) (txtsL ps)) (waysL sumL n (ofLeafL s.data.toList) (txtsL path)) rr = ans) ∧ wr = w5.drewN q) (fun r _ => (intOf r + 1).toNat)
    case atStart => exact ⟨d + 1, 0, d, by omega, rfl, by omega, HLD, rfl⟩
    case round =>
      obtain ⟨rr, q, z, hrr, rfl, hz1, ha, rfl⟩ := hrel
      rcases rr with _ | k
      · obtain rfl : z = -1 := by omega
        have HA : Hid (ans = none) := Lib.hid ha.out.symm
        clear hz1
        go_wp2
        go_ret3
        exact ⟨by rw [HA.out]; rfl, hb.next (Below.drewN0 _ _)⟩
      · obtain rfl : z = (k : Int) := by omega
        obtain ⟨a, b, e1, e2, hca, hcb⟩ := HCA.out k (by omega)
        have hca2 : (w5.drewN q).cell? ⟨ga, k, none⟩ = some (.string a) := hca
        have hcb2 : (w5.drewN q).cell? ⟨gb, k, none⟩ = some (.string b) := hcb
        have hk0 : (0 : Int) ≤ (k : Int) := by omega
        have hkm : (k : Int) < (m : Int) := by have := HM.out; omega
        have hkm2 : k < m := by have := HM.out; omega
        have HE1 := Lib.hid e1
        have HE2 := Lib.hid e2
        clear hz1 e1 e2
        by_cases hab : a = b
        · subst hab
          have HD : Hid (lastDiff (waysL sumL n (ofLeafL p.data.toList) (txtsL ps)) (waysL sumL n (ofLeafL s.data.toList) (txtsL path)) k = ans) := Lib.hid (by
            rw [← ha.out, lastDiff, if_neg (by rw [HE1.out, HE2.out]; simp)])
          go_wp2
          go_quiet (fail)
          go_wp2
          go_roundw
          case rel => exact ⟨k, _, (k : Int) - 1, by omega, rfl, rfl, HD, rfl⟩
          case measure => simp [intOf]
        · have hab2 : (a.toList == b.toList) = false := by rw [str_eq, decide_eq_false hab]
          have HD : Hid (ans = some (a.data.toList, b.data.toList)) := Lib.hid (by
            rw [← ha.out, lastDiff, if_pos (by rw [HE1.out, HE2.out]; exact fun h => hab (ByteArray.ext (Array.toList_inj.1 h))), HE1.out, HE2.out])
          clear hab
          go_wp2
          go_quiet (fail)
          have hca3 : ((w5.drewN q).drewN nq).cell? ⟨ga, k, none⟩ = some (.string a) := hca
          have hcb3 : ((w5.drewN q).drewN nq).cell? ⟨gb, k, none⟩ = some (.string b) := hcb
          have hb6 := hb.next ((Below.drewN0 w5 q).next (Below.drewN0 (w5.drewN q) nq))
          clear hca hcb hca2 hcb2 hb
          generalize (w5.drewN q).drewN nq = W6 at *
          go_wp2
          go_quiet (fail)
          go_wp2
          go_ret3
          exact ⟨by rw [HD.out, outV, toB_eq, toB_eq]; rfl, hb6.next (Below.drewN0 _ _)⟩
end Go.Proofs.YtgcohoonhklkbaaDoor

/-
  digest: the contracts of back, schedule, mix.
-/
namespace Go.Proofs.YtgcohoonhklkbaaDoor
open Go.RowKit Go.Kx
set_option maxRecDepth 20000

theorem rotl_neg (x n : Nat) (hx : x < 4294967296) (h0 : 0 < n) (hn : n < 32) (w : World) :
   Calls Tryd.prog 94 #[.int .u32 x, .int .i64 (-(n : Int))] w fun e w' => e = .returned (.int .u32 (bk x n : Nat)) ∧ w = w' := by
  have h1 : bits .and .u64 (IntKind.u64.wrap (-(n : Int))) 31 = ((32 - n : Nat) : Int) := by
    have e : IntKind.u64.wrap (-(n : Int)) = ((18446744073709551616 - n : Nat) : Int) := by
      simp only [IntKind.wrap, IntKind.bits, IntKind.signed]; simp; omega
    rw [e, u64_and_31 _ (by omega)]
    congr 1
    omega
  have h3 : 32 - n < 32 := by omega
  have HB := Lib.hid (show bk x n = rotN x (32 - n) from rfl)
  have HC := Lib.hid (show 32 - (32 - n) = n by omega)
  generalize 32 - n = s at *
  go_enter Tryd.func94, Tryd.ntmps94
  go_wp2
  go_ret
  refine ⟨ret_int ?_, rfl⟩
  have e1 : ((x : Int) * 2 ^ s % 4294967296) = ((x * 2 ^ s % 4294967296 : Nat) : Int) := by rw [Int.natCast_emod, Int.natCast_mul, Int.natCast_pow]; rfl
  have e2 : ((x : Int) / 2 ^ (32 - s)) = ((x / 2 ^ (32 - s) : Nat) : Int) := by rw [Int.natCast_ediv, Int.natCast_pow]; rfl
  rw [e1, e2, u32_or_nat _ _ (Nat.mod_lt _ (by omega)) (Nat.lt_of_le_of_lt (Nat.div_le_self _ _) hx), rot_or x s hx h3, HB.out]
theorem back_any (x n : Nat) (hx : x < 4294967296) (h0 : 0 < n) (hn : n < 32) (w : World) :
   Calls Tryd.prog 81 #[.int .u32 x, .int .i64 n] w fun e w' => e = .returned (.int .u32 (bk x n : Nat)) ∧ w = w' := by
  go_enter Tryd.func81, Tryd.ntmps81
  go_wp2_with (go_at_call 94; refine (rotl_neg x n hx h0 hn _).mono ?_; rintro e w' ⟨rfl, rfl⟩)
  go_ret
  exact ⟨rfl, rfl⟩

theorem back_q (x n : Nat) (m : Int) (hm : m = (n : Int)) (hx : x < 4294967296) (h0 : 0 < n) (hn : n < 32) (w : World) :
   Calls Tryd.prog 81 #[.int .u32 x, .int .i64 m] w fun e w' => e = .returned (.int .u32 (bk x n : Nat)) ∧ w' = w := by
  subst hm
  exact (back_any x n hx h0 hn w).mono fun _ _ ⟨he, hw⟩ => ⟨he, hw.symm⟩
def rowW (W : Nat → Nat) (k j : Nat) : Nat := if j < k then W j else 0
theorem rowW_in (W : Nat → Nat) {k j : Nat} (h : j < k) : rowW W k j = W j := if_pos h
theorem rowW_set (W : Nat → Nat) (k j : Nat) : (if j = k then W k else rowW W k j) = rowW W (k + 1) j := by
  unfold rowW
  by_cases h : j = k
  · subst h; simp
  · rw [if_neg h]
    by_cases h2 : j < k
    · rw [if_pos h2, if_pos (by omega)]
    · rw [if_neg h2, if_neg (by omega)]
theorem sum4 (a b c d : Nat) : IntKind.u32.wrap (IntKind.u32.wrap (IntKind.u32.wrap ((a : Int) + (b : Int)) + (c : Int)) + (d : Int)) = (((a + b + c + d) % 4294967296 : Nat) : Int) := by
  simp only [IntKind.wrap_u32']
  omega
theorem row64_size : (Tryd.prog.info? 76).map (·.size) = some 64 := by kernel_rfl
set_option maxHeartbeats 1000000 in
theorem sched_gen (W : Nat → Nat) (s : ByteArray) (w : World) (hs : s.size = 64) (hlt : ∀ x ∈ cutL true s, x < 4294967296) (hlen : (cutL true s).length = 16)
   (hold : ∀ j, j < 16 → W j = (cutL true s).getD j 0) (hWl : ∀ j, W j < 4294967296) (hWn : ∀ i, 16 ≤ i → i < 64 → W i = (W (i - 16) + sg0 (W (i - 15)) + W (i - 7) + sg1 (W (i - 2))) % 4294967296) :
   Calls Tryd.prog 62 #[.string s] w fun e w' => e = .returned (.agg (rowA .u32 64 W)) ∧ Below w.heap.size w w' := by
  have HLT := Lib.hid hlt
  have HOLD := Lib.hid hold
  have HWL := Lib.hid hWl
  have HWN := Lib.hid hWn
  clear hlt hold hWl hWn
  go_enter Tryd.func62, Tryd.ntmps62
  go_wp2_with fail
  refine (cut_new s true _ (by omega) (by omega)).mono ?_
  rintro e w1 ⟨b, rfl, hbb, hsl, hb⟩
  generalize cutL true s = xs at *
  have hr1 := rowIs_keep (rowIs_new (n := 64) (z := .int .u32 0) rfl) hb
  have hr0 := rowIs_keep ((rowIs_new (n := 64) (z := .int .u32 0) rfl).alloc _) hb
  simp only [World.size_alloc] at hr1 hr0 hbb
  have hbw := ((((Below.refl _ w).alloc (Nat.le_refl _) _).alloc (by simp) _).trans (hb.mono (by simp; omega)))
  clear hb
  go_wp2_with fail
  go_loopw [6, 7, 18] (fun _ _ i wr => ∃ k : Nat, k ≤ 16 ∧ i = .int .i64 k ∧ Sl wr (some ⟨b, 0, none⟩) (ints xs) ∧ wr.rowIs (w.heap.size + 1) 76 64 (fun j => .int .u32 (rowW W k j : Nat)) ∧
     wr.rowIs w.heap.size 76 64 (fun _ => .int .u32 0) ∧ Below w.heap.size w wr) (fun _ _ i _ => 16 - (intOf i).toNat)
  case atStart => exact ⟨0, by omega, rfl, hsl, hr1, hr0, hbw⟩
  case round =>
    obtain ⟨k, hk, rfl, hsk, hrk, hr0k, hbk⟩ := hrel
    clear hsl hr1 hr0 hbw
    by_cases hl : k < 16
    · obtain ⟨b', off, u, he, hu, hcell⟩ := hsk.at_ (k := k) (by simp [ints]; omega)
      obtain ⟨rfl, rfl⟩ : b = b' ∧ 0 = off := by simpa using he
      obtain ⟨x, hx, rfl⟩ : ∃ x, xs[k]? = some x ∧ .int .i64 (x : Int) = u := by simpa [ints] using hu
      have hxl : x < 4294967296 := HLT.out x (List.mem_of_getElem? hx)
      have hxw := wrapU32 hxl
      have hload := hrk.cell (i := k) (by omega)
      have hfz := hrk.frozen k
      rw [Nat.zero_add] at hcell
      have HX := Lib.hid (show W k = x by rw [HOLD.out k hl, List.getD_eq_getElem?_getD, hx]; rfl)
      clear hx hu he
      go_wp2
      go_roundw
      case rel =>
        refine ⟨k + 1, by omega, by go_num, hsk.set (by simp; omega) _, ?_, hr0k.setOther (by simp) _, hbk.setCell (p := ⟨w.heap.size + 1, k, none⟩) (by simp) _⟩
        refine (hrk.set k _).congr fun j _ => ?_
        rw [← rowW_set W k j, HX.out]
        split <;> rfl
      case measure => simp [intOf]; omega
    · obtain rfl : k = 16 := by omega
      clear hl hk hsk HOLD HLT
      go_wp2
      rw [show ((16 : Nat) : Int) = 16 from rfl]
      go_loopw [8, 9, 10] (fun i _ _ wr => ∃ k : Nat, 16 ≤ k ∧ k ≤ 64 ∧ i = .int .i64 k ∧ wr.rowIs (w.heap.size + 1) 76 64 (fun j => .int .u32 (rowW W k j : Nat)) ∧
         wr.rowIs w.heap.size 76 64 (fun _ => .int .u32 0) ∧ Below w.heap.size w wr) (fun i _ _ _ => 64 - (intOf i).toNat)
      case atStart => exact ⟨16, by omega, by omega, rfl, hrk, hr0k, hbk⟩
      case round =>
        clear hrk hr0k hbk
        obtain ⟨k, hk1, hk2, rfl, hrk, hr0k, hbk⟩ := hrel
        by_cases hl : k < 64
        · have c16 := hrk.cell (i := k - 16) (by omega)
          have c15 := hrk.cell (i := k - 15) (by omega)
          have c7 := hrk.cell (i := k - 7) (by omega)
          have c2 := hrk.cell (i := k - 2) (by omega)
          have c0 := hrk.cell (i := k) (by omega)
          have hfz := hrk.frozen k
          rw [rowW_in W (by omega)] at c16 c15 c7 c2
          have l15 := HWL.out (k - 15)
          have l2 := HWL.out (k - 2)
          have HN := Lib.hid (HWN.out k hk1 hl)
          generalize W (k - 15) = p at *
          generalize W (k - 2) = q at *
          generalize W (k - 16) = x at *
          generalize W (k - 7) = y at *
          have w16 : IntKind.i64.wrap ((k : Int) - 16) = (k : Int) - 16 := IntWalk.i64_in _ (by omega)
          have w15 : IntKind.i64.wrap ((k : Int) - 15) = (k : Int) - 15 := IntWalk.i64_in _ (by omega)
          have w7 : IntKind.i64.wrap ((k : Int) - 7) = (k : Int) - 7 := IntWalk.i64_in _ (by omega)
          have w2 : IntKind.i64.wrap ((k : Int) - 2) = (k : Int) - 2 := IntWalk.i64_in _ (by omega)
          have n16 : ((k : Int) - 16).toNat = k - 16 := by omega
          have n15 : ((k : Int) - 15).toNat = k - 15 := by omega
          have n7 : ((k : Int) - 7).toNat = k - 7 := by omega
          have n2 : ((k : Int) - 2).toNat = k - 2 := by omega
          have p16 : 0 ≤ (k : Int) - 16 := by omega
          have p15 : 0 ≤ (k : Int) - 15 := by omega
          have p7 : 0 ≤ (k : Int) - 7 := by omega
          have p2 : 0 ≤ (k : Int) - 2 := by omega
          have q16 : (16 : Int) ≤ (k : Int) := by omega
          have q7 : (7 : Int) ≤ (k : Int) := by omega
          have b16 : (k : Int) - 16 < 64 := by omega
          have b15 : (k : Int) - 15 < 64 := by omega
          have b7 : (k : Int) - 7 < 64 := by omega
          have b2 : (k : Int) - 2 < 64 := by omega
          go_wp2
          go_quiet (fail)
          go_wp2
          clear c15 c2
          have d16 : (wr.drewN nq).cell? ⟨w.heap.size + 1, k - 16, none⟩ = _ := c16
          have d7 : (wr.drewN nq).cell? ⟨w.heap.size + 1, k - 7, none⟩ = _ := c7
          have d0 : (wr.drewN nq).cell? ⟨w.heap.size + 1, k, none⟩ = _ := c0
          have dfz : (wr.drewN nq).frozen? ⟨w.heap.size + 1, k, none⟩ = _ := hfz
          have drk : (wr.drewN nq).rowIs (w.heap.size + 1) _ _ _ := hrk
          have dr0k : (wr.drewN nq).rowIs (w.heap.size) _ _ _ := hr0k
          have dbk : Below w.heap.size w (wr.drewN nq) := hbk.next' (Below.drewN0 _ _)
          clear c16 c7 c0 hfz hrk hr0k hbk
          generalize wr.drewN nq = w2 at *
          refine wp_region_still_tail 29 (by kernel_rfl) (by kernel_rfl) ?_
          simp only [List.take_succ_cons, List.take_zero, List.drop_succ_cons, List.drop_zero]
          repeat still_step
          still_call (back_q p 7 7 rfl l15 (by omega) (by omega) _)
          repeat still_step
          still_call (back_q p 18 18 rfl l15 (by omega) (by omega) _)
          repeat still_step
          still_call (back_q q 17 17 rfl l2 (by omega) (by omega) _)
          repeat still_step
          still_call (back_q q 19 19 rfl l2 (by omega) (by omega) _)
          repeat still_step
          refine wpStill_nil ?_
          have e0 : w2.drew.cell? ⟨w.heap.size + 1, k, none⟩ = _ := d0
          have efz : w2.drew.frozen? ⟨w.heap.size + 1, k, none⟩ = _ := dfz
          have erk := drk.drew
          have er0k := dr0k.drew
          have ebk := dbk.drew
          change wpList _ _ _ _ _ w2.drew
          clear d16 d7 d0 dfz drk dr0k dbk
          generalize w2.drew = w3 at *
          go_wp2
          go_roundw
          case rel =>
            refine ⟨k + 1, by omega, by omega, by go_num, ?_, er0k.setOther (by simp) _, ebk.setCell (p := ⟨w.heap.size + 1, k, none⟩) (by simp) _⟩
            refine (erk.set k _).congr fun j _ => ?_
            rw [← rowW_set W k j, HN.out]
            by_cases hjk : j = k
            · rw [if_pos hjk, if_pos hjk]
              refine congrArg (Value.int .u32) ?_
              have e0 : bits .xor .u32 (bits .xor .u32 (bk p 7 : Nat) (bk p 18 : Nat)) ((p : Int) / 8) = ((sg0 p : Nat) : Int) := by
                rw [show ((p : Int) / 8) = ((p / 8 : Nat) : Int) from rfl, u32_xor_nat _ _ (bk_lt _ _ l15) (bk_lt _ _ l15), u32_xor_nat _ _ (xor_lt (bk_lt _ _ l15) (bk_lt _ _ l15)) (by omega)]; rfl
              have e1 : bits .xor .u32 (bits .xor .u32 (bk q 17 : Nat) (bk q 19 : Nat)) ((q : Int) / 1024) = ((sg1 q : Nat) : Int) := by
                rw [show ((q : Int) / 1024) = ((q / 1024 : Nat) : Int) from rfl, u32_xor_nat _ _ (bk_lt _ _ l2) (bk_lt _ _ l2), u32_xor_nat _ _ (xor_lt (bk_lt _ _ l2) (bk_lt _ _ l2)) (by omega)]; rfl
              rw [e0, e1]
              omega
            · rw [if_neg hjk, if_neg hjk]
          case measure => simp [intOf]; omega
        · obtain rfl : k = 64 := by omega
          obtain ⟨c, h43, hcs, hc⟩ := rowIs_block hrk
          obtain ⟨c0, h0, hcs0, hc0⟩ := rowIs_block hr0k
          have hinf : (Tryd.prog.info? 76).map (·.size) = some c.size := by rw [hcs]; exact row64_size
          have hold : c0.size = c.size := by rw [hcs, hcs0]
          have hall := all_one_ints hc
          have HC := Lib.hid hc
          clear hc hc0 hcs0 hcs
          go_wp2_with (first
            | (refine wpList_load_row rfl _ _ rfl (w.heap.size + 1) rfl _ _ _ _ h43 Tryd.underlying76 rfl hinf ?_)
            | (refine wpList_store_row rfl _ _ _ rfl w.heap.size _ rfl rfl _ _ h0 hinf hold hall ?_))
          refine bodyPost_ret (v := .agg c) (results_cell_row rfl _ _ w.heap.size _ _ _ _ rfl (setRow_heap _ _ _ _ _ _ h0) Tryd.underlying76 rfl hinf) rfl ⟨?_, hbk.setRow (Nat.le_refl _) _⟩
          rw [HC.out, rowA]
          refine congrArg (fun l : List Value => Ending.returned (.agg l.toArray)) (List.map_congr_left fun j hj => ?_)
          rw [rowW_in W (by simpa using hj)]
theorem sched_any (s : ByteArray) (w : World) (hs : s.size = 64) :
   Calls Tryd.prog 62 #[.string s] w fun e w' => e = .returned (.agg (rowA .u32 64 fun j => (blkW s.data.toList).getD j 0)) ∧ Below w.heap.size w w' :=
  sched_gen (fun j => (blkW s.data.toList).getD j 0) s w hs (cutL_lt true s) (by rw [cutL_length, hs]) (blkW_old s hs) (blkW_lt s) (fun i h1 h2 => by have := blkW_next s hs i h1 h2; unfold schedF at this; exact this)
end Go.Proofs.YtgcohoonhklkbaaDoor
