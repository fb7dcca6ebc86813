/-
  armour: the contract of Letters.
-/
import Derived.Test.YtmmkhlianijagaaDoorAr2
import Derived.Test.YtmmkhlianijagaaDoorCells
import Derived.Shelf.Abstract
namespace Go.Proofs.YtmmkhlianijagaaDoor
open Go.RowKit Go.Kx Go.Arm Go.Shelf
set_option maxRecDepth 20000

def natsOf (s : ByteArray) : List Nat := s.data.toList.map UInt8.toNat
theorem natsOf_length (s : ByteArray) : (natsOf s).length = s.size := by simp [natsOf]
theorem slb_of_cells {w : World} {g z : Nat} {f : Nat → Nat} {l : List Nat} (h : Cells w g z f) (hl : l.length = z) (hf : ∀ j, j < z → l.getD j 0 = f j) : Sl w (some ⟨g, 0, none⟩) (u8s l) := by
  refine .inr ⟨g, 0, rfl, h.1, fun j u hu => ?_⟩
  have hj : j < l.length := by have := (List.getElem?_eq_some_iff.1 hu).1; rwa [u8s_length] at this
  rw [Nat.zero_add, (h.2 j (by omega)).1]
  simp only [u8s, List.getElem?_map, List.getElem?_eq_getElem hj, Option.map_some, Option.some.injEq] at hu
  rw [← hu, ← hf j (by omega), List.getD, List.getElem?_eq_getElem hj]
  rfl
theorem own_cells {w : World} {B : Nat} {v : Value} {n : Nat} {l : List Nat} (h : w.ownsRow B 5 1 v n (u8s l)) (h0 : 0 < n) : ∃ g c, v = .slice (some ⟨g, 0, none⟩) n c ∧ B ≤ g ∧ Cells w g n (fun j => l.getD j 0) := by
  have hl := h.1
  rcases h.2 with ⟨rfl, hx⟩ | ⟨g, cap, cur, rfl, hg, hh, hc, hm, hs, ht⟩
  · rw [hx] at hl
    simp at hl
    omega
  · refine ⟨g, cap, rfl, hg, (Array.getElem?_eq_some_iff.1 hh).1, fun j hj => ⟨?_, ?_⟩⟩
    · rw [cell_of_row _ _ _ _ _ _ hh]
      have hjl : j < l.length := by rw [u8s_length] at hl; omega
      have hu : (u8s l)[j]? = some (.int .u8 (l.getD j 0 : Nat)) := by
        simp [u8s, List.getElem?_map, List.getD, List.getElem?_eq_getElem hjl]
      rw [← ht, List.getElem?_take] at hu
      split at hu
      · simpa using hu
      · cases hu
    · unfold World.frozen?
      rw [hh]
      simp
theorem cells_string {w : World} {g n c : Nat} {f : Nat → Nat} (h : Cells w g n f) (l : List UInt8) (hl : l.length = n) (hf : ∀ j, j < n → (l.getD j 0).toNat = f j) :
    (convert 34 9 (.slice (some ⟨g, 0, none⟩) n c)).run Tryd.prog w = .ok (.string ⟨l.toArray⟩) w := by
  subst hl
  refine run_convert_bytes_back (P := Tryd.prog) w 34 9 5 ⟨g, 0, none⟩ c l Tryd.underlying34 Tryd.underlying5 Tryd.underlying9 (fun j hj => ?_)
  rw [show (⟨g, 0, none⟩ : Addr).add j = ⟨g, j, none⟩ by unfold Addr.add; split <;> simp_all, (h.2 j hj).1, ← hf j hj, List.getD, List.getElem?_eq_getElem hj]
  rfl

/-! ### the mathematics -/
theorem bits_len (l : List Nat) : (bitsL 8 l).length = 8 * l.length := bitsL_length 8 l
theorem numN_zeros (x : List Nat) (p : Nat) : numN (x ++ List.replicate p 0) = numN x * 2 ^ p := by
  rw [numN_append, List.length_replicate]
  have : ∀ p, numN (List.replicate p 0) = 0 := fun p => by
    induction p with
    | zero => rfl
    | succ p ih => rw [List.replicate_succ', numN_snoc, ih]
  rw [this, Nat.add_zero]
theorem vals_whole {l : List Nat} {j : Nat} (hj : j = (bitsL 8 l).length / 5) (hc : cntH 5 j (bitsL 8 l) = 0) : outN 5 j (bitsL 8 l) = valL l := by
  unfold cntH at hc
  rw [bits_len] at hj hc
  have hp : padN l.length = 0 := by unfold padN; omega
  have hn : lenN l.length = j := by unfold lenN; omega
  unfold outN valL
  rw [hp, hn, List.replicate_zero, List.append_nil]
theorem vals_rest {l : List Nat} {j : Nat} (hj : j = (bitsL 8 l).length / 5) (hc : 0 < cntH 5 j (bitsL 8 l)) :
    outN 5 j (bitsL 8 l) ++ [numH 5 j (bitsL 8 l) * 2 ^ (5 - cntH 5 j (bitsL 8 l))] = valL l := by
  have hlen := bits_len l
  have hc2 := hc
  unfold cntH at hc2
  have hp : padN l.length = 5 - cntH 5 j (bitsL 8 l) := by unfold padN cntH; omega
  have hn : lenN l.length = j + 1 := by unfold lenN; omega
  unfold valL
  rw [hn, grpL_succ, grpL_append 5 j _ _ (by omega), hp]
  unfold outN numH
  congr 2
  rw [List.drop_append_of_le_length (by omega), List.take_of_length_le, numN_zeros]
  rw [List.length_append, List.length_replicate, List.length_drop]
  unfold cntH
  omega
theorem rest_lt {l : List Nat} {j : Nat} (hc : 0 < cntH 5 j (bitsL 8 l)) (hc5 : cntH 5 j (bitsL 8 l) < 5) : numH 5 j (bitsL 8 l) * 2 ^ (5 - cntH 5 j (bitsL 8 l)) < 32 := by
  have h := numH_lt (k := 5) (j := j) (bitsL_two 8 l)
  generalize numH 5 j (bitsL 8 l) = m at *
  generalize cntH 5 j (bitsL 8 l) = c at *
  rcases (by omega : c = 1 ∨ c = 2 ∨ c = 3 ∨ c = 4) with rfl | rfl | rfl | rfl <;> omega

def mixA (V : List Nat) (k j : Nat) : Nat := if j < k then (letA (V.getD j 0)).toNat else V.getD j 0
theorem mixA_zero (V : List Nat) (j : Nat) : mixA V 0 j = V.getD j 0 := if_neg (by omega)
theorem mixA_same (V : List Nat) (k : Nat) : mixA V k k = V.getD k 0 := if_neg (by omega)
theorem mixA_set (V : List Nat) (k j : Nat) : (if j = k then (letA (V.getD k 0)).toNat else mixA V k j) = mixA V (k + 1) j := by
  unfold mixA
  by_cases h : j = k
  · subst h; simp
  · rw [if_neg h]
    by_cases h2 : j < k
    · rw [if_pos h2, if_pos (by omega)]
    · rw [if_neg h2, if_neg (by omega)]
theorem mixA_all (V : List Nat) (j : Nat) (h : j < V.length) : ((V.map letA).getD j 0).toNat = mixA V V.length j := by
  unfold mixA
  rw [if_pos h]
  simp [List.getD, List.getElem?_map, List.getElem?_eq_getElem h]
theorem alpha_at : ∀ x : Nat, (hx : x < 32) → ((ByteArray.mk #[97, 98, 99, 100, 101, 102, 103, 104, 105, 106, 107, 108, 109, 110, 111, 112, 113, 114, 115, 116, 117, 118, 119, 120, 121, 122, 50, 51, 52, 53, 54, 55])[x]'hx) = letA x := by decide

/-! ### the walk -/
theorem rletters_group (vals : List Nat) (hv : ∀ x ∈ vals, x < 256) (hsz : vals.length ≤ 10000) (A : Option Addr) (c : Nat) (w : World) (hs : Sl w A (u8s vals)) :
    Calls Tryd.prog 16 #[.slice A vals.length c, .func (.func 22) #[] #[], .func (.func 23) #[] #[]] w fun e w' =>
      ∃ v j, e = .returned (.tuple #[v, .agg #[.int .i64 (numH 5 j (bitsL 8 vals) : Nat), .int .i64 (cntH 5 j (bitsL 8 vals) : Nat)]]) ∧ j = (bitsL 8 vals).length / 5 ∧ w'.ownsRow w.heap.size 5 1 v j (u8s (outN 5 j (bitsL 8 vals))) ∧ Below w.heap.size w w' :=
  regroup_any 22 23 (enters_of Tryd.func22 (by kernel_rfl) rfl) (enters_of Tryd.func23 (by kernel_rfl) rfl) 8 5 (by omega) (by omega) (by omega)
    (fun b m c x V h1 h2 h3 h => putByte_any b m c x h1 h2 h3 V h) (fun b m c V h1 h => takeLetter_no b m c h1 V h) (fun b m c q r k V h1 h2 h3 h4 h5 h6 h => takeLetter_yes b m c q r k h1 h2 h3 h4 h5 h6 V h)
    vals hv hsz A c w hs
theorem natsOf_get (s : ByteArray) (j : Nat) : (natsOf s).getD j 0 = (s.data.toList.getD j 0).toNat := by
  simp only [natsOf, List.getD, List.getElem?_map]
  cases s.data.toList[j]? <;> rfl
theorem natsOf_lt (s : ByteArray) : ∀ x ∈ natsOf s, x < 256 := toNat_lt s.data.toList
/-- Regroup tells the letters' numbers, but for the last one. -/
def LetP (l : List Nat) (W w' : World) (e : Ending) : Prop :=
  ∃ v j, e = .returned (.tuple #[v, .agg #[.int .i64 (numH 5 j (bitsL 8 l) : Nat), .int .i64 (cntH 5 j (bitsL 8 l) : Nat)]]) ∧ j = (bitsL 8 l).length / 5 ∧ w'.ownsRow W.heap.size 5 1 v j (u8s (outN 5 j (bitsL 8 l))) ∧ Below W.heap.size W w'
theorem hld_new (W : World) (m c : Nat) : Hld (W.alloc (.cells #[.int .i64 (m : Int), .int .i64 (c : Int)] 37)) W.heap.size m c := by
  refine World.rowIs_alloc W #[.int .i64 (m : Int), .int .i64 (c : Int)] 37 _ (fun i hi => ?_)
  rcases (by simpa using hi : i < 2) with hi2
  rcases (by omega : i = 0 ∨ i = 1) with rfl | rfl <;> rfl
set_option maxHeartbeats 2000000 in
theorem letters_any (s : ByteArray) (hz : s.size ≤ 10000) (r : ByteArray) (hr : ⟨(letL s.data.toList).toArray⟩ = r) (w : World) :
    Calls Tryd.prog 9 #[.string s] w fun e w' => e = .returned (.string r) ∧ Below w.heap.size w w' := by
  have hconv := run_bytes_of_string (P := Tryd.prog) w 9 34 5 s Tryd.underlying9 Tryd.underlying34 Tryd.underlying5
  have HG : Hid (∀ (c : Nat) (W : World), Sl W (some ⟨w.heap.size, 0, none⟩) (u8s (natsOf s)) → Calls Tryd.prog 16 #[.slice (some ⟨w.heap.size, 0, none⟩) s.size c, .func (.func 22) #[] #[], .func (.func 23) #[] #[]] W fun e w' => LetP (natsOf s) W w' e) := Lib.hid fun c W h => by
    have := rletters_group (natsOf s) (natsOf_lt s) (by rw [natsOf_length]; exact hz) (some ⟨w.heap.size, 0, none⟩) c W h
    rw [natsOf_length] at this
    exact this
  have HLT : Hid (letL s.data.toList = (valL (natsOf s)).map letA) := Lib.hid rfl
  generalize grownCap w s.size 0 5 = c at hconv
  have hsl : Sl (w.alloc (.cells (bytesRow s c) 5 ((bytesRow s c).size, (bytesRow s c).size + 1))).drew (some ⟨w.heap.size, 0, none⟩) (u8s (natsOf s)) := slb_of_cells (Cells.new w s 5 c) (natsOf_length s) (fun j _ => natsOf_get s j)
  have hb0 := (Below.alloc0 w (.cells (bytesRow s c) 5 ((bytesRow s c).size, (bytesRow s c).size + 1))).drew
  have HR := Lib.hid hr
  clear hr
  go_enter Tryd.func9, Tryd.ntmps9
  go_wp2_with fail
  generalize (w.alloc _).drew = W1 at *
  clear hconv
  refine (HG.out c W1 hsl).mono ?_
  rintro e w2 ⟨v, j, rfl, hj, hown, hb2⟩
  have HJ := Lib.hid hj
  have hbw := hb0.next' hb2
  have hB2 : w.heap.size ≤ W1.heap.size := hb0.size
  have hB3 : W1.heap.size ≤ w2.heap.size := hb2.size
  clear hsl hb0 hb2 hj HG
  have HLEN : Hid ((natsOf s).length ≤ 10000) := Lib.hid (by rw [natsOf_length]; exact hz)
  generalize natsOf s = l at *
  obtain ⟨M, hM⟩ : ∃ M, M = numH 5 j (bitsL 8 l) := ⟨_, rfl⟩
  obtain ⟨C, hC⟩ : ∃ C, C = cntH 5 j (bitsL 8 l) := ⟨_, rfl⟩
  rw [← hM, ← hC]
  have HM := Lib.hid hM
  have HC := Lib.hid hC
  clear hM hC
  have hn1 := hld_new w2 M C
  have hbn := Below.alloc0 w2 (.cells #[.int .i64 (M : Int), .int .i64 (C : Int)] 37)
  have hown1 := hown.alloc (.cells #[.int .i64 (M : Int), .int .i64 (C : Int)] 37)
  have hbw1 := hbw.next' hbn
  clear hbn
  have HLL : Hid (l.length ≤ 10000) := HLEN
  have hC5 : C < 5 := by have h1 := HC.out; have h2 := HJ.out; unfold cntH at h1; omega
  by_cases h0 : 0 < C
  · obtain ⟨z, hz2⟩ : ∃ z, z = M * 2 ^ (5 - C) := ⟨_, rfl⟩
    have hV : Hid (outN 5 j (bitsL 8 l) ++ [z] = valL l) := Lib.hid (by
      have := vals_rest (l := l) HJ.out (by rw [← HC.out]; exact h0)
      rwa [← HC.out, ← HM.out, ← hz2] at this)
    have hz32 : z < 32 := by
      have := rest_lt (l := l) (j := j) (by rw [← HC.out]; exact h0) (by rw [← HC.out]; exact hC5)
      rwa [← HC.out, ← HM.out, ← hz2] at this
    have e8 : Hid (wrap64 ((M : Int) * 2 ^ (5 - C)) % 256 = (z : Int)) := Lib.hid (by
      have e : (M : Int) * 2 ^ (5 - C) = (z : Int) := by rw [hz2]; push_cast; rfl
      rw [e, IntWalk.wrap64_in _ (by omega)]
      omega)
    clear hz2
    have hjs : j ≤ 20000 := by
      have h1 := HJ.out
      have h2 := HLL.out
      rw [bits_len] at h1
      omega
    obtain ⟨i0, hi, hz0, hz1, hz3⟩ := info_parts octet_info
    go_wp2_with (first
      | (at_builtin; refine wpList_append_own _ rfl _ _ 34 rfl W1.heap.size 5 i0 (.int .u8 0) 1 1 Tryd.underlying34 hi hz0 hz1 hz3 rfl (by decide) _ _ _ rfl (hown1.alloc _) ⟨w2.heap.size + 1, 0, none⟩ 1 1 [.int .u8 (wrap64 ((M : Int) * 2 ^ (5 - C)) % 256)] rfl rfl ?c1 ?c2 ?c3 ?c4 ?c5 ?_)
      | go_in)
    case c1 =>
      intro j u hj
      match j, hj with
      | 0, hj => simp at hj; subst hj; simp [Addr.add]
    case c2 => intro u hu; simp at hu; subst hu; rfl
    case c3 => unfold maxLen; omega
    case c4 => omega
    case c5 => have := hown.lt; simp; omega
    intro v' w3 hown' hgrow _
    rw [e8.out, u8s_snoc, hV.out] at hown'
    have hb3 := (hbw1.al _).grown hgrow (by have := hbw1.size; simp; omega) (fun k e => by have := (hown.lt _ e).1; omega)
    obtain ⟨n, hn⟩ : ∃ n, n = j + 1 := ⟨_, rfl⟩
    rw [← hn] at hown'
    have HNV : Hid (n = (valL l).length) := Lib.hid (by rw [← hV.out, List.length_append, outN_length]; exact hn)
    obtain ⟨g, cv, rfl, hg, hcs⟩ := own_cells hown' (by omega)
    have hnb : n ≤ 20001 := by omega
    clear hown' hown hown1 hgrow hbw hbw1 hn1 hn hi hz0 hz1 hz3
    have HVL2 : Hid (∀ j, j < n → (valL l).getD j 0 < 32) := Lib.hid fun j hj => by
      have hj2 : j < (valL l).length := by rw [← HNV.out]; exact hj
      rw [List.getD, List.getElem?_eq_getElem hj2]
      exact valL_lt l _ (List.getElem_mem hj2)
    have HFIN : Hid (∀ (V : World) (c : Nat), Cells V g n (mixA (valL l) n) → (convert 34 9 (.slice (some ⟨g, 0, none⟩) n c)).run Tryd.prog V = .ok (.string r) V) := Lib.hid fun V c h => by
      have e := cells_string (c := c) h ((valL l).map letA) (by rw [List.length_map]; exact HNV.out.symm) (fun j hj => by rw [mixA_all _ _ (by rw [← HNV.out]; exact hj), ← HNV.out])
      rw [e, ← HR.out, HLT.out]
    have hcs0 : Cells w3 g n (mixA (valL l) 0) := ⟨hcs.1, fun j hj => by rw [mixA_zero]; exact hcs.2 j hj⟩
    clear hcs
    go_wp2
    go_loopw [5, 6, 28] (fun _ _ i wr => ∃ k : Nat, k ≤ n ∧ i = .int .i64 k ∧ Cells wr g n (mixA (valL l) k) ∧ Below w.heap.size w wr) (fun _ _ i _ => n - (intOf i).toNat)
    case atStart => exact ⟨0, by omega, rfl, hcs0, hb3⟩
    case round =>
      clear hcs0 hb3
      obtain ⟨k, hk, rfl, hcs, hb⟩ := hrel
      by_cases hlt : k < n
      · have hx := HVL2.out k hlt
        have hcell := (hcs.2 k hlt).1
        have hfz := (hcs.2 k hlt).2
        have hgl := hcs.1
        rw [mixA_same] at hcell
        have HS := Lib.hid (fun j => mixA_set (valL l) k j)
        generalize (valL l).getD k 0 = x at *
        have ha := alpha_at x hx
        obtain ⟨y, hy⟩ : ∃ y, (letA x).toNat = y := ⟨_, rfl⟩
        rw [hy] at HS
        go_wp2
        go_roundw
        case rel => exact ⟨k + 1, by omega, by go_num, hcs.set hlt y HS.out, hb.setCell (p := ⟨g, k, none⟩) (by simp; omega) _⟩
        case measure => simp [intOf]; omega
      · obtain rfl : k = n := by omega
        have he := HFIN.out wr
        have he2 := he cv hcs
        clear he
        go_wp2
        go_ret
        exact ⟨rfl, hb⟩
  · obtain rfl : C = 0 := by omega
    have hW : Hid (outN 5 j (bitsL 8 l) = valL l) := Lib.hid (vals_whole HJ.out HC.out.symm)
    have hjs : j ≤ 20000 := by
      have h1 := HJ.out
      have h2 := HLL.out
      rw [bits_len] at h1
      omega
    rw [hW.out] at hown1
    obtain ⟨n, hn⟩ : ∃ n, n = j := ⟨_, rfl⟩
    have HNV : Hid (n = (valL l).length) := Lib.hid (by rw [← hW.out, outN_length]; exact hn)
    rw [← hn] at hown1
    have hnb : n ≤ 20001 := by omega
    rcases Nat.eq_zero_or_pos n with rfl | h0n
    · have hnil : valL l = [] := List.eq_nil_of_length_eq_zero HNV.out.symm
      have hst := own_strs (l := []) (by rw [hnil] at hown1; exact hown1)
      obtain ⟨A1, c1, hv, he⟩ := hst
      simp only [List.length_nil] at hv he
      subst hv
      have hrr : r = ⟨#[]⟩ := by rw [← HR.out, HLT.out, hnil]; rfl
      subst hrr
      clear hown hown1 hn
      go_wp2
      go_loopw [5, 6, 28] (fun _ _ i wr => i = .int .i64 0 ∧ wr = w2.alloc (.cells #[.int .i64 (M : Int), .int .i64 ((0 : Nat) : Int)] 37)) (fun _ _ _ _ => 0)
      case atStart => exact ⟨rfl, rfl⟩
      case round =>
        obtain ⟨rfl, rfl⟩ := hrel
        rw [show ((0 : Nat) : Int) = 0 from rfl] at he
        go_wp2
        go_ret
        exact ⟨rfl, hbw1⟩
    · have hV0 := h0n
      have hown2 := hown1
      obtain ⟨g, cv, rfl, hg, hcs⟩ := own_cells hown1 h0n
      clear hown2 hown1 hown hn1 hn
      have HVL2 : Hid (∀ j, j < n → (valL l).getD j 0 < 32) := Lib.hid fun j hj => by
        have hj2 : j < (valL l).length := by rw [← HNV.out]; exact hj
        rw [List.getD, List.getElem?_eq_getElem hj2]
        exact valL_lt l _ (List.getElem_mem hj2)
      have HFIN : Hid (∀ (V : World) (c : Nat), Cells V g n (mixA (valL l) n) → (convert 34 9 (.slice (some ⟨g, 0, none⟩) n c)).run Tryd.prog V = .ok (.string r) V) := Lib.hid fun V c h => by
        have e := cells_string (c := c) h ((valL l).map letA) (by rw [List.length_map]; exact HNV.out.symm) (fun j hj => by rw [mixA_all _ _ (by rw [← HNV.out]; exact hj), ← HNV.out])
        rw [e, ← HR.out, HLT.out]
      have hcs0 : Cells _ g n (mixA (valL l) 0) := ⟨hcs.1, fun j hj => by rw [mixA_zero]; exact hcs.2 j hj⟩
      clear hcs
      go_wp2
      go_loopw [5, 6, 28] (fun _ _ i wr => ∃ k : Nat, k ≤ n ∧ i = .int .i64 k ∧ Cells wr g n (mixA (valL l) k) ∧ Below w.heap.size w wr) (fun _ _ i _ => n - (intOf i).toNat)
      case atStart => exact ⟨0, by omega, rfl, hcs0, hbw1⟩
      case round =>
        clear hcs0 hbw1
        obtain ⟨k, hk, rfl, hcs, hb⟩ := hrel
        by_cases hlt : k < n
        · have hx := HVL2.out k hlt
          have hcell := (hcs.2 k hlt).1
          have hfz := (hcs.2 k hlt).2
          have hgl := hcs.1
          rw [mixA_same] at hcell
          have HS := Lib.hid (fun j => mixA_set (valL l) k j)
          generalize (valL l).getD k 0 = x at *
          have ha := alpha_at x hx
          obtain ⟨y, hy⟩ : ∃ y, (letA x).toNat = y := ⟨_, rfl⟩
          rw [hy] at HS
          go_wp2
          go_roundw
          case rel => exact ⟨k + 1, by omega, by go_num, hcs.set hlt y HS.out, hb.setCell (p := ⟨g, k, none⟩) (by simp; omega) _⟩
          case measure => simp [intOf]; omega
        · obtain rfl : k = n := by omega
          have he := HFIN.out wr
          have he2 := he cv hcs
          clear he
          go_wp2
          go_ret
          exact ⟨rfl, hb⟩
end Go.Proofs.YtmmkhlianijagaaDoor
