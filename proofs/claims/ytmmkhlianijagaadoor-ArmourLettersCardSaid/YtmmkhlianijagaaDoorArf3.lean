/-
  keyholeref10.Bytes: the contract.
-/
import Derived.Test.YtmmkhlianijagaaDoorArf2
import Derived.Test.YtmmkhlianijagaaDoorAr4
namespace Go.Proofs.YtmmkhlianijagaaDoor
open Go.RowKit Go.Kx Go.Arm
set_option maxRecDepth 20000

def outC (l : List UInt8) (k : Nat) : List UInt8 := (grpL 8 k (bitsL 5 (valsW l))).map UInt8.ofNat
theorem outC_len (l : List UInt8) (k : Nat) : (outC l k).length = k := by rw [outC, List.length_map, grpL_length]
theorem outC_succ (l : List UInt8) (k : Nat) : outC l k ++ [UInt8.ofNat (numN (((bitsL 5 (valsW l)).drop (8 * k)).take 8))] = outC l (k + 1) := by rw [outC, outC, grpL_succ, List.map_append]; rfl
theorem outC_all (l : List UInt8) : outC l (whole l) = ofL l := by
  unfold outC ofL
  rw [show bytL (List.map valA l) = grpL 8 (whole l) (bitsL 5 (valsW l)) from bytL_out l]
theorem bits5_take (l : List UInt8) {k : Nat} (h : k < l.length) : bitsL 5 (valsW (l.take (k + 1))) = bitsL 5 (valsW (l.take k)) ++ bitsN (valA (l.getD k 0)) 5 := by
  unfold valsW
  rw [List.take_add_one, List.map_append, bitsL_append, List.getElem?_eq_getElem h, List.getD, List.getElem?_eq_getElem h]
  simp [bitsL]
theorem byte_num {l : List Nat} (h2 : ∀ d ∈ l, d < 2) (hl : l.length ≤ 8) : numN l < 256 := by
  have h := numN_lt l h2
  have h1 : 2 ^ l.length ≤ 2 ^ 8 := Nat.pow_le_pow_right (by omega) hl
  omega
set_option maxHeartbeats 4000000 in
theorem rbytes_any (s : ByteArray) (hz : s.size ≤ 10000) (r : ByteArray) (c : Int) (h : bytR s.data.toList = (r.data.toList, c)) (w : World) :
    Calls Tryd.prog 7 #[.string s] w fun e w' => e = .returned (.tuple #[.string r, .int .i64 c]) ∧ Below w.heap.size w w' := by
  obtain ⟨i0, hi, hz0, hz1, hz2⟩ := info_parts int_info
  obtain ⟨i1, hi1, hy0, hy1, hy2⟩ := info_parts octet_info
  have H := Lib.hid h
  clear h
  go_enter Tryd.func7, Tryd.ntmps7
  go_wp2
  go_loopw [4, 5, 6] (fun v i _ wr => ∃ k m : Nat, k ≤ s.size ∧ i = .int .i64 k ∧ Hid (m = 5 * k) ∧ Hid (∀ j, j < k → valA (s.data.toList.getD j 0) < 32) ∧ wr.ownsRow w.heap.size 3 1 v m (ints (bitsL 5 (valsW (s.data.toList.take k)))) ∧ Below w.heap.size w wr) (fun _ i _ _ => s.size - (intOf i).toNat)
  case atStart => exact ⟨0, 0, by omega, rfl, Lib.hid rfl, Lib.hid (fun j hj => by omega), World.ownsRow_nil _ _ _ _, Below.refl _ _⟩
  case round =>
    obtain ⟨k, m, hk, rfl, hm, hg, hown, hb⟩ := hrel
    by_cases hlt : k < s.size
    · obtain ⟨x, hx⟩ : ∃ x : UInt8, s[k] = x := ⟨_, rfl⟩
      have hkl : k < s.data.toList.length := by simpa using hlt
      have hxd : s.data.toList.getD k 0 = x := by rw [← hx, List.getD, List.getElem?_eq_getElem hkl]; rfl
      have HT := Lib.hid (bits5_take s.data.toList hkl)
      rw [hxd] at HT
      by_cases hv : valA x < 32
      · have HG : Hid (∀ j, j < k + 1 → valA (s.data.toList.getD j 0) < 32) := Lib.hid fun j hj => by
          rcases (by omega : j < k ∨ j = k) with h1 | rfl
          · exact hg.out j h1
          · rw [hxd]; exact hv
        have hRV := rvalue_any x (valA x : Int) (by rw [if_pos hv]) wr
        generalize valA x = y at *
        clear hxd hkl hg
        go_wp2_with fail
        refine hRV.mono ?_
        rintro e w1 ⟨rfl, rfl⟩
        go_wp2_with fail
        refine (rbits_any y 5 (by omega) (by omega) _).mono ?_
        rintro e w2 ⟨rfl, hsl, hb1⟩
        have hown1 := own_keep hown hb1
        have hbw1 := hb.next' hb1
        have hlen5 : (ints (bitsN y 5)).length = 5 := by rw [ints_length, bitsN_length]
        generalize w1.heap.size = g at *
        clear hb1 hown hb hRV
        go_wp2_with (first
          | (at_builtin; refine wpList_append_own _ rfl _ _ 45 rfl w.heap.size 3 i0 (.int .i64 0) 1 8 Tryd.underlying45 hi hz0 hz1 hz2 rfl (by decide) _ _ _ rfl hown1 ⟨g, 0, none⟩ 5 5 (ints (bitsN y 5)) rfl (by rw [hlen5]) (cells_of_sl hsl) ints_cell ?c3 ?c4 ?c5 ?_)
          | go_in)
        case c3 => unfold maxLen; have := hm.out; omega
        case c4 => have := hm.out; omega
        case c5 => exact hbw1.size
        intro v' w3 hown2 hgrow _
        have hb2 := own_below hown1 hbw1 hgrow
        rw [ints_append, ← HT.out] at hown2
        clear hown1 hbw1 hgrow hsl hlen5
        go_wp2
        go_roundw
        case rel => exact ⟨k + 1, m + 5, by omega, by go_num, Lib.hid (by have := hm.out; omega), HG, hown2, hb2⟩
        case measure => simp [intOf]; omega
      · have hno : bytesA s.data.toList = none := bytesA_none ⟨x, by rw [← hxd, List.getD, List.getElem?_eq_getElem hkl]; exact List.getElem_mem _, by omega⟩
        obtain ⟨rfl, rfl⟩ := bytR_no H.out hno
        have hRV := rvalue_any x (-1) (by rw [if_neg hv]) wr
        clear hxd hkl
        go_wp2_with fail
        refine hRV.mono ?_
        rintro e w1 ⟨rfl, rfl⟩
        go_wp2
        go_ret2
        exact ⟨rfl, hb⟩
    · obtain rfl : k = s.size := by omega
      rw [List.take_of_length_le (by simp)] at hown
      obtain ⟨l, hl⟩ : ∃ l, s.data.toList = l := ⟨_, rfl⟩
      have hll : l.length = s.size := by rw [← hl]; simp
      rw [hl] at hown H
      have HBL : Hid ((bitsL 5 (valsW l)).length = 5 * s.size) := Lib.hid (by rw [bits5_len, hll])
      obtain ⟨L, hL⟩ : ∃ L, L = whole l := ⟨_, rfl⟩
      have hL8 : 8 * L ≤ m ∧ m < 8 * L + 8 := by have := hm.out; rw [hL]; unfold whole; omega
      have HL := Lib.hid hL
      have HLL := Lib.hid hl
      have HLN := Lib.hid hll
      have hms : m ≤ 50000 := by have := hm.out; omega
      have HM := Lib.hid hm.out
      clear hL hl hll hm hg
      obtain ⟨A1, c1, rfl, hs3⟩ := own_sl hown
      have hform : 0 < L → ∃ g, A1 = some ⟨g, 0, none⟩ ∧ m ≤ c1 := fun h0 => by
        rcases hown.2 with ⟨_, hx⟩ | ⟨g, cap, cur, hv, hg, hh, hc, _⟩
        · omega
        · cases hv
          exact ⟨g, rfl, hc⟩
      have hwr := hb.size
      clear hown
      go_wp2
      go_loopw [7, 8] (fun o i wr' => ∃ k : Nat, k ≤ L ∧ i = .int .i64 (8 * (k : Int)) ∧ wr'.ownsRow wr.heap.size 5 1 o k (byts (outC l k)) ∧ Below w.heap.size w wr' ∧ Below wr.heap.size wr wr') (fun _ i _ => 8 * L + 8 - (intOf i).toNat)
      case atStart => exact ⟨0, by omega, rfl, World.ownsRow_nil _ _ _ _, hb, Below.refl _ _⟩
      case round =>
        clear hb
        obtain ⟨k, hk, rfl, hown, hb, hbr⟩ := hrel
        by_cases hlt2 : k < L
        · obtain ⟨g, rfl, hqc⟩ := hform (by omega)
          have hsk := sl_mid (hs3.keep hbr) (8 * k) 8
          have hcl : (((bitsL 5 (valsW l)).drop (8 * k)).take 8).length = 8 := by rw [List.length_take, List.length_drop, HBL.out]; have := HM.out; omega
          have hc2 : ∀ d ∈ ((bitsL 5 (valsW l)).drop (8 * k)).take 8, d < 2 := fun d hd => bitsL_two 5 _ d (List.mem_of_mem_drop (List.mem_of_mem_take hd))
          have hx8 := byte_num hc2 (by omega)
          have HO := Lib.hid (outC_succ l k)
          generalize ((bitsL 5 (valsW l)).drop (8 * k)).take 8 = ch at *
          obtain ⟨x, hx⟩ : ∃ x, numN ch = x := ⟨_, rfl⟩
          rw [hx] at hx8 HO
          have HNUM : Hid (∀ (c : Nat) (V : World), Sl V (some ⟨g, 8 * k, none⟩) (ints ch) → Calls Tryd.prog 21 #[.slice (some ⟨g, 8 * k, none⟩) 8 c] V fun e w' => e = .returned (.int .i64 (x : Int)) ∧ w' = V) := Lib.hid fun c V hV => rnumber_any ch hc2 (by omega) 8 hcl x hx _ c V hV
          have hxn : Hid ((UInt8.ofNat x).toNat = x) := Lib.hid (by rw [UInt8.toNat_ofNat']; omega)
          have t1 : 8 * (k : Int) + 8 ≤ (m : Int) := by omega
          have t2 : 8 * k + 8 ≤ c1 := by omega
          clear hc2 hx hcl
          go_wp2_with fail
          rw [show 8 * k + 8 - 8 * k = 8 by omega]
          refine (HNUM.out _ _ hsk).mono ?_
          rintro e w5 ⟨rfl, rfl⟩
          clear HNUM hsk
          go_wp2_with (first
            | (at_builtin; refine wpList_append_own _ rfl _ _ 34 rfl wr.heap.size 5 i1 (.int .u8 0) 1 1 Tryd.underlying34 hi1 hy0 hy1 hy2 rfl (by decide) _ _ _ rfl (hown.alloc _) ⟨w5.heap.size, 0, none⟩ 1 1 [.int .u8 (x : Int)] rfl rfl ?c1 ?c2 ?c3 ?c4 ?c5 ?_)
            | go_in)
          case c1 =>
            intro j u hj
            match j, hj with
            | 0, hj => simp at hj; subst hj; simp [Addr.add]
          case c2 => intro u hu; simp at hu; subst hu; rfl
          case c3 => unfold maxLen; omega
          case c4 => omega
          case c5 => have := hbr.size; simp; omega
          intro v' w6 hown2 hgrow _
          have hb6 := (hb.al (.cells #[.int .u8 (x : Int)] 5)).grown hgrow (by have := hb.size; simp; omega) (fun j e => by have h1 := (hown.lt _ e).1; omega)
          have hbr6 := own_below (hown.alloc _) (hbr.al _) hgrow
          have hxe : (Value.int .u8 (x : Int)) = Value.int .u8 ((UInt8.ofNat x).toNat : Int) := by rw [hxn.out]
          rw [hxe, byts_snoc, HO.out] at hown2
          clear hown hgrow hb hbr hxe
          go_wp2
          go_roundw
          case rel => exact ⟨k + 1, by omega, by go_num, hown2, hb6, hbr6⟩
          case measure => simp [intOf]; omega
        · obtain rfl : k = L := by omega
          have hst := own_strs (l := outC l k) (by rw [outC_len]; exact hown)
          obtain ⟨q, hq⟩ : ∃ q : ByteArray, (⟨(outC l k).toArray⟩ : ByteArray) = q := ⟨_, rfl⟩
          have hql : q.data.toList = ofL l := by rw [← hq, HL.out, outC_all]
          have hqz : q.size ≤ 10000 := by
            have h1 := congrArg List.length hql
            rw [ofL_length] at h1
            have h2 : q.data.toList.length = q.size := by simp
            have h3 := HL.out
            omega
          obtain ⟨p, hp⟩ : ∃ p : ByteArray, ⟨(letL q.data.toList).toArray⟩ = p := ⟨_, rfl⟩
          have HLET : Hid (∀ V : World, Calls Tryd.prog 10 #[.string q] V fun e w' => e = .returned (.string p) ∧ Below V.heap.size V w') := Lib.hid fun V => rletters_any q hqz p hp V
          obtain ⟨A5, c5, hv, he⟩ := hst
          rw [hq] at he
          rw [outC_len] at hv
          subst hv
          have t1 : ¬ 8 * (k : Int) + 8 ≤ (m : Int) := by omega
          have HQ := Lib.hid hq
          clear hq
          go_wp2_with fail
          refine (HLET.out _).mono ?_
          rintro e w7 ⟨rfl, hb7⟩
          have hst2 := own_strs (l := outC l k) (by rw [outC_len]; exact own_keep hown hb7)
          have hb8 := hb.next' hb7
          obtain ⟨A6, c6, hv2, he2⟩ := hst2
          rw [outC_len] at hv2
          cases hv2
          rw [HQ.out] at he2
          have hpl : p.data.toList = letL (ofL l) := by rw [← hp, hql]
          by_cases hps : p = s
          · subst hps
            have hyes : bytesA l = some (ofL l) := by unfold bytesA; rw [if_pos (by rw [← hpl, HLL.out])]
            obtain ⟨hr, rfl⟩ := bytR_yes H.out hyes
            have hqr : q = r := by rw [hr]; exact ByteArray.ext (by rw [← hql])
            subst hqr
            clear hr hyes hpl hp hql he hown
            go_wp2
            go_ret2
            exact ⟨rfl, hb8⟩
          · have hno : bytesA l = none := by
              unfold bytesA
              rw [if_neg]
              intro h
              exact hps (ByteArray.ext (Array.toList_inj.1 (by rw [hpl, h, HLL.out])))
            obtain ⟨rfl, rfl⟩ := bytR_no H.out hno
            have hne : (p.toList == s.toList) = false := by
              rw [Lib.toList_data, Lib.toList_data, beq_eq_false_iff_ne]
              exact fun h => hps (ByteArray.ext (Array.toList_inj.1 h))
            clear hno hpl hp hql he hown
            go_wp2
            go_ret2
            exact ⟨rfl, hb8⟩
end Go.Proofs.YtmmkhlianijagaaDoor
