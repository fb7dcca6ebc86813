/-
  keyholeref10.Letters: the contract.
-/
import Derived.Test.YtmmkhlianijagaaDoorArf1
namespace Go.Proofs.YtmmkhlianijagaaDoor
open Go.RowKit Go.Kx Go.Arm
set_option maxRecDepth 20000

theorem ints_append (a b : List Nat) : ints a ++ ints b = ints (a ++ b) := by simp [ints]
/-- All digits of a text's letters. -/
def allD (s : ByteArray) : List Nat := bitsL 8 (natsOf s) ++ List.replicate (padN s.size) 0
theorem allD_len (s : ByteArray) : (allD s).length = 5 * lenN s.size := by
  have := all_len (natsOf s)
  rwa [natsOf_length] at this
theorem allD_two (s : ByteArray) : ∀ d ∈ allD s, d < 2 := all_two (natsOf s) _
theorem allD_vals (s : ByteArray) : grpL 5 (lenN s.size) (allD s) = valL (natsOf s) := by
  unfold valL allD
  rw [natsOf_length]
theorem cells_of_sl {w : World} {g n : Nat} {vs : List Value} (h : Sl w (some ⟨g, n, none⟩) vs) : ∀ j u, vs[j]? = some u → w.cell? ((⟨g, n, none⟩ : Addr).add j) = some u := by
  intro j u hu
  rcases h with rfl | ⟨b, off, e, _, hc⟩
  · simp at hu
  · cases e
    rw [← hc j u hu]
    congr 1
    unfold Addr.add
    split <;> simp_all
theorem ints_cell {l : List Nat} : ∀ u ∈ ints l, u.oneCell' = true := by
  intro u hu
  obtain ⟨x, _, rfl⟩ := List.mem_map.1 hu
  rfl
theorem sl_mid {w : World} {g : Nat} {l : List Nat} (h : Sl w (some ⟨g, 0, none⟩) (ints l)) (i k : Nat) : Sl w (some ⟨g, i, none⟩) (ints ((l.drop i).take k)) := by
  rcases h with h | ⟨b, off, e, hl, hc⟩
  · have : l = [] := by simpa [ints] using h
    subst this
    left
    simp [ints]
  · cases e
    refine .inr ⟨g, i, rfl, hl, fun j u hu => ?_⟩
    have hu2 : (ints l)[i + j]? = some u := by
      simp only [ints, List.getElem?_map, List.getElem?_take, List.getElem?_drop] at hu ⊢
      split at hu
      · exact hu
      · cases hu
    have := hc (i + j) u hu2
    rwa [Nat.zero_add] at this
theorem letA_num {l : List Nat} (h2 : ∀ d ∈ l, d < 2) (hl : l.length ≤ 5) : numN l < 32 := by
  have h := numN_lt l h2
  have h1 : 2 ^ l.length ≤ 2 ^ 5 := Nat.pow_le_pow_right (by omega) hl
  omega
def outB (s : ByteArray) (k : Nat) : List UInt8 := (grpL 5 k (allD s)).map letA
theorem outB_len (s : ByteArray) (k : Nat) : (outB s k).length = k := by rw [outB, List.length_map, grpL_length]
theorem outB_succ (s : ByteArray) (k : Nat) : outB s k ++ [letA (numN (((allD s).drop (5 * k)).take 5))] = outB s (k + 1) := by rw [outB, outB, grpL_succ, List.map_append]; rfl
theorem outB_all (s : ByteArray) : outB s (lenN s.size) = letL s.data.toList := by rw [outB, allD_vals]; rfl
set_option maxHeartbeats 4000000 in
theorem rletters_any (s : ByteArray) (hz : s.size ≤ 10000) (r : ByteArray) (hr : ⟨(letL s.data.toList).toArray⟩ = r) (w : World) :
    Calls Tryd.prog 10 #[.string s] w fun e w' => e = .returned (.string r) ∧ Below w.heap.size w w' := by
  obtain ⟨i0, hi, hz0, hz1, hz2⟩ := info_parts int_info
  obtain ⟨i1, hi1, hy0, hy1, hy2⟩ := info_parts octet_info
  have HR := Lib.hid hr
  clear hr
  go_enter Tryd.func10, Tryd.ntmps10
  go_wp2
  go_loopw [3, 4] (fun v i wr => ∃ k m : Nat, k ≤ s.size ∧ i = .int .i64 k ∧ m = 8 * k ∧ wr.ownsRow w.heap.size 3 1 v m (ints (bitsL 8 ((natsOf s).take k))) ∧ Below w.heap.size w wr) (fun _ i _ => s.size - (intOf i).toNat)
  case atStart => exact ⟨0, 0, by omega, rfl, rfl, World.ownsRow_nil _ _ _ _, Below.refl _ _⟩
  case round =>
    obtain ⟨k, m, hk, rfl, hm, hown, hb⟩ := hrel
    by_cases hlt : k < s.size
    · have hby : s[k].toNat < 256 := UInt8.toNat_lt _
      have hkl : k < (natsOf s).length := by rw [natsOf_length]; exact hlt
      have HT := Lib.hid (bitsL_take_succ 8 (natsOf s) hkl)
      have HG : Hid ((natsOf s).getD k 0 = s[k].toNat) := Lib.hid (by rw [natsOf_get, List.getD, List.getElem?_eq_getElem (by simpa using hlt)]; rfl)
      rw [HG.out] at HT
      have hbw : IntKind.i64.wrap ((s[k].toNat : Nat) : Int) = ((s[k].toNat : Nat) : Int) := IntWalk.i64_in _ (by omega)
      have HM := Lib.hid hm
      clear hm HG
      go_wp2_with fail
      generalize s[k].toNat = x at *
      refine (rbits_any x 8 (by omega) (by omega) _).mono ?_
      rintro e w1 ⟨rfl, hsl, hb1⟩
      have hown1 := own_keep hown hb1
      have hbw1 := hb.next' hb1
      have hlen8 : (ints (bitsN x 8)).length = 8 := by rw [ints_length, bitsN_length]
      generalize wr.heap.size = g at *
      clear hb1 hown hb
      go_wp2_with (first
        | (at_builtin; refine wpList_append_own _ rfl _ _ 45 rfl w.heap.size 3 i0 (.int .i64 0) 1 8 Tryd.underlying45 hi hz0 hz1 hz2 rfl (by decide) _ _ _ rfl hown1 ⟨g, 0, none⟩ 8 8 (ints (bitsN x 8)) rfl (by rw [hlen8]) (cells_of_sl hsl) ints_cell ?c3 ?c4 ?c5 ?_)
        | go_in)
      case c3 => unfold maxLen; have := HM.out; omega
      case c4 => have := HM.out; omega
      case c5 => exact hbw1.size
      intro v' w2 hown2 hgrow _
      have hb2 := own_below hown1 hbw1 hgrow
      rw [ints_append, ← HT.out] at hown2
      clear hown1 hbw1 hgrow hsl hlen8
      go_wp2
      go_roundw
      case rel => exact ⟨k + 1, m + 8, by omega, by go_num, by have := HM.out; omega, hown2, hb2⟩
      case measure => simp [intOf]; omega
    · obtain rfl : k = s.size := by omega
      rw [List.take_of_length_le (by rw [natsOf_length]; exact Nat.le_refl _)] at hown
      have HM := Lib.hid hm
      have HLEN : Hid (8 * s.size + padN s.size = 5 * lenN s.size) := Lib.hid (pad_len s.size)
      have HP5 : Hid (padN s.size < 5) := Lib.hid (by unfold padN; omega)
      clear hm
      obtain ⟨P, hP⟩ : ∃ P, P = padN s.size := ⟨_, rfl⟩
      rw [← hP] at HLEN HP5
      have HP := Lib.hid hP
      clear hP
      go_wp2
      go_loopw [3] (fun v wr => ∃ p q : Nat, p ≤ P ∧ Hid (q = 8 * s.size + p) ∧ wr.ownsRow w.heap.size 3 1 v q (ints (bitsL 8 (natsOf s) ++ List.replicate p 0)) ∧ Below w.heap.size w wr) (fun v _ => 8 * s.size + P - slLen v)
      case atStart => exact ⟨0, m, by omega, Lib.hid (by have := HM.out; omega), by simpa using hown, hb⟩
      case round =>
        clear hown hb
        obtain ⟨p, q, hp, hq, hown, hb⟩ := hrel
        obtain ⟨A1, c1, rfl, -⟩ := own_sl hown
        by_cases hlt : p < P
        · have hm1 : ((q : Int).tmod 5 != 0) = true := by
            rw [Int.tmod_eq_emod_of_nonneg (by omega), bne_iff_ne]
            have h1 := hq.out
            have h2 := HLEN.out
            have h3 := HP5.out
            omega
          have hm2 : ((q : Int) % 5 != 0) = true := by rw [Int.tmod_eq_emod_of_nonneg (by omega)] at hm1; exact hm1
          have hqs : q ≤ 100000 := by have h1 := hq.out; have h3 := HP5.out; omega
          go_wp2_with (first
            | (at_builtin; refine wpList_append_own _ rfl _ _ 45 rfl w.heap.size 3 i0 (.int .i64 0) 1 8 Tryd.underlying45 hi hz0 hz1 hz2 rfl (by decide) _ _ _ rfl (hown.alloc _) ⟨wr.heap.size, 0, none⟩ 1 1 [.int .i64 0] rfl rfl ?c1 ?c2 ?c3 ?c4 ?c5 ?_)
            | go_in)
          case c1 =>
            intro j u hj
            match j, hj with
            | 0, hj => simp at hj; subst hj; simp [Addr.add]
          case c2 => intro u hu; simp at hu; subst hu; rfl
          case c3 => unfold maxLen; omega
          case c4 => omega
          case c5 => have := hb.size; simp; omega
          intro v' w2 hown2 hgrow _
          have hb2 := own_below (hown.alloc _) (hb.al _) hgrow
          rw [show ints (bitsL 8 (natsOf s) ++ List.replicate p 0) ++ [Value.int .i64 0] = ints (bitsL 8 (natsOf s) ++ List.replicate (p + 1) 0) by rw [List.replicate_succ', ← List.append_assoc]; simp [ints]] at hown2
          clear hown hgrow hb hm1 hm2
          obtain ⟨A2, c2, rfl, -⟩ := own_sl hown2
          go_wp2
          go_roundw
          case rel => exact ⟨p + 1, q + 1, by omega, Lib.hid (by have := hq.out; omega), hown2, hb2⟩
          case measure => have := hq.out; simp [slLen]; omega
        · obtain rfl : p = P := by omega
          have hm1 : ((q : Int).tmod 5 != 0) = false := by
            rw [Int.tmod_eq_emod_of_nonneg (by omega)]
            have h1 := hq.out
            have h2 := HLEN.out
            rw [bne_eq_false_iff_eq]
            omega
          have hm2 : ((q : Int) % 5 != 0) = false := by rw [Int.tmod_eq_emod_of_nonneg (by omega)] at hm1; exact hm1
          obtain ⟨L, hL⟩ : ∃ L, L = lenN s.size := ⟨_, rfl⟩
          have hq5 : q = 5 * L := by have h1 := hq.out; have h2 := HLEN.out; omega
          have hLs : L ≤ 100000 := by have h1 := hq.out; have h3 := HP5.out; omega
          rw [show bitsL 8 (natsOf s) ++ List.replicate p 0 = allD s by rw [allD, HP.out]] at hown
          have HRR : Hid (⟨(outB s L).toArray⟩ = r) := Lib.hid (by rw [hL, outB_all]; exact HR.out)
          have HAL : Hid ((allD s).length = 5 * L) := Lib.hid (by rw [allD_len, hL])
          have HQ := Lib.hid hq5
          have hqs : q ≤ 500000 := by omega
          clear hL hq HM HLEN HP5 HP HR hq5
          obtain ⟨-, hs3⟩ := (⟨trivial, (own_sl hown)⟩ : True ∧ _)
          obtain ⟨A2, c2, e2, hs3⟩ := hs3
          cases e2
          have hform : 0 < L → ∃ g, A1 = some ⟨g, 0, none⟩ ∧ q ≤ c1 := fun h0 => by
            rcases hown.2 with ⟨_, hx⟩ | ⟨g, cap, cur, hv, hg, hh, hc, _⟩
            · have := HQ.out; omega
            · cases hv
              exact ⟨g, rfl, hc⟩
          have hwr := hb.size
          clear hown
          go_wp2
          go_loopw [5, 6] (fun o i wr' => ∃ k : Nat, k ≤ L ∧ i = .int .i64 (5 * (k : Int)) ∧ wr'.ownsRow wr.heap.size 5 1 o k (byts (outB s k)) ∧ Below w.heap.size w wr' ∧ Below wr.heap.size wr wr') (fun _ i _ => 5 * L + 5 - (intOf i).toNat)
          case atStart => exact ⟨0, by omega, rfl, World.ownsRow_nil _ _ _ _, hb, Below.refl _ _⟩
          case round =>
            clear hb
            obtain ⟨k, hk, rfl, hown, hb, hbr⟩ := hrel
            by_cases hlt2 : k < L
            · obtain ⟨g, rfl, hqc⟩ := hform (by omega)
              have hsk := sl_mid (hs3.keep hbr) (5 * k) 5
              have hcl : (((allD s).drop (5 * k)).take 5).length = 5 := by rw [List.length_take, List.length_drop, HAL.out]; omega
              have hc2 : ∀ d ∈ ((allD s).drop (5 * k)).take 5, d < 2 := fun d hd => allD_two s d (List.mem_of_mem_drop (List.mem_of_mem_take hd))
              have hx32 := letA_num hc2 (by omega)
              have HO := Lib.hid (outB_succ s k)
              generalize ((allD s).drop (5 * k)).take 5 = ch at *
              obtain ⟨x, hx⟩ : ∃ x, numN ch = x := ⟨_, rfl⟩
              rw [hx] at hx32 HO
              have HNUM : Hid (∀ (c : Nat) (V : World), Sl V (some ⟨g, 5 * k, none⟩) (ints ch) → Calls Tryd.prog 21 #[.slice (some ⟨g, 5 * k, none⟩) 5 c] V fun e w' => e = .returned (.int .i64 (x : Int)) ∧ w' = V) := Lib.hid fun c V hV => rnumber_any ch hc2 (by omega) 5 hcl x hx _ c V hV
              have ha := alpha_at x hx32
              obtain ⟨y, hy⟩ : ∃ y, (letA x).toNat = y := ⟨_, rfl⟩
              have t1 : 5 * (k : Int) < (q : Int) := by have := HQ.out; omega
              have t2 : 5 * k + 5 ≤ c1 := by have := HQ.out; omega
              clear hc2 hx hcl
              go_wp2_with fail
              rw [show 5 * k + 5 - 5 * k = 5 by omega]
              refine (HNUM.out _ _ hsk).mono ?_
              rintro e w5 ⟨rfl, rfl⟩
              clear HNUM hsk
              go_wp2_with (first
                | (at_builtin; refine wpList_append_own _ rfl _ _ 34 rfl wr.heap.size 5 i1 (.int .u8 0) 1 1 Tryd.underlying34 hi1 hy0 hy1 hy2 rfl (by decide) _ _ _ rfl (hown.alloc _) ⟨w5.heap.size, 0, none⟩ 1 1 [.int .u8 (y : Int)] rfl rfl ?c1 ?c2 ?c3 ?c4 ?c5 ?_)
                | go_in)
              case c1 =>
                intro j u hj
                match j, hj with
                | 0, hj => simp at hj; subst hj; simp [Addr.add]
              case c2 => intro u hu; simp at hu; subst hu; rfl
              case c3 => unfold maxLen; omega
              case c4 => omega
              case c5 => have := hbr.size; simp; omega
              intro v' w6 hown2 hgrow _
              have hb6 := (hb.al (.cells #[.int .u8 (y : Int)] 5)).grown hgrow (by have := hb.size; simp; omega) (fun j e => by have h1 := (hown.lt _ e).1; have h2 := hbr.size; have h3 := hb.size; omega)
              have hbr6 := own_below (hown.alloc _) (hbr.al _) hgrow
              rw [← hy, byts_snoc, HO.out] at hown2
              clear hown hgrow hb hbr ha
              go_wp2
              go_roundw
              case rel => exact ⟨k + 1, by omega, by go_num, hown2, hb6, hbr6⟩
              case measure => simp [intOf]; omega
            · obtain rfl : k = L := by omega
              have hst := own_strs (l := outB s k) (by rw [outB_len]; exact hown)
              obtain ⟨A5, c5, hv, he⟩ := hst
              rw [HRR.out] at he
              rw [outB_len] at hv
              subst hv
              have t1 : ¬ 5 * (k : Int) < (q : Int) := by have := HQ.out; omega
              clear hown
              go_wp2
              go_ret
              exact ⟨rfl, hb⟩
end Go.Proofs.YtmmkhlianijagaaDoor
