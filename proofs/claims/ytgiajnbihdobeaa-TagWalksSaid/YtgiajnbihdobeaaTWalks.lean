/-
  TagWalks: the walk.
-/
import Derived.Test.YtgiajnbihdobeaaTag10
import Derived.Deep.AppendLies
namespace Go.Proofs.Ytgiajnbihdobeaa
open Go.RowKit Go.Kx
set_option maxRecDepth 20000

/-! ### a sum, digit by digit -/
/-- What is carried to place i when A and E are added. -/
def overV (A E i : Nat) : Nat := (A % 256 ^ i + E % 256 ^ i) / 256 ^ i
theorem over_zero (A E : Nat) : overV A E 0 = 0 := by simp [overV, Nat.mod_one]
theorem over_next (A E i : Nat) : (digitV A i + digitV E i + overV A E i) / 256 = overV A E (i + 1) := by
  have hp : 0 < 256 ^ i := Nat.pow_pos (by omega)
  have hA : A % 256 ^ (i + 1) = A % 256 ^ i + 256 ^ i * digitV A i := by rw [Nat.pow_succ, Nat.mod_mul]; rfl
  have hE : E % 256 ^ (i + 1) = E % 256 ^ i + 256 ^ i * digitV E i := by rw [Nat.pow_succ, Nat.mod_mul]; rfl
  unfold overV
  rw [hA, hE, Nat.pow_succ, ← Nat.div_div_eq_div_mul]
  have h : A % 256 ^ i + 256 ^ i * digitV A i + (E % 256 ^ i + 256 ^ i * digitV E i) = (A % 256 ^ i + E % 256 ^ i) + 256 ^ i * (digitV A i + digitV E i) := by rw [Nat.mul_add]; omega
  rw [h, Nat.add_mul_div_left _ _ hp]
  congr 1
  omega
theorem over_digit (A E i : Nat) : (digitV A i + digitV E i + overV A E i) % 256 = digitV (A + E) i := by
  have hp : 0 < 256 ^ i := Nat.pow_pos (by omega)
  have h : A + E = (A % 256 ^ i + E % 256 ^ i) + 256 ^ i * (A / 256 ^ i + E / 256 ^ i) := by
    have h1 := Nat.mod_add_div A (256 ^ i)
    have h2 := Nat.mod_add_div E (256 ^ i)
    rw [Nat.mul_add]
    omega
  have e : digitV (A + E) i = ((A % 256 ^ i + E % 256 ^ i) / 256 ^ i + (A / 256 ^ i + E / 256 ^ i)) % 256 := by
    unfold digitV
    rw [h, Nat.add_mul_div_left _ _ hp]
  rw [e]
  unfold digitV overV
  omega
theorem over_le (A E i : Nat) : overV A E i ≤ 1 := by
  have hp : 0 < 256 ^ i := Nat.pow_pos (by omega)
  have h1 := Nat.mod_lt A hp
  have h2 := Nat.mod_lt E hp
  unfold overV
  rw [← Nat.lt_succ_iff, Nat.div_lt_iff_lt_mul hp]
  omega

/-! ### the clamped key's row -/
theorem row_of_text (l : List UInt8) (h : l.length = 16) : goodR (bytN l ++ [0]) ∧ digR (bytN l ++ [0]) = digT l := by
  have hl : (bytN l ++ [0]).length = 17 := by simp [bytN_length, h]
  have h1 : ∀ j, j < 16 → rowV (bytN l ++ [0]) j = octV l j := fun j hj => by
    have : j < l.length := by omega
    simp [rowV, octV, bytN, List.getD_eq_getElem?_getD, this, List.getElem?_append_left]
  have h2 : ∀ j, 16 ≤ j → rowV (bytN l ++ [0]) j = 0 := fun j hj => by
    by_cases hj2 : j = 16
    · subst hj2; simp [rowV, List.getD_eq_getElem?_getD, bytN_length, h]
    · simp only [rowV, List.getD_eq_getElem?_getD]
      rw [List.getElem?_eq_none (by omega)]; rfl
  have e : digR (bytN l ++ [0]) = digT l := by
    rw [digR, digK, h2 16 (by omega), Nat.zero_mul, Nat.add_zero, digT, h]
    exact digK_congr fun j hj => h1 j hj
  refine ⟨⟨hl, fun j => ?_, ?_⟩, e⟩
  · by_cases hj : j < 16
    · rw [h1 j hj]; exact octV_lt l j
    · rw [h2 j (by omega)]; omega
  · rw [e]
    have := digT_lt l
    rw [h] at this
    exact Nat.lt_trans this (by decide)
theorem div_cast {N o : Nat} (h : N / 256 = o) : (N : Int) / 256 = (o : Int) := by omega
theorem tmod_cast {N y : Nat} (h : N % 256 = y) : (N : Int).tmod 256 = (y : Int) := by rw [rem256, h]
theorem sum_small {a b o N : Nat} (ha : a < 256) (hb : b < 256) (ho : o ≤ 1) (h : a + b + o = N) : N < 1000 := by omega
theorem sum_wrap {a b o N : Nat} (ha : a < 256) (hb : b < 256) (ho : o ≤ 1) (h : a + b + o = N) : wrap64 ((a : Int) + (b : Int) + (o : Int)) = (N : Int) := by unfold wrap64; omega
theorem i64_oct {y : Nat} (h : y < 256) : IntKind.i64.wrap (y : Int) = (y : Int) := IntWalk.i64_in _ (by omega)
theorem walks_no (key s : ByteArray) (h : key.size ≠ 32 ∨ 1000 < s.size) (w : World) :
    Calls Try.prog 3 #[.string key, .string s] w fun x w' => x = .returned (.bool true) ∧ Below w.heap.size w w' := by
  by_cases h1 : key.size = 32
  · have t1 : ((key.size : Int) != 32) = false := by rw [h1]; rfl
    have t3 : (1000 : Int) < (s.size : Int) := by omega
    go_enter Try.func3, Try.ntmps3
    go_wp2_with fail
    refine (tags_any _).mono ?_
    rintro e w1 ⟨rfl, hb1⟩
    go_wp2
    go_ret
    exact ⟨rfl, hb1⟩
  · have t1 : ((key.size : Int) != 32) = true := by rw [bne_iff_ne]; omega
    go_enter Try.func3, Try.ntmps3
    go_wp2_with fail
    refine (tags_any _).mono ?_
    rintro e w1 ⟨rfl, hb1⟩
    go_wp2
    go_ret
    exact ⟨rfl, hb1⟩
set_option maxHeartbeats 4000000 in
theorem walks_yes (key s : ByteArray) (hk : key.size = 32) (hs : s.size ≤ 1000) (w : World) :
    Calls Try.prog 3 #[.string key, .string s] w fun x w' => x = .returned (.bool true) ∧ Below w.heap.size w w' := by
  obtain ⟨i0, hi, hz0, hz1, hz2⟩ := info_parts int_info
  have hkl : key.data.toList.length = 32 := by simpa using hk
  obtain ⟨k1, hk1⟩ : ∃ k1, key.extract 0 16 = k1 := ⟨_, rfl⟩
  have hl1 : k1.data.toList = key.data.toList.take 16 := by rw [← hk1, str_ext]; rfl
  have hn1 : k1.data.toList.length = 16 := by rw [hl1, List.length_take]; omega
  have hsz1 : k1.size = 16 := by simpa using hn1
  have hs1 : ∀ V : World, (Instr.slice 9 (.string key) none (some (.int .i64 16)) none).run Try.prog V = .ok (.string k1) V := fun V => by rw [← hk1]; exact str_to Try.underlying9 key 16 (by omega) V
  obtain ⟨c, hc⟩ : ∃ c : ByteArray, ⟨(clampL k1.data.toList).toArray⟩ = c := ⟨_, rfl⟩
  have hcl : c.data.toList = clampL k1.data.toList := by rw [← hc]
  have hcn : c.data.toList.length = 16 := by rw [hcl, clampL_length, hn1]
  have hcz : c.size = 16 := by simpa using hcn
  obtain ⟨rl, hrl⟩ : ∃ rl, bytN c.data.toList ++ [0] = rl := ⟨_, rfl⟩
  obtain ⟨R, hR⟩ : ∃ R, digT c.data.toList = R := ⟨_, rfl⟩
  have HGR : Hid (goodR rl ∧ digR rl = R) := Lib.hid (by rw [← hrl, ← hR]; exact row_of_text _ hcn)
  have HCAT : Hid (intsN (bytN c.data.toList) ++ [Value.int .i64 0] = intsN rl) := Lib.hid (by rw [← hrl]; exact intsN_snoc _ 0)
  obtain ⟨t, ht⟩ : ∃ t : ByteArray, (⟨(lowL (tagV key.data.toList s.data.toList)).toArray⟩ : ByteArray) = t := ⟨_, rfl⟩
  obtain ⟨A, hA⟩ : ∃ A, accV R s.data.toList (partsN s.size) = A := ⟨_, rfl⟩
  obtain ⟨E, hE⟩ : ∃ E, digT (key.data.toList.drop 16) = E := ⟨_, rfl⟩
  have hV : tagV key.data.toList s.data.toList = A + E := by rw [tagV, show s.data.toList.length = s.size by simp, ← hl1, ← hcl, hR, hA, hE]
  have htz : t.size = 16 := by rw [← ht, size_mk, lowL_length]
  have HCL : Hid (∀ V : World, Calls Try.prog 7 #[.string k1] V fun e w' => e = .returned (.tuple #[.string c, .bool true]) ∧ Below V.heap.size V w') := Lib.hid fun V => Clamp_yes k1 hsz1 c hc V
  have HOF : Hid (∀ V : World, Calls Try.prog 8 #[.string c] V fun e w' => ∃ v, e = .returned v ∧ w'.ownsRow V.heap.size 3 1 v 16 (intsN (bytN c.data.toList)) ∧ Below V.heap.size V w') :=
    Lib.hid fun V => by have h := of_any c V (by omega); rw [hcz] at h; exact h
  have HTG : Hid (∀ V : World, Calls Try.prog 10 #[.string key, .string s] V fun e w' => e = .returned (.tuple #[.string t, .int .i64 0]) ∧ Below V.heap.size V w') :=
    Lib.hid fun V => tag_yes key s hk (by omega) t ht V
  have HT : Hid (∀ k (h : k < t.size), t[k].toNat = digitV (A + E) k) := Lib.hid fun k h => by
    have h1 := lowL_at (A + E) k (by omega)
    rw [← h1, ← hV]
    subst ht
    rw [List.getD_eq_getElem?_getD, List.getElem?_eq_getElem (by rw [lowL_length]; omega)]
    rfl
  have HKE : Hid (∀ k (h : 16 + k < key.size), key[16 + k].toNat = digitV E k) := Lib.hid fun k h => by
    have h1 := digitV_digK (octV_lt (key.data.toList.drop 16)) (key.data.toList.drop 16).length k (by rw [List.length_drop]; omega)
    rw [← hE, digT, h1, octV, List.getD_eq_getElem?_getD, List.getElem?_drop, List.getElem?_eq_getElem (by omega)]
    rfl
  have HACC : Hid (∀ k, stepV (accV R s.data.toList k) R (partL s.data.toList k) = accV R s.data.toList (k + 1)) := Lib.hid fun _ => rfl
  have HA := Lib.hid hA
  have HA0 : Hid (accV R s.data.toList 0 = 0) := Lib.hid rfl
  have HAL := Lib.hid (accV_lt R s.data.toList)
  have hne : ((key.size : Int) != 32) = false := by rw [hk]; rfl
  have t3 : ¬ (1000 : Int) < (s.size : Int) := by omega
  have HN : Hid (∀ k, k ≤ partsN s.size → ¬ 16 * k < s.size → k = partsN s.size) := Lib.hid fun k hk h => by unfold partsN at *; omega
  have HNL : Hid (∀ k, 16 * k < s.size → k < partsN s.size) := Lib.hid fun k hk => by unfold partsN; omega
  have HNB : Hid (16 * partsN s.size ≤ s.size + 15) := Lib.hid (by unfold partsN; omega)
  generalize partsN s.size = M at *
  generalize accV R s.data.toList = acc at *
  clear hk1 hl1 hn1 hsz1 hc hcl hcn hcz hrl hR ht hA hE hV hkl
  go_enter Try.func3, Try.ntmps3
  go_wp2_with fail
  refine (HCL.out _).mono ?_
  rintro e w1 ⟨rfl, hb1⟩
  go_wp2_with fail
  refine (HOF.out _).mono ?_
  rintro e w2 ⟨v, rfl, hown, hb2⟩
  have hb12 := hb1.next hb2
  go_wp2_with (first
    | (at_builtin; refine wpList_append_own _ rfl _ _ 25 rfl w1.heap.size 3 i0 (.int .i64 0) 1 8 Try.underlying25 hi hz0 hz1 hz2 rfl (by decide) _ _ _ rfl (hown.alloc _) ⟨w2.heap.size, 0, none⟩ 1 1 [.int .i64 0] rfl rfl ?c1 ?c2 ?c3 ?c4 ?c5 ?_)
    | go_in)
  case c1 =>
    intro j u hj
    match j, hj with
    | 0, hj => simp at hj; subst hj; simp [Addr.add]
  case c2 => intro u hu; simp at hu; subst hu; rfl
  case c3 => unfold maxLen; omega
  case c4 => omega
  case c5 => have h1 := hb2.size; simp; omega
  · intro v' w3 hown' hgrow _
    rw [HCAT.out] at hown'
    have hb2a := hb12.al (.cells #[Value.int .i64 0] 3)
    have hb3 : Below w.heap.size w w3 := hb2a.grown hgrow hb2a.size (fun k hk => Nat.le_trans hb1.size (hown.lt k hk).1)
    obtain ⟨rA, rc, rfl, hrs⟩ := own_sl hown'
    clear hown hown' hgrow hb1 hb2 hb12 hb2a
    have hmk := make17 w3
    have hr0 := World.rowIs_made w3 (.int .i64 0) 17 3
    have hb4 := hb3.al (.cells (madeCells #[Value.int .i64 0] 17) 3)
    have hrs4 := hrs.keep (Below.alloc0 w3 (.cells (madeCells #[Value.int .i64 0] 17) 3))
    have hs0 := sl_of_digits (v := 0) hr0 (fun j _ => by simp [digitV])
    go_wp2_with fail
    generalize w3.heap.size = B at *
    generalize w3.alloc _ = W0 at *
    clear hmk hr0 hb3 hrs
    go_loopw [8, 9, 10, 11] (fun va vi _ _ wr => ∃ (k b : Nat), k ≤ M ∧ vi = .int .i64 (16 * (k : Int)) ∧ va = .slice (some ⟨b, 0, none⟩) 17 17 ∧ Sl wr (some ⟨b, 0, none⟩) (intsN (rowL (acc k))) ∧ Sl wr rA (intsN rl) ∧ Below w.heap.size w wr) (fun _ i _ _ _ => 16 * M + 16 - (intOf i).toNat)
    case atStart => exact ⟨0, B, by omega, rfl, rfl, by rw [HA0.out]; exact hs0, hrs4, hb4⟩
    case round =>
      clear hs0 hrs4 hb4
      obtain ⟨k, b, hkM, rfl, rfl, hsa, hsr, hb⟩ := hrel
      have hMb := HNB.out
      by_cases hlt : 16 * k < s.size
      · have hkM2 := HNL.out k hlt
        have t1 : 16 * (k : Int) < (s.size : Int) := by omega
        obtain ⟨p, hp⟩ : ∃ p, s.extract (16 * k) (min (16 * k + 16) s.size) = p := ⟨_, rfl⟩
        have hpl : p.data.toList = partL s.data.toList k := by
          rw [← hp, str_ext]
          show _ = List.take 16 (List.drop (16 * k) s.data.toList)
          by_cases h16 : 16 * k + 16 ≤ s.size
          · rw [Nat.min_eq_left h16, show 16 * k + 16 - 16 * k = 16 by omega]
          · rw [Nat.min_eq_right (by omega), List.take_of_length_le (by simp), List.take_of_length_le (by simp; omega)]
        have hpn : p.data.toList.length = min 16 (s.size - 16 * k) := by rw [hpl, partL, List.length_take, List.length_drop]; simp
        have hpz : p.size = min 16 (s.size - 16 * k) := by simpa using hpn
        have HSTEP : Hid (∀ V : World, Sl V (some ⟨b, 0, none⟩) (intsN (rowL (acc k))) → Sl V rA (intsN rl) → Calls Try.prog 9 #[.slice (some ⟨b, 0, none⟩) 17 17, .slice rA 17 rc, .string p] V fun e w' => ∃ b, e = .returned (.tuple #[.slice (some ⟨b, 0, none⟩) 17 17, .bool true]) ∧ Sl w' (some ⟨b, 0, none⟩) (intsN (rowL (acc (k + 1)))) ∧ Below V.heap.size V w') :=
          Lib.hid fun V h1 h2 => Step_yes _ _ 17 rc (rowL (acc k)) rl (good_rowL (HAL.out k)) HGR.out.1 p (by omega) (by omega) (acc (k + 1)) (by rw [digR_rowL _ (Nat.lt_trans (HAL.out k) bigP_small), HGR.out.2, hpl]; exact HACC.out k) V h1 h2
        clear hpl hpn hpz
        by_cases h16 : 16 * k + 16 ≤ s.size
        · have t2 : 16 * (k : Int) + 16 ≤ (s.size : Int) := by omega
          have hsl : ∀ V : World, (Instr.slice 9 (.string s) (some (.int .i64 (16 * (k : Int)))) (some (.int .i64 (16 * (k : Int) + 16))) none).run Try.prog V = .ok (.string p) V := fun V => by
            rw [← hp, Nat.min_eq_left h16]
            exact str_mid Try.underlying9 s (16 * k) (16 * k + 16) (by omega) (by omega) V
          clear hp
          go_wp2_with fail
          refine (HSTEP.out _ hsa hsr).mono ?_
          rintro e w5 ⟨b5, rfl, hs5, hb5⟩
          go_wp2
          go_roundw
          case rel => exact ⟨k + 1, b5, by omega, by go_num, rfl, hs5, hsr.keep hb5, hb.next hb5⟩
          case measure => simp [intOf]; omega
        · have t2 : ¬ 16 * (k : Int) + 16 ≤ (s.size : Int) := by omega
          have hsl : ∀ V : World, (Instr.slice 9 (.string s) (some (.int .i64 (16 * (k : Int)))) (some (.int .i64 (s.size : Int))) none).run Try.prog V = .ok (.string p) V := fun V => by
            rw [← hp, Nat.min_eq_right (by omega)]
            exact str_mid Try.underlying9 s (16 * k) s.size (by omega) (by omega) V
          clear hp
          go_wp2_with fail
          refine (HSTEP.out _ hsa hsr).mono ?_
          rintro e w5 ⟨b5, rfl, hs5, hb5⟩
          go_wp2
          go_roundw
          case rel => exact ⟨k + 1, b5, by omega, by go_num, rfl, hs5, hsr.keep hb5, hb.next hb5⟩
          case measure => simp [intOf]; omega
      · obtain rfl := HN.out k hkM hlt
        have t1 : ¬ 16 * (k : Int) < (s.size : Int) := by omega
        rw [HA.out] at hsa
        go_wp2_with fail
        refine (HTG.out _).mono ?_
        rintro e w5 ⟨rfl, hb5⟩
        have hs5 := hsa.keep hb5
        have hb6 := hb.next hb5
        clear hsa hsr hb hb5
        go_wp2_with fail
        go_loopw [14, 15, 16] (fun vo vi _ wr => ∃ k n : Nat, k ≤ 16 ∧ vi = .int .i64 k ∧ vo = .int .i64 (overV A E k : Nat) ∧ wr = w5.drewN n) (fun _ i _ _ => 16 - (intOf i).toNat)
        case atStart => exact ⟨0, 0, by omega, rfl, by rw [over_zero]; rfl, rfl⟩
        case round =>
          obtain ⟨j, n, hj, rfl, rfl, rfl⟩ := hrel
          by_cases hlj : j < 16
          · obtain ⟨b', off, u, heq, hu, hcell⟩ := hs5.at_ (k := j) (by simpa [intsN, rowL] using (show j < 17 by omega))
            obtain ⟨rfl, rfl⟩ : b = b' ∧ 0 = off := by simpa using heq
            rw [intsN_at (by rw [rowL_length]; omega), rowL_at A j (by omega)] at hu
            obtain rfl : Value.int .i64 (digitV A j : Nat) = u := by simpa using hu
            rw [Nat.zero_add] at hcell
            have hkey := HKE.out j (by omega)
            have htj := HT.out j (by omega)
            have hov := over_le A E j
            have hon := over_next A E j
            have hod := over_digit A E j
            have ha8 := digitV_lt A j
            have he8 := digitV_lt E j
            have hj32 : 16 + j < key.size := by omega
            have hjt : j < t.size := by omega
            have j17 : (j : Int) < 17 := by omega
            have j16 : (j : Int) < 16 := by omega
            have j32 : 16 + (j : Int) < 32 := by omega
            have j0 : (0 : Int) ≤ 16 + (j : Int) := by omega
            have jn : (16 + (j : Int)).toNat = 16 + j := by omega
            have jw : IntKind.i64.wrap (16 + (j : Int)) = 16 + (j : Int) := IntWalk.i64_in _ (by omega)
            have HOV := Lib.hid hov
            have HON := Lib.hid hon
            have HOD := Lib.hid hod
            clear hov hon hod
            go_wp2
            go_quiet (fail)
            have hb7 : Below w5.heap.size w5 ((w5.drewN n).drewN nq) := (Below.drewN0 w5 n).next (Below.drewN0 _ nq)
            obtain ⟨N, hN⟩ : ∃ N, digitV A j + digitV E j + overV A E j = N := ⟨_, rfl⟩
            have hov := HOV.out
            have hsum : wrap64 ((digitV A j : Int) + (digitV E j : Int) + (overV A E j : Int)) = (N : Int) := sum_wrap ha8 he8 hov hN
            obtain ⟨y, hy⟩ : ∃ y, digitV (A + E) j = y := ⟨_, rfl⟩
            obtain ⟨o2, ho2⟩ : ∃ o2, overV A E (j + 1) = o2 := ⟨_, rfl⟩
            have hod := HOD.out
            have hon := HON.out
            rw [hN, hy] at hod
            rw [hN, ho2] at hon
            rw [hsum]
            rw [hy] at htj
            have hyl : y < 256 := by rw [← hy]; exact digitV_lt _ _
            have hm : (N : Int).tmod 256 = (y : Int) := tmod_cast hod
            have hd : (N : Int) / 256 = (o2 : Int) := div_cast hon
            have hN0 : N < 1000 := sum_small ha8 he8 hov hN
            have hw8 : IntKind.i64.wrap (y : Int) = (y : Int) := i64_oct hyl
            have HO2 := Lib.hid ho2
            clear hsum hod hon hov HOV HON HOD hN hy ho2 hcell hkey
            go_wp2
            go_roundw
            case rel => exact ⟨j + 1, n + nq, by omega, by go_num, by rw [HO2.out], rfl⟩
            case measure => simp [intOf]; omega
          · obtain rfl : j = 16 := by omega
            rw [show ((16 : Nat) : Int) = 16 from rfl]
            have he : ((t.size : Int) == 16) = true := by rw [htz]; rfl
            go_wp2_with fail
            refine (tags_any _).mono ?_
            rintro e w8 ⟨rfl, hb8⟩
            go_wp2
            go_ret
            exact ⟨ret_bool (by first | rfl | simp), hb6.next ((Below.drewN0 w5 n).next hb8)⟩
theorem walkTagWalks (key : ByteArray) (s : ByteArray) (w : World) :
    Calls Try.prog 3 #[.string key, .string s] w fun x w' => x = .returned (.bool true) ∧ Below w.heap.size w w' := by
  by_cases h : key.size ≠ 32 ∨ 1000 < s.size
  · exact walks_no key s h w
  · exact walks_yes key s (by omega) (by omega) w
end Go.Proofs.Ytgiajnbihdobeaa
