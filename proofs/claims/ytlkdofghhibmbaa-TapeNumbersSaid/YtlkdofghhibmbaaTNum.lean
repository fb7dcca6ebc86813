/-
  keyholelaw12.TapeNumbers: the walk.
-/
import Derived.Test.YtlkdofghhibmbaaTps
import Derived.Test.YtlkdofghhibmbaaIntl
namespace Go.Proofs.Ytlkdofghhibmbaa
open Go.RowKit Go.Kx
set_option maxRecDepth 20000

set_option maxHeartbeats 4000000 in
theorem numbers_yes (s : ByteArray) (l : List Int) (A : Option Addr) (c : Nat) (hl : l.length ≤ 9223372036854775807) (w : World) (hs : Sl w A (intsI l)) :
    Calls Try.prog 4 #[.string s, .slice A l.length c] w fun e w' => e = .returned (.bool true) ∧ Below w.heap.size w w' := by
  by_cases h1 : 300 < s.size
  · have h1I : (300 : Int) < (s.size : Int) := by omega
    go_enter Try.func4, Try.ntmps4
    go_wp2
    go_ret
    exact ⟨rfl, Below.refl _ _⟩
  by_cases h2 : 120 < l.length
  · have h2I : (120 : Int) < (l.length : Int) := by omega
    have h1I : ¬ (300 : Int) < (s.size : Int) := by omega
    go_enter Try.func4, Try.ntmps4
    go_wp2
    go_ret
    exact ⟨rfl, Below.refl _ _⟩
  have h2I : ¬ (120 : Int) < (l.length : Int) := by omega
  have h1I : ¬ (300 : Int) < (s.size : Int) := by omega
  have hof := of_any s w
  obtain ⟨n, hn⟩ : ∃ n, l.length = n := ⟨_, rfl⟩
  have HN := Lib.hid hn
  rw [hn] at h2 h2I ⊢
  have hsz : s.data.toList.length = s.size := by simp
  have HSZ := Lib.hid hsz
  clear hn hl hsz
  go_enter Try.func4, Try.ntmps4
  go_wp2_with fail
  refine hof.mono ?_
  rintro e w1 ⟨rfl, hT1, hb1⟩
  have hsl1 := hs.keep hb1
  obtain ⟨T, hTe⟩ : ∃ T, w.heap.size + 1 = T := ⟨_, rfl⟩
  obtain ⟨k, hk⟩ : ∃ k, ofK w.heap.size s = k := ⟨_, rfl⟩
  have ok : TKok k := by rw [← hk]; exact ofK_ok _ _ (by omega)
  have hby : k.bytes = s.data.toList := by rw [← hk]; rfl
  have hlo : w.heap.size ≤ T := by omega
  rw [hTe] at hT1 ⊢
  rw [hk] at hT1
  clear hk hTe hof
  go_wp2
  go_loopw [6, 7] (fun a i wr => ∃ N j : Nat, a = .int .i64 (N : Int) ∧ i = .int .i64 (j : Int) ∧ j ≤ n ∧ Tp wr T k N ∧ Below w.heap.size w wr) (fun _ i _ => n - (intOf i).toNat)
  case atStart => exact ⟨0, 0, rfl, rfl, by omega, hT1, hb1⟩
  case round =>
    clear hT1 hb1 hsl1
    obtain ⟨N, j, rfl, rfl, hj, hT, hb⟩ := hrel
    by_cases hlt : j < n
    · obtain ⟨bb, off, rfl, hcell⟩ := sl_ints hs (k := j) (by rw [HN.out]; exact hlt)
      generalize l.getD j 0 = x at hcell
      have hN := hT.2.2
      rw [hby, HSZ.out] at hN
      have htk := tnumber_any T N k ok x wr hT
      rw [hby] at htk
      have hltI : (j : Int) < (n : Int) := by omega
      have hcell0 := hcell wr hb
      by_cases hx0 : x < 1 ∨ 16777216 < x
      · rw [numR, if_pos hx0] at htk
        have hx1 : ¬ 1 ≤ x ∨ (1 ≤ x ∧ ¬ x ≤ 16777216) := by omega
        clear hx0
        rcases hx1 with hx1 | ⟨hx1, hx2⟩
        all_goals
          go_wp2_with fail
          refine htk.mono ?_
          rintro e w2 ⟨rfl, hT2, hg2⟩
          have hb2 := below_grown hb hg2 hlo hb.size
          have hcell2 := hcell w2 hb2
          clear hb htk hT hg2 hcell0
          go_wp2_with fail
          refine (taken_at T N k w2 hT2 N rfl).mono ?_
          rintro e w2 ⟨rfl, rfl⟩
          go_wp2
          go_roundw
          case rel => exact ⟨N, j + 1, rfl, by go_num, by omega, hT2, hb2⟩
          case measure => simp [intOf]; omega
      have hx1 : 1 ≤ x := by omega
      have hx2 : x ≤ 16777216 := by omega
      by_cases hx3 : (s.size : Int) - (N : Int) < 3
      · rw [numR, if_neg hx0, if_pos (by rw [HSZ.out]; exact hx3)] at htk
        have hw : IntKind.i64.wrap ((s.size : Int) - (N : Int)) = (s.size : Int) - (N : Int) := IntWalk.i64_in _ (by omega)
        have hx4 : ¬ (2 : Int) < (s.size : Int) - (N : Int) := by omega
        have hx5 : ¬ x ≤ 0 := by omega
        clear hx0
        go_wp2_with fail
        refine htk.mono ?_
        rintro e w2 ⟨rfl, hT2, hg2⟩
        have hb2 := below_grown hb hg2 hlo hb.size
        have hcell2 := hcell w2 hb2
        clear hb htk hT hg2 hcell0
        go_wp2_with fail
        refine (taken_at T N k w2 hT2 N rfl).mono ?_
        rintro e w2 ⟨rfl, rfl⟩
        go_wp2
        go_roundw
        case rel => exact ⟨N, j + 1, rfl, by go_num, by omega, hT2, hb2⟩
        case measure => simp [intOf]; omega
      · rw [numR, if_neg hx0, if_neg (by rw [HSZ.out]; exact hx3)] at htk
        obtain ⟨v, hv⟩ : ∃ v, numI ((s.data.toList.drop N).take 3) x = v := ⟨_, rfl⟩
        have hv0 : 0 ≤ v := by rw [← hv]; exact Int.emod_nonneg _ (by omega)
        have hv1 : v < x := by rw [← hv]; exact Int.emod_lt_of_pos _ (by omega)
        have hv2 : ¬ v < 0 := by omega
        have hv3 : ¬ x ≤ v := by omega
        rw [hv] at htk
        obtain ⟨M, hM⟩ : ∃ M, N + 3 = M := ⟨_, rfl⟩
        have hMI : (N : Int) + 3 = (M : Int) := by omega
        have hMw : IntKind.i64.wrap (M : Int) = (M : Int) := IntWalk.i64_in _ (by omega)
        rw [hM] at htk
        clear hx0 hv hM
        go_wp2_with fail
        refine htk.mono ?_
        rintro e w2 ⟨rfl, hT2, hg2⟩
        have hb2 := below_grown hb hg2 hlo hb.size
        have hcell2 := hcell w2 hb2
        clear hb htk hT hg2 hcell0
        go_wp2_with fail
        refine (taken_at T M k w2 hT2 M rfl).mono ?_
        rintro e w2 ⟨rfl, rfl⟩
        go_wp2
        go_roundw
        case rel => exact ⟨M, j + 1, rfl, by go_num, by omega, hT2, hb2⟩
        case measure => simp [intOf]; omega
    · obtain rfl : j = n := by omega
      have hltI : ¬ (j : Int) < (j : Int) := by omega
      go_wp2_with fail
      refine (tapes_any wr).mono ?_
      rintro e w2 ⟨rfl, hb2⟩
      have hb3 := hb.next hb2
      clear hT hb hb2
      go_wp2
      go_ret
      exact ⟨rfl, hb3⟩
end Go.Proofs.Ytlkdofghhibmbaa
