/-
  keyholelaw12.TapeBlocks: the walk.
-/
import Derived.Test.YtlkdofghhibmbaaDoorTp5
import Derived.Test.YtlkdofghhibmbaaDoorTps
import Derived.Test.YtlkdofghhibmbaaDoorMany
namespace Go.Proofs.YtlkdofghhibmbaaDoor
open Go.RowKit Go.Kx
set_option maxRecDepth 20000

theorem made_block (key : ByteArray) (j : Nat) (hj : j < 1024) : ((madeL key).drop (64 * j)).take 64 = blkL key j := by
  have h := restL_made key (N := 64 * j) (by omega)
  rw [show 64 * j / 64 = j by omega, show 64 * j % 64 = 0 by omega, List.drop_zero] at h
  rw [← h, restL, show 64 - 64 * j % 64 = 64 by omega]
set_option maxHeartbeats 4000000 in
theorem blocks_yes (seed : ByteArray) (n : Int) (w : World) (hC : Consts w) (hP : Places w) :
    Calls Tryd.prog 4 #[.string seed, .int .i64 n] w fun e w' => e = .returned (.bool true) ∧ Below w.heap.size w w' := by
  by_cases hout : 300 < seed.size ∨ (¬ 300 < seed.size ∧ n < 0) ∨ (¬ 300 < seed.size ∧ ¬ n < 0 ∧ 20 < n)
  · have ht := tapes_any w
    rcases hout with h | ⟨h, h2⟩ | ⟨h, h2, h3⟩
    · have hI : (300 : Int) < (seed.size : Int) := by omega
      go_enter Tryd.func4, Tryd.ntmps4
      go_wp2_with fail
      refine ht.mono ?_
      rintro e w1 ⟨rfl, hb⟩
      go_wp2
      go_ret
      exact ⟨rfl, hb⟩
    · have hI : ¬ (300 : Int) < (seed.size : Int) := by omega
      go_enter Tryd.func4, Tryd.ntmps4
      go_wp2_with fail
      refine ht.mono ?_
      rintro e w1 ⟨rfl, hb⟩
      go_wp2
      go_ret
      exact ⟨rfl, hb⟩
    · have hI : ¬ (300 : Int) < (seed.size : Int) := by omega
      go_enter Tryd.func4, Tryd.ntmps4
      go_wp2_with fail
      refine ht.mono ?_
      rintro e w1 ⟨rfl, hb⟩
      go_wp2
      go_ret
      exact ⟨rfl, hb⟩
  have hs : seed.size ≤ 300 := by omega
  obtain ⟨q, rfl⟩ := Int.eq_ofNat_of_zero_le (show 0 ≤ n by omega)
  have hq : q ≤ 20 := by omega
  have hI : ¬ (300 : Int) < (seed.size : Int) := by omega
  have hq1 : ¬ (q : Int) < 0 := by omega
  have hq2 : ¬ (20 : Int) < (q : Int) := by omega
  clear hout
  obtain ⟨key, hk⟩ : ∃ key : ByteArray, sumL seed.data.toList = key.data.toList := ⟨⟨(sumL seed.data.toList).toArray⟩, by simp⟩
  have hkz : key.size = 32 := by
    have := congrArg List.length hk
    rw [show (sumL seed.data.toList).length = 32 by rw [sumL, joinL_length]; rfl] at this
    simpa using this.symm
  have hnew := tnew_any seed key (by omega) hk w hC hP
  have HSUM : Hid (∀ V, Consts V → Calls Tryd.prog 14 #[.string seed] V fun e w' => e = .returned (.string key) ∧ Below V.heap.size V w') := Lib.hid fun V hV => by
    have h := sum_any seed (by omega) V hV
    rwa [hk] at h
  clear hk
  go_enter Tryd.func4, Tryd.ntmps4
  go_wp2_with fail
  refine hnew.mono ?_
  rintro e w1 ⟨T, K, Z, rfl, hlo, hT1, hb1⟩
  have ok := madeK_ok K Z key hkz
  have hby := madeK_bytes K Z key
  have hbl := madeK_len K Z key
  generalize madeK K Z key = k at *
  go_wp2
  go_loopw [6] (fun i wr => ∃ j : Nat, i = .int .i64 (j : Int) ∧ j ≤ q ∧ Tp wr T k (64 * j) ∧ Below w.heap.size w wr) (fun i _ => q - (intOf i).toNat)
  case atStart => exact ⟨0, rfl, by omega, hT1, hb1⟩
  case round =>
    clear hT1 hb1
    obtain ⟨j, rfl, hj, hT, hb⟩ := hrel
    by_cases hlt : j < q
    · have hltI : (j : Int) < (q : Int) := by omega
      go_wp2_with fail
      refine (HSUM.out wr (hC.keep hb)).mono ?_
      rintro e w2 ⟨rfl, hb2⟩
      have hT2 := hT.keep hb2
      have hb3 := hb.next hb2
      clear hT hb hb2
      go_wp2_with fail
      refine (rmany_any 0 12 (by omega) w2).mono ?_
      rintro e w3 ⟨rfl, hb4⟩
      have hT3 := hT2.keep hb4
      have hb5 := hb3.next hb4
      clear hT2 hb3 hb4
      obtain ⟨r, hr⟩ : ∃ r : ByteArray, (⟨(blkL key j).toArray⟩ : ByteArray) = r := ⟨_, rfl⟩
      have hblk := block_yes key (zeroB 12) j hkz (zeroB_size 12) (by omega) r hr w3 (hP.keep hb5)
      rw [show zeroB 12 = (⟨(List.replicate 12 0).toArray⟩ : ByteArray) from rfl] at hblk
      go_wp2_with fail
      refine hblk.mono ?_
      rintro e w4 ⟨rfl, hb6⟩
      have hT4 := hT3.keep hb6
      have hb7 := hb5.next hb6
      clear hT3 hb5 hb6 hblk
      have htk := ttake_yes T (64 * j) 64 k ok (by omega) w4 hT4
      rw [takeR_yes (by omega) (by omega), hby, made_block key j (by omega)] at htk
      go_wp2_with fail
      refine htk.mono ?_
      rintro e w5 ⟨b, hbe, rfl, hT5, hg5⟩
      obtain rfl : r = b := by rw [← hr, ← hbe]
      have hb8 := below_grown hb7 hg5 hlo hb7.size
      clear hT4 hb7 hg5 htk hbe hr
      go_wp2
      go_roundw
      case rel => exact ⟨j + 1, by go_num, by omega, hT5, hb8⟩
      case measure => simp [intOf]; omega
    · obtain rfl : j = q := by omega
      have hltI : ¬ (j : Int) < (j : Int) := by omega
      go_wp2_with fail
      refine (tapes_any wr).mono ?_
      rintro e w2 ⟨rfl, hb2⟩
      have hT2 := hT.keep hb2
      have hb3 := hb.next hb2
      clear hT hb hb2
      go_wp2_with fail
      refine (taken_at T (64 * j) k w2 hT2 (64 * (j : Int)) (by omega)).mono ?_
      rintro e w2 ⟨rfl, rfl⟩
      go_wp2
      go_ret
      exact ⟨rfl, hb3⟩
theorem walkTapeBlocks (seed : ByteArray) (n : Int) (w : World) (hP : Places w) (hC : Consts w) :
    Calls Tryd.prog 4 #[.string seed, .int .i64 n] w fun e w' => e = .returned (.bool true) ∧ Below w.heap.size w w' := blocks_yes seed n w hC hP
end Go.Proofs.YtlkdofghhibmbaaDoor
