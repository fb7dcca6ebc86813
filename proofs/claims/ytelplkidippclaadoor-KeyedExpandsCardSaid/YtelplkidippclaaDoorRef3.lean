/-
  keyholeref01.word, Cut: contracts.
-/
import Derived.Test.YtelplkidippclaaDoorRef2
namespace Go.Proofs.YtelplkidippclaaDoor
open Go.RowKit Go.Kx
set_option maxRecDepth 20000

def bAt (s : ByteArray) (j : Nat) : Nat := (s.data.toList.getD j 0).toNat
def rwd (s : ByteArray) (at_ : Nat) (h : Bool) : Nat → Nat
  | 0 => 0
  | i + 1 => 256 * rwd s at_ h i + bAt s (if h then at_ + i else at_ + 3 - i)
theorem bAt_lt (s : ByteArray) (j : Nat) : bAt s j < 256 := UInt8.toNat_lt _
theorem bAt_at (s : ByteArray) (k : Nat) (h : k < s.size) : bAt s k = s[k].toNat := by
  unfold bAt
  rw [List.getD_eq_getElem?_getD, List.getElem?_eq_getElem (by simpa using h)]; rfl
theorem rwd_lt (s : ByteArray) (a : Nat) (h : Bool) (i : Nat) (hi : i ≤ 4) : rwd s a h i < 4294967296 := by
  have e : ∀ i, rwd s a h i < 256 ^ i := by
    intro i
    induction i with
    | zero => simp [rwd]
    | succ i ih => rw [rwd, Nat.pow_succ]; have := bAt_lt s (if h then a + i else a + 3 - i); omega
  exact Nat.lt_of_lt_of_le (e i) (Nat.pow_le_pow_right (n := 256) (by omega) hi)
theorem rwd_cut (s : ByteArray) (j : Nat) (h : Bool) (hj : 4 * j + 4 ≤ s.size) : rwd s (4 * j) h 4 = cutRow h s s.size j := by
  have e : ∀ i, i < s.size → byteAt s s.size i = bAt s i := fun i hi => by unfold byteAt bAt; rw [if_pos hi]
  unfold cutRow
  rw [e _ (by omega), e _ (by omega), e _ (by omega), e _ (by omega)]
  cases h
  · show 256 * (256 * (256 * (256 * 0 + bAt s (4 * j + 3 - 0)) + bAt s (4 * j + 3 - 1)) + bAt s (4 * j + 3 - 2)) + bAt s (4 * j + 3 - 3) = wd false (bAt s (4 * j)) (bAt s (4 * j + 1)) (bAt s (4 * j + 2)) (bAt s (4 * j + 3))
    simp only [Nat.add_sub_cancel, Nat.sub_zero, show 4 * j + 3 - 1 = 4 * j + 2 by omega, show 4 * j + 3 - 2 = 4 * j + 1 by omega]
    show _ = bAt s (4 * j + 3) * 16777216 + bAt s (4 * j + 2) * 65536 + bAt s (4 * j + 1) * 256 + bAt s (4 * j)
    omega
  · show 256 * (256 * (256 * (256 * 0 + bAt s (4 * j + 0)) + bAt s (4 * j + 1)) + bAt s (4 * j + 2)) + bAt s (4 * j + 3) = wd true (bAt s (4 * j)) (bAt s (4 * j + 1)) (bAt s (4 * j + 2)) (bAt s (4 * j + 3))
    simp only [Nat.add_zero]
    show _ = bAt s (4 * j) * 16777216 + bAt s (4 * j + 1) * 65536 + bAt s (4 * j + 2) * 256 + bAt s (4 * j + 3)
    omega
theorem rword_any (s : ByteArray) (a : Nat) (h : Bool) (w : World) (hs : s.size ≤ 1000000) (ha : a + 4 ≤ s.size) :
    Calls Tryd.prog 74 #[.string s, .int .i64 a, .bool h] w fun e w' => e = .returned (.int .i64 (rwd s a h 4 : Nat)) ∧ w' = w := by
  go_enter Tryd.func74, Tryd.ntmps74
  go_wp2
  go_loop [7, 8, 9] (fun vn vi _ => ∃ k n : Nat, k ≤ 4 ∧ vi = .int .i64 k ∧ Hid (n = rwd s a h k) ∧ n < 256 ^ k ∧ vn = .int .i64 n) (fun _ i _ => 4 - (intOf i).toNat)
  case atStart => exact ⟨0, 0, by omega, rfl, Lib.hid rfl, by simp, rfl⟩
  case round =>
    obtain ⟨k, n, hk, rfl, hn, hnl, rfl⟩ := hrel
    by_cases hlt : k < 4
    · have hnl2 : n < 16777216 := Nat.lt_of_lt_of_le hnl (show 256 ^ k ≤ 256 ^ 3 from Nat.pow_le_pow_right (by omega) (by omega))
      have hnl3 : ∀ b, b < 256 → 256 * n + b < 256 ^ (k + 1) := fun b hb => by rw [Nat.pow_succ]; omega
      have HNL := Lib.hid hnl3
      clear hnl hnl3
      cases h
      · have hp : (a : Int) + 3 - (k : Int) = ((a + 3 - k : Nat) : Int) := by omega
        have hj : a + 3 - k < s.size := by omega
        have HN := Lib.hid (show 256 * n + s[a + 3 - k].toNat = rwd s a false (k + 1) by rw [rwd, hn.out, ← bAt_at s _ hj]; rfl)
        have hb : s[a + 3 - k].toNat < 256 := UInt8.toNat_lt _
        have hbw : IntKind.i64.wrap ((s[a + 3 - k].toNat : Nat) : Int) = ((s[a + 3 - k].toNat : Nat) : Int) := IntWalk.i64_in _ (by omega)
        have hp0 : IntKind.i64.wrap ((a : Int) + 3 - (k : Int)) = (a : Int) + 3 - (k : Int) := IntWalk.i64_in _ (by omega)
        clear hn
        generalize a + 3 - k = j at *
        go_wp2
        go_round
        case rel => exact ⟨k + 1, 256 * n + s[j].toNat, by omega, by go_num, HN, HNL.out _ hb, by go_num⟩
        case measure => simp [intOf]; omega
      · have ht : ((a : Int) + (k : Int)).toNat = a + k := by omega
        have hj : a + k < s.size := by omega
        have HN := Lib.hid (show 256 * n + s[a + k].toNat = rwd s a true (k + 1) by rw [rwd, hn.out, ← bAt_at s _ hj]; rfl)
        have hb : s[a + k].toNat < 256 := UInt8.toNat_lt _
        have hbw : IntKind.i64.wrap ((s[a + k].toNat : Nat) : Int) = ((s[a + k].toNat : Nat) : Int) := IntWalk.i64_in _ (by omega)
        clear hn
        go_wp2
        go_round
        case rel => exact ⟨k + 1, 256 * n + s[a + k].toNat, by omega, by go_num, HN, HNL.out _ hb, by go_num⟩
        case measure => simp [intOf]; omega
    · obtain rfl : k = 4 := by omega
      go_wp2
      go_ret
      exact ⟨ret_int (by rw [hn.out]), rfl⟩
end Go.Proofs.YtelplkidippclaaDoor
