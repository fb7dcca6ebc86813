/-
  keyholeref01: the contracts of the reference's helpers that laws of several layers share.
-/
import Derived.Test.YtgiajnbihdobeaaChecked
import Derived.Test.YtgiajnbihdobeaaWords
import Derived.StillTailTactics
import Derived.Deep.QuietTactic
import Derived.BigQuiet
namespace Go.Proofs.Ytgiajnbihdobeaa
open Go.RowKit Go.Kx

theorem take_ne {xs ys : List Int} {k : Nat} {x y : Int} (hx : xs[k]? = some x) (hy : ys[k]? = some y) (h : x ≠ y) : (xs == ys) = false := by
  rw [beq_eq_false_iff_ne]
  rintro rfl
  exact h (by rw [hx] at hy; injection hy)
theorem take_eq {xs ys : List Int} {k : Nat} {x : Int} (hx : xs[k]? = some x) (hy : ys[k]? = some x) (h : xs.take k = ys.take k) : xs.take (k + 1) = ys.take (k + 1) := by
  rw [List.take_add_one, List.take_add_one, h, hx, hy]

theorem ints_any (A B : Option Addr) (c d : Nat) (xs ys : List Int) (w : World) (hx : xs.length ≤ 9223372036854775807) (hA : Sl w A (xs.map (.int .i64))) (hB : Sl w B (ys.map (.int .i64))) :
    Calls Try.prog 13 #[.slice A xs.length c, .slice B ys.length d] w fun e w' => e = .returned (.bool (xs == ys)) ∧ ∃ n, w' = w.drewN n := by
  by_cases hl : xs.length = ys.length
  · have hne : ((xs.length : Int) != (ys.length : Int)) = false := by simp [hl]
    have HL := Lib.hid hl
    clear hl
    go_enter Try.func13, Try.ntmps13
    go_wp2
    go_loopw [5] (fun i wr => ∃ k n : Nat, k ≤ xs.length ∧ i = .int .i64 k ∧ wr = w.drewN n ∧ xs.take k = ys.take k) (fun i _ => xs.length - (intOf i).toNat)
    case atStart => exact ⟨0, 0, Nat.zero_le _, rfl, rfl, rfl⟩
    case round =>
      obtain ⟨k, n, hk, rfl, rfl, ht⟩ := hrel
      by_cases hlt : k < xs.length
      · obtain ⟨b, off, u, rfl, hu, hcell⟩ := hA.at_ (k := k) (by simpa using hlt)
        obtain ⟨x, hx1, rfl⟩ : ∃ x, xs[k]? = some x ∧ .int .i64 x = u := by simpa using hu
        have hlt2 : k < ys.length := by rw [← HL.out]; exact hlt
        obtain ⟨b2, off2, u2, rfl, hu2, hcell2⟩ := hB.at_ (k := k) (by simpa using hlt2)
        obtain ⟨y, hy1, rfl⟩ : ∃ y, ys[k]? = some y ∧ .int .i64 y = u2 := by simpa using hu2
        have HN := Lib.hid (@take_ne xs ys k x y hx1 hy1)
        have HE := Lib.hid (@take_eq xs ys k x hx1)
        have HY := Lib.hid hy1
        have HT := Lib.hid ht
        clear hu hu2 hA hB hx1 hy1 ht
        have hi1 : (k : Int) < (xs.length : Int) := by omega
        have hi2 : (k : Int) < (ys.length : Int) := by omega
        by_cases hxy : x = y
        · have hb : (x != y) = false := by simp [hxy]
          have HXY := Lib.hid hxy
          clear hxy
          go_wp2
          go_quiet (fail)
          go_wp2
          go_roundw
          case rel => exact ⟨k + 1, _, by omega, by go_num, rfl, HE.out (by rw [HXY.out]; exact HY.out) HT.out⟩
          case measure => simp [intOf]; omega
        · have hb : (x != y) = true := by simp [hxy]
          have HXY := Lib.hid hxy
          clear hxy
          go_wp2
          go_quiet (fail)
          go_wp2
          go_ret
          exact ⟨ret_bool (HN.out HXY.out).symm, _, World.drewN_drewN _ _ _⟩
      · obtain rfl : k = xs.length := by omega
        have HT := Lib.hid ht
        clear ht
        go_wp2
        go_ret
        refine ⟨ret_bool ?_, _, rfl⟩
        have := HT.out
        rw [List.take_length, HL.out, List.take_length] at this
        exact (beq_iff_eq.2 this).symm
  · have hne : ((xs.length : Int) != (ys.length : Int)) = true := by rw [bne_iff_ne]; omega
    go_enter Try.func13, Try.ntmps13
    go_wp2
    go_ret
    exact ⟨ret_bool (by rw [eq_comm, beq_eq_false_iff_ne]; rintro rfl; exact hl rfl), 0, rfl⟩
theorem ints_b (A B : Option Addr) (c d : Nat) (xs ys : List Int) (w : World) (hx : xs.length ≤ 9223372036854775807) (hA : Sl w A (xs.map (.int .i64))) (hB : Sl w B (ys.map (.int .i64))) :
    Calls Try.prog 13 #[.slice A xs.length c, .slice B ys.length d] w fun e w' => e = .returned (.bool (xs == ys)) ∧ Below w.heap.size w w' :=
  (ints_any A B c d xs ys w hx hA hB).mono fun _ _ ⟨he, n, hw⟩ => ⟨he, hw ▸ Below.drewN0 w n⟩
end Go.Proofs.Ytgiajnbihdobeaa
