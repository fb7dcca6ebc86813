/-
  keyholeref08: the contracts of All and Places.
-/
import Derived.Test.YtljckcegcfidoaaPly3
import Derived.Test.YtljckcegcfidoaaPly2
import Derived.Test.YtljckcegcfidoaaDgt
namespace Go.Proofs.Ytljckcegcfidoaa
open Go.RowKit Go.Kx
set_option maxRecDepth 20000

theorem rallI_any (l : List Int) (A : Option Addr) (c : Nat) (hl : l.length ≤ 9223372036854775807) (w : World) (hs : Sl w A (intsI l)) :
    Calls Try.prog 57 #[.slice A l.length c] w fun e w' => e = .returned (.bool (allI dig l)) ∧ w' = w := by
  go_enter Try.func57, Try.ntmps57
  go_wp2
  go_loop [3] (fun i => ∃ k : Nat, i = .int .i64 k ∧ k ≤ l.length ∧ Hid (∀ j, j < k → dig (l.getD j 0) = true)) (fun i => l.length - (intOf i).toNat)
  case atStart => exact ⟨0, rfl, by omega, Lib.hid (fun j hj => by omega)⟩
  case round =>
    obtain ⟨k, rfl, hk, hd⟩ := hrel
    by_cases hlt : k < l.length
    · obtain ⟨b, off, rfl, hc⟩ := sl_int hs hlt
      have hn := Lib.hid (fun h => allI_no (p := dig) hlt h)
      have hd2 : Hid (dig (l.getD k 0) = true → ∀ j, j < k + 1 → dig (l.getD j 0) = true) := Lib.hid (fun h j hj => by
        by_cases e : j = k
        · rw [e]; exact h
        · exact hd.out j (by omega))
      generalize l.getD k 0 = x at *
      cases hx : dig x with
      | true =>
        go_wp2_with fail
        refine (rdigit_any _ _).mono ?_
        rintro e w1 ⟨rfl, rfl⟩
        go_wp2
        go_round
        case rel => exact ⟨k + 1, by go_num, by omega, Lib.hid (hd2.out hx)⟩
        case measure => simp [intOf]; omega
      | false =>
        go_wp2_with fail
        refine (rdigit_any _ _).mono ?_
        rintro e w1 ⟨rfl, rfl⟩
        go_wp2
        go_ret
        exact ⟨ret_bool (hn.out hx).symm, rfl⟩
    · obtain rfl : k = l.length := by omega
      go_wp2
      go_ret
      exact ⟨ret_bool (allI_yes hd.out).symm, rfl⟩
theorem apartI_iff {l : List Int} : apartI l = true ↔ ∀ j, j < l.length → ∀ k, k < j → l.getD j 0 ≠ l.getD k 0 := by
  rw [apartI_nodup]
  unfold List.Nodup
  rw [List.pairwise_iff_getElem]
  constructor
  · intro h j hj k hk
    have := h k j (by omega) hj hk
    rw [List.getD, List.getD, List.getElem?_eq_getElem hj, List.getElem?_eq_getElem (show k < l.length by omega)]
    exact fun e => this e.symm
  · intro h i j hi hj hij
    have := h j hj i hij
    rw [List.getD, List.getD, List.getElem?_eq_getElem hj, List.getElem?_eq_getElem hi] at this
    exact fun e => this e.symm
/-- Places of 1 to 255 digits, no two the same. -/
def placesB (l : List Int) : Bool := decide (1 ≤ l.length) && decide (l.length ≤ 255) && allI dig l && apartI l
theorem placesB_no {l : List Int} (h : apartI l = false) : placesB l = false := by simp [placesB, h]
set_option maxHeartbeats 1000000 in
theorem places_any (l : List Int) (A : Option Addr) (c : Nat) (hl : l.length ≤ 9223372036854775807) (w : World) (hs : Sl w A (intsI l)) :
    Calls Try.prog 62 #[.slice A l.length c] w fun e w' => e = .returned (.bool (placesB l)) ∧ Below w.heap.size w w' := by
  go_enter Try.func62, Try.ntmps62
  go_wp2
  go_loopw [3] (fun i wr => ∃ k : Nat, i = .int .i64 k ∧ k ≤ l.length ∧ Hid (∀ j, j < k → ∀ m, m < j → l.getD j 0 ≠ l.getD m 0) ∧ Below w.heap.size w wr) (fun i _ => l.length - (intOf i).toNat)
  case atStart => exact ⟨0, rfl, by omega, Lib.hid (fun j hj => by omega), Below.refl _ _⟩
  case round =>
    obtain ⟨k, rfl, hk, hd, hb⟩ := hrel
    by_cases hlt : k < l.length
    · go_wp2
      go_loopw [4] (fun i wr => ∃ m : Nat, i = .int .i64 m ∧ m ≤ k ∧ Hid (∀ j, j < m → l.getD k 0 ≠ l.getD j 0) ∧ Below w.heap.size w wr) (fun i _ => k - (intOf i).toNat)
      case atStart => exact ⟨0, rfl, by omega, Lib.hid (fun j hj => by omega), hb⟩
      case round =>
        clear hb
        obtain ⟨m, rfl, hm, he, hb⟩ := hrel
        by_cases hlm : m < k
        · obtain ⟨b, off, rfl, hc⟩ := sl_int (hs.keep hb) hlt
          obtain ⟨b', off', e', hc'⟩ := sl_int (hs.keep hb) (show m < l.length by omega)
          obtain ⟨rfl, rfl⟩ : b = b' ∧ off = off' := by simpa using e'
          clear e'
          have hbD := fun n : Nat => hb.next' (Below.drewN0 _ n)
          have hHE := Lib.hid he.out
          obtain ⟨x, hx⟩ : ∃ x, l.getD k 0 = x := ⟨_, rfl⟩
          obtain ⟨y, hy⟩ : ∃ y, l.getD m 0 = y := ⟨_, rfl⟩
          rw [hx] at hc
          rw [hy] at hc'
          have hlk : (k : Int) < (l.length : Int) := by omega
          have hlm' : (m : Int) < (l.length : Int) := by omega
          by_cases hxy : x = y
          · have hno : Hid (placesB l = false) := Lib.hid (placesB_no (by
              cases h : apartI l with
              | false => rfl
              | true => exact absurd (hx.trans (hxy.trans hy.symm)) (apartI_iff.1 h k hlt m hlm)))
            have t1 : (x == y) = true := by simpa using hxy
            clear hxy hx hy
            go_wp2
            go_quiet (fail)
            go_wp2
            go_ret
            exact ⟨ret_bool hno.out.symm, hbD _⟩
          · have t1 : (x == y) = false := by simpa using hxy
            have hnew : Hid (∀ j, j < m + 1 → l.getD k 0 ≠ l.getD j 0) := Lib.hid (fun j hj => by
              by_cases e : j = m
              · rw [e, hx, hy]; exact hxy
              · exact hHE.out j (by omega))
            clear hxy hx hy
            go_wp2
            go_quiet (fail)
            go_wp2
            go_roundw
            case rel => exact ⟨m + 1, by go_num, by omega, hnew, hbD _⟩
            case measure => simp [intOf]; omega
        · obtain rfl : m = k := by omega
          have hnew : Hid (∀ j, j < m + 1 → ∀ n, n < j → l.getD j 0 ≠ l.getD n 0) := Lib.hid (fun j hj n hn => by
            by_cases e : j = m
            · rw [e]; exact he.out n (by omega)
            · exact hd.out j (by omega) n hn)
          go_wp2
          go_roundw
          case rel => exact ⟨m + 1, by go_num, by omega, hnew, hb⟩
          case measure => simp [intOf]; omega
    · obtain rfl : k = l.length := by omega
      have hap := apartI_iff.2 hd.out
      have hsk := hs.keep hb
      by_cases h1 : 1 ≤ l.length
      · by_cases h2 : l.length ≤ 255
        · have hr : Hid (allI dig l = placesB l) := Lib.hid (by simp [placesB, h1, h2, hap])
          go_wp2_with fail
          refine (rallI_any l A c hl _ hsk).mono ?_
          rintro e w1 ⟨rfl, rfl⟩
          go_wp2
          go_ret
          exact ⟨ret_bool hr.out, hb⟩
        · have hr : Hid (false = placesB l) := Lib.hid (by simp [placesB]; omega)
          go_wp2
          go_ret
          exact ⟨ret_bool hr.out, hb⟩
      · have hr : Hid (false = placesB l) := Lib.hid (by simp [placesB]; omega)
        go_wp2
        go_ret
        exact ⟨ret_bool hr.out, hb⟩
end Go.Proofs.Ytljckcegcfidoaa
