/-
  poly: the contracts of isDigit, areDigits, plus, times, Degree.
-/
import Derived.Test.YtljckcegcfidoaaFld2
import Derived.Test.YtljckcegcfidoaaIntl
namespace Go.Proofs.Ytljckcegcfidoaa
open Go.RowKit Go.Kx
set_option maxRecDepth 20000

theorem pIsDigit_any (a : Int) (w : World) : Calls Try.prog 51 #[.int .i64 a] w fun e w' => e = .returned (.bool (dig a)) ∧ w' = w := by
  go_enter Try.func51, Try.ntmps51
  by_cases h : 0 ≤ a
  · go_wp2
    go_ret
    exact ⟨ret_bool (by simp [dig, h]), rfl⟩
  · go_wp2
    go_ret
    exact ⟨ret_bool (by simp [dig]; omega), rfl⟩
theorem areDigits_any (l : List Int) (A : Option Addr) (c : Nat) (hl : l.length ≤ 9223372036854775807) (w : World) (hs : Sl w A (intsI l)) :
    Calls Try.prog 50 #[.slice A l.length c] w fun e w' => e = .returned (.bool (allI dig l)) ∧ w' = w := by
  go_enter Try.func50, Try.ntmps50
  go_wp2
  go_loop [7] (fun i => ∃ k : Nat, i = .int .i64 k ∧ k ≤ l.length ∧ Hid (∀ j, j < k → dig (l.getD j 0) = true)) (fun i => l.length - (intOf i).toNat)
  case atStart => exact ⟨0, rfl, by omega, Lib.hid (fun j hj => by omega)⟩
  case round =>
    obtain ⟨k, rfl, hk, hd⟩ := hrel
    by_cases hlt : k < l.length
    · obtain ⟨b, off, rfl, hc⟩ := sl_int hs hlt
      have hn := Lib.hid (fun h => allI_no (p := dig) hlt h)
      have hd2 : Hid (dig (l.getD k 0) = true → ∀ j, j < k + 1 → dig (l.getD j 0) = true) := Lib.hid (fun h j hj => by
        by_cases e : j = k
        · rw [e]; exact h
        · exact hd.out j (by omega))
      generalize l.getD k 0 = x at *
      cases hx : dig x with
      | true =>
        go_wp2_with fail
        refine (pIsDigit_any _ _).mono ?_
        rintro e w1 ⟨rfl, rfl⟩
        go_wp2
        go_round
        case rel => exact ⟨k + 1, by go_num, by omega, Lib.hid (hd2.out hx)⟩
        case measure => simp [intOf]; omega
      | false =>
        go_wp2_with fail
        refine (pIsDigit_any _ _).mono ?_
        rintro e w1 ⟨rfl, rfl⟩
        go_wp2
        go_ret
        exact ⟨ret_bool (hn.out hx).symm, rfl⟩
    · obtain rfl : k = l.length := by omega
      go_wp2
      go_ret
      exact ⟨ret_bool (allI_yes hd.out).symm, rfl⟩
theorem pplus_any (a b : Int) (w : World) : Calls Try.prog 55 #[.int .i64 a, .int .i64 b] w fun e w' => e = .returned (.int .i64 ((addA a b).1 : Nat)) ∧ w' = w := by
  obtain ⟨⟨s, t⟩, h⟩ : ∃ r, addA a b = r := ⟨_, rfl⟩
  rw [h]
  have H := Lib.hid h
  clear h
  go_enter Try.func55, Try.ntmps55
  go_wp2_with fail
  refine (fadd_any a b _).mono ?_
  rw [H.out]
  rintro e w1 ⟨rfl, rfl⟩
  unfold two
  go_wp2
  go_ret
  exact ⟨rfl, rfl⟩
theorem ptimes_any (g : Nat) (a b : Int) (w : World) (hf : Fld w g) : Calls Try.prog 56 #[.pointer (some ⟨g, 0, none⟩), .int .i64 a, .int .i64 b] w fun e w' => e = .returned (.int .i64 ((mulA a b).1 : Nat)) ∧ ∃ m, w' = w.drewN m := by
  obtain ⟨⟨s, t⟩, h⟩ : ∃ r, mulA a b = r := ⟨_, rfl⟩
  rw [h]
  have H := Lib.hid h
  clear h
  go_enter Try.func56, Try.ntmps56
  go_wp2_with fail
  refine (mul_drew g a b _ hf).mono ?_
  rw [H.out]
  rintro e w1 ⟨rfl, m, rfl⟩
  unfold two
  go_wp2
  go_ret
  exact ⟨rfl, m, rfl⟩
end Go.Proofs.Ytljckcegcfidoaa
