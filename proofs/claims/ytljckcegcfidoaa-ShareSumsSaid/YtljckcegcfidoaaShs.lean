/-
  keyholeref09: the contracts of Same and Big; the document's rows.
-/
import Derived.Test.YtljckcegcfidoaaShl
import Derived.Deep.QuietTactic
import Derived.BigQuiet
namespace Go.Proofs.Ytljckcegcfidoaa
open Go.RowKit Go.Kx
set_option maxRecDepth 20000

theorem sh_ext {l m : List Sh} (h : l.length = m.length) (he : ∀ k, k < l.length → l.getD k sh0 = m.getD k sh0) : l = m := by
  apply List.ext_getElem?
  intro k
  by_cases hk : k < l.length
  · rw [getD_at hk, getD_at (by omega), he k hk]
  · rw [List.getElem?_eq_none (by omega), List.getElem?_eq_none (by omega)]
set_option maxHeartbeats 2000000 in
theorem same_yes (l : List Sh) (A B : Option Addr) (c d : Nat) (hl : l.length ≤ 9223372036854775807) (w : World) (hs : Sl w A (shV l)) (hs2 : Sl w B (shV l)) :
    Calls Try.prog 12 #[.slice A l.length c, .slice B l.length d] w fun e w' => e = .returned (.bool true) ∧ Below w.heap.size w w' := by
  go_enter Try.func12, Try.ntmps12
  go_wp2
  go_loopw [5] (fun i wr => ∃ k : Nat, k ≤ l.length ∧ i = .int .i64 (k : Int) ∧ Below w.heap.size w wr) (fun i _ => l.length - (intOf i).toNat)
  case atStart => exact ⟨0, by omega, rfl, Below.refl _ _⟩
  case round =>
    obtain ⟨k, hk, rfl, hb⟩ := hrel
    by_cases hlt : k < l.length
    · obtain ⟨b, off, rfl, hx, hy⟩ := sl_sh (hs.keep hb) hlt
      obtain ⟨b2, off2, rfl, hx2, hy2⟩ := sl_sh (hs2.keep hb) hlt
      generalize (l.getD k sh0).1 = x at *
      generalize (l.getD k sh0).2 = y at *
      have hbD := fun n : Nat => hb.next' (Below.drewN0 wr n)
      clear hb
      go_wp2
      go_quiet (fail)
      have hb := hbD nq
      clear hbD
      generalize wr.drewN nq = W2 at *
      go_wp2
      go_roundw
      case rel => exact ⟨k + 1, by omega, by go_num, hb⟩
      case measure => simp [intOf]; omega
    · obtain rfl : k = l.length := by omega
      go_wp2
      go_ret
      exact ⟨rfl, hb⟩

/-! ### Big -/
def bigB (l : List Sh) : Bool := (decide (8 < l.length) && decide (l.length ≤ 255)) || decide (300 < l.length) || l.any fun s => decide (100 < s.2.size)
theorem bigB_no {l : List Sh} (h : bigB l = false) : (l.length ≤ 8 ∨ 255 < l.length) ∧ l.length ≤ 300 ∧ ∀ k, k < l.length → (l.getD k sh0).2.size ≤ 100 := by
  simp only [bigB, Bool.or_eq_false_iff, Bool.and_eq_false_iff, decide_eq_false_iff_not, List.any_eq_false, decide_eq_true_eq] at h
  refine ⟨by omega, by omega, fun k hk => ?_⟩
  have := h.2 l[k] (List.getElem_mem hk)
  rw [List.getD, List.getElem?_eq_getElem hk]
  show l[k].2.size ≤ 100
  omega
theorem any_big {l : List Sh} {k : Nat} (hk : k < l.length) (h : 100 < (l.getD k sh0).2.size) : bigB l = true := by
  have : (l.any fun s => decide (100 < s.2.size)) = true := by
    rw [List.any_eq_true]
    refine ⟨l[k], List.getElem_mem hk, ?_⟩
    rw [List.getD, List.getElem?_eq_getElem hk] at h
    simpa using h
  simp [bigB, this]
theorem no_big {l : List Sh} (h1 : l.length ≤ 8 ∨ 255 < l.length) (h2 : l.length ≤ 300) (h : ∀ k, k < l.length → (l.getD k sh0).2.size ≤ 100) : bigB l = false := by
  simp only [bigB, Bool.or_eq_false_iff, Bool.and_eq_false_iff, decide_eq_false_iff_not, List.any_eq_false, decide_eq_true_eq]
  refine ⟨⟨by omega, by omega⟩, fun s hs => ?_⟩
  obtain ⟨k, hk, rfl⟩ := List.getElem_of_mem hs
  have := h k hk
  rw [List.getD, List.getElem?_eq_getElem hk] at this
  have : l[k].2.size ≤ 100 := this
  omega
set_option maxHeartbeats 2000000 in
theorem big_any (l : List Sh) (A : Option Addr) (c : Nat) (hl : l.length ≤ 9223372036854775807) (w : World) (hs : Sl w A (shV l)) :
    Calls Try.prog 13 #[.slice A l.length c] w fun e w' => e = .returned (.bool (bigB l)) ∧ w' = w := by
  by_cases h1 : 8 < (l.length : Int)
  · by_cases h2 : (l.length : Int) ≤ 255
    · have hr : bigB l = true := by simp [bigB]; omega
      rw [hr]
      go_enter Try.func13, Try.ntmps13
      go_wp2
      go_ret
      exact ⟨rfl, rfl⟩
    by_cases h3 : 300 < (l.length : Int)
    · have hr : bigB l = true := by simp [bigB]; omega
      rw [hr]
      go_enter Try.func13, Try.ntmps13
      go_wp2
      go_ret
      exact ⟨rfl, rfl⟩
    go_enter Try.func13, Try.ntmps13
    go_wp2
    go_loop [3] (fun i => ∃ k : Nat, k ≤ l.length ∧ i = .int .i64 (k : Int) ∧ Hid (∀ j, j < k → (l.getD j sh0).2.size ≤ 100)) (fun i => l.length - (intOf i).toNat)
    case atStart => exact ⟨0, by omega, rfl, Lib.hid (fun j hj => by omega)⟩
    case round =>
      obtain ⟨k, hk, rfl, hd⟩ := hrel
      by_cases hlt : k < l.length
      · obtain ⟨b, off, rfl, hx, hy⟩ := sl_sh hs hlt
        have HB := Lib.hid (fun h => any_big (l := l) hlt h)
        have HD : Hid ((l.getD k sh0).2.size ≤ 100 → ∀ j, j < k + 1 → (l.getD j sh0).2.size ≤ 100) := Lib.hid (fun h j hj => by
          by_cases e : j = k
          · rw [e]; exact h
          · exact hd.out j (by omega))
        generalize (l.getD k sh0).2 = y at *
        by_cases hz : (100 : Int) < (y.size : Int)
        · have e := Lib.hid (HB.out (by omega))
          go_wp2
          go_ret
          exact ⟨ret_bool e.out.symm, rfl⟩
        · have e := Lib.hid (HD.out (by omega))
          go_wp2
          go_round
          case rel => exact ⟨k + 1, by omega, by go_num, e⟩
          case measure => simp [intOf]; omega
      · obtain rfl : k = l.length := by omega
        have e := Lib.hid (no_big (l := l) (by omega) (by omega) hd.out)
        go_wp2
        go_ret
        exact ⟨ret_bool e.out.symm, rfl⟩
  · have h2 : ¬ (300 : Int) < (l.length : Int) := by omega
    go_enter Try.func13, Try.ntmps13
    go_wp2
    go_loop [3] (fun i => ∃ k : Nat, k ≤ l.length ∧ i = .int .i64 (k : Int) ∧ Hid (∀ j, j < k → (l.getD j sh0).2.size ≤ 100)) (fun i => l.length - (intOf i).toNat)
    case atStart => exact ⟨0, by omega, rfl, Lib.hid (fun j hj => by omega)⟩
    case round =>
      obtain ⟨k, hk, rfl, hd⟩ := hrel
      by_cases hlt : k < l.length
      · obtain ⟨b, off, rfl, hx, hy⟩ := sl_sh hs hlt
        have HB := Lib.hid (fun h => any_big (l := l) hlt h)
        have HD : Hid ((l.getD k sh0).2.size ≤ 100 → ∀ j, j < k + 1 → (l.getD j sh0).2.size ≤ 100) := Lib.hid (fun h j hj => by
          by_cases e : j = k
          · rw [e]; exact h
          · exact hd.out j (by omega))
        generalize (l.getD k sh0).2 = y at *
        by_cases hz : (100 : Int) < (y.size : Int)
        · have e := Lib.hid (HB.out (by omega))
          go_wp2
          go_ret
          exact ⟨ret_bool e.out.symm, rfl⟩
        · have e := Lib.hid (HD.out (by omega))
          go_wp2
          go_round
          case rel => exact ⟨k + 1, by omega, by go_num, e⟩
          case measure => simp [intOf]; omega
      · obtain rfl : k = l.length := by omega
        have e := Lib.hid (no_big (l := l) (by omega) (by omega) hd.out)
        go_wp2
        go_ret
        exact ⟨ret_bool e.out.symm, rfl⟩
end Go.Proofs.Ytljckcegcfidoaa
