/-
  share: the contracts of polynomials and of its closure.
-/
import Derived.Test.YtljckcegcfidoaaShl
import Derived.Test.YtljckcegcfidoaaInfo
namespace Go.Proofs.Ytljckcegcfidoaa
open Go.RowKit Go.Kx
set_option maxRecDepth 20000

set_option maxHeartbeats 1000000 in
theorem digits_any (s : ByteArray) (j k : Nat) (hs : s.size = 32 * k) (hj : j < 32) (hk : k ≤ 255) (N : Nat) (w : World) (hN : w.cell? ⟨N, 0, none⟩ = some (.string s)) :
    Calls Try.prog 49 #[.int .i64 (j : Int), .pointer (some ⟨N, 0, none⟩)] w fun e w' => (∃ A c, e = .returned (.slice A k c) ∧ Sl w' A (intsI (polI s j k)) ∧ FreshA w.heap.size A) ∧ Below w.heap.size w w' := by
  obtain ⟨i0, hi, hz0, hz1, hz2⟩ := info_parts int_info
  have HS := Lib.hid hs
  have HJ := Lib.hid hj
  clear hs hj
  go_enter Try.func49, Try.ntmps49
  go_wp2
  go_loopw [4, 5] (fun v i wr => ∃ p n : Nat, p ≤ k ∧ n = 32 * p + j ∧ i = .int .i64 (n : Int) ∧ wr.ownsRow w.heap.size 3 1 v p (intsI ((polI s j k).take p)) ∧ Below w.heap.size w wr) (fun _ i _ => 32 * k + 32 - (intOf i).toNat)
  case atStart => exact ⟨0, j, by omega, by omega, rfl, World.ownsRow_nil _ _ _ _, Below.refl _ _⟩
  case round =>
    obtain ⟨p, n, hp, hn, rfl, hown, hb⟩ := hrel
    have hNr := (hb.cell (p := ⟨N, 0, none⟩) (block_lt_of_cell hN)).trans hN
    by_cases hlt : p < k
    · have hns : n < s.size := by rw [HS.out]; have := HJ.out; omega
      have hv := gOf_v s n hns
      have HSN := Lib.hid (polI_snoc s j k p hlt)
      rw [← hn] at HSN
      have hvl := (gOf s n).lt
      have HV := Lib.hid hv
      have HNN := Lib.hid hn
      clear hn hv
      rw [HV.out] at HSN hvl
      have wv : IntKind.i64.wrap ((s[n].toNat : Nat) : Int) = ((s[n].toNat : Nat) : Int) := IntWalk.i64_in _ (by omega)
      have hsz := hb.size
      have hnl : n < 10000 := by have := HNN.out; have := HJ.out; omega
      go_wp2_with (first
        | (at_builtin; refine wpList_append_own _ rfl _ _ 48 rfl w.heap.size 3 i0 (.int .i64 0) 1 8 Try.underlying48 hi hz0 hz1 hz2 rfl (by decide) _ _ _ rfl (hown.alloc _) ⟨wr.heap.size, 0, none⟩ 1 1 [.int .i64 (s[n].toNat : Nat)] rfl rfl ?c1 ?c2 ?c3 ?c4 ?c5 ?_)
        | go_in)
      case c1 =>
        intro j u hj
        match j, hj with
        | 0, hj => simp at hj; subst hj; simp [Addr.add]
      case c2 => intro u hu; simp at hu; subst hu; rfl
      case c3 => unfold maxLen; omega
      case c4 => omega
      case c5 => simp; omega
      · intro v' w3 hown' hgrow _
        have hb1 := own_below (hown.alloc _) (hb.al _) hgrow
        rw [HSN.out] at hown'
        clear hown hgrow hb
        go_wp2
        go_roundw
        case rel => exact ⟨p + 1, n + 32, by omega, by have := HNN.out; omega, by go_num, hown', hb1⟩
        case measure => have := HNN.out; have := HJ.out; simp [intOf]; omega
    · obtain rfl : p = k := by omega
      have hns : ¬ n < s.size := by rw [HS.out]; omega
      obtain ⟨A, c, rfl, hs3, hA⟩ := own_slf hown
      rw [List.take_of_length_le (by rw [polI_length]; exact Nat.le_refl _)] at hs3
      clear hn
      go_wp2
      go_ret
      exact ⟨⟨_, _, rfl, hs3, hA⟩, hb⟩
theorem polynomials_any (s : ByteArray) (w : World) : Calls Try.prog 23 #[.string s] w fun e w' => e = .returned (.func (.func 49) #[] #[.pointer (some ⟨w.heap.size, 0, none⟩)]) ∧
    w'.cell? ⟨w.heap.size, 0, none⟩ = some (.string s) ∧ Below w.heap.size w w' := by
  have hb0 := Below.alloc0 w (.cells #[.string s] 9)
  have hc0 : (w.alloc (.cells #[.string s] 9)).cell? ⟨w.heap.size, 0, none⟩ = some (.string s) := (cell_of_row _ _ _ _ _ _ (heap_alloc_new w _)).trans rfl
  have hmf : ∀ (fn : Fn) (first cap : Array Value) (w : World), (Instr.makeFunc fn first cap).run Try.prog w = .ok (.func fn first cap) w := fun _ _ _ _ => rfl
  go_enter Try.func23, Try.ntmps23
  go_wp2
  go_ret
  exact ⟨rfl, hc0, hb0⟩
end Go.Proofs.Ytljckcegcfidoaa
