/-
  keyholelaw09.chosen: the contract.
-/
import Derived.Test.YtljckcegcfidoaaShp
namespace Go.Proofs.Ytljckcegcfidoaa
open Go.RowKit Go.Kx
set_option maxRecDepth 20000

def boolV (m : List Bool) : List Value := m.map Value.bool
theorem boolV_length (m : List Bool) : (boolV m).length = m.length := by simp [boolV]
theorem sl_bool {w : World} {A : Option Addr} {m : List Bool} (h : Sl w A (boolV m)) {k : Nat} (hk : k < m.length) : ∃ b off, A = some ⟨b, off, none⟩ ∧ w.cell? ⟨b, off + k, none⟩ = some (.bool (m.getD k false)) := by
  obtain ⟨b, off, u, rfl, hu, hc⟩ := h.at_ (k := k) (by rw [boolV_length]; exact hk)
  refine ⟨b, off, rfl, ?_⟩
  rw [hc, ← hu]
  simp [boolV, List.getD, List.getElem?_eq_getElem hk]
set_option maxHeartbeats 2000000 in
theorem chosen_any (l : List Sh) (m : List Bool) (A B : Option Addr) (c d : Nat) (hl : l.length ≤ 1000) (hm : m.length ≤ 1000) (w : World) (hs : Sl w A (shV l)) (hs2 : Sl w B (boolV m)) :
    Calls Try.prog 21 #[.slice A l.length c, .slice B m.length d] w fun e w' => (∃ C cc, e = .returned (.slice C (chL l m).length cc) ∧ Sl w' C (shV (chL l m))) ∧ Below w.heap.size w w' := by
  obtain ⟨i1, hI1, hy0, hy1, hy2⟩ := info_parts shares_info
  go_enter Try.func21, Try.ntmps21
  go_wp2
  go_loopw [5, 6] (fun v i wr => ∃ k : Nat, k ≤ l.length ∧ k ≤ m.length ∧ i = .int .i64 (k : Int) ∧ wr.ownsRow w.heap.size 39 2 v (chL (l.take k) (m.take k)).length (shV (chL (l.take k) (m.take k))) ∧ Below w.heap.size w wr) (fun _ i _ => l.length - (intOf i).toNat)
  case atStart => exact ⟨0, by omega, by omega, rfl, World.ownsRow_nil _ _ _ _, Below.refl _ _⟩
  case round =>
    obtain ⟨k, hk, hkm, rfl, hown, hb⟩ := hrel
    by_cases hlt : k < l.length
    · by_cases hlm : k < m.length
      · obtain ⟨b, off, rfl, hx, hy⟩ := sl_sh (hs.keep hb) hlt
        obtain ⟨b2, off2, rfl, hc⟩ := sl_bool (hs2.keep hb) hlm
        have HC := Lib.hid (chL_snoc l m k hlt hlm)
        have HLEN : (chL (l.take k) (m.take k)).length ≤ 1000 := by
          have := (chL_sub (l.take k) (m.take k)).length_le
          rw [List.length_take] at this
          omega
        cases hq : m.getD k false with
        | false =>
          rw [hq] at hc
          have HE : Hid (chL (l.take (k + 1)) (m.take (k + 1)) = chL (l.take k) (m.take k)) := Lib.hid (by rw [HC.out, hq]; rfl)
          clear hq
          go_wp2
          go_roundw
          case rel => exact ⟨k + 1, by omega, by omega, by go_num, by rw [HE.out]; exact hown, hb⟩
          case measure => simp [intOf]; omega
        | true =>
          rw [hq] at hc
          have HE : Hid (chL (l.take (k + 1)) (m.take (k + 1)) = chL (l.take k) (m.take k) ++ [l.getD k sh0]) := Lib.hid (by rw [HC.out, hq]; rfl)
          obtain ⟨⟨x, y⟩, hxy⟩ : ∃ s, l.getD k sh0 = s := ⟨_, rfl⟩
          rw [hxy] at HE hx hy
          dsimp only at hx hy
          clear hq hxy
          generalize chL (l.take k) (m.take k) = L at *
          have HF : Hid (shV L ++ [.int .i64 x, .string y] = shV (chL (l.take (k + 1)) (m.take (k + 1))) ∧ (chL (l.take (k + 1)) (m.take (k + 1))).length = L.length + 1) := Lib.hid ⟨by rw [HE.out, shV_append]; rfl, by rw [HE.out]; simp⟩
          have hsz := hb.size
          go_wp2_with (first
            | (at_builtin; refine wpList_append_own _ rfl _ _ 22 rfl w.heap.size 39 i1 (.agg #[.int .i64 0, .string ⟨#[]⟩]) 2 24 Try.underlying22 hI1 hy0 hy1 hy2 rfl (by decide) _ _ _ rfl (hown.alloc _) ⟨wr.heap.size, 0, none⟩ 1 1 [.int .i64 x, .string y] rfl rfl ?c1 ?c2 ?c3 ?c4 ?c5 ?_)
            | go_in)
          case c1 =>
            intro j u hj
            match j, hj with
            | 0, hj => simp at hj; subst hj; simp [Addr.add]
            | 1, hj => simp at hj; subst hj; simp [Addr.add]
          case c2 =>
            intro u hu
            simp at hu
            rcases hu with rfl | rfl <;> rfl
          case c3 => unfold maxLen; omega
          case c4 => omega
          case c5 => simp; omega
          · intro v' w3 hown' hgrow _
            have hb1 := own_below (hown.alloc _) (hb.al _) hgrow
            rw [HF.out.1, ← HF.out.2] at hown'
            clear hown hgrow hb
            go_wp2
            go_roundw
            case rel => exact ⟨k + 1, by omega, by omega, by go_num, hown', hb1⟩
            case measure => simp [intOf]; omega
      · have HE := Lib.hid (chL_all l m k (.inr (by omega)))
        rw [HE.out] at hown
        obtain ⟨C, cc, rfl, hs3, _⟩ := own_slf hown
        go_wp2
        go_ret
        exact ⟨⟨C, cc, rfl, hs3⟩, hb⟩
    · have HE := Lib.hid (chL_all l m k (.inl (by omega)))
      rw [HE.out] at hown
      obtain ⟨C, cc, rfl, hs3, _⟩ := own_slf hown
      go_wp2
      go_ret
      exact ⟨⟨C, cc, rfl, hs3⟩, hb⟩
end Go.Proofs.Ytljckcegcfidoaa
