/-
  keyholeref09.Split: the contract.
-/
import Derived.Test.YtljckcegcfidoaaSRef
import Derived.Test.YtljckcegcfidoaaOwn
namespace Go.Proofs.Ytljckcegcfidoaa
open Go.RowKit Go.Kx
set_option maxRecDepth 20000

theorem rsplit_no (s : ByteArray) (n k : Int) (t : ByteArray) (h : ¬ okS s n k t) (w : World) : Calls Try.prog 10 #[.string s, .int .i64 n, .int .i64 k, .string t] w fun e w' => e = shEnd none 0 0 1 ∧ w' = w := by
  by_cases h1 : (s.size : Int) = 32
  rotate_left
  · have t1 : ((s.size : Int) != 32) = true := by simpa using h1
    go_enter Try.func10, Try.ntmps10
    go_wp2
    go_ret2
    exact ⟨rfl, rfl⟩
  have t1 : ((s.size : Int) != 32) = false := by simpa using h1
  by_cases h2 : n < 1
  · clear h1
    go_enter Try.func10, Try.ntmps10
    go_wp2
    go_ret2
    exact ⟨rfl, rfl⟩
  by_cases h3 : n > 255
  · clear h1
    go_enter Try.func10, Try.ntmps10
    go_wp2
    go_ret2
    exact ⟨rfl, rfl⟩
  by_cases h4 : k < 1
  · clear h1
    go_enter Try.func10, Try.ntmps10
    go_wp2
    go_ret2
    exact ⟨rfl, rfl⟩
  by_cases h5 : k > n
  · clear h1
    go_enter Try.func10, Try.ntmps10
    go_wp2
    go_ret2
    exact ⟨rfl, rfl⟩
  have h6 : (t.size : Int) ≠ 32 * (k - 1) := fun e => h ⟨by omega, by omega, by omega, by omega, by omega, e⟩
  have t6 : ((t.size : Int) != 32 * (k - 1)) = true := by simpa using h6
  clear h h1 h6
  go_enter Try.func10, Try.ntmps10
  go_wp2
  go_ret2
  exact ⟨rfl, rfl⟩
theorem shV_snoc {L : List Sh} {i : Nat} {x : Int} {r : ByteArray} (hi : i < L.length) (h : L.getD i sh0 = (x, r)) : shV (L.take i) ++ [.int .i64 x, .string r] = shV (L.take (i + 1)) := by
  rw [List.take_add_one, shV_append, getD_at hi, h]
  rfl
set_option maxHeartbeats 4000000 in
theorem rsplit_yes (s : ByteArray) (n k : Nat) (t : ByteArray) (h1 : s.size = 32) (h2 : 1 ≤ n) (h3 : n ≤ 255) (h4 : 1 ≤ k) (h5 : k ≤ n) (h6 : t.size = 32 * (k - 1)) (w : World) :
    Calls Try.prog 10 #[.string s, .int .i64 (n : Int), .int .i64 (k : Int), .string t] w fun e w' => (∃ A c, e = shEnd A n c 0 ∧ Sl w' A (shV (splL (s ++ t) n k))) ∧ Below w.heap.size w w' := by
  have t1 : ((s.size : Int) != 32) = false := by simp; omega
  have t6 : ((t.size : Int) != 32 * ((k : Int) - 1)) = false := by simp; omega
  have hn1 : ¬ (n : Int) < 1 := by omega
  have hn2 : ¬ (n : Int) > 255 := by omega
  have hk1 : ¬ (k : Int) < 1 := by omega
  have hk2 : ¬ (k : Int) > n := by omega
  obtain ⟨i0, hI0, hz0, hz1, hz2⟩ := info_parts octet_info
  obtain ⟨i1, hI1, hy0, hy1, hy2⟩ := info_parts shares_info
  have HROW := Lib.hid (fun j hj V => rrow_any s t k j h1 h4 (by omega) h6 hj V)
  have HEV : Hid (∀ V A c (i j : Nat), i < n → Sl V A (intsI (polI (s ++ t) j k)) → Calls Try.prog 26 #[.slice A k c, .int .i64 ((i : Int) + 1)] V fun e w' => e = two ((shY (s ++ t) k i j).v, true) ∧ w' = V) := Lib.hid (fun V A c i j hi hV => by
    have h := reval_yes (polI (s ++ t) j k) ((i : Int) + 1) A c (by rw [polI_length]; omega) (dig_polI _ _ _) (by simp [dig]; omega) V hV
    rw [gs_polI, polI_length] at h
    exact h)
  have HSN : Hid (∀ i j, j < 32 → byts ((txtL (shY (s ++ t) k i)).take j) ++ [Value.int .u8 ((shY (s ++ t) k i j).v : Nat)] = byts ((txtL (shY (s ++ t) k i)).take (j + 1))) := Lib.hid (fun i j hj => by
    have hx := txtL_at (shY (s ++ t) k i) hj
    have := (shY (s ++ t) k i j).lt
    rw [← take_snocB hx, ← byts_snoc, UInt8.toNat_ofNat', Nat.mod_eq_of_lt this])
  have HTL := Lib.hid (fun i => txtL_length (shY (s ++ t) k i))
  obtain ⟨L, hL⟩ : ∃ L, splL (s ++ t) n k = L := ⟨_, rfl⟩
  have HLN : Hid (L.length = n) := Lib.hid (by rw [← hL, splL_length])
  have HLS : Hid (∀ i, i < n → shV (L.take i) ++ [.int .i64 ((i : Int) + 1), .string ⟨(txtL (shY (s ++ t) k i)).toArray⟩] = shV (L.take (i + 1))) := Lib.hid (fun i hi => by
    refine shV_snoc (by rw [← hL, splL_length]; exact hi) ?_
    rw [← hL]
    simp [splL, List.getD, hi, txt])
  rw [hL]
  clear hL h1 h6
  go_enter Try.func10, Try.ntmps10
  go_wp2
  go_loopw [10, 11] (fun v x wr => ∃ i : Nat, i ≤ n ∧ x = .int .i64 ((i : Int) + 1) ∧ wr.ownsRow w.heap.size 39 2 v i (shV (L.take i)) ∧ Below w.heap.size w wr) (fun _ x _ => n + 2 - (intOf x).toNat)
  case atStart => exact ⟨0, by omega, rfl, World.ownsRow_nil _ _ _ _, Below.refl _ _⟩
  case round =>
    obtain ⟨i, hi, rfl, hown, hb⟩ := hrel
    by_cases hlt : i < n
    · have htst : ((i : Int) + 1 ≤ (n : Int)) := by omega
      generalize wr = W0 at *
      go_wp2
      go_loopw [12, 13] (fun v x wr => ∃ j : Nat, j ≤ 32 ∧ x = .int .i64 (j : Int) ∧ wr.ownsRow W0.heap.size 5 1 v j (byts ((txtL (shY (s ++ t) k i)).take j)) ∧ Below W0.heap.size W0 wr) (fun _ x _ => 32 - (intOf x).toNat)
      case atStart => exact ⟨0, by omega, rfl, World.ownsRow_nil _ _ _ _, Below.refl _ _⟩
      case round =>
        obtain ⟨j, hj, rfl, ho2, hb2⟩ := hrel
        by_cases hltj : j < 32
        · have HR := Lib.hid (fun V => HROW.out j hltj V)
          have HE := Lib.hid (fun V A c => HEV.out V A c i j hlt)
          have HS2 := Lib.hid (HSN.out i j hltj)
          generalize shY (s ++ t) k i j = y at *
          have hyl := y.lt
          have hym : IntKind.u8.wrap ((y.v : Nat) : Int) = ((y.v : Nat) : Int) := by simp only [IntKind.wrap, IntKind.bits, IntKind.signed]; simp; omega
          go_wp2_with fail
          refine (HR.out _).mono ?_
          rintro e w2 ⟨⟨A, c, rfl, hs⟩, hb3⟩
          go_wp2_with fail
          refine (HE.out _ A c hs).mono ?_
          rintro e w2 ⟨rfl, rfl⟩
          unfold two
          have ho3 := own_keep ho2 hb3
          have hb4 := hb2.next' hb3
          have hsz := hb4.size
          clear ho2 hb2 hb3 HR HE
          go_wp2_with (first
            | (at_builtin; refine wpList_append_own _ rfl _ _ 54 rfl W0.heap.size 5 i0 (.int .u8 0) 1 1 Try.underlying54 hI0 hz0 hz1 hz2 rfl (by decide) _ _ _ rfl (ho3.alloc _) ⟨w2.heap.size, 0, none⟩ 1 1 [.int .u8 (y.v : Nat)] rfl rfl ?c1 ?c2 ?c3 ?c4 ?c5 ?_)
            | go_in)
          case c1 =>
            intro j u hj
            match j, hj with
            | 0, hj => simp at hj; subst hj; simp [Addr.add]
          case c2 => intro u hu; simp at hu; subst hu; rfl
          case c3 => unfold maxLen; omega
          case c4 => omega
          case c5 => simp; omega
          · intro v' w3 hown' hgrow _
            have hb1 := own_below (ho3.alloc _) (hb4.al _) hgrow
            rw [HS2.out] at hown'
            clear ho3 hgrow hb4
            go_wp2
            go_roundw
            case rel => exact ⟨j + 1, by omega, by go_num, hown', hb1⟩
            case measure => simp [intOf]; omega
        · have hj32 : j = 32 := by omega
          obtain ⟨l, hl⟩ : ∃ l, txtL (shY (s ++ t) k i) = l := ⟨_, rfl⟩
          have hlj : j = l.length := by rw [← hl, HTL.out]; omega
          have HLI := Lib.hid (HLS.out i hlt)
          rw [hl] at ho2 HLI
          rw [List.take_of_length_le (by omega), hlj] at ho2
          obtain ⟨A, c, hv, hconv⟩ := own_strs ho2
          rw [← hlj] at hv
          subst hv
          have ho3 := own_keep hown hb2
          replace hb := hb.next' hb2
          have hsz := hb.size
          clear ho2 hb2 hlj hj32 hl hown
          go_wp2_with (first
            | (at_builtin; refine wpList_append_own _ rfl _ _ 22 rfl w.heap.size 39 i1 (.agg #[.int .i64 0, .string ⟨#[]⟩]) 2 24 Try.underlying22 hI1 hy0 hy1 hy2 rfl (by decide) _ _ _ rfl (ho3.alloc _) ⟨wr.heap.size, 0, none⟩ 1 1 [.int .i64 ((i : Int) + 1), .string ⟨l.toArray⟩] rfl rfl ?c1 ?c2 ?c3 ?c4 ?c5 ?_)
            | go_in)
          case c1 =>
            intro j u hj
            match j, hj with
            | 0, hj => simp at hj; subst hj; simp [Addr.add]
            | 1, hj => simp at hj; subst hj; simp [Addr.add]
          case c2 =>
            intro u hu
            simp at hu
            rcases hu with rfl | rfl <;> rfl
          case c3 => unfold maxLen; omega
          case c4 => omega
          case c5 => simp; omega
          · intro v' w3 hown' hgrow _
            have hb1 := own_below (ho3.alloc _) (hb.al _) hgrow
            rw [HLI.out] at hown'
            clear ho3 hgrow hb
            go_wp2
            go_roundw
            case rel => exact ⟨i + 1, by omega, by go_num, hown', hb1⟩
            case measure => simp [intOf]; omega
    · have hin : i = n := by omega
      have htst : ¬ ((i : Int) + 1 ≤ (n : Int)) := by omega
      rw [hin, List.take_of_length_le (by rw [HLN.out]; exact Nat.le_refl _)] at hown
      obtain ⟨A, c, rfl, hs3⟩ := own_slf hown
      go_wp2
      go_ret2
      exact ⟨⟨_, ⟨_, rfl⟩, hs3.1⟩, hb⟩
end Go.Proofs.Ytljckcegcfidoaa
