/-
  keyholeref08.Eval, keyholeref09.row: the contracts.
-/
import Derived.Test.YtljckcegcfidoaaShr3
import Derived.Test.YtljckcegcfidoaaPly10
import Derived.Test.YtljckcegcfidoaaFld3A
namespace Go.Proofs.Ytljckcegcfidoaa
open Go.RowKit Go.Kx
set_option maxRecDepth 20000

/-! ### Eval -/
set_option maxHeartbeats 1000000 in
theorem reval_yes (l : List Int) (x : Int) (A : Option Addr) (c : Nat) (hl : l.length ≤ 255) (h2 : allI dig l = true) (h3 : dig x = true) (w : World) (hs : Sl w A (intsI l)) :
    Calls Try.prog 26 #[.slice A l.length c, .int .i64 x] w fun e w' => e = two ((Gf.ev (gs l) (toG x)).v, true) ∧ w' = w := by
  have HEND := Lib.hid (evI_all l x)
  have HST : Hid (∀ k, k < l.length → evI l x (k + 1) = evI l x k + toG (l.getD k 0) * pw (toG x) k) := Lib.hid (fun k hk => by
    unfold evI
    rw [gs_take l hk, ev_snoc, List.length_take, gs_length, Nat.min_eq_left (by omega)])
  have HD : Hid (∀ k, k < l.length → ∃ g : Gf.G, l.getD k 0 = (g.v : Int) ∧ toG (l.getD k 0) = g) := Lib.hid (fun k hk => ⟨toG (l.getD k 0), (toG_v (allI_at h2 hk)).symm, rfl⟩)
  obtain ⟨X, hX, hX2⟩ : ∃ X : Gf.G, x = (X.v : Int) ∧ toG x = X := ⟨toG x, (toG_v h3).symm, rfl⟩
  have HALL := Lib.hid (rallI_any l A c (by omega) w hs)
  rw [h2] at HALL
  have HDG := Lib.hid (rdigit_any x w)
  rw [h3] at HDG
  rw [hX2] at HST HEND ⊢
  have HPW : Hid (∀ k, pw X (k + 1) = pw X k * X) := Lib.hid (fun k => rfl)
  have H00 : Hid (evI l x 0 = 0 ∧ pw X 0 = 1) := Lib.hid ⟨rfl, rfl⟩
  generalize evI l x = E at *
  subst hX
  have HT : Hid (∀ (a b : Gf.G) V, Calls Try.prog 40 #[.int .i64 (a.v : Nat), .int .i64 (b.v : Nat)] V fun e w' => e = .returned (.int .i64 ((a * b).v : Nat)) ∧ w' = V) := Lib.hid (fun a b V => rtimes_any a.v b.v a.lt b.lt V)
  have HP : Hid (∀ (a b : Gf.G) V, Calls Try.prog 39 #[.int .i64 (a.v : Nat), .int .i64 (b.v : Nat)] V fun e w' => e = .returned (.int .i64 ((a + b).v : Nat)) ∧ w' = V) := Lib.hid (fun a b V => rsum_any a.v b.v (Nat.lt_trans a.lt (by decide)) (Nat.lt_trans b.lt (by decide)) V)
  clear h2 h3 hX2
  generalize pw X = PW at *
  go_enter Try.func26, Try.ntmps26
  go_wp2_with fail
  refine HALL.out.mono ?_
  rintro e w ⟨rfl, rfl⟩
  go_wp2_with fail
  refine HDG.out.mono ?_
  rintro e w ⟨rfl, rfl⟩
  go_wp2
  go_loopw [6, 7, 8] (fun s p i wr => ∃ k : Nat, k ≤ l.length ∧ i = .int .i64 (k : Int) ∧ s = .int .i64 ((E k).v : Nat) ∧ p = .int .i64 ((PW k).v : Nat) ∧ wr = w) (fun _ _ i _ => l.length - (intOf i).toNat)
  case atStart => exact ⟨0, by omega, rfl, by rw [H00.out.1]; rfl, by rw [H00.out.2]; rfl, rfl⟩
  case round =>
    obtain ⟨k, hk, rfl, rfl, rfl, rfl⟩ := hrel
    by_cases hlt : k < l.length
    · obtain ⟨b, off, rfl, hc⟩ := sl_int hs hlt
      obtain ⟨g, hg, hg2⟩ := HD.out k hlt
      have HE := Lib.hid (HST.out k hlt)
      have HPK := Lib.hid (HPW.out k)
      rw [hg2] at HE
      rw [hg] at hc
      clear hg hg2
      go_wp2_with fail
      refine (HT.out _ _ _).mono ?_
      rintro e wr ⟨rfl, rfl⟩
      go_wp2_with fail
      refine (HP.out _ _ _).mono ?_
      rintro e wr ⟨rfl, rfl⟩
      go_wp2_with fail
      refine (HT.out _ _ _).mono ?_
      rintro e wr ⟨rfl, rfl⟩
      go_wp2
      go_roundw
      case rel => exact ⟨k + 1, by omega, by go_num, by rw [HE.out], by rw [HPK.out], by trivial⟩
      case measure => simp [intOf]; omega
    · obtain rfl : k = l.length := by omega
      go_wp2
      go_ret2
      exact ⟨by rw [← HEND.out]; rfl, rfl⟩

/-! ### row -/
theorem gOf_left {s t : ByteArray} {q : Nat} (h : q < s.size) : gOf (s ++ t) q = gOf s q := by
  have e1 : s.data.toList.length = s.size := by simp
  unfold gOf
  apply Gf.G.ext'
  simp only [ByteArray.data_append, Array.toList_append, List.getD]
  rw [List.getElem?_append_left (by omega)]
theorem gOf_right {s t : ByteArray} {q : Nat} : gOf (s ++ t) (s.size + q) = gOf t q := by
  have e1 : s.data.toList.length = s.size := by simp
  unfold gOf
  apply Gf.G.ext'
  simp only [ByteArray.data_append, Array.toList_append, List.getD]
  rw [List.getElem?_append_right (by omega)]
  congr 3
  omega
set_option maxHeartbeats 1000000 in
theorem rrow_any (s t : ByteArray) (k j : Nat) (h1 : s.size = 32) (h4 : 1 ≤ k) (h5 : k ≤ 255) (h6 : t.size = 32 * (k - 1)) (hj : j < 32) (w : World) :
    Calls Try.prog 27 #[.string s, .int .i64 (k : Int), .string t, .int .i64 (j : Int)] w fun e w' => (∃ A c, e = .returned (.slice A k c) ∧ Sl w' A (intsI (polI (s ++ t) j k))) ∧ Below w.heap.size w w' := by
  obtain ⟨i0, hi, hz0, hz1, hz2⟩ := info_parts int_info
  have hjs : j < s.size := by omega
  have H0 := Lib.hid (polI_snoc (s ++ t) j k 0 (by omega))
  rw [show 32 * 0 + j = j by omega, gOf_left hjs, gOf_v s j hjs] at H0
  have HS : Hid (∀ q, q + 1 < k → ∃ h : 32 * q + j < t.size, intsI ((polI (s ++ t) j k).take (q + 1)) ++ [Value.int .i64 (t[32 * q + j].toNat : Nat)] = intsI ((polI (s ++ t) j k).take (q + 2))) := Lib.hid (fun q hq => by
    refine ⟨by omega, ?_⟩
    have := polI_snoc (s ++ t) j k (q + 1) hq
    rw [show 32 * (q + 1) + j = s.size + (32 * q + j) by omega, gOf_right, gOf_v t (32 * q + j) (by omega)] at this
    exact this)
  have HL := Lib.hid (polI_length (s ++ t) j k)
  have hsl : s[j].toNat < 256 := UInt8.toNat_lt _
  have ws : IntKind.i64.wrap ((s[j].toNat : Nat) : Int) = ((s[j].toNat : Nat) : Int) := IntWalk.i64_in _ (by omega)
  have hb0 := Below.alloc0 w (.cells #[.int .i64 (s[j].toNat : Nat)] 3)
  have ho0 : (w.alloc (.cells #[.int .i64 (s[j].toNat : Nat)] 3)).ownsRow w.heap.size 3 1 (.slice (some ⟨w.heap.size, 0, none⟩) 1 1) 1 (intsI ((polI (s ++ t) j k).take 1)) := by
    have := World.ownsRow_lit (base := w.heap.size) (e := 3) (size := 1) w #[.int .i64 (s[j].toNat : Nat)] 1 (Nat.le_refl _) (by unfold maxLen; omega) rfl
    rw [← H0.out]
    exact this
  have H6 := Lib.hid h6
  clear h6
  generalize polI (s ++ t) j k = L at *
  go_enter Try.func27, Try.ntmps27
  go_wp2
  generalize World.alloc w _ = W at *
  go_loopw [9, 10] (fun v i wr => ∃ q : Nat, q + 1 ≤ k ∧ i = .int .i64 ((q : Int) + 1) ∧ wr.ownsRow w.heap.size 3 1 v (q + 1) (intsI (L.take (q + 1))) ∧ Below w.heap.size w wr) (fun _ i _ => k - (intOf i).toNat)
  case atStart => exact ⟨0, by omega, rfl, ho0, hb0⟩
  case round =>
    clear ho0 hb0
    obtain ⟨q, hq, rfl, hown, hb⟩ := hrel
    by_cases hlt : q + 1 < k
    · obtain ⟨hn, hsn⟩ := HS.out q hlt
      have HSN := Lib.hid hsn
      have e1 : 32 * (q : Int) + (j : Int) = ((32 * q + j : Nat) : Int) := by omega
      have ht1 : ((q : Int) + 1 < (k : Int)) := by omega
      clear hsn
      generalize 32 * q + j = n at *
      have hvl : t[n].toNat < 256 := UInt8.toNat_lt _
      have wt : IntKind.i64.wrap ((t[n].toNat : Nat) : Int) = ((t[n].toNat : Nat) : Int) := IntWalk.i64_in _ (by omega)
      have hsz := hb.size
      go_wp2_with (first
        | (at_builtin; refine wpList_append_own _ rfl _ _ 48 rfl w.heap.size 3 i0 (.int .i64 0) 1 8 Try.underlying48 hi hz0 hz1 hz2 rfl (by decide) _ _ _ rfl (hown.alloc _) ⟨wr.heap.size, 0, none⟩ 1 1 [.int .i64 (t[n].toNat : Nat)] rfl rfl ?c1 ?c2 ?c3 ?c4 ?c5 ?_)
        | go_in)
      case c1 =>
        intro j u hj
        match j, hj with
        | 0, hj => simp at hj; subst hj; simp [Addr.add]
      case c2 => intro u hu; simp at hu; subst hu; rfl
      case c3 => unfold maxLen; omega
      case c4 => omega
      case c5 => simp; omega
      · intro v' w3 hown' hgrow _
        have hb1 := own_below (hown.alloc _) (hb.al _) hgrow
        rw [HSN.out] at hown'
        clear hown hgrow hb
        go_wp2
        go_roundw
        case rel => exact ⟨q + 1, by omega, by go_num, hown', hb1⟩
        case measure => simp [intOf]; omega
    · have hqk : q + 1 = k := by omega
      have hnt : ¬ ((q : Int) + 1 < (k : Int)) := by omega
      rw [hqk, List.take_of_length_le (by rw [HL.out]; exact Nat.le_refl _)] at hown
      obtain ⟨A, c, rfl, hs3⟩ := own_sl hown
      clear hqk
      go_wp2
      go_ret
      exact ⟨⟨A, ⟨c, rfl⟩, hs3⟩, hb⟩
end Go.Proofs.Ytljckcegcfidoaa
