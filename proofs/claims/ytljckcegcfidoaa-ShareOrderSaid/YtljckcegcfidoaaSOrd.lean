/-
  keyholelaw09.ShareOrder: the walk.
-/
import Derived.Test.YtljckcegcfidoaaShw
import Derived.Test.YtljckcegcfidoaaSho
namespace Go.Proofs.Ytljckcegcfidoaa
open Go.RowKit Go.Kx
set_option maxRecDepth 20000

theorem own_sl2 {w : World} {base : Nat} {e : TypeId} {v : Value} {n size : Nat} {xs : List Value} (h : w.ownsRow base e size v n xs) : ∃ A c, v = .slice A n c ∧ Sl w A xs := by
  obtain ⟨A, c, h1, h2, _⟩ := own_slf h
  exact ⟨A, c, h1, h2⟩
theorem own_base {w : World} {B B' : Nat} {e : TypeId} {v : Value} {n sz : Nat} {xs : List Value} (h : w.ownsRow B e sz v n xs) (hB : B' ≤ B) : w.ownsRow B' e sz v n xs := by
  rcases h with ⟨h1, h2 | ⟨g, cap, cur, h2, h3, h4⟩⟩
  · exact ⟨h1, .inl h2⟩
  · exact ⟨h1, .inr ⟨g, cap, cur, h2, Nat.le_trans hB h3, h4⟩⟩
theorem rev_snoc (l : List Sh) (k q : Nat) (h : k + (q + 1) = l.length) : shV (l.reverse.take k) ++ [.int .i64 (l.getD q sh0).1, .string (l.getD q sh0).2] = shV (l.reverse.take (k + 1)) := by
  rw [List.take_add_one, shV_append]
  congr 1
  rw [List.getElem?_reverse (by omega), show l.length - 1 - k = q by omega, getD_at (by omega)]
  rfl
set_option maxHeartbeats 4000000 in
theorem order_yes (l : List Sh) (x : Int) (A : Option Addr) (c : Nat) (hl : l.length ≤ 9223372036854775807) (w : World) (hs : Sl w A (shV l)) :
    Calls Try.prog 7 #[.slice A l.length c, .int .i64 x] w fun e w' => e = .returned (.bool true) ∧ Below w.heap.size w w' := by
  have HBG := Lib.hid (big_any l A c hl w hs)
  cases hbig : bigB l with
  | true =>
    rw [hbig] at HBG
    clear hbig
    go_enter Try.func7, Try.ntmps7
    go_wp2_with fail
    refine HBG.out.mono ?_
    rintro e w1 ⟨rfl, rfl⟩
    go_wp2
    go_ret
    exact ⟨rfl, Below.refl _ _⟩
  | false =>
    rw [hbig] at HBG
    obtain ⟨g1, g2, _⟩ := bigB_no hbig
    clear hbig
    obtain ⟨i1, hI1, hy0, hy1, hy2⟩ := info_parts shares_info
    have HREV := Lib.hid (fun k q h => rev_snoc l k q h)
    have HRT : Hid (l.reverse.take l.length = l.reverse) := Lib.hid (List.take_of_length_le (by simp))
    have HAT := Lib.hid (fun V h => at_any l x A c (by omega) V h)
    have HAR : Hid (∀ V A c, Sl V A (shV l.reverse) → Calls Try.prog 17 #[.slice A l.length c, .int .i64 x] V fun e w' => e = strE (atA l x) ∧ Below V.heap.size V w') := Lib.hid (fun V A c h => by
      have := at_any l.reverse x A c (by simp; omega) V h
      rwa [at_rev, List.length_reverse] at this)
    by_cases hok : rightB l = true ∧ dig x = true
    rotate_left
    · obtain ⟨e0, he0, hne⟩ := atA_no hok
      rw [he0] at HAT HAR
      have hte : (e0 != 0) = true := by simpa using hne
      clear he0 hne hok
      go_enter Try.func7, Try.ntmps7
      go_wp2_with fail
      refine HBG.out.mono ?_
      rintro e w ⟨rfl, rfl⟩
      go_wp2
      go_loopw [5, 6] (fun v i wr => ∃ k q : Nat, k + q = l.length ∧ i = .int .i64 ((q : Int) - 1) ∧ wr.ownsRow w.heap.size 39 2 v k (shV (l.reverse.take k)) ∧ Below w.heap.size w wr) (fun _ i _ => (intOf i + 1).toNat)
      case atStart => exact ⟨0, l.length, by omega, by go_num, World.ownsRow_nil _ _ _ _, Below.refl _ _⟩
      case round =>
        obtain ⟨k, q, hkq, rfl, hown, hb⟩ := hrel
        by_cases h0 : 0 < q
        · obtain ⟨q, rfl⟩ : ∃ j, q = j + 1 := ⟨q - 1, by omega⟩
          have e1 : ((q + 1 : Nat) : Int) - 1 = (q : Int) := by omega
          rw [e1]
          have hq : q < l.length := by omega
          obtain ⟨b, off, rfl, hx, hy⟩ := sl_sh (hs.keep hb) hq
          have HSN := Lib.hid (HREV.out k q hkq)
          obtain ⟨⟨x', y'⟩, hxy⟩ : ∃ s, l.getD q sh0 = s := ⟨_, rfl⟩
          rw [hxy] at HSN hx hy
          dsimp only at HSN hx hy
          have hsz := hb.size
          have HKQ := Lib.hid hkq
          have hk3 : k ≤ 300 := by omega
          clear hxy hkq
          go_wp2_with (first
            | (at_builtin; refine wpList_append_own _ rfl _ _ 22 rfl w.heap.size 39 i1 (.agg #[.int .i64 0, .string ⟨#[]⟩]) 2 24 Try.underlying22 hI1 hy0 hy1 hy2 rfl (by decide) _ _ _ rfl (hown.alloc _) ⟨wr.heap.size, 0, none⟩ 1 1 [.int .i64 x', .string y'] rfl rfl ?c1 ?c2 ?c3 ?c4 ?c5 ?_)
            | go_in)
          case c1 =>
            intro j u hj
            match j, hj with
            | 0, hj => simp at hj; subst hj; simp [Addr.add]
            | 1, hj => simp at hj; subst hj; simp [Addr.add]
          case c2 =>
            intro u hu
            simp at hu
            rcases hu with rfl | rfl <;> rfl
          case c3 => unfold maxLen; omega
          case c4 => omega
          case c5 => simp; omega
          · intro v' w3 hown' hgrow _
            have hb1 := own_below (hown.alloc _) (hb.al _) hgrow
            rw [HSN.out] at hown'
            clear hown hgrow hb
            go_wp2
            go_roundw
            case rel => exact ⟨k + 1, q, by have := HKQ.out; omega, by go_num, hown', hb1⟩
            case measure => simp [intOf]
        · obtain rfl : q = 0 := by omega
          obtain rfl : k = l.length := by omega
          rw [HRT.out] at hown
          obtain ⟨A2, c2, rfl, hs2⟩ := own_sl2 hown
          replace hs := hs.keep hb
          clear hown
          go_wp2_with fail
          refine (HAT.out _ hs).mono ?_
          rintro e w1 ⟨rfl, hb1⟩
          replace hs := hs.keep hb1
          replace hs2 := hs2.keep hb1
          replace hb := hb.next' hb1
          clear hb1
          unfold strE
          go_wp2_with fail
          refine (HAR.out _ _ _ hs2).mono ?_
          rintro e w2 ⟨rfl, hb2⟩
          replace hs := hs.keep hb2
          replace hb := hb.next' hb2
          clear hb2 hs2
          unfold strE
          go_wp2_with fail
          refine (shares_any _).mono ?_
          rintro e w9 ⟨rfl, hb9⟩
          go_wp2
          go_ret
          exact ⟨rfl, hb.next' hb9⟩
    obtain ⟨hr, hd⟩ := hok
    rw [atA_yes hr hd] at HAT HAR
    have hr2 := rightB_of hr
    have hl8 : l.length ≤ 8 := by omega
    have HOWN := Lib.hid (fun k hk (h : (l.getD k sh0).1 = x) => (by rw [← h]; exact at_own hr hk : atT l x = (l.getD k sh0).2))
    have HM7 : Hid ((∀ k, k < l.length → (l.getD k sh0).1 ≠ x) → ∀ V A c, Sl V A (shV (l ++ [(x, atT l x)])) → Calls Try.prog 17 #[.slice A (l.length + 1) c, .int .i64 7] V fun e w' => e = strE (atT l 7, 0) ∧ Below V.heap.size V w') := Lib.hid (fun hno V A c h => by
      have := at_any (l ++ [(x, atT l x)]) 7 A c (by simp; omega) V h
      rw [at_more hr hd hno (by omega) 7 rfl] at this
      simpa using this)
    have HA7 : Hid (∀ V, Sl V A (shV l) → Calls Try.prog 17 #[.slice A l.length c, .int .i64 7] V fun e w' => e = strE (atT l 7, 0) ∧ Below V.heap.size V w') := Lib.hid (fun V h => by
      have := at_any l 7 A c (by omega) V h
      rwa [atA_yes hr rfl] at this)
    have HOW := Lib.hid (fun V h => own_any l A c (by omega) V h)
    have HSNO : Hid (shV l ++ [.int .i64 x, .string (atT l x)] = shV (l ++ [(x, atT l x)])) := Lib.hid (by rw [shV_append]; rfl)
    have HS0 := Lib.hid hs
    clear hr hd hr2
    generalize atT l x = T at *
    generalize atT l 7 = T7 at *
    go_enter Try.func7, Try.ntmps7
    go_wp2_with fail
    refine HBG.out.mono ?_
    rintro e w ⟨rfl, rfl⟩
    go_wp2
    go_loopw [5, 6] (fun v i wr => ∃ k q : Nat, k + q = l.length ∧ i = .int .i64 ((q : Int) - 1) ∧ wr.ownsRow w.heap.size 39 2 v k (shV (l.reverse.take k)) ∧ Below w.heap.size w wr) (fun _ i _ => (intOf i + 1).toNat)
    case atStart => exact ⟨0, l.length, by omega, by go_num, World.ownsRow_nil _ _ _ _, Below.refl _ _⟩
    case round =>
      obtain ⟨k, q, hkq, rfl, hown, hb⟩ := hrel
      by_cases h0 : 0 < q
      · obtain ⟨q, rfl⟩ : ∃ j, q = j + 1 := ⟨q - 1, by omega⟩
        have e1 : ((q + 1 : Nat) : Int) - 1 = (q : Int) := by omega
        rw [e1]
        have hq : q < l.length := by omega
        obtain ⟨b, off, rfl, hx, hy⟩ := sl_sh (hs.keep hb) hq
        have HSN := Lib.hid (HREV.out k q hkq)
        obtain ⟨⟨x', y'⟩, hxy⟩ : ∃ s, l.getD q sh0 = s := ⟨_, rfl⟩
        rw [hxy] at HSN hx hy
        dsimp only at HSN hx hy
        have hsz := hb.size
        have HKQ := Lib.hid hkq
        have hk3 : k ≤ 300 := by omega
        clear hxy hkq
        go_wp2_with (first
          | (at_builtin; refine wpList_append_own _ rfl _ _ 22 rfl w.heap.size 39 i1 (.agg #[.int .i64 0, .string ⟨#[]⟩]) 2 24 Try.underlying22 hI1 hy0 hy1 hy2 rfl (by decide) _ _ _ rfl (hown.alloc _) ⟨wr.heap.size, 0, none⟩ 1 1 [.int .i64 x', .string y'] rfl rfl ?c1 ?c2 ?c3 ?c4 ?c5 ?_)
          | go_in)
        case c1 =>
          intro j u hj
          match j, hj with
          | 0, hj => simp at hj; subst hj; simp [Addr.add]
          | 1, hj => simp at hj; subst hj; simp [Addr.add]
        case c2 =>
          intro u hu
          simp at hu
          rcases hu with rfl | rfl <;> rfl
        case c3 => unfold maxLen; omega
        case c4 => omega
        case c5 => simp; omega
        · intro v' w3 hown' hgrow _
          have hb1 := own_below (hown.alloc _) (hb.al _) hgrow
          rw [HSN.out] at hown'
          clear hown hgrow hb
          go_wp2
          go_roundw
          case rel => exact ⟨k + 1, q, by have := HKQ.out; omega, by go_num, hown', hb1⟩
          case measure => simp [intOf]
      · obtain rfl : q = 0 := by omega
        obtain rfl : k = l.length := by omega
        rw [HRT.out] at hown
        obtain ⟨A2, c2, rfl, hs2⟩ := own_sl2 hown
        replace hs := hs.keep hb
        clear hown
        go_wp2_with fail
        refine (HAT.out _ hs).mono ?_
        rintro e w1 ⟨rfl, hb1⟩
        replace hs := hs.keep hb1
        replace hs2 := hs2.keep hb1
        replace hb := hb.next' hb1
        clear hb1
        unfold strE
        go_wp2_with fail
        refine (HAR.out _ _ _ hs2).mono ?_
        rintro e w2 ⟨rfl, hb2⟩
        replace hs := hs.keep hb2
        replace hb := hb.next' hb2
        clear hb2 hs2
        unfold strE
        go_wp2
        go_loopw [11] (fun i wr => ∃ k : Nat, k ≤ l.length ∧ i = .int .i64 (k : Int) ∧ Hid (∀ j, j < k → (l.getD j sh0).1 ≠ x) ∧ Sl wr A (shV l) ∧ Below w.heap.size w wr) (fun i _ => l.length - (intOf i).toNat)
        case atStart => exact ⟨0, by omega, rfl, Lib.hid (fun j hj => by omega), hs, hb⟩
        case round =>
          clear hs hb
          obtain ⟨k, hk, rfl, hd, hs, hb⟩ := hrel
          by_cases hlt : k < l.length
          · obtain ⟨b, off, rfl, hx, hy⟩ := sl_sh hs hlt
            have HO := Lib.hid (HOWN.out k hlt)
            have HN : Hid ((l.getD k sh0).1 ≠ x → ∀ j, j < k + 1 → (l.getD j sh0).1 ≠ x) := Lib.hid (fun h j hj => by
              by_cases e : j = k
              · rw [e]; exact h
              · exact hd.out j (by omega))
            generalize (l.getD k sh0).1 = x' at *
            generalize (l.getD k sh0).2 = y' at *
            by_cases hxx : x' = x
            · have hT := HO.out hxx
              subst hxx
              subst hT
              go_wp2_with fail
              refine (shares_any _).mono ?_
              rintro e w9 ⟨rfl, hb9⟩
              replace hy := (hb9.cell (p := ⟨b, off + k * 2 + 1, none⟩) (block_lt_of_cell hy)).trans hy
              go_wp2
              go_ret
              exact ⟨rfl, hb.next' hb9⟩
            · have t1 : (x' == x) = false := by simpa using hxx
              have H := Lib.hid (HN.out hxx)
              clear hxx
              go_wp2
              go_roundw
              case rel => exact ⟨k + 1, by omega, by go_num, H, hs, hb⟩
              case measure => simp [intOf]; omega
          · obtain rfl : k = l.length := by omega
            have HMM := Lib.hid (HM7.out hd.out)
            go_wp2_with fail
            refine (HOW.out _ hs).mono ?_
            rintro e w3 ⟨⟨v, rfl, hown⟩, hb3⟩
            replace hown := own_base hown hb.size
            replace hs := hs.keep hb3
            replace hb := hb.next' hb3
            have hsz := hb.size
            clear hb3 HOWN hd
            have hl8i : ¬ (255 : Int) < ((l.length : Int) + 1) := by omega
            go_wp2_with (first
              | (at_builtin; refine wpList_append_own _ rfl _ _ 22 rfl w.heap.size 39 i1 (.agg #[.int .i64 0, .string ⟨#[]⟩]) 2 24 Try.underlying22 hI1 hy0 hy1 hy2 rfl (by decide) _ _ _ rfl (hown.alloc _) ⟨w3.heap.size, 0, none⟩ 1 1 [.int .i64 x, .string T] rfl rfl ?c1 ?c2 ?c3 ?c4 ?c5 ?_)
              | go_in)
            case c1 =>
              intro j u hj
              match j, hj with
              | 0, hj => simp at hj; subst hj; simp [Addr.add]
              | 1, hj => simp at hj; subst hj; simp [Addr.add]
            case c2 =>
              intro u hu
              simp at hu
              rcases hu with rfl | rfl <;> rfl
            case c3 => unfold maxLen; omega
            case c4 => omega
            case c5 => simp; omega
            · intro v' w4 hown' hgrow _
              have hb4 := own_below (hown.alloc _) (hb.al _) hgrow
              rw [HSNO.out] at hown'
              obtain ⟨A3, c3, rfl, hs3⟩ := own_sl2 hown'
              have hs4 := HS0.out.keep hb4
              clear hown hgrow hown'
              go_wp2_with fail
              refine (HMM.out _ _ _ hs3).mono ?_
              rintro e w5 ⟨rfl, hb5⟩
              unfold strE
              replace hs4 := hs4.keep hb5
              replace hb4 := hb4.next' hb5
              go_wp2_with fail
              refine (HA7.out _ hs4).mono ?_
              rintro e w6 ⟨rfl, hb6⟩
              unfold strE
              replace hb4 := hb4.next' hb6
              go_wp2_with fail
              refine (shares_any _).mono ?_
              rintro e w9 ⟨rfl, hb9⟩
              go_wp2
              go_ret
              exact ⟨rfl, hb4.next' hb9⟩
end Go.Proofs.Ytljckcegcfidoaa
