/-
  keyholelaw08.PolyThrough: the walk.
-/
import Derived.Test.YtibmmglpeeabpaaPly11
namespace Go.Proofs.Ytibmmglpeeabpaa
open Go.RowKit Go.Kx
set_option maxRecDepth 20000

def ysV (l xs : List Int) : List Int := xs.map fun a => ((evalA l a).1 : Int)
theorem ysV_length (l xs : List Int) : (ysV l xs).length = xs.length := by simp [ysV]
theorem ysV_snoc (l xs : List Int) (k : Nat) (hk : k < xs.length) : intsI ((ysV l xs).take k) ++ [Value.int .i64 ((evalA l (xs.getD k 0)).1 : Nat)] = intsI ((ysV l xs).take (k + 1)) := by
  rw [List.take_add_one, intsI_snoc]
  congr 2
  simp [ysV, List.getD, List.getElem?_eq_getElem hk]
theorem evalA_ok {l : List Int} {x : Int} (h : (evalA l x).2 = true) : l.length ≤ 255 ∧ allI dig l = true ∧ dig x = true ∧ evalA l x = ((Gf.ev (gs l) (toG x)).v, true) := by
  unfold evalA at h ⊢
  split at h
  · rename_i hh
    rw [if_pos hh]
    exact ⟨hh.1, hh.2.1, hh.2.2, rfl⟩
  · cases h
theorem through_law {l xs : List Int} {x : Int} (h1 : l.length ≤ xs.length) (h2 : xs.length ≤ 20) (hok : ∀ j, j < xs.length → (evalA l (xs.getD j 0)).2 = true) :
    throughA xs (ysV l xs) x = if placesB xs = true ∧ (evalA l x).2 = true then ((evalA l x).1, true) else (0, false) := by
  by_cases hp : placesB xs = true ∧ (evalA l x).2 = true
  · rw [if_pos hp]
    obtain ⟨hp, he⟩ := hp
    obtain ⟨hl, hd, hx, he⟩ := evalA_ok he
    rw [he]
    simp only [placesB, Bool.and_eq_true, decide_eq_true_eq] at hp
    obtain ⟨⟨⟨p1, p2⟩, p3⟩, p4⟩ := hp
    have hys : allI dig (ysV l xs) = true := allI_yes fun k hk => by
      rw [ysV_length] at hk
      obtain ⟨_, _, _, e⟩ := evalA_ok (hok k hk)
      have : (ysV l xs).getD k 0 = ((Gf.ev (gs l) (toG (xs.getD k 0))).v : Int) := by
        have e2 : (ysV l xs).getD k 0 = ((evalA l (xs.getD k 0)).1 : Int) := by simp [ysV, List.getD, List.getElem?_eq_getElem hk]
        rw [e2, e]
      rw [this]
      exact dig_v _
    have hT : okT xs (ysV l xs) x = true := by simp [okT, okWt, p1, p2, p3, p4, hx, hys, ysV_length]
    rw [throughA, if_pos hT]
    have hg : gs (ysV l xs) = (gs xs).map (Gf.ev (gs l)) := by
      unfold gs ysV
      rw [List.map_map, List.map_map]
      refine List.map_congr_left fun a ha => ?_
      obtain ⟨j, hj, rfl⟩ := List.getElem_of_mem ha
      have := hok j hj
      rw [List.getD, List.getElem?_eq_getElem hj] at this
      obtain ⟨_, _, _, e⟩ := evalA_ok this
      show toG ((evalA l xs[j]).1 : Int) = _
      rw [show evalA l xs[j] = _ from e]
      exact toG_of _
    rw [thI_thr (ysV_length l xs), hg]
    have hz : (gs xs).zip ((gs xs).map (Gf.ev (gs l))) = (gs xs).map fun a => (a, Gf.ev (gs l) a) := by
      induction gs xs with
      | nil => rfl
      | cons a r ih => rw [List.map_cons, List.zip_cons_cons, ih, List.map_cons]
    rw [hz, Gf.thr_ev _ _ (gs_nodup p3 p4) (by rw [gs_length, gs_length]; exact h1)]
  · rw [if_neg hp]
    refine throughA_no ?_
    cases hT : okT xs (ysV l xs) x with
    | false => rfl
    | true =>
      simp only [okT, okWt, Bool.and_eq_true, decide_eq_true_eq] at hT
      obtain ⟨⟨⟨⟨⟨⟨p1, p2⟩, p3⟩, hx⟩, p4⟩, _⟩, _⟩ := hT
      refine absurd ⟨by simp [placesB, p1, p2, p3, p4], ?_⟩ hp
      obtain ⟨hl, hd, _, _⟩ := evalA_ok (hok 0 (by omega))
      simp [evalA, hl, hd, hx]
set_option maxHeartbeats 4000000 in
theorem through_yes (l xs : List Int) (x : Int) (A B : Option Addr) (c d : Nat) (hl : l.length ≤ 9223372036854775807) (hl2 : xs.length ≤ 9223372036854775807) (w : World) (hs : Sl w A (intsI l)) (hs2 : Sl w B (intsI xs)) :
    Calls Try.prog 3 #[.slice A l.length c, .slice B xs.length d, .int .i64 x] w fun e w' => e = .returned (.bool true) ∧ Below w.heap.size w w' := by
  by_cases h1 : xs.length < l.length
  · go_enter Try.func3, Try.ntmps3
    go_wp2_with fail
    refine (polys_any _).mono ?_
    rintro e w1 ⟨rfl, hb⟩
    go_wp2
    go_ret
    exact ⟨rfl, hb⟩
  by_cases h2 : 20 < xs.length
  · go_enter Try.func3, Try.ntmps3
    go_wp2_with fail
    refine (polys_any _).mono ?_
    rintro e w1 ⟨rfl, hb⟩
    go_wp2
    go_ret
    exact ⟨rfl, hb⟩
  obtain ⟨i0, hi, hz0, hz1, hz2⟩ := info_parts int_info
  have HLAW := Lib.hid (fun hok => through_law (x := x) (by omega : l.length ≤ xs.length) (by omega) hok)
  have HYL := Lib.hid (ysV_length l xs)
  have HYS := Lib.hid (ysV_snoc l xs)
  generalize ysV l xs = ys at *
  go_enter Try.func3, Try.ntmps3
  go_wp2
  go_loopw [7, 8] (fun v i wr => ∃ k : Nat, i = .int .i64 k ∧ k ≤ xs.length ∧ Hid (∀ j, j < k → (evalA l (xs.getD j 0)).2 = true) ∧ wr.ownsRow w.heap.size 3 1 v k (intsI (ys.take k)) ∧ Below w.heap.size w wr) (fun _ i _ => xs.length - (intOf i).toNat)
  case atStart => exact ⟨0, rfl, by omega, Lib.hid (fun j hj => by omega), World.ownsRow_nil _ _ _ _, Below.refl _ _⟩
  case round =>
    obtain ⟨k, rfl, hk, hd, hown, hb⟩ := hrel
    by_cases hlt : k < xs.length
    · obtain ⟨b, off, rfl, hc⟩ := sl_int (hs2.keep hb) hlt
      have hS := Lib.hid (HYS.out k hlt)
      have hD2 : Hid ((evalA l (xs.getD k 0)).2 = true → ∀ j, j < k + 1 → (evalA l (xs.getD j 0)).2 = true) := Lib.hid (fun h j hj => by
        by_cases e : j = k
        · rw [e]; exact h
        · exact hd.out j (by omega))
      generalize xs.getD k 0 = z at *
      obtain ⟨⟨y, t⟩, hy⟩ : ∃ p, evalA l z = p := ⟨_, rfl⟩
      have HE := Lib.hid (eval_any l z A c hl wr (hs.keep hb))
      rw [hy] at hS HE
      rw [hy] at hD2
      dsimp only at hS hD2
      clear hy
      cases t with
      | false =>
        go_wp2_with fail
        refine HE.out.mono ?_
        rintro e w2 ⟨rfl, hb2⟩
        replace hb := hb.next' hb2
        unfold two
        go_wp2_with fail
        refine (polys_any _).mono ?_
        rintro e w3 ⟨rfl, hb3⟩
        replace hb := hb.next' hb3
        go_wp2
        go_ret
        exact ⟨rfl, hb⟩
      | true =>
        go_wp2_with fail
        refine HE.out.mono ?_
        rintro e w2 ⟨rfl, hb2⟩
        replace hb := hb.next' hb2
        replace hown := own_keep hown hb2
        clear hb2 HE
        unfold two
        go_wp2_with (first
          | (at_builtin; refine wpList_append_own _ rfl _ _ 22 rfl w.heap.size 3 i0 (.int .i64 0) 1 8 Try.underlying22 hi hz0 hz1 hz2 rfl (by decide) _ _ _ rfl (hown.alloc _) ⟨w2.heap.size, 0, none⟩ 1 1 [.int .i64 (y : Int)] rfl rfl ?c1 ?c2 ?c3 ?c4 ?c5 ?_)
          | go_in)
        case c1 =>
          intro j u hj
          match j, hj with
          | 0, hj => simp at hj; subst hj; simp [Addr.add]
        case c2 => intro u hu; simp at hu; subst hu; rfl
        case c3 => unfold maxLen; omega
        case c4 => omega
        case c5 => have h1 := hb.size; simp; omega
        · intro v' w3 hown' hgrow _
          have hb1 := own_below (hown.alloc _) (hb.al _) hgrow
          rw [hS.out] at hown'
          clear hown hgrow hb
          go_wp2
          go_roundw
          case rel => exact ⟨k + 1, by go_num, by omega, Lib.hid (hD2.out (by trivial)), hown', hb1⟩
          case measure => simp [intOf]; omega
    · obtain rfl : k = xs.length := by omega
      have hlaw := HLAW.out hd.out
      have HLW := Lib.hid hlaw
      clear hlaw
      obtain ⟨C, cc, rfl, hs3⟩ := own_sl hown
      have hyt : ys.take xs.length = ys := List.take_of_length_le (by rw [HYL.out]; exact Nat.le_refl _)
      rw [hyt] at hs3
      have HE := Lib.hid (eval_any l x A c hl wr (hs.keep hb))
      obtain ⟨⟨a, e1⟩, he⟩ : ∃ p, evalA l x = p := ⟨_, rfl⟩
      obtain ⟨⟨b1, f⟩, hf⟩ : ∃ p, throughA xs ys x = p := ⟨_, rfl⟩
      obtain ⟨pb, hpb⟩ : ∃ p, placesB xs = p := ⟨_, rfl⟩
      rw [he, hf, hpb] at HLW
      rw [he] at HE
      have HT : Hid (∀ V, Sl V B (intsI xs) → Sl V C (intsI ys) → Calls Try.prog 9 #[.slice B xs.length d, .slice C xs.length cc, .int .i64 x] V fun e w' => e = two (b1, f) ∧ Below V.heap.size V w') := Lib.hid (fun V h1 h2 => by
        have := through_any xs ys x B C d cc hl2 (by rw [HYL.out]; exact hl2) V h1 h2
        rw [hf, HYL.out] at this
        exact this)
      have HPL : Hid (∀ V, Sl V B (intsI xs) → Calls Try.prog 10 #[.slice B xs.length d] V fun e w' => e = .returned (.bool pb) ∧ Below V.heap.size V w') := Lib.hid (fun V h1 => by
        have := places_any xs B d hl2 V h1
        rw [hpb] at this
        exact this)
      clear he hf hpb hown hyt
      replace hs2 := hs2.keep hb
      dsimp only at HLW
      cases pb <;> cases e1
      all_goals
        have hlw := HLW.out
        simp at hlw
        obtain ⟨rfl, rfl⟩ := hlw
        clear HLW
        go_wp2_with fail
        refine HE.out.mono ?_
        rintro e w2 ⟨rfl, hb2⟩
        replace hb := hb.next' hb2
        replace hs2 := hs2.keep hb2
        replace hs3 := hs3.keep hb2
        clear hb2
        unfold two
        go_wp2_with fail
        refine (HT.out _ hs2 hs3).mono ?_
        rintro e w3 ⟨rfl, hb3⟩
        replace hb := hb.next' hb3
        replace hs2 := hs2.keep hb3
        clear hb3
        unfold two
        go_wp2_with fail
        refine (HPL.out _ hs2).mono ?_
        rintro e w4 ⟨rfl, hb4⟩
        replace hb := hb.next' hb4
        clear hb4
        go_wp2_with fail
        refine (polys_any _).mono ?_
        rintro e w5 ⟨rfl, hb5⟩
        replace hb := hb.next' hb5
        go_wp2
        go_ret
        exact ⟨rfl, hb⟩
end Go.Proofs.Ytibmmglpeeabpaa
