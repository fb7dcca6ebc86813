/-
  share: the contracts of At and Combine.
-/
import Derived.Test.YtljckcegcfidoaaShr6
import Derived.Test.YtljckcegcfidoaaPly8
namespace Go.Proofs.Ytljckcegcfidoaa
open Go.RowKit Go.Kx
set_option maxRecDepth 20000

def strE (r : ByteArray × Int) : Ending := .returned (.tuple #[.string r.1, .int .i64 r.2])
def atT (l : List Sh) (x : Int) : ByteArray := txt (accR (wgtsI (xsL l) x) (bsG l) l.length)
def atA (l : List Sh) (x : Int) : ByteArray × Int := if rightB l = true then (if dig x = true then (atT l x, 0) else (⟨#[]⟩, 1)) else (⟨#[]⟩, 90)
def combA (l : List Sh) : ByteArray × Int := if zeroB l = true then (⟨#[]⟩, 90) else atA l 0
theorem atA_yes {l : List Sh} {x : Int} (h : rightB l = true) (hx : dig x = true) : atA l x = (atT l x, 0) := by rw [atA, if_pos h, if_pos hx]
theorem allSh_digs {l : List Sh} (h : allSh l = true) : allI dig (xsL l) = true := allI_yes fun k hk => by
  rw [xsL_length] at hk
  rw [xsL_at l hk]
  exact (okSh_of (allSh_at h hk)).1
theorem okWt_of {l : List Sh} {x : Int} (h : rightB l = true) (hx : dig x = true) : okWt (xsL l) x = true := by
  obtain ⟨h1, h2, h3, h4⟩ := rightB_of h
  simp [okWt, xsL_length, h1, h2, hx, h4, allSh_digs h3]
theorem wgtsI_dig (xs : List Int) (x : Int) : allI dig (wgtsI xs x) = true := by
  rw [allI, List.all_eq_true]
  intro y hy
  obtain ⟨i, _, rfl⟩ := List.mem_map.1 hy
  exact dig_v _
set_option maxHeartbeats 4000000 in
theorem at_any (l : List Sh) (x : Int) (A : Option Addr) (c : Nat) (hl : l.length ≤ 9223372036854775807) (w : World) (hs : Sl w A (shV l)) :
    Calls Try.prog 17 #[.slice A l.length c, .int .i64 x] w fun e w' => e = strE (atA l x) ∧ Below w.heap.size w w' := by
  cases h1 : rightB l with
  | false =>
    have hr : atA l x = (⟨#[]⟩, 90) := by rw [atA, if_neg (by rw [h1]; simp)]
    rw [hr]
    have HRT := Lib.hid (right_any l A c hl w hs)
    rw [h1] at HRT
    clear h1 hr
    go_enter Try.func17, Try.ntmps17
    go_wp2_with fail
    refine HRT.out.mono ?_
    rintro e w1 ⟨rfl, hb⟩
    go_wp2
    go_ret2
    exact ⟨rfl, hb⟩
  | true =>
    have HRT := Lib.hid (right_any l A c hl w hs)
    rw [h1] at HRT
    by_cases hx0 : x < 0
    · have hr : atA l x = (⟨#[]⟩, 1) := by rw [atA, if_pos h1, if_neg (by simp [dig]; omega)]
      rw [hr]
      clear h1 hr
      go_enter Try.func17, Try.ntmps17
      go_wp2_with fail
      refine HRT.out.mono ?_
      rintro e w1 ⟨rfl, hb⟩
      go_wp2
      go_ret2
      exact ⟨rfl, hb⟩
    by_cases hx1 : 255 < x
    · have hr : atA l x = (⟨#[]⟩, 1) := by rw [atA, if_pos h1, if_neg (by simp [dig]; omega)]
      rw [hr]
      clear h1 hr
      go_enter Try.func17, Try.ntmps17
      go_wp2_with fail
      refine HRT.out.mono ?_
      rintro e w1 ⟨rfl, hb⟩
      go_wp2
      go_ret2
      exact ⟨rfl, hb⟩
    have hd : dig x = true := by simp [dig]; omega
    rw [atA_yes h1 hd]
    obtain ⟨p1, p2, p3, p4⟩ := rightB_of h1
    have hok : weightsA (xsL l) x = (wgtsI (xsL l) x, true) := by rw [weightsA, if_pos (okWt_of h1 hd)]
    have HAP := Lib.hid (fun V h => apart_any l p1 p2 p3 A c V h)
    have HWT : Hid (∀ V N, Sl V (some ⟨N, 0, none⟩) (intsI (xsL l)) → Calls Try.prog 34 #[.slice (some ⟨N, 0, none⟩) l.length l.length, .int .i64 x] V fun e w' => (∃ A c, e = .returned (.tuple #[.slice A l.length c, .bool true]) ∧ Sl w' A (intsI (wgtsI (xsL l) x))) ∧ Below V.heap.size V w') := Lib.hid (fun V N h => by
      have := weights_any (xsL l) x (some ⟨N, 0, none⟩) l.length (by rw [xsL_length]; exact hl) V h
      rw [hok, xsL_length] at this
      refine this.mono ?_
      rintro e w' ⟨⟨A, c, he, hsl⟩, hb⟩
      dsimp only at he
      rw [wgtsI_length, xsL_length] at he
      exact ⟨⟨A, c, he, hsl⟩, hb⟩)
    have HSM : Hid (∀ V g M A c, Fld V g → Rws V M l.length (bsG l) → Sl V A (intsI (wgtsI (xsL l) x)) → Calls Try.prog 35 #[.pointer (some ⟨g, 0, none⟩), .slice (some ⟨M, 0, none⟩) l.length l.length, .slice A l.length c] V
        fun e w' => e = .returned (.agg (rowV (accR (wgtsI (xsL l) x) (bsG l) l.length))) ∧ Below V.heap.size V w') := Lib.hid (fun V g M A c hf hr hs => ssum_any g M l.length (bsG l) _ A c (by rw [wgtsI_length, xsL_length]) p2 (wgtsI_dig _ _) V hf hr hs)
    have HTX := Lib.hid (fun V => text_any (accR (wgtsI (xsL l) x) (bsG l) l.length) V)
    clear h1 hok p1 p2 p3 p4 hd
    have hE : Hid (strE (atT l x, 0) = .returned (.tuple #[.string (txt (accR (wgtsI (xsL l) x) (bsG l) l.length)), .int .i64 0])) := Lib.hid rfl
    generalize txt (accR (wgtsI (xsL l) x) (bsG l) l.length) = r at *
    generalize rowV (accR (wgtsI (xsL l) x) (bsG l) l.length) = d at *
    generalize wgtsI (xsL l) x = ws at *
    go_enter Try.func17, Try.ntmps17
    go_wp2_with fail
    refine HRT.out.mono ?_
    rintro e w1 ⟨rfl, hb⟩
    go_wp2_with fail
    refine (HAP.out _ (hs.keep hb)).mono ?_
    rintro e w2 ⟨⟨N, M, rfl, hNM, hN, hM, hsx, hrw⟩, hb2⟩
    replace hb := hb.next' hb2
    clear hb2
    go_wp2_with fail
    refine (HWT.out _ N hsx).mono ?_
    rintro e w3 ⟨⟨B, cB, rfl, hsw⟩, hb3⟩
    replace hrw := hrw.keep hb3
    replace hb := hb.next' hb3
    clear hb3 hsx
    go_wp2_with fail
    refine (new_any _).mono ?_
    rintro e w4 ⟨rfl, hf, hb4⟩
    generalize w3.heap.size = g at hf ⊢
    replace hrw := hrw.keep hb4
    replace hsw := hsw.keep hb4
    replace hb := hb.next' hb4
    go_wp2_with fail
    refine (HSM.out _ g M B cB hf hrw hsw).mono ?_
    rintro e w5 ⟨rfl, hb5⟩
    replace hb := hb.next' hb5
    go_wp2_with fail
    refine (HTX.out _).mono ?_
    rintro e w6 ⟨rfl, hb6⟩
    replace hb := hb.next' hb6
    go_wp2
    go_ret2
    exact ⟨hE.out.symm, hb⟩
set_option maxHeartbeats 1000000 in
theorem combine_any (l : List Sh) (A : Option Addr) (c : Nat) (hl : l.length ≤ 9223372036854775807) (w : World) (hs : Sl w A (shV l)) :
    Calls Try.prog 15 #[.slice A l.length c] w fun e w' => e = strE (combA l) ∧ Below w.heap.size w w' := by
  have HZ := Lib.hid (shows_any l A c hl w hs)
  cases h1 : zeroB l with
  | true =>
    have hr : combA l = (⟨#[]⟩, 90) := by rw [combA, if_pos h1]
    rw [hr]
    rw [h1] at HZ
    clear h1 hr
    go_enter Try.func15, Try.ntmps15
    go_wp2_with fail
    refine HZ.out.mono ?_
    rintro e w1 ⟨rfl, hb⟩
    go_wp2
    go_ret2
    exact ⟨rfl, hb⟩
  | false =>
    have hr : combA l = atA l 0 := by rw [combA, if_neg (by rw [h1]; simp)]
    rw [hr]
    rw [h1] at HZ
    have HAT := Lib.hid (fun V h => at_any l 0 A c hl V h)
    obtain ⟨⟨r, t⟩, hrt⟩ : ∃ r, atA l 0 = r := ⟨_, rfl⟩
    rw [hrt] at HAT ⊢
    clear h1 hr hrt
    go_enter Try.func15, Try.ntmps15
    go_wp2_with fail
    refine HZ.out.mono ?_
    rintro e w1 ⟨rfl, hb⟩
    go_wp2_with fail
    refine (HAT.out _ (hs.keep hb)).mono ?_
    rintro e w2 ⟨rfl, hb2⟩
    unfold strE
    go_wp2
    go_ret2
    exact ⟨rfl, hb.next' hb2⟩
end Go.Proofs.Ytljckcegcfidoaa
