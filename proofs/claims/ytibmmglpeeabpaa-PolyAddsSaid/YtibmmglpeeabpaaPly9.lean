/-
  poly: the contracts of Through's closure and of Through.
-/
import Derived.Test.YtibmmglpeeabpaaPly8
import Derived.Deep.QuietTactic
import Derived.BigQuiet
namespace Go.Proofs.Ytibmmglpeeabpaa
open Go.RowKit Go.Kx
set_option maxRecDepth 20000

/-- What Through's closure needs. -/
def ThBox (w : World) (N M g : Nat) (ws : List Int) (A : Option Addr) (c : Nat) : Prop := Fld w g ∧ w.cell? ⟨N, 0, none⟩ = some (.pointer (some ⟨g, 0, none⟩)) ∧ w.cell? ⟨M, 0, none⟩ = some (.slice A ws.length c) ∧ Sl w A (intsI ws)
theorem ThBox.keep {w w' : World} {N M g : Nat} {ws : List Int} {A : Option Addr} {c : Nat} (h : ThBox w N M g ws A c) (hb : Below w.heap.size w w') : ThBox w' N M g ws A c :=
  ⟨h.1.keep hb, (hb.cell (p := ⟨N, 0, none⟩) (block_lt_of_cell h.2.1)).trans h.2.1, (hb.cell (p := ⟨M, 0, none⟩) (block_lt_of_cell h.2.2.1)).trans h.2.2.1, h.2.2.2.keep hb⟩
set_option maxHeartbeats 1000000 in
theorem throughStep_any (N M g : Nat) (ws : List Int) (A : Option Addr) (c : Nat) (s y : Int) (k : Nat) (hk : k < ws.length) (w : World) (h : ThBox w N M g ws A c) :
    Calls Try.prog 23 #[.int .i64 s, .int .i64 k, .int .i64 y, .pointer (some ⟨N, 0, none⟩), .pointer (some ⟨M, 0, none⟩)] w
      fun e w' => e = .returned (.int .i64 ((addA s ((mulA y (ws.getD k 0)).1 : Nat)).1 : Nat)) ∧ Below w.heap.size w w' := by
  obtain ⟨hf, hN, hM, hs⟩ := h
  obtain ⟨b, off, rfl, hc⟩ := sl_int hs hk
  clear hs
  generalize ws.getD k 0 = v at *
  obtain ⟨p, hp⟩ : ∃ p, (mulA y v).1 = p := ⟨_, rfl⟩
  have HT : Hid (∀ n, Calls Try.prog 22 #[.pointer (some ⟨g, 0, none⟩), .int .i64 y, .int .i64 v] (w.drewN n) fun e w' => e = .returned (.int .i64 (p : Nat)) ∧ ∃ m, w' = (w.drewN n).drewN m) := Lib.hid fun n => by
    have := ptimes_any g y v (w.drewN n) (hf.keep (Below.drewN0 _ _))
    rw [hp] at this
    exact this
  rw [hp]
  clear hp
  obtain ⟨q, hq⟩ : ∃ q, (addA s (p : Nat)).1 = q := ⟨_, rfl⟩
  have HP : Hid (∀ V, Calls Try.prog 21 #[.int .i64 s, .int .i64 p] V fun e w' => e = .returned (.int .i64 (q : Nat)) ∧ w' = V) := Lib.hid fun V => by
    have := pplus_any s p V
    rw [hq] at this
    exact this
  rw [hq]
  clear hq
  go_enter Try.func23, Try.ntmps23
  go_wp2
  go_quiet (first
    | (go_at_call 22; exact Calls.quiet_of (HT.out _))
    | (go_at_call 21; exact Calls.quiet_of_same (HP.out _)))
  go_wp2
  go_ret
  exact ⟨rfl, Below.drewN0 _ _⟩
theorem throughA_no {xs ys : List Int} {x : Int} (h : okT xs ys x = false) : throughA xs ys x = (0, false) := by rw [throughA, if_neg (by rw [h]; simp)]
set_option maxHeartbeats 2000000 in
theorem through_any (xs ys : List Int) (x : Int) (A B : Option Addr) (c d : Nat) (hl : xs.length ≤ 9223372036854775807) (hl2 : ys.length ≤ 9223372036854775807) (w : World) (hs : Sl w A (intsI xs)) (hs2 : Sl w B (intsI ys)) :
    Calls Try.prog 9 #[.slice A xs.length c, .slice B ys.length d, .int .i64 x] w fun e w' => e = two (throughA xs ys x) ∧ Below w.heap.size w w' := by
  have HW := Lib.hid (weights_any xs x A c hl w hs)
  cases h1 : okWt xs x with
  | false =>
    rw [throughA_no (by simp [okT, h1])]
    rw [weightsA_no h1] at HW
    go_enter Try.func9, Try.ntmps9
    go_wp2_with fail
    refine HW.out.mono ?_
    rintro e w1 ⟨⟨A1, c1, rfl, hs1⟩, hb1⟩
    replace hb1 := hb1.al (.cells #[.slice A1 ([] : List Int).length c1] 22)
    go_wp2
    go_ret2
    exact ⟨rfl, hb1⟩
  | true =>
    have hok : weightsA xs x = (wgtsI xs x, true) := by rw [weightsA, if_pos h1]
    rw [hok] at HW
    have HWL := Lib.hid (wgtsI_length xs x)
    by_cases h2 : ys.length = xs.length
    · cases h3 : allI dig ys with
      | false =>
        have t1 : ((ys.length : Int) != (xs.length : Int)) = false := by simp; omega
        rw [throughA_no (by simp [okT, h3])]
        clear h2
        go_enter Try.func9, Try.ntmps9
        go_wp2_with fail
        refine HW.out.mono ?_
        rintro e w1 ⟨⟨A1, c1, rfl, hs1⟩, hb1⟩
        dsimp only
        rw [HWL.out]
        replace hs2 := (hs2.keep hb1).keep (Below.alloc0 w1 (.cells #[.slice A1 xs.length c1] 22))
        replace hb1 := hb1.al (.cells #[.slice A1 xs.length c1] 22)
        go_wp2_with fail
        generalize World.alloc w1 _ = W1 at *
        refine (areDigits_any ys B d hl2 _ hs2).mono ?_
        rintro e W1 ⟨rfl, rfl⟩
        go_wp2
        go_ret2
        exact ⟨rfl, hb1⟩
      | true =>
        have hr : throughA xs ys x = ((thI xs ys x xs.length).v, true) := by rw [throughA, if_pos (by simp [okT, h1, h2, h3])]
        rw [hr]
        have hmf : ∀ (fn : Fn) (first cap : Array Value) (w : World), (Instr.makeFunc fn first cap).run Try.prog w = .ok (.func fn first cap) w := fun _ _ _ _ => rfl
        have HST : Hid (∀ k, k < ys.length → (addA ((thI xs ys x k).v : Nat) ((mulA (ys.getD k 0) ((wgtsI xs x).getD k 0)).1 : Nat)).1 = (thI xs ys x (k + 1)).v) := Lib.hid fun k hk => by
          have e : mulA (ys.getD k 0) ((wgtI xs k x).v : Nat) = ((toG (ys.getD k 0) * wgtI xs k x).v, true) := by
            have := mulA_G (toG (ys.getD k 0)) (wgtI xs k x)
            rwa [toG_v (allI_at h3 hk)] at this
          rw [wgtsI_at (by omega), e, thI_succ, addA_G]
        have h00 : Hid (((thI xs ys x 0).v : Int) = 0) := Lib.hid rfl
        have HWY : Hid ((wgtsI xs x).length = ys.length) := Lib.hid (by rw [HWL.out, h2])
        have t1 : ((ys.length : Int) != (xs.length : Int)) = false := by simp; omega
        have hend : Hid ((thI xs ys x ys.length).v = (thI xs ys x xs.length).v) := Lib.hid (by rw [h2])
        clear h2
        go_enter Try.func9, Try.ntmps9
        go_wp2_with fail
        refine HW.out.mono ?_
        rintro e w1 ⟨⟨A1, c1, rfl, hs1⟩, hb1⟩
        dsimp only at hs1 ⊢
        rw [HWL.out]
        have hk1 := Below.alloc0 w1 (.cells #[.slice A1 xs.length c1] 22)
        have hc1 : (w1.alloc (.cells #[.slice A1 xs.length c1] 22)).cell? ⟨w1.heap.size, 0, none⟩ = some (.slice A1 xs.length c1) := (cell_of_row _ _ _ _ _ _ (heap_alloc_new w1 _)).trans rfl
        replace hs2 := (hs2.keep hb1).keep hk1
        replace hs1 := hs1.keep hk1
        replace hb1 := hb1.next' hk1
        clear hk1 HW
        go_wp2_with fail
        generalize World.alloc w1 _ = W1 at *
        generalize w1.heap.size = M at *
        refine (areDigits_any ys B d hl2 _ hs2).mono ?_
        rintro e W1 ⟨rfl, rfl⟩
        go_wp2_with fail
        refine (new_any _).mono ?_
        rintro e w2 ⟨rfl, hf, hb2⟩
        generalize W1.heap.size = g at hf ⊢
        replace hc1 := (hb2.cell (p := ⟨M, 0, none⟩) (block_lt_of_cell hc1)).trans hc1
        replace hs2 := hs2.keep hb2
        replace hs1 := hs1.keep hb2
        replace hb1 := hb1.next' hb2
        clear hb2
        have hk3 := Below.alloc0 w2 (.cells #[.pointer (some ⟨g, 0, none⟩)] 35)
        have hcf : (w2.alloc (.cells #[.pointer (some ⟨g, 0, none⟩)] 35)).cell? ⟨w2.heap.size, 0, none⟩ = some (.pointer (some ⟨g, 0, none⟩)) := (cell_of_row _ _ _ _ _ _ (heap_alloc_new w2 _)).trans rfl
        replace hc1 := (hk3.cell (p := ⟨M, 0, none⟩) (block_lt_of_cell hc1)).trans hc1
        replace hs2 := hs2.keep hk3
        replace hs1 := hs1.keep hk3
        replace hf := hf.keep hk3
        replace hb1 := hb1.next' hk3
        clear hk3
        go_wp2_with fail
        generalize World.alloc w2 _ = W3 at *
        generalize w2.heap.size = N at *
        have hbox : ThBox W3 N M g (wgtsI xs x) A1 c1 := ⟨hf, hcf, by rw [HWL.out]; exact hc1, hs1⟩
        have HFO := foldI_any 23 (fun _ _ => rfl) (.pointer (some ⟨N, 0, none⟩)) (.pointer (some ⟨M, 0, none⟩)) ys (fun k => ((thI xs ys x k).v : Nat)) B d hl2 W3 hs2 (fun k hk w1 hb => by
          have h := throughStep_any N M g (wgtsI xs x) A1 c1 ((thI xs ys x k).v : Nat) (ys.getD k 0) k (by rw [HWY.out]; exact hk) w1 (hbox.keep hb)
          rw [HST.out k hk] at h
          exact h)
        simp only [h00.out, hend.out] at HFO
        refine HFO.mono ?_
        rintro e w4 ⟨rfl, hb4⟩
        go_wp2
        go_ret2
        exact ⟨rfl, hb1.next' hb4⟩
    · rw [throughA_no (by simp [okT]; intro _ h; exact absurd h h2)]
      have t1 : ((ys.length : Int) != (xs.length : Int)) = true := by simp; omega
      clear h2
      go_enter Try.func9, Try.ntmps9
      go_wp2_with fail
      refine HW.out.mono ?_
      rintro e w1 ⟨⟨A1, c1, rfl, hs1⟩, hb1⟩
      dsimp only
      rw [HWL.out]
      replace hb1 := hb1.al (.cells #[.slice A1 xs.length c1] 22)
      go_wp2
      go_ret2
      exact ⟨rfl, hb1⟩
end Go.Proofs.Ytibmmglpeeabpaa
