/-
  keyholelaw08.PolyAdds: the walk.
-/
import Derived.Test.YtibmmglpeeabpaaPly11
import Derived.Deep.QuietTactic
import Derived.BigQuiet
namespace Go.Proofs.Ytibmmglpeeabpaa
open Go.RowKit Go.Kx
set_option maxRecDepth 20000

def sumV : List Int → List Int → List Int
  | a :: l, b :: m => ((addA a b).1 : Int) :: sumV l m
  | _, _ => []
theorem sumV_length : ∀ (l m : List Int), l.length = m.length → (sumV l m).length = l.length
  | [], [], _ => rfl
  | a :: l, b :: m, h => by simp [sumV, sumV_length l m (by simpa using h)]
  | [], b :: m, h => by simp at h
  | a :: l, [], h => by simp at h
theorem sumV_at : ∀ (l m : List Int) (k : Nat), l.length = m.length → k < l.length → (sumV l m)[k]? = some ((addA (l.getD k 0) (m.getD k 0)).1 : Int)
  | [], _, _, _, h => by simp at h
  | a :: l, [], _, h, _ => by simp at h
  | a :: l, b :: m, 0, _, _ => rfl
  | a :: l, b :: m, k + 1, h, hk => by
    have := sumV_at l m k (by simpa using h) (by simpa using hk)
    simpa [sumV] using this
theorem sumV_snoc (l m : List Int) (k : Nat) (h : l.length = m.length) (hk : k < l.length) : intsI ((sumV l m).take k) ++ [Value.int .i64 ((addA (l.getD k 0) (m.getD k 0)).1 : Nat)] = intsI ((sumV l m).take (k + 1)) := by
  rw [List.take_add_one, intsI_snoc, sumV_at l m k h hk]
  rfl
theorem addA_ok {a b : Int} (h : (addA a b).2 = true) : dig a = true ∧ dig b = true ∧ addA a b = ((toG a + toG b).v, true) := by
  have h0 : dig a = true ∧ dig b = true := by
    unfold addA at h
    split at h
    · assumption
    · cases h
  exact ⟨h0.1, h0.2, addA_dig h0.1 h0.2⟩
theorem sumV_gs : ∀ (l m : List Int), l.length = m.length → (∀ k, k < l.length → (addA (l.getD k 0) (m.getD k 0)).2 = true) → gs (sumV l m) = Gf.addL (gs l) (gs m) ∧ allI dig l = true ∧ allI dig m = true ∧ allI dig (sumV l m) = true
  | [], [], _, _ => ⟨rfl, rfl, rfl, rfl⟩
  | [], b :: m, h, _ => by simp at h
  | a :: l, [], h, _ => by simp at h
  | a :: l, b :: m, h, hok => by
    obtain ⟨d1, d2, e⟩ := addA_ok (hok 0 (by simp))
    obtain ⟨i1, i2, i3, i4⟩ := sumV_gs l m (by simpa using h) (fun k hk => by simpa using hok (k + 1) (by simpa using hk))
    have e' : addA a b = ((toG a + toG b).v, true) := e
    have d1' : dig a = true := d1
    have d2' : dig b = true := d2
    refine ⟨?_, ?_, ?_, ?_⟩
    · show toG ((addA a b).1 : Int) :: gs (sumV l m) = (toG a + toG b) :: Gf.addL (gs l) (gs m)
      rw [e', i1, toG_of]
    · show (dig a && allI dig l) = true
      rw [d1', i2]; rfl
    · show (dig b && allI dig m) = true
      rw [d2', i3]; rfl
    · show (dig ((addA a b).1 : Int) && allI dig (sumV l m)) = true
      rw [e', i4, dig_v]; rfl
theorem adds_law {l m : List Int} {x : Int} (h : l.length = m.length) (hle : l.length ≤ 255) (hok : ∀ k, k < l.length → (addA (l.getD k 0) (m.getD k 0)).2 = true) :
    (evalA l x = (0, false) ∧ evalA m x = (0, false) ∧ evalA (sumV l m) x = (0, false)) ∨ ∃ a b : Gf.G, evalA l x = (a.v, true) ∧ evalA m x = (b.v, true) ∧ evalA (sumV l m) x = ((a + b).v, true) := by
  obtain ⟨h1, h2, h3, h4⟩ := sumV_gs l m h hok
  have h5 := sumV_length l m h
  cases hx : dig x with
  | false => exact .inl ⟨by simp [evalA, hx], by simp [evalA, hx], by simp [evalA, hx]⟩
  | true =>
    refine .inr ⟨Gf.ev (gs l) (toG x), Gf.ev (gs m) (toG x), ?_, ?_, ?_⟩
    · rw [evalA, if_pos ⟨hle, h2, hx⟩]
    · rw [evalA, if_pos ⟨by omega, h3, hx⟩]
    · rw [evalA, if_pos ⟨by omega, h4, hx⟩, h1, Gf.ev_addL]
set_option maxHeartbeats 4000000 in
theorem adds_yes (l m : List Int) (x : Int) (A B : Option Addr) (c d : Nat) (hl : l.length ≤ 9223372036854775807) (hl2 : m.length ≤ 9223372036854775807) (w : World) (hs : Sl w A (intsI l)) (hs2 : Sl w B (intsI m)) :
    Calls Try.prog 5 #[.slice A l.length c, .slice B m.length d, .int .i64 x] w fun e w' => e = .returned (.bool true) ∧ Below w.heap.size w w' := by
  by_cases h1 : l.length = m.length
  rotate_left
  · have t1 : ((l.length : Int) != (m.length : Int)) = true := by simp; omega
    go_enter Try.func5, Try.ntmps5
    go_wp2_with fail
    refine (polys_any _).mono ?_
    rintro e w1 ⟨rfl, hb⟩
    go_wp2
    go_ret
    exact ⟨rfl, hb⟩
  have t1 : ((l.length : Int) != (m.length : Int)) = false := by simp; omega
  by_cases h2 : 255 < l.length
  · clear h1
    go_enter Try.func5, Try.ntmps5
    go_wp2_with fail
    refine (polys_any _).mono ?_
    rintro e w1 ⟨rfl, hb⟩
    go_wp2
    go_ret
    exact ⟨rfl, hb⟩
  obtain ⟨i0, hi, hz0, hz1, hz2⟩ := info_parts int_info
  have HLAW := Lib.hid (fun hok => adds_law (x := x) h1 (by omega) hok)
  have HYL := Lib.hid (sumV_length l m h1)
  have HYS := Lib.hid (fun k hk => sumV_snoc l m k h1 hk)
  have H1 := Lib.hid h1
  clear h1
  generalize sumV l m = ys at *
  go_enter Try.func5, Try.ntmps5
  go_wp2
  go_loopw [7, 8] (fun v i wr => ∃ k : Nat, i = .int .i64 k ∧ k ≤ l.length ∧ Hid (∀ j, j < k → (addA (l.getD j 0) (m.getD j 0)).2 = true) ∧ wr.ownsRow w.heap.size 3 1 v k (intsI (ys.take k)) ∧ Below w.heap.size w wr) (fun _ i _ => l.length - (intOf i).toNat)
  case atStart => exact ⟨0, rfl, by omega, Lib.hid (fun j hj => by omega), World.ownsRow_nil _ _ _ _, Below.refl _ _⟩
  case round =>
    obtain ⟨k, rfl, hk, hd, hown, hb⟩ := hrel
    by_cases hlt : k < l.length
    · obtain ⟨b, off, rfl, hc⟩ := sl_int (hs.keep hb) hlt
      have hltm : k < m.length := by have := H1.out; omega
      have hltm' : (k : Int) < (m.length : Int) := by omega
      obtain ⟨b2, off2, rfl, hc2⟩ := sl_int (hs2.keep hb) hltm
      have hS := Lib.hid (HYS.out k hlt)
      have hD2 : Hid ((addA (l.getD k 0) (m.getD k 0)).2 = true → ∀ j, j < k + 1 → (addA (l.getD j 0) (m.getD j 0)).2 = true) := Lib.hid (fun h j hj => by
        by_cases e : j = k
        · rw [e]; exact h
        · exact hd.out j (by omega))
      generalize l.getD k 0 = z at *
      generalize m.getD k 0 = z2 at *
      obtain ⟨⟨y, t⟩, hy⟩ : ∃ p, addA z z2 = p := ⟨_, rfl⟩
      have HE : Hid (∀ V, Calls Try.prog 12 #[.int .i64 z, .int .i64 z2] V fun e w' => e = two (y, t) ∧ w' = V) := Lib.hid (fun V => by rw [← hy]; exact fadd_any z z2 V)
      rw [hy] at hS
      rw [hy] at hD2
      dsimp only at hS hD2
      clear hy
      have hbD := fun n : Nat => hb.next' (Below.drewN0 wr n)
      have hoD := fun n : Nat => own_keep hown (Below.drewN0 wr n)
      clear hb hown
      cases t with
      | false =>
        go_wp2
        go_quiet ((go_at_call 12; exact Calls.quiet_of_same (HE.out _)))
        go_wp2_with fail
        refine (polys_any _).mono ?_
        rintro e w3 ⟨rfl, hb3⟩
        go_wp2
        go_ret
        exact ⟨rfl, (hbD _).next' hb3⟩
      | true =>
        go_wp2
        go_quiet ((go_at_call 12; exact Calls.quiet_of_same (HE.out _)))
        have hb := hbD nq
        have hown := hoD nq
        clear hbD hoD
        generalize wr.drewN nq = w2 at *
        go_wp2_with (first
          | (at_builtin; refine wpList_append_own _ rfl _ _ 22 rfl w.heap.size 3 i0 (.int .i64 0) 1 8 Try.underlying22 hi hz0 hz1 hz2 rfl (by decide) _ _ _ rfl (hown.alloc _) ⟨w2.heap.size, 0, none⟩ 1 1 [.int .i64 (y : Int)] rfl rfl ?c1 ?c2 ?c3 ?c4 ?c5 ?_)
          | go_in)
        case c1 =>
          intro j u hj
          match j, hj with
          | 0, hj => simp at hj; subst hj; simp [Addr.add]
        case c2 => intro u hu; simp at hu; subst hu; rfl
        case c3 => unfold maxLen; omega
        case c4 => omega
        case c5 => have h1 := hb.size; simp; omega
        · intro v' w3 hown' hgrow _
          have hb1 := own_below (hown.alloc _) (hb.al _) hgrow
          rw [hS.out] at hown'
          clear hown hgrow hb
          go_wp2
          go_roundw
          case rel => exact ⟨k + 1, by go_num, by omega, Lib.hid (hD2.out (by trivial)), hown', hb1⟩
          case measure => simp [intOf]; omega
    · obtain rfl : k = l.length := by omega
      have hlaw := HLAW.out hd.out
      obtain ⟨C, cc, rfl, hs3⟩ := own_sl hown
      have hyt : ys.take l.length = ys := List.take_of_length_le (by rw [HYL.out]; exact Nat.le_refl _)
      rw [hyt] at hs3
      replace hs := hs.keep hb
      replace hs2 := hs2.keep hb
      clear hyt hown
      have HE1 := Lib.hid (fun V h => eval_any l x A c hl V h)
      have HE2 := Lib.hid (fun V h => eval_any m x B d hl2 V h)
      have HE3 : Hid (∀ V, Sl V C (intsI ys) → Calls Try.prog 8 #[.slice C l.length cc, .int .i64 x] V fun e w' => e = two (evalA ys x) ∧ Below V.heap.size V w') := Lib.hid (fun V h => by
        have := eval_any ys x C cc (by rw [HYL.out]; exact hl) V h
        rw [HYL.out] at this
        exact this)
      rcases hlaw with ⟨q1, q2, q3⟩ | ⟨a, b, q1, q2, q3⟩
      · rw [q1] at HE1
        rw [q2] at HE2
        rw [q3] at HE3
        clear q1 q2 q3
        have q0 : addA (0 : Nat) (0 : Nat) = (0, true) := by decide +kernel
        have Q0 := Lib.hid q0
        clear q0
        go_wp2_with fail
        refine (HE1.out _ hs).mono ?_
        rintro e w2 ⟨rfl, hb2⟩
        replace hb := hb.next' hb2
        replace hs2 := hs2.keep hb2
        replace hs3 := hs3.keep hb2
        clear hb2
        unfold two
        go_wp2_with fail
        refine (HE2.out _ hs2).mono ?_
        rintro e w3 ⟨rfl, hb3⟩
        replace hb := hb.next' hb3
        replace hs3 := hs3.keep hb3
        clear hb3
        unfold two
        go_wp2_with fail
        refine (HE3.out _ hs3).mono ?_
        rintro e w4 ⟨rfl, hb4⟩
        replace hb := hb.next' hb4
        clear hb4
        unfold two
        go_wp2_with fail
        refine (fadd_any _ _ _).mono ?_
        first | rw [Q0.out] | rw [show addA 0 0 = (0, true) from Q0.out]
        rintro e w4 ⟨rfl, rfl⟩
        unfold two
        go_wp2_with fail
        refine (polys_any _).mono ?_
        rintro e w5 ⟨rfl, hb5⟩
        replace hb := hb.next' hb5
        go_wp2
        go_ret
        exact ⟨rfl, hb⟩
      · rw [q1] at HE1
        rw [q2] at HE2
        rw [q3] at HE3
        clear q1 q2 q3
        have q0 := addA_G a b
        generalize (a + b).v = s at *
        generalize a.v = av at *
        generalize b.v = bv at *
        have Q0 := Lib.hid q0
        clear q0
        go_wp2_with fail
        refine (HE1.out _ hs).mono ?_
        rintro e w2 ⟨rfl, hb2⟩
        replace hb := hb.next' hb2
        replace hs2 := hs2.keep hb2
        replace hs3 := hs3.keep hb2
        clear hb2
        unfold two
        go_wp2_with fail
        refine (HE2.out _ hs2).mono ?_
        rintro e w3 ⟨rfl, hb3⟩
        replace hb := hb.next' hb3
        replace hs3 := hs3.keep hb3
        clear hb3
        unfold two
        go_wp2_with fail
        refine (HE3.out _ hs3).mono ?_
        rintro e w4 ⟨rfl, hb4⟩
        replace hb := hb.next' hb4
        clear hb4
        unfold two
        go_wp2_with fail
        refine (fadd_any _ _ _).mono ?_
        first | rw [Q0.out] | rw [show addA 0 0 = (0, true) from Q0.out]
        rintro e w4 ⟨rfl, rfl⟩
        unfold two
        go_wp2_with fail
        refine (polys_any _).mono ?_
        rintro e w5 ⟨rfl, hb5⟩
        replace hb := hb.next' hb5
        go_wp2
        go_ret
        exact ⟨rfl, hb⟩
end Go.Proofs.Ytibmmglpeeabpaa
