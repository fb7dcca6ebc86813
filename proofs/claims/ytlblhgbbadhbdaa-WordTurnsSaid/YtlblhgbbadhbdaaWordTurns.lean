/-
  WordTurns, for every input: Xor twice, and Rot there and back, change nothing; the sum's order plays no part.
-/
import Derived.Test.YtlblhgbbadhbdaaRows
import Derived.Test.YtlblhgbbadhbdaaRef01
import Derived.Test.YtlblhgbbadhbdaaPost
namespace Go.Proofs.Ytlblhgbbadhbdaa
open Go.RowKit Go.Kx

theorem sl_vals {w : World} {A : Option Addr} {l m : List Value} (h : Sl w A l) (e : l = m) : Sl w A m := e ▸ h
theorem cut_lit (h : Bool) (l : List Nat) (e : cutL h ⟨#[1, 2, 3, 4]⟩ = l) (w : World) : Calls Try.prog 10 #[.string ⟨#[1, 2, 3, 4]⟩, .bool h] w fun e w' => ∃ b, e = .returned (.tuple #[.slice (some ⟨b, 0, none⟩) l.length l.length, .bool true]) ∧
     Sl w' (some ⟨b, 0, none⟩) (ints l) ∧ Below w.heap.size w w' := by
  have := cut_list ⟨#[1, 2, 3, 4]⟩ h w (by decide) (by decide)
  rw [e] at this
  exact this
theorem words_any (w : World) : Calls Try.prog 5 #[] w fun e w' => e = .returned (.bool true) ∧ Below w.heap.size w w' := by
  go_enter Try.func5, Try.ntmps5
  go_wp2_with fail
  refine (add_any (some ⟨w.heap.size, 0, none⟩) 2 [4294967295, 2] _ (by simp) (Sl.new _ _ _) (by simp)).mono ?_
  rintro e w1 ⟨rfl, rfl⟩
  have e1 : addL [4294967295, 2] = 1 := by decide
  simp only [e1]
  go_wp2_with fail
  refine (xor_any 12 10 (by omega) (by omega) _).mono ?_
  rintro e w2 ⟨rfl, hb2⟩
  go_wp2_with fail
  refine (and_any 12 10 (by omega) (by omega) _).mono ?_
  rintro e w3 ⟨rfl, hb3⟩
  go_wp2_with fail
  refine (rot_any 2147483649 1 (by omega) (by omega) _).mono ?_
  rintro e w4 ⟨rfl, hb4⟩
  have e4 : rotN 2147483649 1 = 3 := by decide
  simp only [e4]
  go_wp2_with fail
  refine (cut_lit true [16909060] (by decide) _).mono ?_
  rintro e w5 ⟨b5, rfl, hs5, hb5⟩
  go_wp2_with fail
  refine (cut_lit false [67305985] (by decide) _).mono ?_
  rintro e w6 ⟨b6, rfl, hs6, hb6⟩
  go_wp2_with fail
  refine (cut_none ⟨#[97, 98, 99]⟩ true _ (by decide) (by decide)).mono ?_
  rintro e w7 ⟨rfl, rfl⟩
  have hs5' := hs5.keep hb6
  clear hs5
  go_wp2_with fail
  refine (ints_b (some ⟨b5, 0, none⟩) (some ⟨w6.heap.size, 0, none⟩) 1 1 [16909060] [16909060] _ (by simp) (hs5'.keep (Below.alloc0 _ _)) (Sl.new _ _ _)).mono ?_
  rintro e w8 ⟨rfl, hb8⟩
  have hs6' := (hs6.keep (Below.alloc0 w6 _)).keep hb8
  clear hs6 hs5'
  go_wp2_with fail
  refine (ints_b (some ⟨b6, 0, none⟩) (some ⟨w8.heap.size, 0, none⟩) 1 1 [67305985] [67305985] _ (by simp) (hs6'.keep (Below.alloc0 _ _)) (Sl.new _ _ _)).mono ?_
  rintro e w9 ⟨rfl, hb9⟩
  go_wp2_with fail
  refine (is_two 0 4294967295 _ _ w9 rfl).mono ?_
  rintro e w10 ⟨rfl, rfl⟩
  have e10 : (okW 0 && okW 4294967295) = true := by decide
  simp only [e10]
  go_wp2_with fail
  refine (is_two 1 (-1) _ _ (w9.alloc _) (by simp)).mono ?_
  rintro e w11 ⟨rfl, rfl⟩
  have e11 : (okW 1 && okW (-1)) = false := by decide
  simp only [e11]
  go_wp2
  go_ret
  refine ⟨rfl, ?_⟩
  exact (Below.alloc0 _ _).next (hb2.next (hb3.next (hb4.next (hb5.next (hb6.next ((Below.alloc0 _ _).next (hb8.next ((Below.alloc0 _ _).next (hb9.next ((Below.alloc0 _ _).next (Below.alloc0 _ _)))))))))))

theorem xor_back (a b : Nat) : (a ^^^ b) ^^^ b = a := by rw [Nat.xor_assoc, Nat.xor_self, Nat.xor_zero]
theorem xor_and (a b : Nat) : (a ^^^ (a &&& b)) &&& b = 0 := by
  apply Nat.eq_of_testBit_eq
  intro i
  simp only [Nat.testBit_and, Nat.testBit_xor, Nat.zero_testBit]
  cases a.testBit i <;> cases b.testBit i <;> rfl
theorem addL_two (a b : Nat) : addL [b, a] = addL [a, b] := by simp [addL]; omega

set_option maxHeartbeats 1000000 in
theorem turns_yes (a b n : Nat) (ha : a < 4294967296) (hb : b < 4294967296) (hn : n ≤ 32) (w : World) :
    Calls Try.prog 3 #[.int .i64 a, .int .i64 b, .int .i64 n] w fun e w' => e = .returned (.bool true) ∧ Below w.heap.size w w' := by
  have h1 : (okW a && okW b) = true := by rw [okW_t (by omega) (by omega), okW_t (by omega) (by omega)]; rfl
  have hx := Nat.xor_lt_two_pow (n := 32) ha hb
  have hu := rotN_lt a n ha hn
  have hp := Nat.and_lt_two_pow (n := 32) a hb
  have hq := Nat.xor_lt_two_pow (n := 32) ha hp
  have hs := addL_lt [a, b]
  have hn' : (32 : Int) - (n : Int) = ((32 - n : Nat) : Int) := by omega
  have HN := Lib.hid hn'
  clear hn'
  go_enter Try.func3, Try.ntmps3
  go_wp2_with fail
  refine (is_two a b _ _ w rfl).mono ?_
  rintro e w1 ⟨rfl, rfl⟩
  go_wp2_with fail
  refine (xor_any a b ha hb _).mono ?_
  rintro e w2 ⟨rfl, hb2⟩
  go_wp2_with fail
  refine (xor_any (a ^^^ b) b hx hb _).mono ?_
  rintro e w3 ⟨rfl, hb3⟩
  simp only [xor_back]
  go_wp2_with fail
  refine (rot_any a n ha hn _).mono ?_
  rintro e w4 ⟨rfl, hb4⟩
  go_wp2_with fail
  rw [HN.out]
  refine (rot_any (rotN a n) (32 - n) hu (by omega) _).mono ?_
  rintro e w5 ⟨rfl, hb5⟩
  rw [rotN_back a n ha hn]
  go_wp2_with fail
  refine (add_any (some ⟨w5.heap.size, 0, none⟩) 2 [a, b] _ (by simp) (Sl.new _ _ _) (by simp; omega)).mono ?_
  rintro e w6 ⟨rfl, rfl⟩
  go_wp2_with fail
  refine (add_any (some ⟨w5.heap.size + 1, 0, none⟩) 2 [b, a] _ (by simp) (Sl.new' (by simp)) (by simp; omega)).mono ?_
  rintro e w7 ⟨rfl, rfl⟩
  rw [addL_two a b]
  go_wp2_with fail
  refine (and_any a b ha hb _).mono ?_
  rintro e w8 ⟨rfl, hb8⟩
  go_wp2_with fail
  refine (xor_any a (a &&& b) ha hp _).mono ?_
  rintro e w9 ⟨rfl, hb9⟩
  go_wp2_with fail
  refine (and_any (a ^^^ (a &&& b)) b hq hb _).mono ?_
  rintro e w10 ⟨rfl, hb10⟩
  rw [xor_and a b]
  go_wp2_with fail
  refine (words_any _).mono ?_
  rintro e w11 ⟨rfl, hb11⟩
  go_wp2_with fail
  refine (is_nats (some ⟨w11.heap.size, 0, none⟩) 4 [a ^^^ b, rotN a n, addL [a, b], a &&& b] _ (by simp) (Sl.new _ _ _) (by simp; omega)).mono ?_
  rintro e w12 ⟨rfl, rfl⟩
  go_wp2
  go_ret
  exact ⟨rfl, (Below.alloc0 _ _).next (hb2.next (hb3.next (hb4.next (hb5.next ((Below.alloc0 _ _).next ((Below.alloc0 _ _).next (hb8.next (hb9.next (hb10.next (hb11.next (Below.alloc0 _ _)))))))))))⟩

theorem turns_no1 (a b n : Int) (h : (okW a && okW b) = false) (w : World) :
    Calls Try.prog 3 #[.int .i64 a, .int .i64 b, .int .i64 n] w fun e w' => e = .returned (.bool true) ∧ Below w.heap.size w w' := by
  go_enter Try.func3, Try.ntmps3
  go_wp2_with fail
  refine (is_two a b _ _ w rfl).mono ?_
  rintro e w1 ⟨rfl, rfl⟩
  rw [h]
  go_wp2_with fail
  refine (words_any _).mono ?_
  rintro e w2 ⟨rfl, hb2⟩
  go_wp2
  go_ret
  exact ⟨rfl, (Below.alloc0 _ _).next hb2⟩
theorem turns_no2 (a b n : Int) (h : (okW a && okW b) = true) (hn : n < 0 ∨ 32 < n) (w : World) :
    Calls Try.prog 3 #[.int .i64 a, .int .i64 b, .int .i64 n] w fun e w' => e = .returned (.bool true) ∧ Below w.heap.size w w' := by
  rcases hn with hn | hn
  · go_enter Try.func3, Try.ntmps3
    go_wp2_with fail
    refine (is_two a b _ _ w rfl).mono ?_
    rintro e w1 ⟨rfl, rfl⟩
    rw [h]
    go_wp2_with fail
    refine (words_any _).mono ?_
    rintro e w2 ⟨rfl, hb2⟩
    go_wp2
    go_ret
    exact ⟨rfl, (Below.alloc0 _ _).next hb2⟩
  · have hn0 : ¬ n < 0 := by omega
    go_enter Try.func3, Try.ntmps3
    go_wp2_with fail
    refine (is_two a b _ _ w rfl).mono ?_
    rintro e w1 ⟨rfl, rfl⟩
    rw [h]
    go_wp2_with fail
    refine (words_any _).mono ?_
    rintro e w2 ⟨rfl, hb2⟩
    go_wp2
    go_ret
    exact ⟨rfl, (Below.alloc0 _ _).next hb2⟩
theorem walk (a b n : Int) (w : World) :
    Calls Try.prog 3 #[.int .i64 a, .int .i64 b, .int .i64 n] w fun e w' => e = .returned (.bool true) ∧ Below w.heap.size w w' := by
  by_cases h : (okW a && okW b) = true
  · by_cases hn : n < 0 ∨ 32 < n
    · exact turns_no2 a b n h hn w
    · have h' := h
      simp only [okW, Bool.and_eq_true, decide_eq_true_eq] at h'
      obtain ⟨x, rfl⟩ := Int.eq_ofNat_of_zero_le h'.1.1
      obtain ⟨y, rfl⟩ := Int.eq_ofNat_of_zero_le h'.2.1
      obtain ⟨z, rfl⟩ := Int.eq_ofNat_of_zero_le (a := n) (by omega)
      exact turns_yes x y z (by omega) (by omega) (by omega) w
  · exact turns_no1 a b n (by simpa using h) w

/-! ### the row -/
section
open Go.ChangeShapes Go.WideShapes Go.ChangeAt
theorem own : ownKnob Try.prog.godebug = none := by kernel_rfl
set_option maxRecDepth 100000 in
theorem lifted (os : Os) (started : os.Started) (H : Type) (enc : TypeId × Value → H) :
    ReturnsInHanded {} Try.checked os 3 .any (Rows.wordTurnsSpec.pre6 enc Try.prog Try.f3 Rows.wordTurnsRow.domain false) (Rows.wordTurnsSpec.post enc Try.prog Try.f3 false true false false) := by
  refine returnsInHanded_of_change (C := Try.checked) own started (by kernel_rfl) Try.func3
    (ChangeSpec.witness6 (enc := enc) (C := Try.checked) false ⟨#[], #[.int .i64 0, .int .i64 0, .int .i64 0], []⟩ 8 (by kernel_rfl) (by kernel_rfl) (by kernel_rfl) (by kernel_rfl)) ?_
  intro W base args ds gs before hval0 hW hcnd _
  have hval : ∀ (j : Nat) t v, Try.f3.params[j]? = some t → args[j]? = some v → Value.okWide Try.prog W .any base t v := hval0
  have hW' := hW
  obtain ⟨p, q, hA0, hV, rfl, hfz, hnd⟩ := hW
  obtain ⟨rfl, rfl⟩ := trodVars_none hV
  have hA : DataW.TrodAll enc Try.prog W 0 (fun _ => true) true Try.f3.params.toList args.toList ds p := hA0
  rw [Try.params3] at hA hval
  obtain ⟨v0, vs0, d0, ds0, p0, q0, hargs, rfl, rfl, h0, r0⟩ := trodAll_cons hA
  obtain ⟨v1, vs1, d1, ds1, p1, q1, rfl, rfl, rfl, h1, r1⟩ := trodAll_cons r0
  obtain ⟨v2, vs2, d2, ds2, p2, q2, rfl, rfl, rfl, h2, r2⟩ := trodAll_cons r1
  obtain ⟨rfl, rfl, rfl⟩ := trodAll_nil r2
  obtain rfl : args = #[v0, v1, v2] := by cases args; simp_all
  obtain ⟨a0, rfl, rfl, rfl, w0⟩ := open_int Try.underlying3 (hval 0 _ v0 rfl rfl) h0
  obtain ⟨a1, rfl, rfl, rfl, w1⟩ := open_int Try.underlying3 (hval 1 _ v1 rfl rfl) h1
  obtain ⟨a2, rfl, rfl, rfl, w2⟩ := open_int Try.underlying3 (hval 2 _ v2 rfl rfl) h2
  refine (walk a0 a1 a2 W).mono fun e W' ⟨he, hg⟩ => ?_
  subst he
  exact ⟨_, rfl, law_post (B := 4) (by kernel_rfl) (by kernel_rfl) (by kernel_rfl) Try.underlying4 rfl hW' rfl rfl rfl hg⟩

theorem over : Rows.wordTurnsRow.holds Try.pinned (OpenSpec.ofChange Rows.wordTurnsSpec) :=
  OpenClaim.holds_of_wide 3 Try.f3 rfl rfl rfl rfl rfl rfl rfl ⟨rfl, rfl, rfl, rfl, rfl⟩ rfl rfl rfl rfl rfl (by kernel_rfl) Try.func3 (by kernel_rfl)
    (of_decide_eq_true (by kernel_rfl)) (by unfold Func.isWrapper; first | (rw [if_pos (by decide +kernel)]; kernel_rfl) | (rw [if_neg (by decide +kernel)]; exact ⟨rfl, rfl⟩))
    (fun os started H enc _ => lifted os started H enc)

theorem wordTurns_holds : Rows.WordTurnsSaid := over
end
#print axioms wordTurns_holds
end Go.Proofs.Ytlblhgbbadhbdaa
