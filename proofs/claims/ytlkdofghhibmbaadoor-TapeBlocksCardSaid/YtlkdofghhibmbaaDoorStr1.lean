/-
  stream: the contracts of quarter and Turn.
-/
import Derived.Test.YtlkdofghhibmbaaDoorStm
import Derived.Test.YtlkdofghhibmbaaDoorWordR
namespace Go.Proofs.YtlkdofghhibmbaaDoor
open Go.RowKit Go.Kx
set_option maxRecDepth 20000

theorem results_tmp5 {fn : Func} {t u v x y : Tmp} (h : fn.results = #[.tmp t, .tmp u, .tmp v, .tmp x, .tmp y]) (tmps : Array Value) (P : Program) (w : World) :
    (results fn tmps).run P w = .ok (.tuple #[tmps.getD t undef, tmps.getD u undef, tmps.getD v undef, tmps.getD x undef, tmps.getD y undef]) w := by
  simp [results, h]
theorem addL_pr (x y : Nat) : addL [x, y] = qS x y := by simp [addL, qS]
theorem quarter_any (x y z n : Nat) (hx : x < 4294967296) (hy : y < 4294967296) (hz : z < 4294967296) (hn : n ≤ 32) (w : World) :
    Calls Tryd.prog 82 #[.int .i64 x, .int .i64 y, .int .i64 z, .int .i64 n] w fun e w' => e = .returned (.tuple #[.int .i64 (qS x y : Nat), .int .i64 (qR x y z n : Nat)]) ∧ Below w.heap.size w w' := by
  have hs := qS_lt x y
  obtain ⟨s, es⟩ : ∃ s, qS x y = s := ⟨_, rfl⟩
  obtain ⟨r, er⟩ : ∃ r, qR x y z n = r := ⟨_, rfl⟩
  have hxr : z ^^^ s < 4294967296 := Nat.xor_lt_two_pow (n := 32) hz (by omega)
  have HR : Hid (rotN (z ^^^ s) n = r) := Lib.hid (by rw [← er, ← es]; rfl)
  have HS : Hid (addL [x, y] = s) := Lib.hid (by rw [addL_pr, es])
  rw [es, er]
  rw [es] at hs
  clear es er
  go_enter Tryd.func82, Tryd.ntmps82
  go_wp2_with fail
  refine (add_any (some ⟨w.heap.size, 0, none⟩) 2 [x, y] _ (by simp) (Sl.new _ _ _) (by simp; omega)).mono ?_
  rintro e w1 ⟨rfl, rfl⟩
  rw [HS.out]
  go_wp2_with fail
  refine (xor_any z s hz hs _).mono ?_
  rintro e w2 ⟨rfl, hb2⟩
  generalize hxx : z ^^^ s = x2 at *
  have HXX := Lib.hid hxx
  clear hxx
  go_wp2_with fail
  refine (rot_any x2 n hxr hn _).mono ?_
  rintro e w3 ⟨rfl, hb3⟩
  rw [HR.out]
  go_wp2
  go_ret2
  exact ⟨rfl, (Below.alloc0 _ _).next (hb2.next hb3)⟩
theorem quarter_v (x y z n : Nat) (hx : x < 4294967296) (hy : y < 4294967296) (hz : z < 4294967296) (hn : n ≤ 32) (s r : Nat) (hs : qS x y = s) (hr : qR x y z n = r) (m : Int) (hm : (n : Int) = m) (w : World) :
    Calls Tryd.prog 82 #[.int .i64 x, .int .i64 y, .int .i64 z, .int .i64 m] w fun e w' => e = .returned (.tuple #[.int .i64 s, .int .i64 r]) ∧ Below w.heap.size w w' := by
  subst hs hr hm
  exact quarter_any x y z n hx hy hz hn w
theorem turn_any (a b c d : Nat) (ha : a < 4294967296) (hb : b < 4294967296) (hc : c < 4294967296) (hd : d < 4294967296) (t : W4) (ht : turnW a b c d = t) (w : World) :
    Calls Tryd.prog 70 #[.int .i64 a, .int .i64 b, .int .i64 c, .int .i64 d] w fun e w' =>
      e = .returned (.tuple #[.int .i64 t.a, .int .i64 t.b, .int .i64 t.c, .int .i64 t.d, .bool true]) ∧ Below w.heap.size w w' := by
  obtain ⟨a1, e1⟩ : ∃ x, qS a b = x := ⟨_, rfl⟩
  obtain ⟨d1, e2⟩ : ∃ x, qR a b d 16 = x := ⟨_, rfl⟩
  obtain ⟨c1, e3⟩ : ∃ x, qS c d1 = x := ⟨_, rfl⟩
  obtain ⟨b1, e4⟩ : ∃ x, qR c d1 b 12 = x := ⟨_, rfl⟩
  obtain ⟨a2, e5⟩ : ∃ x, qS a1 b1 = x := ⟨_, rfl⟩
  obtain ⟨d2, e6⟩ : ∃ x, qR a1 b1 d1 8 = x := ⟨_, rfl⟩
  obtain ⟨c2, e7⟩ : ∃ x, qS c1 d2 = x := ⟨_, rfl⟩
  obtain ⟨b2, e8⟩ : ∃ x, qR c1 d2 b1 7 = x := ⟨_, rfl⟩
  have HT : Hid (t = ⟨a2, b2, c2, d2⟩) := Lib.hid (by rw [← ht, ← e8, ← e7, ← e6, ← e5, ← e4, ← e3, ← e2, ← e1]; rfl)
  have l1 : a1 < 4294967296 := e1 ▸ qS_lt _ _
  have l2 : d1 < 4294967296 := e2 ▸ qR_lt _ _ _ _ hd (by omega)
  have l3 : c1 < 4294967296 := e3 ▸ qS_lt _ _
  have l4 : b1 < 4294967296 := e4 ▸ qR_lt _ _ _ _ hb (by omega)
  have l5 : a2 < 4294967296 := e5 ▸ qS_lt _ _
  have l6 : d2 < 4294967296 := e6 ▸ qR_lt _ _ _ _ l2 (by omega)
  have Q1 : Hid (∀ V : World, Calls Tryd.prog 82 #[.int .i64 a, .int .i64 b, .int .i64 d, .int .i64 16] V fun e w' => e = .returned (.tuple #[.int .i64 a1, .int .i64 d1]) ∧ Below V.heap.size V w') := Lib.hid fun V => quarter_v a b d 16 ha hb hd (by omega) a1 d1 e1 e2 16 rfl V
  have Q2 : Hid (∀ V : World, Calls Tryd.prog 82 #[.int .i64 c, .int .i64 d1, .int .i64 b, .int .i64 12] V fun e w' => e = .returned (.tuple #[.int .i64 c1, .int .i64 b1]) ∧ Below V.heap.size V w') := Lib.hid fun V => quarter_v c d1 b 12 hc l2 hb (by omega) c1 b1 e3 e4 12 rfl V
  have Q3 : Hid (∀ V : World, Calls Tryd.prog 82 #[.int .i64 a1, .int .i64 b1, .int .i64 d1, .int .i64 8] V fun e w' => e = .returned (.tuple #[.int .i64 a2, .int .i64 d2]) ∧ Below V.heap.size V w') := Lib.hid fun V => quarter_v a1 b1 d1 8 l1 l4 l2 (by omega) a2 d2 e5 e6 8 rfl V
  have Q4 : Hid (∀ V : World, Calls Tryd.prog 82 #[.int .i64 c1, .int .i64 d2, .int .i64 b1, .int .i64 7] V fun e w' => e = .returned (.tuple #[.int .i64 c2, .int .i64 b2]) ∧ Below V.heap.size V w') := Lib.hid fun V => quarter_v c1 d2 b1 7 l3 l6 l4 (by omega) c2 b2 e7 e8 7 rfl V
  clear ht e1 e2 e3 e4 e5 e6 e7 e8
  rw [HT.out]
  go_enter Tryd.func70, Tryd.ntmps70
  go_wp2_with fail
  refine (is_nats (some ⟨w.heap.size, 0, none⟩) 4 [a, b, c, d] _ (by simp) (Sl.new _ _ _) (by simp; omega)).mono ?_
  rintro e w1 ⟨rfl, rfl⟩
  go_wp2_with fail
  refine (Q1.out _).mono ?_
  rintro e w2 ⟨rfl, hb2⟩
  go_wp2_with fail
  refine (Q2.out _).mono ?_
  rintro e w3 ⟨rfl, hb3⟩
  go_wp2_with fail
  refine (Q3.out _).mono ?_
  rintro e w4 ⟨rfl, hb4⟩
  go_wp2_with fail
  refine (Q4.out _).mono ?_
  rintro e w5 ⟨rfl, hb5⟩
  go_wp2
  (try simp only [Exit.inBlock, Exit.then])
  refine bodyPost_ret (results_tmp5 rfl _ _ _) rfl ?_
  exact ⟨rfl, (Below.alloc0 _ _).next (hb2.next (hb3.next (hb4.next hb5)))⟩
end Go.Proofs.YtlkdofghhibmbaaDoor
