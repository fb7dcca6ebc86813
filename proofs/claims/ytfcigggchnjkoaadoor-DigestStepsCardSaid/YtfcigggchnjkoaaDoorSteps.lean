/-
  DigestSteps: the walk (the row is not done).
-/
import Derived.Test.YtfcigggchnjkoaaDoorLaid
import Derived.Test.YtfcigggchnjkoaaDoorRef8
import Derived.Test.YtfcigggchnjkoaaDoorRef9
import Derived.Test.YtfcigggchnjkoaaDoorStepNo
import Derived.Test.YtfcigggchnjkoaaDoorEq8
namespace Go.Proofs.YtfcigggchnjkoaaDoor
open Go.RowKit Go.Kx

def C8 (w : World) (B : Nat) (a b c d e f g h : Int) : Prop := w.cell? ⟨B, 0, none⟩ = some (.int .i64 a) ∧ w.cell? ⟨B, 1, none⟩ = some (.int .i64 b) ∧ w.cell? ⟨B, 2, none⟩ = some (.int .i64 c) ∧ w.cell? ⟨B, 3, none⟩ = some (.int .i64 d) ∧ w.cell? ⟨B, 4, none⟩ = some (.int .i64 e) ∧ w.cell? ⟨B, 5, none⟩ = some (.int .i64 f) ∧ w.cell? ⟨B, 6, none⟩ = some (.int .i64 g) ∧ w.cell? ⟨B, 7, none⟩ = some (.int .i64 h)
theorem C8.keep {w w' : World} {B : Nat} {a b c d e f g h : Int} (k : C8 w B a b c d e f g h) (hb : Below w.heap.size w w') : C8 w' B a b c d e f g h := by
  obtain ⟨k0, k1, k2, k3, k4, k5, k6, k7⟩ := k
  have hB := block_lt_of_cell k0
  exact ⟨(hb.cell (p := ⟨B, 0, none⟩) hB).trans k0, (hb.cell (p := ⟨B, 1, none⟩) hB).trans k1, (hb.cell (p := ⟨B, 2, none⟩) hB).trans k2, (hb.cell (p := ⟨B, 3, none⟩) hB).trans k3, (hb.cell (p := ⟨B, 4, none⟩) hB).trans k4, (hb.cell (p := ⟨B, 5, none⟩) hB).trans k5, (hb.cell (p := ⟨B, 6, none⟩) hB).trans k6, (hb.cell (p := ⟨B, 7, none⟩) hB).trans k7⟩
theorem C8.new (w : World) (t : TypeId) (a b c d e f g h : Int) : C8 (w.alloc (.cells #[.int .i64 a, .int .i64 b, .int .i64 c, .int .i64 d, .int .i64 e, .int .i64 f, .int .i64 g, .int .i64 h] t)) w.heap.size a b c d e f g h := by
  have k := fun i => cell_of_row (w.alloc (.cells #[.int .i64 a, .int .i64 b, .int .i64 c, .int .i64 d, .int .i64 e, .int .i64 f, .int .i64 g, .int .i64 h] t)) w.heap.size i #[.int .i64 a, .int .i64 b, .int .i64 c, .int .i64 d, .int .i64 e, .int .i64 f, .int .i64 g, .int .i64 h] t (0, 0) (heap_alloc_new w _)
  exact ⟨k 0, k 1, k 2, k 3, k 4, k 5, k 6, k 7⟩
theorem both_pads (n : Int) : ∃ (p : ByteArray) (ok : Bool), (∀ V : World, Calls Tryd.prog 10 #[.int .i64 n] V fun e w' => e = .returned (.tuple #[.string p, .bool ok]) ∧ Below V.heap.size V w') ∧
    (∀ V : World, Calls Tryd.prog 11 #[.int .i64 n] V fun e w' => e = .returned (.tuple #[.string p, .bool ok]) ∧ Below V.heap.size V w') := by
  by_cases hn : 0 ≤ n ∧ n ≤ 1000000000
  · obtain ⟨m, rfl⟩ := Int.eq_ofNat_of_zero_le hn.1
    exact ⟨_, _, fun V => pad_yes m (by omega) V, fun V => rpad_yes m (by omega) V⟩
  · have hn' : n < 0 ∨ 1000000000 < n := by omega
    exact ⟨_, _, fun V => (pad_no n hn' V).mono fun _ _ ⟨he, hw⟩ => ⟨he, hw ▸ Below.refl _ _⟩, fun V => (rpad_no n hn' V).mono fun _ _ ⟨he, hw⟩ => ⟨he, hw ▸ Below.refl _ _⟩⟩
theorem okW_nat {x : Int} (h : okW x = true) : ∃ n : Nat, x = (n : Int) ∧ n < 4294967296 := by
  simp only [okW, Bool.and_eq_true, decide_eq_true_eq] at h
  exact ⟨x.toNat, by omega, by omega⟩
theorem both_steps (a b c d e f g h : Int) (blk : ByteArray) : ∃ (r0 r1 r2 r3 r4 r5 r6 r7 : Int) (ok : Bool),
    (∀ V : World, Consts V → Calls Tryd.prog 8 #[.agg #[.int .i64 a, .int .i64 b, .int .i64 c, .int .i64 d, .int .i64 e, .int .i64 f, .int .i64 g, .int .i64 h], .string blk] V fun e w' => e = .returned (.tuple #[.agg #[.int .i64 r0, .int .i64 r1, .int .i64 r2, .int .i64 r3, .int .i64 r4, .int .i64 r5, .int .i64 r6, .int .i64 r7], .bool ok]) ∧ Below V.heap.size V w') ∧
    (∀ V : World, Calls Tryd.prog 9 #[.agg #[.int .i64 a, .int .i64 b, .int .i64 c, .int .i64 d, .int .i64 e, .int .i64 f, .int .i64 g, .int .i64 h], .string blk] V fun e w' => e = .returned (.tuple #[.agg #[.int .i64 r0, .int .i64 r1, .int .i64 r2, .int .i64 r3, .int .i64 r4, .int .i64 r5, .int .i64 r6, .int .i64 r7], .bool ok]) ∧ Below V.heap.size V w') := by
  by_cases hg : [a, b, c, d, e, f, g, h].all okW = true ∧ blk.size = 64
  · obtain ⟨h1, h2⟩ := hg
    simp only [List.all_cons, List.all_nil, Bool.and_true, Bool.and_eq_true] at h1
    obtain ⟨ka, kb, kc, kd, ke, kf, kg, kh⟩ := h1
    obtain ⟨a, rfl, la⟩ := okW_nat ka
    obtain ⟨b, rfl, lb⟩ := okW_nat kb
    obtain ⟨c, rfl, lc⟩ := okW_nat kc
    obtain ⟨d, rfl, ld⟩ := okW_nat kd
    obtain ⟨e, rfl, le⟩ := okW_nat ke
    obtain ⟨f, rfl, lf⟩ := okW_nat kf
    obtain ⟨g, rfl, lg⟩ := okW_nat kg
    obtain ⟨h, rfl, lh⟩ := okW_nat kh
    exact ⟨_, _, _, _, _, _, _, _, true, fun V hV => step_lit ⟨a, b, c, d, e, f, g, h⟩ ⟨la, lb, lc, ld, le, lf, lg, lh⟩ blk h2 _ rfl V hV, fun V => rstep_lit rstep_yes ⟨a, b, c, d, e, f, g, h⟩ ⟨la, lb, lc, ld, le, lf, lg, lh⟩ blk h2 _ rfl V⟩
  · have hbad : [a, b, c, d, e, f, g, h].all okW = false ∨ blk.size ≠ 64 := by
      by_cases h1 : [a, b, c, d, e, f, g, h].all okW = true
      · exact .inr fun h2 => hg ⟨h1, h2⟩
      · exact .inl (by simpa using h1)
    exact ⟨0, 0, 0, 0, 0, 0, 0, 0, false, fun V _ => step_no a b c d e f g h blk hbad V, fun V => rstep_no a b c d e f g h blk hbad V⟩
set_option maxHeartbeats 2000000 in
theorem dsteps_yes (a b c d e f g h : Int) (blk : ByteArray) (n : Int) (hbl : blk.size ≤ 200) (w : World) (hK : Consts w) :
    Calls Tryd.prog 3 #[.agg #[.int .i64 a, .int .i64 b, .int .i64 c, .int .i64 d, .int .i64 e, .int .i64 f, .int .i64 g, .int .i64 h], .string blk, .int .i64 n] w fun e w' => e = .returned (.bool true) ∧ Below w.heap.size w w' := by
  obtain ⟨r0, r1, r2, r3, r4, r5, r6, r7, ok, hd, hr⟩ := both_steps a b c d e f g h blk
  obtain ⟨p, okp, hp, hq⟩ := both_pads n
  have HD := Lib.hid hd
  have HR := Lib.hid hr
  have HP := Lib.hid hp
  have HQ := Lib.hid hq
  clear hd hr hp hq
  have h1 : ¬ (200 : Int) < (blk.size : Int) := by omega
  have k0 := C8.new w 22 a b c d e f g h
  have hbw := Below.alloc0 w (.cells #[.int .i64 a, .int .i64 b, .int .i64 c, .int .i64 d, .int .i64 e, .int .i64 f, .int .i64 g, .int .i64 h] 22)
  go_enter Tryd.func3, Tryd.ntmps3
  go_wp2_with fail
  refine (HD.out _ (hK.keep hbw)).mono ?_
  rintro e1 w1 ⟨rfl, hb1⟩
  have k1 := k0.keep hb1
  have hbw1 := hbw.next' hb1
  clear k0 hbw hb1
  have k2 := k1.keep (Below.alloc0 w1 (.cells #[.int .i64 r0, .int .i64 r1, .int .i64 r2, .int .i64 r3, .int .i64 r4, .int .i64 r5, .int .i64 r6, .int .i64 r7] 22))
  obtain ⟨a0, a1, a2, a3, a4, a5, a6, a7⟩ := k1
  have hlt : w.heap.size < w1.heap.size := block_lt_of_cell a0
  clear k2
  have n1 := C8.new w1 22 r0 r1 r2 r3 r4 r5 r6 r7
  have hbw2 := hbw1.al (.cells #[.int .i64 r0, .int .i64 r1, .int .i64 r2, .int .i64 r3, .int .i64 r4, .int .i64 r5, .int .i64 r6, .int .i64 r7] 22)
  go_wp2_with fail
  refine (HR.out _).mono ?_
  rintro e2 w2 ⟨rfl, hb2⟩
  have n2 := n1.keep hb2
  have hbw3 := hbw2.next' hb2
  have n3 := n2.keep (Below.alloc0 w2 (.cells #[.int .i64 r0, .int .i64 r1, .int .i64 r2, .int .i64 r3, .int .i64 r4, .int .i64 r5, .int .i64 r6, .int .i64 r7] 22))
  have m3 := C8.new w2 22 r0 r1 r2 r3 r4 r5 r6 r7
  have hbw4 := hbw3.al (.cells #[.int .i64 r0, .int .i64 r1, .int .i64 r2, .int .i64 r3, .int .i64 r4, .int .i64 r5, .int .i64 r6, .int .i64 r7] 22)
  clear a0 a1 a2 a3 a4 a5 a6 a7 hlt n1 n2 hb2 hbw1 hbw2 hbw3
  go_wp2_with fail
  refine (HP.out _).mono ?_
  rintro e3 w3 ⟨rfl, hb3⟩
  have n4 := n3.keep hb3
  have m4 := m3.keep hb3
  have hbw5 := hbw4.next' hb3
  clear n3 m3 hb3 hbw4
  go_wp2_with fail
  refine (HQ.out _).mono ?_
  rintro e4 w4 ⟨rfl, hb4⟩
  have n5 := n4.keep hb4
  have m5 := m4.keep hb4
  have hbw6 := hbw5.next' hb4
  clear n4 m4 hb4 hbw5
  go_wp2_with fail
  refine (sums_any _ (hK.keep hbw6)).mono ?_
  rintro e5 w5 ⟨rfl, hb5⟩
  obtain ⟨x0, x1, x2, x3, x4, x5, x6, x7⟩ := n5.keep hb5
  obtain ⟨y0, y1, y2, y3, y4, y5, y6, y7⟩ := m5.keep hb5
  have hbw7 := hbw6.next' hb5
  clear n5 m5 hb5 hbw6
  have q1 := eq8 r0 r1 r2 r3 r4 r5 r6 r7
  have q2 := eq8 st0.a st0.b st0.c st0.d st0.e st0.f st0.g st0.h
  go_wp2_with fail
  refine (start_any _).mono ?_
  rintro e6 w6 ⟨rfl, hb6⟩
  unfold St.v
  go_wp2_with fail
  refine (rstart_any _).mono ?_
  rintro e7 w7 ⟨rfl, hb7⟩
  unfold St.v
  go_wp2
  go_ret
  exact ⟨ret_bool (by first | rfl | simp), hbw7.next' (hb6.next hb7)⟩
end Go.Proofs.YtfcigggchnjkoaaDoor
