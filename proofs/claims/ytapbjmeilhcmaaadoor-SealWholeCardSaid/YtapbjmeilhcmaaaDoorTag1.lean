/-
  tag: the contracts of carried, with and digit.
-/
import Derived.Test.YtapbjmeilhcmaaaDoorTgm
import Derived.StillTailTactics
import Derived.Deep.QuietTactic
import Derived.BigQuiet
namespace Go.Proofs.YtapbjmeilhcmaaaDoor
open Go.RowKit Go.Kx
set_option maxRecDepth 20000

theorem num_info : (Tryd.prog.info? 47).map (·.size) = some 5 := by kernel_rfl
def nv (f : Nat → Nat) : Array Value := rowA .u64 5 f
theorem nv_size (f : Nat → Nat) : (nv f).size = 5 := rowA_size _ _ _
theorem nv_all (f : Nat → Nat) : (nv f).all (·.oneCell') = true := all_one_ints (k := .u64) (g := fun j => (f j : Nat)) (n := 5) rfl
theorem nv_congr {f g : Nat → Nat} (h : ∀ j, j < 5 → f j = g j) : nv f = nv g := by
  unfold nv rowA
  congr 1
  refine List.map_congr_left fun j hj => ?_
  rw [h j (by simpa using hj)]
theorem nv_ofF (f : Nat → Nat) : nv (ofF f).at = nv f := nv_congr fun j hj => at_ofF f j hj
def zero5 : Array Value := #[.int .u64 0, .int .u64 0, .int .u64 0, .int .u64 0, .int .u64 0]
theorem zero5_eq : zero5 = nv (fun _ => 0) := rfl
theorem nv_row {w : World} (f : Nat → Nat) : (w.alloc (.cells (nv f) 47)).rowIs w.heap.size 47 5 (fun j => .int .u64 (f j : Nat)) := by
  have h := World.rowIs_alloc w (nv f) 47 (fun j => .int .u64 (f j : Nat)) (fun j hj => rowA_at _ _ _ _ (by rw [nv_size] at hj; omega))
  rwa [nv_size] at h
theorem nv_heap {w : World} {b : Nat} {f : Nat → Nat} (h : w.rowIs b 47 5 (fun j => .int .u64 (f j : Nat))) : w.heap[b]? = some (.cells (nv f) 47 (0, 0)) := rowIs_heap h
theorem wrapU64 (n : Nat) : IntKind.u64.wrap (n : Int) = ((n % 18446744073709551616 : Nat) : Int) := by rw [IntKind.wrap_u64]; omega
theorem carK_next (f : Nat → Nat) (k j : Nat) (x y : Nat) (hx : carK f k k = x) (hy : carK f k (k + 1) = y) : carK f (k + 1) j = if j = k then x % 67108864 else if j = k + 1 then (y + x / 67108864) % 18446744073709551616 else carK f k j := by
  rw [← hx, ← hy]; rfl
theorem and_full (x : Nat) (h : x < 18446744073709551616) : bits .and .u64 (x : Int) 67108863 = ((x % 67108864 : Nat) : Int) := by
  rw [show (67108863 : Int) = ((67108863 : Nat) : Int) from rfl, u64_and_nat x 67108863 h (by omega), show (67108863 : Nat) = 2 ^ 26 - 1 from rfl, Nat.and_two_pow_sub_one_eq_mod]
set_option maxHeartbeats 1000000 in
theorem car_any (f : Nat → Nat) (hf : okF f) (d : Array Value) (hd : d = nv f) (r : Array Value) (hr : r = nv (carK f 4)) (w : World) :
    Calls Tryd.prog 34 #[.agg d] w fun e w' => e = .returned (.agg r) ∧ Below w.heap.size w w' := by
  have hr0 : (w.alloc (.cells d 47)).rowIs w.heap.size 47 5 (fun j => .int .u64 (carK f 0 j : Nat)) := by rw [hd]; exact nv_row f
  have hz0 : ((w.alloc (.cells d 47)).alloc (.cells zero5 47)).rowIs (w.heap.size + 1) 47 5 (fun _ => .int .u64 0) := by
    have h := nv_row (w := w.alloc (.cells d 47)) (fun _ => 0)
    rw [World.size_alloc] at h
    exact h
  have hr1 := hr0.alloc (.cells zero5 47)
  have hbw := (Below.alloc0 w (.cells d 47)).al (.cells zero5 47)
  have hds : d.size = 5 := by rw [hd, nv_size]
  have hrs : r.size = 5 := by rw [hr, nv_size]
  have hall : r.all (·.oneCell') = true := by rw [hr]; exact nv_all _
  have HR := Lib.hid hr
  have HO := Lib.hid (carK_ok hf)
  unfold zero5 at hr1 hz0 hbw
  clear hd hr hr0
  go_enter Tryd.func34, Tryd.ntmps34
  go_wp2
  generalize ((w.alloc _).alloc _) = W at *
  go_loopw [3] (fun i wr => ∃ k : Nat, k ≤ 4 ∧ i = .int .i64 ((k : Int) + 1) ∧ wr.rowIs w.heap.size 47 5 (fun j => .int .u64 (carK f k j : Nat)) ∧ wr.rowIs (w.heap.size + 1) 47 5 (fun _ => .int .u64 0) ∧ Below w.heap.size w wr) (fun i _ => 5 - (intOf i).toNat)
  case atStart => exact ⟨0, by omega, rfl, hr1, hz0, hbw⟩
  case round =>
    clear hr1 hz0 hbw
    obtain ⟨k, hk, rfl, hrow, hzr, hb⟩ := hrel
    by_cases hlt : k < 4
    · have cx := hrow.cell (i := k) (by omega)
      have cy := hrow.cell (i := k + 1) (by omega)
      obtain ⟨x, hx⟩ : ∃ x, carK f k k = x := ⟨_, rfl⟩
      obtain ⟨y, hy⟩ : ∃ y, carK f k (k + 1) = y := ⟨_, rfl⟩
      have hxl := HO.out k k
      have hyl := HO.out k (k + 1)
      have HN := Lib.hid fun j => carK_next f k j x y hx hy
      rw [hx] at cx hxl
      rw [hy] at cy hyl
      clear hx hy
      have hw1 : IntKind.i64.wrap (k : Int) = (k : Int) := IntWalk.i64_in _ (by omega)
      have b0 : (0 : Int) ≤ (k : Int) + 1 := by omega
      have b1 : (k : Int) + 1 < 5 := by omega
      have b2 : ((k : Int) + 1).toNat = k + 1 := by omega
      have b3 : (k : Int) < 5 := by omega
      go_wp2
      refine wp_region_still_tail 9 (by kernel_rfl) (by kernel_rfl) ?_
      simp only [List.take_succ_cons, List.take_zero, List.drop_succ_cons, List.drop_zero]
      repeat still_step
      refine wpStill_nil ?_
      have hrD := hrow.drew
      have hzD := hzr.drew
      have hbD := hb.drew
      have dx : wr.drew.cell? ⟨w.heap.size, k, none⟩ = some (.int .u64 x) := cx
      have dy : wr.drew.cell? ⟨w.heap.size, k + 1, none⟩ = some (.int .u64 y) := cy
      have fx := hrD.frozen k
      have fy := hrD.frozen (k + 1)
      have ew : IntKind.u64.wrap ((y : Int) + (x : Int) / 67108864) = (((y + x / 67108864) % 18446744073709551616 : Nat) : Int) := by rw [← wrapU64]; congr 1
      have ea := and_full x hxl
      rw [ew]
      have HE := Lib.hid ew
      generalize (y + x / 67108864) % 18446744073709551616 = z at *
      change wpList _ _ _ _ _ wr.drew
      clear hrow hzr hb cx cy ew
      generalize wr.drew = w2 at *
      go_wp2
      go_roundw
      case rel =>
        refine ⟨k + 1, by omega, by go_num, ((hrD.set (k + 1) _).set k _).congr fun j _ => ?_, (hzD.setOther (a := ⟨w.heap.size, k + 1, none⟩) (by simp) _).setOther (a := ⟨w.heap.size, k, none⟩) (by simp) _, (hbD.setCell (p := ⟨w.heap.size, k + 1, none⟩) (by simp) _).setCell (p := ⟨w.heap.size, k, none⟩) (by simp) _⟩
        rw [HN.out]
        by_cases h1 : j = k
        · rw [if_pos h1, if_pos h1]; exact congrArg _ (Int.natCast_emod _ _).symm
        · rw [if_neg h1, if_neg h1]
          by_cases h2 : j = k + 1
          · rw [if_pos h2, if_pos h2]
          · rw [if_neg h2, if_neg h2]
      case measure => simp [intOf]; omega
    · obtain rfl : k = 4 := by omega
      rw [show ((4 : Nat) : Int) = 4 from rfl]
      have h1 := nv_heap hrow
      have h2 := nv_heap (f := fun _ => 0) hzr
      rw [← HR.out] at h1
      have hinf : (Tryd.prog.info? 47).map (·.size) = some r.size := by rw [hrs]; exact num_info
      have hold : (nv (fun _ => 0)).size = r.size := by rw [hrs, nv_size]
      clear hrow hzr HR HO
      go_wp2_with (first
        | (refine wpList_load_row rfl _ _ rfl w.heap.size rfl _ _ _ _ h1 Tryd.underlying47 rfl hinf ?_)
        | (refine wpList_store_row rfl _ _ _ rfl (w.heap.size + 1) _ rfl rfl _ _ h2 hinf hold hall ?_))
      exact bodyPost_ret (v := .agg r) (results_cell_row rfl _ _ (w.heap.size + 1) _ _ _ _ rfl (setRow_heap _ _ _ _ _ _ h2) Tryd.underlying47 rfl hinf) rfl ⟨rfl, hb.setRow (by omega) _⟩
theorem car_n (n : Num) (hn : okF n.at) (d : Array Value) (hd : d = nv n.at) (r : Array Value) (hr : r = nv (carN n).at) (w : World) :
    Calls Tryd.prog 34 #[.agg d] w fun e w' => e = .returned (.agg r) ∧ Below w.heap.size w w' :=
  car_any n.at hn d hd r (hr.trans (nv_ofF _)) w

/-! ### with -/
set_option maxHeartbeats 1000000 in
theorem with_any (f : Nat → Nat) (hf : okF f) (i x : Nat) (hi : i < 17) (d : Array Value) (hd : d = nv f) (r : Array Value) (hr : r = nv (withF f i x)) (w : World) :
    Calls Tryd.prog 33 #[.agg d, .int .i64 i, .int .u64 x] w fun e w' => e = .returned (.agg r) ∧ Below w.heap.size w w' := by
  have hr0 : (w.alloc (.cells d 47)).rowIs w.heap.size 47 5 (fun j => .int .u64 (f j : Nat)) := by rw [hd]; exact nv_row f
  have hz0 : ((w.alloc (.cells d 47)).alloc (.cells zero5 47)).rowIs (w.heap.size + 1) 47 5 (fun _ => .int .u64 0) := by
    have h := nv_row (w := w.alloc (.cells d 47)) (fun _ => 0)
    rw [World.size_alloc] at h
    exact h
  have hr1 := hr0.alloc (.cells zero5 47)
  have hbw := (Below.alloc0 w (.cells d 47)).al (.cells zero5 47)
  have hds : d.size = 5 := by rw [hd, nv_size]
  have hrs : r.size = 5 := by rw [hr, nv_size]
  have hall : r.all (·.oneCell') = true := by rw [hr]; exact nv_all _
  have HR := Lib.hid hr
  obtain ⟨q, hq⟩ : ∃ q, 8 * i / 26 = q := ⟨_, rfl⟩
  obtain ⟨s, hs⟩ : ∃ s, 8 * i % 26 = s := ⟨_, rfl⟩
  have hql : q < 5 := by omega
  have hsl : s < 26 := by omega
  have e0 : IntKind.i64.wrap (8 * (i : Int)) = 8 * (i : Int) := IntWalk.i64_in _ (by omega)
  have e1 : IntKind.i64.wrap ((8 * (i : Int)).tdiv 26) = (q : Int) := by rw [Int.tdiv_eq_ediv_of_nonneg (by omega)]; rw [show (8 * (i : Int)) / 26 = (q : Int) by omega]; exact IntWalk.i64_in _ (by omega)
  have e2 : (8 * (i : Int)).tmod 26 = (s : Int) := by rw [Int.tmod_eq_emod_of_nonneg (by omega)]; omega
  have e3 : min s 64 = s := by omega
  have e5 : (q : Int) < 5 := by omega
  have HW : Hid (∀ j, withF f i x j = if j = q then (f q + x * 2 ^ s % 18446744073709551616) % 18446744073709551616 else f j) := Lib.hid fun j => by
    unfold withF
    rw [hq, hs]
    by_cases h : j = q
    · rw [if_pos h, if_pos h, h]
    · rw [if_neg h, if_neg h]
  have hyl := hf q
  have cy := hr1.cell (i := q) hql
  have fy := hr1.frozen q
  generalize f q = y at *
  unfold zero5 at hr1 hz0 hbw cy fy
  clear hd hr hr0 hq hs
  go_enter Tryd.func33, Tryd.ntmps33
  go_wp2
  generalize ((w.alloc _).alloc _) = W at *
  refine wp_region_still_tail 11 (by kernel_rfl) (by kernel_rfl) ?_
  simp only [List.take_succ_cons, List.take_zero, List.drop_succ_cons, List.drop_zero]
  repeat still_step
  refine wpStill_nil ?_
  have hrD := hr1.drew
  have hzD := hz0.drew
  have hbD := hbw.drew
  have dy : W.drew.cell? ⟨w.heap.size, q, none⟩ = some (.int .u64 y) := cy
  have fyD : W.drew.frozen? ⟨w.heap.size, q, none⟩ = false := fy
  have ew : IntKind.u64.wrap ((y : Int) + IntKind.u64.wrap ((x : Int) * 2 ^ s)) = (((y + x * 2 ^ s % 18446744073709551616) % 18446744073709551616 : Nat) : Int) := by
    rw [show IntKind.u64.wrap ((x : Int) * 2 ^ s) = ((x * 2 ^ s % 18446744073709551616 : Nat) : Int) by rw [← wrapU64, Int.natCast_mul, Int.natCast_pow]; rfl, ← wrapU64]; congr 1
  rw [ew]
  change wpList _ _ _ _ _ W.drew
  clear hr1 hz0 hbw cy fy ew e0 e1 e2 e3
  generalize (y + x * 2 ^ s % 18446744073709551616) % 18446744073709551616 = z at *
  generalize W.drew = w2 at *
  have h1 : (w2.setCell ⟨w.heap.size, q, none⟩ (.int .u64 z)).heap[w.heap.size]? = some (.cells r 47 (0, 0)) := by
    rw [HR.out]
    refine nv_heap ((hrD.set q _).congr fun j _ => ?_)
    rw [HW.out]
    split <;> rfl
  have h2 := nv_heap (f := fun _ => 0) (hzD.setOther (a := ⟨w.heap.size, q, none⟩) (by simp) (.int .u64 z))
  have hbE := hbD.setCell (p := ⟨w.heap.size, q, none⟩) (by simp) (.int .u64 z)
  have hinf : (Tryd.prog.info? 47).map (·.size) = some r.size := by rw [hrs]; exact num_info
  have hold : (nv (fun _ => 0)).size = r.size := by rw [hrs, nv_size]
  clear hrD hzD hbD HR HW
  go_wp2_with (first
    | (refine wpList_load_row rfl _ _ rfl w.heap.size rfl _ _ _ _ h1 Tryd.underlying47 rfl hinf ?_)
    | (refine wpList_store_row rfl _ _ _ rfl (w.heap.size + 1) _ rfl rfl _ _ h2 hinf hold hall ?_))
  exact bodyPost_ret (v := .agg r) (results_cell_row rfl _ _ (w.heap.size + 1) _ _ _ _ rfl (setRow_heap _ _ _ _ _ _ h2) Tryd.underlying47 rfl hinf) rfl ⟨rfl, hbE.setRow (by omega) _⟩

/-! ### digit -/
theorem rem256 (x : Nat) : (x : Int).tmod 256 = ((x % 256 : Nat) : Int) := by rw [Int.tmod_eq_emod_of_nonneg (by omega)]; omega
theorem wrap64_oct {n : Nat} (h : n < 256) : wrap64 (n : Int) = (n : Int) := by unfold wrap64; omega
set_option maxHeartbeats 1000000 in
theorem digit_any (v i : Nat) (hi : i < 17) (hv : v / 67108864 / 67108864 / 67108864 / 67108864 < 4294967296) (d : Array Value) (hd : d = nv (canon v).at) (w : World) :
    Calls Tryd.prog 38 #[.agg d, .int .i64 i] w fun e w' => e = .returned (.int .i64 (digitV v i : Nat)) ∧ Below w.heap.size w w' := by
  have hr1 : (w.alloc (.cells d 47)).rowIs w.heap.size 47 5 (fun j => .int .u64 ((canon v).at j : Nat)) := by rw [hd]; exact nv_row _
  have hbw := Below.alloc0 w (.cells d 47)
  obtain ⟨q, hq⟩ : ∃ q, 8 * i / 26 = q := ⟨_, rfl⟩
  obtain ⟨s, hs⟩ : ∃ s, 8 * i % 26 = s := ⟨_, rfl⟩
  have hql : q < 5 := by omega
  have hsl : s < 26 := by omega
  have e0 : IntKind.i64.wrap (8 * (i : Int)) = 8 * (i : Int) := IntWalk.i64_in _ (by omega)
  have e1 : IntKind.i64.wrap ((8 * (i : Int)).tdiv 26) = (q : Int) := by rw [Int.tdiv_eq_ediv_of_nonneg (by omega)]; rw [show (8 * (i : Int)) / 26 = (q : Int) by omega]; exact IntWalk.i64_in _ (by omega)
  have e2 : (8 * (i : Int)).tmod 26 = (s : Int) := by rw [Int.tmod_eq_emod_of_nonneg (by omega)]; omega
  have e3 : min s 64 = s := by omega
  have e5 : (q : Int) < 5 := by omega
  have hxl := canon_at_e v hv q
  have cx := hr1.cell (i := q) hql
  have hdl := digitV_lt v i
  have EX : Hid (∀ x : Nat, ((x : Int) / 2 ^ s) = ((x / 2 ^ s : Nat) : Int)) := Lib.hid fun x => by rw [Int.natCast_ediv, Int.natCast_pow]; rfl
  by_cases h : i < 13
  · have hD := digit_two v i hv h
    have cy := hr1.cell (i := q + 1) (by omega)
    have hyl := canon_at_e v hv (q + 1)
    rw [hq, hs] at hD
    generalize (canon v).at q = x at *
    generalize (canon v).at (q + 1) = y at *
    have e6 : (q : Int) + 1 < 5 := by omega
    have e7 : (0 : Int) ≤ (q : Int) + 1 := by omega
    have e8 : ((q : Int) + 1).toNat = q + 1 := by omega
    have e9 : IntKind.i64.wrap ((q : Int) + 1) = (q : Int) + 1 := IntWalk.i64_in _ (by omega)
    have e10 : IntKind.i64.wrap (26 - (s : Int)) = ((26 - s : Nat) : Int) := by rw [show (26 : Int) - (s : Int) = ((26 - s : Nat) : Int) by omega]; exact IntWalk.i64_in _ (by omega)
    have e11 : min (26 - s) 64 = 26 - s := by omega
    have E4 : Hid (IntKind.u64.wrap ((y : Int) * 2 ^ (26 - s)) = ((y * 2 ^ (26 - s) % 18446744073709551616 : Nat) : Int)) := Lib.hid (by rw [← wrapU64, Int.natCast_mul, Int.natCast_pow]; rfl)
    have HD := Lib.hid hD
    clear hd hq hs hD
    go_enter Tryd.func38, Tryd.ntmps38
    go_wp2
    go_ret
    refine ⟨ret_int ?_, hbw⟩
    rw [E4.out, EX.out, u64_or_nat _ _ (Nat.lt_of_le_of_lt (Nat.div_le_self _ _) (by omega)) (Nat.mod_lt _ (by omega)), rem256, HD.out]
    exact wrap64_oct hdl
  · have hD := digit_one v i (by omega) hi
    rw [hq, hs] at hD
    generalize (canon v).at q = x at *
    have e6 : ¬ (q : Int) + 1 < 5 := by omega
    have e9 : IntKind.i64.wrap ((q : Int) + 1) = (q : Int) + 1 := IntWalk.i64_in _ (by omega)
    have HD := Lib.hid hD
    clear hd hq hs hD
    go_enter Tryd.func38, Tryd.ntmps38
    go_wp2
    go_ret
    refine ⟨ret_int ?_, hbw⟩
    rw [EX.out, rem256, HD.out]
    exact wrap64_oct hdl
end Go.Proofs.YtapbjmeilhcmaaaDoor
