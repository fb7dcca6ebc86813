/-
  digest: the contracts of back, schedule, mix.
-/
import Derived.Test.YtlkdofghhibmbaaDoorSha
import Derived.Laws.Rows
import Derived.Laws.Alloc2
import Derived.Deep.QuietTactic
import Derived.BigQuiet
namespace Go.Proofs.YtlkdofghhibmbaaDoor
open Go.RowKit Go.Kx
set_option maxRecDepth 20000

theorem rotl_neg (x n : Nat) (hx : x < 4294967296) (h0 : 0 < n) (hn : n < 32) (w : World) :
   Calls Tryd.prog 83 #[.int .u32 x, .int .i64 (-(n : Int))] w fun e w' => e = .returned (.int .u32 (bk x n : Nat)) ∧ w = w' := by
  have h1 : bits .and .u64 (IntKind.u64.wrap (-(n : Int))) 31 = ((32 - n : Nat) : Int) := by
    have e : IntKind.u64.wrap (-(n : Int)) = ((18446744073709551616 - n : Nat) : Int) := by
      simp only [IntKind.wrap, IntKind.bits, IntKind.signed]; simp; omega
    rw [e, u64_and_31 _ (by omega)]
    congr 1
    omega
  have h3 : 32 - n < 32 := by omega
  have HB := Lib.hid (show bk x n = rotN x (32 - n) from rfl)
  have HC := Lib.hid (show 32 - (32 - n) = n by omega)
  generalize 32 - n = s at *
  go_enter Tryd.func83, Tryd.ntmps83
  go_wp2
  go_ret
  refine ⟨ret_int ?_, rfl⟩
  have e1 : ((x : Int) * 2 ^ s % 4294967296) = ((x * 2 ^ s % 4294967296 : Nat) : Int) := by rw [Int.natCast_emod, Int.natCast_mul, Int.natCast_pow]; rfl
  have e2 : ((x : Int) / 2 ^ (32 - s)) = ((x / 2 ^ (32 - s) : Nat) : Int) := by rw [Int.natCast_ediv, Int.natCast_pow]; rfl
  rw [e1, e2, u32_or_nat _ _ (Nat.mod_lt _ (by omega)) (Nat.lt_of_le_of_lt (Nat.div_le_self _ _) hx), rot_or x s hx h3, HB.out]
theorem back_any (x n : Nat) (hx : x < 4294967296) (h0 : 0 < n) (hn : n < 32) (w : World) :
   Calls Tryd.prog 71 #[.int .u32 x, .int .i64 n] w fun e w' => e = .returned (.int .u32 (bk x n : Nat)) ∧ w = w' := by
  go_enter Tryd.func71, Tryd.ntmps71
  go_wp2_with (go_at_call 83; refine (rotl_neg x n hx h0 hn _).mono ?_; rintro e w' ⟨rfl, rfl⟩)
  go_ret
  exact ⟨rfl, rfl⟩

theorem back_q (x n : Nat) (m : Int) (hm : m = (n : Int)) (hx : x < 4294967296) (h0 : 0 < n) (hn : n < 32) (w : World) :
   Calls Tryd.prog 71 #[.int .u32 x, .int .i64 m] w fun e w' => e = .returned (.int .u32 (bk x n : Nat)) ∧ w' = w := by
  subst hm
  exact (back_any x n hx h0 hn w).mono fun _ _ ⟨he, hw⟩ => ⟨he, hw.symm⟩
def rowW (W : Nat → Nat) (k j : Nat) : Nat := if j < k then W j else 0
theorem rowW_in (W : Nat → Nat) {k j : Nat} (h : j < k) : rowW W k j = W j := if_pos h
theorem rowW_set (W : Nat → Nat) (k j : Nat) : (if j = k then W k else rowW W k j) = rowW W (k + 1) j := by
  unfold rowW
  by_cases h : j = k
  · subst h; simp
  · rw [if_neg h]
    by_cases h2 : j < k
    · rw [if_pos h2, if_pos (by omega)]
    · rw [if_neg h2, if_neg (by omega)]
theorem sum4 (a b c d : Nat) : IntKind.u32.wrap (IntKind.u32.wrap (IntKind.u32.wrap ((a : Int) + (b : Int)) + (c : Int)) + (d : Int)) = (((a + b + c + d) % 4294967296 : Nat) : Int) := by
  simp only [IntKind.wrap_u32']
  omega
theorem row64_size : (Tryd.prog.info? 95).map (·.size) = some 64 := by kernel_rfl
set_option maxHeartbeats 1000000 in
theorem sched_gen (W : Nat → Nat) (s : ByteArray) (w : World) (hs : s.size = 64) (hlt : ∀ x ∈ cutL true s, x < 4294967296) (hlen : (cutL true s).length = 16)
   (hold : ∀ j, j < 16 → W j = (cutL true s).getD j 0) (hWl : ∀ j, W j < 4294967296) (hWn : ∀ i, 16 ≤ i → i < 64 → W i = (W (i - 16) + sg0 (W (i - 15)) + W (i - 7) + sg1 (W (i - 2))) % 4294967296) :
   Calls Tryd.prog 53 #[.string s] w fun e w' => e = .returned (.agg (rowA .u32 64 W)) ∧ Below w.heap.size w w' := by
  have HLT := Lib.hid hlt
  have HOLD := Lib.hid hold
  have HWL := Lib.hid hWl
  have HWN := Lib.hid hWn
  clear hlt hold hWl hWn
  go_enter Tryd.func53, Tryd.ntmps53
  go_wp2_with fail
  refine (cut_new s true _ (by omega) (by omega)).mono ?_
  rintro e w1 ⟨b, rfl, hbb, hsl, hb⟩
  generalize cutL true s = xs at *
  have hr1 := rowIs_keep (rowIs_new (n := 64) (z := .int .u32 0) rfl) hb
  have hr0 := rowIs_keep ((rowIs_new (n := 64) (z := .int .u32 0) rfl).alloc _) hb
  simp only [World.size_alloc] at hr1 hr0 hbb
  have hbw := ((((Below.refl _ w).alloc (Nat.le_refl _) _).alloc (by simp) _).trans (hb.mono (by simp; omega)))
  clear hb
  go_wp2_with fail
  go_loopw [6, 7, 18] (fun _ _ i wr => ∃ k : Nat, k ≤ 16 ∧ i = .int .i64 k ∧ Sl wr (some ⟨b, 0, none⟩) (ints xs) ∧ wr.rowIs (w.heap.size + 1) 95 64 (fun j => .int .u32 (rowW W k j : Nat)) ∧
     wr.rowIs w.heap.size 95 64 (fun _ => .int .u32 0) ∧ Below w.heap.size w wr) (fun _ _ i _ => 16 - (intOf i).toNat)
  case atStart => exact ⟨0, by omega, rfl, hsl, hr1, hr0, hbw⟩
  case round =>
    obtain ⟨k, hk, rfl, hsk, hrk, hr0k, hbk⟩ := hrel
    clear hsl hr1 hr0 hbw
    by_cases hl : k < 16
    · obtain ⟨b', off, u, he, hu, hcell⟩ := hsk.at_ (k := k) (by simp [ints]; omega)
      obtain ⟨rfl, rfl⟩ : b = b' ∧ 0 = off := by simpa using he
      obtain ⟨x, hx, rfl⟩ : ∃ x, xs[k]? = some x ∧ .int .i64 (x : Int) = u := by simpa [ints] using hu
      have hxl : x < 4294967296 := HLT.out x (List.mem_of_getElem? hx)
      have hxw := wrapU32 hxl
      have hload := hrk.cell (i := k) (by omega)
      have hfz := hrk.frozen k
      rw [Nat.zero_add] at hcell
      have HX := Lib.hid (show W k = x by rw [HOLD.out k hl, List.getD_eq_getElem?_getD, hx]; rfl)
      clear hx hu he
      go_wp2
      go_roundw
      case rel =>
        refine ⟨k + 1, by omega, by go_num, hsk.set (by simp; omega) _, ?_, hr0k.setOther (by simp) _, hbk.setCell (p := ⟨w.heap.size + 1, k, none⟩) (by simp) _⟩
        refine (hrk.set k _).congr fun j _ => ?_
        rw [← rowW_set W k j, HX.out]
        split <;> rfl
      case measure => simp [intOf]; omega
    · obtain rfl : k = 16 := by omega
      clear hl hk hsk HOLD HLT
      go_wp2
      rw [show ((16 : Nat) : Int) = 16 from rfl]
      go_loopw [8, 9, 10] (fun i _ _ wr => ∃ k : Nat, 16 ≤ k ∧ k ≤ 64 ∧ i = .int .i64 k ∧ wr.rowIs (w.heap.size + 1) 95 64 (fun j => .int .u32 (rowW W k j : Nat)) ∧
         wr.rowIs w.heap.size 95 64 (fun _ => .int .u32 0) ∧ Below w.heap.size w wr) (fun i _ _ _ => 64 - (intOf i).toNat)
      case atStart => exact ⟨16, by omega, by omega, rfl, hrk, hr0k, hbk⟩
      case round =>
        clear hrk hr0k hbk
        obtain ⟨k, hk1, hk2, rfl, hrk, hr0k, hbk⟩ := hrel
        by_cases hl : k < 64
        · have c16 := hrk.cell (i := k - 16) (by omega)
          have c15 := hrk.cell (i := k - 15) (by omega)
          have c7 := hrk.cell (i := k - 7) (by omega)
          have c2 := hrk.cell (i := k - 2) (by omega)
          have c0 := hrk.cell (i := k) (by omega)
          have hfz := hrk.frozen k
          rw [rowW_in W (by omega)] at c16 c15 c7 c2
          have l15 := HWL.out (k - 15)
          have l2 := HWL.out (k - 2)
          have HN := Lib.hid (HWN.out k hk1 hl)
          generalize W (k - 15) = p at *
          generalize W (k - 2) = q at *
          generalize W (k - 16) = x at *
          generalize W (k - 7) = y at *
          have w16 : IntKind.i64.wrap ((k : Int) - 16) = (k : Int) - 16 := IntWalk.i64_in _ (by omega)
          have w15 : IntKind.i64.wrap ((k : Int) - 15) = (k : Int) - 15 := IntWalk.i64_in _ (by omega)
          have w7 : IntKind.i64.wrap ((k : Int) - 7) = (k : Int) - 7 := IntWalk.i64_in _ (by omega)
          have w2 : IntKind.i64.wrap ((k : Int) - 2) = (k : Int) - 2 := IntWalk.i64_in _ (by omega)
          have n16 : ((k : Int) - 16).toNat = k - 16 := by omega
          have n15 : ((k : Int) - 15).toNat = k - 15 := by omega
          have n7 : ((k : Int) - 7).toNat = k - 7 := by omega
          have n2 : ((k : Int) - 2).toNat = k - 2 := by omega
          have p16 : 0 ≤ (k : Int) - 16 := by omega
          have p15 : 0 ≤ (k : Int) - 15 := by omega
          have p7 : 0 ≤ (k : Int) - 7 := by omega
          have p2 : 0 ≤ (k : Int) - 2 := by omega
          have q16 : (16 : Int) ≤ (k : Int) := by omega
          have q7 : (7 : Int) ≤ (k : Int) := by omega
          have b16 : (k : Int) - 16 < 64 := by omega
          have b15 : (k : Int) - 15 < 64 := by omega
          have b7 : (k : Int) - 7 < 64 := by omega
          have b2 : (k : Int) - 2 < 64 := by omega
          go_wp2
          go_quiet (fail)
          go_wp2
          clear c15 c2
          have d16 : (wr.drewN nq).cell? ⟨w.heap.size + 1, k - 16, none⟩ = _ := c16
          have d7 : (wr.drewN nq).cell? ⟨w.heap.size + 1, k - 7, none⟩ = _ := c7
          have d0 : (wr.drewN nq).cell? ⟨w.heap.size + 1, k, none⟩ = _ := c0
          have dfz : (wr.drewN nq).frozen? ⟨w.heap.size + 1, k, none⟩ = _ := hfz
          have drk : (wr.drewN nq).rowIs (w.heap.size + 1) _ _ _ := hrk
          have dr0k : (wr.drewN nq).rowIs (w.heap.size) _ _ _ := hr0k
          have dbk : Below w.heap.size w (wr.drewN nq) := hbk.next' (Below.drewN0 _ _)
          clear c16 c7 c0 hfz hrk hr0k hbk
          generalize wr.drewN nq = w2 at *
          refine wp_region_still_tail 29 (by kernel_rfl) (by kernel_rfl) ?_
          simp only [List.take_succ_cons, List.take_zero, List.drop_succ_cons, List.drop_zero]
          repeat still_step
          still_call (back_q p 7 7 rfl l15 (by omega) (by omega) _)
          repeat still_step
          still_call (back_q p 18 18 rfl l15 (by omega) (by omega) _)
          repeat still_step
          still_call (back_q q 17 17 rfl l2 (by omega) (by omega) _)
          repeat still_step
          still_call (back_q q 19 19 rfl l2 (by omega) (by omega) _)
          repeat still_step
          refine wpStill_nil ?_
          have e0 : w2.drew.cell? ⟨w.heap.size + 1, k, none⟩ = _ := d0
          have efz : w2.drew.frozen? ⟨w.heap.size + 1, k, none⟩ = _ := dfz
          have erk := drk.drew
          have er0k := dr0k.drew
          have ebk := dbk.drew
          change wpList _ _ _ _ _ w2.drew
          clear d16 d7 d0 dfz drk dr0k dbk
          generalize w2.drew = w3 at *
          go_wp2
          go_roundw
          case rel =>
            refine ⟨k + 1, by omega, by omega, by go_num, ?_, er0k.setOther (by simp) _, ebk.setCell (p := ⟨w.heap.size + 1, k, none⟩) (by simp) _⟩
            refine (erk.set k _).congr fun j _ => ?_
            rw [← rowW_set W k j, HN.out]
            by_cases hjk : j = k
            · rw [if_pos hjk, if_pos hjk]
              refine congrArg (Value.int .u32) ?_
              have e0 : bits .xor .u32 (bits .xor .u32 (bk p 7 : Nat) (bk p 18 : Nat)) ((p : Int) / 8) = ((sg0 p : Nat) : Int) := by
                rw [show ((p : Int) / 8) = ((p / 8 : Nat) : Int) from rfl, u32_xor_nat _ _ (bk_lt _ _ l15) (bk_lt _ _ l15), u32_xor_nat _ _ (xor_lt (bk_lt _ _ l15) (bk_lt _ _ l15)) (by omega)]; rfl
              have e1 : bits .xor .u32 (bits .xor .u32 (bk q 17 : Nat) (bk q 19 : Nat)) ((q : Int) / 1024) = ((sg1 q : Nat) : Int) := by
                rw [show ((q : Int) / 1024) = ((q / 1024 : Nat) : Int) from rfl, u32_xor_nat _ _ (bk_lt _ _ l2) (bk_lt _ _ l2), u32_xor_nat _ _ (xor_lt (bk_lt _ _ l2) (bk_lt _ _ l2)) (by omega)]; rfl
              rw [e0, e1]
              omega
            · rw [if_neg hjk, if_neg hjk]
          case measure => simp [intOf]; omega
        · obtain rfl : k = 64 := by omega
          obtain ⟨c, h43, hcs, hc⟩ := rowIs_block hrk
          obtain ⟨c0, h0, hcs0, hc0⟩ := rowIs_block hr0k
          have hinf : (Tryd.prog.info? 95).map (·.size) = some c.size := by rw [hcs]; exact row64_size
          have hold : c0.size = c.size := by rw [hcs, hcs0]
          have hall := all_one_ints hc
          have HC := Lib.hid hc
          clear hc hc0 hcs0 hcs
          go_wp2_with (first
            | (refine wpList_load_row rfl _ _ rfl (w.heap.size + 1) rfl _ _ _ _ h43 Tryd.underlying95 rfl hinf ?_)
            | (refine wpList_store_row rfl _ _ _ rfl w.heap.size _ rfl rfl _ _ h0 hinf hold hall ?_))
          refine bodyPost_ret (v := .agg c) (results_cell_row rfl _ _ w.heap.size _ _ _ _ rfl (setRow_heap _ _ _ _ _ _ h0) Tryd.underlying95 rfl hinf) rfl ⟨?_, hbk.setRow (Nat.le_refl _) _⟩
          rw [HC.out, rowA]
          refine congrArg (fun l : List Value => Ending.returned (.agg l.toArray)) (List.map_congr_left fun j hj => ?_)
          rw [rowW_in W (by simpa using hj)]
theorem sched_any (s : ByteArray) (w : World) (hs : s.size = 64) :
   Calls Tryd.prog 53 #[.string s] w fun e w' => e = .returned (.agg (rowA .u32 64 fun j => (blkW s.data.toList).getD j 0)) ∧ Below w.heap.size w w' :=
  sched_gen (fun j => (blkW s.data.toList).getD j 0) s w hs (cutL_lt true s) (by rw [cutL_length, hs]) (blkW_old s hs) (blkW_lt s) (fun i h1 h2 => by have := blkW_next s hs i h1 h2; unfold schedF at this; exact this)
end Go.Proofs.YtlkdofghhibmbaaDoor
