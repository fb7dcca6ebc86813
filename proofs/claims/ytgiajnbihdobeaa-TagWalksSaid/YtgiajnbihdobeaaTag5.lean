/-
  tag: the contracts of lowest and isRow.
-/
import Derived.Test.YtgiajnbihdobeaaTag3
import Derived.Test.YtgiajnbihdobeaaTag4
import Derived.Test.YtgiajnbihdobeaaUptot
import Derived.ChangeKeysEq
import Derived.Laws.StructEq
namespace Go.Proofs.Ytgiajnbihdobeaa
open Go.RowKit Go.Kx
set_option maxRecDepth 20000

/-! ### lowest -/
theorem u8_wrap_oct (n : Nat) (h : n < 256) : IntKind.u8.wrap (n : Int) = (n : Int) := by
  simp only [IntKind.wrap, IntKind.bits, IntKind.signed]; simp; omega
def zero16b : Array Value := #[.int .u8 0, .int .u8 0, .int .u8 0, .int .u8 0, .int .u8 0, .int .u8 0, .int .u8 0, .int .u8 0, .int .u8 0, .int .u8 0, .int .u8 0, .int .u8 0, .int .u8 0, .int .u8 0, .int .u8 0, .int .u8 0]
theorem zero16b_row (w : World) (v : Nat) : (w.alloc (.cells zero16b 55)).rowIs w.heap.size 55 16 (fun j => .int .u8 (digAt v 0 j : Nat)) :=
  (rowIs_new (w := w) (t := 55) (n := 16) (z := .int .u8 0) (c := zero16b) rfl).congr fun j _ => by simp [digAt]
set_option maxHeartbeats 1000000 in
theorem lowest_any (v : Nat) (hv : v < 87112285931760246646623899502532662132736) (d : Array Value) (hd : d = nv (canon v).at) (r : ByteArray) (hr : ⟨(lowL v).toArray⟩ = r) (w : World) :
    Calls Try.prog 21 #[.agg d] w fun e w' => e = .returned (.string r) ∧ Below w.heap.size w w' := by
  have hds : d.size = 5 := by rw [hd, nv_size]
  have hinf : (Try.prog.info? 41).map (·.size) = some d.size := by rw [hds]; exact num_info
  have HDIG : Hid (∀ k : Nat, k < 17 → ∀ V : World, Calls Try.prog 26 #[.agg d, .int .i64 k] V fun e w' => e = .returned (.int .i64 (digitV v k : Nat)) ∧ Below V.heap.size V w') :=
    Lib.hid fun k hk V => digit_any v k hk (small_e hv) d hd V
  have hg0 := heap_alloc_new w (.cells d 41)
  have hg := (Below.heap_alloc _ (.cells zero16b 55) _ (by simp)).trans hg0
  have hr0 := zero16b_row (w.alloc (.cells d 41)) v
  rw [World.size_alloc] at hr0
  have hbw := (Below.alloc0 w (.cells d 41)).al (.cells zero16b 55)
  have HR := Lib.hid hr
  unfold zero16b at hg hr0 hbw
  clear hd hv hg0 hr
  go_enter Try.func21, Try.ntmps21
  go_wp2
  generalize ((w.alloc _).alloc _) = W at *
  go_loopw [4, 5] (fun _ i wr => ∃ k : Nat, k ≤ 16 ∧ i = .int .i64 k ∧ wr.heap[w.heap.size]? = some (.cells d 41 (0, 0)) ∧ wr.rowIs (w.heap.size + 1) 55 16 (fun j => .int .u8 (digAt v k j : Nat)) ∧ Below w.heap.size w wr) (fun _ i _ => 16 - (intOf i).toNat)
  case atStart => exact ⟨0, by omega, rfl, hg, hr0, hbw⟩
  case round =>
    clear hg hr0 hbw
    obtain ⟨k, hk, rfl, hg, hr, hb⟩ := hrel
    by_cases hlt : k < 16
    · have HC := Lib.hid (HDIG.out k (by omega))
      have HS := Lib.hid (digAt_set v k)
      have hx8 := digitV_lt v k
      have hw8 := u8_wrap_oct _ hx8
      generalize digitV v k = x at *
      have k0 : (k : Int) < 16 := by omega
      go_wp2_with (refine wpList_load_row rfl _ _ rfl w.heap.size rfl _ _ _ _ hg Try.underlying41 rfl hinf ?_)
      refine (HC.out _).mono ?_
      rintro e w3 ⟨rfl, hb3⟩
      have q1 := (hb3.block _ (Array.getElem?_eq_some_iff.1 hg).1).trans hg
      have qr := rowIs_keep hr hb3
      have qb := hb.next' hb3
      clear hb3 hb hr hg
      have cx := qr.cell (i := k) hlt
      have fx := qr.frozen k
      generalize digAt v k k = y at cx
      go_wp2
      go_roundw
      case rel =>
        refine ⟨k + 1, by omega, by go_num, ?_, (qr.set k _).congr fun j _ => ?_, qb.setCell (p := ⟨w.heap.size + 1, k, none⟩) (by simp) _⟩
        · rw [Below.heap_setCell _ _ _ _ (by simp)]; exact q1
        · rw [← HS.out]
          split <;> rfl
      case measure => simp [intOf]; omega
    · obtain rfl : k = 16 := by omega
      rw [show ((16 : Nat) : Int) = 16 from rfl]
      have hconv : (convert 37 9 (.slice (some ⟨w.heap.size + 1, 0, none⟩) 16 16)).run Try.prog wr = .ok (.string r) wr := by
        have hc := run_convert_bytes_back (P := Try.prog) wr 37 9 5 ⟨w.heap.size + 1, 0, none⟩ 16 (lowL v) Try.underlying37 Try.underlying5 Try.underlying9 (fun j hj => by
          have hj' : j < 16 := by rw [lowL_length] at hj; exact hj
          have := hr.cell (i := j) hj'
          have h2 := lowL_at v j hj'
          rw [List.getD_eq_getElem?_getD, List.getElem?_eq_getElem hj] at h2
          rw [show (⟨w.heap.size + 1, 0, none⟩ : Addr).add j = ⟨w.heap.size + 1, j, none⟩ by unfold Addr.add; split <;> simp_all, this, digAt, if_pos hj', ← h2]
          rfl)
        rwa [lowL_length, HR.out] at hc
      go_wp2
      go_ret
      exact ⟨rfl, hb⟩

/-! ### isRow -/
theorem cells_u64 : Try.prog.cellsOf 39 = 1 := by kernel_rfl
theorem eq5 (d : Array Value) (f : Nat → Nat) (hd : d = nv f) (V : World) : (Op.equalIn 10000 41 (.agg d) (.agg d)).run Try.prog V = .ok true V := by
  have hd' : d = #[.int .u64 (f 0 : Nat), .int .u64 (f 1 : Nat), .int .u64 (f 2 : Nat), .int .u64 (f 3 : Nat), .int .u64 (f 4 : Nat)] := hd
  rw [hd']
  clear hd hd'
  obtain ⟨i0, hi⟩ : ∃ i0, Try.prog.info? 39 = some i0 := by
    have : (Try.prog.info? 39).map (·.size) = some 1 := by kernel_rfl
    cases h : Try.prog.info? 39 with
    | none => rw [h] at this; cases this
    | some i => exact ⟨i, rfl⟩
  rw [show (10000 : Nat) = 9999 + 1 from rfl, run_equalIn_array V 9999 _ _ Try.underlying41 hi]
  rw [cells_u64, show List.range 5 = [0, 1, 2, 3, 4] from rfl]
  have ha : ∀ w : World, (isAgg 39).run Try.prog w = .ok false w := fun w => by unfold isAgg; rw [Sem.run_bind, run_underlying Try.underlying39 w]; rfl
  have he : ∀ (r : Int) (w : World), (Op.equalIn 9999 39 (.int .u64 r) (.int .u64 r)).run Try.prog w = .ok true w := fun r w => by
    have h := run_equalIn_int (P := Try.prog) w 9998 39 .u64 .u64 r r Try.underlying39
    rw [beq_self_eq_true] at h
    exact h
  simp [Op.eqItems, part, ha, he]
theorem leftV_canon (v : Nat) (h : v < bigP) : leftV (canon v) = v := by
  have h2 : (canon v).e < 4294967296 := small_e (by simp only [bigP] at h; omega)
  have a0 := canon_at_lt v 0 (by omega)
  have a1 := canon_at_lt v 1 (by omega)
  have a2 := canon_at_lt v 2 (by omega)
  have a3 := canon_at_lt v 3 (by omega)
  simp only [Num.at] at a0 a1 a2 a3
  rw [leftV, carN_val _ (by omega) (by omega) (by omega) (by omega) (by omega), valN_canon, Nat.mod_eq_of_lt h]
theorem ok_small {v : Nat} (h : v < 87112285931760246646623899502532662132736) : okF (canon v).at := ok_canon v (Nat.lt_trans (small_e h) (by omega))
theorem bigP_small : bigP < 87112285931760246646623899502532662132736 := by decide
set_option maxHeartbeats 1000000 in
theorem isRow_yes (A : Option Addr) (c : Nat) (l : List Nat) (hl : l.length = 17) (h8 : ∀ j, rowV l j < 256) (hv : digR l < bigP) (w : World) (hs : Sl w A (intsN l)) :
    Calls Try.prog 14 #[.slice A 17 c] w fun e w' => e = .returned (.bool true) ∧ Below w.heap.size w w' := by
  obtain ⟨n, hn⟩ : ∃ n, digR l = n := ⟨_, rfl⟩
  obtain ⟨d, hd⟩ : ∃ d, d = nv (canon n).at := ⟨_, rfl⟩
  rw [hn] at hv
  have hns : n < 87112285931760246646623899502532662132736 := Nat.lt_trans hv bigP_small
  have HROW : Hid (∀ V : World, Sl V A (intsN l) → Calls Try.prog 15 #[.slice A 17 c] V fun e w' => e = .returned (.agg d) ∧ Below V.heap.size V w') :=
    Lib.hid fun V hV => ofRow_any A c l hl h8 d (by rw [hd, hn]) V hV
  have HLEFT : Hid (∀ V : World, Calls Try.prog 22 #[.agg d] V fun e w' => e = .returned (.agg d) ∧ Below V.heap.size V w') :=
    Lib.hid fun V => left_any (canon n) (ok_small hns) d hd d (by rw [leftV_canon n hv]; exact hd) V
  have heq := eq5 d _ hd
  have hds : d.size = 5 := by rw [hd, nv_size]
  have hinf : (Try.prog.info? 41).map (·.size) = some d.size := by rw [hds]; exact num_info
  have hall : d.all (·.oneCell') = true := by rw [hd]; exact nv_all _
  have hold : zero5.size = d.size := by rw [hds]; rfl
  have HSL := Lib.hid hs
  unfold zero5 at hold
  clear hn hd hv hns hs
  go_enter Try.func14, Try.ntmps14
  go_wp2
  go_loop [4, 11] (fun _ i => ∃ k : Nat, k ≤ 17 ∧ i = .int .i64 k) (fun _ i => 17 - (intOf i).toNat)
  case atStart => exact ⟨0, by omega, rfl⟩
  case round =>
    obtain ⟨k, hk, rfl⟩ := hrel
    by_cases hlt : k < 17
    · obtain ⟨b, off, u, rfl, hu, hcell⟩ := HSL.out.at_ (k := k) (by simpa [intsN] using (show k < l.length by omega))
      rw [intsN_at (by omega)] at hu
      obtain rfl : Value.int .i64 (rowV l k : Nat) = u := by simpa using hu
      have hx8 := h8 k
      clear hu
      generalize rowV l k = x at *
      have t1 : ¬ (x : Int) < 0 := by omega
      have t2 : ¬ (255 : Int) < (x : Int) := by omega
      go_wp2
      go_round
      case rel => exact ⟨k + 1, by omega, by go_num⟩
      case measure => simp [intOf]; omega
    · obtain rfl : k = 17 := by omega
      rw [show ((17 : Nat) : Int) = 17 from rfl]
      go_wp2_with fail
      refine (HROW.out _ HSL.out).mono ?_
      rintro e w1 ⟨rfl, hb1⟩
      have hA := heap_alloc_new w1 (.cells zero5 41)
      have hb := hb1.al (.cells zero5 41)
      unfold zero5 at hA hb
      have h1 := setRow_heap _ w1.heap.size _ d _ _ hA
      have hb2 := hb.setRow (g := w1.heap.size) hb1.size d
      clear hb1 hb
      go_wp2_with (refine wpList_store_row rfl _ _ _ rfl w1.heap.size _ rfl rfl _ _ hA hinf hold hall ?_)
      simp only [Act.put]
      generalize World.setRow _ _ _ = V at *
      refine Uptot.begin_ [] (fun w' : World => w'.heap[w1.heap.size]? = some (.cells d 41 (0, 0))) (fun _ : World => True) (by kernel_rfl) ?_
      have hST : V.drew.heap[w1.heap.size]? = some (.cells d 41 (0, 0)) ∧ True := ⟨h1, trivial⟩
      have hbD := hb2.drew
      clear h1 hb2 hA
      generalize V.drew = V2 at *
      refine Uptot.takeS (i := 0) rfl (by kernel_rfl) (by kernel_rfl) (by kernel_rfl) (by kernel_rfl) (fun _ _ _ h => h) (yields_load_row rfl _ _ rfl w1.heap.size rfl _ _ _ _ (fun _ h => h) Try.underlying41 rfl hinf) hST ?_
      try simp only [Act.put, List.setIfInBounds_toArray, List.set_cons_zero, List.set_cons_succ]
      refine Uptot.takeS (i := 1) rfl (by kernel_rfl) (by kernel_rfl) (by kernel_rfl) (by kernel_rfl) (fun _ _ _ h => h) (yields_load_row rfl _ _ rfl w1.heap.size rfl _ _ _ _ (fun _ h => h) Try.underlying41 rfl hinf) hST ?_
      try simp only [Act.put, List.setIfInBounds_toArray, List.set_cons_zero, List.set_cons_succ]
      refine Uptot.one (i := 2) rfl (by kernel_rfl) (fun K hK => ?_)
      go_simp
      go_at_call 22
      refine (HLEFT.out _).mono ?_
      rintro e' w3 ⟨rfl, hb3⟩
      have hST2 : w3.heap[w1.heap.size]? = some (.cells d 41 (0, 0)) ∧ True := ⟨(hb3.block _ (Array.getElem?_eq_some_iff.1 hST.1).1).trans hST.1, trivial⟩
      refine hK.out _ _ (Cond.ahead hST2) ?_
      clear hK K
      try simp only [Act.put, List.setIfInBounds_toArray, List.set_cons_zero, List.set_cons_succ]
      refine Uptot.one (i := 3) rfl (by kernel_rfl) (fun K hK => ?_)
      go_simp
      refine hK.out _ _ (Cond.ahead hST2) ?_
      clear hK K
      try simp only [Act.put, List.setIfInBounds_toArray, List.set_cons_zero, List.set_cons_succ]
      refine Uptot.one (i := 4) rfl (by kernel_rfl) (fun K hK => ?_)
      go_simp
      refine hK.out _ _ (Cond.ahead hST2) ?_
      clear hK K
      try simp only [Act.put, List.setIfInBounds_toArray, List.set_cons_zero, List.set_cons_succ]
      refine Uptot.done (by kernel_rfl) ?_ _
      go_wp2
      go_ret
      exact ⟨rfl, hbD.next' hb3⟩
end Go.Proofs.Ytgiajnbihdobeaa
