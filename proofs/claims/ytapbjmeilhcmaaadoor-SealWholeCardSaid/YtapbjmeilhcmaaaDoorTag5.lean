/-
  tag: the contract of lowest.
-/
import Derived.Test.YtapbjmeilhcmaaaDoorTag3
import Derived.Test.YtapbjmeilhcmaaaDoorTag4
import Derived.Test.YtapbjmeilhcmaaaDoorUptot
import Derived.ChangeKeysEq
import Derived.Laws.StructEq
namespace Go.Proofs.YtapbjmeilhcmaaaDoor
open Go.RowKit Go.Kx
set_option maxRecDepth 20000

/-! ### lowest -/
theorem u8_wrap_oct (n : Nat) (h : n < 256) : IntKind.u8.wrap (n : Int) = (n : Int) := by
  simp only [IntKind.wrap, IntKind.bits, IntKind.signed]; simp; omega
def zero16b : Array Value := #[.int .u8 0, .int .u8 0, .int .u8 0, .int .u8 0, .int .u8 0, .int .u8 0, .int .u8 0, .int .u8 0, .int .u8 0, .int .u8 0, .int .u8 0, .int .u8 0, .int .u8 0, .int .u8 0, .int .u8 0, .int .u8 0]
theorem zero16b_row (w : World) (v : Nat) : (w.alloc (.cells zero16b 67)).rowIs w.heap.size 67 16 (fun j => .int .u8 (digAt v 0 j : Nat)) :=
  (rowIs_new (w := w) (t := 67) (n := 16) (z := .int .u8 0) (c := zero16b) rfl).congr fun j _ => by simp [digAt]
set_option maxHeartbeats 1000000 in
theorem lowest_any (v : Nat) (hv : v < 87112285931760246646623899502532662132736) (d : Array Value) (hd : d = nv (canon v).at) (r : ByteArray) (hr : ⟨(lowL v).toArray⟩ = r) (w : World) :
    Calls Tryd.prog 25 #[.agg d] w fun e w' => e = .returned (.string r) ∧ Below w.heap.size w w' := by
  have hds : d.size = 5 := by rw [hd, nv_size]
  have hinf : (Tryd.prog.info? 47).map (·.size) = some d.size := by rw [hds]; exact num_info
  have HDIG : Hid (∀ k : Nat, k < 17 → ∀ V : World, Calls Tryd.prog 38 #[.agg d, .int .i64 k] V fun e w' => e = .returned (.int .i64 (digitV v k : Nat)) ∧ Below V.heap.size V w') :=
    Lib.hid fun k hk V => digit_any v k hk (small_e hv) d hd V
  have hg0 := heap_alloc_new w (.cells d 47)
  have hg := (Below.heap_alloc _ (.cells zero16b 67) _ (by simp)).trans hg0
  have hr0 := zero16b_row (w.alloc (.cells d 47)) v
  rw [World.size_alloc] at hr0
  have hbw := (Below.alloc0 w (.cells d 47)).al (.cells zero16b 67)
  have HR := Lib.hid hr
  unfold zero16b at hg hr0 hbw
  clear hd hv hg0 hr
  go_enter Tryd.func25, Tryd.ntmps25
  go_wp2
  generalize ((w.alloc _).alloc _) = W at *
  go_loopw [4, 5] (fun _ i wr => ∃ k : Nat, k ≤ 16 ∧ i = .int .i64 k ∧ wr.heap[w.heap.size]? = some (.cells d 47 (0, 0)) ∧ wr.rowIs (w.heap.size + 1) 67 16 (fun j => .int .u8 (digAt v k j : Nat)) ∧ Below w.heap.size w wr) (fun _ i _ => 16 - (intOf i).toNat)
  case atStart => exact ⟨0, by omega, rfl, hg, hr0, hbw⟩
  case round =>
    clear hg hr0 hbw
    obtain ⟨k, hk, rfl, hg, hr, hb⟩ := hrel
    by_cases hlt : k < 16
    · have HC := Lib.hid (HDIG.out k (by omega))
      have HS := Lib.hid (digAt_set v k)
      have hx8 := digitV_lt v k
      have hw8 := u8_wrap_oct _ hx8
      generalize digitV v k = x at *
      have k0 : (k : Int) < 16 := by omega
      go_wp2_with (refine wpList_load_row rfl _ _ rfl w.heap.size rfl _ _ _ _ hg Tryd.underlying47 rfl hinf ?_)
      refine (HC.out _).mono ?_
      rintro e w3 ⟨rfl, hb3⟩
      have q1 := (hb3.block _ (Array.getElem?_eq_some_iff.1 hg).1).trans hg
      have qr := rowIs_keep hr hb3
      have qb := hb.next' hb3
      clear hb3 hb hr hg
      have cx := qr.cell (i := k) hlt
      have fx := qr.frozen k
      generalize digAt v k k = y at cx
      go_wp2
      go_roundw
      case rel =>
        refine ⟨k + 1, by omega, by go_num, ?_, (qr.set k _).congr fun j _ => ?_, qb.setCell (p := ⟨w.heap.size + 1, k, none⟩) (by simp) _⟩
        · rw [Below.heap_setCell _ _ _ _ (by simp)]; exact q1
        · rw [← HS.out]
          split <;> rfl
      case measure => simp [intOf]; omega
    · obtain rfl : k = 16 := by omega
      rw [show ((16 : Nat) : Int) = 16 from rfl]
      have hconv : (convert 27 9 (.slice (some ⟨w.heap.size + 1, 0, none⟩) 16 16)).run Tryd.prog wr = .ok (.string r) wr := by
        have hc := run_convert_bytes_back (P := Tryd.prog) wr 27 9 5 ⟨w.heap.size + 1, 0, none⟩ 16 (lowL v) Tryd.underlying27 Tryd.underlying5 Tryd.underlying9 (fun j hj => by
          have hj' : j < 16 := by rw [lowL_length] at hj; exact hj
          have := hr.cell (i := j) hj'
          have h2 := lowL_at v j hj'
          rw [List.getD_eq_getElem?_getD, List.getElem?_eq_getElem hj] at h2
          rw [show (⟨w.heap.size + 1, 0, none⟩ : Addr).add j = ⟨w.heap.size + 1, j, none⟩ by unfold Addr.add; split <;> simp_all, this, digAt, if_pos hj', ← h2]
          rfl)
        rwa [lowL_length, HR.out] at hc
      go_wp2
      go_ret
      exact ⟨rfl, hb⟩

/-! ### numbers told equal -/
theorem cells_u64 : Tryd.prog.cellsOf 45 = 1 := by kernel_rfl
theorem eq5 (d : Array Value) (f : Nat → Nat) (hd : d = nv f) (V : World) : (Op.equalIn 10000 47 (.agg d) (.agg d)).run Tryd.prog V = .ok true V := by
  have hd' : d = #[.int .u64 (f 0 : Nat), .int .u64 (f 1 : Nat), .int .u64 (f 2 : Nat), .int .u64 (f 3 : Nat), .int .u64 (f 4 : Nat)] := hd
  rw [hd']
  clear hd hd'
  obtain ⟨i0, hi⟩ : ∃ i0, Tryd.prog.info? 45 = some i0 := by
    have : (Tryd.prog.info? 45).map (·.size) = some 1 := by kernel_rfl
    cases h : Tryd.prog.info? 45 with
    | none => rw [h] at this; cases this
    | some i => exact ⟨i, rfl⟩
  rw [show (10000 : Nat) = 9999 + 1 from rfl, run_equalIn_array V 9999 _ _ Tryd.underlying47 hi]
  rw [cells_u64, show List.range 5 = [0, 1, 2, 3, 4] from rfl]
  have ha : ∀ w : World, (isAgg 45).run Tryd.prog w = .ok false w := fun w => by unfold isAgg; rw [Sem.run_bind, run_underlying Tryd.underlying45 w]; rfl
  have he : ∀ (r : Int) (w : World), (Op.equalIn 9999 45 (.int .u64 r) (.int .u64 r)).run Tryd.prog w = .ok true w := fun r w => by
    have h := run_equalIn_int (P := Tryd.prog) w 9998 45 .u64 .u64 r r Tryd.underlying45
    rw [beq_self_eq_true] at h
    exact h
  simp [Op.eqItems, part, ha, he]
theorem leftV_canon (v : Nat) (h : v < bigP) : leftV (canon v) = v := by
  have h2 : (canon v).e < 4294967296 := small_e (by simp only [bigP] at h; omega)
  have a0 := canon_at_lt v 0 (by omega)
  have a1 := canon_at_lt v 1 (by omega)
  have a2 := canon_at_lt v 2 (by omega)
  have a3 := canon_at_lt v 3 (by omega)
  simp only [Num.at] at a0 a1 a2 a3
  rw [leftV, carN_val _ (by omega) (by omega) (by omega) (by omega) (by omega), valN_canon, Nat.mod_eq_of_lt h]
theorem ok_small {v : Nat} (h : v < 87112285931760246646623899502532662132736) : okF (canon v).at := ok_canon v (Nat.lt_trans (small_e h) (by omega))
theorem bigP_small : bigP < 87112285931760246646623899502532662132736 := by decide
end Go.Proofs.YtapbjmeilhcmaaaDoor
