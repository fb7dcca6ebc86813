/-
  tag: the contracts of plus and times.
-/
import Derived.Test.YtapbjmeilhcmaaaDoorTag1
namespace Go.Proofs.YtapbjmeilhcmaaaDoor
open Go.RowKit Go.Kx
set_option maxRecDepth 20000

theorem u64_size : (Tryd.prog.info? 45).map (·.size) = some 1 := by kernel_rfl
theorem nv_index (f : Nat → Nat) (d : Array Value) (hd : d = nv f) (k : Nat) (hk : k < 5) (V : World) : (Instr.index 47 (.agg d) (.int .i64 (k : Int))).run Tryd.prog V = .ok (.int .u64 (f k : Nat)) V := by
  subst hd
  exact run_index_ints Tryd.underlying47 u64_size Tryd.underlying45 hk (rowA_at .u64 5 f k hk) V
def addK (f g : Nat → Nat) (k j : Nat) : Nat := if j < k then addF f g j else f j
theorem addK_same (f g : Nat → Nat) (k : Nat) : addK f g k k = f k := if_neg (by omega)
theorem addK_zero (f g : Nat → Nat) (j : Nat) : addK f g 0 j = f j := if_neg (by omega)
theorem addK_all (f g : Nat → Nat) (j : Nat) (h : j < 5) : addK f g 5 j = addF f g j := if_pos h
theorem addK_set (f g : Nat → Nat) (k j : Nat) (z : Nat) (hz : z = addF f g k) : (if j = k then z else addK f g k j) = addK f g (k + 1) j := by
  subst hz
  unfold addK
  by_cases h : j = k
  · subst h; simp
  · rw [if_neg h]
    by_cases h2 : j < k
    · rw [if_pos h2, if_pos (by omega)]
    · rw [if_neg h2, if_neg (by omega)]
theorem nv_row' {w : World} {n : Nat} (f : Nat → Nat) (d : Array Value) (hd : d = nv f) (hn : n = w.heap.size) : (w.alloc (.cells d 47)).rowIs n 47 5 (fun j => .int .u64 (f j : Nat)) := by
  subst hd hn
  exact nv_row f
theorem zero_row' {w : World} {n : Nat} (hn : n = w.heap.size) : (w.alloc (.cells zero5 47)).rowIs n 47 5 (fun _ => .int .u64 0) := nv_row' (fun _ => 0) zero5 zero5_eq hn
set_option maxHeartbeats 1000000 in
theorem plus_any (f g : Nat → Nat) (d : Array Value) (hd : d = nv f) (c : Array Value) (hc : c = nv g) (r : Array Value) (hr : r = nv (carK (addF f g) 4)) (w : World) :
    Calls Tryd.prog 24 #[.agg d, .agg c] w fun e w' => e = .returned (.agg r) ∧ Below w.heap.size w w' := by
  have hr0 := ((nv_row' (w := w) f d hd rfl).alloc (.cells c 47)).alloc (.cells zero5 47)
  have hz0 := zero_row' (w := (w.alloc (.cells d 47)).alloc (.cells c 47)) (n := w.heap.size + 1 + 1) (by simp)
  have hbw := ((Below.alloc0 w (.cells d 47)).al (.cells c 47)).al (.cells zero5 47)
  have hg1 : ((w.alloc (.cells d 47)).alloc (.cells c 47)).heap[w.heap.size + 1]? = some (.cells c 47 (0, 0)) := by
    have := heap_alloc_new (w.alloc (.cells d 47)) (.cells c 47)
    rwa [World.size_alloc] at this
  have hg := (Below.heap_alloc _ (.cells zero5 47) _ (by simp)).trans hg1
  have hcs : c.size = 5 := by rw [hc, nv_size]
  have hinfc : (Tryd.prog.info? 47).map (·.size) = some c.size := by rw [hcs]; exact num_info
  have HIX := Lib.hid (nv_index g c hc)
  have hrs : r.size = 5 := by rw [hr, nv_size]
  have hall : r.all (·.oneCell') = true := by rw [hr]; exact nv_all _
  obtain ⟨m, hm⟩ : ∃ m, m = nv (addF f g) := ⟨_, rfl⟩
  have HCAR : Hid (∀ V : World, Calls Tryd.prog 34 #[.agg m] V fun e w' => e = .returned (.agg r) ∧ Below V.heap.size V w') := Lib.hid fun V => car_any _ (addF_ok f g) m hm r hr V
  have hms : m.size = 5 := by rw [hm, nv_size]
  have HM := Lib.hid hm
  unfold zero5 at hr0 hz0 hbw hg
  clear hd hc hr hg1 hm
  go_enter Tryd.func24, Tryd.ntmps24
  go_wp2_with (refine wpList_load_row rfl _ _ rfl (w.heap.size + 1) rfl _ _ _ _ hg Tryd.underlying47 rfl hinfc ?_)
  clear hg hinfc
  generalize (((w.alloc _).alloc _).alloc _) = W at *
  go_loopw [5, 6, 8] (fun _ _ i wr => ∃ k : Nat, k ≤ 5 ∧ i = .int .i64 k ∧ wr.rowIs w.heap.size 47 5 (fun j => .int .u64 (addK f g k j : Nat)) ∧ wr.rowIs (w.heap.size + 1 + 1) 47 5 (fun _ => .int .u64 0) ∧ Below w.heap.size w wr) (fun _ _ i _ => 5 - (intOf i).toNat)
  case atStart => exact ⟨0, by omega, rfl, hr0, hz0, hbw⟩
  case round =>
    clear hr0 hz0 hbw
    obtain ⟨k, hk, rfl, hrow, hzr, hb⟩ := hrel
    by_cases hlt : k < 5
    · have cx := hrow.cell (i := k) hlt
      have fx := hrow.frozen k
      have hix := HIX.out k hlt
      rw [addK_same] at cx
      obtain ⟨z, hz⟩ : ∃ z, z = addF f g k := ⟨_, rfl⟩
      have HS := Lib.hid fun j => addK_set f g k j z hz
      have hzz : IntKind.u64.wrap ((f k : Int) + (g k : Int)) = (z : Int) := by rw [hz, addF, ← wrapU64]; congr 1
      generalize f k = x at *
      generalize g k = y at *
      clear hz
      go_wp2
      go_roundw
      case rel =>
        refine ⟨k + 1, by omega, by go_num, (hrow.set k _).congr fun j _ => ?_, hzr.setOther (a := ⟨w.heap.size, k, none⟩) (by simp; omega) _, hb.setCell (p := ⟨w.heap.size, k, none⟩) (by simp) _⟩
        rw [← HS.out]
        split <;> rfl
      case measure => simp [intOf]; omega
    · obtain rfl : k = 5 := by omega
      rw [show ((5 : Nat) : Int) = 5 from rfl]
      have h1 : wr.heap[w.heap.size]? = some (.cells m 47 (0, 0)) := by rw [HM.out]; exact nv_heap (hrow.congr fun j hj => by rw [addK_all f g j hj])
      have h2 := nv_heap (f := fun _ => 0) hzr
      have hinf : (Tryd.prog.info? 47).map (·.size) = some r.size := by rw [hrs]; exact num_info
      have hinfm : (Tryd.prog.info? 47).map (·.size) = some m.size := by rw [hms]; exact num_info
      have hold : (nv (fun _ => 0)).size = r.size := by rw [hrs, nv_size]
      have hl2 := hzr.lt
      clear hrow hzr HM HIX
      go_wp2_with (first
        | (refine wpList_load_row rfl _ _ rfl w.heap.size rfl _ _ _ _ h1 Tryd.underlying47 rfl hinfm ?_))
      refine (HCAR.out _).mono ?_
      rintro e w2 ⟨rfl, hb2⟩
      have h3 := (hb2.block _ hl2).trans h2
      have hbn := hb.next' hb2
      clear h1 h2 hb hb2
      go_wp2_with (first
        | (refine wpList_store_row rfl _ _ _ rfl (w.heap.size + 1 + 1) _ rfl rfl _ _ h3 hinf hold hall ?_))
      exact bodyPost_ret (v := .agg r) (results_cell_row rfl _ _ (w.heap.size + 1 + 1) _ _ _ _ rfl (setRow_heap _ _ _ _ _ _ h3) Tryd.underlying47 rfl hinf) rfl ⟨rfl, hbn.setRow (by omega) _⟩

/-! ### times -/
theorem prodJ_set (f g : Nat → Nat) (i : Nat) (p : Nat → Nat) (j : Nat) (q : Nat) (hq : (i + j) % 5 = q) (z : Nat) (hz : z = (prodJ f g i p j q + prodC f g i j) % 18446744073709551616) (c : Nat) :
    (if c = q then z else prodJ f g i p j c) = prodJ f g i p (j + 1) c := by
  subst hq hz
  by_cases h : c = (i + j) % 5
  · subst h; simp [prodJ]
  · simp [prodJ, h]
theorem mod5 (i j : Nat) : ((i : Int) + (j : Int)).tmod 5 = (((i + j) % 5 : Nat) : Int) := by rw [Int.tmod_eq_emod_of_nonneg (by omega)]; omega
theorem wrapMul (x y : Nat) : IntKind.u64.wrap ((x : Int) * (y : Int)) = ((x * y % 18446744073709551616 : Nat) : Int) := by rw [← wrapU64, Int.natCast_mul]
set_option maxHeartbeats 2000000 in
theorem times_any (f g : Nat → Nat) (d : Array Value) (hd : d = nv f) (c : Array Value) (hc : c = nv g) (r : Array Value) (hr : r = nv (prodI f g 5)) (w : World) :
    Calls Tryd.prog 36 #[.agg d, .agg c] w fun e w' => e = .returned (.agg r) ∧ Below w.heap.size w w' := by
  have hz2 := (zero_row' (w := (w.alloc (.cells d 47)).alloc (.cells c 47)) (n := w.heap.size + 1 + 1) (by simp)).alloc (.cells zero5 47)
  have hz3 : ((((w.alloc (.cells d 47)).alloc (.cells c 47)).alloc (.cells zero5 47)).alloc (.cells zero5 47)).rowIs (w.heap.size + 1 + 1 + 1) 47 5 (fun _ => .int .u64 0) := zero_row' (by simp)
  have hbw := (((Below.alloc0 w (.cells d 47)).al (.cells c 47)).al (.cells zero5 47)).al (.cells zero5 47)
  have hg0 : (((w.alloc (.cells d 47)).alloc (.cells c 47)).alloc (.cells zero5 47)).heap[w.heap.size]? = some (.cells d 47 (0, 0)) := by
    rw [Below.heap_alloc _ _ _ (by simp; omega), Below.heap_alloc _ _ _ (by simp)]
    exact heap_alloc_new w _
  have hg1 : (((w.alloc (.cells d 47)).alloc (.cells c 47)).alloc (.cells zero5 47)).heap[w.heap.size + 1]? = some (.cells c 47 (0, 0)) := by
    rw [Below.heap_alloc _ _ _ (by simp)]
    have := heap_alloc_new (w.alloc (.cells d 47)) (.cells c 47)
    rwa [World.size_alloc] at this
  have hG0 := (Below.heap_alloc _ (.cells zero5 47) _ (by simp; omega)).trans hg0
  have hG1 := (Below.heap_alloc _ (.cells zero5 47) _ (by simp)).trans hg1
  have hds : d.size = 5 := by rw [hd, nv_size]
  have hcs : c.size = 5 := by rw [hc, nv_size]
  have hinfd : (Tryd.prog.info? 47).map (·.size) = some d.size := by rw [hds]; exact num_info
  have hinfc : (Tryd.prog.info? 47).map (·.size) = some c.size := by rw [hcs]; exact num_info
  have HIXD := Lib.hid (nv_index f d hd)
  have HIXC := Lib.hid (nv_index g c hc)
  have hrs : r.size = 5 := by rw [hr, nv_size]
  have hall : r.all (·.oneCell') = true := by rw [hr]; exact nv_all _
  have HR := Lib.hid hr
  unfold zero5 at hz2 hz3 hbw hG0 hG1
  clear hd hc hr hg0 hg1
  go_enter Tryd.func36, Tryd.ntmps36
  go_wp2_with (first
    | (refine wpList_load_row rfl _ _ rfl w.heap.size rfl _ _ _ _ hG0 Tryd.underlying47 rfl hinfd ?_))
  clear hG0 hinfd
  generalize ((((w.alloc _).alloc _).alloc _).alloc _) = W at *
  go_loopw [6, 7, 8, 9, 10, 12] (fun _ _ _ _ _ i wr => ∃ k : Nat, k ≤ 5 ∧ i = .int .i64 k ∧ wr.heap[w.heap.size + 1]? = some (.cells c 47 (0, 0)) ∧ wr.rowIs (w.heap.size + 1 + 1) 47 5 (fun _ => .int .u64 0) ∧
    wr.rowIs (w.heap.size + 1 + 1 + 1) 47 5 (fun j => .int .u64 (prodI f g k j : Nat)) ∧ Below w.heap.size w wr) (fun _ _ _ _ _ i _ => 5 - (intOf i).toNat)
  case atStart => exact ⟨0, by omega, rfl, hG1, hz2, hz3, hbw⟩
  case round =>
    clear hG1 hz2 hz3 hbw
    obtain ⟨k, hk, rfl, hG1, hz2, hp, hb⟩ := hrel
    by_cases hlt : k < 5
    · have hix := HIXD.out k hlt
      have HP1 : Hid (∀ c, prodJ f g k (prodI f g k) 5 c = prodI f g (k + 1) c) := Lib.hid fun _ => rfl
      have HP0 : Hid (∀ c, prodJ f g k (prodI f g k) 0 c = prodI f g k c) := Lib.hid fun _ => rfl
      generalize prodI f g k = P at *
      go_wp2_with (first
        | (refine wpList_load_row rfl _ _ rfl (w.heap.size + 1) rfl _ _ _ _ hG1 Tryd.underlying47 rfl hinfc ?_))
      clear hix
      go_loopw [8, 9, 10, 17] (fun _ _ _ i wr => ∃ l : Nat, l ≤ 5 ∧ i = .int .i64 l ∧ wr.heap[w.heap.size + 1]? = some (.cells c 47 (0, 0)) ∧ wr.rowIs (w.heap.size + 1 + 1) 47 5 (fun _ => .int .u64 0) ∧
        wr.rowIs (w.heap.size + 1 + 1 + 1) 47 5 (fun j => .int .u64 (prodJ f g k P l j : Nat)) ∧ Below w.heap.size w wr) (fun _ _ _ i _ => 5 - (intOf i).toNat)
      case atStart => exact ⟨0, by omega, rfl, hG1, hz2, hp, hb⟩
      case round =>
        clear hG1 hz2 hp hb
        obtain ⟨l, hl, rfl, hG1, hz2, hp, hb⟩ := hrel
        by_cases hll : l < 5
        · have hjx := HIXC.out l hll
          obtain ⟨q, hq⟩ : ∃ q, (k + l) % 5 = q := ⟨_, rfl⟩
          have hql : q < 5 := by omega
          have hq5 : (q : Int) < 5 := by omega
          have hmod : ((k : Int) + (l : Int)).tmod 5 = (q : Int) := by rw [mod5, hq]
          have hwk : IntKind.i64.wrap ((k : Int) + (l : Int)) = (k : Int) + (l : Int) := IntWalk.i64_in _ (by omega)
          have cx := hp.cell (i := q) hql
          have fx := hp.frozen q
          obtain ⟨z, hz⟩ : ∃ z, z = (prodJ f g k P l q + prodC f g k l) % 18446744073709551616 := ⟨_, rfl⟩
          have HS : Hid (∀ c, (if c = q then z else prodJ f g k P l c) = prodJ f g k P (l + 1) c) := Lib.hid fun c => prodJ_set f g k P l q hq z hz c
          generalize prodJ f g k P l q = y at *
          unfold prodC at hz
          have hmul := wrapMul (f k) (g l)
          generalize f k = x1 at *
          generalize g l = x2 at *
          generalize x1 * x2 % 18446744073709551616 = p1 at *
          by_cases h5 : 5 ≤ k + l
          · have t5 : (5 : Int) ≤ (k : Int) + (l : Int) := by omega
            rw [if_pos h5] at hz
            have hm5 : IntKind.u64.wrap ((p1 : Int) * 5) = ((p1 * 5 % 18446744073709551616 : Nat) : Int) := wrapMul p1 5
            generalize p1 * 5 % 18446744073709551616 = p2 at *
            have hzz : IntKind.u64.wrap ((y : Int) + (p2 : Int)) = (z : Int) := by rw [hz, ← wrapU64]; congr 1
            clear hz hq h5
            go_wp2
            go_roundw
            case rel =>
              refine ⟨l + 1, by omega, by go_num, ?_, hz2.setOther (a := ⟨w.heap.size + 1 + 1 + 1, q, none⟩) (by simp) _, (hp.set q _).congr fun j _ => ?_, hb.setCell (p := ⟨w.heap.size + 1 + 1 + 1, q, none⟩) (by simp; omega) _⟩
              · rw [Below.heap_setCell _ _ _ _ (by simp)]; exact hG1
              · rw [← HS.out]
                split <;> rfl
            case measure => simp [intOf]; omega
          · have t5 : ¬ (5 : Int) ≤ (k : Int) + (l : Int) := by omega
            rw [if_neg h5] at hz
            have hzz : IntKind.u64.wrap ((y : Int) + (p1 : Int)) = (z : Int) := by rw [hz, ← wrapU64]; congr 1
            clear hz hq h5
            go_wp2
            go_roundw
            case rel =>
              refine ⟨l + 1, by omega, by go_num, ?_, hz2.setOther (a := ⟨w.heap.size + 1 + 1 + 1, q, none⟩) (by simp) _, (hp.set q _).congr fun j _ => ?_, hb.setCell (p := ⟨w.heap.size + 1 + 1 + 1, q, none⟩) (by simp; omega) _⟩
              · rw [Below.heap_setCell _ _ _ _ (by simp)]; exact hG1
              · rw [← HS.out]
                split <;> rfl
            case measure => simp [intOf]; omega
        · obtain rfl : l = 5 := by omega
          rw [show ((5 : Nat) : Int) = 5 from rfl]
          go_wp2
          go_roundw
          case rel => exact ⟨k + 1, by omega, by go_num, hG1, hz2, hp.congr fun j _ => by rw [HP1.out], hb⟩
          case measure => simp [intOf]; omega
    · obtain rfl : k = 5 := by omega
      rw [show ((5 : Nat) : Int) = 5 from rfl]
      have h1 := nv_heap hp
      rw [← HR.out] at h1
      have h2 := nv_heap (f := fun _ => 0) hz2
      have hinf : (Tryd.prog.info? 47).map (·.size) = some r.size := by rw [hrs]; exact num_info
      have hold : (nv (fun _ => 0)).size = r.size := by rw [hrs, nv_size]
      clear hp hz2 hG1 HR HIXD HIXC
      go_wp2_with (first
        | (refine wpList_load_row rfl _ _ rfl (w.heap.size + 1 + 1 + 1) rfl _ _ _ _ h1 Tryd.underlying47 rfl hinf ?_)
        | (refine wpList_store_row rfl _ _ _ rfl (w.heap.size + 1 + 1) _ rfl rfl _ _ h2 hinf hold hall ?_))
      exact bodyPost_ret (v := .agg r) (results_cell_row rfl _ _ (w.heap.size + 1 + 1) _ _ _ _ rfl (setRow_heap _ _ _ _ _ _ h2) Tryd.underlying47 rfl hinf) rfl ⟨rfl, hb.setRow (by omega) _⟩
end Go.Proofs.YtapbjmeilhcmaaaDoor
