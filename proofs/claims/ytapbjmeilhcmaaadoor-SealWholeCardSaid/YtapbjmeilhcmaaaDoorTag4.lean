/-
  tag: the contract of ofText; rows of 17 digits.
-/
import Derived.Test.YtapbjmeilhcmaaaDoorTag1
import Derived.Test.YtapbjmeilhcmaaaDoorStil
import Derived.Test.YtapbjmeilhcmaaaDoorInfo
namespace Go.Proofs.YtapbjmeilhcmaaaDoor
open Go.RowKit Go.Kx
set_option maxRecDepth 20000

theorem zero5_heap (w : World) : (w.alloc (.cells zero5 47)).heap[w.heap.size]? = some (.cells zero5 47 (0, 0)) := heap_alloc_new w _
theorem str_octV (s : ByteArray) (k : Nat) (h : k < s.size) : octV s.data.toList k = s[k].toNat := by
  rw [octV, List.getD_eq_getElem?_getD, List.getElem?_eq_getElem (by simpa using h)]; rfl
set_option maxHeartbeats 1000000 in
theorem ofText_any (s : ByteArray) (hs : s.size ≤ 17) (r : Array Value) (hr : r = nv (canon (digT s.data.toList)).at) (w : World) :
    Calls Tryd.prog 21 #[.string s] w fun e w' => e = .returned (.agg r) ∧ Below w.heap.size w w' := by
  have hrs : r.size = 5 := by rw [hr, nv_size]
  have hall : r.all (·.oneCell') = true := by rw [hr]; exact nv_all _
  have hinf : (Tryd.prog.info? 47).map (·.size) = some r.size := by rw [hrs]; exact num_info
  have hn0 : ((w.alloc (.cells zero5 47)).alloc (.cells zero5 47)).heap[w.heap.size + 1]? = some (.cells (nv (withK (octV s.data.toList) 0)) 47 (0, 0)) := by
    have := zero5_heap (w.alloc (.cells zero5 47))
    rw [World.size_alloc] at this
    exact this
  have hz0 : ((w.alloc (.cells zero5 47)).alloc (.cells zero5 47)).heap[w.heap.size]? = some (.cells (nv (fun _ => 0)) 47 (0, 0)) := (Below.heap_alloc _ _ _ (by simp)).trans (zero5_heap w)
  have hbw := (Below.alloc0 w (.cells zero5 47)).al (.cells zero5 47)
  have HR : Hid (∀ n, n = s.size → r = nv (carK (withK (octV s.data.toList) n) 4)) := Lib.hid fun n hn => by
    rw [hr, digT, show s.data.toList.length = n by rw [hn]; simp, ← withK_car (octV_lt _) n (by omega)]
    exact nv_ofF _
  unfold zero5 at hn0 hz0 hbw
  clear hr
  go_enter Tryd.func21, Tryd.ntmps21
  go_wp2
  generalize ((w.alloc _).alloc _) = W at *
  go_loopw [4, 7] (fun _ i wr => ∃ k : Nat, k ≤ s.size ∧ i = .int .i64 k ∧ wr.heap[w.heap.size + 1]? = some (.cells (nv (withK (octV s.data.toList) k)) 47 (0, 0)) ∧ wr.heap[w.heap.size]? = some (.cells (nv (fun _ => 0)) 47 (0, 0)) ∧ Below w.heap.size w wr) (fun _ i _ => s.size - (intOf i).toNat)
  case atStart => exact ⟨0, by omega, rfl, hn0, hz0, hbw⟩
  case round =>
    clear hn0 hz0 hbw
    obtain ⟨k, hk, rfl, hn, hz, hb⟩ := hrel
    by_cases hlt : k < s.size
    · obtain ⟨d1, hd1⟩ : ∃ d1, d1 = nv (withK (octV s.data.toList) k) := ⟨_, rfl⟩
      obtain ⟨d2, hd2⟩ : ∃ d2, d2 = nv (withK (octV s.data.toList) (k + 1)) := ⟨_, rfl⟩
      have hok := withK_ok (octV_lt s.data.toList) k (by omega)
      have HW : Hid (∀ V : World, Calls Tryd.prog 33 #[.agg d1, .int .i64 k, .int .u64 (s[k].toNat : Nat)] V fun e w' => e = .returned (.agg d2) ∧ Below V.heap.size V w') :=
        Lib.hid fun V => with_any _ hok k (s[k].toNat) (by omega) d1 hd1 d2 (by rw [hd2, withK, str_octV s k hlt]) V
      have hinf1 : (Tryd.prog.info? 47).map (·.size) = some d1.size := by rw [hd1, nv_size]; exact num_info
      have hinf2 : (Tryd.prog.info? 47).map (·.size) = some d2.size := by rw [hd2, nv_size]; exact num_info
      have hold2 : d1.size = d2.size := by rw [hd1, hd2, nv_size, nv_size]
      have hall2 : d2.all (·.oneCell') = true := by rw [hd2]; exact nv_all _
      have HD2 := Lib.hid hd2
      rw [← hd1] at hn
      have hbD := hb.drew
      have hnD : wr.drew.heap[w.heap.size + 1]? = _ := hn
      have hzD : wr.drew.heap[w.heap.size]? = _ := hz
      have hw64 : IntKind.u64.wrap (s[k].toNat : Int) = (s[k].toNat : Int) := by rw [IntKind.wrap_u64]; have := UInt8.toNat_lt s[k]; omega
      clear hd1 hd2 hok hb hn hz
      go_wp2
      refine wp_region_still_tail 6 (by kernel_rfl) (by kernel_rfl) ?_
      change wpStill _ _ wr.drew (fun a' => wpList _ _ _ _ a' wr.drew) _ _
      generalize wr.drew = w2 at *
      simp only [List.take_succ_cons, List.take_zero, List.drop_succ_cons, List.drop_zero]
      refine wpStill_load_row rfl _ _ rfl (w.heap.size + 1) rfl _ _ _ _ hnD Tryd.underlying47 rfl hinf1 ?_
      simp only [Act.put, List.setIfInBounds_toArray, List.set_cons_zero, List.set_cons_succ]
      repeat still_step
      refine wpStill_nil ?_
      go_wp2_with fail
      refine (HW.out _).mono ?_
      rintro e w3 ⟨rfl, hb3⟩
      have q1 := (hb3.block _ (Array.getElem?_eq_some_iff.1 hnD).1).trans hnD
      have qz := (hb3.block _ (Array.getElem?_eq_some_iff.1 hzD).1).trans hzD
      have qb := hbD.next' hb3
      clear hb3 hbD hnD hzD
      have r1 := setRow_heap _ (w.heap.size + 1) _ d2 _ _ q1
      have rz := (setRow_other w3 (w.heap.size + 1) w.heap.size d2 (by omega)).trans qz
      have rb := qb.setRow (g := w.heap.size + 1) (by omega) d2
      rw [HD2.out] at r1
      go_wp2_with (refine wpList_store_row rfl _ _ _ rfl (w.heap.size + 1) _ rfl rfl _ _ q1 hinf2 hold2 hall2 ?_)
      go_roundw
      case rel => exact ⟨k + 1, by omega, by go_num, by rw [← HD2.out] at r1 ⊢; exact r1, rz, rb⟩
      case measure => simp [intOf]; omega
    · obtain hks : k = s.size := by omega
      have hre := HR.out k hks
      obtain ⟨d1, hd1⟩ : ∃ d1, d1 = nv (withK (octV s.data.toList) k) := ⟨_, rfl⟩
      have HCAR : Hid (∀ V : World, Calls Tryd.prog 34 #[.agg d1] V fun e w' => e = .returned (.agg r) ∧ Below V.heap.size V w') :=
        Lib.hid fun V => car_any _ (withK_ok (octV_lt _) k (by omega)) d1 hd1 r hre V
      have hinf1 : (Tryd.prog.info? 47).map (·.size) = some d1.size := by rw [hd1, nv_size]; exact num_info
      have hold : (nv (fun _ => 0)).size = r.size := by rw [hrs, nv_size]
      rw [← hd1] at hn
      subst hks
      clear hd1 hre HR
      go_wp2_with (refine wpList_load_row rfl _ _ rfl (w.heap.size + 1) rfl _ _ _ _ hn Tryd.underlying47 rfl hinf1 ?_)
      refine (HCAR.out _).mono ?_
      rintro e w3 ⟨rfl, hb3⟩
      have qz := (hb3.block _ (Array.getElem?_eq_some_iff.1 hz).1).trans hz
      have qb := hb.next' hb3
      clear hb3 hb hn hz
      go_wp2_with (refine wpList_store_row rfl _ _ _ rfl w.heap.size _ rfl rfl _ _ qz hinf hold hall ?_)
      exact bodyPost_ret (v := .agg r) (results_cell_row rfl _ _ w.heap.size _ _ _ _ rfl (setRow_heap _ _ _ _ _ _ qz) Tryd.underlying47 rfl hinf) rfl ⟨rfl, qb.setRow (by omega) _⟩

/-! ### rows -/
def intsN (l : List Nat) : List Value := l.map fun n : Nat => Value.int .i64 (n : Int)
def rowV (l : List Nat) (j : Nat) : Nat := l.getD j 0
def digR (l : List Nat) : Nat := digK (rowV l) 17
def rowL (v : Nat) : List Nat := (List.range 17).map (digitV v)
theorem rowL_length (v : Nat) : (rowL v).length = 17 := by simp [rowL]
theorem rowL_at (v j : Nat) (h : j < 17) : rowV (rowL v) j = digitV v j := by simp [rowV, rowL, List.getD_eq_getElem?_getD, h]
theorem rowL_lt (v j : Nat) : rowV (rowL v) j < 256 := by
  by_cases h : j < 17
  · rw [rowL_at v j h]; exact digitV_lt v j
  · simp [rowV, rowL, List.getD_eq_getElem?_getD, h]
theorem digR_rowL (v : Nat) (h : v < 256 ^ 17) : digR (rowL v) = v := by
  rw [digR, digK_congr (h := digitV v) (fun j hj => rowL_at v j hj), digK_of, Nat.mod_eq_of_lt h]
theorem intsN_at {l : List Nat} {k : Nat} (h : k < l.length) : (intsN l)[k]? = some (.int .i64 (rowV l k : Nat)) := by
  simp [intsN, rowV, List.getD_eq_getElem?_getD, h]
theorem make17 (V : World) : (Instr.makeSlice 57 (.int .i64 17) (.int .i64 17)).run Tryd.prog V = .ok (.slice (some ⟨V.heap.size, 0, none⟩) 17 17) (V.alloc (.cells (madeCells #[.int .i64 0] 17) 3)) :=
  run_make_row' (P := Tryd.prog) 57 3 (.int .i64 0) 8 Tryd.underlying57 int_info rfl .i64 .i64 17 (by omega) (by omega) V
/-! ### digits -/
def digAt (v k j : Nat) : Nat := if j < k then digitV v j else 0
theorem digAt_set (v k j : Nat) : (if j = k then digitV v k else digAt v k j) = digAt v (k + 1) j := by
  unfold digAt
  by_cases h : j = k
  · subst h; simp
  · rw [if_neg h]
    by_cases h2 : j < k
    · rw [if_pos h2, if_pos (by omega)]
    · rw [if_neg h2, if_neg (by omega)]
theorem small_e {v : Nat} (h : v < 87112285931760246646623899502532662132736) : v / 67108864 / 67108864 / 67108864 / 67108864 < 4294967296 := by omega
theorem rowIs_sl {w : World} {b : Nat} {t : TypeId} {n : Nat} {f : Nat → Value} (h : w.rowIs b t n f) {vs : List Value} (hv : ∀ j u, vs[j]? = some u → j < n ∧ f j = u) : Sl w (some ⟨b, 0, none⟩) vs := by
  refine .inr ⟨b, 0, rfl, h.lt, fun j u hu => ?_⟩
  obtain ⟨h1, rfl⟩ := hv j u hu
  rw [Nat.zero_add]
  exact h.cell h1
end Go.Proofs.YtapbjmeilhcmaaaDoor
