/-
  tag: the contract of Clamp.
-/
import Derived.Test.YtapbjmeilhcmaaaDoorTag6
import Derived.Test.YtapbjmeilhcmaaaDoorCells
namespace Go.Proofs.YtapbjmeilhcmaaaDoor
open Go.RowKit Go.Kx
set_option maxRecDepth 20000

/-! ### Clamp -/
def cl1 (f : Nat → Nat) (k j : Nat) : Nat := if j % 4 = 3 ∧ j < 4 * k then f j % 16 else f j
def cl2 (f : Nat → Nat) (k j : Nat) : Nat := if j % 4 = 3 then f j % 16 else if j % 4 = 0 ∧ 0 < j ∧ j < 4 * k + 4 then f j - f j % 4 else f j
theorem cl1_zero (f : Nat → Nat) (j : Nat) : cl1 f 0 j = f j := if_neg (by omega)
theorem cl1_same (f : Nat → Nat) (k : Nat) : cl1 f k (4 * k + 3) = f (4 * k + 3) := if_neg (by omega)
theorem cl1_set (f : Nat → Nat) (k j : Nat) : (if j = 4 * k + 3 then f (4 * k + 3) % 16 else cl1 f k j) = cl1 f (k + 1) j := by
  unfold cl1
  by_cases h : j = 4 * k + 3
  · rw [if_pos h, if_pos (by omega), h]
  · rw [if_neg h]
    by_cases h2 : j % 4 = 3 ∧ j < 4 * k
    · rw [if_pos h2, if_pos (by omega)]
    · rw [if_neg h2, if_neg (by omega)]
theorem cl_mid (f : Nat → Nat) (j : Nat) (h : j < 16) : cl1 f 4 j = cl2 f 0 j := by
  unfold cl1 cl2
  by_cases h1 : j % 4 = 3
  · rw [if_pos h1, if_pos (by omega)]
  · rw [if_neg h1, if_neg (by omega), if_neg (by omega)]
theorem cl2_same (f : Nat → Nat) (k : Nat) : cl2 f k (4 * k + 4) = f (4 * k + 4) := by
  unfold cl2
  rw [if_neg (by omega), if_neg (by omega)]
theorem cl2_set (f : Nat → Nat) (k j : Nat) : (if j = 4 * k + 4 then f (4 * k + 4) - f (4 * k + 4) % 4 else cl2 f k j) = cl2 f (k + 1) j := by
  unfold cl2
  by_cases h : j = 4 * k + 4
  · rw [if_pos h, if_neg (by omega), if_pos (by omega), h]
  · rw [if_neg h]
    by_cases h1 : j % 4 = 3
    · rw [if_pos h1, if_pos h1]
    · rw [if_neg h1, if_neg h1]
      by_cases h2 : j % 4 = 0 ∧ 0 < j ∧ j < 4 * k + 4
      · rw [if_pos h2, if_pos (by omega)]
      · rw [if_neg h2, if_neg (by omega)]
theorem cl_end (l : List UInt8) (hl : l.length = 16) (j : Nat) (h : j < 16) : cl2 (octV l) 3 j = octV (clampL l) j := by
  have e : octV (clampL l) j = (clampB j (l.getD j 0)).toNat := by
    simp [octV, clampL, List.getD_eq_getElem?_getD, show j < l.length by omega]
  rw [e]
  unfold cl2 clampB
  have eo : octV l j = (l.getD j 0).toNat := rfl
  rw [eo]
  generalize l.getD j 0 = b
  by_cases h1 : j % 4 = 3
  · rw [if_pos h1, if_pos h1]; simp
  · rw [if_neg h1, if_neg h1]
    by_cases h2 : j % 4 = 0 ∧ 0 < j
    · rw [if_pos h2, if_pos (by omega), UInt8.toNat_sub_of_le _ _ (by rw [UInt8.le_iff_toNat_le]; simp; omega)]; simp
    · rw [if_neg h2, if_neg (by omega)]
theorem Cells.congr {w : World} {g z : Nat} {f f' : Nat → Nat} (h : Cells w g z f) (e : ∀ j, j < z → f j = f' j) : Cells w g z f' :=
  ⟨h.1, fun j hj => by rw [← e j hj]; exact h.2 j hj⟩
theorem conv_cells (l : List UInt8) (G c : Nat) (wr : World) (h : Cells wr G l.length (octV l)) :
    (convert 27 9 (.slice (some ⟨G, 0, none⟩) l.length c)).run Tryd.prog wr = .ok (.string ⟨l.toArray⟩) wr := by
  refine run_convert_bytes_back (P := Tryd.prog) wr 27 9 5 ⟨G, 0, none⟩ c l Tryd.underlying27 Tryd.underlying5 Tryd.underlying9 (fun j hj => ?_)
  rw [Addr.add_mid, Nat.zero_add, (h.2 j hj).1]
  simp [octV, List.getD_eq_getElem?_getD, hj]
set_option maxHeartbeats 1000000 in
theorem Clamp_yes (s : ByteArray) (hs : s.size = 16) (r : ByteArray) (hr : ⟨(clampL s.data.toList).toArray⟩ = r) (w : World) :
    Calls Tryd.prog 20 #[.string s] w fun e w' => e = .returned (.tuple #[.string r, .bool true]) ∧ Below w.heap.size w w' := by
  have hl : s.data.toList.length = 16 := by simpa using hs
  have hconv := run_bytes_of_string (P := Tryd.prog) w 9 27 5 s Tryd.underlying9 Tryd.underlying27 Tryd.underlying5
  have hcs0 := Cells.new w s 5 (grownCap w s.size 0 5)
  have hbw : Below w.heap.size w (w.drew.alloc (.cells (bytesRow s (grownCap w s.size 0 5)) 5 ((bytesRow s (grownCap w s.size 0 5)).size, (bytesRow s (grownCap w s.size 0 5)).size + 1))) := (Below.drew0 w).al _
  have HEND : Hid (∀ (G c : Nat) (V : World), Cells V G 16 (octV (clampL s.data.toList)) → (convert 27 9 (.slice (some ⟨G, 0, none⟩) 16 c)).run Tryd.prog V = .ok (.string r) V) := Lib.hid fun G c V h => by
    have e : (clampL s.data.toList).length = 16 := by rw [clampL_length, hl]
    have h2 := conv_cells (clampL s.data.toList) G c V (by rw [e]; exact h)
    rw [e, hr] at h2
    exact h2
  have HCE := Lib.hid (cl_end s.data.toList hl)
  have hsne : ((s.size : Int) != 16) = false := by rw [hs]; rfl
  rw [show (fun j => (s.data.toList.getD j 0).toNat) = octV s.data.toList from rfl] at hcs0
  rw [hs] at hconv hcs0 hbw
  have HF8 := Lib.hid (octV_lt s.data.toList)
  generalize octV s.data.toList = f at *
  generalize grownCap w 16 0 5 = c at *
  generalize Obj.cells _ _ (Array.size _, _) = o at hconv hcs0 hbw
  replace hcs0 : Cells ((w.alloc o).drew) w.heap.size 16 (cl1 f 0) := hcs0.congr fun j _ => (cl1_zero f j).symm
  replace hbw : Below w.heap.size w ((w.alloc o).drew) := hbw
  clear hr
  go_enter Tryd.func20, Tryd.ntmps20
  go_wp2_with fail
  clear hconv
  generalize (w.alloc o).drew = W at *
  go_loopw [5] (fun i wr => ∃ k : Nat, k ≤ 4 ∧ i = .int .i64 (4 * (k : Int) + 3) ∧ Cells wr w.heap.size 16 (cl1 f k) ∧ Below w.heap.size w wr) (fun i _ => 20 - (intOf i).toNat)
  case atStart => exact ⟨0, by omega, rfl, hcs0, hbw⟩
  case round =>
    clear hcs0 hbw
    obtain ⟨k, hk, rfl, hcs, hb⟩ := hrel
    by_cases hlt : k < 4
    · obtain ⟨hcx, hfx⟩ := hcs.2 (4 * k + 3) (by omega)
      rw [cl1_same] at hcx
      have HS := Lib.hid (cl1_set f k)
      have hx8 := HF8.out (4 * k + 3)
      generalize f (4 * k + 3) = x at *
      have e1 : (4 * (k : Int) + 3).toNat = 4 * k + 3 := by omega
      have e2 : 4 * (k : Int) + 3 < 16 := by omega
      have e3 : (0 : Int) ≤ 4 * (k : Int) + 3 := by omega
      go_wp2
      go_roundw
      case rel => exact ⟨k + 1, by omega, by go_num, hcs.set (by omega) (x % 16) HS.out, hb.setCell (p := ⟨w.heap.size, 4 * k + 3, none⟩) (Nat.le_refl _) _⟩
      case measure => simp [intOf]; omega
    · obtain rfl : k = 4 := by omega
      replace hcs := hcs.congr (cl_mid f)
      rw [show 4 * ((4 : Nat) : Int) + 3 = 19 from rfl]
      go_wp2
      go_loopw [6] (fun i wr => ∃ k : Nat, k ≤ 3 ∧ i = .int .i64 (4 * (k : Int) + 4) ∧ Cells wr w.heap.size 16 (cl2 f k) ∧ Below w.heap.size w wr) (fun i _ => 20 - (intOf i).toNat)
      case atStart => exact ⟨0, by omega, rfl, hcs, hb⟩
      case round =>
        clear hcs hb
        obtain ⟨k, hk, rfl, hcs, hb⟩ := hrel
        by_cases hlt : k < 3
        · obtain ⟨hcx, hfx⟩ := hcs.2 (4 * k + 4) (by omega)
          rw [cl2_same] at hcx
          have HS := Lib.hid (cl2_set f k)
          have hx8 := HF8.out (4 * k + 4)
          generalize f (4 * k + 4) = x at *
          have e1 : (4 * (k : Int) + 4).toNat = 4 * k + 4 := by omega
          have e2 : 4 * (k : Int) + 4 < 16 := by omega
          have e3 : (0 : Int) ≤ 4 * (k : Int) + 4 := by omega
          have e4 : IntKind.u8.wrap ((x : Int) - (x : Int).tmod 4) = ((x - x % 4 : Nat) : Int) := by
            rw [Int.tmod_eq_emod_of_nonneg (by omega), show (x : Int) - (x : Int) % 4 = ((x - x % 4 : Nat) : Int) by omega]
            exact u8_wrap_oct _ (by omega)
          have hcsD := hcs.drew
          have hbD := hb.drew
          have hcxD : wr.drew.cell? ⟨w.heap.size, 4 * k + 4, none⟩ = _ := hcx
          have hfxD : wr.drew.frozen? ⟨w.heap.size, 4 * k + 4, none⟩ = _ := hfx
          go_wp2
          refine wp_region_still_tail 10 (by kernel_rfl) (by kernel_rfl) ?_
          change wpStill _ _ wr.drew (fun a' => wpList _ _ _ _ a' wr.drew) _ _
          clear hcx hfx hcs hb
          generalize wr.drew = w2 at *
          simp only [List.take_succ_cons, List.take_zero, List.drop_succ_cons, List.drop_zero]
          repeat still_step
          refine wpStill_nil ?_
          clear e4
          generalize x - x % 4 = z at *
          go_wp2
          go_roundw
          case rel => exact ⟨k + 1, by omega, by go_num, hcsD.set (by omega) z HS.out, hbD.setCell (p := ⟨w.heap.size, 4 * k + 4, none⟩) (Nat.le_refl _) _⟩
          case measure => simp [intOf]; omega
        · obtain rfl : k = 3 := by omega
          rw [show 4 * ((3 : Nat) : Int) + 4 = 16 from rfl]
          have he := HEND.out w.heap.size c _ (hcs.congr fun j hj => HCE.out j hj)
          clear hcs
          go_wp2
          go_ret2
          exact ⟨rfl, hb⟩
end Go.Proofs.YtapbjmeilhcmaaaDoor
