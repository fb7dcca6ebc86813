/-
  word: the contract of Join.
-/
import Derived.Test.YtlkdofghhibmbaaDoorSha
import Derived.Laws.IdiomStrings
namespace Go.Proofs.YtlkdofghhibmbaaDoor
open Go.RowKit Go.Kx
set_option maxRecDepth 20000

theorem byte_info : (Tryd.prog.info? 5).map (fun i => (i.zero, i.size, i.bytes)) = some (some (.int .u8 0), 1, 1) := by kernel_rfl
def joinAt (h : Bool) (xs : List Nat) (i : Nat) : Nat := xs.getD (i / 4) 0 / 2 ^ shN h (i % 4) % 256
theorem joinL_length (h : Bool) (xs : List Nat) : (joinL h xs).length = 4 * xs.length := by simp [joinL]
theorem joinL_at (h : Bool) (xs : List Nat) (j : Nat) (hj : j < (joinL h xs).length) : ((joinL h xs)[j].toNat : Int) = (joinAt h xs j : Nat) := by
  simp [joinL, joinAt, UInt8.toNat_ofNat']
theorem joinAt_lt (h : Bool) (xs : List Nat) (i : Nat) : joinAt h xs i < 256 := Nat.mod_lt _ (by omega)
def rowJ (h : Bool) (xs : List Nat) (k j : Nat) : Nat := if j < k then joinAt h xs j else 0
theorem rowJ_set (h : Bool) (xs : List Nat) (k j : Nat) : (if j = k then joinAt h xs k else rowJ h xs k j) = rowJ h xs (k + 1) j := by
  unfold rowJ
  by_cases h : j = k
  · subst h; simp
  · rw [if_neg h]
    by_cases h2 : j < k
    · rw [if_pos h2, if_pos (by omega)]
    · rw [if_neg h2, if_neg (by omega)]
set_option maxHeartbeats 4000000 in
theorem join_any (A : Option Addr) (c : Nat) (xs : List Nat) (h : Bool) (w : World) (hm : xs.length ≤ 100000) (hs : Sl w A (ints xs)) (hok : ∀ x ∈ xs, x < 4294967296) :
    Calls Tryd.prog 32 #[.slice A xs.length c, .bool h] w fun e w' => e = .returned (.tuple #[.string ⟨(joinL h xs).toArray⟩, .bool true]) ∧ Below w.heap.size w w' := by
  have hmk0 := run_make_row' (P := Tryd.prog) 72 5 (.int .u8 0) 1 Tryd.underlying72 byte_info rfl .i64 .i64 (4 * xs.length) (by omega) (by omega)
  have hq : ((4 * xs.length : Nat) : Int) = 4 * (xs.length : Int) := by omega
  rw [hq] at hmk0
  have hmk : ∀ W : World, (Instr.makeSlice 72 (.int .i64 (4 * (xs.length : Int))) (.int .i64 (4 * (xs.length : Int)))).run Tryd.prog W = .ok (.slice (some ⟨W.heap.size, 0, none⟩) (4 * xs.length) (4 * xs.length)) (W.alloc (.cells (madeCells #[.int .u8 0] (4 * xs.length)) 5)) := hmk0
  have hwr : IntKind.i64.wrap (4 * (xs.length : Int)) = 4 * (xs.length : Int) := IntWalk.i64_in _ (by omega)
  clear hq hmk0
  have HOK := Lib.hid hok
  clear hok
  go_enter Tryd.func32, Tryd.ntmps32
  go_wp2_with (first | (go_at_call 47; refine (is_nats A c xs _ (by omega) hs HOK.out).mono ?_; rintro e w' ⟨rfl, rfl⟩) | (go_at_call 54; refine (below_any h _).mono ?_; rintro e w' ⟨rfl, rfl⟩))
  go_loopw [8, 20] (fun _ i wr => ∃ k : Nat, k ≤ 4 * xs.length ∧ i = .int .i64 k ∧ wr.cell? ⟨w.heap.size, 0, none⟩ = some (.bool h) ∧ w.heap.size + 1 < wr.heap.size ∧
      wr.rowIs (w.heap.size + 1) 5 (4 * xs.length) (fun j => .int .u8 (rowJ h xs k j : Nat)) ∧ Below w.heap.size w wr) (fun _ i _ => 4 * xs.length - (intOf i).toNat)
  case atStart =>
    refine ⟨0, Nat.zero_le _, rfl, by go_simp, by simp, ?_, ((Below.refl _ _).alloc (Nat.le_refl _) _).alloc (by simp) _⟩
    have hr := (World.rowIs_made (w.alloc (.cells #[.bool h] 4)) (.int .u8 0) (4 * xs.length) 5).congr (g := fun j => .int .u8 (rowJ h xs 0 j : Nat)) (fun j _ => by simp [rowJ])
    simpa using hr
  case round =>
    obtain ⟨k, hk, rfl, hcell, hsz, hrow, hb⟩ := hrel
    by_cases hlt : k < 4 * xs.length
    · obtain ⟨b, off, u, rfl, hu, hld⟩ := (hs.keep hb).at_ (k := k / 4) (by simp [ints]; omega)
      obtain ⟨x, hx, rfl⟩ : ∃ x, xs[k / 4]? = some x ∧ .int .i64 (x : Int) = u := by simpa [ints] using hu
      have hxl : x < 4294967296 := HOK.out x (List.mem_of_getElem? hx)
      have HX := Lib.hid (show xs.getD (k / 4) 0 = x by rw [List.getD_eq_getElem?_getD, hx]; rfl)
      clear hx hu hs
      have hload := hrow.cell (i := k) (by omega)
      have hfz := hrow.frozen k
      have hw1 : IntKind.i64.wrap ((k : Int) / 4) = (k : Int) / 4 := IntWalk.i64_in _ (by omega)
      have hn1 : ((k : Int) / 4).toNat = k / 4 := by omega
      have hp1 : (0 : Int) ≤ (k : Int) / 4 := by omega
      have hp2 : (k : Int) / 4 < (xs.length : Int) := by omega
      have hlt' : (k : Int) < 4 * (xs.length : Int) := by omega
      have hmod : (k : Int).tmod 4 = ((k % 4 : Nat) : Int) := by rw [Int.tmod_eq_emod_of_nonneg (by omega)]; omega
      obtain ⟨sh, hsh, hsh24, hshB⟩ : ∃ sh : Nat, sh = shN h (k % 4) ∧ sh ≤ 24 ∧ shB h ((k : Int) % 4) = (sh : Int) := ⟨_, rfl, shN_le _ _ (by omega), by rw [← shB_eq h (k % 4) (by omega)]; congr 1⟩
      have HSH := Lib.hid hsh
      clear hsh
      generalize rowJ h xs k k = z at hload
      go_wp2
      refine wp_region_still_tail 14 (by kernel_rfl) (by kernel_rfl) ?_
      simp only [List.take_succ_cons, List.take_zero, List.drop_succ_cons, List.drop_zero]
      repeat still_step
      still_call (below1 _ _ _ (by omega) (by omega) _ (by assumption))
      rw [hshB]
      clear hshB
      repeat still_step
      refine wpStill_nil ?_
      have hrow2 := hrow.drew
      have hb2 := hb.drew
      have hcell2 : wr.drew.cell? ⟨w.heap.size, 0, none⟩ = some (.bool h) := hcell
      have hsz2 : w.heap.size + 1 < wr.drew.heap.size := hsz
      have hload2 : wr.drew.cell? ⟨w.heap.size + 1, k, none⟩ = _ := hload
      have hfz2 : wr.drew.frozen? ⟨w.heap.size + 1, k, none⟩ = _ := hfz
      change wpList _ _ _ _ _ wr.drew
      clear hrow hb hcell hsz hload hfz
      generalize wr.drew = w2 at *
      go_wp2
      go_roundw
      case rel =>
        have hv : ((x : Int) / 2 ^ sh % 256) = ((joinAt h xs k : Nat) : Int) := by
          unfold joinAt
          rw [HX.out, ← HSH.out, Int.natCast_emod, Int.natCast_ediv, Int.natCast_pow]
          rfl
        rw [hv]
        refine ⟨k + 1, by omega, by go_num, ?_, by simpa using hsz2, ?_, hb2.setCell (p := ⟨w.heap.size + 1, k, none⟩) (by simp) _⟩
        · rw [World.cell?_setCell_other _ _ _ _ (by simp)]; exact hcell2
        · refine (hrow2.set k _).congr fun j _ => ?_
          rw [← rowJ_set h xs k j]
          split <;> rfl
      case measure => simp [intOf]; omega
    · obtain rfl : k = 4 * xs.length := by omega
      have hconv : ∀ dst, Tryd.prog.underlying dst = some .string → (convert 72 dst (.slice (some ⟨w.heap.size + 1, 0, none⟩) (4 * xs.length) (4 * xs.length))).run Tryd.prog wr = .ok (.string ⟨(joinL h xs).toArray⟩) wr := by
        intro dst hd
        have hc := run_convert_bytes_back (P := Tryd.prog) wr 72 dst 5 ⟨w.heap.size + 1, 0, none⟩ (4 * xs.length) (joinL h xs) Tryd.underlying72 Tryd.underlying5 hd (fun j hj => by
          have hj' : j < 4 * xs.length := by rw [← joinL_length h]; exact hj
          have := hrow.cell (i := j) hj'
          rw [show (⟨w.heap.size + 1, 0, none⟩ : Addr).add j = ⟨w.heap.size + 1, j, none⟩ by unfold Addr.add; split <;> simp_all, this, joinL_at h xs j hj]
          simp [rowJ, hj'])
        rwa [joinL_length] at hc
      have hconv' := hconv 9 Tryd.underlying9
      clear hconv
      generalize hout : joinL h xs = out at *
      have HO := Lib.hid hout
      clear hout
      go_wp2
      go_ret2
      exact ⟨by rw [HO.out]; rfl, hb⟩
end Go.Proofs.YtlkdofghhibmbaaDoor
