/-
  armour: the contracts of PutShare and GetShare.
-/
import Derived.Test.YtmmkhlianijagaaDoorAr7
namespace Go.Proofs.YtmmkhlianijagaaDoor
open Go.RowKit Go.Kx Go.Shelf Go.Arm
set_option maxRecDepth 20000

/-- May a share be put? -/
def okX (X : Int) (b : ByteArray) : Prop := 1 ≤ X ∧ X ≤ 255 ∧ b.size = 32
theorem putShare_no (X : Int) (b : ByteArray) (h : ¬ okX X b) (w : World) :
    Calls Tryd.prog 13 #[.agg #[.int .i64 X, .string b]] w fun e w' => e = .returned (.tuple #[.string ⟨#[]⟩, .int .i64 1]) ∧ Below w.heap.size w w' := by
  have hb0 := Below.alloc0 w (.cells #[.int .i64 X, .string b] 29)
  unfold okX at h
  by_cases h1 : X < 1
  · go_enter Tryd.func13, Tryd.ntmps13
    go_wp2
    go_ret2
    exact ⟨rfl, hb0⟩
  · by_cases h2 : 255 < X
    · go_enter Tryd.func13, Tryd.ntmps13
      go_wp2
      go_ret2
      exact ⟨rfl, hb0⟩
    · have h3 : ((b.size : Int) != 32) = true := by rw [bne_iff_ne]; omega
      go_enter Tryd.func13, Tryd.ntmps13
      go_wp2
      go_ret2
      exact ⟨rfl, hb0⟩
/-- What is put of a share. -/
def shareL (X : Int) (b : ByteArray) : List UInt8 := UInt8.ofNat X.toNat :: b.data.toList
set_option maxHeartbeats 1000000 in
theorem putShare_yes (X : Int) (b : ByteArray) (h : okX X b) (r : ByteArray) (hr : ⟨(putL sum3 (shareL X b)).toArray⟩ = r) (w : World) (hK : Consts w) :
    Calls Tryd.prog 13 #[.agg #[.int .i64 X, .string b]] w fun e w' => e = .returned (.tuple #[.string r, .int .i64 0]) ∧ Below w.heap.size w w' := by
  obtain ⟨h1, h2, h3⟩ := h
  obtain ⟨n, rfl⟩ := Int.eq_ofNat_of_zero_le (a := X) (by omega)
  have hb0 := Below.alloc0 w (.cells #[.int .i64 (n : Int), .string b] 29)
  have h4 : ((b.size : Int) != 32) = false := by rw [h3]; rfl
  have hw8 : IntKind.u8.wrap (n : Int) = (n : Int) := u8_in (by omega)
  obtain ⟨u, hu⟩ : ∃ u : ByteArray, (⟨#[UInt8.ofNat n]⟩ : ByteArray) = u := ⟨_, rfl⟩
  have huz : u.size = 1 := by rw [← hu]; rfl
  have hconv : ∀ V : World, (convert 34 9 (.slice (some ⟨V.heap.size, 0, none⟩) 1 1)).run Tryd.prog (V.alloc (.cells #[.int .u8 (n : Int)] 5)) = .ok (.string u) (V.alloc (.cells #[.int .u8 (n : Int)] 5)) := fun V => by
    rw [← hu]
    refine run_convert_bytes_back (P := Tryd.prog) _ 34 9 5 ⟨V.heap.size, 0, none⟩ 1 [UInt8.ofNat n] Tryd.underlying34 Tryd.underlying5 Tryd.underlying9 (fun j hj => ?_)
    obtain rfl : j = 0 := by simpa using hj
    have hz : ((UInt8.ofNat n).toNat : Int) = (n : Int) := by rw [UInt8.toNat_ofNat']; omega
    simp only [List.getElem_cons_zero, hz]
    rw [show (⟨V.heap.size, 0, none⟩ : Addr).add 0 = ⟨V.heap.size, 0, none⟩ by unfold Addr.add; split <;> simp_all]
    exact cell_of_row _ V.heap.size 0 #[.int .u8 (n : Int)] 5 (0, 0) (World.alloc_heap_new V _)
  obtain ⟨a, ha⟩ : ∃ a : ByteArray, u ++ b = a := ⟨_, rfl⟩
  have hadd : ∀ V : World, (Op.stringOp .add u b).run Tryd.prog V = .ok (.string a) V := fun V => by rw [← ha]; exact run_string_add_sum V u b (by omega)
  have hal : a.data.toList = shareL (n : Int) b := by rw [← ha, ← hu]; simp [shareL]
  have haz : a.size = 33 := by rw [← ha]; simp; omega
  have HP : Hid (∀ V : World, Consts V → Calls Tryd.prog 11 #[.string a] V fun e w' => e = .returned (.tuple #[.string r, .int .i64 0]) ∧ Below V.heap.size V w') := Lib.hid fun V hV => put_yes a (by omega) r (by rw [hal]; exact hr) V hV
  have hb1 := hb0.al (.cells #[.int .u8 (n : Int)] 5)
  have hK1 := hK.keep hb1
  have hcv := hconv (w.alloc (.cells #[.int .i64 (n : Int), .string b] 29))
  rw [World.size_alloc] at hcv
  clear hu huz ha hal haz hr hK hconv hb0 h3
  go_enter Tryd.func13, Tryd.ntmps13
  go_wp2_with fail
  refine (HP.out _ hK1).mono ?_
  rintro e w2 ⟨rfl, hb2⟩
  go_wp2
  go_ret2
  exact ⟨rfl, hb1.next' hb2⟩

/-! ### GetShare -/
theorem share_info : (Tryd.prog.info? 29).map (·.size) = some 2 := by kernel_rfl
set_option maxHeartbeats 1000000 in
theorem getShare_err (s : ByteArray) (hz : s.size ≤ 10000) (hn : getL sum3 s.data.toList = none) (w : World) (hK : Consts w) (hM : MaxCell w) :
    Calls Tryd.prog 14 #[.string s] w fun e w' => e = .returned (.tuple #[.agg #[.int .i64 0, .string ⟨#[]⟩], .int .i64 100]) ∧ Below w.heap.size w w' := by
  have hb0 := Below.alloc0 w (.cells #[.int .i64 0, .string ⟨#[]⟩] 29)
  have hG := get_any s hz ⟨#[]⟩ 100 (by unfold getR; rw [hn]) _ (hK.keep hb0) (hM.keep hb0)
  have hg0 := heap_alloc_new w (.cells #[.int .i64 0, .string ⟨#[]⟩] 29)
  have hl0 := (Array.getElem?_eq_some_iff.1 hg0).1
  go_enter Tryd.func14, Tryd.ntmps14
  go_wp2_with fail
  refine hG.mono ?_
  rintro e w1 ⟨rfl, hb1⟩
  have hg1 := (hb1.block _ hl0).trans hg0
  have hbw := hb0.next' hb1
  have c0 := cell_of_row w1 w.heap.size 0 _ _ _ hg1
  have c1 := cell_of_row w1 w.heap.size 1 _ _ _ hg1
  have f0 : w1.frozen? ⟨w.heap.size, 0, none⟩ = false := by unfold World.frozen?; rw [hg1]; simp
  have f1 : w1.frozen? ⟨w.heap.size, 1, none⟩ = false := by unfold World.frozen?; rw [hg1]; simp
  simp at c0 c1
  clear hG hb0 hb1 hg0 hl0
  go_wp2
  have hg2 := heap_setCell_same (w1.setCell ⟨w.heap.size, 0, none⟩ (.int .i64 0)) w.heap.size 1 _ _ (.string ⟨#[]⟩) (heap_setCell_same w1 w.heap.size 0 _ _ (.int .i64 0) hg1)
  refine bodyPost_ret (results_cell_slot rfl _ _ w.heap.size _ _ _ _ rfl hg2 Tryd.underlying29 rfl share_info _ rfl) rfl ?_
  exact ⟨rfl, (hbw.setCell (p := ⟨w.heap.size, 0, none⟩) (by simp) _).setCell (p := ⟨w.heap.size, 1, none⟩) (by simp) _⟩
set_option maxHeartbeats 1000000 in
theorem getShare_yes (s : ByteArray) (hz : s.size ≤ 10000) (x : UInt8) (b : ByteArray) (hx : x.toNat ≠ 0) (hb : b.size = 32) (hn : getL sum3 s.data.toList = some (x :: b.data.toList)) (w : World) (hK : Consts w) (hM : MaxCell w) :
    Calls Tryd.prog 14 #[.string s] w fun e w' => e = .returned (.tuple #[.agg #[.int .i64 (x.toNat : Int), .string b], .int .i64 0]) ∧ Below w.heap.size w w' := by
  obtain ⟨v, hv⟩ : ∃ v : ByteArray, ⟨(x :: b.data.toList).toArray⟩ = v := ⟨_, rfl⟩
  have hvl : v.data.toList = x :: b.data.toList := by rw [← hv]
  have hvz : v.size = 33 := by rw [← hv, size_mk, List.length_cons]; have : b.data.toList.length = b.size := by simp
                               omega
  have hb0 := Below.alloc0 w (.cells #[.int .i64 0, .string ⟨#[]⟩] 29)
  have hG := get_any s hz v 0 (by unfold getR; rw [hn, hvl]) _ (hK.keep hb0) (hM.keep hb0)
  have hg0 := heap_alloc_new w (.cells #[.int .i64 0, .string ⟨#[]⟩] 29)
  have hl0 := (Array.getElem?_eq_some_iff.1 hg0).1
  have h33 : ((v.size : Int) != 33) = false := by rw [hvz]; rfl
  have hix : ∀ V : World, (Instr.index 9 (.string v) (.int .i64 0)).run Tryd.prog V = .ok (.int .u8 (x.toNat : Int)) V := fun V => by
    rw [run_index_string V _ _ _ _ Tryd.underlying9, dif_pos ⟨by omega, by omega⟩]
    have h0 : (0 : Int).toNat < v.size := by rw [hvz]; decide
    have e : v[(0 : Int).toNat]'h0 = x := by
      have e1 : v.data.toList[0]'(by rw [hvl]; simp) = x := by simp only [hvl, List.getElem_cons_zero]
      exact e1
    rw [e]
  have hsl : ∀ V : World, (Instr.slice 9 (.string v) (some (.int .i64 1)) none none).run Tryd.prog V = .ok (.string b) V := fun V => by
    have h := str_from (P := Tryd.prog) Tryd.underlying9 v 1 (by omega) V
    rw [show v.extract 1 v.size = b by
      refine ByteArray.ext (Array.toList_inj.1 ?_)
      rw [str_ext, hvl, List.drop_succ_cons, List.drop_zero]
      exact List.take_of_length_le (by have : b.data.toList.length = b.size := by simp
                                       omega)] at h
    exact h
  have hxn : ((x.toNat : Int) == 0) = false := by rw [beq_eq_false_iff_ne]; omega
  have hxw : IntKind.i64.wrap (x.toNat : Int) = (x.toNat : Int) := wrapNat (by have := UInt8.toNat_lt x; omega)
  generalize x.toNat = n at *
  clear hv hvl hn hK hM
  go_enter Tryd.func14, Tryd.ntmps14
  go_wp2_with fail
  refine hG.mono ?_
  rintro e w1 ⟨rfl, hb1⟩
  have hg1 := (hb1.block _ hl0).trans hg0
  have hbw := hb0.next' hb1
  clear hG hb0 hb1 hg0 hl0
  go_wp2
  refine wp_region_still_tail 6 (by kernel_rfl) (by kernel_rfl) ?_
  have hgD : w1.drew.heap[w.heap.size]? = _ := hg1
  have hbD := hbw.drew
  change wpStill _ _ w1.drew (fun a' => wpList _ _ _ _ a' w1.drew) _ _
  clear hg1 hbw
  generalize w1.drew = w2 at *
  simp only [List.take_succ_cons, List.take_zero, List.drop_succ_cons, List.drop_zero]
  repeat still_step
  refine wpStill_nil ?_
  have c0 := cell_of_row w2 w.heap.size 0 _ _ _ hgD
  have c1 := cell_of_row w2 w.heap.size 1 _ _ _ hgD
  have f0 : w2.frozen? ⟨w.heap.size, 0, none⟩ = false := by unfold World.frozen?; rw [hgD]; simp
  have f1 : w2.frozen? ⟨w.heap.size, 1, none⟩ = false := by unfold World.frozen?; rw [hgD]; simp
  simp at c0 c1
  go_wp2
  have hg2 := heap_setCell_same (w2.setCell ⟨w.heap.size, 0, none⟩ (.int .i64 (n : Int))) w.heap.size 1 _ _ (.string b) (heap_setCell_same w2 w.heap.size 0 _ _ (.int .i64 (n : Int)) hgD)
  refine bodyPost_ret (results_cell_slot rfl _ _ w.heap.size _ _ _ _ rfl hg2 Tryd.underlying29 rfl share_info _ rfl) rfl ?_
  exact ⟨rfl, (hbD.setCell (p := ⟨w.heap.size, 0, none⟩) (by simp) _).setCell (p := ⟨w.heap.size, 1, none⟩) (by simp) _⟩
end Go.Proofs.YtmmkhlianijagaaDoor
