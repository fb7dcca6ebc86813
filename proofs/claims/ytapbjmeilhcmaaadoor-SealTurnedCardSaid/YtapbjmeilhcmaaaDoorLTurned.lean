/-
  SealTurned, for every input: with another last byte what is sealed is not opened; nor is what has no bytes.
-/
import Derived.Test.YtapbjmeilhcmaaaDoorSl6
import Derived.Test.YtapbjmeilhcmaaaDoorUptot
namespace Go.Proofs.YtapbjmeilhcmaaaDoor
open Go.RowKit Go.Kx
set_option maxRecDepth 20000

theorem byte_of {c : Int} (h : (Lit.int .u8 c).wf = true) : ∃ b : UInt8, c = (b.toNat : Int) := by
  simp only [Lit.wf, Bool.and_eq_true, decide_eq_true_eq] at h
  have h1 : 0 ≤ c := h.1
  have h2 : c ≤ 255 := h.2
  exact ⟨UInt8.ofNat c.toNat, by simp; omega⟩
theorem last_split (a : ByteArray) (h : 0 < a.size) : a.data.toList = (a.extract 0 (a.size - 1)).data.toList ++ [a[a.size - 1]] := by
  have hl : a.size - 1 < a.data.toList.length := by rw [list_size]; omega
  rw [str_ext, List.drop_zero, Nat.sub_zero]
  have h2 := List.take_append_drop (a.size - 1) a.data.toList
  rw [List.drop_eq_getElem_cons hl, List.drop_of_length_le (by rw [list_size]; omega)] at h2
  exact h2.symm
set_option maxHeartbeats 2000000 in
theorem walkSealTurned (key nonce beside : ByteArray) (rb : beside.size ≤ 140737488351232) (s : ByteArray) (rs : s.size ≤ 140737488351232) (c : Int) (hc : (Lit.int .u8 c).wf = true) (w : World) (hK : Places w) :
    Calls Tryd.prog 4 #[.string key, .string nonce, .string beside, .string s, .int .u8 c] w fun e w' => e = .returned (.bool true) ∧ Below w.heap.size w w' := by
  have i1 : IntKind.i64.wrap ((beside.size : Int) + (s.size : Int)) = (beside.size : Int) + (s.size : Int) := IntWalk.i64_in _ (by omega)
  by_cases h1 : 100 < key.size
  · have t1 : (100 : Int) < (key.size : Int) := by omega
    clear h1
    go_enter Tryd.func4, Tryd.ntmps4
    go_wp2
    go_ret
    exact ⟨rfl, Below.refl _ _⟩
  have t1 : ¬ (100 : Int) < (key.size : Int) := by omega
  by_cases h2 : 100 < nonce.size
  · have t2 : (100 : Int) < (nonce.size : Int) := by omega
    clear h1 h2
    go_enter Tryd.func4, Tryd.ntmps4
    go_wp2
    go_ret
    exact ⟨rfl, Below.refl _ _⟩
  have t2 : ¬ (100 : Int) < (nonce.size : Int) := by omega
  by_cases h3 : 5000 < beside.size + s.size
  · have t3 : (5000 : Int) < (beside.size : Int) + (s.size : Int) := by omega
    clear h1 h2 h3
    go_enter Tryd.func4, Tryd.ntmps4
    go_wp2
    go_ret
    exact ⟨rfl, Below.refl _ _⟩
  have t3 : ¬ (5000 : Int) < (beside.size : Int) + (s.size : Int) := by omega
  clear h1 h2
  obtain ⟨⟨a, e⟩, hA⟩ : ∃ p, sealR key nonce beside s = p := ⟨_, rfl⟩
  have HA := Lib.hid (seal_any _ _ _ _ _ _ hA)
  by_cases he : e = 0
  case neg =>
    have te : (e != 0) = true := by simpa using he
    clear hA he h3
    go_enter Tryd.func4, Tryd.ntmps4
    go_wp2_with fail
    refine (HA.out _ hK).mono ?_
    rintro e w1 ⟨rfl, hb1⟩
    go_wp2_with fail
    refine (seals_any _ (hK.keep hb1)).mono ?_
    rintro e w2 ⟨rfl, hb2⟩
    go_wp2
    go_ret
    exact ⟨rfl, hb1.next hb2⟩
  subst he
  obtain ⟨C, rfl⟩ := byte_of hc
  clear hc
  obtain ⟨hk, hz, hal⟩ := sealR_ok hA
  have haz := sealR_size hA
  obtain ⟨d, hd⟩ : ∃ d, a[a.size - 1] = d := ⟨_, rfl⟩
  obtain ⟨y, hy⟩ : ∃ y, a.extract 0 (a.size - 1) = y := ⟨_, rfl⟩
  have hsp := last_split a (by omega)
  rw [hd, hy] at hsp
  have t4 : ¬ (a.size : Int) < 16 := by omega
  have i2 : IntKind.i64.wrap ((a.size : Int) - 1) = (a.size : Int) - 1 := IntWalk.i64_in _ (by omega)
  have hix : ∀ V : World, (Instr.index 9 (.string a) (.int .i64 ((a.size : Int) - 1))).run Tryd.prog V = .ok (.int .u8 (d.toNat : Int)) V := fun V => by
    have h1 : 0 ≤ (a.size : Int) - 1 ∧ (a.size : Int) - 1 < (a.size : Int) := by omega
    rw [run_index_string V _ _ _ _ Tryd.underlying9]
    simp only [h1, and_self, dite_true]
    have e : ((a.size : Int) - 1).toNat = a.size - 1 := by omega
    simp only [e, hd]
  by_cases hdc : d = C
  · have t5 : ((d.toNat : Int) == (C.toNat : Int)) = true := by rw [hdc]; simp
    clear hA hk hz hal haz hd hy hsp hdc h3
    go_enter Tryd.func4, Tryd.ntmps4
    go_wp2_with fail
    refine (HA.out _ hK).mono ?_
    rintro e w1 ⟨rfl, hb1⟩
    go_wp2_with fail
    refine (seals_any _ (hK.keep hb1)).mono ?_
    rintro e w2 ⟨rfl, hb2⟩
    go_wp2
    go_ret
    exact ⟨rfl, hb1.next hb2⟩
  · have t5 : ((d.toNat : Int) == (C.toNat : Int)) = false := by
      rw [beq_eq_false_iff_ne]
      intro h
      exact hdc (UInt8.toNat.inj (by omega))
    obtain ⟨q, hq⟩ : ∃ q : ByteArray, ⟨(y.data.toList ++ [C]).toArray⟩ = q := ⟨_, rfl⟩
    have hql : q.data.toList = y.data.toList ++ [C] := by rw [← hq]
    have hyz : y.size = a.size - 1 := by rw [← hy, ByteArray.size_extract]; omega
    have hqz : q.size = a.size := by rw [← list_size, hql, List.length_append, list_size, hyz]; simp; omega
    have hF : openR key nonce beside q = (⟨#[]⟩, 60) := openR_unfit hk hz.1 (by omega) (by
      rw [hql]
      exact turned_fits key nonce _ _ _ C d (hal.symm.trans hsp) hdc)
    have hE : openR key nonce beside ⟨#[]⟩ = (⟨#[]⟩, 60) := openR_short hk hz.1 (by decide)
    have HF := Lib.hid (open_any _ _ _ _ (by omega) _ _ hF)
    have HE := Lib.hid (open_any _ _ _ _ (by decide) _ _ hE)
    have hsl : ∀ V : World, (Instr.slice 9 (.string a) none (some (.int .i64 ((a.size : Int) - 1))) none).run Tryd.prog V = .ok (.string y) V := fun V => by
      rw [show ((a.size : Int) - 1) = ((a.size - 1 : Nat) : Int) by omega, str_to Tryd.underlying9 a (a.size - 1) (by omega) V, hy]
    have hadd : ∀ V : World, (Op.stringOp .add y ⟨#[C]⟩).run Tryd.prog V = .ok (.string q) V := fun V => by
      rw [str_add2 y ⟨#[C]⟩ (by rw [hyz]; show a.size - 1 + 1 ≤ _; omega) V, ← hq]
    clear hA hk hz hal haz hd hy hsp hdc h3 hq hql hyz hqz hF hE
    go_enter Tryd.func4, Tryd.ntmps4
    go_wp2_with fail
    refine (HA.out _ hK).mono ?_
    rintro e w1 ⟨rfl, hb1⟩
    go_wp2_with fail
    refine Uptot.begin_ [] (fun _ : World => True) (fun _ : World => True) (by kernel_rfl) ?_
    have hST : True ∧ True := ⟨trivial, trivial⟩
    have hbD := hb1.drew
    generalize w1.drew = V2 at *
    refine Uptot.takeS (i := 0) (v := ?_) rfl (by kernel_rfl) (by kernel_rfl) (by kernel_rfl) (by kernel_rfl) (fun _ _ _ h => h) (Or.inl ⟨by rfl, ?_⟩) hST ?_
    rotate_left 1
    · intro w9 hSw; (try dsimp only at hSw); go_simp; (try with_reducible rfl)
    try simp only [Act.put, List.setIfInBounds_toArray, List.set_cons_zero, List.set_cons_succ]
    refine Uptot.takeS (i := 1) (v := ?_) rfl (by kernel_rfl) (by kernel_rfl) (by kernel_rfl) (by kernel_rfl) (fun _ _ _ h => h) (Or.inl ⟨by rfl, ?_⟩) hST ?_
    rotate_left 1
    · intro w9 hSw; (try dsimp only at hSw); go_simp; (try with_reducible rfl)
    try simp only [Act.put, List.setIfInBounds_toArray, List.set_cons_zero, List.set_cons_succ]
    refine Uptot.takeS (i := 2) (v := ?_) rfl (by kernel_rfl) (by kernel_rfl) (by kernel_rfl) (by kernel_rfl) (fun _ _ _ h => h) (Or.inl ⟨by rfl, ?_⟩) hST ?_
    rotate_left 1
    · intro w9 hSw; (try dsimp only at hSw); go_simp; (try with_reducible rfl)
    try simp only [Act.put, List.setIfInBounds_toArray, List.set_cons_zero, List.set_cons_succ]
    refine Uptot.takeS (i := 3) (v := ?_) rfl (by kernel_rfl) (by kernel_rfl) (by kernel_rfl) (by kernel_rfl) (fun _ _ _ h => h) (Or.inl ⟨by rfl, ?_⟩) hST ?_
    rotate_left 1
    · intro w9 hSw; (try dsimp only at hSw); go_simp; (try with_reducible rfl)
    try simp only [Act.put, List.setIfInBounds_toArray, List.set_cons_zero, List.set_cons_succ]
    refine Uptot.takeS (i := 4) (v := ?_) rfl (by kernel_rfl) (by kernel_rfl) (by kernel_rfl) (by kernel_rfl) (fun _ _ _ h => h) (Or.inl ⟨by rfl, ?_⟩) hST ?_
    rotate_left 1
    · intro w9 hSw; (try dsimp only at hSw); go_simp; (try with_reducible rfl)
    try simp only [Act.put, List.setIfInBounds_toArray, List.set_cons_zero, List.set_cons_succ]
    refine Uptot.takeS (i := 8) (v := ?_) rfl (by kernel_rfl) (by kernel_rfl) (by kernel_rfl) (by kernel_rfl) (fun _ _ _ h => h) (Or.inl ⟨by rfl, ?_⟩) hST ?_
    rotate_left 1
    · intro w9 hSw; (try dsimp only at hSw); go_simp; (try with_reducible rfl)
    try simp only [Act.put, List.setIfInBounds_toArray, List.set_cons_zero, List.set_cons_succ]
    refine Uptot.takeS (i := 5) (v := ?_) rfl (by kernel_rfl) (by kernel_rfl) (by kernel_rfl) (by kernel_rfl) (fun _ _ _ h => h) (Or.inl ⟨by rfl, ?_⟩) hST ?_
    rotate_left 1
    · intro w9 hSw; (try dsimp only at hSw); go_simp; (try with_reducible rfl)
    try simp only [Act.put, List.setIfInBounds_toArray, List.set_cons_zero, List.set_cons_succ]
    refine Uptot.takeS (i := 6) (v := ?_) rfl (by kernel_rfl) (by kernel_rfl) (by kernel_rfl) (by kernel_rfl) (fun _ _ _ h => h) (Or.inl ⟨by rfl, ?_⟩) hST ?_
    rotate_left 1
    · intro w9 hSw; (try dsimp only at hSw); go_simp; (try with_reducible rfl)
    try simp only [Act.put, List.setIfInBounds_toArray, List.set_cons_zero, List.set_cons_succ]
    refine Uptot.takeS (i := 7) (v := ?_) rfl (by kernel_rfl) (by kernel_rfl) (by kernel_rfl) (by kernel_rfl) (fun _ _ _ h => h) (Or.inl ⟨by rfl, ?_⟩) hST ?_
    rotate_left 1
    · intro w9 hSw; (try dsimp only at hSw); go_simp; (try with_reducible rfl)
    try simp only [Act.put, List.setIfInBounds_toArray, List.set_cons_zero, List.set_cons_succ]
    refine Uptot.one (i := 9) rfl (by kernel_rfl) (fun K hK9 => ?_)
    go_simp
    refine hK9.out _ _ (Cond.ahead hST) ?_
    clear hK9 K
    try simp only [Act.put, List.setIfInBounds_toArray, List.set_cons_zero, List.set_cons_succ]
    have hnew := heap_alloc_new V2 (.cells #[.int .u8 (C.toNat : Int)] 5)
    have hconv : (convert 27 9 (.slice (some ⟨V2.heap.size, 0, none⟩) 1 1)).run Tryd.prog (V2.alloc (.cells #[.int .u8 (C.toNat : Int)] 5)) = .ok (.string ⟨#[C]⟩) (V2.alloc (.cells #[.int .u8 (C.toNat : Int)] 5)) :=
      run_convert_bytes_back (P := Tryd.prog) _ 27 9 5 ⟨V2.heap.size, 0, none⟩ 1 [C] Tryd.underlying27 Tryd.underlying5 Tryd.underlying9 (fun j hj => by
        obtain rfl : j = 0 := by simp at hj; omega
        rw [show (⟨V2.heap.size, 0, none⟩ : Addr).add 0 = ⟨V2.heap.size, 0, none⟩ by unfold Addr.add; split <;> simp_all, cell_of_row _ _ _ _ _ _ hnew]
        rfl)
    have hb2 := hbD.al (.cells #[.int .u8 (C.toNat : Int)] 5)
    clear hnew hbD
    generalize V2.alloc _ = V3 at *
    refine Uptot.one (i := 10) rfl (by kernel_rfl) (fun K hK9 => ?_)
    go_simp
    refine hK9.out _ _ (Cond.ahead hST) ?_
    clear hK9 K
    try simp only [Act.put, List.setIfInBounds_toArray, List.set_cons_zero, List.set_cons_succ]
    refine Uptot.one (i := 11) rfl (by kernel_rfl) (fun K hK9 => ?_)
    go_simp
    refine hK9.out _ _ (Cond.ahead hST) ?_
    clear hK9 K
    try simp only [Act.put, List.setIfInBounds_toArray, List.set_cons_zero, List.set_cons_succ]
    clear hconv
    refine Uptot.one (i := 12) rfl (by kernel_rfl) (fun K hK9 => ?_)
    go_simp
    go_at_call 7
    refine (HF.out _ (hK.keep hb2)).mono ?_
    rintro e' w3 ⟨rfl, hb3⟩
    have hb4 := hb2.next hb3
    refine hK9.out _ _ (Cond.ahead hST) ?_
    clear hK9 K hb2 hb3
    try simp only [Act.put, List.setIfInBounds_toArray, List.set_cons_zero, List.set_cons_succ]
    refine Uptot.one (i := 13) rfl (by kernel_rfl) (fun K hK9 => ?_)
    go_simp
    refine hK9.out _ _ (Cond.ahead hST) ?_
    clear hK9 K
    try simp only [Act.put, List.setIfInBounds_toArray, List.set_cons_zero, List.set_cons_succ]
    refine Uptot.takeS (i := 14) (v := ?_) rfl (by kernel_rfl) (by kernel_rfl) (by kernel_rfl) (by kernel_rfl) (fun _ _ _ h => h) (Or.inl ⟨by rfl, ?_⟩) hST ?_
    rotate_left 1
    · intro w9 hSw; (try dsimp only at hSw); go_simp; (try with_reducible rfl)
    try simp only [Act.put, List.setIfInBounds_toArray, List.set_cons_zero, List.set_cons_succ]
    refine Uptot.takeS (i := 15) (v := ?_) rfl (by kernel_rfl) (by kernel_rfl) (by kernel_rfl) (by kernel_rfl) (fun _ _ _ h => h) (Or.inl ⟨by rfl, ?_⟩) hST ?_
    rotate_left 1
    · intro w9 hSw; (try dsimp only at hSw); go_simp; (try with_reducible rfl)
    try simp only [Act.put, List.setIfInBounds_toArray, List.set_cons_zero, List.set_cons_succ]
    refine Uptot.one (i := 16) rfl (by kernel_rfl) (fun K hK9 => ?_)
    go_simp
    refine hK9.out _ _ (Cond.ahead hST) ?_
    clear hK9 K
    try simp only [Act.put, List.setIfInBounds_toArray, List.set_cons_zero, List.set_cons_succ]
    refine Uptot.one (i := 17) rfl (by kernel_rfl) (fun K hK9 => ?_)
    go_simp
    refine hK9.out _ _ (Cond.ahead hST) ?_
    clear hK9 K
    try simp only [Act.put, List.setIfInBounds_toArray, List.set_cons_zero, List.set_cons_succ]
    refine Uptot.done (by kernel_rfl) ?_ _
    go_wp2_with fail
    refine (HE.out _ (hK.keep hb4)).mono ?_
    rintro e w5 ⟨rfl, hb5⟩
    have hb6 := hb4.next hb5
    go_wp2_with fail
    refine (seals_any _ (hK.keep hb6)).mono ?_
    rintro e w7 ⟨rfl, hb7⟩
    go_wp2
    go_ret
    exact ⟨ret_bool (by first | rfl | simp), hb6.next hb7⟩
end Go.Proofs.YtapbjmeilhcmaaaDoor
