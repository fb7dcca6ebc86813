/-
  keyholelaw09.shares: the document's rows.
-/
import Derived.Test.YtljckcegcfidoaaShr7
import Derived.Test.YtljckcegcfidoaaShs
import Derived.Test.YtljckcegcfidoaaMany
import Derived.Test.YtljckcegcfidoaaUptot
namespace Go.Proofs.Ytljckcegcfidoaa
open Go.RowKit Go.Kx
set_option maxRecDepth 20000

def mny (c : UInt8) : ByteArray := ⟨(List.replicate 32 c).toArray⟩
theorem mny_txt {R : Nat → Gf.G} {c : UInt8} (h : txtL R = List.replicate 32 c) : txt R = mny c := by rw [txt, h]; rfl
theorem doc_split : splL (mny 5 ++ mny 2) 3 2 = [(1, mny 7), (2, mny 1), (3, mny 3)] := by
  have h1 : txtL (shY (mny 5 ++ mny 2) 2 0) = List.replicate 32 7 := by decide +kernel
  have h2 : txtL (shY (mny 5 ++ mny 2) 2 1) = List.replicate 32 1 := by decide +kernel
  have h3 : txtL (shY (mny 5 ++ mny 2) 2 2) = List.replicate 32 3 := by decide +kernel
  show [(_, txt _), (_, txt _), (_, txt _)] = _
  rw [mny_txt h1, mny_txt h2, mny_txt h3]
  rfl
theorem doc_comb : combA [(1, mny 7), (3, mny 3)] = (mny 5, 0) := by
  have h1 : zeroB [(1, mny 7), (3, mny 3)] = false := by decide +kernel
  have h2 : rightB [(1, mny 7), (3, mny 3)] = true := by decide +kernel
  have h3 : txtL (accR (wgtsI (xsL [(1, mny 7), (3, mny 3)]) 0) (bsG [(1, mny 7), (3, mny 3)]) 2) = List.replicate 32 5 := by decide +kernel
  rw [combA, if_neg (by rw [h1]; simp), atA_yes h2 (by decide)]
  show (txt _, (0 : Int)) = _
  rw [show ([(1, mny 7), (3, mny 3)] : List Sh).length = 2 from rfl, mny_txt h3]
theorem doc_none : combA [] = (⟨#[]⟩, 90) := rfl
theorem mny_size (c : UInt8) : (mny c).size = 32 := rfl

set_option maxHeartbeats 4000000 in
theorem shares_any (w : World) : Calls Try.prog 11 #[] w fun e w' => e = .returned (.bool true) ∧ Below w.heap.size w w' := by
  have HM : ∀ (c : UInt8) (n : Int) (V : World), (c.toNat : Int) = n → Calls Try.prog 28 #[.int .u8 n, .int .i64 32] V fun e w' => e = .returned (.string (mny c)) ∧ Below V.heap.size V w' := fun c n V h => by
    have := rmany_any c 32 (by decide) V
    rw [h] at this
    exact this
  have HM5 := Lib.hid (fun V => HM 5 5 V rfl)
  have HM2 := Lib.hid (fun V => HM 2 2 V rfl)
  have HM7 := Lib.hid (fun V => HM 7 7 V rfl)
  have HM1 := Lib.hid (fun V => HM 1 1 V rfl)
  have HM3 := Lib.hid (fun V => HM 3 3 V rfl)
  clear HM
  have HSP : Hid (∀ V, Calls Try.prog 9 #[.string (mny 5), .int .i64 3, .int .i64 2, .string (mny 2)] V fun e w' => (∃ A c, e = shEnd A 3 c 0 ∧ Sl w' A (shV [(1, mny 7), (2, mny 1), (3, mny 3)])) ∧ Below V.heap.size V w') := Lib.hid (fun V => by
    have := split_yes (mny 5) 3 2 (mny 2) rfl (by decide) (by decide) (by decide) (by decide) rfl V
    rw [doc_split] at this
    exact this)
  have HSM : Hid (∀ V A c B d, Sl V A (shV [(1, mny 7), (2, mny 1), (3, mny 3)]) → Sl V B (shV [(1, mny 7), (2, mny 1), (3, mny 3)]) → Calls Try.prog 12 #[.slice A 3 c, .slice B 3 d] V fun e w' => e = .returned (.bool true) ∧ Below V.heap.size V w') := Lib.hid (fun V A c B d h1 h2 =>
    same_yes [(1, mny 7), (2, mny 1), (3, mny 3)] A B c d (by decide) V h1 h2)
  have HCB : Hid (∀ V A c, Sl V A (shV [(1, mny 7), (3, mny 3)]) → Calls Try.prog 15 #[.slice A 2 c] V fun e w' => e = strE (mny 5, 0) ∧ Below V.heap.size V w') := Lib.hid (fun V A c h => by
    have := combine_any [(1, mny 7), (3, mny 3)] A c (by decide) V h
    rw [doc_comb] at this
    exact this)
  have HCN : Hid (∀ V, Calls Try.prog 15 #[.slice none 0 0] V fun e w' => e = strE (⟨#[]⟩, 90) ∧ Below V.heap.size V w') := Lib.hid (fun V => by
    have := combine_any [] none 0 (by decide) V (Sl.nil _ _)
    rw [doc_none] at this
    exact this)
  generalize mny 5 = m5 at *
  generalize mny 2 = m2 at *
  generalize mny 7 = m7 at *
  generalize mny 1 = m1 at *
  generalize mny 3 = m3 at *
  go_enter Try.func11, Try.ntmps11
  go_wp2_with fail
  refine (HM5.out _).mono ?_
  rintro e w1 ⟨rfl, hb⟩
  go_wp2_with fail
  refine (HM2.out _).mono ?_
  rintro e w2 ⟨rfl, hb2⟩
  replace hb := hb.next' hb2
  go_wp2_with fail
  refine (HSP.out _).mono ?_
  rintro e w3 ⟨⟨A, c, rfl, hs⟩, hb3⟩
  unfold shEnd
  replace hb := hb.next' hb3
  go_wp2_with fail
  refine (HM7.out _).mono ?_
  rintro e w4 ⟨rfl, hb4⟩
  replace hb := hb.next' hb4
  replace hs := hs.keep hb4
  go_wp2_with fail
  refine (HM1.out _).mono ?_
  rintro e w5 ⟨rfl, hb5⟩
  replace hb := hb.next' hb5
  replace hs := hs.keep hb5
  go_wp2_with fail
  refine (HM3.out _).mono ?_
  rintro e w6 ⟨rfl, hb6⟩
  replace hb := hb.next' hb6
  replace hs := hs.keep hb6
  clear hb2 hb3 hb4 hb5 hb6
  go_wp2_with fail
  refine (HSM.out _ _ _ _ _ (hs.keep (Below.alloc0 _ _)) (Sl.new' rfl)).mono ?_
  rintro e w7 ⟨rfl, hb7⟩
  replace hs := (hs.keep (Below.alloc0 _ _)).keep hb7
  replace hb := (hb.al _).next' hb7
  clear hb7
  obtain ⟨b, off, rfl, hx0, hy0⟩ := sl_sh hs (k := 0) (by simp)
  obtain ⟨b', off', e', hx2, hy2⟩ := sl_sh hs (k := 2) (by simp)
  cases e'
  change w7.cell? ⟨b, off + 0 * 2, none⟩ = some (.int .i64 1) at hx0
  change w7.cell? ⟨b, off + 0 * 2 + 1, none⟩ = some (.string m7) at hy0
  change w7.cell? ⟨b, off + 2 * 2, none⟩ = some (.int .i64 3) at hx2
  change w7.cell? ⟨b, off + 2 * 2 + 1, none⟩ = some (.string m3) at hy2
  simp only [Nat.zero_mul, Nat.add_zero, Nat.reduceMul] at hx0 hy0 hx2 hy2
  go_wp2_with fail
  refine Uptot.begin_ [] (fun V : World => V.cell? ⟨b, off, none⟩ = some (.int .i64 1) ∧ V.cell? ⟨b, off + 1, none⟩ = some (.string m7) ∧ V.cell? ⟨b, off + 4, none⟩ = some (.int .i64 3) ∧ V.cell? ⟨b, off + 4 + 1, none⟩ = some (.string m3)) (fun _ : World => True) (by kernel_rfl) ?_
  have hKS : Hid (∀ V, Below w7.heap.size w7 V → (V.cell? ⟨b, off, none⟩ = some (.int .i64 1) ∧ V.cell? ⟨b, off + 1, none⟩ = some (.string m7) ∧ V.cell? ⟨b, off + 4, none⟩ = some (.int .i64 3) ∧ V.cell? ⟨b, off + 4 + 1, none⟩ = some (.string m3)) ∧ True) := Lib.hid fun V hV =>
    ⟨⟨(hV.cell (p := ⟨b, off, none⟩) (block_lt_of_cell hx0)).trans hx0, (hV.cell (p := ⟨b, off + 1, none⟩) (block_lt_of_cell hy0)).trans hy0, (hV.cell (p := ⟨b, off + 4, none⟩) (block_lt_of_cell hx2)).trans hx2, (hV.cell (p := ⟨b, off + 4 + 1, none⟩) (block_lt_of_cell hy2)).trans hy2⟩, trivial⟩
  have hbV : Below w7.heap.size w7 w7.drew := Below.drew0 w7
  have hST := hKS.out _ hbV
  clear hx0 hy0 hx2 hy2
  generalize w7.drew = V at *
  refine Uptot.takeS (i := 0) (v := ?_) rfl (by kernel_rfl) (by kernel_rfl) (by kernel_rfl) (by kernel_rfl) (fun _ _ _ h => h) (Or.inl ⟨by rfl, ?_⟩) hST ?_
  rotate_left 1
  · intro w9 hSw; (try dsimp only at hSw); obtain ⟨s1', s2', s3', s4'⟩ := hSw; go_simp; (try with_reducible rfl)
  try simp only [Act.put, List.setIfInBounds_toArray, List.set_cons_zero, List.set_cons_succ]
  refine Uptot.takeS (i := 1) (v := ?_) rfl (by kernel_rfl) (by kernel_rfl) (by kernel_rfl) (by kernel_rfl) (fun _ _ _ h => h) (Or.inl ⟨by rfl, ?_⟩) hST ?_
  rotate_left 1
  · intro w9 hSw; (try dsimp only at hSw); obtain ⟨s1', s2', s3', s4'⟩ := hSw; go_simp; (try with_reducible rfl)
  try simp only [Act.put, List.setIfInBounds_toArray, List.set_cons_zero, List.set_cons_succ]
  refine Uptot.takeS (i := 2) (v := ?_) rfl (by kernel_rfl) (by kernel_rfl) (by kernel_rfl) (by kernel_rfl) (fun _ _ _ h => h) (Or.inl ⟨by rfl, ?_⟩) hST ?_
  rotate_left 1
  · intro w9 hSw; (try dsimp only at hSw); obtain ⟨s1', s2', s3', s4'⟩ := hSw; go_simp; (try with_reducible rfl)
  try simp only [Act.put, List.setIfInBounds_toArray, List.set_cons_zero, List.set_cons_succ]
  refine Uptot.takeS (i := 3) (v := ?_) rfl (by kernel_rfl) (by kernel_rfl) (by kernel_rfl) (by kernel_rfl) (fun _ _ _ h => h) (Or.inl ⟨by rfl, ?_⟩) hST ?_
  rotate_left 1
  · intro w9 hSw; (try dsimp only at hSw); obtain ⟨s1', s2', s3', s4'⟩ := hSw; go_simp; (try with_reducible rfl)
  try simp only [Act.put, List.setIfInBounds_toArray, List.set_cons_zero, List.set_cons_succ]
  refine Uptot.takeS (i := 4) (v := ?_) rfl (by kernel_rfl) (by kernel_rfl) (by kernel_rfl) (by kernel_rfl) (fun _ _ _ h => h) (Or.inl ⟨by rfl, ?_⟩) hST ?_
  rotate_left 1
  · intro w9 hSw; (try dsimp only at hSw); obtain ⟨s1', s2', s3', s4'⟩ := hSw; go_simp; (try with_reducible rfl)
  try simp only [Act.put, List.setIfInBounds_toArray, List.set_cons_zero, List.set_cons_succ]
  refine Uptot.takeS (i := 5) (v := ?_) rfl (by kernel_rfl) (by kernel_rfl) (by kernel_rfl) (by kernel_rfl) (fun _ _ _ h => h) (Or.inl ⟨by rfl, ?_⟩) hST ?_
  rotate_left 1
  · intro w9 hSw; (try dsimp only at hSw); obtain ⟨s1', s2', s3', s4'⟩ := hSw; go_simp; (try with_reducible rfl)
  try simp only [Act.put, List.setIfInBounds_toArray, List.set_cons_zero, List.set_cons_succ]
  refine Uptot.one (i := 6) rfl (by kernel_rfl) (fun K hK9 => ?_)
  go_simp
  have hsB : Sl (V.alloc (.cells #[.int .i64 1, .string m7, .int .i64 3, .string m3] 39)) (some ⟨V.heap.size, 0, none⟩) (shV [(1, m7), (3, m3)]) := Sl.new' rfl
  replace hbV := hbV.al (.cells #[.int .i64 1, .string m7, .int .i64 3, .string m3] 39)
  replace hST := hKS.out _ hbV
  refine hK9.out _ _ (Cond.ahead hST) ?_
  clear hK9 K
  generalize World.alloc V _ = V2 at *
  generalize V.heap.size = NB at *
  try simp only [Act.put, List.setIfInBounds_toArray, List.set_cons_zero, List.set_cons_succ]
  refine Uptot.one (i := 7) rfl (by kernel_rfl) (fun K hK9 => ?_)
  go_simp
  go_at_call 15
  refine (HCB.out _ _ _ hsB).mono ?_
  rintro e' V9 ⟨rfl, hb9⟩
  unfold strE
  replace hbV := hbV.next' hb9
  replace hST := hKS.out _ hbV
  refine hK9.out _ _ (Cond.ahead hST) ?_
  clear hK9 K hb9
  refine Uptot.takeS (i := 8) (v := ?_) rfl (by kernel_rfl) (by kernel_rfl) (by kernel_rfl) (by kernel_rfl) (fun _ _ _ h => h) (Or.inl ⟨by rfl, ?_⟩) hST ?_
  rotate_left 1
  · intro w9 hSw; (try dsimp only at hSw); obtain ⟨s1', s2', s3', s4'⟩ := hSw; go_simp; (try with_reducible rfl)
  try simp only [Act.put, List.setIfInBounds_toArray, List.set_cons_zero, List.set_cons_succ]
  refine Uptot.takeS (i := 9) (v := ?_) rfl (by kernel_rfl) (by kernel_rfl) (by kernel_rfl) (by kernel_rfl) (fun _ _ _ h => h) (Or.inl ⟨by rfl, ?_⟩) hST ?_
  rotate_left 1
  · intro w9 hSw; (try dsimp only at hSw); obtain ⟨s1', s2', s3', s4'⟩ := hSw; go_simp; (try with_reducible rfl)
  try simp only [Act.put, List.setIfInBounds_toArray, List.set_cons_zero, List.set_cons_succ]
  refine Uptot.takeS (i := 10) (v := ?_) rfl (by kernel_rfl) (by kernel_rfl) (by kernel_rfl) (by kernel_rfl) (fun _ _ _ h => h) (Or.inl ⟨by rfl, ?_⟩) hST ?_
  rotate_left 1
  · intro w9 hSw; (try dsimp only at hSw); obtain ⟨s1', s2', s3', s4'⟩ := hSw; go_simp; (try with_reducible rfl)
  try simp only [Act.put, List.setIfInBounds_toArray, List.set_cons_zero, List.set_cons_succ]
  refine Uptot.takeS (i := 11) (v := ?_) rfl (by kernel_rfl) (by kernel_rfl) (by kernel_rfl) (by kernel_rfl) (fun _ _ _ h => h) (Or.inl ⟨by rfl, ?_⟩) hST ?_
  rotate_left 1
  · intro w9 hSw; (try dsimp only at hSw); obtain ⟨s1', s2', s3', s4'⟩ := hSw; go_simp; (try with_reducible rfl)
  try simp only [Act.put, List.setIfInBounds_toArray, List.set_cons_zero, List.set_cons_succ]
  refine Uptot.takeS (i := 12) (v := ?_) rfl (by kernel_rfl) (by kernel_rfl) (by kernel_rfl) (by kernel_rfl) (fun _ _ _ h => h) (Or.inl ⟨by rfl, ?_⟩) hST ?_
  rotate_left 1
  · intro w9 hSw; (try dsimp only at hSw); obtain ⟨s1', s2', s3', s4'⟩ := hSw; go_simp; (try with_reducible rfl)
  refine Uptot.done (by kernel_rfl) ?_ _
  replace hb := hb.next' hbV
  go_wp2_with fail
  refine (HCN.out _).mono ?_
  rintro e w8 ⟨rfl, hb8⟩
  unfold strE
  replace hb := hb.next' hb8
  go_wp2_with fail
  refine (HM5.out _).mono ?_
  rintro e w9 ⟨rfl, hb9⟩
  replace hb := hb.next' hb9
  go_wp2
  go_ret
  exact ⟨rfl, hb⟩
end Go.Proofs.Ytljckcegcfidoaa
