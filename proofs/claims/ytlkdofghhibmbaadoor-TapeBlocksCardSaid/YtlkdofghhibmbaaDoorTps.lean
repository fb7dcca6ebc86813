/-
  tape: the document's rows.
-/
import Derived.Test.YtlkdofghhibmbaaDoorTp3
import Derived.Test.YtlkdofghhibmbaaDoorTp4
namespace Go.Proofs.YtlkdofghhibmbaaDoor
open Go.RowKit Go.Kx
set_option maxRecDepth 20000

theorem below_grown {B : Nat} {w w1 w2 : World} {T : Nat} (h : Below B w w1) (hg : w1.grownBy w2 (some T)) (hT : B ≤ T) (hB : B ≤ w1.heap.size) : Below B w w2 :=
  ⟨hg.os.trans h.os, hg.tape.trans h.tape, hg.output.trans h.output, Nat.le_trans h.size hg.size, fun b hb => (hg.block b (by omega) (by intro e; cases e; omega)).trans (h.block b hb)⟩
theorem taken_at (T N : Nat) (k : TK) (w : World) (hT : Tp w T k N) (m : Int) (hm : (N : Int) = m) :
    Calls Tryd.prog 12 #[.pointer (some ⟨T, 0, none⟩)] w fun e w' => e = .returned (.int .i64 m) ∧ w' = w := hm ▸ taken_any T N k w hT
set_option maxHeartbeats 4000000 in
theorem tapes_any (w : World) : Calls Tryd.prog 11 #[] w fun e w' => e = .returned (.bool true) ∧ Below w.heap.size w w' := by
  go_enter Tryd.func11, Tryd.ntmps11
  go_wp2_with fail
  refine (of_any _ w).mono ?_
  rintro e w1 ⟨rfl, hT1, hb1⟩
  have hs1 := hT1.lt
  obtain ⟨T1, hTe⟩ : ∃ T1, w.heap.size + 1 = T1 := ⟨_, rfl⟩
  obtain ⟨k1, hk1⟩ : ∃ k1, ofK w.heap.size ⟨#[97, 98, 99, 100, 101]⟩ = k1 := ⟨_, rfl⟩
  have ok1 : TKok k1 := by rw [← hk1]; exact ofK_ok _ _ (by decide)
  have by1 : k1.bytes = [97, 98, 99, 100, 101] := by rw [← hk1]; rfl
  have gl1 : ∀ X, ∀ p ∈ k1.globs, p.1 ≠ X := by rw [← hk1]; intro X p hp; simp [ofK] at hp
  rw [hTe] at hT1 hs1 ⊢
  rw [hk1] at hT1
  clear hk1
  go_wp2_with fail
  refine (of_any _ w1).mono ?_
  rintro e w2 ⟨rfl, hU2, hb2⟩
  have hT2 := hT1.keep hb2
  have hs2 := hU2.lt
  obtain ⟨T2, hUe⟩ : ∃ T2, w1.heap.size + 1 = T2 := ⟨_, rfl⟩
  obtain ⟨k2, hk2⟩ : ∃ k2, ofK w1.heap.size ⟨#[0, 1, 2]⟩ = k2 := ⟨_, rfl⟩
  have ok2 : TKok k2 := by rw [← hk2]; exact ofK_ok _ _ (by decide)
  have by2 : k2.bytes = [0, 1, 2] := by rw [← hk2]; rfl
  have gl2 : ∀ X, ∀ p ∈ k2.globs, p.1 ≠ X := by rw [← hk2]; intro X p hp; simp [ofK] at hp
  have hne : T1 ≠ T2 := by omega
  have hlo1 : w.heap.size ≤ T1 := by omega
  have hlo2 : w.heap.size ≤ T2 := by have := hb1.size; omega
  rw [hUe] at hU2 hs2 ⊢
  rw [hk2] at hU2
  have hb3 := hb1.next hb2
  clear hk2 hT1 hb1 hb2 hTe hUe
  go_wp2_with fail
  refine (ttake_any T1 0 k1 ok1 2 w2 hT2).mono ?_
  rw [by1, show takeR [97, 98, 99, 100, 101] 0 2 = ([97, 98], 0, 2) from by decide]
  rintro e w3 ⟨b, rfl, rfl, hT3, hg3⟩
  have hU3 := hU2.grown hT2.1 (by simp) hne (gl2 _) hg3
  have hb4 := below_grown hb3 hg3 hlo1 hb3.size
  clear hT2 hU2 hg3 hb3
  go_wp2_with fail
  refine (ttake_any T1 2 k1 ok1 4 w3 hT3).mono ?_
  rw [by1, show takeR [97, 98, 99, 100, 101] 2 4 = ([], 120, 2) from by decide]
  rintro e w4 ⟨b, rfl, rfl, hT4, hg4⟩
  have hU4 := hU3.grown hT3.1 (by simp) hne (gl2 _) hg4
  have hb5 := below_grown hb4 hg4 hlo1 hb4.size
  clear hT3 hU3 hg4 hb4
  go_wp2_with fail
  refine (ttake_any T1 2 k1 ok1 3 w4 hT4).mono ?_
  rw [by1, show takeR [97, 98, 99, 100, 101] 2 3 = ([99, 100, 101], 0, 5) from by decide]
  rintro e w5 ⟨b, rfl, rfl, hT5, hg5⟩
  have hU5 := hU4.grown hT4.1 (by simp) hne (gl2 _) hg5
  have hb6 := below_grown hb5 hg5 hlo1 hb5.size
  clear hT4 hU4 hg5 hb5
  go_wp2_with fail
  refine (tnumber_any T2 0 k2 ok2 100 w5 hU5).mono ?_
  rw [by2, show numR [0, 1, 2] 0 100 = (58, 0, 3) from by decide]
  rintro e w6 ⟨rfl, hU6, hg6⟩
  have hT6 := hT5.grown hU5.1 (by simp) hne.symm (gl1 _) hg6
  have hb7 := below_grown hb6 hg6 hlo2 hb6.size
  clear hT5 hU5 hg6 hb6
  go_wp2_with fail
  refine (taken_at T1 5 k1 w6 hT6 5 rfl).mono ?_
  rintro e w6 ⟨rfl, rfl⟩
  go_wp2
  go_ret
  exact ⟨rfl, hb7⟩
end Go.Proofs.YtlkdofghhibmbaaDoor
