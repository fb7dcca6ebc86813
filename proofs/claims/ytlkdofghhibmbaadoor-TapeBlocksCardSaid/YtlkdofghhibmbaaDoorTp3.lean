/-
  tape: the contract of Number.
-/
import Derived.Test.YtlkdofghhibmbaaDoorTp2
import Derived.Test.YtlkdofghhibmbaaDoorCells
namespace Go.Proofs.YtlkdofghhibmbaaDoor
open Go.RowKit Go.Kx
set_option maxRecDepth 20000

/-- The number of the first bytes, the highest first. -/
def nmA (l : List UInt8) : Nat → Nat
  | 0 => 0
  | j + 1 => nmA l j * 256 + (l.getD j 0).toNat
theorem nmA_lt (l : List UInt8) : ∀ j, nmA l j < 256 ^ j
  | 0 => by simp [nmA]
  | j + 1 => by
    have h := nmA_lt l j
    have h2 := UInt8.toNat_lt (l.getD j 0)
    rw [nmA, Nat.pow_succ]
    omega
theorem nmA_or (l : List UInt8) (j : Nat) : nmA l j * 256 ||| (l.getD j 0).toNat = nmA l (j + 1) := by
  have h2 := UInt8.toNat_lt (l.getD j 0)
  rw [nmA, Nat.mul_comm, ← Nat.two_pow_add_eq_or_of_lt (i := 8) (by omega)]
theorem nmA_three (l : List UInt8) (below : Int) : (nmA l 3 : Int) % below = numI l below := by
  rw [numI]
  congr 1
  simp only [nmA]
  omega
/-- What a call of Number answers. -/
def TNumP (T : Nat) (k : TK) (x : Int × Int × Nat) (w : World) (e : Ending) (w' : World) : Prop :=
  e = .returned (.tuple #[.int .i64 x.1, .int .i64 x.2.1]) ∧ Tp w' T k x.2.2 ∧ w.grownBy w' (some T)
set_option maxHeartbeats 2000000 in
theorem tnumber_any (T N : Nat) (k : TK) (hk : TKok k) (below : Int) (w : World) (hT : Tp w T k N) :
    Calls Tryd.prog 22 #[.pointer (some ⟨T, 0, none⟩), .int .i64 below] w fun e w' => TNumP T k (numR k.bytes N below) w e w' := by
  by_cases h1 : below < 1
  · rw [numR, if_pos (.inl h1)]
    go_enter Tryd.func22, Tryd.ntmps22
    go_wp2
    go_ret2
    exact ⟨rfl, hT, grown_of (Below.refl _ _)⟩
  by_cases h2 : 16777216 < below
  · rw [numR, if_pos (.inr h2)]
    go_enter Tryd.func22, Tryd.ntmps22
    go_wp2
    go_ret2
    exact ⟨rfl, hT, grown_of (Below.refl _ _)⟩
  rw [numR, if_neg (by omega)]
  have htk := ttake_any T N k hk 3 w hT
  have hN := hT.2.2.1
  by_cases h3 : (k.bytes.length : Int) - N < 3
  · rw [takeR_out (by omega) h3] at htk
    rw [if_pos h3]
    clear h3 hN hk
    go_enter Tryd.func22, Tryd.ntmps22
    go_wp2_with fail
    refine htk.mono ?_
    rintro e w1 ⟨b, rfl, rfl, hT1, hg⟩
    go_wp2
    go_ret2
    exact ⟨rfl, hT1, hg⟩
  · rw [show (3 : Int) = ((3 : Nat) : Int) from rfl, takeR_yes (by omega) hN] at htk
    rw [if_neg h3]
    obtain ⟨D, hD⟩ : ∃ D, (k.bytes.drop N).take 3 = D := ⟨_, rfl⟩
    have hDl : D.length = 3 := by rw [← hD, List.length_take, List.length_drop]; omega
    rw [hD] at htk ⊢
    obtain ⟨r, hr⟩ : ∃ r, numI D below = r := ⟨_, rfl⟩
    rw [hr]
    have HR : Hid ((nmA D 3 : Int).tmod below = r) := Lib.hid (by rw [Int.tmod_eq_emod_of_nonneg (by omega), nmA_three]; exact hr)
    have HDL := Lib.hid hDl
    clear hD h3 hN hk hr hDl
    go_enter Tryd.func22, Tryd.ntmps22
    go_wp2_with fail
    refine htk.mono ?_
    rintro e w1 ⟨b, hbe, rfl, hT1, hg⟩
    have hbz : b.size = 3 := by rw [← hbe, size_mk]; exact HDL.out
    have hbl : b.data.toList = D := by rw [← hbe]
    have hconv : ∀ V : World, (convert 9 72 (.string b)).run Tryd.prog V = .ok (.slice (some ⟨V.heap.size, 0, none⟩) b.size (grownCap V b.size 0 5)) (V.drew.alloc (.cells (bytesRow b (grownCap V b.size 0 5)) 5 ((bytesRow b (grownCap V b.size 0 5)).size, (bytesRow b (grownCap V b.size 0 5)).size + 1))) :=
      fun V => run_bytes_of_string V _ _ _ b Tryd.underlying9 Tryd.underlying72 Tryd.underlying5
    have HCV := Lib.hid hconv
    have HBZ := Lib.hid hbz
    clear hconv htk hbe hbz
    go_wp2_with fail
    have e1 := HCV.out w1
    rw [HBZ.out] at e1
    generalize grownCap w1 3 0 5 = c at e1
    have hcs := Cells.new w1 b 5 c
    have hb4 := (Below.drew0 w1).al (.cells (bytesRow b c) 5 ((bytesRow b c).size, (bytesRow b c).size + 1))
    rw [HBZ.out, hbl] at hcs
    rw [e1]
    clear e1 HCV
    generalize hG : w1.heap.size = G at *
    generalize World.alloc _ _ = W4 at *
    go_wp2
    go_loopw [8, 30] (fun v i wr => ∃ j : Nat, i = .int .i64 j ∧ v = .int .i64 (nmA D j : Nat) ∧ j ≤ 3 ∧ Cells wr G 3 (fun j => (D.getD j 0).toNat) ∧ Below G w1 wr) (fun _ i _ => 3 - (intOf i).toNat)
    case atStart => exact ⟨0, rfl, rfl, by omega, hcs, hb4⟩
    case round =>
      clear hcs hb4
      obtain ⟨j, rfl, rfl, hj, hcs, hb⟩ := hrel
      by_cases hlt : j < 3
      · have hload := (hcs.2 j hlt).1
        have hlt1 := nmA_lt D j
        have hlt2 := nmA_lt D (j + 1)
        have hlim : nmA D j < 65536 := by
          have : (256 : Nat) ^ j ≤ 256 ^ 2 := Nat.pow_le_pow_right (by omega) (by omega)
          omega
        have hx := UInt8.toNat_lt (D.getD j 0)
        have HOR := Lib.hid (nmA_or D j)
        have hload2 : wr.cell? ⟨G, j, none⟩ = some (.int .u8 ((D.getD j 0).toNat : Int)) := hload
        generalize (D.getD j 0).toNat = x at hload2 HOR hx
        have HE : Hid (bits BinOp.or IntKind.i64 ((nmA D j : Int) * 256) (x : Int) = (nmA D (j + 1) : Int)) := Lib.hid (by
          rw [show ((nmA D j : Int) * 256) = ((nmA D j * 256 : Nat) : Int) by push_cast; rfl, int_or (by omega) (by omega), HOR.out])
        have hwx : wrap64 (x : Int) = (x : Int) := IntWalk.wrap64_in _ (by omega)
        clear hlt1 hlt2 hload
        go_wp2
        refine ⟨⟨j + 1, by go_num, ?_, by omega, hcs, hb⟩, by simp [intOf]; omega⟩
        rw [HE.out]
      · obtain rfl : j = 3 := by omega
        have hr2 := HR.out
        have hT2 : Tp wr T k (N + 3) := hT1.keep (by rw [hG]; exact hb)
        have hg2 : w.grownBy wr (some T) := grown_trans hg (grown_of (by rw [hG]; exact hb))
        go_wp2
        go_ret2
        exact ⟨rfl, hT2, hg2⟩
end Go.Proofs.YtlkdofghhibmbaaDoor
