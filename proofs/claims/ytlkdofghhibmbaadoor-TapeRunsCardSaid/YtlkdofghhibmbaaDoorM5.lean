/-
  Merged by program: Ref8, HexA, Chunk, Ref6, Ref9, Trq, Post, Openo, Laidv, LaidStr, LaidDig.
-/
import Derived.Test.YtlkdofghhibmbaaDoorM4
import Derived.Test.YtlkdofghhibmbaaDoorM2
import Derived.Deep.RegionLaw
import Derived.Test.YtlkdofghhibmbaaDoorM3
import Derived.StillTailTactics
import Derived.Deep.RegionHeld3
import Derived.Deep.CutRange
import Derived.Deep.DeepCutAuto
import Derived.WalkKit
import Derived.ProofKit
import Derived.OpenShut
import Derived.Carry
import Derived.ChangeMaps5
import Derived.ChangeSlices
import Derived.Test.YtlkdofghhibmbaaDoorM1
import Derived.Test.YtlkdofghhibmbaaDoorChecked
import Derived.Deep.SlicePairs
import Derived.LaidMore
import Derived.Stop.Joined
import Derived.Test.YtlkdofghhibmbaaDoorRows

/-
  keyholeref02.Step: the contract.
-/
namespace Go.Proofs.YtlkdofghhibmbaaDoor
open Go.RowKit Go.Kx
set_option maxRecDepth 20000

theorem Sl_block {w w' : World} {b : Nat} {vs : List Value} (h : Sl w (some ⟨b, 0, none⟩) vs) (hb : w'.heap[b]? = w.heap[b]?) (hs : w.heap.size ≤ w'.heap.size) : Sl w' (some ⟨b, 0, none⟩) vs := by
  rcases h with rfl | ⟨b', off, e, hl, hc⟩
  · exact .inl rfl
  · obtain ⟨rfl, rfl⟩ : b = b' ∧ 0 = off := by simpa using e
    exact .inr ⟨b, 0, rfl, by omega, fun j u hu => (World.cell?_of_block (a := ⟨b, 0 + j, none⟩) hb).trans (hc j u hu)⟩
theorem Sl_cell {w : World} {g : Nat} {vs : List Value} (h : Sl w (some ⟨g, 0, none⟩) vs) {j : Nat} {u : Value} (hu : vs[j]? = some u) : w.cell? ⟨g, j, none⟩ = some u := by
  rcases h with rfl | ⟨b', off, e, hl, hc⟩
  · simp at hu
  · obtain ⟨rfl, rfl⟩ : g = b' ∧ 0 = off := by simpa using e
    have := hc j u hu
    rwa [Nat.zero_add] at this
theorem Sl_lt {w : World} {g : Nat} {vs : List Value} (h : Sl w (some ⟨g, 0, none⟩) vs) (h0 : vs ≠ []) : g < w.heap.size := by
  rcases h with rfl | ⟨b', off, e, hl, hc⟩
  · exact absurd rfl h0
  · obtain ⟨rfl, rfl⟩ : g = b' ∧ 0 = off := by simpa using e
    exact hl
def Stp (w V : World) (X gw gk : Nat) (s m : St) (W : Nat → Nat) : Prop :=
  V.rowIs w.heap.size 63 8 (fun j => .int .i64 (s.at j : Nat)) ∧ V.rowIs (w.heap.size + 1) 63 8 (fun _ => .int .i64 0) ∧ V.rowIs X 63 8 (fun j => .int .i64 (m.at j : Nat)) ∧
    Sl V (some ⟨gw, 0, none⟩) (ints (wrowL W 64)) ∧ Sl V (some ⟨gk, 0, none⟩) (ints shaK) ∧ Below w.heap.size w V
section
variable {w V : World} {X gw gk : Nat} {s m : St} {W : Nat → Nat}
theorem Stp.drew (h : Stp w V X gw gk s m W) : Stp w V.drew X gw gk s m W := ⟨h.1, h.2.1, h.2.2.1, h.2.2.2.1, h.2.2.2.2.1, h.2.2.2.2.2.drew⟩
theorem Stp.drewN (h : Stp w V X gw gk s m W) (n : Nat) : Stp w (V.drewN n) X gw gk s m W := ⟨h.1, h.2.1, h.2.2.1, h.2.2.2.1, h.2.2.2.2.1, h.2.2.2.2.2.next' (Below.drewN0 _ _)⟩
theorem Stp.alloc (h : Stp w V X gw gk s m W) (o : Obj) : Stp w (V.alloc o) X gw gk s m W := ⟨h.1.alloc o, h.2.1.alloc o, h.2.2.1.alloc o, h.2.2.2.1.keep (Below.alloc0 _ _), h.2.2.2.2.1.keep (Below.alloc0 _ _), h.2.2.2.2.2.al o⟩
theorem Stp.set8 (h : Stp w V X gw gk s m W) (m' : St) (hX : w.heap.size + 1 < X) (h1 : gw < X) (h2 : gk < X) :
    Stp w ((((((((V.setCell ⟨X, 0, none⟩ (.int .i64 m'.a)).setCell ⟨X, 1, none⟩ (.int .i64 m'.b)).setCell ⟨X, 2, none⟩ (.int .i64 m'.c)).setCell ⟨X, 3, none⟩ (.int .i64 m'.d)).setCell ⟨X, 4, none⟩ (.int .i64 m'.e)).setCell ⟨X, 5, none⟩ (.int .i64 m'.f)).setCell ⟨X, 6, none⟩ (.int .i64 m'.g)).setCell ⟨X, 7, none⟩ (.int .i64 m'.h)) X gw gk s m' W :=
  ⟨h.1.of_block (heap8_set (by omega) _ _ _ _ _ _ _ _), h.2.1.of_block (heap8_set (by omega) _ _ _ _ _ _ _ _), row8_seti h.2.2.1 m', Sl_block h.2.2.2.1 (heap8_set (by omega) _ _ _ _ _ _ _ _) (by simp), Sl_block h.2.2.2.2.1 (heap8_set (by omega) _ _ _ _ _ _ _ _) (by simp),
    below8_set h.2.2.2.2.2 (by omega) _ _ _ _ _ _ _ _⟩
end
theorem addL5 (a b c d e : Nat) : addL [a, b, c, d, e] = (a + b + c + d + e) % 4294967296 := by simp [addL]
theorem row8_newj {w : World} (m : St) : (w.alloc (.cells #[.int .i64 m.a, .int .i64 m.b, .int .i64 m.c, .int .i64 m.d, .int .i64 m.e, .int .i64 m.f, .int .i64 m.g, .int .i64 m.h] 63)).rowIs w.heap.size 63 8 (fun j => .int .i64 (m.at j : Nat)) :=
  World.rowIs_alloc w (rowA .i64 8 m.at) 63 (fun j => .int .i64 (m.at j : Nat)) (fun j hj => rowA_at .i64 8 m.at j (by simpa [rowA_size] using hj))
theorem radd_two (n x y : Nat) (hx : x < 4294967296) (hy : y < 4294967296) (z : Nat) (hz : (x + y) % 4294967296 = z) (w : World) (h0 : w.cell? ⟨n, 0, none⟩ = some (.int .i64 x)) (h1 : w.cell? ⟨n, 1, none⟩ = some (.int .i64 y)) :
    Calls Tryd.prog 66 #[.slice (some ⟨n, 0, none⟩) 2 2] w fun e w' => e = .returned (.int .i64 (z : Nat)) ∧ w' = w :=
  radd_v n 2 [x, y] 2 rfl w (by simp) (by simp; omega) (Sl2 h0 h1) z (by rw [addL_pair, hz])
def mixRow (s m : St) (k j : Nat) : Nat := if j < k then (s.add m).at j else m.at j
theorem mixRow_at (s m : St) (k j : Nat) (h : k ≤ j) : mixRow s m k j = m.at j := if_neg (by omega)
theorem mixRow_set (s m : St) (k j : Nat) : (if j = k then (s.add m).at k else mixRow s m k j) = mixRow s m (k + 1) j := by
  unfold mixRow
  by_cases h : j = k
  · subst h; simp
  · rw [if_neg h]
    by_cases h2 : j < k
    · rw [if_pos h2, if_pos (by omega)]
    · rw [if_neg h2, if_neg (by omega)]
set_option maxRecDepth 100000 in
set_option maxHeartbeats 8000000 in
theorem rstep_yes (s : St) (hs : s.ok) (blk : ByteArray) (hb : blk.size = 64) (w : World) :
   Calls Tryd.prog 43 #[s.v, .string blk] w fun e w' => e = .returned (.tuple #[(stepL s blk.data.toList).v, .bool true]) ∧ Below w.heap.size w w' := by
  have hsl2 : Sl (w.alloc (.cells (i64s s) 63)) (some ⟨w.heap.size, 0, none⟩) (ints s.l) := Sl.new w 63 (i64s s)
  have HSL := Lib.hid (hsl2.keep (Below.alloc0 _ (.cells (rowA .i64 8 fun _ => 0) 63)))
  clear hsl2
  unfold i64s at HSL
  have HLL := Lib.hid (St.l_lt hs)
  obtain ⟨W, hW⟩ : ∃ f, f = fun j => (blkW blk.data.toList).getD j 0 := ⟨_, rfl⟩
  have HSP : Hid (∀ V : World, Calls Tryd.prog 61 #[.string blk] V fun e w' => ∃ g c, e = .returned (.slice (some ⟨g, 0, none⟩) 64 c) ∧ Sl w' (some ⟨g, 0, none⟩) (ints (wrowL W 64)) ∧ Below V.heap.size V w') :=
    Lib.hid (by rw [hW]; exact fun V => spread_any blk V hb)
  have HWL : Hid (∀ j, W j < 4294967296) := Lib.hid (by rw [hW]; exact blkW_lt blk)
  have HWF := Lib.hid hW
  clear hW
  unfold St.v
  go_enter Tryd.func43, Tryd.ntmps43
  go_wp2_with fail
  refine (rall_nats (some ⟨w.heap.size, 0, none⟩) 8 s.l _ (by simp [St.l]) HSL.out HLL.out).mono ?_
  rintro e w1 ⟨rfl, rfl⟩
  have hr1 := rowIs_new (w := w.alloc (.cells (i64s s) 63)) (t := 63) (n := 8) (z := .int .i64 0) (c := rowA .i64 8 fun _ => 0) rfl
  have hr0 := (row8_newj (w := w) s).alloc (.cells (rowA .i64 8 fun _ => 0) 63)
  have hbw := ((Below.refl w.heap.size w).alloc (Nat.le_refl _) (.cells (i64s s) 63)).alloc (by simp) (.cells (rowA .i64 8 fun _ => 0) 63)
  rw [World.size_alloc] at hr1
  unfold i64s at hr1 hbw
  clear HSL
  go_wp2_with fail
  refine (HSP.out _).mono ?_
  rintro e w1 ⟨gw, cw, rfl, hsw, hb1⟩
  have hbw1 := hbw.next' hb1 (by simp)
  have hr01 := rowIs_keep hr0 hb1
  have hr11 := rowIs_keep hr1 hb1
  clear hbw hb1 hr0 hr1
  go_wp2_with fail
  refine (rwords_any _).mono ?_
  rintro e w2 ⟨gk, rfl, hsk, hb2⟩
  have hbw2 := hbw1.next' hb2
  have hr02 := rowIs_keep hr01 hb2
  have hr12 := rowIs_keep hr11 hb2
  have hsw2 := hsw.keep hb2
  have hl12 := hr12.lt
  have hlw := Sl_lt hsw2 (by simp [ints, wrowL])
  have hlk := Sl_lt hsk (by simp [ints, shaK])
  clear hbw1 hb2 hr01 hr11 hsw
  obtain ⟨c0, c1, c2, c3, c4, c5, c6, c7⟩ := row8_i64 hr02
  go_wp2_with fail
  have hst : Stp w (w2.alloc (.cells #[.int .i64 s.a, .int .i64 s.b, .int .i64 s.c, .int .i64 s.d, .int .i64 s.e, .int .i64 s.f, .int .i64 s.g, .int .i64 s.h] 63)) w2.heap.size gw gk s s W :=
    ⟨hr02.alloc _, hr12.alloc _, row8_newj s, hsw2.keep (Below.alloc0 _ _), hsk.keep (Below.alloc0 _ _), hbw2.al _⟩
  clear hr02 hr12 hsw2 hsk hbw2 c0 c1 c2 c3 c4 c5 c6 c7 HSP
  have nX1 : w.heap.size + 1 < w2.heap.size := hl12
  have nX2 : gw < w2.heap.size := hlw
  have nX3 : gk < w2.heap.size := hlk
  generalize w2.heap.size = X at *
  generalize w2.alloc _ = V0 at *
  go_loopw [9, 10, 11, 12, 13, 14, 15] (fun i _ _ _ _ _ _ wr => ∃ k : Nat, k ≤ 64 ∧ i = .int .i64 k ∧ Stp w wr X gw gk s (mixN W s k) W) (fun i _ _ _ _ _ _ _ => 64 - (intOf i).toNat)
  case atStart => exact ⟨0, by omega, rfl, hst⟩
  case round =>
    clear hst
    obtain ⟨k, hk, rfl, hst⟩ := hrel
    have hok := mixN_ok W hs k
    by_cases hl : k < 64
    · have HS := Lib.hid (show mixN W s (k + 1) = rnd (mixN W s k) (shaK.getD k 0) (W k) from rfl)
      have HY : Hid (∀ V, Sl V (some ⟨gw, 0, none⟩) (ints (wrowL W 64)) → V.cell? ⟨gw, k, none⟩ = some (.int .i64 (W k : Nat))) := Lib.hid (fun V h => Sl_cell h (wrowL_get W 64 k hl))
      have HX : Hid (∀ V, Sl V (some ⟨gk, 0, none⟩) (ints shaK) → V.cell? ⟨gk, k, none⟩ = some (.int .i64 (shaK.getD k 0 : Nat))) := Lib.hid (fun V h => Sl_cell h (by simp [ints, List.getD_eq_getElem?_getD, List.getElem?_eq_getElem (show k < shaK.length from hl)]))
      have hkd : (k : Int) < 64 := by omega
      have ly := HWL.out k
      have lx := shaK_lt k
      generalize mixN W s k = m at *
      generalize shaK.getD k 0 = x at *
      generalize W k = y at *
      obtain ⟨a, b, c, d, e, f, g, h⟩ := m
      obtain ⟨la, lb, lc, ld, le, lf, lg, lh⟩ := hok
      dsimp only at la lb lc ld le lf lg lh
      obtain ⟨c0, c1, c2, c3, c4, c5, c6, c7⟩ := row8_i64 hst.2.2.1
      dsimp only at c0 c1 c2 c3 c4 c5 c6 c7
      obtain ⟨ne, hne⟩ : ∃ ne, ne = 4294967295 - e := ⟨_, rfl⟩
      have ene : (4294967295 : Int) - (e : Int) = (ne : Int) := by omega
      have lne : ne < 4294967296 := by omega
      have l1 : e &&& f < 4294967296 := and_lt lf
      have l2 : ne &&& g < 4294967296 := and_lt lg
      have l3 : a &&& b < 4294967296 := and_lt lb
      have l4 : a &&& c < 4294967296 := and_lt lc
      have l5 : b &&& c < 4294967296 := and_lt lc
      have HNE := Lib.hid hne
      have HST := Lib.hid hst
      clear hne hst
      go_wp2
      go_quiet (first
        | (go_at_call 64; refine Calls.quiet_of_same (both_any _ _ ?_ ?_ _) <;> first | assumption | omega)
        | (go_at_call 63; refine Calls.quiet_of_same (unlike_any _ _ ?_ ?_ _) <;> first | assumption | omega))
      go_wp2
      have HST1 := Lib.hid (HST.out.drewN nq)
      clear c0 c1 c2 c3 c4 c5 c6 c7 HST
      generalize wr.drewN nq = V1 at *
      obtain ⟨c0, c1, c2, c3, c4, c5, c6, c7⟩ := row8_i64 HST1.out.2.2.1
      dsimp only at c0 c1 c2 c3 c4 c5 c6 c7
      have lch : (e &&& f) ^^^ (ne &&& g) < 4294967296 := xor_lt l1 l2
      generalize hch : (e &&& f) ^^^ (ne &&& g) = ch at *
      have HCH := Lib.hid hch
      clear hch
      go_quiet (first
        | (go_at_call 64; refine Calls.quiet_of_same (both_any _ _ ?_ ?_ _) <;> first | assumption | omega)
        | (go_at_call 65; refine Calls.quiet_of_same (three_any _ _ _ ?_ ?_ ?_ _) <;> first | assumption | omega))
      go_wp2
      have HST2 := Lib.hid (HST1.out.drewN nq)
      clear c0 c1 c2 c3 c4 c5 c6 c7 HST1
      generalize V1.drewN nq = V2 at *
      obtain ⟨c0, c1, c2, c3, c4, c5, c6, c7⟩ := row8_i64 HST2.out.2.2.1
      dsimp only at c0 c1 c2 c3 c4 c5 c6 c7
      have cy := HY.out V2 HST2.out.2.2.2.1
      have cx := HX.out V2 HST2.out.2.2.2.2.1
      have lmj : ((a &&& b) ^^^ (a &&& c)) ^^^ (b &&& c) < 4294967296 := xor_lt (xor_lt l3 l4) l5
      generalize hmj : ((a &&& b) ^^^ (a &&& c)) ^^^ (b &&& c) = mj at *
      have HMJ := Lib.hid hmj
      clear hmj
      obtain ⟨e6, he6⟩ : ∃ z, bk e 6 = z := ⟨_, rfl⟩
      obtain ⟨e11, he11⟩ : ∃ z, bk e 11 = z := ⟨_, rfl⟩
      obtain ⟨e25, he25⟩ : ∃ z, bk e 25 = z := ⟨_, rfl⟩
      have le6 : e6 < 4294967296 := he6 ▸ bk_lt _ _ le
      have le11 : e11 < 4294967296 := he11 ▸ bk_lt _ _ le
      have le25 : e25 < 4294967296 := he25 ▸ bk_lt _ _ le
      obtain ⟨b1, hb1⟩ : ∃ z, (e6 ^^^ e11) ^^^ e25 = z := ⟨_, rfl⟩
      have lb1 : b1 < 4294967296 := hb1 ▸ xor_lt (xor_lt le6 le11) le25
      obtain ⟨a2, ha2⟩ : ∃ z, bk a 2 = z := ⟨_, rfl⟩
      obtain ⟨a13, ha13⟩ : ∃ z, bk a 13 = z := ⟨_, rfl⟩
      obtain ⟨a22, ha22⟩ : ∃ z, bk a 22 = z := ⟨_, rfl⟩
      have la2 : a2 < 4294967296 := ha2 ▸ bk_lt _ _ la
      have la13 : a13 < 4294967296 := ha13 ▸ bk_lt _ _ la
      have la22 : a22 < 4294967296 := ha22 ▸ bk_lt _ _ la
      obtain ⟨b0, hb0⟩ : ∃ z, (a2 ^^^ a13) ^^^ a22 = z := ⟨_, rfl⟩
      have lb0 : b0 < 4294967296 := hb0 ▸ xor_lt (xor_lt la2 la13) la22
      obtain ⟨u, hu⟩ : ∃ z, addL [h, b1, ch, x, y] = z := ⟨_, rfl⟩
      obtain ⟨v, hv⟩ : ∃ z, (b0 + mj) % 4294967296 = z := ⟨_, rfl⟩
      have lu : u < 4294967296 := hu ▸ addL_lt _
      have lv : v < 4294967296 := by omega
      obtain ⟨n1, hn1⟩ : ∃ z, (u + v) % 4294967296 = z := ⟨_, rfl⟩
      obtain ⟨n5, hn5⟩ : ∃ z, (d + u) % 4294967296 = z := ⟨_, rfl⟩
      have HS2 : Hid (mixN W s (k + 1) = ⟨n1, a, b, c, n5, e, f, g⟩) := Lib.hid (by
        rw [HS.out, ← hn1, ← hn5, ← hv, ← hu, ← hb0, ← hb1, ← ha2, ← ha13, ← ha22, ← he6, ← he11, ← he25, ← HMJ.out, ← HCH.out, HNE.out, addL5]; rfl)
      have HL2 : Hid (∀ z ∈ [b0, mj], z < 4294967296) := Lib.hid (by simp; omega)
      have HV2 : Hid (addL [b0, mj] = v) := Lib.hid (by rw [addL_pair, hv])
      have HL5 : Hid (∀ z ∈ [h, b1, ch, x, y], z < 4294967296) := Lib.hid (by simp; omega)
      have HE6 := Lib.hid he6
      have HE11 := Lib.hid he11
      have HE25 := Lib.hid he25
      have HB1 := Lib.hid hb1
      have HA2 := Lib.hid ha2
      have HA13 := Lib.hid ha13
      have HA22 := Lib.hid ha22
      have HB0 := Lib.hid hb0
      have HU := Lib.hid hu
      have HV := Lib.hid hv
      have HN1 := Lib.hid hn1
      have HN5 := Lib.hid hn5
      clear he6 he11 he25 hb1 ha2 ha13 ha22 hb0 hu hv hn1 hn5 HS HMJ HCH HNE
      refine wp_region_still_tail 18 (by kernel_rfl) (by kernel_rfl) ?_
      simp only [List.take_succ_cons, List.take_zero, List.drop_succ_cons, List.drop_zero]
      repeat still_step
      still_call (rback_v e 6 6 rfl le (by omega) e6 HE6.out _)
      repeat still_step
      still_call (rback_v e 11 11 rfl le (by omega) e11 HE11.out _)
      repeat still_step
      still_call (rback_v e 25 25 rfl le (by omega) e25 HE25.out _)
      repeat still_step
      still_call (three_v e6 e11 e25 le6 le11 le25 b1 HB1.out _)
      repeat still_step
      refine wpStill_nil ?_
      have HST3 := Lib.hid (HST2.out.drew)
      change wpList _ _ _ _ _ V2.drew
      clear c0 c1 c2 c3 c4 c5 c6 c7 cx cy HST2
      generalize V2.drew = V3 at *
      go_wp2_with fail
      refine (radd_v _ _ [h, b1, ch, x, y] _ rfl _ (by simp) HL5.out (Sl.new' rfl) u HU.out).mono ?_
      rintro e' w' ⟨rfl, rfl⟩
      go_wp2_with fail
      refine (rback_v a 2 2 rfl la (by omega) a2 HA2.out _).mono ?_
      rintro e' w' ⟨rfl, rfl⟩
      go_wp2_with fail
      refine (rback_v a 13 13 rfl la (by omega) a13 HA13.out _).mono ?_
      rintro e' w' ⟨rfl, rfl⟩
      go_wp2_with fail
      refine (rback_v a 22 22 rfl la (by omega) a22 HA22.out _).mono ?_
      rintro e' w' ⟨rfl, rfl⟩
      go_wp2_with fail
      refine (three_v a2 a13 a22 la2 la13 la22 b0 HB0.out _).mono ?_
      rintro e' w' ⟨rfl, rfl⟩
      go_wp2_with fail
      refine (radd_v _ _ [b0, mj] _ rfl _ (by simp) HL2.out (Sl.new' (by simp)) v HV2.out).mono ?_
      rintro e' w' ⟨rfl, rfl⟩
      have HST4 := Lib.hid ((HST3.out.alloc (.cells #[.int .i64 h, .int .i64 b1, .int .i64 ch, .int .i64 x, .int .i64 y] 3)).alloc (.cells #[.int .i64 b0, .int .i64 mj] 3))
      go_wp2_with fail
      clear HST3
      generalize (V3.alloc _).alloc _ = V4 at *
      obtain ⟨c0, c1, c2, c3, c4, c5, c6, c7⟩ := row8_i64 HST4.out.2.2.1
      dsimp only at c0 c1 c2 c3 c4 c5 c6 c7
      have df := HST4.out.2.2.1.frozen
      have hXl := HST4.out.2.2.1.lt
      have hSU : V4.drew.cell? ⟨X, 1, none⟩ = some (.int .i64 b) ∧ V4.drew.cell? ⟨X, 2, none⟩ = some (.int .i64 c) ∧ V4.drew.cell? ⟨X, 3, none⟩ = some (.int .i64 d) ∧ V4.drew.cell? ⟨X, 5, none⟩ = some (.int .i64 f) ∧ V4.drew.cell? ⟨X, 6, none⟩ = some (.int .i64 g) := ⟨c1, c2, c3, c5, c6⟩
      refine Upto.begin_ 20 (fun w' : World => w'.cell? ⟨X, 1, none⟩ = some (.int .i64 b) ∧ w'.cell? ⟨X, 2, none⟩ = some (.int .i64 c) ∧ w'.cell? ⟨X, 3, none⟩ = some (.int .i64 d) ∧ w'.cell? ⟨X, 5, none⟩ = some (.int .i64 f) ∧ w'.cell? ⟨X, 6, none⟩ = some (.int .i64 g)) (by kernel_rfl) ?_
      refine Upto.take (i := 0) (v := ?_) rfl (by kernel_rfl) (by kernel_rfl) (by kernel_rfl) (by kernel_rfl) (fun _ _ _ h => h) (Or.inl ⟨by rfl, ?_⟩) hSU ?_
      rotate_left 1
      · intro w9 hSw; (try dsimp only at hSw); go_simp; (try with_reducible rfl)
      try simp only [Act.put, List.setIfInBounds_toArray, List.set_cons_zero, List.set_cons_succ]
      refine Upto.take (i := 1) (v := ?_) rfl (by kernel_rfl) (by kernel_rfl) (by kernel_rfl) (by kernel_rfl) (fun _ _ _ h => h) (Or.inl ⟨by rfl, ?_⟩) hSU ?_
      rotate_left 1
      · intro w9 hSw; (try dsimp only at hSw); go_simp; (try with_reducible rfl)
      try simp only [Act.put, List.setIfInBounds_toArray, List.set_cons_zero, List.set_cons_succ]
      refine Upto.take (i := 4) (v := ?_) rfl (by kernel_rfl) (by kernel_rfl) (by kernel_rfl) (by kernel_rfl) (fun _ _ _ h => h) (Or.inl ⟨by rfl, ?_⟩) hSU ?_
      rotate_left 1
      · intro w9 hSw; (try dsimp only at hSw); go_simp; (try with_reducible rfl)
      try simp only [Act.put, List.setIfInBounds_toArray, List.set_cons_zero, List.set_cons_succ]
      refine Upto.take (i := 5) (v := ?_) rfl (by kernel_rfl) (by kernel_rfl) (by kernel_rfl) (by kernel_rfl) (fun _ _ _ h => h) (Or.inl ⟨by rfl, ?_⟩) hSU ?_
      rotate_left 1
      · intro w9 hSw; (try dsimp only at hSw); go_simp; (try with_reducible rfl)
      try simp only [Act.put, List.setIfInBounds_toArray, List.set_cons_zero, List.set_cons_succ]
      refine Upto.take (i := 6) (v := ?_) rfl (by kernel_rfl) (by kernel_rfl) (by kernel_rfl) (by kernel_rfl) (fun _ _ _ h => h) (Or.inl ⟨by rfl, ?_⟩) hSU ?_
      rotate_left 1
      · intro w9 hSw; (try dsimp only at hSw); go_simp; (try with_reducible rfl)
      try simp only [Act.put, List.setIfInBounds_toArray, List.set_cons_zero, List.set_cons_succ]
      refine Upto.take (i := 7) (v := ?_) rfl (by kernel_rfl) (by kernel_rfl) (by kernel_rfl) (by kernel_rfl) (fun _ _ _ h => h) (Or.inl ⟨by rfl, ?_⟩) hSU ?_
      rotate_left 1
      · intro w9 hSw; (try dsimp only at hSw); go_simp; (try with_reducible rfl)
      try simp only [Act.put, List.setIfInBounds_toArray, List.set_cons_zero, List.set_cons_succ]
      refine Upto.take (i := 8) (v := ?_) rfl (by kernel_rfl) (by kernel_rfl) (by kernel_rfl) (by kernel_rfl) (fun _ _ _ h => h) (Or.inl ⟨by rfl, ?_⟩) hSU ?_
      rotate_left 1
      · intro w9 hSw; (try dsimp only at hSw); go_simp; (try with_reducible rfl)
      try simp only [Act.put, List.setIfInBounds_toArray, List.set_cons_zero, List.set_cons_succ]
      refine Upto.take (i := 9) (v := ?_) rfl (by kernel_rfl) (by kernel_rfl) (by kernel_rfl) (by kernel_rfl) (fun _ _ _ h => h) (Or.inl ⟨by rfl, ?_⟩) hSU ?_
      rotate_left 1
      · intro w9 hSw; (try dsimp only at hSw); go_simp; (try with_reducible rfl)
      try simp only [Act.put, List.setIfInBounds_toArray, List.set_cons_zero, List.set_cons_succ]
      refine Upto.take (i := 10) (v := ?_) rfl (by kernel_rfl) (by kernel_rfl) (by kernel_rfl) (by kernel_rfl) (fun _ _ _ h => h) (Or.inl ⟨by rfl, ?_⟩) hSU ?_
      rotate_left 1
      · intro w9 hSw; (try dsimp only at hSw); go_simp; (try with_reducible rfl)
      try simp only [Act.put, List.setIfInBounds_toArray, List.set_cons_zero, List.set_cons_succ]
      refine Upto.take (i := 11) (v := ?_) rfl (by kernel_rfl) (by kernel_rfl) (by kernel_rfl) (by kernel_rfl) (fun _ _ _ h => h) (Or.inl ⟨by rfl, ?_⟩) hSU ?_
      rotate_left 1
      · intro w9 hSw; (try dsimp only at hSw); go_simp; (try with_reducible rfl)
      try simp only [Act.put, List.setIfInBounds_toArray, List.set_cons_zero, List.set_cons_succ]
      refine Upto.take (i := 14) (v := ?_) rfl (by kernel_rfl) (by kernel_rfl) (by kernel_rfl) (by kernel_rfl) (fun _ _ _ h => h) (Or.inl ⟨by rfl, ?_⟩) hSU ?_
      rotate_left 1
      · intro w9 hSw; (try dsimp only at hSw); go_simp; (try with_reducible rfl)
      try simp only [Act.put, List.setIfInBounds_toArray, List.set_cons_zero, List.set_cons_succ]
      refine Upto.take (i := 15) (v := ?_) rfl (by kernel_rfl) (by kernel_rfl) (by kernel_rfl) (by kernel_rfl) (fun _ _ _ h => h) (Or.inl ⟨by rfl, ?_⟩) hSU ?_
      rotate_left 1
      · intro w9 hSw; (try dsimp only at hSw); go_simp; (try with_reducible rfl)
      try simp only [Act.put, List.setIfInBounds_toArray, List.set_cons_zero, List.set_cons_succ]
      refine Upto.take (i := 16) (v := ?_) rfl (by kernel_rfl) (by kernel_rfl) (by kernel_rfl) (by kernel_rfl) (fun _ _ _ h => h) (Or.inl ⟨by rfl, ?_⟩) hSU ?_
      rotate_left 1
      · intro w9 hSw; (try dsimp only at hSw); go_simp; (try with_reducible rfl)
      try simp only [Act.put, List.setIfInBounds_toArray, List.set_cons_zero, List.set_cons_succ]
      refine Upto.take (i := 17) (v := ?_) rfl (by kernel_rfl) (by kernel_rfl) (by kernel_rfl) (by kernel_rfl) (fun _ _ _ h => h) (Or.inl ⟨by rfl, ?_⟩) hSU ?_
      rotate_left 1
      · intro w9 hSw; (try dsimp only at hSw); go_simp; (try with_reducible rfl)
      try simp only [Act.put, List.setIfInBounds_toArray, List.set_cons_zero, List.set_cons_succ]
      refine Upto.take (i := 18) (v := ?_) rfl (by kernel_rfl) (by kernel_rfl) (by kernel_rfl) (by kernel_rfl) (fun _ _ _ h => h) (Or.inl ⟨by rfl, ?_⟩) hSU ?_
      rotate_left 1
      · intro w9 hSw; (try dsimp only at hSw); go_simp; (try with_reducible rfl)
      try simp only [Act.put, List.setIfInBounds_toArray, List.set_cons_zero, List.set_cons_succ]
      refine Upto.two (i := 2) (j := 12) (by kernel_rfl) (Upto.step rfl fun K hK => ?_) (Upto.step rfl fun K hK => ?_)
      · go_simp
        refine hK.out _ _ (Or.inr ?_) ?_
        · (try dsimp only); go_keep
        clear hK K
        try simp only [Act.put, List.setIfInBounds_toArray, List.set_cons_zero, List.set_cons_succ]
        refine Upto.two (i := 3) (j := 12) (by kernel_rfl) (Upto.step rfl fun K hK => ?_) (Upto.step rfl fun K hK => ?_)
        · go_simp
          go_at_call 66; refine (radd_two _ u v lu lv n1 HN1.out _ ?_ ?_).mono ?_; (simp); (simp); rintro e' w' ⟨rfl, rfl⟩
          refine hK.out _ _ (Or.inr ?_) ?_
          · (try dsimp only); go_keep
          clear hK K
          try simp only [Act.put, List.setIfInBounds_toArray, List.set_cons_zero, List.set_cons_succ]
          refine Upto.one (i := 12) (by kernel_rfl) (Upto.step rfl fun K hK => ?_)
          go_simp
          refine hK.out _ _ (Or.inr ?_) ?_
          · (try dsimp only); go_keep
          clear hK K
          try simp only [Act.put, List.setIfInBounds_toArray, List.set_cons_zero, List.set_cons_succ]
          refine Upto.one (i := 13) (by kernel_rfl) (Upto.step rfl fun K hK => ?_)
          go_simp
          go_at_call 66; refine (radd_two _ d u ld lu n5 HN5.out _ ?_ ?_).mono ?_; (simp); (simp); rintro e' w' ⟨rfl, rfl⟩
          refine hK.out _ _ (Or.inr ?_) ?_
          · (try dsimp only); go_keep
          clear hK K
          try simp only [Act.put, List.setIfInBounds_toArray, List.set_cons_zero, List.set_cons_succ]
          refine Upto.one (i := 19) (by kernel_rfl) (Upto.step rfl fun K hK => ?_)
          go_simp
          refine hK.out _ _ (Or.inr ?_) ?_
          · (try dsimp only); go_keep
          clear hK K
          try simp only [Act.put, List.setIfInBounds_toArray, List.set_cons_zero, List.set_cons_succ]
          refine Upto.one (i := 20) (by kernel_rfl) (Upto.step rfl fun K hK => ?_)
          go_simp
          refine hK.out _ _ (Or.inl rfl) ?_
          clear hK K
          try simp only [Act.put, List.setIfInBounds_toArray, List.set_cons_zero, List.set_cons_succ]
          refine Upto.done (by kernel_rfl) ?_ _
          go_wp2
          go_roundw
          case rel => exact ⟨k + 1, by omega, by go_num, by rw [HS2.out]; exact (((HST4.out.set8 ⟨n1, a, b, c, n5, e, f, g⟩ nX1 nX2 nX3).alloc _).alloc _).drew⟩
          case measure => simp [intOf]; omega
        · go_simp
          refine hK.out _ _ (Or.inr ?_) ?_
          · (try dsimp only); go_keep
          clear hK K
          try simp only [Act.put, List.setIfInBounds_toArray, List.set_cons_zero, List.set_cons_succ]
          refine Upto.one (i := 3) (by kernel_rfl) (Upto.step rfl fun K hK => ?_)
          go_simp
          go_at_call 66; refine (radd_two _ u v lu lv n1 HN1.out _ ?_ ?_).mono ?_; (simp); (simp); rintro e' w' ⟨rfl, rfl⟩
          refine hK.out _ _ (Or.inr ?_) ?_
          · (try dsimp only); go_keep
          clear hK K
          try simp only [Act.put, List.setIfInBounds_toArray, List.set_cons_zero, List.set_cons_succ]
          refine Upto.one (i := 13) (by kernel_rfl) (Upto.step rfl fun K hK => ?_)
          go_simp
          go_at_call 66; refine (radd_two _ d u ld lu n5 HN5.out _ ?_ ?_).mono ?_; (simp); (simp); rintro e' w' ⟨rfl, rfl⟩
          refine hK.out _ _ (Or.inr ?_) ?_
          · (try dsimp only); go_keep
          clear hK K
          try simp only [Act.put, List.setIfInBounds_toArray, List.set_cons_zero, List.set_cons_succ]
          refine Upto.one (i := 19) (by kernel_rfl) (Upto.step rfl fun K hK => ?_)
          go_simp
          refine hK.out _ _ (Or.inr ?_) ?_
          · (try dsimp only); go_keep
          clear hK K
          try simp only [Act.put, List.setIfInBounds_toArray, List.set_cons_zero, List.set_cons_succ]
          refine Upto.one (i := 20) (by kernel_rfl) (Upto.step rfl fun K hK => ?_)
          go_simp
          refine hK.out _ _ (Or.inl rfl) ?_
          clear hK K
          try simp only [Act.put, List.setIfInBounds_toArray, List.set_cons_zero, List.set_cons_succ]
          refine Upto.done (by kernel_rfl) ?_ _
          go_wp2
          go_roundw
          case rel => exact ⟨k + 1, by omega, by go_num, by rw [HS2.out]; exact (((HST4.out.set8 ⟨n1, a, b, c, n5, e, f, g⟩ nX1 nX2 nX3).alloc _).alloc _).drew⟩
          case measure => simp [intOf]; omega
      · go_simp
        refine hK.out _ _ (Or.inr ?_) ?_
        · (try dsimp only); go_keep
        clear hK K
        try simp only [Act.put, List.setIfInBounds_toArray, List.set_cons_zero, List.set_cons_succ]
        refine Upto.one (i := 2) (by kernel_rfl) (Upto.step rfl fun K hK => ?_)
        go_simp
        refine hK.out _ _ (Or.inr ?_) ?_
        · (try dsimp only); go_keep
        clear hK K
        try simp only [Act.put, List.setIfInBounds_toArray, List.set_cons_zero, List.set_cons_succ]
        refine Upto.one (i := 3) (by kernel_rfl) (Upto.step rfl fun K hK => ?_)
        go_simp
        go_at_call 66; refine (radd_two _ u v lu lv n1 HN1.out _ ?_ ?_).mono ?_; (simp); (simp); rintro e' w' ⟨rfl, rfl⟩
        refine hK.out _ _ (Or.inr ?_) ?_
        · (try dsimp only); go_keep
        clear hK K
        try simp only [Act.put, List.setIfInBounds_toArray, List.set_cons_zero, List.set_cons_succ]
        refine Upto.one (i := 13) (by kernel_rfl) (Upto.step rfl fun K hK => ?_)
        go_simp
        go_at_call 66; refine (radd_two _ d u ld lu n5 HN5.out _ ?_ ?_).mono ?_; (simp); (simp); rintro e' w' ⟨rfl, rfl⟩
        refine hK.out _ _ (Or.inr ?_) ?_
        · (try dsimp only); go_keep
        clear hK K
        try simp only [Act.put, List.setIfInBounds_toArray, List.set_cons_zero, List.set_cons_succ]
        refine Upto.one (i := 19) (by kernel_rfl) (Upto.step rfl fun K hK => ?_)
        go_simp
        refine hK.out _ _ (Or.inr ?_) ?_
        · (try dsimp only); go_keep
        clear hK K
        try simp only [Act.put, List.setIfInBounds_toArray, List.set_cons_zero, List.set_cons_succ]
        refine Upto.one (i := 20) (by kernel_rfl) (Upto.step rfl fun K hK => ?_)
        go_simp
        refine hK.out _ _ (Or.inl rfl) ?_
        clear hK K
        try simp only [Act.put, List.setIfInBounds_toArray, List.set_cons_zero, List.set_cons_succ]
        refine Upto.done (by kernel_rfl) ?_ _
        go_wp2
        go_roundw
        case rel => exact ⟨k + 1, by omega, by go_num, by rw [HS2.out]; exact (((HST4.out.set8 ⟨n1, a, b, c, n5, e, f, g⟩ nX1 nX2 nX3).alloc _).alloc _).drew⟩
        case measure => simp [intOf]; omega
    · obtain rfl : k = 64 := by omega
      obtain ⟨hr0, hr1, hrX, _, _, hbw⟩ := hst
      obtain ⟨m, hm⟩ : ∃ m, mixN W s 64 = m := ⟨_, rfl⟩
      rw [hm] at hrX hok
      have HM := Lib.hid hm
      have HSA := Lib.hid (St.at_lt hs)
      have HMA := Lib.hid (St.at_lt hok)
      have hrX' : wr.rowIs X 63 8 (fun j => .int .i64 (mixRow s m 0 j : Nat)) := hrX.congr fun j _ => by rw [mixRow_at s m 0 j (by omega)]
      clear hm hrX
      go_wp2
      rw [show ((64 : Nat) : Int) = 64 from rfl]
      go_loopw [16] (fun i wr => ∃ k : Nat, k ≤ 8 ∧ i = .int .i64 k ∧ wr.rowIs w.heap.size 63 8 (fun j => .int .i64 (s.at j : Nat)) ∧ wr.rowIs (w.heap.size + 1) 63 8 (fun _ => .int .i64 0) ∧
        wr.rowIs X 63 8 (fun j => .int .i64 (mixRow s m k j : Nat)) ∧ Below w.heap.size w wr) (fun i _ => 8 - (intOf i).toNat)
      case atStart => exact ⟨0, by omega, rfl, hr0, hr1, hrX', hbw⟩
      case round =>
        clear hr0 hr1 hrX' hbw
        obtain ⟨k, hk, rfl, q0, q1, qX, qb⟩ := hrel
        by_cases hl : k < 8
        · have hkI : (k : Int) < 8 := by omega
          have d0 := q0.cell (i := k) hl
          have dx := qX.cell (i := k) hl
          rw [mixRow_at s m k k (Nat.le_refl k)] at dx
          have df := qX.frozen k
          have hXl := qX.lt
          have m1 : ¬ w.heap.size = X := by omega
          have m3 : ¬ X = w.heap.size := by omega
          have hxl := HSA.out k
          have hyl := HMA.out k
          have HSET := Lib.hid (mixRow_set s m k)
          have HADD : Hid ((m.at k + s.at k) % 4294967296 = (s.add m).at k) := Lib.hid (by rw [add_at s m k hl, Nat.add_comm])
          generalize (s.add m).at k = z at *
          generalize s.at k = x at *
          generalize m.at k = y at *
          go_wp2
          go_region_law (go_simp; go_at_call 66; refine (radd_two _ y x hyl hxl z HADD.out _ ?_ ?_).mono ?_; (simp); (simp); rintro e' w' ⟨rfl, rfl⟩)
          all_goals go_wp2
          all_goals go_roundw
          case rel =>
            refine ⟨k + 1, by omega, by go_num, ((q0.setOther (by simpa using m1) _).alloc _).drew, ((q1.setOther (by simp; omega) _).alloc _).drew, ?_, ((qb.setCell (p := ⟨X, k, none⟩) (by simp; omega) _).alloc (by simp; omega) _).drew⟩
            refine (((qX.set k _).alloc _).drew).congr fun j _ => ?_
            rw [← HSET.out j]
            split <;> rfl
          case measure => simp [intOf]; omega
          case rel =>
            refine ⟨k + 1, by omega, by go_num, ((q0.setOther (by simpa using m1) _).alloc _).drew, ((q1.setOther (by simp; omega) _).alloc _).drew, ?_, ((qb.setCell (p := ⟨X, k, none⟩) (by simp; omega) _).alloc (by simp; omega) _).drew⟩
            refine (((qX.set k _).alloc _).drew).congr fun j _ => ?_
            rw [← HSET.out j]
            split <;> rfl
          case measure => simp [intOf]; omega
        · obtain rfl : k = 8 := by omega
          obtain ⟨c, h7, hcs, hc⟩ := rowIs_block qX
          obtain ⟨c0, h4, hcs0, hc0⟩ := rowIs_block q1
          have hinf : (Tryd.prog.info? 63).map (·.size) = some c.size := by rw [hcs]; exact row8_size
          have hold : c0.size = c.size := by rw [hcs, hcs0]
          have hall := all_one_ints hc
          have HC := Lib.hid hc
          clear hc hc0 hcs0 hcs
          go_wp2_with (first
            | (refine wpList_load_row rfl _ _ rfl X rfl _ _ _ _ h7 Tryd.underlying63 rfl hinf ?_)
            | (refine wpList_store_row rfl _ _ _ rfl (w.heap.size + 1) _ rfl rfl _ _ h4 hinf hold hall ?_))
          refine bodyPost_ret (v := .tuple #[.agg c, .bool true]) (results_cell_slot rfl _ _ (w.heap.size + 1) _ _ _ _ rfl (setRow_heap _ _ _ _ _ _ h4) Tryd.underlying63 rfl hinf _ rfl) rfl ⟨?_, qb.setRow (by omega) _⟩
          have he : c = rowA .i64 8 (s.add m).at := by
            rw [HC.out, rowA]
            refine congrArg List.toArray (List.map_congr_left fun j hj => ?_)
            rw [mixRow, if_pos (by simpa using hj)]
          rw [he, ← St.v_row, show stepL s blk.data.toList = s.add m by rw [stepL, ← HM.out, HWF.out]]
          rfl
end Go.Proofs.YtlkdofghhibmbaaDoor

/-
  What walks over the digest take of its mathematics: a slice of a string by ints, a Sum's length, a Sum at a literal.
-/
namespace Go.Proofs.YtlkdofghhibmbaaDoor
open Go.RowKit Go.Kx
set_option maxRecDepth 20000

theorem run_slice_str {P : Program} {t : TypeId} (h : P.underlying t = some .string) (s : ByteArray) (lo hi : Int) (h0 : 0 ≤ lo) (h1 : lo ≤ hi) (h2 : hi ≤ (s.size : Int)) (V : World) :
    (Instr.slice t (.string s) (some (.int .i64 lo)) (some (.int .i64 hi)) none).run P V = .ok (.string (s.extract lo.toNat hi.toNat)) V := by
  obtain ⟨l, rfl⟩ := Int.eq_ofNat_of_zero_le h0
  obtain ⟨m, rfl⟩ := Int.eq_ofNat_of_zero_le (a := hi) (by omega)
  have e1 : (Instr.sliceBound (.int .i64 (m : Int)) s.size .sliceAlen).run P V = .ok m V := by
    simp only [Instr.sliceBound, asIntOf, Sem.run_bind, Sem.run_pure, Result.andThen_ok, if_pos (show 0 ≤ (m : Int) ∧ (m : Int) ≤ (s.size : Int) by omega), Int.toNat_natCast]
  have e2 : (Instr.sliceBound (.int .i64 (l : Int)) m .sliceB).run P V = .ok l V := by
    simp only [Instr.sliceBound, asIntOf, Sem.run_bind, Sem.run_pure, Result.andThen_ok, if_pos (show 0 ≤ (l : Int) ∧ (l : Int) ≤ (m : Int) by omega), Int.toNat_natCast]
  simp only [Instr.slice, Instr.sliceBounds, Sem.run_bind, run_underlying h, Result.andThen_ok, Option.isSome_none, Bool.false_eq_true, if_false, Sem.run_pure, e1, e2, Int.toNat_natCast]
theorem sumL_length (l : List UInt8) : (sumL l).length = 32 := by rw [sumL, joinL_length]; rfl
theorem sum_lit (l : List UInt8) (hl : l.length ≤ 1000000000) (d : ByteArray) (hd : d = ⟨(sumL l).toArray⟩) (w : World) (hK : Consts w) :
    Calls Tryd.prog 14 #[.string ⟨l.toArray⟩] w fun e w' => e = .returned (.string d) ∧ Below w.heap.size w w' := by
  subst hd
  have h := sum_any ⟨l.toArray⟩ (by rw [size_mk]; exact hl) w hK
  rw [show (ByteArray.mk l.toArray).data.toList = l from List.toList_toArray] at h
  exact h
end Go.Proofs.YtlkdofghhibmbaaDoor

/-
  Chunks of a text: what a fold over them and a slice of the text say (over the digest's mathematics).
-/
namespace Go.Proofs.YtlkdofghhibmbaaDoor
open Go.RowKit Go.Kx
set_option maxRecDepth 20000

theorem row8_newi {w : World} {t : TypeId} (m : St) : (w.alloc (.cells #[.int .i64 m.a, .int .i64 m.b, .int .i64 m.c, .int .i64 m.d, .int .i64 m.e, .int .i64 m.f, .int .i64 m.g, .int .i64 m.h] t)).rowIs w.heap.size t 8 (fun j => .int .i64 (m.at j : Nat)) :=
  World.rowIs_alloc w (rowA .i64 8 m.at) t (fun j => .int .i64 (m.at j : Nat)) (fun j hj => rowA_at .i64 8 m.at j (by simpa [rowA_size] using hj))
theorem chunk_ext (a : ByteArray) (L : List UInt8) (hL : a.data.toList = L) (j : Nat) (hj : j % 64 = 0) (h : j + 64 ≤ a.size) : a.extract j (j + 64) = chunkB L (j / 64) ∧ (chunkB L (j / 64)).size = 64 := by
  subst hL
  have hl : a.data.toList.length = a.size := by simp
  refine ⟨?_, ?_⟩
  · apply ByteArray.ext
    apply Array.toList_inj.1
    rw [Lib.extract_data, chunkB, chunkAt, show 64 * (j / 64) = j by omega, show j + 64 - j = 64 by omega]
  · rw [chunkB, size_mk, chunkAt, List.length_take, List.length_drop]; omega
theorem fold_next (L : List UInt8) (j : Nat) (hj : j % 64 = 0) (h : j + 64 ≤ L.length) : stepL (foldS ((chunksB L).take (j / 64))) (chunkB L (j / 64)).data.toList = foldS ((chunksB L).take ((j + 64) / 64)) := by
  rw [← foldS_snoc, chunksB_take L (j / 64) (by omega), show (j + 64) / 64 = j / 64 + 1 by omega]
theorem run_slice_chunk (a : ByteArray) (L : List UInt8) (hL : a.data.toList = L) (j : Nat) (hj : j % 64 = 0) (h : j + 64 ≤ a.size) (V : World) :
    (Instr.slice 9 (.string a) (some (.int .i64 (j : Int))) (some (.int .i64 ((j : Int) + 64))) none).run Tryd.prog V = .ok (.string (chunkB L (j / 64))) V := by
  rw [run_slice_str Tryd.underlying9 a _ _ (by omega) (by omega) (by omega), Int.toNat_natCast, show ((j : Int) + 64).toNat = j + 64 by omega, (chunk_ext a L hL j hj h).1]

end Go.Proofs.YtlkdofghhibmbaaDoor

/-
  keyholeref02.Pad: the contract.
-/
namespace Go.Proofs.YtlkdofghhibmbaaDoor
open Go.RowKit Go.Kx
set_option maxRecDepth 20000

theorem rpad_no (n : Int) (hn : n < 0 ∨ 1000000000 < n) (w : World) :
    Calls Tryd.prog 41 #[.int .i64 n] w fun e w' => e = .returned (.tuple #[.string ⟨#[]⟩, .bool false]) ∧ w = w' := by
  by_cases h : n < 0
  · go_enter Tryd.func41, Tryd.ntmps41
    go_wp2
    go_ret2
    exact ⟨rfl, rfl⟩
  · have h2 : 1000000000 < n := by omega
    go_enter Tryd.func41, Tryd.ntmps41
    go_wp2
    go_ret2
    exact ⟨rfl, rfl⟩
theorem own_new (w : World) (b : UInt8) : (w.alloc (.cells #[.int .u8 (b.toNat : Int)] 5)).ownsRow w.heap.size 5 1 (.slice (some ⟨w.heap.size, 0, none⟩) 1 1) 1 (byts [b]) :=
  ⟨rfl, .inr ⟨w.heap.size, 1, _, rfl, Nat.le_refl _, heap_alloc_new w _, Nat.le_refl _, by unfold maxLen; omega, rfl, rfl⟩⟩
theorem u8_of' {x y : Nat} (h : x % 256 = y % 256) : UInt8.ofNat x = UInt8.ofNat y := by
  apply UInt8.toNat.inj
  simpa [UInt8.toNat_ofNat'] using h
theorem jat (h : Bool) (xs : List Nat) (i : Nat) (hi : i < 4 * xs.length) : (joinL h xs)[i]? = some (UInt8.ofNat (xs.getD (i / 4) 0 / 2 ^ shN h (i % 4))) := by simp [joinL, hi]
theorem j4 (a b : Nat) : (joinL true [a, b])[4]? = some (UInt8.ofNat (b / 16777216)) ∧ (joinL true [a, b])[5]? = some (UInt8.ofNat (b / 65536)) ∧ (joinL true [a, b])[6]? = some (UInt8.ofNat (b / 256)) ∧ (joinL true [a, b])[7]? = some (UInt8.ofNat b) := by
  refine ⟨?_, ?_, ?_, ?_⟩
  · rw [jat _ _ _ (by simp)]; rfl
  · rw [jat _ _ _ (by simp)]; rfl
  · rw [jat _ _ _ (by simp)]; rfl
  · rw [jat _ _ _ (by simp)]; show some (UInt8.ofNat (b / 1)) = _; rw [Nat.div_one]
theorem padL_get (n : Nat) (j : Nat) : (j < (64 - (n + 9) % 64) % 64 → (padL n)[1 + j]? = some 0) ∧ (j < 8 → (padL n)[1 + (64 - (n + 9) % 64) % 64 + j]? = some (UInt8.ofNat (8 * n / 256 ^ (7 - j)))) := by
  unfold padL
  generalize hz : (64 - (n + 9) % 64) % 64 = z
  constructor
  · intro hj
    rw [Nat.add_comm, List.getElem?_cons_succ, List.getElem?_append_left (by simpa using hj)]
    simp [hj]
  · intro hj
    rw [show 1 + z + j = (z + j) + 1 by omega, List.getElem?_cons_succ, List.getElem?_append_right (by simp)]
    rw [List.length_replicate, Nat.add_sub_cancel_left]
    rcases (by omega : j = 0 ∨ j = 1 ∨ j = 2 ∨ j = 3 ∨ j = 4 ∨ j = 5 ∨ j = 6 ∨ j = 7) with rfl | rfl | rfl | rfl | rfl | rfl | rfl | rfl
    · show some (UInt8.ofNat (8 * n / 4294967296 / 16777216)) = some (UInt8.ofNat (8 * n / 72057594037927936)); rw [Nat.div_div_eq_div_mul]
    · show some (UInt8.ofNat (8 * n / 4294967296 / 65536)) = some (UInt8.ofNat (8 * n / 281474976710656)); rw [Nat.div_div_eq_div_mul]
    · show some (UInt8.ofNat (8 * n / 4294967296 / 256)) = some (UInt8.ofNat (8 * n / 1099511627776)); rw [Nat.div_div_eq_div_mul]
    · show some (UInt8.ofNat (8 * n / 4294967296 / 1)) = some (UInt8.ofNat (8 * n / 4294967296)); rw [Nat.div_one]
    · rw [show (7 - 4 : Nat) = 3 from rfl, (j4 _ _).1]; exact congrArg some (u8_of' (by omega))
    · rw [show (7 - 5 : Nat) = 2 from rfl, (j4 _ _).2.1]; exact congrArg some (u8_of' (by omega))
    · rw [show (7 - 6 : Nat) = 1 from rfl, (j4 _ _).2.2.1]; exact congrArg some (u8_of' (by omega))
    · rw [show (7 - 7 : Nat) = 0 from rfl, (j4 _ _).2.2.2]; exact congrArg some (u8_of' (by show _ = 8 * n / 1 % 256; omega))
theorem padL_length (n : Nat) : (padL n).length = 1 + (64 - (n + 9) % 64) % 64 + 8 := by
  unfold padL
  rw [List.length_cons, List.length_append, List.length_replicate, joinL_length]
  simp; omega
set_option maxHeartbeats 2000000 in
theorem rpad_yes (n : Nat) (hn : n ≤ 1000000000) (w : World) :
    Calls Tryd.prog 41 #[.int .i64 n] w fun e w' => e = .returned (.tuple #[.string ⟨(padL n).toArray⟩, .bool true]) ∧ Below w.heap.size w w' := by
  obtain ⟨i0, hi, hz0, hz1, hz2⟩ := info_parts byte_info
  have h1 : ¬ (n : Int) < 0 := by omega
  have h2 : ¬ 1000000000 < (n : Int) := by omega
  have HL := Lib.hid (padL_length n)
  have HA : Hid (∀ j, j < (64 - (n + 9) % 64) % 64 → (padL n)[1 + j]? = some 0) := Lib.hid (fun j => (padL_get n j).1)
  have HB : Hid (∀ j, j < 8 → (padL n)[1 + (64 - (n + 9) % 64) % 64 + j]? = some (UInt8.ofNat (8 * n / 256 ^ (7 - j)))) := Lib.hid (fun j => (padL_get n j).2)
  have H0 : Hid ((padL n).take 1 = [128]) := Lib.hid rfl
  generalize hL : padL n = L at *
  clear hL
  obtain ⟨z, hz⟩ : ∃ z, z = (64 - (n + 9) % 64) % 64 := ⟨_, rfl⟩
  rw [← hz] at HL HA HB
  have hzl : z < 64 := by omega
  have HZ := Lib.hid hz
  clear hz
  go_enter Tryd.func41, Tryd.ntmps41
  go_wp2_with fail
  go_loopw [4] (fun v wr => ∃ k A c : Nat, k ≤ z ∧ v = .slice (some ⟨A, 0, none⟩) (1 + k) c ∧ wr.ownsRow w.heap.size 5 1 v (1 + k) (byts (L.take (1 + k))) ∧ Below w.heap.size w wr) (fun v _ => match v with | .slice _ m _ => 100 - m | _ => 0)
  case atStart => exact ⟨0, w.heap.size, 1, Nat.zero_le _, rfl, by rw [H0.out]; exact own_new w 128, Below.alloc0 _ _⟩
  case round =>
    obtain ⟨k, A, c, hk, rfl, hown, hb⟩ := hrel
    by_cases hlt : k < z
    · have hc : (((n : Int) + ((1 + k : Nat) : Int) + 8) % 64 != 0) = true := by have h3 := HZ.out; simp; omega
      have HX : Hid (L[1 + k]? = some 0) := Lib.hid (HA.out k hlt)
      generalize hm : 1 + k = m at *
      have hm1 : m ≤ 64 := by omega
      go_wp2_with (first
        | (at_builtin; refine wpList_append_own _ rfl _ _ 72 rfl w.heap.size 5 i0 (.int .u8 0) 1 1 Tryd.underlying72 hi hz0 hz1 hz2 rfl (by decide) _ _ _ rfl (hown.alloc _) ⟨wr.heap.size, 0, none⟩ 1 1 [.int .u8 ((0 : UInt8).toNat : Int)] rfl rfl ?c1 ?c2 ?c3 ?c4 ?c5 ?_)
        | go_in)
      case c1 =>
        intro j u hj
        match j, hj with
        | 0, hj => simp at hj; subst hj; simp [Addr.add]
      case c2 => intro u hu; simp at hu; subst hu; rfl
      case c3 => unfold maxLen; omega
      case c4 => omega
      case c5 => have h1 := hb.size; simp; omega
      · intro v' w1 hown' hgrow _
        have hb1 := own_below (hown.alloc _) (hb.al _) hgrow
        have e : byts (L.take m) ++ [Value.int .u8 0] = _ := byts_snoc (L.take m) 0
        rw [e, take_snocB HX.out] at hown'
        clear e hown hgrow hb
        obtain ⟨g, cap, rfl, _⟩ := hown'.form (by omega)
        go_wp2
        go_roundw
        case rel =>
          refine ⟨k + 1, g, cap, by omega, ?_, ?_, hb1⟩
          · rw [show 1 + (k + 1) = m + 1 by omega]
          · rw [show 1 + (k + 1) = m + 1 by omega]; exact hown'
        case measure => show 100 - (m + 1) < 100 - m; omega
    · obtain rfl : k = z := by omega
      have hc : (((n : Int) + (1 + (k : Int)) + 8) % 64 != 0) = false := by have h3 := HZ.out; simp; omega
      go_wp2_with fail
      clear hc
      go_loopw [4, 5, 6] (fun v vq vi wr => ∃ i m q A c : Nat, i ≤ 8 ∧ vi = .int .i64 i ∧ Hid (m = 1 + k + i) ∧ Hid (q = 256 ^ (8 - i) / 256) ∧ vq = .int .i64 q ∧ v = .slice (some ⟨A, 0, none⟩) m c ∧ wr.ownsRow w.heap.size 5 1 v m (byts (L.take m)) ∧ Below w.heap.size w wr) (fun _ _ i _ => 8 - (intOf i).toNat)
      case atStart => exact ⟨0, 1 + k, 72057594037927936, A, c, by omega, rfl, Lib.hid rfl, Lib.hid rfl, rfl, rfl, hown, hb⟩
      case round =>
        clear hown hb
        obtain ⟨i, m, q, A, c, hil, rfl, hm, hq, rfl, rfl, hown, hb⟩ := hrel
        have hmz : m ≤ 80 := by have h3 := hm.out; omega
        have hm0 : 0 < m := by have h3 := hm.out; omega
        by_cases hlt : i < 8
        · have HX : Hid (L[m]? = some (UInt8.ofNat (8 * n / 256 ^ (7 - i)))) := Lib.hid (by rw [hm.out]; exact HB.out i hlt)
          have hq1 : q = 256 ^ (7 - i) := by rw [hq.out, show 8 - i = (7 - i) + 1 by omega, Nat.pow_succ, Nat.mul_div_cancel _ (by omega)]
          have hq2 : Hid (q / 256 = 256 ^ (8 - (i + 1)) / 256) := Lib.hid (by rw [hq1, show 8 - (i + 1) = 7 - i by omega])
          have hq0 : 0 < q := by rw [hq1]; exact Nat.pow_pos (by omega)
          have hql : q ≤ 72057594037927936 := by rw [hq1]; exact (show 256 ^ (7 - i) ≤ 256 ^ 7 from Nat.pow_le_pow_right (by omega) (by omega))
          rw [← hq1] at HX
          clear hq1 hq
          have hv : ((8 * (n : Int)) / (q : Int)).tmod 256 = (((UInt8.ofNat (8 * n / q)).toNat : Nat) : Int) := by
            have e1 : (8 * (n : Int)) / (q : Int) = ((8 * n / q : Nat) : Int) := by rw [Int.natCast_ediv, Int.natCast_mul]; rfl
            rw [e1, UInt8.toNat_ofNat', Int.tmod_eq_emod_of_nonneg (Int.natCast_nonneg _)]; rfl
          have hbl : (UInt8.ofNat (8 * n / q)).toNat < 256 := UInt8.toNat_lt _
          have hbw : IntKind.u8.wrap (((UInt8.ofNat (8 * n / q)).toNat : Nat) : Int) = (((UInt8.ofNat (8 * n / q)).toNat : Nat) : Int) := by simp only [IntKind.wrap, IntKind.bits, IntKind.signed]; simp
          have hb3 : (((UInt8.ofNat (8 * n / q)).toNat : Nat) : Int) % 256 = (((UInt8.ofNat (8 * n / q)).toNat : Nat) : Int) := by omega
          generalize UInt8.ofNat (8 * n / q) = b at *
          go_wp2_with (first
            | (at_builtin; refine wpList_append_own _ rfl _ _ 72 rfl w.heap.size 5 i0 (.int .u8 0) 1 1 Tryd.underlying72 hi hz0 hz1 hz2 rfl (by decide) _ _ _ rfl (hown.alloc _) ⟨wr.heap.size, 0, none⟩ 1 1 [.int .u8 (b.toNat : Int)] rfl rfl ?d1 ?d2 ?d3 ?d4 ?d5 ?_)
            | go_in)
          case d1 =>
            intro j u hj
            match j, hj with
            | 0, hj => simp at hj; subst hj; simp [Addr.add]
          case d2 => intro u hu; simp at hu; subst hu; rfl
          case d3 => unfold maxLen; omega
          case d4 => omega
          case d5 => have h1 := hb.size; simp; omega
          · intro v' w1 hown' hgrow _
            have hb1 := own_below (hown.alloc _) (hb.al _) hgrow
            have e := byts_snoc (L.take m) b
            rw [e, take_snocB HX.out] at hown'
            clear e hown hgrow hb
            obtain ⟨g, cap, rfl, _⟩ := hown'.form (by omega)
            go_wp2
            go_roundw
            case rel =>
              exact ⟨i + 1, m + 1, q / 256, g, cap, by omega, by go_num, Lib.hid (by have h3 := hm.out; omega), hq2, by go_num, rfl, hown', hb1⟩
            case measure => simp [intOf]; omega
        · obtain rfl : i = 8 := by omega
          obtain rfl : m = L.length := by have h3 := hm.out; have h4 := HL.out; omega
          rw [List.take_length] at hown
          obtain ⟨A', c', e, hconv⟩ := own_str hown
          obtain ⟨rfl, rfl⟩ : some ⟨A, 0, none⟩ = A' ∧ c = c' := by simpa using e
          have hconv2 := hconv hm0
          clear hconv e
          generalize hn' : L.length = m at *
          clear hn'
          go_wp2
          go_ret2
          exact ⟨rfl, hb⟩
end Go.Proofs.YtlkdofghhibmbaaDoor

/-
  keyholeref02.Sum: the contract, by that of keyholeref02.Step (a premise here).
-/
namespace Go.Proofs.YtlkdofghhibmbaaDoor
open Go.RowKit Go.Kx
set_option maxRecDepth 20000

def RStep : Prop := ∀ (s : St), s.ok → ∀ blk : ByteArray, blk.size = 64 → ∀ w : World,
   Calls Tryd.prog 43 #[s.v, .string blk] w fun e w' => e = .returned (.tuple #[(stepL s blk.data.toList).v, .bool true]) ∧ Below w.heap.size w w'
theorem rstep_lit (H : RStep) (s : St) (hs : s.ok) (blk : ByteArray) (hb : blk.size = 64) (t : St) (ht : stepL s blk.data.toList = t) (w : World) :
   Calls Tryd.prog 43 #[.agg #[.int .i64 s.a, .int .i64 s.b, .int .i64 s.c, .int .i64 s.d, .int .i64 s.e, .int .i64 s.f, .int .i64 s.g, .int .i64 s.h], .string blk] w fun e w' =>
     e = .returned (.tuple #[.agg #[.int .i64 t.a, .int .i64 t.b, .int .i64 t.c, .int .i64 t.d, .int .i64 t.e, .int .i64 t.f, .int .i64 t.g, .int .i64 t.h], .bool true]) ∧ Below w.heap.size w w' := by
  subst ht
  exact H s hs blk hb w
theorem rstart_any (w : World) : Calls Tryd.prog 42 #[] w fun e w' => e = .returned st0.v ∧ Below w.heap.size w w' := by
  go_enter Tryd.func42, Tryd.ntmps42
  go_wp2
  have hinf : (Tryd.prog.info? 63).map (·.size) = some (i64s st0).size := row8_size
  refine bodyPost_ret (v := st0.v) (results_cell_row rfl _ _ w.heap.size _ (i64s st0) _ _ rfl (by exact World.alloc_heap_new w _) Tryd.underlying63 rfl hinf) rfl ⟨rfl, Below.alloc0 _ _⟩
set_option maxRecDepth 100000 in
set_option maxHeartbeats 4000000 in
theorem rsum_of (H : RStep) (s : ByteArray) (hs : s.size ≤ 2000) (w : World) :
    Calls Tryd.prog 20 #[.string s] w fun e w' => e = .returned (.string ⟨(sumL s.data.toList).toArray⟩) ∧ Below w.heap.size w w' := by
  obtain ⟨p, hp⟩ : ∃ p : ByteArray, p = ⟨(padL s.size).toArray⟩ := ⟨_, rfl⟩
  have hpad := rpad_yes s.size (by omega)
  rw [← hp] at hpad
  have hpl : p.data.toList = padL s.size := by rw [hp]
  have hpz := pad_le s.size
  have hpm := pad_mod s.size
  have hps : p.size = (padL s.size).length := by rw [hp, size_mk]
  obtain ⟨a, ha⟩ : ∃ a : ByteArray, a = s ++ p := ⟨_, rfl⟩
  have hadd : ∀ V : World, (Op.stringOp .add s p).run Tryd.prog V = .ok (.string a) V := fun V => by rw [ha]; exact run_string_add_sum V s p (by omega)
  obtain ⟨L, hL⟩ : ∃ L, a.data.toList = L := ⟨_, rfl⟩
  have hLL : L = s.data.toList ++ padL s.data.toList.length := by rw [← hL, ha, show s.data.toList.length = s.size by simp, ← hpl]; simp
  have has : a.size = L.length := by rw [← hL]; simp
  have haz : a.size = s.size + p.size := by rw [ha]; simp
  have hne : ((a.size : Int) % 64 != 0) = false := by simp; omega
  obtain ⟨d, hd⟩ : ∃ d : ByteArray, d = ⟨(sumL s.data.toList).toArray⟩ := ⟨_, rfl⟩
  have hjn : ∀ (X c : Nat) (V : World), Sl V (some ⟨X, 0, none⟩) (ints (foldS (chunksB L)).l) → Calls Tryd.prog 44 #[.slice (some ⟨X, 0, none⟩) 8 c, .bool true] V fun e w' => e = .returned (.tuple #[.string d, .bool true]) ∧ Below V.heap.size V w' := by
    intro X c V hV
    rw [hd, sumL, ← hLL, ← foldS_chunks]
    exact rjoin_any (some ⟨X, 0, none⟩) c _ true V (by simp [St.l]) hV (St.l_lt (foldS_ok _))
  have HPAD := Lib.hid hpad
  have HL := Lib.hid hL
  have HD := Lib.hid hd
  have HJN := Lib.hid hjn
  have HAS := Lib.hid has
  have HMOD : a.size % 64 = 0 := by omega
  have hLb : a.size ≤ 3000 := by omega
  clear hp hpad hpl hpz hpm hps ha hL hLL haz hd hjn has hne
  go_enter Tryd.func20, Tryd.ntmps20
  go_wp2_with fail
  refine (HPAD.out _).mono ?_
  rintro e w1 ⟨rfl, hb1⟩
  go_wp2_with fail
  refine (rstart_any _).mono ?_
  rintro e w2 ⟨rfl, hb2⟩
  unfold St.v
  go_wp2_with fail
  have hb := hb1.next hb2
  have hr : (w2.alloc (.cells (i64s st0) 63)).rowIs w2.heap.size 63 8 (fun j => .int .i64 ((foldS ((chunksB L).take (0 / 64))).at j : Nat)) :=
    World.rowIs_alloc w2 (i64s st0) 63 (fun j => .int .i64 (st0.at j : Nat)) (fun j hj => rowA_at .i64 8 st0.at j hj)
  have hbw : Below w.heap.size w (w2.alloc (.cells (i64s st0) 63)) := hb.alloc hb.size _
  have hX : w.heap.size ≤ w2.heap.size := hb.size
  clear hb1 hb2 hb
  unfold i64s at hr hbw
  generalize w2.heap.size = X at *
  go_loopw [7] (fun i wr => ∃ j : Nat, j ≤ a.size ∧ j % 64 = 0 ∧ i = .int .i64 j ∧ wr.rowIs X 63 8 (fun q => .int .i64 ((foldS ((chunksB L).take (j / 64))).at q : Nat)) ∧ Below w.heap.size w wr) (fun i _ => a.size - (intOf i).toNat)
  case atStart => exact ⟨0, by omega, by omega, rfl, hr, hbw⟩
  case round =>
    clear hr hbw
    obtain ⟨j, hj, hjm, rfl, hrj, hbj⟩ := hrel
    by_cases hl : j < a.size
    · have hj64 : j + 64 ≤ a.size := by omega
      have hsl := run_slice_chunk a L HL.out j hjm hj64
      have hc64 := (chunk_ext a L HL.out j hjm hj64).2
      have HN := Lib.hid (fold_next L j hjm (by rw [← HAS.out]; exact hj64))
      have hok := foldS_ok ((chunksB L).take (j / 64))
      have hi1 : IntKind.i64.wrap ((j : Int) + 64) = (j : Int) + 64 := IntWalk.i64_in _ (by omega)
      have HJ := Lib.hid hj
      have HJM := Lib.hid hjm
      generalize hT : foldS ((chunksB L).take ((j + 64) / 64)) = T at *
      have HT := Lib.hid hT
      clear hT
      generalize foldS ((chunksB L).take (j / 64)) = S at *
      generalize chunkB L (j / 64) = b at *
      clear hj hjm
      obtain ⟨c0, c1, c2, c3, c4, c5, c6, c7⟩ := row8_i64 hrj
      have hXw := hrj.lt
      go_upto_region 7 with fail
      go_cut [8, 9] from 22 to 38 (fun p8 q9 wx => ∃ g : Nat, p8 = .pointer (some ⟨g, 0, none⟩) ∧ q9 = .bool true ∧ wr.heap.size ≤ g ∧ wx.rowIs g 63 8 (fun q => .int .i64 (T.at q : Nat)) ∧ Below wr.heap.size wr wx)
      case first =>
        go_region_with (go_at_call 43; refine (rstep_lit H S hok b hc64 T HN.out _).mono ?_; rintro e w3 ⟨rfl, hb3⟩; obtain ⟨hc3, hf3⟩ := bcell hb3; have hz3 := hb3.size; (try simp only [World.size_drew] at hc3 hf3 hz3); (try simp only [World.size_alloc] at hc3 hf3 hz3); (try simp only [World.size_drew] at hc3 hf3 hz3); (try have hz4 : wr.heap.size < w3.heap.size := by omega))
        all_goals (go_wp2_with fail; go_meet)
        all_goals have hB3 : Below wr.heap.size wr w3 := (by first | (with_reducible exact (Below.drew0 _).next hb3) | (with_reducible exact ((Below.alloc0 _ _).drew).next' hb3 (Nat.le_refl _)))
        all_goals have hs3 := hB3.size
        all_goals clear hc3 hf3
        all_goals refine ⟨_, rfl, rfl, ?_, ?_, ?_⟩
        all_goals first
          | omega
          | (with_reducible exact row8_newi T)
          | (with_reducible exact hB3.al _)
          | (with_reducible exact row8_seti (rowIs_keep (World.rowIs.drew row8_zero) hb3) T)
          | (with_reducible exact row8_seti (rowIs_keep row8_zero hb3) T)
          | (with_reducible refine below8_set hB3 ?_ _ _ _ _ _ _ _ _; omega)
      case rest =>
        obtain ⟨g, rfl, rfl, hg, hrg, hbg⟩ := hcut
        obtain ⟨d0, d1, d2, d3, d4, d5, d6, d7⟩ := row8_i64 hrg
        have hrX := rowIs_keep hrj hbg
        obtain ⟨x0, x1, x2, x3, x4, x5, x6, x7⟩ := row8_i64 hrX
        have xf := hrX.frozen
        clear c0 c1 c2 c3 c4 c5 c6 c7
        go_wp2
        go_roundw
        case rel =>
          have hjo := HJ.out
          have hjo2 := HJM.out
          refine ⟨j + 64, by omega, by omega, by go_num, ?_, below8_set (hbj.next' hbg) hX _ _ _ _ _ _ _ _⟩
          rw [HT.out]
          exact row8_seti hrX T
        case measure => simp [intOf]; omega
    · obtain rfl : j = a.size := by omega
      have hall := chunksB_all L (a.size / 64) (by rw [HAS.out]; omega)
      rw [hall] at hrj
      have hsl : Sl wr (some ⟨X, 0, none⟩) (ints (foldS (chunksB L)).l) := Sl_of_row hrj
      clear hall hrj
      go_wp2_with fail
      refine (HJN.out X 8 wr hsl).mono ?_
      rintro e w3 ⟨rfl, hb3⟩
      go_wp2
      go_ret
      exact ⟨by rw [← HD.out]; rfl, hbj.next' hb3⟩
end Go.Proofs.YtlkdofghhibmbaaDoor

/-
  keyholeref02.Sum, the premise of the tape reference's contracts.
-/
namespace Go.Proofs.YtlkdofghhibmbaaDoor
open Go.RowKit Go.Kx

theorem rsumT_paid : RSumT := fun s d hs hd w => by
  have h := rsum_of rstep_yes s (by omega) w
  rwa [hd] at h
end Go.Proofs.YtlkdofghhibmbaaDoor

/-
  The last step of a law's row, over any program, any number and any types of arguments: the law told true, and below the heap's old size nothing has turned.
-/
namespace Go.Kx
open Go.RowKit Go.ChangeShapes

section
variable {H : Type} {enc : TypeId × Value → H} {P : Program}
theorem trod_again (hl : laidOutB P = true) {W W' : World} (hb : Below W.heap.size W W') : ∀ {ts : List TypeId} {vs : List Value} {ds : List (DataW H)} {ps : List MemPlace},
    (∀ t ∈ ts, P.readableRec t = true ∧ t < P.types.size) → DataW.TrodAll enc P W 0 (fun _ => true) true ts vs ds ps → (∀ x ∈ ps, x.block < W.heap.size) →
    DataW.TrodAll enc P W' 0 (fun b => decide (b < W.heap.size)) true ts vs ds ps := by
  intro ts
  induction ts with
  | nil =>
    intro vs ds ps _ h _
    obtain ⟨rfl, rfl, rfl⟩ := trodAll_nil h
    exact trodAll_mk0
  | cons t ts ih =>
    intro vs ds ps ht h hlt
    obtain ⟨v, vs', d, ds', p, q, rfl, rfl, rfl, h0, h1⟩ := trodAll_cons h
    have hlt0 : ∀ x ∈ p, x.block < W.heap.size := fun x hx => hlt x (List.mem_append_left _ hx)
    have hlt1 : ∀ x ∈ q, x.block < W.heap.size := fun x hx => hlt x (List.mem_append_right _ hx)
    have ht0 := ht t List.mem_cons_self
    exact trodAll_cons_mk (Below.trod hl ht0.1 ht0.2 h0 hb hlt0) (ih (fun t' h' => ht t' (List.mem_cons_of_mem _ h')) h1 hlt1)

/-- A law's row: it told true; what came in reads as it did. -/
theorem law_post {s : ChangeSpec} {f : Func} {apart handsOn : Bool} {W W' : World} {args : Array Value} {ds gs : List (DataW H)} {before : List MemPlace} {B : TypeId}
    (hl : laidOutB P = true) (hts : f.params.toList.all (fun t => P.readableRec t && decide (t < P.types.size)) = true) (hrt : f.resultTypes = #[B]) (hB : P.underlying B = some .bool) (hvars : s.vars = [])
    (hW : DataW.Whole enc P f.params.toList s.vars apart W args.toList ds gs before)
    (hr : (s.fn H (ds ++ gs)).results = [.lit (.bool true)]) (ha : (s.fn H (ds ++ gs)).args = ds) (hv : (s.fn H (ds ++ gs)).vars = []) (hb : Below W.heap.size W W') :
    s.post enc P f apart true handsOn false W args (.bool true) W' := by
  have hlt : ∀ x ∈ before, x.block < W.heap.size := fun x hx => hW.lt x hx
  have hW0 := hW
  obtain ⟨p, q, hA, hV, rfl, _, _⟩ := hW
  rw [hvars] at hV
  obtain ⟨rfl, rfl⟩ := trodVars_none hV
  have hts' : ∀ t ∈ f.params.toList, P.readableRec t = true ∧ t < P.types.size := by
    intro t ht
    have := List.all_eq_true.1 hts t ht
    simpa using this
  have hnew := trod_again hl hb hts' hA (fun x hx => hlt x (List.mem_append_left _ hx))
  refine ⟨ds, [], _, [], p, [], hW0, ?_, by rw [ha]; exact hnew, by rw [hvars, hv]; rfl, hb.frame _ |> World.keptBut_mono (fun x hx => ⟨hx, Or.inr (Or.inl (by simpa using hx))⟩), fun h => by cases h⟩
  rw [hr, hrt]
  exact trodAll_cons_mk (p' := []) (shut_bool hB true) trodAll_mk0
end
end Go.Kx

/-
  A []keyholeref12.Op argument opened: a script in memory.
-/
namespace Go.Proofs.YtlkdofghhibmbaaDoor
open Go.RowKit Go.Kx
set_option maxRecDepth 20000
open Go.ChangeShapes Go.WideShapes Go.ChangeAt Go.Deep

theorem op_cells : Tryd.prog.cellsOf 31 = 3 := by kernel_rfl
theorem op_int : Tryd.prog.cellsOf 3 = 1 := by kernel_rfl
theorem op_str : Tryd.prog.cellsOf 9 = 1 := by kernel_rfl
/-- One step of three cells, read. -/
theorem op_read {H : Type} {enc : TypeId × Value → H} {W : World} {held : Bool} {n : Nat} {cs : List Value} {y : DataW H × List MemPlace} (hlen : cs.length = 3) (h : DataW.trod enc Tryd.prog W 0 (fun _ => true) held n 31 cs = some y) :
    ∃ o : TapeOp, cs = [.int .i64 o.kind, .int .i64 o.num, .string o.name] ∧ o.name.size ≤ 9223372036854775807 := by
  obtain ⟨xs, k, hk, -, -, hxl, hf⟩ := DataW.trod_struct Tryd.underlying31 h
  match cs, hlen with
  | [v0, v1, v2], _ =>
    simp at hxl
    match xs, hxl with
    | [y0, y1, y2], _ =>
      have g0 := hf 0 _ rfl
      have g1 := hf 1 _ rfl
      have g2 := hf 2 _ rfl
      simp [op_int, op_str] at g0 g1 g2
      obtain ⟨z0, e0, -⟩ := DataW.trod_int Tryd.underlying3 g0
      obtain ⟨z1, e1, -⟩ := DataW.trod_int Tryd.underlying3 g1
      obtain ⟨z2, e2, hz⟩ := DataW.trod_string Tryd.underlying9 g2
      refine ⟨⟨z0, z1, z2⟩, ?_, ?_⟩
      · simp at e0 e1 e2
        rw [e0, e1, e2]
      · have h9 := hz.2
        unfold maxLen at h9
        exact h9
theorem open_opl {H : Type} {enc : TypeId × Value → H} {W : World} {base : Nat} {v : Value} {d : DataW H} {p : List MemPlace} (hv : Value.okWide Tryd.prog W .any base 22 v) (h : DataW.Trod enc Tryd.prog W 0 (fun _ => true) true 22 v d p)
    (hlt : ∀ x ∈ p, x.block < W.heap.size) : ∃ (A : Option Addr) (l : List TapeOp) (c : Nat), v = .slice A l.length c ∧ l.length ≤ 9223372036854775807 ∧ (∀ i, i < l.length → (l.getD i default).name.size ≤ 9223372036854775807) ∧ Ops W A l := by
  obtain ⟨a0, len, cap, rfl⟩ := okWide_slice Tryd.underlying22 hv
  obtain ⟨fuel, hf⟩ := h
  rcases open_slice Tryd.underlying22 hf with ⟨hcs, hx⟩ | ⟨a, len', cap', m, n, D, Pl, hcs, hb, hl, hm, hmm, hx, hi⟩
  · simp [Value.cells] at hcs
    obtain ⟨rfl, rfl, rfl⟩ := hcs
    exact ⟨none, [], 0, rfl, by simp, fun i hi => absurd hi (by simp), .inl rfl⟩
  · simp [Value.cells] at hcs
    obtain ⟨rfl, rfl, rfl⟩ := hcs
    simp only [if_true] at hmm
    subst hmm
    simp only [Prod.mk.injEq] at hx
    obtain ⟨rfl, rfl⟩ := hx
    unfold maxLen at hm
    obtain ⟨S, hS⟩ := choose_lt (α := TapeOp) (p := fun i o => W.cell? (a.add (i * 3)) = some (.int .i64 o.kind) ∧ W.cell? (a.add (i * 3 + 1)) = some (.int .i64 o.num) ∧ W.cell? (a.add (i * 3 + 2)) = some (.string o.name) ∧ o.name.size ≤ 9223372036854775807) (fun i hi' => by
      obtain ⟨cs', h1, h2⟩ := hi i hi'
      rw [op_cells] at h1
      obtain ⟨_, hlen, hcell⟩ := World.cells?_some h1
      obtain ⟨o, rfl, hz⟩ := op_read hlen h2
      have e0 := hcell 0 (by omega)
      have e1 := hcell 1 (by omega)
      have e2 := hcell 2 (by omega)
      rw [add_add] at e0 e1 e2
      exact ⟨o, by simpa using e0, by simpa using e1, by simpa using e2, hz⟩)
    have hget : ∀ i, i < len → ((List.range len).map S).getD i default = S i := fun i hi' => by simp [List.getD, hi']
    refine ⟨some a, (List.range len).map S, _, by rw [List.length_map, List.length_range], by simp; omega, fun i hi' => ?_, ?_⟩
    · rw [hget i (by simpa using hi')]
      exact (hS i (by have : i < len := by simpa using hi'
                      omega)).2.2.2
    · by_cases hl0 : len = 0
      · subst hl0
        exact .inl rfl
      · obtain ⟨b, off, spot⟩ := a
        have h0 := (hS 0 (by omega)).1
        have hspot : spot = none := by simpa [Addr.add] using World.cell?_spot h0
        subst hspot
        refine .inr ⟨b, off, rfl, hlt (.cell b off) (List.mem_append_left _ (MemPlace.mem_row.2 ⟨0, by rw [op_cells]; omega, by simp⟩)), fun i hi' => ?_⟩
        have hi2 : i < len := by simpa using hi'
        obtain ⟨k0, k1, k2, -⟩ := hS i (by omega)
        rw [add_plain] at k0 k1 k2
        rw [hget i hi2]
        exact ⟨k0, by rw [Nat.add_assoc]; exact k1, by rw [Nat.add_assoc]; exact k2⟩
end Go.Proofs.YtlkdofghhibmbaaDoor

/-
  Of several listed variables, what is said of one (any program).
-/
namespace Go.Kx
open Go.RowKit

theorem laidVars_at {P : Program} {w : World} : ∀ {L : List (String × DataW Unit)} {ps : List MemPlace}, DataW.LaidVars P w L ps → ∀ {n : String} {d : DataW Unit}, (n, d) ∈ L →
    ∃ g t cs fuel p, P.globalNamed n = some g ∧ (P.globals[g]?).map (·.type) = some t ∧ w.var? P n = some cs ∧ DataW.trod (fun _ => ()) P w 0 (fun _ => true) false fuel t cs.toList = some (d, p) := by
  intro L
  induction L with
  | nil => intro ps _ n d hm; cases hm
  | cons x r ih =>
    intro ps h n d hm
    obtain ⟨n0, d0⟩ := x
    obtain ⟨g, t, cs, fuel, p, q, hg, ht, hv, hd, hr, _⟩ := h
    rcases List.mem_cons.1 hm with e | hm
    · obtain ⟨rfl, rfl⟩ := Prod.mk.inj e
      exact ⟨g, t, cs, fuel, p, hg, ht, hv, hd⟩
    · exact ih hr hm
theorem laid_var {P : Program} {W : World} {L : List (String × DataW Unit)} (h : laidMetH P L W) (hp : (L.all fun x => x.2.handleName?.isNone) = true) {n : String} {d : DataW Unit} (hm : (n, d) ∈ L) :
    ∃ g t cs fuel p, P.globalNamed n = some g ∧ (P.globals[g]?).map (·.type) = some t ∧ W.var? P n = some cs ∧ DataW.trod (fun _ => ()) P W 0 (fun _ => true) false fuel t cs.toList = some (d, p) := by
  rw [MakeChecks.laidMetH_plain _ _ _ hp] at h
  obtain ⟨ps, hl, _⟩ := h
  exact laidVars_at hl hm
end Go.Kx

/-
  The table of places, where a row lists it: what the condition gives the walks.
-/
namespace Go.Proofs.YtlkdofghhibmbaaDoor
open Go.RowKit Go.Kx
open Go.ChangeShapes Go.WideShapes Go.ChangeAt

theorem gP : Tryd.prog.globalNamed "keyhole/stream.places" = some 0 := by kernel_rfl
theorem tP : (Tryd.prog.globals[0]?).map (·.type) = some 113 := by kernel_rfl
theorem flat_at : ∀ a, a < 8 → ∀ b, b < 4 → placeL.flatten[a * 4 + b]? = some (placeAt a b) := by decide
theorem row_at : ∀ a, a < 8 → ∀ b, b < 4 → (placeL[a]?.bind fun r => r[b]?) = some (placeAt a b) := by decide
def litL (r : List Nat) : List (DataW Unit) := r.map fun x : Nat => DataW.lit (.int .i64 (x : Int))
theorem places_of {W : World} {L : List (String × DataW Unit)} (h : laidMetH Tryd.prog L W) (hp : (L.all fun x => x.2.handleName?.isNone) = true) (hm : ("keyhole/stream.places", Rows.laid_keyhole_stream_places) ∈ L) : Places W := by
  obtain ⟨g0, t0, cs0, f0, p0, hg0, ht0, hv0, hd0⟩ := laid_var h hp hm
  obtain rfl := Option.some.inj (gP.symm.trans hg0)
  obtain rfl := Option.some.inj (tP.symm.trans ht0)
  obtain ⟨xs, m1, rfl, hx1, hlen, hn3, hel⟩ := DataW.trod_array Tryd.underlying113 hd0
  have hL : xs.map (·.1) = placeL.map (fun r => DataW.agg (litL r)) := by
    have h1 := (Prod.mk.inj hx1).1
    exact (DataW.agg.inj (h1.symm.trans (show (Rows.laid_keyhole_stream_places : DataW Unit) = .agg (placeL.map (fun r => DataW.agg (litL r))) from rfl)))
  have c4 : Tryd.prog.cellsOf 112 = 4 := by kernel_rfl
  have c1 : Tryd.prog.cellsOf 3 = 1 := by kernel_rfl
  intro j v hv
  rw [Nat.zero_add, World.var?_cell hg0 hv0 j]
  obtain ⟨n, hn, rfl⟩ : ∃ n, placeL.flatten[j]? = some n ∧ Value.int .i64 (n : Int) = v := Option.map_eq_some_iff.1 (by rw [← List.getElem?_map]; exact hv)
  have hj : j < 32 := (List.getElem?_eq_some_iff.1 hn).1
  obtain ⟨a, b, ha, hb, rfl⟩ : ∃ a b, a < 8 ∧ b < 4 ∧ j = a * 4 + b := ⟨j / 4, j % 4, by omega, by omega, by omega⟩
  rw [flat_at a ha b hb] at hn
  obtain rfl := Option.some.inj hn
  have he := hel a ha
  rw [c4, List.getElem?_eq_getElem (by omega)] at he
  have h2 : (xs.map (·.1))[a]? = some (xs[a]'(by omega)).1 := by rw [List.getElem?_map, List.getElem?_eq_getElem (by omega)]; rfl
  generalize (xs[a]'(by omega)) = y at he h2
  obtain ⟨ys, m2, rfl, hy1, hlen2, hn4, hel2⟩ := DataW.trod_array Tryd.underlying112 he
  rw [hL, List.getElem?_map, hy1] at h2
  obtain ⟨r, hr, hr2⟩ := Option.map_eq_some_iff.1 h2
  have hyr : litL r = ys.map (·.1) := DataW.agg.inj hr2
  have hrb := row_at a ha b hb
  rw [hr] at hrb
  have hrb2 : r[b]? = some (placeAt a b) := hrb
  have he2 := hel2 b hb
  rw [c1, Nat.mul_one, List.getElem?_eq_getElem (by omega)] at he2
  obtain ⟨k, e1, e2, _⟩ := DataW.trod_int Tryd.underlying3 he2
  have h3 : (ys.map (·.1))[b]? = some (ys[b]'(by omega)).1 := by rw [List.getElem?_map, List.getElem?_eq_getElem (by omega)]; rfl
  rw [← hyr, litL, List.getElem?_map, hrb2, e2] at h3
  have hk : ((placeAt a b : Nat) : Int) = k := by simpa using h3
  rw [hk]
  have h4 : (List.take 1 (List.drop b (List.take 4 (List.drop (a * 4) cs0.toList))))[0]? = some (.int .i64 k) := by rw [e1]; rfl
  rw [List.getElem?_take_of_lt (by omega), List.getElem?_drop, Nat.add_zero, List.getElem?_take_of_lt (by omega), List.getElem?_drop] at h4
  simpa using h4
end Go.Proofs.YtlkdofghhibmbaaDoor

/-
  The 64 constants, where a row lists them: what the condition gives the walks.
-/
namespace Go.Proofs.YtlkdofghhibmbaaDoor
open Go.RowKit Go.Kx
open Go.ChangeShapes Go.WideShapes Go.ChangeAt

theorem gK : Tryd.prog.globalNamed "keyhole/digest.constants" = some 1 := by kernel_rfl
theorem tK : (Tryd.prog.globals[1]?).map (·.type) = some 95 := by kernel_rfl
theorem consts_of {W : World} {L : List (String × DataW Unit)} (h : laidMetH Tryd.prog L W) (hp : (L.all fun x => x.2.handleName?.isNone) = true) (hm : ("keyhole/digest.constants", Rows.laid_keyhole_digest_constants) ∈ L) : Consts W := by
  obtain ⟨g0, t0, cs0, f0, p0, hg0, ht0, hv0, hd0⟩ := laid_var h hp hm
  obtain rfl := Option.some.inj (gK.symm.trans hg0)
  obtain rfl := Option.some.inj (tK.symm.trans ht0)
  obtain ⟨xs, m1, rfl, hx1, hlen, hn3, hel⟩ := DataW.trod_array Tryd.underlying95 hd0
  have hL : xs.map (·.1) = shaK.map (fun x : Nat => (DataW.lit (.int .u32 (x : Int)) : DataW Unit)) := by
    have h1 := (Prod.mk.inj hx1).1
    exact (DataW.agg.inj (h1.symm.trans (show (Rows.laid_keyhole_digest_constants : DataW Unit) = .agg (shaK.map (fun x : Nat => (DataW.lit (.int .u32 (x : Int)) : DataW Unit))) from rfl)))
  have c1 : Tryd.prog.cellsOf 92 = 1 := by kernel_rfl
  intro j v hv
  rw [Nat.zero_add, World.var?_cell hg0 hv0 j]
  obtain ⟨n, hn, rfl⟩ : ∃ n, shaK[j]? = some n ∧ Value.int .u32 (n : Int) = v := by simpa using hv
  have hj : j < 64 := (List.getElem?_eq_some_iff.1 hn).1
  have he := hel j hj
  rw [c1, Nat.mul_one, List.getElem?_eq_getElem (by omega)] at he
  obtain ⟨k, e1, e2, _⟩ := DataW.trod_int Tryd.underlying92 he
  have h2 : (xs.map (·.1))[j]? = some (xs[j]'(by omega)).1 := by rw [List.getElem?_map, List.getElem?_eq_getElem (by omega)]; rfl
  rw [hL, List.getElem?_map, hn, e2] at h2
  have hk : (n : Int) = k := by simpa using h2
  subst hk
  have h3 : (List.take 1 (List.drop j cs0.toList))[0]? = some (.int .u32 (n : Int)) := by rw [e1]; rfl
  simpa [List.getElem?_take] using h3
end Go.Proofs.YtlkdofghhibmbaaDoor
