/-
  keyholeref02.Step: the contract.
-/
import Derived.Test.YtelplkidippclaaDoorRef7
import Derived.Test.YtelplkidippclaaDoorUpto
import Derived.Deep.RegionLaw
import Derived.Test.YtelplkidippclaaDoorDig7
import Derived.StillTailTactics
import Derived.Deep.RegionHeld3
namespace Go.Proofs.YtelplkidippclaaDoor
open Go.RowKit Go.Kx
set_option maxRecDepth 20000

theorem Sl_block {w w' : World} {b : Nat} {vs : List Value} (h : Sl w (some ⟨b, 0, none⟩) vs) (hb : w'.heap[b]? = w.heap[b]?) (hs : w.heap.size ≤ w'.heap.size) : Sl w' (some ⟨b, 0, none⟩) vs := by
  rcases h with rfl | ⟨b', off, e, hl, hc⟩
  · exact .inl rfl
  · obtain ⟨rfl, rfl⟩ : b = b' ∧ 0 = off := by simpa using e
    exact .inr ⟨b, 0, rfl, by omega, fun j u hu => (World.cell?_of_block (a := ⟨b, 0 + j, none⟩) hb).trans (hc j u hu)⟩
theorem Sl_cell {w : World} {g : Nat} {vs : List Value} (h : Sl w (some ⟨g, 0, none⟩) vs) {j : Nat} {u : Value} (hu : vs[j]? = some u) : w.cell? ⟨g, j, none⟩ = some u := by
  rcases h with rfl | ⟨b', off, e, hl, hc⟩
  · simp at hu
  · obtain ⟨rfl, rfl⟩ : g = b' ∧ 0 = off := by simpa using e
    have := hc j u hu
    rwa [Nat.zero_add] at this
theorem Sl_lt {w : World} {g : Nat} {vs : List Value} (h : Sl w (some ⟨g, 0, none⟩) vs) (h0 : vs ≠ []) : g < w.heap.size := by
  rcases h with rfl | ⟨b', off, e, hl, hc⟩
  · exact absurd rfl h0
  · obtain ⟨rfl, rfl⟩ : g = b' ∧ 0 = off := by simpa using e
    exact hl
def Stp (w V : World) (X gw gk : Nat) (s m : St) (W : Nat → Nat) : Prop :=
  V.rowIs w.heap.size 48 8 (fun j => .int .i64 (s.at j : Nat)) ∧ V.rowIs (w.heap.size + 1) 48 8 (fun _ => .int .i64 0) ∧ V.rowIs X 48 8 (fun j => .int .i64 (m.at j : Nat)) ∧
    Sl V (some ⟨gw, 0, none⟩) (ints (rowL W 64)) ∧ Sl V (some ⟨gk, 0, none⟩) (ints shaK) ∧ Below w.heap.size w V
section
variable {w V : World} {X gw gk : Nat} {s m : St} {W : Nat → Nat}
theorem Stp.drew (h : Stp w V X gw gk s m W) : Stp w V.drew X gw gk s m W := ⟨h.1, h.2.1, h.2.2.1, h.2.2.2.1, h.2.2.2.2.1, h.2.2.2.2.2.drew⟩
theorem Stp.drewN (h : Stp w V X gw gk s m W) (n : Nat) : Stp w (V.drewN n) X gw gk s m W := ⟨h.1, h.2.1, h.2.2.1, h.2.2.2.1, h.2.2.2.2.1, h.2.2.2.2.2.next' (Below.drewN0 _ _)⟩
theorem Stp.alloc (h : Stp w V X gw gk s m W) (o : Obj) : Stp w (V.alloc o) X gw gk s m W := ⟨h.1.alloc o, h.2.1.alloc o, h.2.2.1.alloc o, h.2.2.2.1.keep (Below.alloc0 _ _), h.2.2.2.2.1.keep (Below.alloc0 _ _), h.2.2.2.2.2.al o⟩
theorem Stp.set8 (h : Stp w V X gw gk s m W) (m' : St) (hX : w.heap.size + 1 < X) (h1 : gw < X) (h2 : gk < X) :
    Stp w ((((((((V.setCell ⟨X, 0, none⟩ (.int .i64 m'.a)).setCell ⟨X, 1, none⟩ (.int .i64 m'.b)).setCell ⟨X, 2, none⟩ (.int .i64 m'.c)).setCell ⟨X, 3, none⟩ (.int .i64 m'.d)).setCell ⟨X, 4, none⟩ (.int .i64 m'.e)).setCell ⟨X, 5, none⟩ (.int .i64 m'.f)).setCell ⟨X, 6, none⟩ (.int .i64 m'.g)).setCell ⟨X, 7, none⟩ (.int .i64 m'.h)) X gw gk s m' W :=
  ⟨h.1.of_block (heap8_set (by omega) _ _ _ _ _ _ _ _), h.2.1.of_block (heap8_set (by omega) _ _ _ _ _ _ _ _), row8_seti h.2.2.1 m', Sl_block h.2.2.2.1 (heap8_set (by omega) _ _ _ _ _ _ _ _) (by simp), Sl_block h.2.2.2.2.1 (heap8_set (by omega) _ _ _ _ _ _ _ _) (by simp),
    below8_set h.2.2.2.2.2 (by omega) _ _ _ _ _ _ _ _⟩
end
theorem addL5 (a b c d e : Nat) : addL [a, b, c, d, e] = (a + b + c + d + e) % 4294967296 := by simp [addL]
theorem row8_newj {w : World} (m : St) : (w.alloc (.cells #[.int .i64 m.a, .int .i64 m.b, .int .i64 m.c, .int .i64 m.d, .int .i64 m.e, .int .i64 m.f, .int .i64 m.g, .int .i64 m.h] 48)).rowIs w.heap.size 48 8 (fun j => .int .i64 (m.at j : Nat)) :=
  World.rowIs_alloc w (rowA .i64 8 m.at) 48 (fun j => .int .i64 (m.at j : Nat)) (fun j hj => rowA_at .i64 8 m.at j (by simpa [rowA_size] using hj))
theorem radd_two (n x y : Nat) (hx : x < 4294967296) (hy : y < 4294967296) (z : Nat) (hz : (x + y) % 4294967296 = z) (w : World) (h0 : w.cell? ⟨n, 0, none⟩ = some (.int .i64 x)) (h1 : w.cell? ⟨n, 1, none⟩ = some (.int .i64 y)) :
    Calls Tryd.prog 51 #[.slice (some ⟨n, 0, none⟩) 2 2] w fun e w' => e = .returned (.int .i64 (z : Nat)) ∧ w' = w :=
  radd_v n 2 [x, y] 2 rfl w (by simp) (by simp; omega) (Sl2 h0 h1) z (by rw [addL_pair, hz])
def mixRow (s m : St) (k j : Nat) : Nat := if j < k then (s.add m).at j else m.at j
theorem mixRow_at (s m : St) (k j : Nat) (h : k ≤ j) : mixRow s m k j = m.at j := if_neg (by omega)
theorem mixRow_set (s m : St) (k j : Nat) : (if j = k then (s.add m).at k else mixRow s m k j) = mixRow s m (k + 1) j := by
  unfold mixRow
  by_cases h : j = k
  · subst h; simp
  · rw [if_neg h]
    by_cases h2 : j < k
    · rw [if_pos h2, if_pos (by omega)]
    · rw [if_neg h2, if_neg (by omega)]
set_option maxRecDepth 100000 in
set_option maxHeartbeats 8000000 in
theorem rstep_yes (s : St) (hs : s.ok) (blk : ByteArray) (hb : blk.size = 64) (w : World) :
   Calls Tryd.prog 35 #[s.v, .string blk] w fun e w' => e = .returned (.tuple #[(stepL s blk.data.toList).v, .bool true]) ∧ Below w.heap.size w w' := by
  have hsl2 : Sl (w.alloc (.cells (i64s s) 48)) (some ⟨w.heap.size, 0, none⟩) (ints s.l) := Sl.new w 48 (i64s s)
  have HSL := Lib.hid (hsl2.keep (Below.alloc0 _ (.cells (rowA .i64 8 fun _ => 0) 48)))
  clear hsl2
  unfold i64s at HSL
  have HLL := Lib.hid (St.l_lt hs)
  obtain ⟨W, hW⟩ : ∃ f, f = fun j => (blkW blk.data.toList).getD j 0 := ⟨_, rfl⟩
  have HSP : Hid (∀ V : World, Calls Tryd.prog 47 #[.string blk] V fun e w' => ∃ g c, e = .returned (.slice (some ⟨g, 0, none⟩) 64 c) ∧ Sl w' (some ⟨g, 0, none⟩) (ints (rowL W 64)) ∧ Below V.heap.size V w') :=
    Lib.hid (by rw [hW]; exact fun V => spread_any blk V hb)
  have HWL : Hid (∀ j, W j < 4294967296) := Lib.hid (by rw [hW]; exact blkW_lt blk)
  have HWF := Lib.hid hW
  clear hW
  unfold St.v
  go_enter Tryd.func35, Tryd.ntmps35
  go_wp2_with fail
  refine (rall_nats (some ⟨w.heap.size, 0, none⟩) 8 s.l _ (by simp [St.l]) HSL.out HLL.out).mono ?_
  rintro e w1 ⟨rfl, rfl⟩
  have hr1 := rowIs_new (w := w.alloc (.cells (i64s s) 48)) (t := 48) (n := 8) (z := .int .i64 0) (c := rowA .i64 8 fun _ => 0) rfl
  have hr0 := (row8_newj (w := w) s).alloc (.cells (rowA .i64 8 fun _ => 0) 48)
  have hbw := ((Below.refl w.heap.size w).alloc (Nat.le_refl _) (.cells (i64s s) 48)).alloc (by simp) (.cells (rowA .i64 8 fun _ => 0) 48)
  rw [World.size_alloc] at hr1
  unfold i64s at hr1 hbw
  clear HSL
  go_wp2_with fail
  refine (HSP.out _).mono ?_
  rintro e w1 ⟨gw, cw, rfl, hsw, hb1⟩
  have hbw1 := hbw.next' hb1 (by simp)
  have hr01 := rowIs_keep hr0 hb1
  have hr11 := rowIs_keep hr1 hb1
  clear hbw hb1 hr0 hr1
  go_wp2_with fail
  refine (rwords_any _).mono ?_
  rintro e w2 ⟨gk, rfl, hsk, hb2⟩
  have hbw2 := hbw1.next' hb2
  have hr02 := rowIs_keep hr01 hb2
  have hr12 := rowIs_keep hr11 hb2
  have hsw2 := hsw.keep hb2
  have hl12 := hr12.lt
  have hlw := Sl_lt hsw2 (by simp [ints, rowL])
  have hlk := Sl_lt hsk (by simp [ints, shaK])
  clear hbw1 hb2 hr01 hr11 hsw
  obtain ⟨c0, c1, c2, c3, c4, c5, c6, c7⟩ := row8_i64 hr02
  go_wp2_with fail
  have hst : Stp w (w2.alloc (.cells #[.int .i64 s.a, .int .i64 s.b, .int .i64 s.c, .int .i64 s.d, .int .i64 s.e, .int .i64 s.f, .int .i64 s.g, .int .i64 s.h] 48)) w2.heap.size gw gk s s W :=
    ⟨hr02.alloc _, hr12.alloc _, row8_newj s, hsw2.keep (Below.alloc0 _ _), hsk.keep (Below.alloc0 _ _), hbw2.al _⟩
  clear hr02 hr12 hsw2 hsk hbw2 c0 c1 c2 c3 c4 c5 c6 c7 HSP
  have nX1 : w.heap.size + 1 < w2.heap.size := hl12
  have nX2 : gw < w2.heap.size := hlw
  have nX3 : gk < w2.heap.size := hlk
  generalize w2.heap.size = X at *
  generalize w2.alloc _ = V0 at *
  go_loopw [9, 10, 11, 12, 13, 14, 15] (fun i _ _ _ _ _ _ wr => ∃ k : Nat, k ≤ 64 ∧ i = .int .i64 k ∧ Stp w wr X gw gk s (mixN W s k) W) (fun i _ _ _ _ _ _ _ => 64 - (intOf i).toNat)
  case atStart => exact ⟨0, by omega, rfl, hst⟩
  case round =>
    clear hst
    obtain ⟨k, hk, rfl, hst⟩ := hrel
    have hok := mixN_ok W hs k
    by_cases hl : k < 64
    · have HS := Lib.hid (show mixN W s (k + 1) = rnd (mixN W s k) (shaK.getD k 0) (W k) from rfl)
      have HY : Hid (∀ V, Sl V (some ⟨gw, 0, none⟩) (ints (rowL W 64)) → V.cell? ⟨gw, k, none⟩ = some (.int .i64 (W k : Nat))) := Lib.hid (fun V h => Sl_cell h (rowL_get W 64 k hl))
      have HX : Hid (∀ V, Sl V (some ⟨gk, 0, none⟩) (ints shaK) → V.cell? ⟨gk, k, none⟩ = some (.int .i64 (shaK.getD k 0 : Nat))) := Lib.hid (fun V h => Sl_cell h (by simp [ints, List.getD_eq_getElem?_getD, List.getElem?_eq_getElem (show k < shaK.length from hl)]))
      have hkd : (k : Int) < 64 := by omega
      have ly := HWL.out k
      have lx := shaK_lt k
      generalize mixN W s k = m at *
      generalize shaK.getD k 0 = x at *
      generalize W k = y at *
      obtain ⟨a, b, c, d, e, f, g, h⟩ := m
      obtain ⟨la, lb, lc, ld, le, lf, lg, lh⟩ := hok
      dsimp only at la lb lc ld le lf lg lh
      obtain ⟨c0, c1, c2, c3, c4, c5, c6, c7⟩ := row8_i64 hst.2.2.1
      dsimp only at c0 c1 c2 c3 c4 c5 c6 c7
      obtain ⟨ne, hne⟩ : ∃ ne, ne = 4294967295 - e := ⟨_, rfl⟩
      have ene : (4294967295 : Int) - (e : Int) = (ne : Int) := by omega
      have lne : ne < 4294967296 := by omega
      have l1 : e &&& f < 4294967296 := and_lt lf
      have l2 : ne &&& g < 4294967296 := and_lt lg
      have l3 : a &&& b < 4294967296 := and_lt lb
      have l4 : a &&& c < 4294967296 := and_lt lc
      have l5 : b &&& c < 4294967296 := and_lt lc
      have HNE := Lib.hid hne
      have HST := Lib.hid hst
      clear hne hst
      go_wp2
      go_quiet (first
        | (go_at_call 49; refine Calls.quiet_of_same (both_any _ _ ?_ ?_ _) <;> first | assumption | omega)
        | (go_at_call 37; refine Calls.quiet_of_same (unlike_any _ _ ?_ ?_ _) <;> first | assumption | omega))
      go_wp2
      have HST1 := Lib.hid (HST.out.drewN nq)
      clear c0 c1 c2 c3 c4 c5 c6 c7 HST
      generalize wr.drewN nq = V1 at *
      obtain ⟨c0, c1, c2, c3, c4, c5, c6, c7⟩ := row8_i64 HST1.out.2.2.1
      dsimp only at c0 c1 c2 c3 c4 c5 c6 c7
      have lch : (e &&& f) ^^^ (ne &&& g) < 4294967296 := xor_lt l1 l2
      generalize hch : (e &&& f) ^^^ (ne &&& g) = ch at *
      have HCH := Lib.hid hch
      clear hch
      go_quiet (first
        | (go_at_call 49; refine Calls.quiet_of_same (both_any _ _ ?_ ?_ _) <;> first | assumption | omega)
        | (go_at_call 50; refine Calls.quiet_of_same (three_any _ _ _ ?_ ?_ ?_ _) <;> first | assumption | omega))
      go_wp2
      have HST2 := Lib.hid (HST1.out.drewN nq)
      clear c0 c1 c2 c3 c4 c5 c6 c7 HST1
      generalize V1.drewN nq = V2 at *
      obtain ⟨c0, c1, c2, c3, c4, c5, c6, c7⟩ := row8_i64 HST2.out.2.2.1
      dsimp only at c0 c1 c2 c3 c4 c5 c6 c7
      have cy := HY.out V2 HST2.out.2.2.2.1
      have cx := HX.out V2 HST2.out.2.2.2.2.1
      have lmj : ((a &&& b) ^^^ (a &&& c)) ^^^ (b &&& c) < 4294967296 := xor_lt (xor_lt l3 l4) l5
      generalize hmj : ((a &&& b) ^^^ (a &&& c)) ^^^ (b &&& c) = mj at *
      have HMJ := Lib.hid hmj
      clear hmj
      obtain ⟨e6, he6⟩ : ∃ z, bk e 6 = z := ⟨_, rfl⟩
      obtain ⟨e11, he11⟩ : ∃ z, bk e 11 = z := ⟨_, rfl⟩
      obtain ⟨e25, he25⟩ : ∃ z, bk e 25 = z := ⟨_, rfl⟩
      have le6 : e6 < 4294967296 := he6 ▸ bk_lt _ _ le
      have le11 : e11 < 4294967296 := he11 ▸ bk_lt _ _ le
      have le25 : e25 < 4294967296 := he25 ▸ bk_lt _ _ le
      obtain ⟨b1, hb1⟩ : ∃ z, (e6 ^^^ e11) ^^^ e25 = z := ⟨_, rfl⟩
      have lb1 : b1 < 4294967296 := hb1 ▸ xor_lt (xor_lt le6 le11) le25
      obtain ⟨a2, ha2⟩ : ∃ z, bk a 2 = z := ⟨_, rfl⟩
      obtain ⟨a13, ha13⟩ : ∃ z, bk a 13 = z := ⟨_, rfl⟩
      obtain ⟨a22, ha22⟩ : ∃ z, bk a 22 = z := ⟨_, rfl⟩
      have la2 : a2 < 4294967296 := ha2 ▸ bk_lt _ _ la
      have la13 : a13 < 4294967296 := ha13 ▸ bk_lt _ _ la
      have la22 : a22 < 4294967296 := ha22 ▸ bk_lt _ _ la
      obtain ⟨b0, hb0⟩ : ∃ z, (a2 ^^^ a13) ^^^ a22 = z := ⟨_, rfl⟩
      have lb0 : b0 < 4294967296 := hb0 ▸ xor_lt (xor_lt la2 la13) la22
      obtain ⟨u, hu⟩ : ∃ z, addL [h, b1, ch, x, y] = z := ⟨_, rfl⟩
      obtain ⟨v, hv⟩ : ∃ z, (b0 + mj) % 4294967296 = z := ⟨_, rfl⟩
      have lu : u < 4294967296 := hu ▸ addL_lt _
      have lv : v < 4294967296 := by omega
      obtain ⟨n1, hn1⟩ : ∃ z, (u + v) % 4294967296 = z := ⟨_, rfl⟩
      obtain ⟨n5, hn5⟩ : ∃ z, (d + u) % 4294967296 = z := ⟨_, rfl⟩
      have HS2 : Hid (mixN W s (k + 1) = ⟨n1, a, b, c, n5, e, f, g⟩) := Lib.hid (by
        rw [HS.out, ← hn1, ← hn5, ← hv, ← hu, ← hb0, ← hb1, ← ha2, ← ha13, ← ha22, ← he6, ← he11, ← he25, ← HMJ.out, ← HCH.out, HNE.out, addL5]; rfl)
      have HL2 : Hid (∀ z ∈ [b0, mj], z < 4294967296) := Lib.hid (by simp; omega)
      have HV2 : Hid (addL [b0, mj] = v) := Lib.hid (by rw [addL_pair, hv])
      have HL5 : Hid (∀ z ∈ [h, b1, ch, x, y], z < 4294967296) := Lib.hid (by simp; omega)
      have HE6 := Lib.hid he6
      have HE11 := Lib.hid he11
      have HE25 := Lib.hid he25
      have HB1 := Lib.hid hb1
      have HA2 := Lib.hid ha2
      have HA13 := Lib.hid ha13
      have HA22 := Lib.hid ha22
      have HB0 := Lib.hid hb0
      have HU := Lib.hid hu
      have HV := Lib.hid hv
      have HN1 := Lib.hid hn1
      have HN5 := Lib.hid hn5
      clear he6 he11 he25 hb1 ha2 ha13 ha22 hb0 hu hv hn1 hn5 HS HMJ HCH HNE
      refine wp_region_still_tail 18 (by kernel_rfl) (by kernel_rfl) ?_
      simp only [List.take_succ_cons, List.take_zero, List.drop_succ_cons, List.drop_zero]
      repeat still_step
      still_call (rback_v e 6 6 rfl le (by omega) e6 HE6.out _)
      repeat still_step
      still_call (rback_v e 11 11 rfl le (by omega) e11 HE11.out _)
      repeat still_step
      still_call (rback_v e 25 25 rfl le (by omega) e25 HE25.out _)
      repeat still_step
      still_call (three_v e6 e11 e25 le6 le11 le25 b1 HB1.out _)
      repeat still_step
      refine wpStill_nil ?_
      have HST3 := Lib.hid (HST2.out.drew)
      change wpList _ _ _ _ _ V2.drew
      clear c0 c1 c2 c3 c4 c5 c6 c7 cx cy HST2
      generalize V2.drew = V3 at *
      go_wp2_with fail
      refine (radd_v _ _ [h, b1, ch, x, y] _ rfl _ (by simp) HL5.out (Sl.new' rfl) u HU.out).mono ?_
      rintro e' w' ⟨rfl, rfl⟩
      go_wp2_with fail
      refine (rback_v a 2 2 rfl la (by omega) a2 HA2.out _).mono ?_
      rintro e' w' ⟨rfl, rfl⟩
      go_wp2_with fail
      refine (rback_v a 13 13 rfl la (by omega) a13 HA13.out _).mono ?_
      rintro e' w' ⟨rfl, rfl⟩
      go_wp2_with fail
      refine (rback_v a 22 22 rfl la (by omega) a22 HA22.out _).mono ?_
      rintro e' w' ⟨rfl, rfl⟩
      go_wp2_with fail
      refine (three_v a2 a13 a22 la2 la13 la22 b0 HB0.out _).mono ?_
      rintro e' w' ⟨rfl, rfl⟩
      go_wp2_with fail
      refine (radd_v _ _ [b0, mj] _ rfl _ (by simp) HL2.out (Sl.new' (by simp)) v HV2.out).mono ?_
      rintro e' w' ⟨rfl, rfl⟩
      have HST4 := Lib.hid ((HST3.out.alloc (.cells #[.int .i64 h, .int .i64 b1, .int .i64 ch, .int .i64 x, .int .i64 y] 3)).alloc (.cells #[.int .i64 b0, .int .i64 mj] 3))
      go_wp2_with fail
      clear HST3
      generalize (V3.alloc _).alloc _ = V4 at *
      obtain ⟨c0, c1, c2, c3, c4, c5, c6, c7⟩ := row8_i64 HST4.out.2.2.1
      dsimp only at c0 c1 c2 c3 c4 c5 c6 c7
      have df := HST4.out.2.2.1.frozen
      have hXl := HST4.out.2.2.1.lt
      have hSU : V4.drew.cell? ⟨X, 1, none⟩ = some (.int .i64 b) ∧ V4.drew.cell? ⟨X, 2, none⟩ = some (.int .i64 c) ∧ V4.drew.cell? ⟨X, 3, none⟩ = some (.int .i64 d) ∧ V4.drew.cell? ⟨X, 5, none⟩ = some (.int .i64 f) ∧ V4.drew.cell? ⟨X, 6, none⟩ = some (.int .i64 g) := ⟨c1, c2, c3, c5, c6⟩
      refine Upto.begin_ 20 (fun w' : World => w'.cell? ⟨X, 1, none⟩ = some (.int .i64 b) ∧ w'.cell? ⟨X, 2, none⟩ = some (.int .i64 c) ∧ w'.cell? ⟨X, 3, none⟩ = some (.int .i64 d) ∧ w'.cell? ⟨X, 5, none⟩ = some (.int .i64 f) ∧ w'.cell? ⟨X, 6, none⟩ = some (.int .i64 g)) (by kernel_rfl) ?_
      refine Upto.take (i := 0) (v := ?_) rfl (by kernel_rfl) (by kernel_rfl) (by kernel_rfl) (by kernel_rfl) (fun _ _ _ h => h) (Or.inl ⟨by rfl, ?_⟩) hSU ?_
      rotate_left 1
      · intro w9 hSw; (try dsimp only at hSw); go_simp; (try with_reducible rfl)
      try simp only [Act.put, List.setIfInBounds_toArray, List.set_cons_zero, List.set_cons_succ]
      refine Upto.take (i := 1) (v := ?_) rfl (by kernel_rfl) (by kernel_rfl) (by kernel_rfl) (by kernel_rfl) (fun _ _ _ h => h) (Or.inl ⟨by rfl, ?_⟩) hSU ?_
      rotate_left 1
      · intro w9 hSw; (try dsimp only at hSw); go_simp; (try with_reducible rfl)
      try simp only [Act.put, List.setIfInBounds_toArray, List.set_cons_zero, List.set_cons_succ]
      refine Upto.take (i := 4) (v := ?_) rfl (by kernel_rfl) (by kernel_rfl) (by kernel_rfl) (by kernel_rfl) (fun _ _ _ h => h) (Or.inl ⟨by rfl, ?_⟩) hSU ?_
      rotate_left 1
      · intro w9 hSw; (try dsimp only at hSw); go_simp; (try with_reducible rfl)
      try simp only [Act.put, List.setIfInBounds_toArray, List.set_cons_zero, List.set_cons_succ]
      refine Upto.take (i := 5) (v := ?_) rfl (by kernel_rfl) (by kernel_rfl) (by kernel_rfl) (by kernel_rfl) (fun _ _ _ h => h) (Or.inl ⟨by rfl, ?_⟩) hSU ?_
      rotate_left 1
      · intro w9 hSw; (try dsimp only at hSw); go_simp; (try with_reducible rfl)
      try simp only [Act.put, List.setIfInBounds_toArray, List.set_cons_zero, List.set_cons_succ]
      refine Upto.take (i := 6) (v := ?_) rfl (by kernel_rfl) (by kernel_rfl) (by kernel_rfl) (by kernel_rfl) (fun _ _ _ h => h) (Or.inl ⟨by rfl, ?_⟩) hSU ?_
      rotate_left 1
      · intro w9 hSw; (try dsimp only at hSw); go_simp; (try with_reducible rfl)
      try simp only [Act.put, List.setIfInBounds_toArray, List.set_cons_zero, List.set_cons_succ]
      refine Upto.take (i := 7) (v := ?_) rfl (by kernel_rfl) (by kernel_rfl) (by kernel_rfl) (by kernel_rfl) (fun _ _ _ h => h) (Or.inl ⟨by rfl, ?_⟩) hSU ?_
      rotate_left 1
      · intro w9 hSw; (try dsimp only at hSw); go_simp; (try with_reducible rfl)
      try simp only [Act.put, List.setIfInBounds_toArray, List.set_cons_zero, List.set_cons_succ]
      refine Upto.take (i := 8) (v := ?_) rfl (by kernel_rfl) (by kernel_rfl) (by kernel_rfl) (by kernel_rfl) (fun _ _ _ h => h) (Or.inl ⟨by rfl, ?_⟩) hSU ?_
      rotate_left 1
      · intro w9 hSw; (try dsimp only at hSw); go_simp; (try with_reducible rfl)
      try simp only [Act.put, List.setIfInBounds_toArray, List.set_cons_zero, List.set_cons_succ]
      refine Upto.take (i := 9) (v := ?_) rfl (by kernel_rfl) (by kernel_rfl) (by kernel_rfl) (by kernel_rfl) (fun _ _ _ h => h) (Or.inl ⟨by rfl, ?_⟩) hSU ?_
      rotate_left 1
      · intro w9 hSw; (try dsimp only at hSw); go_simp; (try with_reducible rfl)
      try simp only [Act.put, List.setIfInBounds_toArray, List.set_cons_zero, List.set_cons_succ]
      refine Upto.take (i := 10) (v := ?_) rfl (by kernel_rfl) (by kernel_rfl) (by kernel_rfl) (by kernel_rfl) (fun _ _ _ h => h) (Or.inl ⟨by rfl, ?_⟩) hSU ?_
      rotate_left 1
      · intro w9 hSw; (try dsimp only at hSw); go_simp; (try with_reducible rfl)
      try simp only [Act.put, List.setIfInBounds_toArray, List.set_cons_zero, List.set_cons_succ]
      refine Upto.take (i := 11) (v := ?_) rfl (by kernel_rfl) (by kernel_rfl) (by kernel_rfl) (by kernel_rfl) (fun _ _ _ h => h) (Or.inl ⟨by rfl, ?_⟩) hSU ?_
      rotate_left 1
      · intro w9 hSw; (try dsimp only at hSw); go_simp; (try with_reducible rfl)
      try simp only [Act.put, List.setIfInBounds_toArray, List.set_cons_zero, List.set_cons_succ]
      refine Upto.take (i := 14) (v := ?_) rfl (by kernel_rfl) (by kernel_rfl) (by kernel_rfl) (by kernel_rfl) (fun _ _ _ h => h) (Or.inl ⟨by rfl, ?_⟩) hSU ?_
      rotate_left 1
      · intro w9 hSw; (try dsimp only at hSw); go_simp; (try with_reducible rfl)
      try simp only [Act.put, List.setIfInBounds_toArray, List.set_cons_zero, List.set_cons_succ]
      refine Upto.take (i := 15) (v := ?_) rfl (by kernel_rfl) (by kernel_rfl) (by kernel_rfl) (by kernel_rfl) (fun _ _ _ h => h) (Or.inl ⟨by rfl, ?_⟩) hSU ?_
      rotate_left 1
      · intro w9 hSw; (try dsimp only at hSw); go_simp; (try with_reducible rfl)
      try simp only [Act.put, List.setIfInBounds_toArray, List.set_cons_zero, List.set_cons_succ]
      refine Upto.take (i := 16) (v := ?_) rfl (by kernel_rfl) (by kernel_rfl) (by kernel_rfl) (by kernel_rfl) (fun _ _ _ h => h) (Or.inl ⟨by rfl, ?_⟩) hSU ?_
      rotate_left 1
      · intro w9 hSw; (try dsimp only at hSw); go_simp; (try with_reducible rfl)
      try simp only [Act.put, List.setIfInBounds_toArray, List.set_cons_zero, List.set_cons_succ]
      refine Upto.take (i := 17) (v := ?_) rfl (by kernel_rfl) (by kernel_rfl) (by kernel_rfl) (by kernel_rfl) (fun _ _ _ h => h) (Or.inl ⟨by rfl, ?_⟩) hSU ?_
      rotate_left 1
      · intro w9 hSw; (try dsimp only at hSw); go_simp; (try with_reducible rfl)
      try simp only [Act.put, List.setIfInBounds_toArray, List.set_cons_zero, List.set_cons_succ]
      refine Upto.take (i := 18) (v := ?_) rfl (by kernel_rfl) (by kernel_rfl) (by kernel_rfl) (by kernel_rfl) (fun _ _ _ h => h) (Or.inl ⟨by rfl, ?_⟩) hSU ?_
      rotate_left 1
      · intro w9 hSw; (try dsimp only at hSw); go_simp; (try with_reducible rfl)
      try simp only [Act.put, List.setIfInBounds_toArray, List.set_cons_zero, List.set_cons_succ]
      refine Upto.two (i := 2) (j := 12) (by kernel_rfl) (Upto.step rfl fun K hK => ?_) (Upto.step rfl fun K hK => ?_)
      · go_simp
        refine hK.out _ _ (Or.inr ?_) ?_
        · (try dsimp only); go_keep
        clear hK K
        try simp only [Act.put, List.setIfInBounds_toArray, List.set_cons_zero, List.set_cons_succ]
        refine Upto.two (i := 3) (j := 12) (by kernel_rfl) (Upto.step rfl fun K hK => ?_) (Upto.step rfl fun K hK => ?_)
        · go_simp
          go_at_call 51; refine (radd_two _ u v lu lv n1 HN1.out _ ?_ ?_).mono ?_; (simp); (simp); rintro e' w' ⟨rfl, rfl⟩
          refine hK.out _ _ (Or.inr ?_) ?_
          · (try dsimp only); go_keep
          clear hK K
          try simp only [Act.put, List.setIfInBounds_toArray, List.set_cons_zero, List.set_cons_succ]
          refine Upto.one (i := 12) (by kernel_rfl) (Upto.step rfl fun K hK => ?_)
          go_simp
          refine hK.out _ _ (Or.inr ?_) ?_
          · (try dsimp only); go_keep
          clear hK K
          try simp only [Act.put, List.setIfInBounds_toArray, List.set_cons_zero, List.set_cons_succ]
          refine Upto.one (i := 13) (by kernel_rfl) (Upto.step rfl fun K hK => ?_)
          go_simp
          go_at_call 51; refine (radd_two _ d u ld lu n5 HN5.out _ ?_ ?_).mono ?_; (simp); (simp); rintro e' w' ⟨rfl, rfl⟩
          refine hK.out _ _ (Or.inr ?_) ?_
          · (try dsimp only); go_keep
          clear hK K
          try simp only [Act.put, List.setIfInBounds_toArray, List.set_cons_zero, List.set_cons_succ]
          refine Upto.one (i := 19) (by kernel_rfl) (Upto.step rfl fun K hK => ?_)
          go_simp
          refine hK.out _ _ (Or.inr ?_) ?_
          · (try dsimp only); go_keep
          clear hK K
          try simp only [Act.put, List.setIfInBounds_toArray, List.set_cons_zero, List.set_cons_succ]
          refine Upto.one (i := 20) (by kernel_rfl) (Upto.step rfl fun K hK => ?_)
          go_simp
          refine hK.out _ _ (Or.inl rfl) ?_
          clear hK K
          try simp only [Act.put, List.setIfInBounds_toArray, List.set_cons_zero, List.set_cons_succ]
          refine Upto.done (by kernel_rfl) ?_ _
          go_wp2
          go_roundw
          case rel => exact ⟨k + 1, by omega, by go_num, by rw [HS2.out]; exact (((HST4.out.set8 ⟨n1, a, b, c, n5, e, f, g⟩ nX1 nX2 nX3).alloc _).alloc _).drew⟩
          case measure => simp [intOf]; omega
        · go_simp
          refine hK.out _ _ (Or.inr ?_) ?_
          · (try dsimp only); go_keep
          clear hK K
          try simp only [Act.put, List.setIfInBounds_toArray, List.set_cons_zero, List.set_cons_succ]
          refine Upto.one (i := 3) (by kernel_rfl) (Upto.step rfl fun K hK => ?_)
          go_simp
          go_at_call 51; refine (radd_two _ u v lu lv n1 HN1.out _ ?_ ?_).mono ?_; (simp); (simp); rintro e' w' ⟨rfl, rfl⟩
          refine hK.out _ _ (Or.inr ?_) ?_
          · (try dsimp only); go_keep
          clear hK K
          try simp only [Act.put, List.setIfInBounds_toArray, List.set_cons_zero, List.set_cons_succ]
          refine Upto.one (i := 13) (by kernel_rfl) (Upto.step rfl fun K hK => ?_)
          go_simp
          go_at_call 51; refine (radd_two _ d u ld lu n5 HN5.out _ ?_ ?_).mono ?_; (simp); (simp); rintro e' w' ⟨rfl, rfl⟩
          refine hK.out _ _ (Or.inr ?_) ?_
          · (try dsimp only); go_keep
          clear hK K
          try simp only [Act.put, List.setIfInBounds_toArray, List.set_cons_zero, List.set_cons_succ]
          refine Upto.one (i := 19) (by kernel_rfl) (Upto.step rfl fun K hK => ?_)
          go_simp
          refine hK.out _ _ (Or.inr ?_) ?_
          · (try dsimp only); go_keep
          clear hK K
          try simp only [Act.put, List.setIfInBounds_toArray, List.set_cons_zero, List.set_cons_succ]
          refine Upto.one (i := 20) (by kernel_rfl) (Upto.step rfl fun K hK => ?_)
          go_simp
          refine hK.out _ _ (Or.inl rfl) ?_
          clear hK K
          try simp only [Act.put, List.setIfInBounds_toArray, List.set_cons_zero, List.set_cons_succ]
          refine Upto.done (by kernel_rfl) ?_ _
          go_wp2
          go_roundw
          case rel => exact ⟨k + 1, by omega, by go_num, by rw [HS2.out]; exact (((HST4.out.set8 ⟨n1, a, b, c, n5, e, f, g⟩ nX1 nX2 nX3).alloc _).alloc _).drew⟩
          case measure => simp [intOf]; omega
      · go_simp
        refine hK.out _ _ (Or.inr ?_) ?_
        · (try dsimp only); go_keep
        clear hK K
        try simp only [Act.put, List.setIfInBounds_toArray, List.set_cons_zero, List.set_cons_succ]
        refine Upto.one (i := 2) (by kernel_rfl) (Upto.step rfl fun K hK => ?_)
        go_simp
        refine hK.out _ _ (Or.inr ?_) ?_
        · (try dsimp only); go_keep
        clear hK K
        try simp only [Act.put, List.setIfInBounds_toArray, List.set_cons_zero, List.set_cons_succ]
        refine Upto.one (i := 3) (by kernel_rfl) (Upto.step rfl fun K hK => ?_)
        go_simp
        go_at_call 51; refine (radd_two _ u v lu lv n1 HN1.out _ ?_ ?_).mono ?_; (simp); (simp); rintro e' w' ⟨rfl, rfl⟩
        refine hK.out _ _ (Or.inr ?_) ?_
        · (try dsimp only); go_keep
        clear hK K
        try simp only [Act.put, List.setIfInBounds_toArray, List.set_cons_zero, List.set_cons_succ]
        refine Upto.one (i := 13) (by kernel_rfl) (Upto.step rfl fun K hK => ?_)
        go_simp
        go_at_call 51; refine (radd_two _ d u ld lu n5 HN5.out _ ?_ ?_).mono ?_; (simp); (simp); rintro e' w' ⟨rfl, rfl⟩
        refine hK.out _ _ (Or.inr ?_) ?_
        · (try dsimp only); go_keep
        clear hK K
        try simp only [Act.put, List.setIfInBounds_toArray, List.set_cons_zero, List.set_cons_succ]
        refine Upto.one (i := 19) (by kernel_rfl) (Upto.step rfl fun K hK => ?_)
        go_simp
        refine hK.out _ _ (Or.inr ?_) ?_
        · (try dsimp only); go_keep
        clear hK K
        try simp only [Act.put, List.setIfInBounds_toArray, List.set_cons_zero, List.set_cons_succ]
        refine Upto.one (i := 20) (by kernel_rfl) (Upto.step rfl fun K hK => ?_)
        go_simp
        refine hK.out _ _ (Or.inl rfl) ?_
        clear hK K
        try simp only [Act.put, List.setIfInBounds_toArray, List.set_cons_zero, List.set_cons_succ]
        refine Upto.done (by kernel_rfl) ?_ _
        go_wp2
        go_roundw
        case rel => exact ⟨k + 1, by omega, by go_num, by rw [HS2.out]; exact (((HST4.out.set8 ⟨n1, a, b, c, n5, e, f, g⟩ nX1 nX2 nX3).alloc _).alloc _).drew⟩
        case measure => simp [intOf]; omega
    · obtain rfl : k = 64 := by omega
      obtain ⟨hr0, hr1, hrX, _, _, hbw⟩ := hst
      obtain ⟨m, hm⟩ : ∃ m, mixN W s 64 = m := ⟨_, rfl⟩
      rw [hm] at hrX hok
      have HM := Lib.hid hm
      have HSA := Lib.hid (St.at_lt hs)
      have HMA := Lib.hid (St.at_lt hok)
      have hrX' : wr.rowIs X 48 8 (fun j => .int .i64 (mixRow s m 0 j : Nat)) := hrX.congr fun j _ => by rw [mixRow_at s m 0 j (by omega)]
      clear hm hrX
      go_wp2
      rw [show ((64 : Nat) : Int) = 64 from rfl]
      go_loopw [16] (fun i wr => ∃ k : Nat, k ≤ 8 ∧ i = .int .i64 k ∧ wr.rowIs w.heap.size 48 8 (fun j => .int .i64 (s.at j : Nat)) ∧ wr.rowIs (w.heap.size + 1) 48 8 (fun _ => .int .i64 0) ∧
        wr.rowIs X 48 8 (fun j => .int .i64 (mixRow s m k j : Nat)) ∧ Below w.heap.size w wr) (fun i _ => 8 - (intOf i).toNat)
      case atStart => exact ⟨0, by omega, rfl, hr0, hr1, hrX', hbw⟩
      case round =>
        clear hr0 hr1 hrX' hbw
        obtain ⟨k, hk, rfl, q0, q1, qX, qb⟩ := hrel
        by_cases hl : k < 8
        · have hkI : (k : Int) < 8 := by omega
          have d0 := q0.cell (i := k) hl
          have dx := qX.cell (i := k) hl
          rw [mixRow_at s m k k (Nat.le_refl k)] at dx
          have df := qX.frozen k
          have hXl := qX.lt
          have m1 : ¬ w.heap.size = X := by omega
          have m3 : ¬ X = w.heap.size := by omega
          have hxl := HSA.out k
          have hyl := HMA.out k
          have HSET := Lib.hid (mixRow_set s m k)
          have HADD : Hid ((m.at k + s.at k) % 4294967296 = (s.add m).at k) := Lib.hid (by rw [add_at s m k hl, Nat.add_comm])
          generalize (s.add m).at k = z at *
          generalize s.at k = x at *
          generalize m.at k = y at *
          go_wp2
          go_region_law (go_simp; go_at_call 51; refine (radd_two _ y x hyl hxl z HADD.out _ ?_ ?_).mono ?_; (simp); (simp); rintro e' w' ⟨rfl, rfl⟩)
          all_goals go_wp2
          all_goals go_roundw
          case rel =>
            refine ⟨k + 1, by omega, by go_num, ((q0.setOther (by simpa using m1) _).alloc _).drew, ((q1.setOther (by simp; omega) _).alloc _).drew, ?_, ((qb.setCell (p := ⟨X, k, none⟩) (by simp; omega) _).alloc (by simp; omega) _).drew⟩
            refine (((qX.set k _).alloc _).drew).congr fun j _ => ?_
            rw [← HSET.out j]
            split <;> rfl
          case measure => simp [intOf]; omega
          case rel =>
            refine ⟨k + 1, by omega, by go_num, ((q0.setOther (by simpa using m1) _).alloc _).drew, ((q1.setOther (by simp; omega) _).alloc _).drew, ?_, ((qb.setCell (p := ⟨X, k, none⟩) (by simp; omega) _).alloc (by simp; omega) _).drew⟩
            refine (((qX.set k _).alloc _).drew).congr fun j _ => ?_
            rw [← HSET.out j]
            split <;> rfl
          case measure => simp [intOf]; omega
        · obtain rfl : k = 8 := by omega
          obtain ⟨c, h7, hcs, hc⟩ := rowIs_block qX
          obtain ⟨c0, h4, hcs0, hc0⟩ := rowIs_block q1
          have hinf : (Tryd.prog.info? 48).map (·.size) = some c.size := by rw [hcs]; exact row8_size
          have hold : c0.size = c.size := by rw [hcs, hcs0]
          have hall := all_one_ints hc
          have HC := Lib.hid hc
          clear hc hc0 hcs0 hcs
          go_wp2_with (first
            | (refine wpList_load_row rfl _ _ rfl X rfl _ _ _ _ h7 Tryd.underlying48 rfl hinf ?_)
            | (refine wpList_store_row rfl _ _ _ rfl (w.heap.size + 1) _ rfl rfl _ _ h4 hinf hold hall ?_))
          refine bodyPost_ret (v := .tuple #[.agg c, .bool true]) (results_cell_slot rfl _ _ (w.heap.size + 1) _ _ _ _ rfl (setRow_heap _ _ _ _ _ _ h4) Tryd.underlying48 rfl hinf _ rfl) rfl ⟨?_, qb.setRow (by omega) _⟩
          have he : c = rowA .i64 8 (s.add m).at := by
            rw [HC.out, rowA]
            refine congrArg List.toArray (List.map_congr_left fun j hj => ?_)
            rw [mixRow, if_pos (by simpa using hj)]
          rw [he, ← St.v_row, show stepL s blk.data.toList = s.add m by rw [stepL, ← HM.out, HWF.out]]
          rfl
end Go.Proofs.YtelplkidippclaaDoor
