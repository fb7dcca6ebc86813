/-
  digest: the contract of mix.
-/
import Derived.Test.YtlkdofghhibmbaaDoorDig1
import Derived.Deep.MidRow
namespace Go.Proofs.YtlkdofghhibmbaaDoor
open Go.RowKit Go.Kx
set_option maxRecDepth 20000

theorem back_z (x : Nat) (m : Int) (hx : x < 4294967296) (h0 : 0 < m) (hn : m < 32) (w : World) :
   Calls Tryd.prog 71 #[.int .u32 x, .int .i64 m] w fun e w' => e = .returned (.int .u32 (bk x m.toNat : Nat)) ∧ w' = w :=
  back_q x m.toNat m (by omega) hx (by omega) (by omega) w
def Consts (w : World) : Prop := w.rangeAt 1 0 (shaK.map fun x : Nat => Value.int .u32 x)
theorem Consts.keep {w w' : World} (h : Consts w) (hb : Below w.heap.size w w') : Consts w' := by
  intro j v hv
  have hc := h j v hv
  exact (hb.cell (p := ⟨1, 0 + j, none⟩) (block_lt_of_cell hc)).trans hc
theorem St.at_lt {s : St} (h : s.ok) (j : Nat) : s.at j < 4294967296 := by
  refine getD_lt _ (fun x hx => ?_) j
  obtain ⟨ha, hb, hc, hd, he, hf, hg, hh⟩ := h
  simp only [St.l, List.mem_cons, List.not_mem_nil, or_false] at hx
  rcases hx with rfl | rfl | rfl | rfl | rfl | rfl | rfl | rfl <;> assumption
theorem int_u32 : (Tryd.prog.info? 92).map (·.size) = some 1 := by kernel_rfl
theorem int_i64 : (Tryd.prog.info? 3).map (·.size) = some 1 := by kernel_rfl

theorem not32 (e : Nat) (h : e < 4294967296) : 4294967295 ^^^ e = 4294967295 - e := by
  have h1 := congrArg BitVec.toNat (BitVec.allOnes_xor (x := BitVec.ofNat 32 e))
  rw [BitVec.toNat_xor, BitVec.toNat_not, BitVec.toNat_allOnes, BitVec.toNat_ofNat, Nat.mod_eq_of_lt (by omega)] at h1
  exact h1
theorem bs1_bits (e : Nat) (h : e < 4294967296) : bits .xor .u32 (bits .xor .u32 (bk e 6 : Nat) (bk e 11 : Nat)) (bk e 25 : Nat) = ((bs1 e : Nat) : Int) := by
  rw [u32_xor_nat _ _ (bk_lt _ _ h) (bk_lt _ _ h), u32_xor_nat _ _ (xor_lt (bk_lt _ _ h) (bk_lt _ _ h)) (bk_lt _ _ h)]; rfl
theorem bs0_bits (a : Nat) (h : a < 4294967296) : bits .xor .u32 (bits .xor .u32 (bk a 2 : Nat) (bk a 13 : Nat)) (bk a 22 : Nat) = ((bs0 a : Nat) : Int) := by
  rw [u32_xor_nat _ _ (bk_lt _ _ h) (bk_lt _ _ h), u32_xor_nat _ _ (xor_lt (bk_lt _ _ h) (bk_lt _ _ h)) (bk_lt _ _ h)]; rfl
theorem ch_bits (e f g : Nat) (he : e < 4294967296) (hf : f < 4294967296) (hg : g < 4294967296) :
    bits .xor .u32 (bits .and .u32 (e : Int) f) (bits .and .u32 (bits .xor .u32 IntKind.u32.max e) g) = ((((e &&& f) ^^^ ((4294967295 - e) &&& g)) : Nat) : Int) := by
  rw [show IntKind.u32.max = ((4294967295 : Nat) : Int) from rfl, u32_xor_nat _ _ (by omega) he, not32 e he, u32_and_nat _ _ he hf, u32_and_nat _ _ (by omega) hg, u32_xor_nat _ _ (and_lt hf) (and_lt hg)]
theorem mj_bits (a b c : Nat) (ha : a < 4294967296) (hb : b < 4294967296) (hc : c < 4294967296) :
    bits .xor .u32 (bits .xor .u32 (bits .and .u32 (a : Int) b) (bits .and .u32 (a : Int) c)) (bits .and .u32 (b : Int) c) = (((((a &&& b) ^^^ (a &&& c)) ^^^ (b &&& c)) : Nat) : Int) := by
  rw [u32_and_nat _ _ ha hb, u32_and_nat _ _ ha hc, u32_and_nat _ _ hb hc, u32_xor_nat _ _ (and_lt hb) (and_lt hc), u32_xor_nat _ _ (xor_lt (and_lt hb) (and_lt hc)) (and_lt hc)]
def arr8 (k : IntKind) (a b c d e f g h : Nat) : Array Value := #[.int k a, .int k b, .int k c, .int k d, .int k e, .int k f, .int k g, .int k h]
theorem rowIs_first {w : World} {B : Nat} {t : TypeId} {f : Nat → Nat} (h : w.rowIs B t 8 (fun j => .int .u32 (f j : Nat))) : ∀ j, j < 8 → w.cell? ⟨B, j, none⟩ = some (.int .u32 (f j : Nat)) := fun _ hj => h.cell hj
set_option maxRecDepth 100000 in
set_option maxHeartbeats 1000000 in
theorem mix_gen (s : St) (hs : s.ok) (W : Nat → Nat) (hW : ∀ j, W j < 4294967296) (w : World) (hK : Consts w) (d : Array Value) (hd : d = rowA .u32 64 W) :
   Calls Tryd.prog 52 #[s.v, .agg d] w fun e w' => e = .returned (mixN W s 64).u ∧ Below w.heap.size w w' := by
  have s64 : d.size = 64 := by rw [hd, rowA_size]
  have hat := St.at_lt hs
  have hrd := World.rowIs_alloc (w.alloc (.cells (arr8 .i64 s.a s.b s.c s.d s.e s.f s.g s.h) 63)) d 95 (fun j => .int .u32 (W j : Nat)) (fun j hj => by rw [hd]; exact rowA_at _ _ _ _ (by omega))
  rw [s64, World.size_alloc] at hrd
  have hix : ∀ (k : Nat), k < 8 → ∀ V, (Instr.index 63 (.agg (arr8 .i64 s.a s.b s.c s.d s.e s.f s.g s.h)) (.int .i64 (k : Int))).run Tryd.prog V = .ok (.int .i64 (s.at k)) V := fun k hk V =>
    run_index_ints Tryd.underlying63 int_i64 Tryd.underlying3 hk (rowA_at .i64 8 s.at k hk) V
  unfold arr8 at hix hrd
  have HIX := Lib.hid hix
  have HRD := Lib.hid hrd
  have HD := Lib.hid hd
  have HW := Lib.hid hW
  have HAT := Lib.hid hat
  clear hd hW hix hrd hat
  unfold St.v
  go_enter Tryd.func52, Tryd.ntmps52
  go_wp2_with fail
  have hrd := (HRD.out.alloc (.cells (List.replicate 8 (Value.int .u32 0)).toArray 93)).alloc (.cells (List.replicate 8 (Value.int .u32 0)).toArray 93)
  have hr2 := (rowIs_new (w := (w.alloc (.cells #[.int .i64 s.a, .int .i64 s.b, .int .i64 s.c, .int .i64 s.d, .int .i64 s.e, .int .i64 s.f, .int .i64 s.g, .int .i64 s.h] 63)).alloc (.cells d 95)) (t := 93) (n := 8) (z := .int .u32 0) rfl).alloc (.cells (List.replicate 8 (Value.int .u32 0)).toArray 93)
  have hr3 := rowIs_new (w := ((w.alloc (.cells #[.int .i64 s.a, .int .i64 s.b, .int .i64 s.c, .int .i64 s.d, .int .i64 s.e, .int .i64 s.f, .int .i64 s.g, .int .i64 s.h] 63)).alloc (.cells d 95)).alloc (.cells (List.replicate 8 (Value.int .u32 0)).toArray 93)) (t := 93) (n := 8) (z := .int .u32 0) rfl
  simp only [World.size_alloc] at hr2 hr3
  have hbw : Below w.heap.size w _ := ((((Below.refl _ w).alloc (Nat.le_refl _) (.cells #[.int .i64 s.a, .int .i64 s.b, .int .i64 s.c, .int .i64 s.d, .int .i64 s.e, .int .i64 s.f, .int .i64 s.g, .int .i64 s.h] 63)).alloc (by simp) (.cells d 95)).alloc (by simp; omega) (.cells (List.replicate 8 (Value.int .u32 0)).toArray 93)).alloc (by simp; omega) (.cells (List.replicate 8 (Value.int .u32 0)).toArray 93)
  go_loopw [6, 7, 23] (fun _ _ i wr => ∃ k : Nat, k ≤ 8 ∧ i = .int .i64 k ∧ wr.rowIs (w.heap.size + 1) 95 64 (fun j => .int .u32 (W j : Nat)) ∧ wr.rowIs (w.heap.size + 1 + 1) 93 8 (fun _ => .int .u32 0) ∧
     wr.rowIs (w.heap.size + 1 + 1 + 1) 93 8 (fun j => .int .u32 (rowW s.at k j : Nat)) ∧ Below w.heap.size w wr) (fun _ _ i _ => 8 - (intOf i).toNat)
  case atStart => exact ⟨0, by omega, rfl, hrd, hr2, hr3, hbw⟩
  case round =>
    clear hrd hr2 hr3 hbw
    obtain ⟨k, hk, rfl, hrd, hr2, hr3, hbk⟩ := hrel
    by_cases hl : k < 8
    · have hix := HIX.out k hl
      have hxw := wrapU32 (HAT.out k)
      have hload := hr3.cell (i := k) (by omega)
      have hfz := hr3.frozen k
      have hset := rowW_set s.at k
      have HSET := Lib.hid hset
      clear hset
      generalize s.at k = x at *
      go_wp2
      go_roundw
      case rel =>
        refine ⟨k + 1, by omega, by go_num, hrd.setOther (by simp) _, hr2.setOther (by simp) _, ?_, hbk.setCell (p := ⟨w.heap.size + 1 + 1 + 1, k, none⟩) (by simp; omega) _⟩
        refine (hr3.set k _).congr fun j _ => ?_
        rw [← HSET.out j]
        split <;> rfl
      case measure => simp [intOf]; omega
    · obtain rfl : k = 8 := by omega
      clear hl hk
      have c0 := hr3.cell (i := 0) (by omega)
      have c1 := hr3.cell (i := 1) (by omega)
      have c2 := hr3.cell (i := 2) (by omega)
      have c3 := hr3.cell (i := 3) (by omega)
      have c4 := hr3.cell (i := 4) (by omega)
      have c5 := hr3.cell (i := 5) (by omega)
      have c6 := hr3.cell (i := 6) (by omega)
      have c7 := hr3.cell (i := 7) (by omega)
      rw [rowW_in s.at (by omega)] at c0 c1 c2 c3 c4 c5 c6 c7
      simp only [St.at, St.l, List.getD_cons_zero, List.getD_cons_succ] at c0 c1 c2 c3 c4 c5 c6 c7
      go_wp2
      go_quiet (fail)
      have hKr : Consts (wr.drewN nq) := hK.keep (hbk.next (Below.drewN0 _ _))
      have drd : (wr.drewN nq).rowIs (w.heap.size + 1) _ _ _ := hrd
      have dr2 : (wr.drewN nq).rowIs (w.heap.size + 1 + 1) _ _ _ := hr2
      have dbk := hbk.next (Below.drewN0 _ nq)
      clear c0 c1 c2 c3 c4 c5 c6 c7 hrd hr2 hr3 hbk hK
      generalize wr.drewN nq = w0 at *
      obtain ⟨cK, hcK⟩ : ∃ l, l = shaK.map fun x : Nat => Value.int .u32 x := ⟨_, rfl⟩
      have hlK : (Tryd.prog.info? 95).map (·.size) = some cK.length := by rw [hcK, List.length_map, shaK_length]; exact row64_size
      have hgK : w0.rangeAt 1 0 cK := by rw [hcK]; exact hKr
      have hixK : ∀ (k : Nat), k < 64 → ∀ V, (Instr.index 95 (.agg cK.toArray) (.int .i64 (k : Int))).run Tryd.prog V = .ok (.int .u32 (shaK.getD k 0 : Nat)) V := fun k hk V =>
        run_index_ints Tryd.underlying95 int_u32 Tryd.underlying92 hk (by rw [hcK]; simp [List.getD_eq_getElem?_getD, List.getElem?_eq_getElem (show k < shaK.length from hk)]) V
      have HIXK := Lib.hid hixK
      clear hcK hKr hixK
      go_wp2_with (refine wpList_load_mid rfl _ _ rfl 1 0 rfl cK _ hgK Tryd.underlying95 rfl hlK ?_)
      clear hlK hgK
      go_loopw [8, 9, 10, 11, 12, 13, 14, 15, 49] (fun va vb vc vd ve vf vg vh i wr => ∃ k n : Nat, k ≤ 64 ∧ i = .int .i64 k ∧ wr = w0.drewN n ∧ va = .int .u32 (mixN W s k).a ∧ vb = .int .u32 (mixN W s k).b ∧ vc = .int .u32 (mixN W s k).c ∧
          vd = .int .u32 (mixN W s k).d ∧ ve = .int .u32 (mixN W s k).e ∧ vf = .int .u32 (mixN W s k).f ∧ vg = .int .u32 (mixN W s k).g ∧ vh = .int .u32 (mixN W s k).h) (fun _ _ _ _ _ _ _ _ i _ => 64 - (intOf i).toNat)
      case atStart => exact ⟨0, 0, by omega, rfl, rfl, rfl, rfl, rfl, rfl, rfl, rfl, rfl, rfl⟩
      case round =>
        obtain ⟨k, n, hk, rfl, hwr, rfl, rfl, rfl, rfl, rfl, rfl, rfl, rfl⟩ := hrel
        have hok := mixN_ok W hs k
        by_cases hl : k < 64
        · have hix := HIXK.out k hl
          have hw : wr.cell? ⟨w.heap.size + 1, k, none⟩ = some (.int .u32 (W k : Nat)) := by rw [hwr]; exact drd.cell (i := k) hl
          have HWR := Lib.hid hwr
          clear hwr
          have hwl := HW.out k
          have hkl := shaK_lt k
          have HS := Lib.hid (show mixN W s (k + 1) = rnd (mixN W s k) (shaK.getD k 0) (W k) from rfl)
          generalize mixN W s k = m at *
          generalize shaK.getD k 0 = x at *
          generalize W k = y at *
          obtain ⟨a, b, c, d', e, f, g, h⟩ := m
          obtain ⟨ha, hb, hc, hd, he, hf, hg, hh⟩ := hok
          dsimp only at ha hb hc hd he hf hg hh
          go_wp2
          go_quiet ((go_at_call 71; refine Calls.quiet_of_same (back_z _ _ ?_ ?_ ?_ _) <;> first | assumption | omega))
          go_wp2_with (go_at_call 71; refine (back_z _ _ ?_ ?_ ?_ _).mono ?_; assumption; omega; omega; rintro e' w' ⟨rfl, rfl⟩)
          go_roundw
          case rel =>
            have e1 := bs1_bits e he
            have e0 := bs0_bits a ha
            have ec := ch_bits e f g he hf hg
            have em := mj_bits a b c ha hb hc
            rw [e1, e0, ec, em]
            refine ⟨k + 1, n + nq, by omega, by go_num, ?_, ?_⟩
            · rw [HWR.out]; exact World.drewN_drewN _ _ _
            · rw [HS.out]
              simp only [rnd, uA, vA, chA, mjA]
              refine ⟨congrArg (Value.int .u32) (by omega), trivial, trivial, trivial, congrArg (Value.int .u32) (by omega), trivial, trivial, trivial⟩
          case measure => simp [intOf]; omega
        · obtain rfl : k = 64 := by omega
          have hr2' : wr.rowIs (w.heap.size + 1 + 1) 93 8 (fun _ => .int .u32 0) := by rw [hwr]; exact dr2
          have hbk' : Below w.heap.size w wr := by rw [hwr]; exact dbk.next' (Below.drewN0 _ _)
          obtain ⟨c0, h0, hcs0, _⟩ := rowIs_block hr2'
          clear hwr HIXK drd dr2 dbk hr2'
          generalize hm : mixN W s 64 = m at *
          have HM := Lib.hid hm
          clear hm
          obtain ⟨a, b, c, d', e, f, g, h⟩ := m
          have hinf : (Tryd.prog.info? 93).map (·.size) = some (arr8 .u32 a b c d' e f g h).size := by kernel_rfl
          have hold : c0.size = (arr8 .u32 a b c d' e f g h).size := hcs0
          have hall : (arr8 .u32 a b c d' e f g h).all (·.oneCell') = true := by simp [arr8, Value.oneCell']
          unfold arr8 at hinf hold hall
          go_wp2_with (refine wpList_store_row rfl _ _ _ rfl (w.heap.size + 1 + 1) _ rfl rfl _ _ h0 hinf hold hall ?_)
          refine bodyPost_ret (v := .agg #[.int .u32 a, .int .u32 b, .int .u32 c, .int .u32 d', .int .u32 e, .int .u32 f, .int .u32 g, .int .u32 h]) (results_cell_row rfl _ _ (w.heap.size + 1 + 1) _ _ _ _ rfl (setRow_heap _ _ _ _ _ _ h0) Tryd.underlying93 rfl hinf) rfl ⟨by rw [HM.out]; rfl, hbk'.setRow (by omega) _⟩
theorem mix_any (s : St) (hs : s.ok) (W : Nat → Nat) (hW : ∀ j, W j < 4294967296) (w : World) (hK : Consts w) :
   Calls Tryd.prog 52 #[s.v, .agg (rowA .u32 64 W)] w fun e w' => e = .returned (mixN W s 64).u ∧ Below w.heap.size w w' := mix_gen s hs W hW w hK _ rfl
theorem mix_lit (s : St) (hs : s.ok) (W : Nat → Nat) (hW : ∀ j, W j < 4294967296) (m : St) (hm : mixN W s 64 = m) (w : World) (hK : Consts w) :
   Calls Tryd.prog 52 #[.agg #[.int .i64 s.a, .int .i64 s.b, .int .i64 s.c, .int .i64 s.d, .int .i64 s.e, .int .i64 s.f, .int .i64 s.g, .int .i64 s.h], .agg (rowA .u32 64 W)] w fun e w' =>
     e = .returned (.agg #[.int .u32 m.a, .int .u32 m.b, .int .u32 m.c, .int .u32 m.d, .int .u32 m.e, .int .u32 m.f, .int .u32 m.g, .int .u32 m.h]) ∧ Below w.heap.size w w' := by
  subst hm
  exact mix_gen s hs W hW w hK _ rfl
end Go.Proofs.YtlkdofghhibmbaaDoor
