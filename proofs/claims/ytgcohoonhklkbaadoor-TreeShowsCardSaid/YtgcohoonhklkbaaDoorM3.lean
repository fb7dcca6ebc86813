/-
  Merged by program: Dig2, Trw, TCl, TSh, Tq1, Tq2, Tq3, Tq4, Tq5, Tq6, Range.
-/
import Derived.Test.YtgcohoonhklkbaaDoorM2
import Derived.Deep.MidRow
import Derived.Test.YtgcohoonhklkbaaDoorM1
import Derived.RangeFuncNested
import Derived.RangeFuncBound
import Derived.RangeFuncCalls
import Derived.RangeFuncLeaves

/-
  digest: the contract of mix.
-/
namespace Go.Proofs.YtgcohoonhklkbaaDoor
open Go.RowKit Go.Kx
set_option maxRecDepth 20000

theorem back_z (x : Nat) (m : Int) (hx : x < 4294967296) (h0 : 0 < m) (hn : m < 32) (w : World) :
   Calls Tryd.prog 81 #[.int .u32 x, .int .i64 m] w fun e w' => e = .returned (.int .u32 (bk x m.toNat : Nat)) ∧ w' = w :=
  back_q x m.toNat m (by omega) hx (by omega) (by omega) w
def Consts (w : World) : Prop := w.rangeAt 0 0 (shaK.map fun x : Nat => Value.int .u32 x)
theorem Consts.keep {w w' : World} (h : Consts w) (hb : Below w.heap.size w w') : Consts w' := by
  intro j v hv
  have hc := h j v hv
  exact (hb.cell (p := ⟨0, 0 + j, none⟩) (block_lt_of_cell hc)).trans hc
theorem St.at_lt {s : St} (h : s.ok) (j : Nat) : s.at j < 4294967296 := by
  refine getD_lt _ (fun x hx => ?_) j
  obtain ⟨ha, hb, hc, hd, he, hf, hg, hh⟩ := h
  simp only [St.l, List.mem_cons, List.not_mem_nil, or_false] at hx
  rcases hx with rfl | rfl | rfl | rfl | rfl | rfl | rfl | rfl <;> assumption
theorem int_u32 : (Tryd.prog.info? 73).map (·.size) = some 1 := by kernel_rfl
theorem int_i64 : (Tryd.prog.info? 3).map (·.size) = some 1 := by kernel_rfl

theorem not32 (e : Nat) (h : e < 4294967296) : 4294967295 ^^^ e = 4294967295 - e := by
  have h1 := congrArg BitVec.toNat (BitVec.allOnes_xor (x := BitVec.ofNat 32 e))
  rw [BitVec.toNat_xor, BitVec.toNat_not, BitVec.toNat_allOnes, BitVec.toNat_ofNat, Nat.mod_eq_of_lt (by omega)] at h1
  exact h1
theorem bs1_bits (e : Nat) (h : e < 4294967296) : bits .xor .u32 (bits .xor .u32 (bk e 6 : Nat) (bk e 11 : Nat)) (bk e 25 : Nat) = ((bs1 e : Nat) : Int) := by
  rw [u32_xor_nat _ _ (bk_lt _ _ h) (bk_lt _ _ h), u32_xor_nat _ _ (xor_lt (bk_lt _ _ h) (bk_lt _ _ h)) (bk_lt _ _ h)]; rfl
theorem bs0_bits (a : Nat) (h : a < 4294967296) : bits .xor .u32 (bits .xor .u32 (bk a 2 : Nat) (bk a 13 : Nat)) (bk a 22 : Nat) = ((bs0 a : Nat) : Int) := by
  rw [u32_xor_nat _ _ (bk_lt _ _ h) (bk_lt _ _ h), u32_xor_nat _ _ (xor_lt (bk_lt _ _ h) (bk_lt _ _ h)) (bk_lt _ _ h)]; rfl
theorem ch_bits (e f g : Nat) (he : e < 4294967296) (hf : f < 4294967296) (hg : g < 4294967296) :
    bits .xor .u32 (bits .and .u32 (e : Int) f) (bits .and .u32 (bits .xor .u32 IntKind.u32.max e) g) = ((((e &&& f) ^^^ ((4294967295 - e) &&& g)) : Nat) : Int) := by
  rw [show IntKind.u32.max = ((4294967295 : Nat) : Int) from rfl, u32_xor_nat _ _ (by omega) he, not32 e he, u32_and_nat _ _ he hf, u32_and_nat _ _ (by omega) hg, u32_xor_nat _ _ (and_lt hf) (and_lt hg)]
theorem mj_bits (a b c : Nat) (ha : a < 4294967296) (hb : b < 4294967296) (hc : c < 4294967296) :
    bits .xor .u32 (bits .xor .u32 (bits .and .u32 (a : Int) b) (bits .and .u32 (a : Int) c)) (bits .and .u32 (b : Int) c) = (((((a &&& b) ^^^ (a &&& c)) ^^^ (b &&& c)) : Nat) : Int) := by
  rw [u32_and_nat _ _ ha hb, u32_and_nat _ _ ha hc, u32_and_nat _ _ hb hc, u32_xor_nat _ _ (and_lt hb) (and_lt hc), u32_xor_nat _ _ (xor_lt (and_lt hb) (and_lt hc)) (and_lt hc)]
def arr8 (k : IntKind) (a b c d e f g h : Nat) : Array Value := #[.int k a, .int k b, .int k c, .int k d, .int k e, .int k f, .int k g, .int k h]
theorem rowIs_first {w : World} {B : Nat} {t : TypeId} {f : Nat → Nat} (h : w.rowIs B t 8 (fun j => .int .u32 (f j : Nat))) : ∀ j, j < 8 → w.cell? ⟨B, j, none⟩ = some (.int .u32 (f j : Nat)) := fun _ hj => h.cell hj
set_option maxRecDepth 100000 in
set_option maxHeartbeats 1000000 in
theorem mix_gen (s : St) (hs : s.ok) (W : Nat → Nat) (hW : ∀ j, W j < 4294967296) (w : World) (hK : Consts w) (d : Array Value) (hd : d = rowA .u32 64 W) :
   Calls Tryd.prog 61 #[s.v, .agg d] w fun e w' => e = .returned (mixN W s 64).u ∧ Below w.heap.size w w' := by
  have s64 : d.size = 64 := by rw [hd, rowA_size]
  have hat := St.at_lt hs
  have hrd := World.rowIs_alloc (w.alloc (.cells (arr8 .i64 s.a s.b s.c s.d s.e s.f s.g s.h) 59)) d 76 (fun j => .int .u32 (W j : Nat)) (fun j hj => by rw [hd]; exact rowA_at _ _ _ _ (by omega))
  rw [s64, World.size_alloc] at hrd
  have hix : ∀ (k : Nat), k < 8 → ∀ V, (Instr.index 59 (.agg (arr8 .i64 s.a s.b s.c s.d s.e s.f s.g s.h)) (.int .i64 (k : Int))).run Tryd.prog V = .ok (.int .i64 (s.at k)) V := fun k hk V =>
    run_index_ints Tryd.underlying59 int_i64 Tryd.underlying3 hk (rowA_at .i64 8 s.at k hk) V
  unfold arr8 at hix hrd
  have HIX := Lib.hid hix
  have HRD := Lib.hid hrd
  have HD := Lib.hid hd
  have HW := Lib.hid hW
  have HAT := Lib.hid hat
  clear hd hW hix hrd hat
  unfold St.v
  go_enter Tryd.func61, Tryd.ntmps61
  go_wp2_with fail
  have hrd := (HRD.out.alloc (.cells (List.replicate 8 (Value.int .u32 0)).toArray 74)).alloc (.cells (List.replicate 8 (Value.int .u32 0)).toArray 74)
  have hr2 := (rowIs_new (w := (w.alloc (.cells #[.int .i64 s.a, .int .i64 s.b, .int .i64 s.c, .int .i64 s.d, .int .i64 s.e, .int .i64 s.f, .int .i64 s.g, .int .i64 s.h] 59)).alloc (.cells d 76)) (t := 74) (n := 8) (z := .int .u32 0) rfl).alloc (.cells (List.replicate 8 (Value.int .u32 0)).toArray 74)
  have hr3 := rowIs_new (w := ((w.alloc (.cells #[.int .i64 s.a, .int .i64 s.b, .int .i64 s.c, .int .i64 s.d, .int .i64 s.e, .int .i64 s.f, .int .i64 s.g, .int .i64 s.h] 59)).alloc (.cells d 76)).alloc (.cells (List.replicate 8 (Value.int .u32 0)).toArray 74)) (t := 74) (n := 8) (z := .int .u32 0) rfl
  simp only [World.size_alloc] at hr2 hr3
  have hbw : Below w.heap.size w _ := ((((Below.refl _ w).alloc (Nat.le_refl _) (.cells #[.int .i64 s.a, .int .i64 s.b, .int .i64 s.c, .int .i64 s.d, .int .i64 s.e, .int .i64 s.f, .int .i64 s.g, .int .i64 s.h] 59)).alloc (by simp) (.cells d 76)).alloc (by simp; omega) (.cells (List.replicate 8 (Value.int .u32 0)).toArray 74)).alloc (by simp; omega) (.cells (List.replicate 8 (Value.int .u32 0)).toArray 74)
  go_loopw [6, 7, 23] (fun _ _ i wr => ∃ k : Nat, k ≤ 8 ∧ i = .int .i64 k ∧ wr.rowIs (w.heap.size + 1) 76 64 (fun j => .int .u32 (W j : Nat)) ∧ wr.rowIs (w.heap.size + 1 + 1) 74 8 (fun _ => .int .u32 0) ∧
     wr.rowIs (w.heap.size + 1 + 1 + 1) 74 8 (fun j => .int .u32 (rowW s.at k j : Nat)) ∧ Below w.heap.size w wr) (fun _ _ i _ => 8 - (intOf i).toNat)
  case atStart => exact ⟨0, by omega, rfl, hrd, hr2, hr3, hbw⟩
  case round =>
    clear hrd hr2 hr3 hbw
    obtain ⟨k, hk, rfl, hrd, hr2, hr3, hbk⟩ := hrel
    by_cases hl : k < 8
    · have hix := HIX.out k hl
      have hxw := wrapU32 (HAT.out k)
      have hload := hr3.cell (i := k) (by omega)
      have hfz := hr3.frozen k
      have hset := rowW_set s.at k
      have HSET := Lib.hid hset
      clear hset
      generalize s.at k = x at *
      go_wp2
      go_roundw
      case rel =>
        refine ⟨k + 1, by omega, by go_num, hrd.setOther (by simp) _, hr2.setOther (by simp) _, ?_, hbk.setCell (p := ⟨w.heap.size + 1 + 1 + 1, k, none⟩) (by simp; omega) _⟩
        refine (hr3.set k _).congr fun j _ => ?_
        rw [← HSET.out j]
        split <;> rfl
      case measure => simp [intOf]; omega
    · obtain rfl : k = 8 := by omega
      clear hl hk
      have c0 := hr3.cell (i := 0) (by omega)
      have c1 := hr3.cell (i := 1) (by omega)
      have c2 := hr3.cell (i := 2) (by omega)
      have c3 := hr3.cell (i := 3) (by omega)
      have c4 := hr3.cell (i := 4) (by omega)
      have c5 := hr3.cell (i := 5) (by omega)
      have c6 := hr3.cell (i := 6) (by omega)
      have c7 := hr3.cell (i := 7) (by omega)
      rw [rowW_in s.at (by omega)] at c0 c1 c2 c3 c4 c5 c6 c7
      simp only [St.at, St.l, List.getD_cons_zero, List.getD_cons_succ] at c0 c1 c2 c3 c4 c5 c6 c7
      go_wp2
      go_quiet (fail)
      have hKr : Consts (wr.drewN nq) := hK.keep (hbk.next (Below.drewN0 _ _))
      have drd : (wr.drewN nq).rowIs (w.heap.size + 1) _ _ _ := hrd
      have dr2 : (wr.drewN nq).rowIs (w.heap.size + 1 + 1) _ _ _ := hr2
      have dbk := hbk.next (Below.drewN0 _ nq)
      clear c0 c1 c2 c3 c4 c5 c6 c7 hrd hr2 hr3 hbk hK
      generalize wr.drewN nq = w0 at *
      obtain ⟨cK, hcK⟩ : ∃ l, l = shaK.map fun x : Nat => Value.int .u32 x := ⟨_, rfl⟩
      have hlK : (Tryd.prog.info? 76).map (·.size) = some cK.length := by rw [hcK, List.length_map, shaK_length]; exact row64_size
      have hgK : w0.rangeAt 0 0 cK := by rw [hcK]; exact hKr
      have hixK : ∀ (k : Nat), k < 64 → ∀ V, (Instr.index 76 (.agg cK.toArray) (.int .i64 (k : Int))).run Tryd.prog V = .ok (.int .u32 (shaK.getD k 0 : Nat)) V := fun k hk V =>
        run_index_ints Tryd.underlying76 int_u32 Tryd.underlying73 hk (by rw [hcK]; simp [List.getD_eq_getElem?_getD, List.getElem?_eq_getElem (show k < shaK.length from hk)]) V
      have HIXK := Lib.hid hixK
      clear hcK hKr hixK
      go_wp2_with (refine wpList_load_mid rfl _ _ rfl 0 0 rfl cK _ hgK Tryd.underlying76 rfl hlK ?_)
      clear hlK hgK
      go_loopw [8, 9, 10, 11, 12, 13, 14, 15, 49] (fun va vb vc vd ve vf vg vh i wr => ∃ k n : Nat, k ≤ 64 ∧ i = .int .i64 k ∧ wr = w0.drewN n ∧ va = .int .u32 (mixN W s k).a ∧ vb = .int .u32 (mixN W s k).b ∧ vc = .int .u32 (mixN W s k).c ∧
          vd = .int .u32 (mixN W s k).d ∧ ve = .int .u32 (mixN W s k).e ∧ vf = .int .u32 (mixN W s k).f ∧ vg = .int .u32 (mixN W s k).g ∧ vh = .int .u32 (mixN W s k).h) (fun _ _ _ _ _ _ _ _ i _ => 64 - (intOf i).toNat)
      case atStart => exact ⟨0, 0, by omega, rfl, rfl, rfl, rfl, rfl, rfl, rfl, rfl, rfl, rfl⟩
      case round =>
        obtain ⟨k, n, hk, rfl, hwr, rfl, rfl, rfl, rfl, rfl, rfl, rfl, rfl⟩ := hrel
        have hok := mixN_ok W hs k
        by_cases hl : k < 64
        · have hix := HIXK.out k hl
          have hw : wr.cell? ⟨w.heap.size + 1, k, none⟩ = some (.int .u32 (W k : Nat)) := by rw [hwr]; exact drd.cell (i := k) hl
          have HWR := Lib.hid hwr
          clear hwr
          have hwl := HW.out k
          have hkl := shaK_lt k
          have HS := Lib.hid (show mixN W s (k + 1) = rnd (mixN W s k) (shaK.getD k 0) (W k) from rfl)
          generalize mixN W s k = m at *
          generalize shaK.getD k 0 = x at *
          generalize W k = y at *
          obtain ⟨a, b, c, d', e, f, g, h⟩ := m
          obtain ⟨ha, hb, hc, hd, he, hf, hg, hh⟩ := hok
          dsimp only at ha hb hc hd he hf hg hh
          go_wp2
          go_quiet ((go_at_call 81; refine Calls.quiet_of_same (back_z _ _ ?_ ?_ ?_ _) <;> first | assumption | omega))
          go_wp2_with (go_at_call 81; refine (back_z _ _ ?_ ?_ ?_ _).mono ?_; assumption; omega; omega; rintro e' w' ⟨rfl, rfl⟩)
          go_roundw
          case rel =>
            have e1 := bs1_bits e he
            have e0 := bs0_bits a ha
            have ec := ch_bits e f g he hf hg
            have em := mj_bits a b c ha hb hc
            rw [e1, e0, ec, em]
            refine ⟨k + 1, n + nq, by omega, by go_num, ?_, ?_⟩
            · rw [HWR.out]; exact World.drewN_drewN _ _ _
            · rw [HS.out]
              simp only [rnd, uA, vA, chA, mjA]
              refine ⟨congrArg (Value.int .u32) (by omega), trivial, trivial, trivial, congrArg (Value.int .u32) (by omega), trivial, trivial, trivial⟩
          case measure => simp [intOf]; omega
        · obtain rfl : k = 64 := by omega
          have hr2' : wr.rowIs (w.heap.size + 1 + 1) 74 8 (fun _ => .int .u32 0) := by rw [hwr]; exact dr2
          have hbk' : Below w.heap.size w wr := by rw [hwr]; exact dbk.next' (Below.drewN0 _ _)
          obtain ⟨c0, h0, hcs0, _⟩ := rowIs_block hr2'
          clear hwr HIXK drd dr2 dbk hr2'
          generalize hm : mixN W s 64 = m at *
          have HM := Lib.hid hm
          clear hm
          obtain ⟨a, b, c, d', e, f, g, h⟩ := m
          have hinf : (Tryd.prog.info? 74).map (·.size) = some (arr8 .u32 a b c d' e f g h).size := by kernel_rfl
          have hold : c0.size = (arr8 .u32 a b c d' e f g h).size := hcs0
          have hall : (arr8 .u32 a b c d' e f g h).all (·.oneCell') = true := by simp [arr8, Value.oneCell']
          unfold arr8 at hinf hold hall
          go_wp2_with (refine wpList_store_row rfl _ _ _ rfl (w.heap.size + 1 + 1) _ rfl rfl _ _ h0 hinf hold hall ?_)
          refine bodyPost_ret (v := .agg #[.int .u32 a, .int .u32 b, .int .u32 c, .int .u32 d', .int .u32 e, .int .u32 f, .int .u32 g, .int .u32 h]) (results_cell_row rfl _ _ (w.heap.size + 1 + 1) _ _ _ _ rfl (setRow_heap _ _ _ _ _ _ h0) Tryd.underlying74 rfl hinf) rfl ⟨by rw [HM.out]; rfl, hbk'.setRow (by omega) _⟩
theorem mix_any (s : St) (hs : s.ok) (W : Nat → Nat) (hW : ∀ j, W j < 4294967296) (w : World) (hK : Consts w) :
   Calls Tryd.prog 61 #[s.v, .agg (rowA .u32 64 W)] w fun e w' => e = .returned (mixN W s 64).u ∧ Below w.heap.size w w' := mix_gen s hs W hW w hK _ rfl
theorem mix_lit (s : St) (hs : s.ok) (W : Nat → Nat) (hW : ∀ j, W j < 4294967296) (m : St) (hm : mixN W s 64 = m) (w : World) (hK : Consts w) :
   Calls Tryd.prog 61 #[.agg #[.int .i64 s.a, .int .i64 s.b, .int .i64 s.c, .int .i64 s.d, .int .i64 s.e, .int .i64 s.f, .int .i64 s.g, .int .i64 s.h], .agg (rowA .u32 64 W)] w fun e w' =>
     e = .returned (.agg #[.int .u32 m.a, .int .u32 m.b, .int .u32 m.c, .int .u32 m.d, .int .u32 m.e, .int .u32 m.f, .int .u32 m.g, .int .u32 m.h]) ∧ Below w.heap.size w w' := by
  subst hm
  exact mix_gen s hs W hW w hK _ rfl
end Go.Proofs.YtgcohoonhklkbaaDoor

/-
  What the program's own words of tree tell (premises of the laws' walks), and roots of the laws over them.
-/
namespace Go.Proofs.YtgcohoonhklkbaaDoor
open Go.RowKit Go.Kx Go.Trm
set_option maxRecDepth 20000

/-- The program's words; N: the texts' greatest size. -/
structure TreeW (N : Nat) : Prop where
  leaf : ∀ (s d : ByteArray), s.size ≤ N → leafL sumL s.data.toList = d.data.toList → ∀ w, Consts w → Calls Tryd.prog 14 #[.string s] w fun e w' => e = .returned (.string d) ∧ Below w.heap.size w w'
  node : ∀ (a b d : ByteArray), a.size ≤ 900 → b.size ≤ 900 → nodeL sumL a.data.toList b.data.toList = d.data.toList → ∀ w, Consts w → Calls Tryd.prog 16 #[.string a, .string b] w fun e w' => e = .returned (.string d) ∧ Below w.heap.size w w'
  root : ∀ (l : List ByteArray) (A : Option Addr) (c : Nat) (r : ByteArray) (k : Int), l.length ≤ 1200 → (∀ s ∈ l, s.size ≤ N) → rootR l = (r, k) → ∀ w, Consts w → Sl w A (strsV l) →
    Calls Tryd.prog 9 #[.slice A l.length c] w fun e w' => e = .returned (.tuple #[.string r, .int .i64 k]) ∧ Below w.heap.size w w'
  path : ∀ (l : List ByteArray) (A : Option Addr) (c : Nat) (i : Int) (ps : List ByteArray) (k : Int), l.length ≤ 1200 → (∀ s ∈ l, s.size ≤ N) → pathR l i = (ps, k) → ∀ w, Consts w → Sl w A (strsV l) →
    Calls Tryd.prog 11 #[.slice A l.length c, .int .i64 i] w fun e w' => PathP ps k w e w'
  climb : ∀ (i : Int) (s : ByteArray) (path : List ByteArray) (A : Option Addr) (c : Nat) (r : ByteArray) (k : Int), path.length ≤ 1200 → s.size ≤ N → climbR i s path = (r, k) → ∀ w, Consts w → Sl w A (strsV path) →
    Calls Tryd.prog 19 #[.int .i64 i, .string s, .slice A path.length c] w fun e w' => e = .returned (.tuple #[.string r, .int .i64 k]) ∧ Below w.heap.size w w'
  check : ∀ (root : ByteArray) (i : Int) (s : ByteArray) (path : List ByteArray) (A : Option Addr) (c : Nat) (r : ByteArray) (k : Int) (b : Bool), path.length ≤ 1200 → s.size ≤ N → climbR i s path = (r, k) → b = (decide (k = 0) && decide (r = root)) → ∀ w, Consts w → Sl w A (strsV path) →
    Calls Tryd.prog 21 #[.string root, .int .i64 i, .string s, .slice A path.length c] w fun e w' => e = .returned (.bool b) ∧ Below w.heap.size w w'
  collide : ∀ (l m : List ByteArray) (A B : Option Addr) (c c' : Nat) (ans : Option (Txt × Txt)), l.length ≤ 1200 → m.length ≤ 1200 → (∀ s ∈ l, s.size ≤ N) → (∀ s ∈ m, s.size ≤ N) → colA l m = ans → ∀ w, Consts w → Sl w A (strsV l) → Sl w B (strsV m) →
    Calls Tryd.prog 23 #[.slice A l.length c, .slice B m.length c'] w fun e w' => e = .returned (outV ans) ∧ Below w.heap.size w w'
  trace : ∀ (l : List ByteArray) (i : Int) (s : ByteArray) (path : List ByteArray) (A B : Option Addr) (c c' : Nat) (ans : Option (Txt × Txt)), l.length ≤ 1200 → path.length ≤ 1200 → (∀ s ∈ l, s.size ≤ N) → s.size ≤ N → trcA l i s path = ans → ∀ w, Consts w → Sl w A (strsV l) → Sl w B (strsV path) →
    Calls Tryd.prog 25 #[.slice A l.length c, .int .i64 i, .string s, .slice B path.length c'] w fun e w' => e = .returned (outV ans) ∧ Below w.heap.size w w'

/-! ### the document's rows -/
def tA : ByteArray := ⟨#[97]⟩
def tB : ByteArray := ⟨#[98]⟩
def tC : ByteArray := ⟨#[99]⟩
theorem may2 : mayN [tA, tB].length := ⟨1, by omega, rfl⟩
theorem may3 : ¬ mayN [tA, tB, tC].length := by
  rintro ⟨d, -, h⟩
  have h2 : 3 = 2 ^ d := h
  rcases d with _ | _ | d
  · omega
  · omega
  · rw [Nat.pow_succ, Nat.pow_succ] at h2
    omega
/-- The digests of the document's rows. -/
theorem rows_doc (da db dr : ByteArray) (ha : leafL sumL tA.data.toList = da.data.toList) (hb : leafL sumL tB.data.toList = db.data.toList) (hr : nodeL sumL da.data.toList db.data.toList = dr.data.toList) :
    rootR [tA, tB] = (dr, 0) ∧ pathR [tA, tB] 1 = ([da], 0) ∧ climbR 1 tB [da] = (dr, 0) ∧ rootR [tA, tB, tC] = (⟨#[]⟩, 1) ∧ pathR [tA, tB, tC] 0 = ([], 1) := by
  have hdaz : da.size = 32 := by
    have h := sumT_length (ofLeafL tA.data.toList)
    rw [show sumL (ofLeafL tA.data.toList) = da.data.toList from ha] at h
    simpa using h
  have hrow : rowL sumL (txtsL [tA, tB]) 0 = [da.data.toList, db.data.toList] := by rw [← ha, ← hb]; rfl
  refine ⟨?_, ?_, ?_, rootR_no may3, pathR_no fun h => may3 h.1⟩
  · rw [rootR_yes (d := 1) rfl (by omega), rootL, rowL, hrow]
    simp only [pairsL, List.getD, List.getElem?_cons_zero, Option.getD_some]
    rw [hr, toB_eq]
  · have h := pathR_yes (l := [tA, tB]) (d := 1) (n := 1) rfl (by omega) (by simp)
    have h2 : pathL sumL (txtsL [tA, tB]) 1 1 = [da.data.toList] := by
      have e : (List.range 1) = [0] := rfl
      have ep : partN (1 / 2 ^ 0) = 0 := rfl
      rw [pathL, e, List.map_cons, List.map_nil, ep, hrow]
      rfl
    rw [h2, List.map_cons, List.map_nil, toB_eq] at h
    exact h
  · rw [climbR_yes (i := 1) ⟨by simp, by omega, by simp, by simp [hdaz]⟩]
    have h2 : climbL sumL (1 : Int).toNat (ofLeafL tB.data.toList) (txtsL [da]) = dr.data.toList := by
      rw [← hr, ← hb]
      rfl
    rw [h2, toB_eq]
set_option maxHeartbeats 4000000 in
theorem roots_true {N : Nat} (HT : TreeW N) (hN : 1 ≤ N) (w : World) (hK : Consts w) :
    Calls Tryd.prog 18 #[] w fun e w' => e = .returned (.bool true) ∧ Below w.heap.size w w' := by
  obtain ⟨da, ha⟩ : ∃ d : ByteArray, leafL sumL tA.data.toList = d.data.toList := ⟨toB (leafL sumL tA.data.toList), (toB_list _).symm⟩
  obtain ⟨db, hb⟩ : ∃ d : ByteArray, leafL sumL tB.data.toList = d.data.toList := ⟨toB (leafL sumL tB.data.toList), (toB_list _).symm⟩
  obtain ⟨dr, hr⟩ : ∃ d : ByteArray, nodeL sumL da.data.toList db.data.toList = d.data.toList := ⟨toB (nodeL sumL da.data.toList db.data.toList), (toB_list _).symm⟩
  obtain ⟨h1, h2, h3, h4, h5⟩ := rows_doc da db dr ha hb hr
  have hdaz : da.size = 32 := by
    have h := sumT_length (ofLeafL tA.data.toList)
    rw [show sumL (ofLeafL tA.data.toList) = da.data.toList from ha] at h
    simpa using h
  have hdbz : db.size = 32 := by
    have h := sumT_length (ofLeafL tB.data.toList)
    rw [show sumL (ofLeafL tB.data.toList) = db.data.toList from hb] at h
    simpa using h
  have hdrz : dr.size = 32 := by
    have h := sumT_length (ofNodeL da.data.toList db.data.toList)
    rw [show sumL (ofNodeL da.data.toList db.data.toList) = dr.data.toList from hr] at h
    simpa using h
  have hs2 : ∀ s ∈ [tA, tB], s.size ≤ N := fun s hs => by
    have : s.size = 1 := by
      rcases List.mem_cons.1 hs with rfl | hs
      · rfl
      · rcases List.mem_cons.1 hs with rfl | hs
        · rfl
        · cases hs
    omega
  have hs3 : ∀ s ∈ [tA, tB, tC], s.size ≤ N := fun s hs => by
    rcases List.mem_cons.1 hs with rfl | hs
    · exact hN
    · rcases List.mem_cons.1 hs with rfl | hs
      · exact hN
      · rcases List.mem_cons.1 hs with rfl | hs
        · exact hN
        · cases hs
  have R1 := Lib.hid fun A c => HT.root [tA, tB] A c dr 0 (by simp) hs2 h1
  have R2 := Lib.hid fun A c => HT.path [tA, tB] A c 1 [da] 0 (by simp) hs2 h2
  have R3 := Lib.hid fun A c => HT.climb 1 tB [da] A c dr 0 (by simp) (by exact hN) h3
  have R4 := Lib.hid fun A c => HT.root [tA, tB, tC] A c ⟨#[]⟩ 1 (by simp) hs3 h4
  have R5 := Lib.hid fun A c => HT.path [tA, tB, tC] A c 0 [] 1 (by simp) hs3 h5
  have R6 := Lib.hid fun A c => HT.check dr 1 tB [da] A c dr 0 true (by simp) (by exact hN) h3 (by simp)
  have R7 := Lib.hid (HT.leaf tA da (by exact hN) ha)
  have R8 := Lib.hid (HT.leaf tB db (by exact hN) hb)
  have R9 := Lib.hid (HT.node da db dr (by omega) (by omega) hr)
  clear h1 h2 h3 h4 h5 ha hb hr hs2 hs3 HT
  go_enter Tryd.func18, Tryd.ntmps18
  go_wp2_with fail
  have hb1 := Below.alloc0 w (.cells #[.string ⟨#[97]⟩, .string ⟨#[98]⟩] 9)
  have hS1 : Sl (w.alloc (.cells #[.string ⟨#[97]⟩, .string ⟨#[98]⟩] 9)) (some ⟨w.heap.size, 0, none⟩) (strsV [tA, tB]) := Sl.new' rfl
  have hc1 := R1.out _ 2 _ (hK.keep hb1) hS1
  refine hc1.mono ?_
  rintro e w1 ⟨rfl, hq1⟩
  have hb2 := hb1.next hq1
  have hS2 := hS1.keep hq1
  clear hc1 hq1 hb1 hS1
  go_wp2_with fail
  have hc2 := R2.out _ 2 _ (hK.keep hb2) hS2
  refine hc2.mono ?_
  rintro e w2 ⟨v, rfl, hown, hq2⟩
  obtain ⟨A1, c1, rfl, hA1⟩ := own_sl hown
  have hb3 := hb2.next hq2
  clear hc2 hq2 hb2 hS2 hown
  go_wp2_with fail
  have hc3 := R3.out A1 c1 _ (hK.keep hb3) hA1
  refine hc3.mono ?_
  rintro e w3 ⟨rfl, hq3⟩
  have hb4 := hb3.next hq3
  have hA3 := hA1.keep hq3
  clear hc3 hq3 hb3 hA1
  go_wp2_with fail
  have hq4 := Below.alloc0 w3 (.cells #[.string ⟨#[97]⟩, .string ⟨#[98]⟩, .string ⟨#[99]⟩] 9)
  have hS4 : Sl (w3.alloc (.cells #[.string ⟨#[97]⟩, .string ⟨#[98]⟩, .string ⟨#[99]⟩] 9)) (some ⟨w3.heap.size, 0, none⟩) (strsV [tA, tB, tC]) := Sl.new' rfl
  have hc4 := R4.out _ 3 _ (hK.keep (hb4.next hq4)) hS4
  refine hc4.mono ?_
  rintro e w4 ⟨rfl, hq4'⟩
  have hb5 := (hb4.next hq4).next hq4'
  have hA4 := hA3.keep (hq4.next hq4')
  clear hc4 hq4 hq4' hb4 hA3 hS4
  go_wp2_with fail
  have hq5 := Below.alloc0 w4 (.cells #[.string ⟨#[97]⟩, .string ⟨#[98]⟩, .string ⟨#[99]⟩] 9)
  have hS5 : Sl (w4.alloc (.cells #[.string ⟨#[97]⟩, .string ⟨#[98]⟩, .string ⟨#[99]⟩] 9)) (some ⟨w4.heap.size, 0, none⟩) (strsV [tA, tB, tC]) := Sl.new' rfl
  have hc5 := R5.out _ 3 _ (hK.keep (hb5.next hq5)) hS5
  refine hc5.mono ?_
  rintro e w5 ⟨v, rfl, hown, hq5'⟩
  obtain ⟨A2, c2, rfl, -⟩ := own_sl hown
  have hb6 := (hb5.next hq5).next hq5'
  have hA5 := hA4.keep (hq5.next hq5')
  clear hc5 hq5 hq5' hb5 hA4 hS5 hown
  have hd32 : ((dr.size : Int) == 32) = true := by rw [beq_iff_eq]; omega
  go_wp2_with fail
  refine (R7.out _ (hK.keep hb6)).mono ?_
  rintro e w6 ⟨rfl, hq6⟩
  have hb7 := hb6.next hq6
  have hA6 := hA5.keep hq6
  clear hq6 hb6 hA5
  go_wp2_with fail
  refine (R8.out _ (hK.keep hb7)).mono ?_
  rintro e w7 ⟨rfl, hq7⟩
  have hb8 := hb7.next hq7
  have hA7 := hA6.keep hq7
  clear hq7 hb7 hA6
  go_wp2_with fail
  refine (R9.out _ (hK.keep hb8)).mono ?_
  rintro e w8 ⟨rfl, hq8⟩
  have hb9 := hb8.next hq8
  have hA8 := hA7.keep hq8
  clear hq8 hb8 hA7
  go_wp2_with fail
  refine (R7.out _ (hK.keep hb9)).mono ?_
  rintro e w9 ⟨rfl, hq9⟩
  have hb10 := hb9.next hq9
  have hA9 := hA8.keep hq9
  clear hq9 hb9 hA8
  go_wp2_with fail
  have hq10 := Below.alloc0 w9 (.cells #[.string da] 9)
  have hS10 : Sl (w9.alloc (.cells #[.string da] 9)) (some ⟨w9.heap.size, 0, none⟩) (strsV [da]) := Sl.new' rfl
  have htx := texts_any A1 _ c1 1 [da] [da] _ (by simp) true (by simp) (hA9.keep hq10) hS10
  refine htx.mono ?_
  rintro e w10 ⟨rfl, n, rfl⟩
  have hb11 := (hb10.next hq10).next (Below.drewN0 _ n)
  have hA10 := (hA9.keep hq10).keep (Below.drewN0 _ n)
  clear htx hS10 hq10 hb10 hA9
  generalize (w9.alloc _).drewN n = w11 at *
  go_wp2_with fail
  refine (R6.out A1 c1 _ (hK.keep hb11) hA10).mono ?_
  rintro e w12 ⟨rfl, hq12⟩
  have hb12 := hb11.next hq12
  clear hq12 hb11 hA10
  go_wp2
  go_ret
  exact ⟨rfl, hb12⟩
end Go.Proofs.YtgcohoonhklkbaaDoor

/-
  TreeClimbs: the law's walk over the program's words.
-/
namespace Go.Proofs.YtgcohoonhklkbaaDoor
open Go.RowKit Go.Kx Go.Trm
set_option maxRecDepth 20000

theorem not_big {l : List ByteArray} (h : ¬ bigN l) : l.length ≤ 1100 ∧ ∀ s ∈ l, s.size ≤ 200 :=
  ⟨Nat.le_of_not_lt fun h2 => h (.inr (.inl h2)), fun s hs => Nat.le_of_not_lt fun h2 => h (.inr (.inr ⟨s, hs, h2⟩))⟩
set_option maxHeartbeats 2000000 in
theorem climbs_walk {N : Nat} (HT : TreeW N) (hN : 1000 ≤ N) (HS : RSum) (root : ByteArray) (i : Int) (s : ByteArray) (path : List ByteArray) (A : Option Addr) (c : Nat) (hr0 : root.size ≤ 9223372036854775807) (hs0 : s.size ≤ 9223372036854775807)
    (hz : path.length ≤ 9223372036854775807) (hzs : ∀ s ∈ path, s.size ≤ 9223372036854775807) (W : World) (hA : Sl W A (strsV path)) (hK : Consts W) :
    Calls Tryd.prog 4 #[.string root, .int .i64 i, .string s, .slice A path.length c] W fun e W' => e = .returned (.bool true) ∧ Below W.heap.size W W' := by
  have hbig := rbig_any path hz hzs A c W hA
  by_cases h1 : 100 < root.size
  · have t1 : (100 : Int) < (root.size : Int) := by omega
    clear hbig hzs hA
    generalize path.length = n at *
    go_enter Tryd.func4, Tryd.ntmps4
    go_wp2
    go_ret
    exact ⟨rfl, Below.refl _ _⟩
  have t1 : ¬ (100 : Int) < (root.size : Int) := by omega
  by_cases h2 : 300 < s.size
  · have t2 : (300 : Int) < (s.size : Int) := by omega
    clear hbig hzs hA
    generalize path.length = n at *
    go_enter Tryd.func4, Tryd.ntmps4
    go_wp2
    go_ret
    exact ⟨rfl, Below.refl _ _⟩
  have t2 : ¬ (300 : Int) < (s.size : Int) := by omega
  by_cases h3 : bigN path
  · generalize path.length = n at *
    go_enter Tryd.func4, Tryd.ntmps4
    go_wp2_with fail
    refine hbig.mono ?_
    rintro e w1 ⟨h, rfl⟩
    rcases h with ⟨-, rfl⟩ | ⟨h4, -⟩
    rotate_left
    · exact absurd h3 h4
    go_wp2
    go_ret
    exact ⟨rfl, Below.refl _ _⟩
  obtain ⟨g1, g2⟩ := not_big h3
  obtain ⟨r, k, hr⟩ : ∃ r k, climbR i s path = (r, k) := ⟨_, _, rfl⟩
  obtain ⟨b, hb⟩ : ∃ b : Bool, b = (decide (k = 0) && decide (r = root)) := ⟨_, rfl⟩
  have R1 := HT.climb i s path A c r k (by omega) (by omega) hr
  have R2 := rclimb_any HS i s path A c (by omega) (by omega) r k hr
  have R3 := HT.check root i s path A c r k b (by omega) (by omega) hr hb
  have R4 := rcheck_any HS root i s path A c (by omega) (by omega) r k hr b hb
  have R5 := fun V => roots_true HT (by omega) V
  have HA := Lib.hid hA
  have H1 := Lib.hid R1
  have H2 := Lib.hid R2
  have H3 := Lib.hid R3
  have H4 := Lib.hid R4
  have H5 := Lib.hid R5
  have H3B := Lib.hid h3
  clear R1 R2 R3 R4 R5 hb hr g2 h3 hzs hA HT HS
  generalize path.length = n at *
  go_enter Tryd.func4, Tryd.ntmps4
  go_wp2_with fail
  refine hbig.mono ?_
  rintro e W ⟨h, rfl⟩
  rcases h with ⟨h4, -⟩ | ⟨-, rfl⟩
  · exact absurd h4 H3B.out
  clear hbig
  go_wp2_with fail
  refine (H1.out _ hK HA.out).mono ?_
  rintro e w1 ⟨rfl, hb1⟩
  go_wp2_with fail
  refine (H2.out _ (HA.out.keep hb1)).mono ?_
  rintro e w2 ⟨rfl, hq⟩
  have hb2 := hb1.next hq
  clear hb1 hq
  go_wp2_with fail
  refine (H5.out _ (hK.keep hb2)).mono ?_
  rintro e w3 ⟨rfl, hq⟩
  have hb3 := hb2.next hq
  clear hb2 hq
  go_wp2_with fail
  refine (H3.out _ (hK.keep hb3) (HA.out.keep hb3)).mono ?_
  rintro e w4 ⟨rfl, hq⟩
  have hb4 := hb3.next hq
  clear hb3 hq
  go_wp2_with fail
  refine (H4.out _ (HA.out.keep hb4)).mono ?_
  rintro e w5 ⟨rfl, hq⟩
  have hb5 := hb4.next hq
  clear hb4 hq
  go_wp2
  go_ret
  exact ⟨rfl, hb5⟩
end Go.Proofs.YtgcohoonhklkbaaDoor

/-
  TreeShows: the law's walk over the program's words.
-/
namespace Go.Proofs.YtgcohoonhklkbaaDoor
open Go.RowKit Go.Kx Go.Trm
set_option maxRecDepth 20000

set_option maxHeartbeats 2000000 in
theorem shows_walk {N : Nat} (HT : TreeW N) (hN : 1000 ≤ N) (HS : RSum) (l m : List ByteArray) (i : Int) (s : ByteArray) (path : List ByteArray) (A B C : Option Addr) (c c' c'' : Nat) (hs0 : s.size ≤ 9223372036854775807)
    (hzl : l.length ≤ 9223372036854775807) (hzsl : ∀ s ∈ l, s.size ≤ 9223372036854775807) (hzm : m.length ≤ 9223372036854775807) (hzsm : ∀ s ∈ m, s.size ≤ 9223372036854775807) (hz : path.length ≤ 9223372036854775807) (hzs : ∀ s ∈ path, s.size ≤ 9223372036854775807)
    (W : World) (hA : Sl W A (strsV l)) (hB : Sl W B (strsV m)) (hC : Sl W C (strsV path)) (hK : Consts W) :
    Calls Tryd.prog 5 #[.slice A l.length c, .slice B m.length c', .int .i64 i, .string s, .slice C path.length c''] W fun e W' => e = .returned (.bool true) ∧ Below W.heap.size W W' := by
  have hbl := rbig_any l hzl hzsl A c W hA
  have hbm := rbig_any m hzm hzsm B c' W hB
  have hbp := rbig_any path hz hzs C c'' W hC
  by_cases b1 : bigN l
  · clear hbm hbp hA hB hC hzsl hzsm hzs
    generalize l.length = x at *
    generalize m.length = y at *
    generalize path.length = z at *
    go_enter Tryd.func5, Tryd.ntmps5
    go_wp2_with fail
    refine hbl.mono ?_
    rintro e w1 ⟨h, rfl⟩
    rcases h with ⟨-, rfl⟩ | ⟨h4, -⟩
    rotate_left
    · exact absurd b1 h4
    go_wp2
    go_ret
    exact ⟨rfl, Below.refl _ _⟩
  by_cases b2 : bigN m
  · clear hbp hA hB hC hzsl hzsm hzs
    generalize l.length = x at *
    generalize m.length = y at *
    generalize path.length = z at *
    go_enter Tryd.func5, Tryd.ntmps5
    go_wp2_with fail
    refine hbl.mono ?_
    rintro e W ⟨h, rfl⟩
    rcases h with ⟨h4, -⟩ | ⟨-, rfl⟩
    · exact absurd h4 b1
    go_wp2_with fail
    refine hbm.mono ?_
    rintro e W ⟨h, rfl⟩
    rcases h with ⟨-, rfl⟩ | ⟨h4, -⟩
    rotate_left
    · exact absurd b2 h4
    go_wp2
    go_ret
    exact ⟨rfl, Below.refl _ _⟩
  by_cases b3 : bigN path
  · clear hA hB hC hzsl hzsm hzs
    generalize l.length = x at *
    generalize m.length = y at *
    generalize path.length = z at *
    go_enter Tryd.func5, Tryd.ntmps5
    go_wp2_with fail
    refine hbl.mono ?_
    rintro e W ⟨h, rfl⟩
    rcases h with ⟨h4, -⟩ | ⟨-, rfl⟩
    · exact absurd h4 b1
    go_wp2_with fail
    refine hbm.mono ?_
    rintro e W ⟨h, rfl⟩
    rcases h with ⟨h4, -⟩ | ⟨-, rfl⟩
    · exact absurd h4 b2
    go_wp2_with fail
    refine hbp.mono ?_
    rintro e W ⟨h, rfl⟩
    rcases h with ⟨-, rfl⟩ | ⟨h4, -⟩
    rotate_left
    · exact absurd b3 h4
    go_wp2
    go_ret
    exact ⟨rfl, Below.refl _ _⟩
  obtain ⟨l1, l2⟩ := not_big b1
  obtain ⟨m1, m2⟩ := not_big b2
  obtain ⟨p1, p2⟩ := not_big b3
  obtain ⟨ans, hans⟩ : ∃ a, colA l m = a := ⟨_, rfl⟩
  obtain ⟨trc, htrc⟩ : ∃ a, trcA l i s path = a := ⟨_, rfl⟩
  have R1 := HT.collide l m A B c c' ans (by omega) (by omega) (fun s hs => by have := l2 s hs; omega) (fun s hs => by have := m2 s hs; omega) hans
  have R2 := rcollide_any HS l m A B c c' (by omega) (fun s hs => by have := l2 s hs; omega) (fun s hs => by have := m2 s hs; omega) ans hans
  have R5 := fun V => roots_true HT (by omega) V
  have B1 := Lib.hid b1
  have B2 := Lib.hid b2
  have B3 := Lib.hid b3
  have HA := Lib.hid hA
  have HB := Lib.hid hB
  have HC := Lib.hid hC
  by_cases h300 : 300 < s.size
  · have t1 : (300 : Int) < (s.size : Int) := by omega
    clear R1 R2 R5 hans htrc l2 m2 p2 b1 b2 b3 hA hB hC hzsl hzsm hzs
    generalize l.length = x at *
    generalize m.length = y at *
    generalize path.length = z at *
    go_enter Tryd.func5, Tryd.ntmps5
    go_wp2_with fail
    refine hbl.mono ?_
    rintro e W ⟨h, rfl⟩
    rcases h with ⟨h4, -⟩ | ⟨-, rfl⟩
    · exact absurd h4 B1.out
    go_wp2_with fail
    refine hbm.mono ?_
    rintro e W ⟨h, rfl⟩
    rcases h with ⟨h4, -⟩ | ⟨-, rfl⟩
    · exact absurd h4 B2.out
    go_wp2_with fail
    refine hbp.mono ?_
    rintro e W ⟨h, rfl⟩
    rcases h with ⟨h4, -⟩ | ⟨-, rfl⟩
    · exact absurd h4 B3.out
    go_wp2
    go_ret
    exact ⟨rfl, Below.refl _ _⟩
  have t1 : ¬ (300 : Int) < (s.size : Int) := by omega
  have R3 := HT.trace l i s path A C c c'' trc (by omega) (by omega) (fun s hs => by have := l2 s hs; omega) (by omega) htrc
  have R4 := rtrace_any HS l i s path A C c c'' (by omega) (by omega) (fun s hs => by have := l2 s hs; omega) (by omega) trc htrc
  unfold CollideP at R2
  have H5 := Lib.hid R5
  clear R5 hans htrc l2 m2 p2 b1 b2 b3 hA hB hC hzsl hzsm hzs HT HS
  generalize l.length = x at *
  generalize m.length = y at *
  generalize path.length = z at *
  rcases ans with _ | ⟨a1, a2⟩ <;> rcases trc with _ | ⟨r1, r2⟩
  all_goals
    simp only [outV] at R1 R2 R3 R4
    have H1 := Lib.hid R1
    have H2 := Lib.hid R2
    have H3 := Lib.hid R3
    have H4 := Lib.hid R4
    clear R1 R2 R3 R4
    go_enter Tryd.func5, Tryd.ntmps5
    go_wp2_with fail
    refine hbl.mono ?_
    rintro e W ⟨h, rfl⟩
    rcases h with ⟨h4, -⟩ | ⟨-, rfl⟩
    · exact absurd h4 B1.out
    go_wp2_with fail
    refine hbm.mono ?_
    rintro e W ⟨h, rfl⟩
    rcases h with ⟨h4, -⟩ | ⟨-, rfl⟩
    · exact absurd h4 B2.out
    go_wp2_with fail
    refine hbp.mono ?_
    rintro e W ⟨h, rfl⟩
    rcases h with ⟨h4, -⟩ | ⟨-, rfl⟩
    · exact absurd h4 B3.out
    clear hbl hbm hbp
    go_wp2_with fail
    refine (H1.out _ hK HA.out HB.out).mono ?_
    rintro e w1 ⟨rfl, hb1⟩
    go_wp2_with fail
    refine (H2.out _ (HA.out.keep hb1) (HB.out.keep hb1)).mono ?_
    rintro e w2 ⟨rfl, hq⟩
    have hb2 := hb1.next hq
    clear hb1 hq
    go_wp2_with fail
    refine (H3.out _ (hK.keep hb2) (HA.out.keep hb2) (HC.out.keep hb2)).mono ?_
    rintro e w3 ⟨rfl, hq⟩
    have hb3 := hb2.next hq
    clear hb2 hq
    go_wp2_with fail
    refine (H4.out _ (HA.out.keep hb3) (HC.out.keep hb3)).mono ?_
    rintro e w4 ⟨rfl, hq⟩
    have hb4 := hb3.next hq
    clear hb3 hq
    go_wp2_with fail
    refine (H5.out _ (hK.keep hb4)).mono ?_
    rintro e w5 ⟨rfl, hq⟩
    have hb5 := hb4.next hq
    clear hb4 hq
    go_wp2
    go_ret
    exact ⟨rfl, hb5⟩
end Go.Proofs.YtgcohoonhklkbaaDoor

/-
  tree: the digest of any text (sumH); the contracts of leafText, nodeText, Leaf, Node, mayHaveRoot, areDigests (by that of digest.Sum, a premise here).
-/
namespace Go.Proofs.YtgcohoonhklkbaaDoor
open Go.RowKit Go.Kx Go.Trm
set_option maxRecDepth 20000

/-- The digest of a text: none, if it is too long. -/
def sumH (x : Txt) : Txt := if x.length ≤ 1000000000 then sumL x else []
theorem sumH_short {x : Txt} (h : x.length ≤ 1000000000) : sumH x = sumL x := if_pos h
theorem sumH_len {x : Txt} (h : x.length ≤ 1000000000) : (sumH x).length = 32 := by rw [sumH_short h]; exact sumT_length x
theorem sumH_le (x : Txt) : (sumH x).length ≤ 32 := by
  unfold sumH
  split
  · exact Nat.le_of_eq (sumT_length x)
  · simp
/-- What digest.Sum tells of any text (the premise of the contracts over it). -/
def DSumH : Prop := ∀ (s d : ByteArray), s.size ≤ 140737488355328 → sumH s.data.toList = d.data.toList → ∀ w, Consts w → Calls Tryd.prog 27 #[.string s] w fun e w' => e = .returned (.string d) ∧ Below w.heap.size w w'
theorem leafText_any (s d : ByteArray) (hs : s.size ≤ 140737488351232) (hd : ofLeafL s.data.toList = d.data.toList) (w : World) :
    Calls Tryd.prog 34 #[.string s] w fun e w' => e = .returned (.string d) ∧ w' = w := by
  have e : (⟨#[0]⟩ : ByteArray) ++ s = d := ByteArray.ext (Array.toList_inj.1 (by rw [← hd]; simp [ofLeafL]))
  have hadd : ∀ V : World, (Op.stringOp .add ⟨#[0]⟩ s).run Tryd.prog V = .ok (.string d) V := fun V => by rw [← e]; exact run_string_add_sum V _ s (by show 1 + s.size ≤ _; omega)
  clear e
  go_enter Tryd.func34, Tryd.ntmps34
  go_wp2
  go_ret
  exact ⟨rfl, rfl⟩
theorem nodeText_any (a b d : ByteArray) (ha : a.size ≤ 1000000) (hb : b.size ≤ 1000000) (hd : ofNodeL a.data.toList b.data.toList = d.data.toList) (w : World) :
    Calls Tryd.prog 37 #[.string a, .string b] w fun e w' => e = .returned (.string d) ∧ w' = w := by
  obtain ⟨c, hc⟩ : ∃ c : ByteArray, (⟨#[1]⟩ : ByteArray) ++ a = c := ⟨_, rfl⟩
  have e : c ++ b = d := ByteArray.ext (Array.toList_inj.1 (by rw [← hd, ← hc]; simp [ofNodeL]))
  have hcz : c.size ≤ 1000001 := by rw [← hc, ByteArray.size_append]; show 1 + a.size ≤ _; omega
  have h1 : ∀ V : World, (Op.stringOp .add ⟨#[1]⟩ a).run Tryd.prog V = .ok (.string c) V := fun V => by rw [← hc]; exact run_string_add_sum V _ a (by show 1 + a.size ≤ _; omega)
  have h2 : ∀ V : World, (Op.stringOp .add c b).run Tryd.prog V = .ok (.string d) V := fun V => by rw [← e]; exact run_string_add_sum V c b (by omega)
  clear e hc
  go_enter Tryd.func37, Tryd.ntmps37
  go_wp2
  go_ret
  exact ⟨rfl, rfl⟩
theorem tleaf_any (HD : DSumH) (s d : ByteArray) (hs : s.size ≤ 140737488351232) (hd : leafL sumH s.data.toList = d.data.toList) (w : World) (hK : Consts w) :
    Calls Tryd.prog 14 #[.string s] w fun e w' => e = .returned (.string d) ∧ Below w.heap.size w w' := by
  obtain ⟨c, hc⟩ : ∃ c : ByteArray, ofLeafL s.data.toList = c.data.toList := ⟨⟨(ofLeafL s.data.toList).toArray⟩, rfl⟩
  have hcz : c.size = s.size + 1 := by have := congrArg List.length hc; simp [ofLeafL] at this; omega
  have H1 := leafText_any s c hs hc w
  have H2 := HD c d (by omega) (by rw [← hc]; exact hd) w hK
  clear hc hd HD hcz
  go_enter Tryd.func14, Tryd.ntmps14
  go_wp2_with fail
  refine H1.mono ?_
  rintro e w1 ⟨rfl, rfl⟩
  go_wp2_with fail
  refine H2.mono ?_
  rintro e w2 ⟨rfl, hb⟩
  go_wp2
  go_ret
  exact ⟨rfl, hb⟩
theorem tnode_any (HD : DSumH) (a b d : ByteArray) (ha : a.size ≤ 1000000) (hb : b.size ≤ 1000000) (hd : nodeL sumH a.data.toList b.data.toList = d.data.toList) (w : World) (hK : Consts w) :
    Calls Tryd.prog 16 #[.string a, .string b] w fun e w' => e = .returned (.string d) ∧ Below w.heap.size w w' := by
  obtain ⟨c, hc⟩ : ∃ c : ByteArray, ofNodeL a.data.toList b.data.toList = c.data.toList := ⟨⟨(ofNodeL a.data.toList b.data.toList).toArray⟩, rfl⟩
  have hcz : c.size = a.size + b.size + 1 := by have := congrArg List.length hc; simp [ofNodeL] at this; omega
  have H1 := nodeText_any a b c ha hb hc w
  have H2 := HD c d (by omega) (by rw [← hc]; exact hd) w hK
  clear hc hd HD hcz
  go_enter Tryd.func16, Tryd.ntmps16
  go_wp2_with fail
  refine H1.mono ?_
  rintro e w1 ⟨rfl, rfl⟩
  go_wp2_with fail
  refine H2.mono ?_
  rintro e w2 ⟨rfl, hb⟩
  go_wp2
  go_ret
  exact ⟨rfl, hb⟩

/-! ### mayHaveRoot, areDigests -/
theorem may_fin : ∀ n : Fin 1025, 1 ≤ n.1 → ((n.1 &&& (n.1 - 1) = 0) ↔ ∃ d : Fin 11, n.1 = 2 ^ d.1) := by decide +kernel
theorem may_and {n : Nat} (h1 : 1 ≤ n) (h2 : n ≤ 1024) : n &&& (n - 1) = 0 ↔ mayN n := by
  refine (may_fin ⟨n, by omega⟩ h1).trans ⟨fun ⟨d, h⟩ => ⟨d.1, by omega, h⟩, fun ⟨d, hd, h⟩ => ⟨⟨d, by omega⟩, h⟩⟩
theorem may_pos {n : Nat} (h : mayN n) : 1 ≤ n ∧ n ≤ 1024 := by
  obtain ⟨d, hd, rfl⟩ := h
  exact ⟨Nat.two_pow_pos _, by have : 2 ^ d ≤ 2 ^ 10 := Nat.pow_le_pow_right (by omega) hd; omega⟩
open Classical in
theorem tmay_any (n : Nat) (hn : n ≤ 9223372036854775807) (A : Option Addr) (c : Nat) (b : Bool) (hb : b = decide (mayN n)) (w : World) :
    Calls Tryd.prog 28 #[.slice A n c] w fun e w' => e = .returned (.bool b) ∧ w = w' := by
  by_cases h0 : 1 ≤ n
  rotate_left
  · obtain rfl : b = false := by rw [hb, decide_eq_false]; exact fun h => h0 (may_pos h).1
    have t0 : ¬ (1 : Int) ≤ (n : Int) := by omega
    clear hb
    go_enter Tryd.func28, Tryd.ntmps28
    go_wp2
    go_ret
    exact ⟨rfl, rfl⟩
  have t0 : (1 : Int) ≤ (n : Int) := by omega
  by_cases h1 : n ≤ 1024
  rotate_left
  · obtain rfl : b = false := by rw [hb, decide_eq_false]; exact fun h => h1 (may_pos h).2
    have t1 : ¬ (n : Int) ≤ (1024 : Int) := by omega
    clear hb
    go_enter Tryd.func28, Tryd.ntmps28
    go_wp2
    go_ret
    exact ⟨rfl, rfl⟩
  have t1 : (n : Int) ≤ (1024 : Int) := by omega
  have e : (bits .and .i64 (n : Int) ((n : Int) - 1) == 0) = b := by
    rw [show ((n : Int) - 1) = ((n - 1 : Nat) : Int) by omega, int_and (by omega) (by omega), hb]
    by_cases h : n &&& (n - 1) = 0
    · rw [h, decide_eq_true ((may_and h0 h1).1 h)]
      rfl
    · rw [decide_eq_false fun hm => h ((may_and h0 h1).2 hm), beq_eq_false_iff_ne]
      omega
  clear hb
  have E := Lib.hid e
  clear e
  go_enter Tryd.func28, Tryd.ntmps28
  go_wp2
  go_ret
  exact ⟨ret_bool E.out, rfl⟩
theorem areDigests_any (l : List ByteArray) (A : Option Addr) (c : Nat) (hz : l.length ≤ 9223372036854775807) (b : Bool) (hb : b = decide (∀ p ∈ l, p.size = 32)) (w : World) (hA : Sl w A (strsV l)) :
    Calls Tryd.prog 39 #[.slice A l.length c] w fun e w' => e = .returned (.bool b) ∧ w = w' := by
  have HB := Lib.hid hb
  obtain ⟨m, hm⟩ : ∃ m, l.length = m := ⟨_, rfl⟩
  have HM := Lib.hid hm
  rw [hm] at hz ⊢
  clear hb hm
  go_enter Tryd.func39, Tryd.ntmps39
  go_wp2
  go_loopw [7] (fun i wr => ∃ k : Nat, k ≤ m ∧ i = .int .i64 (k : Int) ∧ Hid (∀ j, (h : j < l.length) → j < k → l[j].size = 32) ∧ w = wr) (fun i _ => m - (intOf i).toNat)
  case atStart => exact ⟨0, by omega, rfl, Lib.hid (fun j _ h => by omega), rfl⟩
  case round =>
    obtain ⟨k, hk, rfl, ha, rfl⟩ := hrel
    by_cases hlt : k < m
    · obtain ⟨b0, off, hAe, hcp⟩ := sl_strV hA (k := k) (by rw [HM.out]; exact hlt)
      subst hAe
      obtain ⟨p, hp⟩ : ∃ p, l[k]'(by rw [HM.out]; exact hlt) = p := ⟨_, rfl⟩
      rw [hp] at hcp
      by_cases h32 : p.size = 32
      · have h3 : ((p.size : Int) != 32) = false := by rw [bne_eq_false_iff_eq]; omega
        have HA : Hid (∀ j, (h : j < l.length) → j < k + 1 → l[j].size = 32) := Lib.hid fun j h hj => by
          rcases (by omega : j < k ∨ j = k) with h1 | rfl
          · exact ha.out j h h1
          · rw [hp]; exact h32
        clear hp h32
        go_wp2
        go_roundw
        case rel => exact ⟨k + 1, by omega, by go_num, HA, trivial⟩
        case measure => simp [intOf]; omega
      · have h3 : ((p.size : Int) != 32) = true := by rw [bne_iff_ne]; omega
        have HF : Hid (b = false) := Lib.hid (by
          rw [HB.out, decide_eq_false]
          intro h
          exact h32 (by rw [← hp]; exact h _ (List.getElem_mem _)))
        clear hp h32
        go_wp2
        go_ret
        exact ⟨ret_bool HF.out.symm, rfl⟩
    · obtain rfl : k = m := by omega
      have HF : Hid (b = true) := Lib.hid (by
        rw [HB.out, decide_eq_true]
        intro p hp
        obtain ⟨j, hj, rfl⟩ := List.getElem_of_mem hp
        exact ha.out j hj (by rw [← HM.out]; exact hj))
      go_wp2
      go_ret
      exact ⟨ret_bool HF.out.symm, rfl⟩
end Go.Proofs.YtgcohoonhklkbaaDoor

/-
  tree: the rows of digests of any texts; the contracts of under and root (methods of rows).
-/
namespace Go.Proofs.YtgcohoonhklkbaaDoor
open Go.RowKit Go.Kx Go.Trm
set_option maxRecDepth 20000

/-- A row k of digests, as strings. -/
def rowH (l : List ByteArray) (k : Nat) : List ByteArray := (rowL sumH (txtsL l) k).map toB
theorem rowH_length (l : List ByteArray) {d k : Nat} (hl : l.length = 2 ^ d) (hk : k ≤ d) : (rowH l k).length = 2 ^ (d - k) := by
  rw [rowH, List.length_map, rowL_length sumH (txtsL l) (by rw [txtsL_length]; exact hl) k hk]
theorem rowH_zero (l : List ByteArray) {j : Nat} (h : j < l.length) : (rowH l 0)[j]? = some (toB (leafL sumH l[j].data.toList)) := by
  simp [rowH, rowL, txtsL, List.getElem?_eq_getElem h]
theorem rowH_get (l : List ByteArray) {k j : Nat} {x : ByteArray} (h : (rowH l k)[j]? = some x) : (rowL sumH (txtsL l) k).getD j [] = x.data.toList := by
  rw [rowH, List.getElem?_map] at h
  obtain ⟨y, hy, rfl⟩ := Option.map_eq_some_iff.1 h
  rw [List.getD, hy, toB_list]
  rfl
theorem rowH_le (l : List ByteArray) {d k : Nat} (hl : l.length = 2 ^ d) (hk : k ≤ d) {j : Nat} {x : ByteArray} (h : (rowH l k)[j]? = some x) : x.size ≤ 32 := by
  have hg := rowH_get l h
  have hj := (List.getElem?_eq_some_iff.1 h).1
  rw [rowH_length l hl hk] at hj
  have hx : x.size = x.data.toList.length := by simp
  rw [hx, ← hg]
  cases k with
  | zero =>
    rw [rowL, List.getD, List.getElem?_map, List.getElem?_eq_getElem (by rw [txtsL_length, hl]; exact hj)]
    exact sumH_le _
  | succ k =>
    rw [rowL_get sumH (txtsL l) (by rw [txtsL_length]; exact hl) k j (by omega) hj]
    exact sumH_le _
theorem rowH_succ (l : List ByteArray) {d k j : Nat} (hl : l.length = 2 ^ d) (hk : k < d) (hj : j < 2 ^ (d - (k + 1))) {a b : ByteArray} (ha : (rowH l k)[2 * j]? = some a) (hb : (rowH l k)[2 * j + 1]? = some b) :
    (rowH l (k + 1))[j]? = some (toB (nodeL sumH a.data.toList b.data.toList)) := by
  have hlen := rowH_length l hl (k := k + 1) (by omega)
  rw [List.getElem?_eq_getElem (by omega)]
  congr 1
  have h1 := rowL_get sumH (txtsL l) (by rw [txtsL_length]; exact hl) k j hk hj
  rw [rowH_get l ha, rowH_get l hb] at h1
  rw [← h1]
  simp only [rowH, List.getElem_map, List.getD]
  rw [List.getElem?_eq_getElem (by rw [rowH, List.length_map] at hlen; omega)]
  rfl
/-- The text that a digest is the Sum of. -/
def undT (l : List ByteArray) (h j : Nat) : Txt := match h with
  | 0 => ofLeafL ((txtsL l).getD j [])
  | h + 1 => ofNodeL ((rowL sumH (txtsL l) h).getD (2 * j) []) ((rowL sumH (txtsL l) h).getD (2 * j + 1) [])
theorem undT_row (l : List ByteArray) {d h j : Nat} (hl : l.length = 2 ^ d) (hh : h ≤ d) (hj : j < 2 ^ (d - h)) : (rowH l h)[j]? = some (toB (sumH (undT l h j))) := by
  cases h with
  | zero =>
    have hjl : j < l.length := by rw [hl]; simpa using hj
    rw [rowH_zero l hjl, undT, txtsL_get l hjl]
    rfl
  | succ h =>
    have h2 : 2 ^ (d - h) = 2 * 2 ^ (d - (h + 1)) := by rw [← Nat.pow_succ']; congr 1; omega
    have hlen := rowH_length l hl (k := h) (by omega)
    have e1 := List.getElem?_eq_getElem (l := rowH l h) (i := 2 * j) (by omega)
    have e2 := List.getElem?_eq_getElem (l := rowH l h) (i := 2 * j + 1) (by omega)
    rw [rowH_succ l hl (by omega) hj e1 e2, undT, rowH_get l e1, rowH_get l e2]
    rfl
/-- The rows of digests that lie in a slice of slices. -/
def DigsV (w : World) (vs : List Value) (l : List ByteArray) : Prop := ∀ k v, vs[k]? = some v → RowAt w v (rowH l k)
theorem DigsV.keep {w w' : World} {vs : List Value} {l : List ByteArray} (h : DigsV w vs l) (hb : Below w.heap.size w w') : DigsV w' vs l := fun k v hv => (h k v hv).keep hb
theorem RowAt.cell {w : World} {v : Value} {row : List ByteArray} (h : RowAt w v row) : ∃ g c, v = .slice (some ⟨g, 0, none⟩) row.length c ∧ ∀ j x, row[j]? = some x → w.cell? ⟨g, j, none⟩ = some (.string x) := by
  obtain ⟨g, c, e, -, h⟩ := h
  exact ⟨g, c, e, h⟩

/-! ### under -/
theorem under_zero (l : List ByteArray) (A B : Option Addr) (c m c' j : Nat) (hj : j < l.length) (hs : ∀ s ∈ l, s.size ≤ 140737488351232) (q : ByteArray) (hq : undT l 0 j = q.data.toList) (w : World) (hA : Sl w A (strsV l)) :
    Calls Tryd.prog 44 #[.agg #[.slice A l.length c, .slice B m c'], .int .i64 0, .int .i64 (j : Int)] w fun e w' => e = .returned (.string q) ∧ Below w.heap.size w w' := by
  obtain ⟨b, off, rfl, hc⟩ := sl_strV hA hj
  obtain ⟨p, hp⟩ : ∃ p, l[j] = p := ⟨_, rfl⟩
  rw [hp] at hc
  have hps : p.size ≤ 140737488351232 := by rw [← hp]; exact hs _ (List.getElem_mem _)
  rw [undT, txtsL_get l hj, hp] at hq
  have H := fun V => leafText_any p q hps hq V
  have hcB := fun V (hb : Below w.heap.size w V) => (hb.cell (p := ⟨b, off + j, none⟩) (block_lt_of_cell hc)).trans hc
  have hA1 := Below.alloc0 w (.cells #[.slice (some ⟨b, off, none⟩) l.length c, .slice B m c'] 44)
  have hc1 := hcB _ hA1
  clear hA hp hq hs hcB hc
  generalize l.length = n at *
  have hnI : (j : Int) < (n : Int) := by omega
  go_enter Tryd.func44, Tryd.ntmps44
  go_wp2_with fail
  refine (H _).mono ?_
  rintro e w1 ⟨rfl, rfl⟩
  go_wp2
  go_ret
  exact ⟨rfl, hA1⟩
theorem under_succ (A : Option Addr) (n c g m c' h j : Nat) (hh : h < m) (hm : m ≤ 1000) (v : Value) (row : List ByteArray) (hz : row.length ≤ 2000) (a b : ByteArray) (ha : row[2 * j]? = some a) (hb : row[2 * j + 1]? = some b) (hal : a.size ≤ 32) (hbl : b.size ≤ 32) (q : ByteArray) (hq : ofNodeL a.data.toList b.data.toList = q.data.toList)
    (w : World) (hc : w.cell? ⟨g, h, none⟩ = some v) (hrow : RowAt w v row) :
    Calls Tryd.prog 44 #[.agg #[.slice A n c, .slice (some ⟨g, 0, none⟩) m c'], .int .i64 ((h + 1 : Nat) : Int), .int .i64 (j : Int)] w fun e w' => e = .returned (.string q) ∧ Below w.heap.size w w' := by
  obtain ⟨g1, c1, rfl, hg1, hcs⟩ := hrow
  have H := fun V => nodeText_any a b q (by omega) (by omega) hq V
  have hA1 := Below.alloc0 w (.cells #[.slice A n c, .slice (some ⟨g, 0, none⟩) m c'] 44)
  obtain ⟨x, hx⟩ : ∃ x, 2 * j = x := ⟨_, rfl⟩
  obtain ⟨x1, hx1⟩ : ∃ x1, x + 1 = x1 := ⟨_, rfl⟩
  have hl1 := (List.getElem?_eq_some_iff.1 ha).1
  have hl2 := (List.getElem?_eq_some_iff.1 hb).1
  rw [hx] at ha hb hl1 hl2
  rw [hx1] at hb hl2
  have hc2 := (hA1.cell (p := ⟨g, h, none⟩) (block_lt_of_cell hc)).trans hc
  have hca := (hA1.cell (p := ⟨g1, x, none⟩) hg1).trans (hcs _ _ ha)
  have hcb := (hA1.cell (p := ⟨g1, x1, none⟩) hg1).trans (hcs _ _ hb)
  have hb1 := hA1.drew
  have hxI : (2 : Int) * (j : Int) = (x : Int) := by omega
  have hxI1 : (x : Int) + 1 = (x1 : Int) := by omega
  have hh1 : ((h + 1 : Nat) : Int) - 1 = (h : Int) := by omega
  have hhI : (h : Int) < (m : Int) := by omega
  have hne : (((h + 1 : Nat) : Int) == 0) = false := by rw [beq_eq_false_iff_ne]; omega
  generalize ((h + 1 : Nat) : Int) = z at *
  generalize row.length = L at *
  have hw1 : IntKind.i64.wrap (x : Int) = (x : Int) := IntWalk.i64_in _ (by omega)
  have hw2 : IntKind.i64.wrap (x1 : Int) = (x1 : Int) := IntWalk.i64_in _ (by omega)
  have ht1 : (x : Int).toNat = x := by omega
  have ht2 : (x1 : Int).toNat = x1 := by omega
  have hg0 : (0 : Int) ≤ (x : Int) := by omega
  have hg2 : (0 : Int) ≤ (x1 : Int) := by omega
  have hg3 : (x : Int) < (L : Int) := by omega
  have hg4 : (x1 : Int) < (L : Int) := by omega
  clear hq hcs ha hb hx hx1 hc hg1
  go_enter Tryd.func44, Tryd.ntmps44
  go_wp2
  generalize World.alloc w _ = W at *
  go_quiet ((go_at_call 37; exact Calls.quiet_of_same (H _)))
  go_wp2
  go_ret
  exact ⟨rfl, hA1.next (Below.drewN0 _ _)⟩

/-- The row below a digest of row h lies there. -/
def Under (w : World) (l : List ByteArray) (B : Option Addr) (m h : Nat) : Prop := ∀ h', h = h' + 1 → ∃ g u, B = some ⟨g, 0, none⟩ ∧ h' < m ∧ m ≤ 1000 ∧ w.cell? ⟨g, h', none⟩ = some u ∧ RowAt w u (rowH l h')
theorem under_any (l : List ByteArray) (d : Nat) (hd : l.length = 2 ^ d) (hd10 : d ≤ 10) (hs : ∀ s ∈ l, s.size ≤ 140737488351232) (A B : Option Addr) (c m c' h j : Nat) (hh : h ≤ d) (hj : j < 2 ^ (d - h)) (q : ByteArray) (hq : undT l h j = q.data.toList) (w : World) (hA : Sl w A (strsV l)) (hu : Under w l B m h) :
    Calls Tryd.prog 44 #[.agg #[.slice A l.length c, .slice B m c'], .int .i64 (h : Int), .int .i64 (j : Int)] w fun e w' => e = .returned (.string q) ∧ Below w.heap.size w w' := by
  cases h with
  | zero => exact under_zero l A B c m c' j (by rw [hd]; simpa using hj) hs q hq w hA
  | succ h =>
    obtain ⟨g, u, rfl, hm, hm2, hc, hrow⟩ := hu h rfl
    have h2 : 2 ^ (d - h) = 2 * 2 ^ (d - (h + 1)) := by rw [← Nat.pow_succ']; congr 1; omega
    have hlen := rowH_length l hd (k := h) (by omega)
    have h3 : 2 ^ (d - h) ≤ 2 ^ 10 := Nat.pow_le_pow_right (by omega) (by omega)
    have e1 := List.getElem?_eq_getElem (l := rowH l h) (i := 2 * j) (by omega)
    have e2 := List.getElem?_eq_getElem (l := rowH l h) (i := 2 * j + 1) (by omega)
    refine under_succ A l.length c g m c' h j hm hm2 u _ (by omega) _ _ e1 e2 (rowH_le l hd (by omega) e1) (rowH_le l hd (by omega) e2) q ?_ w hc hrow
    rw [← hq, undT, rowH_get l e1, rowH_get l e2]

/-! ### root -/
/-- The rows 0 to d of a row of texts, in a slice of slices. -/
def DigsAt (w : World) (v : Value) (d : Nat) (l : List ByteArray) : Prop := ∃ g c, v = .slice (some ⟨g, 0, none⟩) (d + 1) c ∧ g < w.heap.size ∧ ∀ q, q ≤ d → ∃ u, w.cell? ⟨g, q, none⟩ = some u ∧ RowAt w u (rowH l q)
theorem DigsAt.keep {w w' : World} {v : Value} {d : Nat} {l : List ByteArray} (h : DigsAt w v d l) (hb : Below w.heap.size w w') : DigsAt w' v d l := by
  obtain ⟨g, c, rfl, hg, hq⟩ := h
  refine ⟨g, c, rfl, Nat.lt_of_lt_of_le hg hb.size, fun q hqd => ?_⟩
  obtain ⟨u, h1, h2⟩ := hq q hqd
  exact ⟨u, (hb.cell (p := ⟨g, q, none⟩) hg).trans h1, h2.keep hb⟩
theorem root_any (l : List ByteArray) (d : Nat) (hd : l.length = 2 ^ d) (hd10 : d ≤ 10) (A : Option Addr) (n c : Nat) (v : Value) (r : ByteArray) (hr : toB (rootL sumH (txtsL l) d) = r) (w : World) (hv : DigsAt w v d l) :
    Calls Tryd.prog 30 #[.agg #[.slice A n c, v]] w fun e w' => e = .returned (.string r) ∧ Below w.heap.size w w' := by
  obtain ⟨g, c1, rfl, hg, hq⟩ := hv
  obtain ⟨u, hu, g1, c2, rfl, hg1, hc⟩ := hq d (Nat.le_refl _)
  have hlen := rowH_length l hd (Nat.le_refl d)
  rw [Nat.sub_self, Nat.pow_zero] at hlen
  have e1 := List.getElem?_eq_getElem (l := rowH l d) (i := 0) (by omega)
  have hx : (rowH l d)[0]'(by omega) = r := by
    have h1 := rowH_get l e1
    rw [← hr, rootL, h1, toB_eq]
  rw [hx] at e1
  have hA1 := Below.alloc0 w (.cells #[.slice A n c, .slice (some ⟨g, 0, none⟩) (d + 1) c1] 44)
  have hca := (hA1.cell (p := ⟨g, d, none⟩) hg).trans hu
  have hcb := (hA1.cell (p := ⟨g1, 0, none⟩) hg1).trans (hc _ _ e1)
  rw [hlen] at hca
  have hd1 : ((d + 1 : Nat) : Int) - 1 = (d : Int) := by omega
  have hdI : (d : Int) < ((d + 1 : Nat) : Int) := by omega
  clear hq hc e1 hx hr hlen hu
  have hm1 : d + 1 ≤ 1000 := by omega
  clear hd hd10 hg hg1
  generalize d + 1 = m at *
  go_enter Tryd.func30, Tryd.ntmps30
  go_wp2
  go_ret
  exact ⟨rfl, hA1⟩
theorem DigsAt.under {w : World} {v : Value} {d : Nat} {l : List ByteArray} (h : DigsAt w v d l) (hd10 : d ≤ 10) : ∃ g c, v = .slice (some ⟨g, 0, none⟩) (d + 1) c ∧ g < w.heap.size ∧ ∀ q, q ≤ d → Under w l (some ⟨g, 0, none⟩) (d + 1) q := by
  obtain ⟨g, c, rfl, hg, hq⟩ := h
  refine ⟨g, c, rfl, hg, fun q hqd h' hh => ?_⟩
  obtain ⟨u, h1, h2⟩ := hq h' (by omega)
  exact ⟨g, u, rfl, by omega, by omega, h1, h2⟩
end Go.Proofs.YtgcohoonhklkbaaDoor

/-
  tree: the contract of add (a method of rows).
-/
namespace Go.Proofs.YtgcohoonhklkbaaDoor
open Go.RowKit Go.Kx Go.Trm
set_option maxRecDepth 20000

/-- A row that is being made: its first j digests are there. -/
def madeV (row : List ByteArray) (j i : Nat) : Value := .string (if i < j then row.getD i ⟨#[]⟩ else ⟨#[]⟩)
theorem madeV_set (row : List ByteArray) (j : Nat) (z : ByteArray) (hz : row[j]? = some z) (i : Nat) : (if i = j then Value.string z else madeV row j i) = madeV row (j + 1) i := by
  unfold madeV
  by_cases h : i = j
  · subst h
    rw [if_pos rfl, if_pos (by omega), List.getD, hz]
    rfl
  · rw [if_neg h]
    by_cases h2 : i < j
    · rw [if_pos h2, if_pos (by omega)]
    · rw [if_neg h2, if_neg (by omega)]
theorem madeV_at {row : List ByteArray} {j : Nat} {x : ByteArray} (h : row[j]? = some x) : madeV row row.length j = .string x := by
  unfold madeV
  rw [if_pos (List.getElem?_eq_some_iff.1 h).1, List.getD, h]
  rfl
theorem own_other {V W : World} {B b : Nat} {e : TypeId} {sz : Nat} {v : Value} {n : Nat} {xs : List Value} (h : V.ownsRow B e sz v n xs) (hh : V.grownBy W (some b)) (hB : b < B) : W.ownsRow B e sz v n xs := by
  refine h.kept hh ?_
  cases ho : v.ownBlock with
  | none => exact .inl rfl
  | some k =>
    right
    intro e
    cases e
    have := (h.lt _ ho).1
    omega
theorem grownCell (w : World) (a : Addr) (u : Value) : w.grownBy (w.setCell a u) (some a.block) :=
  ⟨rfl, rfl, rfl, by simp, fun k _ hne => Below.heap_setCell _ _ _ k (fun e => hne (by rw [e]))⟩
/-- A store into another block leaves a row. -/
theorem RowAt.set {w : World} {v : Value} {row : List ByteArray} (h : RowAt w v row) (h0 : 0 < row.length) {R o : Nat} {a : Option Addr} {n c : Nat} (hR : w.cell? ⟨R, 0, none⟩ = some (.slice a n c)) (x : Value) : RowAt (w.setCell ⟨R, o, none⟩ x) v row := by
  obtain ⟨g, c1, rfl, hg, hc⟩ := h
  have hne : g ≠ R := by
    rintro rfl
    have h1 := hc 0 row[0] (List.getElem?_eq_getElem h0)
    rw [hR] at h1
    simp at h1
  exact ⟨g, c1, rfl, by simp [hg], fun j y hy => (World.cell?_setCell_other _ _ _ _ (fun e => hne (by cases e; rfl))).trans (hc j y hy)⟩
set_option maxHeartbeats 4000000 in
theorem rowsAdd_any (HD : DSumH) (l : List ByteArray) (d : Nat) (hd : l.length = 2 ^ d) (hd10 : d ≤ 10) (hs : ∀ s ∈ l, s.size ≤ 140737488351232) (A : Option Addr) (c R k size : Nat) (hk : k ≤ d) (hsz : 2 ^ (d - k) = size) (v : Value) (vs : List Value) (W : World)
    (hA : ∀ V, Below W.heap.size W V → Sl V A (strsV l)) (hK : ∀ V, Below W.heap.size W V → Consts V) (hL : W.heap[R]? = some (.cells #[.slice A l.length c, v] 44)) (hown : W.ownsRow (R + 1) 22 1 v k vs) (hdig : DigsV W vs l) :
    Calls Tryd.prog 51 #[.pointer (some ⟨R, 0, none⟩), .int .i64 (size : Int)] W fun e W' => (∃ u, e = .returned u) ∧
      ∃ v' vs', W'.heap[R]? = some (.cells #[.slice A l.length c, v'] 44) ∧ W'.ownsRow (R + 1) 22 1 v' (k + 1) vs' ∧ DigsV W' vs' l ∧ Below R W W' := by
  obtain ⟨B, c', rfl, -⟩ := own_sl hown
  have hlen := rowH_length l hd hk
  rw [hsz] at hlen
  have hs0 : 0 < size := by rw [← hsz]; exact Nat.two_pow_pos _
  have hs9 : size ≤ 1024 := by rw [← hsz]; have : 2 ^ (d - k) ≤ 2 ^ 10 := Nat.pow_le_pow_right (by omega) (by omega); omega
  have hRW := (Array.getElem?_eq_some_iff.1 hL).1
  have HK := Lib.hid hK
  have HUND : Hid (∀ j q, j < size → undT l k j = q.data.toList → ∀ V, Below W.heap.size W V → Calls Tryd.prog 44 #[.agg #[.slice A l.length c, .slice B k c'], .int .i64 (k : Int), .int .i64 (j : Int)] V fun e w' => e = .returned (.string q) ∧ Below V.heap.size V w') := Lib.hid fun j q hj hq V hV => by
    refine under_any l d hd hd10 hs A B c k c' k j hk (by rw [hsz]; exact hj) q hq V (hA V hV) fun h' hh => ?_
    obtain ⟨g, c1, e, hg, hvl, hcl⟩ := own_vals hown (by omega)
    obtain rfl : B = some ⟨g, 0, none⟩ := by injection e
    have e1 := List.getElem?_eq_getElem (l := vs) (i := h') (by omega)
    exact ⟨g, _, rfl, by omega, by omega, (hV.cell (p := ⟨g, h', none⟩) hg).trans (hcl _ _ e1), (hdig _ _ e1).keep hV⟩
  have HROW : Hid (∀ j, j < size → ∃ q z : ByteArray, undT l k j = q.data.toList ∧ q.size ≤ 140737488355328 ∧ sumH q.data.toList = z.data.toList ∧ (rowH l k)[j]? = some z) := Lib.hid fun j hj => by
    have h1 := undT_row l hd hk (j := j) (by rw [hsz]; exact hj)
    refine ⟨toB (undT l k j), _, (toB_list _).symm, ?_, ?_, h1⟩
    · rw [toB_size]
      cases k with
      | zero =>
        have hjl : j < l.length := by rw [hd]; rw [Nat.sub_zero] at hsz; omega
        rw [undT, txtsL_get l hjl]
        have := hs _ (List.getElem_mem hjl)
        have e3 : l[j].data.toList.length = l[j].size := by simp
        simp only [ofLeafL, List.length_cons]
        omega
      | succ k =>
        have h2 : 2 ^ (d - k) = 2 * 2 ^ (d - (k + 1)) := by rw [← Nat.pow_succ']; congr 1; omega
        have hlen := rowH_length l hd (k := k) (by omega)
        have e1 := List.getElem?_eq_getElem (l := rowH l k) (i := 2 * j) (by omega)
        have e2 := List.getElem?_eq_getElem (l := rowH l k) (i := 2 * j + 1) (by omega)
        have g1 := rowH_le l hd (by omega) e1
        have g2 := rowH_le l hd (by omega) e2
        rw [undT, rowH_get l e1, rowH_get l e2]
        have e3 : ((rowH l k)[2 * j]'(by omega)).data.toList.length = ((rowH l k)[2 * j]'(by omega)).size := by simp
        have e4 : ((rowH l k)[2 * j + 1]'(by omega)).data.toList.length = ((rowH l k)[2 * j + 1]'(by omega)).size := by simp
        simp only [ofNodeL, List.length_cons, List.length_append]
        omega
    · rw [toB_list, toB_list]
  have HDIG := Lib.hid hdig
  have HDS := Lib.hid HD
  obtain ⟨j0, hJ0, hy0, hy1, hy2⟩ := info_parts texts_info
  have hmk := run_make_row' (P := Tryd.prog) 22 9 (.string ⟨#[]⟩) 16 Tryd.underlying22 string_info rfl .i64 .i64 size (by omega) (by omega)
  have HLEN := Lib.hid hlen
  have HPOS : Hid (∀ i, i ≤ k → 0 < (rowH l i).length) := Lib.hid fun i hi => by rw [rowH_length l hd (by omega)]; exact Nat.two_pow_pos _
  have hl1 : l.length ≤ 1024 := by rw [hd]; have : 2 ^ d ≤ 2 ^ 10 := Nat.pow_le_pow_right (by omega) hd10; omega
  clear HD hs hA hK hdig hd hsz hlen
  obtain ⟨row, hrow⟩ : ∃ row, rowH l k = row := ⟨_, rfl⟩
  rw [hrow] at HLEN HROW
  have HRW := Lib.hid hrow
  clear hrow
  generalize l.length = n at *
  have hr0 := World.rowIs_made W (.string ⟨#[]⟩) size 9
  replace hr0 := hr0.congr (g := madeV row 0) (fun i _ => by simp [madeV])
  have hb0 := Below.alloc0 W (.cells (madeCells #[.string ⟨#[]⟩] size) 9)
  go_enter Tryd.func51, Tryd.ntmps51
  go_wp2
  generalize World.alloc W _ = W1 at *
  go_loopw [10] (fun i wr => ∃ j : Nat, i = .int .i64 (j : Int) ∧ j ≤ size ∧ wr.rowIs W.heap.size 9 size (madeV row j) ∧ Below W.heap.size W wr) (fun i _ => size - (intOf i).toNat)
  case atStart => exact ⟨0, rfl, by omega, hr0, hb0⟩
  case round =>
    clear hr0 hb0
    obtain ⟨j, rfl, hj, hr, hb⟩ := hrel
    have hLr : wr.heap[R]? = some (.cells #[.slice A n c, .slice B k c'] 44) := (hb.block R hRW).trans hL
    by_cases hlt : j < size
    · obtain ⟨q, z, hq, hqz, hz, hrz⟩ := HROW.out j hlt
      have hund := HUND.out j q hlt hq wr.drew (hb.drew)
      have HDS := Lib.hid (HDS.out q z hqz hz)
      have HSET := Lib.hid (madeV_set row j z hrz)
      have hc0 : wr.cell? ⟨R, 0, none⟩ = some (.slice A n c) := by rw [cell_of_row _ _ _ _ _ _ hLr]; rfl
      have hc1 : wr.cell? ⟨R, 1, none⟩ = some (.slice B k c') := by rw [cell_of_row _ _ _ _ _ _ hLr]; rfl
      have hRV : R < wr.drew.heap.size := (Array.getElem?_eq_some_iff.1 hLr).1
      clear hq hqz hz hrz hLr
      have hjI : (j : Int) < (size : Int) := by omega
      go_wp2_with fail
      refine Uptot.begin_ [] (fun w' => w'.cell? ⟨R, 0, none⟩ = some (.slice A n c) ∧ w'.cell? ⟨R, 1, none⟩ = some (.slice B k c')) (fun _ => True) (by kernel_rfl) ?_
      have hST : (wr.drew.cell? ⟨R, 0, none⟩ = some (.slice A n c) ∧ wr.drew.cell? ⟨R, 1, none⟩ = some (.slice B k c')) ∧ True := ⟨⟨hc0, hc1⟩, trivial⟩
      have hrD := hr.drew
      have hbD := hb.drew
      clear hc0 hc1 hr hb
      generalize wr.drew = V2 at *
      refine Uptot.takeS (i := 0) (v := ?_) rfl (by kernel_rfl) (by kernel_rfl) (by kernel_rfl) (by kernel_rfl) (fun _ _ _ h => h) (Or.inl ⟨by rfl, ?_⟩) hST ?_
      rotate_left 1
      · intro w9 hSw; (try dsimp only at hSw); obtain ⟨h91, h92⟩ := hSw; go_simp; (try with_reducible rfl)
      try simp only [Act.put, List.setIfInBounds_toArray, List.set_cons_zero, List.set_cons_succ]
      refine Uptot.takeS (i := 1) (v := ?_) rfl (by kernel_rfl) (by kernel_rfl) (by kernel_rfl) (by kernel_rfl) (fun _ _ _ h => h) (Or.inl ⟨by rfl, ?_⟩) hST ?_
      rotate_left 1
      · intro w9 hSw; (try dsimp only at hSw); obtain ⟨h91, h92⟩ := hSw; go_simp; (try with_reducible rfl)
      try simp only [Act.put, List.setIfInBounds_toArray, List.set_cons_zero, List.set_cons_succ]
      refine Uptot.takeS (i := 2) (v := ?_) rfl (by kernel_rfl) (by kernel_rfl) (by kernel_rfl) (by kernel_rfl) (fun _ _ _ h => h) (Or.inl ⟨by rfl, ?_⟩) hST ?_
      rotate_left 1
      · intro w9 hSw; (try dsimp only at hSw); obtain ⟨h91, h92⟩ := hSw; go_simp; (try with_reducible rfl)
      try simp only [Act.put, List.setIfInBounds_toArray, List.set_cons_zero, List.set_cons_succ]
      refine Uptot.takeS (i := 3) (v := ?_) rfl (by kernel_rfl) (by kernel_rfl) (by kernel_rfl) (by kernel_rfl) (fun _ _ _ h => h) (Or.inl ⟨by rfl, ?_⟩) hST ?_
      rotate_left 1
      · intro w9 hSw; (try dsimp only at hSw); obtain ⟨h91, h92⟩ := hSw; go_simp; (try with_reducible rfl)
      try simp only [Act.put, List.setIfInBounds_toArray, List.set_cons_zero, List.set_cons_succ]
      refine Uptot.takeS (i := 4) (v := ?_) rfl (by kernel_rfl) (by kernel_rfl) (by kernel_rfl) (by kernel_rfl) (fun _ _ _ h => h) (Or.inl ⟨by rfl, ?_⟩) hST ?_
      rotate_left 1
      · intro w9 hSw; (try dsimp only at hSw); obtain ⟨h91, h92⟩ := hSw; go_simp; (try with_reducible rfl)
      try simp only [Act.put, List.setIfInBounds_toArray, List.set_cons_zero, List.set_cons_succ]
      refine Uptot.takeS (i := 5) (v := ?_) rfl (by kernel_rfl) (by kernel_rfl) (by kernel_rfl) (by kernel_rfl) (fun _ _ _ h => h) (Or.inl ⟨by rfl, ?_⟩) hST ?_
      rotate_left 1
      · intro w9 hSw; (try dsimp only at hSw); obtain ⟨h91, h92⟩ := hSw; go_simp; (try with_reducible rfl)
      try simp only [Act.put, List.setIfInBounds_toArray, List.set_cons_zero, List.set_cons_succ]
      refine Uptot.takeS (i := 6) (v := ?_) rfl (by kernel_rfl) (by kernel_rfl) (by kernel_rfl) (by kernel_rfl) (fun _ _ _ h => h) (Or.inl ⟨by rfl, ?_⟩) hST ?_
      rotate_left 1
      · intro w9 hSw; (try dsimp only at hSw); obtain ⟨h91, h92⟩ := hSw; go_simp; (try with_reducible rfl)
      try simp only [Act.put, List.setIfInBounds_toArray, List.set_cons_zero, List.set_cons_succ]
      refine Uptot.takeS (i := 7) (v := ?_) rfl (by kernel_rfl) (by kernel_rfl) (by kernel_rfl) (by kernel_rfl) (fun _ _ _ h => h) (Or.inl ⟨by rfl, ?_⟩) hST ?_
      rotate_left 1
      · intro w9 hSw; (try dsimp only at hSw); obtain ⟨h91, h92⟩ := hSw; go_simp; (try with_reducible rfl)
      try simp only [Act.put, List.setIfInBounds_toArray, List.set_cons_zero, List.set_cons_succ]
      refine Uptot.takeS (i := 8) (v := ?_) rfl (by kernel_rfl) (by kernel_rfl) (by kernel_rfl) (by kernel_rfl) (fun _ _ _ h => h) (Or.inl ⟨by rfl, ?_⟩) hST ?_
      rotate_left 1
      · intro w9 hSw; (try dsimp only at hSw); obtain ⟨h91, h92⟩ := hSw; go_simp; (try with_reducible rfl)
      try simp only [Act.put, List.setIfInBounds_toArray, List.set_cons_zero, List.set_cons_succ]
      refine Uptot.takeS (i := 9) (v := ?_) rfl (by kernel_rfl) (by kernel_rfl) (by kernel_rfl) (by kernel_rfl) (fun _ _ _ h => h) (Or.inl ⟨by rfl, ?_⟩) hST ?_
      rotate_left 1
      · intro w9 hSw; (try dsimp only at hSw); obtain ⟨h91, h92⟩ := hSw; go_simp; (try with_reducible rfl)
      try simp only [Act.put, List.setIfInBounds_toArray, List.set_cons_zero, List.set_cons_succ]
      refine Uptot.takeS (i := 10) (v := ?_) rfl (by kernel_rfl) (by kernel_rfl) (by kernel_rfl) (by kernel_rfl) (fun _ _ _ h => h) (Or.inl ⟨by rfl, ?_⟩) hST ?_
      rotate_left 1
      · intro w9 hSw; (try dsimp only at hSw); obtain ⟨h91, h92⟩ := hSw; go_simp; (try with_reducible rfl)
      try simp only [Act.put, List.setIfInBounds_toArray, List.set_cons_zero, List.set_cons_succ]
      refine Uptot.one (i := 11) rfl (by kernel_rfl) (fun K hK9 => ?_)
      go_simp
      go_at_call 44
      refine (hund.mono ?_)
      rintro e w3 ⟨rfl, hs3⟩
      replace hST : (w3.cell? ⟨R, 0, none⟩ = some (.slice A n c) ∧ w3.cell? ⟨R, 1, none⟩ = some (.slice B k c')) ∧ True := ⟨⟨(hs3.cell (p := ⟨R, 0, none⟩) hRV).trans hST.1.1, (hs3.cell (p := ⟨R, 1, none⟩) hRV).trans hST.1.2⟩, trivial⟩
      have hr3 := rowIs_keep hrD hs3
      have hb3 := hbD.next' hs3 (by have := hbD.size; omega)
      have hR3 : R < w3.heap.size := Nat.lt_of_lt_of_le hRV hs3.size
      clear hund hrD hbD hs3
      refine hK9.out _ _ (Cond.ahead hST) ?_
      clear hK9 K
      try simp only [Act.put, List.setIfInBounds_toArray, List.set_cons_zero, List.set_cons_succ]
      refine Uptot.one (i := 12) rfl (by kernel_rfl) (fun K hK9 => ?_)
      go_simp
      go_at_call 27
      refine (HDS.out _ (HK.out _ hb3)).mono ?_
      rintro e w4 ⟨rfl, hs4⟩
      replace hST : (w4.cell? ⟨R, 0, none⟩ = some (.slice A n c) ∧ w4.cell? ⟨R, 1, none⟩ = some (.slice B k c')) ∧ True := ⟨⟨(hs4.cell (p := ⟨R, 0, none⟩) hR3).trans hST.1.1, (hs4.cell (p := ⟨R, 1, none⟩) hR3).trans hST.1.2⟩, trivial⟩
      have hr4 := rowIs_keep hr3 hs4
      have hb4 := hb3.next' hs4 (by have := hb3.size; omega)
      have hc4 := hr4.cell hlt
      have hf4 := hr4.frozen j
      clear hr3 hb3 hs4
      refine hK9.out _ _ (Cond.ahead hST) ?_
      clear hK9 K
      try simp only [Act.put, List.setIfInBounds_toArray, List.set_cons_zero, List.set_cons_succ]
      refine Uptot.one (i := 13) rfl (by kernel_rfl) (fun K hK9 => ?_)
      go_simp
      refine hK9.out _ _ (Cond.ahead hST) ?_
      clear hK9 K
      try simp only [Act.put, List.setIfInBounds_toArray, List.set_cons_zero, List.set_cons_succ]
      refine Uptot.one (i := 14) rfl (by kernel_rfl) (fun K hK9 => ?_)
      go_simp
      replace hST : ((w4.setCell ⟨W.heap.size, j, none⟩ (.string z)).cell? ⟨R, 0, none⟩ = some (.slice A n c) ∧ (w4.setCell ⟨W.heap.size, j, none⟩ (.string z)).cell? ⟨R, 1, none⟩ = some (.slice B k c')) ∧ True := ⟨⟨(World.cell?_setCell_other _ _ _ _ (by simp <;> omega)).trans hST.1.1, (World.cell?_setCell_other _ _ _ _ (by simp <;> omega)).trans hST.1.2⟩, trivial⟩
      replace hr4 := (hr4.set j (.string z)).congr (g := madeV row (j + 1)) (fun i _ => HSET.out i)
      replace hb4 := hb4.setCell (p := ⟨W.heap.size, j, none⟩) (by simp) (.string z)
      refine hK9.out _ _ (Cond.ahead hST) ?_
      clear hK9 K
      try simp only [Act.put, List.setIfInBounds_toArray, List.set_cons_zero, List.set_cons_succ]
      refine Uptot.done (by kernel_rfl) ?_ _
      clear hST
      have hLV := hb4.size
      go_wp2
      go_roundw
      case rel => exact ⟨j + 1, by go_num, by omega, hr4, hb4⟩
      case measure => simp [intOf]; omega
    · obtain rfl : j = size := by omega
      rw [← HLEN.out] at hr
      have hrow : RowAt wr (.slice (some ⟨W.heap.size, 0, none⟩) j j) row := ⟨W.heap.size, j, by rw [HLEN.out], hr.lt, fun i x hx => by
        have h1 := (List.getElem?_eq_some_iff.1 hx).1
        rw [hr.cell h1]
        exact congrArg some (madeV_at hx)⟩
      have hown1 := own_keep hown hb
      have hdig1 := HDIG.out.keep hb
      have hc0 : wr.cell? ⟨R, 0, none⟩ = some (.slice A n c) := by rw [cell_of_row _ _ _ _ _ _ hLr]; rfl
      have hc1 : wr.cell? ⟨R, 1, none⟩ = some (.slice B k c') := by rw [cell_of_row _ _ _ _ _ _ hLr]; rfl
      clear hr
      go_wp2_with (first
        | (at_builtin; refine wpList_append_own _ rfl _ _ 42 rfl (R + 1) 22 j0 (.slice none 0 0) 1 24 Tryd.underlying42 hJ0 hy0 hy1 hy2 rfl (by decide) _ _ _ rfl (hown1.alloc _) ⟨wr.heap.size, 0, none⟩ 1 1 [.slice (some ⟨W.heap.size, 0, none⟩) j j] rfl rfl ?c1 ?c2 ?c3 ?c4 ?c5 ?_)
        | go_in)
      case c1 =>
        intro i u hi
        match i, hi with
        | 0, hi => simp at hi; subst hi; simp [Addr.add]
      case c2 => intro u hu; simp at hu; subst hu; rfl
      case c3 => unfold maxLen; omega
      case c4 => omega
      case c5 => have := hb.size; simp; omega
      intro v' w4 hown' hgrow _
      have hne : ∀ b, (Value.slice B k c').ownBlock = some b → R + 1 ≤ b ∧ b < W.heap.size := fun b e => hown.lt b e
      have hWr := hb.size
      have hL4 := (hgrow.block R (by simp; omega) (fun e => by have := (hne _ e.symm).1; omega)).trans ((Below.heap_alloc wr (.cells #[.slice (some ⟨W.heap.size, 0, none⟩) j j] 22) R (by omega)).trans hLr)
      have hb4 : Below (R + 1) W w4 := ((hb.mono hRW).alloc (by omega) (.cells #[.slice (some ⟨W.heap.size, 0, none⟩) j j] 22)).grown hgrow (by simp; omega) (fun b e => (hne b e).1)
      have hpos : ∀ i, i ≤ k → 0 < (rowH l i).length := HPOS.out
      have hrow4 : RowAt w4 (.slice (some ⟨W.heap.size, 0, none⟩) j j) row := by
        obtain ⟨g, c5, e5, hg5, hc5⟩ := hrow.keep (Below.alloc0 wr (.cells #[.slice (some ⟨W.heap.size, 0, none⟩) j j] 22))
        obtain rfl : W.heap.size = g := by simp at e5; exact e5.1
        refine ⟨_, c5, e5, Nat.lt_of_lt_of_le hg5 hgrow.size, fun i x hx => ?_⟩
        rw [World.grownBy.cell_far hgrow ⟨W.heap.size, i, none⟩ hg5 (fun e => absurd (hne _ e.symm).2 (Nat.lt_irrefl _))]
        exact hc5 i x hx
      have hvl : vs.length = k := by have := hown.1; simpa using this
      have hdig4 : DigsV w4 (vs ++ [.slice (some ⟨W.heap.size, 0, none⟩) j j]) l := fun i u hu => by
        by_cases hik : i < vs.length
        · rw [List.getElem?_append_left hik] at hu
          have h5 := (hdig1.keep (Below.alloc0 wr (.cells #[.slice (some ⟨W.heap.size, 0, none⟩) j j] 22))) i u hu
          refine h5.grown (hpos i (by omega)) (hown1.alloc _) (fun x hx => ?_) (by omega) hgrow
          obtain ⟨i2, hi2, rfl⟩ := List.getElem_of_mem hx
          obtain ⟨g, c, e, _⟩ := HDIG.out i2 _ (List.getElem?_eq_getElem hi2)
          exact ⟨_, _, _, e⟩
        · have hi3 := (List.getElem?_eq_some_iff.1 hu).1
          simp only [List.length_append, List.length_singleton] at hi3
          obtain rfl : i = k := by omega
          rw [List.getElem?_append_right (by omega), hvl, Nat.sub_self] at hu
          obtain rfl := Option.some.inj hu
          rw [HRW.out]
          exact hrow4
      obtain ⟨A1, c1, rfl, -⟩ := own_sl hown'
      have hc40 : w4.cell? ⟨R, 0, none⟩ = some (.slice A n c) := by rw [cell_of_row _ _ _ _ _ _ hL4]; rfl
      have hc41 : w4.cell? ⟨R, 1, none⟩ = some (.slice B k c') := by rw [cell_of_row _ _ _ _ _ _ hL4]; rfl
      have hf41 : w4.frozen? ⟨R, 1, none⟩ = false := by unfold World.frozen?; rw [hL4]; simp
      clear hown1 hdig1 hgrow hrow hrow4 hb hLr hc0 hc1 hne hL hown
      go_wp2
      go_end0
      refine ⟨⟨_, rfl⟩, _, _, (heap_setCell_same w4 R 1 _ _ _ hL4).trans rfl, own_other hown' (grownCell w4 ⟨R, 1, none⟩ _) (by simp), fun i u hu => ?_, (hb4.mono (by omega)).setCell (p := ⟨R, 1, none⟩) (by simp) _⟩
      have hi3 := (List.getElem?_eq_some_iff.1 hu).1
      simp only [List.length_append, List.length_singleton] at hi3
      exact (hdig4 i u hu).set (hpos i (by omega)) hc40 _
end Go.Proofs.YtgcohoonhklkbaaDoor

/-
  tree: the contract of over.
-/
namespace Go.Proofs.YtgcohoonhklkbaaDoor
open Go.RowKit Go.Kx Go.Trm
set_option maxRecDepth 20000

theorem treeRows_info : (Tryd.prog.info? 44).map (·.size) = some 2 := by kernel_rfl
theorem DigsAt.of {w : World} {B : Nat} {v : Value} {d : Nat} {vs : List Value} {l : List ByteArray} (hown : w.ownsRow B 22 1 v (d + 1) vs) (h : DigsV w vs l) : DigsAt w v d l := by
  obtain ⟨g, c, rfl, hg, hl, hc⟩ := own_vals hown (by omega)
  refine ⟨g, c, rfl, hg, fun q hq => ?_⟩
  have e := List.getElem?_eq_getElem (l := vs) (i := q) (by omega)
  exact ⟨_, hc q _ e, h q _ e⟩
/-- What over tells. -/
def OverP (l : List ByteArray) (A : Option Addr) (n c d : Nat) (W : World) (e : Ending) (W' : World) : Prop :=
  ∃ v, e = .returned (.agg #[.slice A n c, v]) ∧ DigsAt W' v d l ∧ Below W.heap.size W W'
theorem pow_half (d k : Nat) (hk : k ≤ d) : 2 ^ d / 2 ^ k = 2 ^ (d - k) := Nat.pow_div hk (by omega)
set_option maxHeartbeats 4000000 in
theorem over_any (HD : DSumH) (l : List ByteArray) (d : Nat) (hd : l.length = 2 ^ d) (hd10 : d ≤ 10) (hs : ∀ s ∈ l, s.size ≤ 140737488351232) (A : Option Addr) (c : Nat) (w : World) (hA : Sl w A (strsV l)) (hK : Consts w) :
    Calls Tryd.prog 29 #[.slice A l.length c] w fun e w' => OverP l A l.length c d w e w' := by
  have HADD : Hid (∀ (k x : Nat) (v : Value) (vs : List Value) (V : World), k ≤ d → 2 ^ (d - k) = x → Below w.heap.size w V → V.heap[w.heap.size + 1]? = some (.cells #[.slice A l.length c, v] 44) → V.ownsRow (w.heap.size + 1 + 1) 22 1 v k vs → DigsV V vs l →
      Calls Tryd.prog 51 #[.pointer (some ⟨w.heap.size + 1, 0, none⟩), .int .i64 (x : Int)] V fun e W' => (∃ u, e = .returned u) ∧
      ∃ v' vs', W'.heap[w.heap.size + 1]? = some (.cells #[.slice A l.length c, v'] 44) ∧ W'.ownsRow (w.heap.size + 1 + 1) 22 1 v' (k + 1) vs' ∧ DigsV W' vs' l ∧ Below (w.heap.size + 1) V W') := Lib.hid fun k x v vs V hk hx hb hL hown hdig =>
    rowsAdd_any HD l d hd hd10 hs A c (w.heap.size + 1) k x hk hx v vs V (fun U hU => hA.keep (hb.next hU)) (fun U hU => hK.keep (hb.next hU)) hL hown hdig
  have hn1 : l.length ≤ 1024 := by rw [hd]; have : 2 ^ d ≤ 2 ^ 10 := Nat.pow_le_pow_right (by omega) hd10; omega
  have HPOS : Hid (∀ i, i ≤ d → 0 < (rowH l i).length) := Lib.hid fun i hi => by rw [rowH_length l hd hi]; exact Nat.two_pow_pos _
  have HSZ : Hid (l.length = 2 ^ d / 2 ^ 0) := Lib.hid (by rw [hd]; simp)
  clear hd hs hA hK HD
  generalize l.length = n at *
  go_enter Tryd.func29, Tryd.ntmps29
  go_wp2
  have hb0 : Below w.heap.size w ((w.alloc (.cells #[.slice none 0 0, .slice none 0 0] 44)).alloc (.cells #[.slice A n c, .slice none 0 0] 44)) := (Below.alloc0 w _).alloc (by simp) _
  have hN0 : ((w.alloc (.cells #[.slice none 0 0, .slice none 0 0] 44)).alloc (.cells #[.slice A n c, .slice none 0 0] 44)).heap[w.heap.size]? = some (.cells #[.slice none 0 0, .slice none 0 0] 44) :=
    (Below.heap_alloc _ _ _ (by simp)).trans (heap_alloc_new w _)
  have hR0 : ((w.alloc (.cells #[.slice none 0 0, .slice none 0 0] 44)).alloc (.cells #[.slice A n c, .slice none 0 0] 44)).heap[w.heap.size + 1]? = some (.cells #[.slice A n c, .slice none 0 0] 44) := by
    have h := heap_alloc_new (w.alloc (.cells #[.slice none 0 0, .slice none 0 0] 44)) (.cells #[.slice A n c, .slice none 0 0] 44)
    rwa [World.size_alloc] at h
  generalize ((w.alloc _).alloc _) = W0 at *
  go_loopw [4] (fun s wr => ∃ (k x : Nat) (v : Value) (vs : List Value), s = .int .i64 (x : Int) ∧ Hid (x = 2 ^ d / 2 ^ k) ∧ x ≤ 1024 ∧ k ≤ d + 1 ∧ wr.heap[w.heap.size + 1]? = some (.cells #[.slice A n c, v] 44) ∧
    wr.ownsRow (w.heap.size + 1 + 1) 22 1 v k vs ∧ DigsV wr vs l ∧ Below w.heap.size w wr ∧ wr.heap[w.heap.size]? = some (.cells #[.slice none 0 0, .slice none 0 0] 44)) (fun s _ => (intOf s).toNat)
  case atStart => exact ⟨0, n, _, [], rfl, HSZ, hn1, by omega, hR0, World.ownsRow_nil _ _ _ _, (fun k v h => by simp at h), hb0, hN0⟩
  case round =>
    clear hb0 hN0 hR0
    obtain ⟨k, x, v, vs, rfl, hx, hxl, hk, hR, hown, hdig, hb, hN⟩ := hrel
    by_cases hkd : k ≤ d
    · have hx2 : 2 ^ (d - k) = x := by rw [hx.out, pow_half d k hkd]
      have hx0 : 0 < x := by rw [← hx2]; exact Nat.two_pow_pos _
      have hadd := HADD.out k x v vs wr hkd hx2 hb hR hown hdig
      have HX : Hid (x / 2 = 2 ^ d / 2 ^ (k + 1)) := Lib.hid (by rw [hx.out, Nat.div_div_eq_div_mul, Nat.pow_succ])
      have hNl := (Array.getElem?_eq_some_iff.1 hN).1
      clear hx2 hR hown hdig
      go_wp2_with fail
      refine hadd.mono ?_
      rintro e w1 ⟨⟨u, rfl⟩, v1, vs1, hR1, hown1, hdig1, hb1⟩
      have hN1 := (hb1.block w.heap.size (by omega)).trans hN
      have hb2 : Below w.heap.size w w1 := hb.trans (hb1.mono (by omega))
      clear hadd hb hb1 hN
      go_wp2
      go_roundw
      case rel => exact ⟨k + 1, x / 2, v1, vs1, by simp, HX, by omega, by omega, hR1, hown1, hdig1, hb2, hN1⟩
      case measure => simp [intOf]; omega
    · obtain rfl : k = d + 1 := by omega
      obtain rfl : x = 0 := by rw [hx.out]; exact Nat.div_eq_of_lt (by rw [Nat.pow_succ]; have := Nat.two_pow_pos d; omega)
      obtain ⟨B, c', rfl, -⟩ := own_sl hown
      have hc0 : wr.cell? ⟨w.heap.size + 1, 0, none⟩ = some (.slice A n c) := by rw [cell_of_row _ _ _ _ _ _ hR]; rfl
      have hc1 : wr.cell? ⟨w.heap.size + 1, 1, none⟩ = some (.slice B (d + 1) c') := by rw [cell_of_row _ _ _ _ _ _ hR]; rfl
      have hz0 : wr.cell? ⟨w.heap.size, 0, none⟩ = some (.slice none 0 0) := by rw [cell_of_row _ _ _ _ _ _ hN]; rfl
      have hz1 : wr.cell? ⟨w.heap.size, 1, none⟩ = some (.slice none 0 0) := by rw [cell_of_row _ _ _ _ _ _ hN]; rfl
      have hzf : ∀ o, wr.frozen? ⟨w.heap.size, o, none⟩ = false := fun o => by unfold World.frozen?; rw [hN]; simp
      have hzf0 := hzf 0
      have hzf1 := hzf 1
      clear hzf
      have hown2 := own_other (own_other hown (grownCell wr ⟨w.heap.size, 0, none⟩ (.slice A n c)) (by show w.heap.size < _; omega)) (grownCell _ ⟨w.heap.size, 1, none⟩ (.slice B (d + 1) c')) (by show w.heap.size < _; omega)
      have hzs : (wr.setCell ⟨w.heap.size, 0, none⟩ (.slice A n c)).cell? ⟨w.heap.size, 0, none⟩ = some (.slice A n c) := World.cell?_setCell_same' _ _ _ (by rw [hz0]; rfl)
      have hvl : vs.length = d + 1 := by have := hown.1; simpa using this
      have hdig2 : DigsV ((wr.setCell ⟨w.heap.size, 0, none⟩ (.slice A n c)).setCell ⟨w.heap.size, 1, none⟩ (.slice B (d + 1) c')) vs l := fun i u hu => by
        have hi := (List.getElem?_eq_some_iff.1 hu).1
        exact ((hdig i u hu).set (HPOS.out i (by omega)) hz0 _).set (HPOS.out i (by omega)) hzs _
      have hat := DigsAt.of hown2 hdig2
      have hN2 := heap_setCell_same (wr.setCell ⟨w.heap.size, 0, none⟩ (.slice A n c)) w.heap.size 1 _ _ (.slice B (d + 1) c') ((heap_setCell_same wr w.heap.size 0 _ _ (.slice A n c) hN).trans rfl)
      have hbE := (hb.setCell (p := ⟨w.heap.size, 0, none⟩) (by simp) (.slice A n c)).setCell (p := ⟨w.heap.size, 1, none⟩) (by simp) (.slice B (d + 1) c')
      clear hown hdig hown2 hdig2 hR hN hzs hvl
      go_wp2
      exact bodyPost_ret (v := .agg #[.slice A n c, .slice B (d + 1) c']) (results_cell_row rfl _ _ w.heap.size _ _ _ _ rfl (hN2.trans rfl) Tryd.underlying44 rfl treeRows_info) rfl ⟨_, rfl, hat, hbE⟩
end Go.Proofs.YtgcohoonhklkbaaDoor

/-
  tree: the contracts of Root, Path (of any texts).
-/
namespace Go.Proofs.YtgcohoonhklkbaaDoor
open Go.RowKit Go.Kx Go.Trm
set_option maxRecDepth 20000

open Classical in
theorem tmay_yes {n : Nat} (hm : mayN n) (A : Option Addr) (c : Nat) (w : World) :
    Calls Tryd.prog 28 #[.slice A n c] w fun e w' => e = .returned (.bool true) ∧ w = w' := tmay_any n (by have := may_pos hm; omega) A c true (by rw [decide_eq_true hm]) w
open Classical in
theorem tmay_no {n : Nat} (hm : ¬ mayN n) (hn : n ≤ 9223372036854775807) (A : Option Addr) (c : Nat) (w : World) :
    Calls Tryd.prog 28 #[.slice A n c] w fun e w' => e = .returned (.bool false) ∧ w = w' := tmay_any n hn A c false (by rw [decide_eq_false hm]) w
open Classical in
/-- What Root answers. -/
noncomputable def rootH (l : List ByteArray) : ByteArray × Int := if mayN l.length then (toB (rootL sumH (txtsL l) l.length.log2), 0) else (⟨#[]⟩, 1)
theorem rootH_yes {l : List ByteArray} {d : Nat} (hd : l.length = 2 ^ d) (h : d ≤ 10) : rootH l = (toB (rootL sumH (txtsL l) d), 0) := by
  rw [rootH, if_pos ⟨d, h, hd⟩, hd, Nat.log2_two_pow]
theorem rootH_no {l : List ByteArray} (h : ¬ mayN l.length) : rootH l = (⟨#[]⟩, 1) := if_neg h
theorem troot_any (HD : DSumH) (l : List ByteArray) (A : Option Addr) (c : Nat) (hz : l.length ≤ 9223372036854775807) (hs : ∀ s ∈ l, s.size ≤ 140737488351232) (r : ByteArray) (k : Int) (hr : rootH l = (r, k)) (w : World) (hK : Consts w) (hA : Sl w A (strsV l)) :
    Calls Tryd.prog 9 #[.slice A l.length c] w fun e w' => e = .returned (.tuple #[.string r, .int .i64 k]) ∧ Below w.heap.size w w' := by
  by_cases hm : mayN l.length
  · obtain ⟨d, hd10, hd⟩ := hm
    have hmay := tmay_yes ⟨d, hd10, hd⟩ A c w
    have hover := over_any HD l d hd hd10 hs A c w hA hK
    rw [rootH_yes hd hd10] at hr
    have hroot := fun v V hv => root_any l d hd hd10 A l.length c v r (Prod.mk.inj hr).1 V hv
    obtain rfl := (Prod.mk.inj hr).2
    clear hd hr hA HD hz hs
    generalize l.length = n at *
    go_enter Tryd.func9, Tryd.ntmps9
    go_wp2_with fail
    refine hmay.mono ?_
    rintro e w ⟨rfl, rfl⟩
    go_wp2_with fail
    refine hover.mono ?_
    rintro e w1 ⟨v, rfl, hat, hb⟩
    have hroot1 := hroot v w1 hat
    clear hroot hover hmay
    go_wp2_with fail
    refine hroot1.mono ?_
    rintro e w2 ⟨rfl, hb2⟩
    go_wp2
    go_ret2
    exact ⟨rfl, hb.next hb2⟩
  · have hmay := tmay_no hm hz A c w
    rw [rootH_no hm] at hr
    obtain rfl := (Prod.mk.inj hr).1
    obtain rfl := (Prod.mk.inj hr).2
    generalize l.length = n at *
    clear hm
    go_enter Tryd.func9, Tryd.ntmps9
    go_wp2_with fail
    refine hmay.mono ?_
    rintro e w ⟨rfl, rfl⟩
    go_wp2
    go_ret2
    exact ⟨rfl, Below.refl _ _⟩

/-! ### Path -/
open Classical in
/-- What Path answers. -/
noncomputable def pathH (l : List ByteArray) (i : Int) : List ByteArray × Int := if mayN l.length ∧ 0 ≤ i ∧ i < l.length then ((pathL sumH (txtsL l) i.toNat l.length.log2).map toB, 0) else ([], 1)
theorem pathH_yes {l : List ByteArray} {d n : Nat} (hd : l.length = 2 ^ d) (h : d ≤ 10) (hn : n < l.length) : pathH l (n : Int) = ((pathL sumH (txtsL l) n d).map toB, 0) := by
  rw [pathH, if_pos ⟨⟨d, h, hd⟩, by omega, by omega⟩, hd, Nat.log2_two_pow, Int.toNat_natCast]
theorem pathH_no {l : List ByteArray} {i : Int} (h : ¬ (mayN l.length ∧ 0 ≤ i ∧ i < l.length)) : pathH l i = ([], 1) := if_neg h
theorem tpath_early (l : List ByteArray) (A : Option Addr) (c : Nat) (hz : l.length ≤ 9223372036854775807) (i : Int) (h : ¬ (mayN l.length ∧ 0 ≤ i ∧ i < l.length)) (w : World) :
    Calls Tryd.prog 11 #[.slice A l.length c, .int .i64 i] w fun e w' => e = .returned (.tuple #[.slice none 0 0, .int .i64 1]) ∧ w' = w := by
  by_cases hm : mayN l.length
  · have hmay := tmay_yes hm A c w
    have h1 : i < 0 ∨ (l.length : Int) ≤ i := by
      by_cases h2 : i < 0
      · exact .inl h2
      · exact .inr (Int.not_lt.1 fun h3 => h ⟨hm, by omega, h3⟩)
    generalize l.length = n at *
    clear h hm
    by_cases h2 : i < 0
    · clear h1
      go_enter Tryd.func11, Tryd.ntmps11
      go_wp2_with fail
      refine hmay.mono ?_
      rintro e w ⟨rfl, rfl⟩
      go_wp2
      go_ret2
      exact ⟨rfl, rfl⟩
    · have h3 : (n : Int) ≤ i := by omega
      clear h1
      go_enter Tryd.func11, Tryd.ntmps11
      go_wp2_with fail
      refine hmay.mono ?_
      rintro e w ⟨rfl, rfl⟩
      go_wp2
      go_ret2
      exact ⟨rfl, rfl⟩
  · have hmay := tmay_no hm hz A c w
    generalize l.length = n at *
    clear h hm
    go_enter Tryd.func11, Tryd.ntmps11
    go_wp2_with fail
    refine hmay.mono ?_
    rintro e w ⟨rfl, rfl⟩
    go_wp2
    go_ret2
    exact ⟨rfl, rfl⟩
theorem xor_fin : ∀ n : Fin 2048, n.1 ^^^ 1 = partN n.1 := by decide +kernel
theorem xor_part {n : Nat} (h : n < 2048) : n ^^^ 1 = partN n := xor_fin ⟨n, h⟩
set_option maxHeartbeats 4000000 in
theorem tpath_any (HD : DSumH) (l : List ByteArray) (A : Option Addr) (c : Nat) (hz : l.length ≤ 9223372036854775807) (hs : ∀ s ∈ l, s.size ≤ 140737488351232) (i : Int) (ps : List ByteArray) (k : Int) (hr : pathH l i = (ps, k)) (w : World) (hK : Consts w) (hA : Sl w A (strsV l)) :
    Calls Tryd.prog 11 #[.slice A l.length c, .int .i64 i] w fun e w' => PathP ps k w e w' := by
  by_cases hm : mayN l.length ∧ 0 ≤ i ∧ i < l.length
  rotate_left
  · rw [pathH_no hm] at hr
    obtain rfl := (Prod.mk.inj hr).1
    obtain rfl := (Prod.mk.inj hr).2
    exact (tpath_early l A c hz i hm w).mono fun e w' ⟨he, hw⟩ => ⟨_, he, World.ownsRow_nil _ _ _ _, hw ▸ Below.refl _ _⟩
  obtain ⟨⟨d, hd10, hd⟩, h2, h3⟩ := hm
  obtain ⟨m, rfl⟩ := Int.eq_ofNat_of_zero_le h2
  have hml : m < l.length := by omega
  have hmay := tmay_yes ⟨d, hd10, hd⟩ A c w
  have hover := over_any HD l d hd hd10 hs A c w hA hK
  rw [pathH_yes hd hd10 hml] at hr
  have hp1 := (Prod.mk.inj hr).1
  obtain rfl := (Prod.mk.inj hr).2
  have hpl : ps.length = d := by rw [← hp1, List.length_map, pathL_length]
  have HPL := Lib.hid hpl
  have HK : Hid (∀ q, q < d → ∃ p x, partN (m / 2 ^ q) = p ∧ p < 2048 ∧ p < (rowH l q).length ∧ (rowH l q).length ≤ 2048 ∧ 1 < (rowH l q).length ∧ (rowH l q)[p]? = some x ∧ ps[q]? = some x) := Lib.hid fun q hq => by
    have h4 := half_lt (n := m) (k := q) (d := d) (by omega) (by omega)
    have h5 : 2 ^ (d - q) = 2 * 2 ^ (d - q - 1) := by rw [← Nat.pow_succ']; congr 1; omega
    have h6 := partN_lt (i := m / 2 ^ q) (h := 2 ^ (d - q - 1)) (by omega)
    have h7 := rowH_length l hd (k := q) (by omega)
    have h8 : 2 ^ (d - q) ≤ 2 ^ 10 := Nat.pow_le_pow_right (by omega) (by omega)
    have h9 : partN (m / 2 ^ q) < (rowH l q).length := by omega
    have h10 := Nat.two_pow_pos (d - q - 1)
    refine ⟨_, (rowH l q)[partN (m / 2 ^ q)], rfl, by omega, h9, by omega, by omega, List.getElem?_eq_getElem h9, ?_⟩
    rw [← hp1, List.getElem?_map, pathL, List.getElem?_map, List.getElem?_range hq]
    simp only [Option.map_some, Option.some.injEq, rowH, List.getElem_map, List.getD]
    rw [List.getElem?_eq_getElem (by rw [rowH, List.length_map] at h9; exact h9)]
    rfl
  have HLAST : Hid ((rowH l d).length = 1) := Lib.hid (by rw [rowH_length l hd (Nat.le_refl _), Nat.sub_self, Nat.pow_zero])
  have hm9 : m < 2048 := by have : 2 ^ d ≤ 2 ^ 10 := Nat.pow_le_pow_right (by omega) hd10; omega
  have hn9 : l.length < 2048 := by have : 2 ^ d ≤ 2 ^ 10 := Nat.pow_le_pow_right (by omega) hd10; omega
  obtain ⟨n, hn⟩ : ∃ n, l.length = n := ⟨_, rfl⟩
  rw [hn] at hmay hover hml hn9 ⊢
  have t1 : ¬ (m : Int) < 0 := by omega
  have t2 : ¬ (n : Int) ≤ (m : Int) := by omega
  clear hn hd hr hA HD hz h2 h3 hp1 hpl hs
  obtain ⟨i0, hI0, hz0, hz1, hz2⟩ := info_parts string_info
  go_enter Tryd.func11, Tryd.ntmps11
  go_wp2_with fail
  refine hmay.mono ?_
  rintro e w ⟨rfl, rfl⟩
  go_wp2_with fail
  refine hover.mono ?_
  rintro e w1 ⟨v, rfl, hat, hb⟩
  clear hmay hover
  obtain ⟨g5, c5, rfl, hg5, hrm⟩ := hat
  obtain ⟨x, hxx⟩ : ∃ x, d + 1 = x := ⟨_, rfl⟩
  rw [hxx]
  have HXX := Lib.hid hxx
  have hxl : x ≤ 11 := by omega
  clear hxx
  have hfd : ∀ w : World, (Instr.field 44 (.agg #[.slice A n c, .slice (some ⟨g5, 0, none⟩) x c5]) 1).run Tryd.prog w = .ok (.slice (some ⟨g5, 0, none⟩) x c5) w := fun _ => by kernel_rfl
  go_wp2
  clear hfd
  go_loopw [1, 6, 26] (fun i v kk wr => ∃ k y q : Nat, k ≤ x ∧ i = .int .i64 (y : Int) ∧ kk = .int .i64 (k : Int) ∧ Hid (y = m / 2 ^ k) ∧ y < 2048 ∧ Hid (q = min k d) ∧ wr.ownsRow w1.heap.size 9 1 v q (strsV (ps.take q)) ∧ Below w1.heap.size w1 wr) (fun _ _ kk _ => x - (intOf kk).toNat)
  case atStart => exact ⟨0, m, 0, by omega, rfl, rfl, Lib.hid (by simp), hm9, Lib.hid (by simp), World.ownsRow_nil _ _ _ _, Below.refl _ _⟩
  case round =>
    obtain ⟨k, y, q, hk, rfl, rfl, hy, hyl, hq, hown, hb1⟩ := hrel
    by_cases hlt : k < x
    · obtain ⟨u, hu, g, c1, rfl, hg, hcs⟩ := hrm k (by have := HXX.out; omega)
      have hc1 := (hb1.cell (p := ⟨g5, k, none⟩) hg5).trans hu
      have HY : Hid (y / 2 = m / 2 ^ (k + 1)) := Lib.hid (by rw [hy.out, Nat.div_div_eq_div_mul, Nat.pow_succ])
      by_cases hkd : k < d
      · obtain rfl : k = q := by have := hq.out; omega
        obtain ⟨p, s, hpp, hp9, hpr, hrl, h1r, hps, hpk⟩ := HK.out k hkd
        have hc3 := (hb1.cell (p := ⟨g, p, none⟩) hg).trans (hcs p s hps)
        obtain ⟨z, hz⟩ : ∃ z, (rowH l k).length = z := ⟨_, rfl⟩
        rw [hz] at hc1 hpr hrl h1r
        have hxor : bits .xor .i64 (y : Int) 1 = (p : Int) := by
          rw [show (1 : Int) = ((1 : Nat) : Int) from rfl, int_xor (by omega) (by omega), xor_part hyl, hy.out, hpp]
        have HSN : Hid (strsV (ps.take k) ++ [Value.string s] = strsV (ps.take (k + 1))) := Lib.hid (strs_snoc _ hpk)
        have hpz : (p : Int) < (z : Int) := by omega
        have hp0 : (0 : Int) ≤ (p : Int) := by omega
        have h1z : (1 : Int) < (z : Int) := by omega
        clear hpp hps hpk hcs hz hu
        go_wp2_with (first
          | (at_builtin; refine wpList_append_own _ rfl _ _ 22 rfl w1.heap.size 9 i0 (.string ⟨#[]⟩) 1 16 Tryd.underlying22 hI0 hz0 hz1 hz2 rfl (by decide) _ _ _ rfl (hown.alloc _) ⟨wr.heap.size, 0, none⟩ 1 1 [.string s] rfl rfl ?c1 ?c2 ?c3 ?c4 ?c5 ?_)
          | go_in)
        case c1 =>
          intro j u hj
          match j, hj with
          | 0, hj => simp at hj; subst hj; simp [Addr.add]
        case c2 => intro u hu; simp at hu; subst hu; rfl
        case c3 => unfold maxLen; omega
        case c4 => omega
        case c5 => have := hb1.size; simp; omega
        intro v' w4 hown' hgrow _
        rw [HSN.out] at hown'
        have hb4 := own_below (hown.alloc (.cells #[.string s] 9)) (hb1.al _) hgrow
        clear hown hgrow hb1
        go_wp2
        go_roundw
        case rel => exact ⟨k + 1, y / 2, k + 1, by omega, by simp, by go_num, HY, by omega, Lib.hid (by omega), hown', hb4⟩
        case measure => simp [intOf]; omega
      · obtain rfl : k = d := by have := HXX.out; omega
        rw [HLAST.out] at hc1
        clear hcs hu
        go_wp2
        go_roundw
        case rel => exact ⟨k + 1, y / 2, q, by omega, by simp, by go_num, HY, by omega, Lib.hid (by have := hq.out; omega), hown, hb1⟩
        case measure => simp [intOf]; omega
    · obtain rfl : k = x := by omega
      obtain rfl : q = d := by have := hq.out; have := HXX.out; omega
      rw [List.take_of_length_le (by rw [HPL.out]; omega)] at hown
      go_wp2
      go_ret2
      exact ⟨_, rfl, by rw [HPL.out]; exact own_mono hown hb.size, hb.next hb1⟩
end Go.Proofs.YtgcohoonhklkbaaDoor

/-
  tree: the contracts of climbed, Climb, Check (of any texts).
-/
namespace Go.Proofs.YtgcohoonhklkbaaDoor
open Go.RowKit Go.Kx Go.Trm
set_option maxRecDepth 20000

/-- The texts of a way, as strings. -/
def waysBH (i : Nat) (s : ByteArray) (path : List ByteArray) : List ByteArray := (waysL sumH i (ofLeafL s.data.toList) (txtsL path)).map toB
theorem waysBH_length (i : Nat) (s : ByteArray) (path : List ByteArray) : (waysBH i s path).length = path.length + 1 := by rw [waysBH, List.length_map, waysL_length, txtsL_length]
/-- The text k of a way. -/
def wayTH (i : Nat) (s : ByteArray) (path : List ByteArray) (k : Nat) : List UInt8 := (waysL sumH i (ofLeafL s.data.toList) (txtsL path)).getD k []
theorem wayTH_zero (i : Nat) (s : ByteArray) (path : List ByteArray) : wayTH i s path 0 = ofLeafL s.data.toList := waysL_zero _ _ _ _
theorem wayTH_succ (i : Nat) (s : ByteArray) (path : List ByteArray) {k : Nat} (h : k < path.length) : wayTH i s path (k + 1) = stepW sumH (i / 2 ^ k) (wayTH i s path k) path[k].data.toList := by
  unfold wayTH
  rw [waysL_get sumH _ _ _ k (by rw [txtsL_length]; exact h), txtsL_get path h]
theorem wayTH_len (i : Nat) (s : ByteArray) (path : List ByteArray) (hs : s.size ≤ 140737488351232) (hp : ∀ p ∈ path, p.size = 32) : ∀ k, k ≤ path.length → (wayTH i s path k).length ≤ 140737488351233
  | 0, _ => by
    rw [wayTH_zero]
    have : s.data.toList.length = s.size := by simp
    simp only [ofLeafL, List.length_cons]
    omega
  | k + 1, hk => by
    rw [wayTH_succ i s path (by omega)]
    have h1 := hp _ (List.getElem_mem (show k < path.length by omega))
    have h2 : path[k].data.toList.length = path[k].size := by simp
    have h3 := sumH_le (wayTH i s path k)
    unfold stepW ofNodeL
    split <;> simp only [List.length_cons, List.length_append] <;> omega
theorem waysBH_take (i : Nat) (s : ByteArray) (path : List ByteArray) {k : Nat} (h : k < path.length + 1) : (waysBH i s path).take (k + 1) = (waysBH i s path).take k ++ [toB (wayTH i s path k)] := by
  have hl := waysBH_length i s path
  rw [List.take_add_one, List.getElem?_eq_getElem (by omega)]
  congr 1
  simp only [Option.toList_some, List.cons.injEq, and_true]
  unfold wayTH
  have h2 : k < (waysL sumH i (ofLeafL s.data.toList) (txtsL path)).length := by rw [waysL_length, txtsL_length]; omega
  simp only [waysBH, List.getElem_map, List.getD, List.getElem?_eq_getElem h2, Option.getD_some]
theorem waysBH_at (i : Nat) (s : ByteArray) (path : List ByteArray) {k : Nat} (h : k < path.length + 1) : (waysBH i s path)[k]? = some (toB (wayTH i s path k)) := by
  have h3 : k < (waysL sumH i (ofLeafL s.data.toList) (txtsL path)).length := by rw [waysL_length, txtsL_length]; omega
  rw [waysBH, List.getElem?_map, List.getElem?_eq_getElem h3, wayTH, List.getD, List.getElem?_eq_getElem h3]
  rfl
/-- What climbed tells. -/
def ClimbedP (n : Nat) (s : ByteArray) (path : List ByteArray) (W : World) (e : Ending) (W' : World) : Prop :=
  ∃ v, e = .returned v ∧ W'.ownsRow W.heap.size 9 1 v (path.length + 1) (strsV (waysBH n s path)) ∧ Below W.heap.size W W'
set_option maxHeartbeats 4000000 in
theorem climbed_any (HD : DSumH) (n : Nat) (hn : n ≤ 1024) (s : ByteArray) (hs : s.size ≤ 140737488351232) (path : List ByteArray) (hp10 : path.length ≤ 10) (hp : ∀ p ∈ path, p.size = 32) (A : Option Addr) (c : Nat) (w : World) (hK : Consts w) (hA : Sl w A (strsV path)) :
    Calls Tryd.prog 40 #[.int .i64 (n : Int), .string s, .slice A path.length c] w fun e w' => ClimbedP n s path w e w' := by
  obtain ⟨q, hq⟩ : ∃ q : ByteArray, ofLeafL s.data.toList = q.data.toList := ⟨toB (ofLeafL s.data.toList), (toB_list _).symm⟩
  have hleaf := leafText_any s q hs hq w
  have hq0 : strsV [q] = strsV ((waysBH n s path).take 1) := by
    rw [show (1 : Nat) = 0 + 1 from rfl, waysBH_take n s path (by omega), wayTH_zero, hq, toB_eq]
    rfl
  have HLEN := Lib.hid (wayTH_len n s path hs hp)
  have HP := Lib.hid hp
  have HDS := Lib.hid HD
  obtain ⟨m, hm⟩ : ∃ m, path.length = m := ⟨_, rfl⟩
  have HM := Lib.hid hm
  have hown0 := own_made1 w w.heap.size q (Nat.le_refl _)
  rw [hq0] at hown0
  have hb0 := Below.alloc0 w (.cells #[.string q] 9)
  obtain ⟨i0, hI0, hz0, hz1, hz2⟩ := info_parts string_info
  rw [hm] at hp10
  clear hq hq0 HD hs hp
  unfold ClimbedP
  rw [hm]
  clear hm
  go_enter Tryd.func40, Tryd.ntmps40
  go_wp2_with fail
  refine hleaf.mono ?_
  rintro e w ⟨rfl, rfl⟩
  clear hleaf
  go_wp2
  go_loopw [7, 17] (fun v kk wr => ∃ k : Nat, k ≤ m ∧ kk = .int .i64 (k : Int) ∧ wr.ownsRow w.heap.size 9 1 v (k + 1) (strsV ((waysBH n s path).take (k + 1))) ∧ Below w.heap.size w wr) (fun _ kk _ => m - (intOf kk).toNat)
  case atStart => exact ⟨0, by omega, rfl, hown0, hb0⟩
  case round =>
    clear hown0 hb0
    obtain ⟨k, hk, rfl, hown, hb⟩ := hrel
    by_cases hlt : k < m
    · obtain ⟨b, off, hAe, hcp⟩ := sl_strV (hA.keep hb) (k := k) (by rw [HM.out]; exact hlt)
      subst hAe
      obtain ⟨p, hp⟩ : ∃ p, path[k]'(by rw [HM.out]; exact hlt) = p := ⟨_, rfl⟩
      rw [hp] at hcp
      have hp32 : p.size = 32 := by rw [← hp]; exact HP.out _ (List.getElem_mem _)
      obtain ⟨g, c2, rfl, hg, hcl, hll, hco⟩ := own_join hown (by omega)
      obtain ⟨t, ht⟩ : ∃ t : ByteArray, wayTH n s path k = t.data.toList := ⟨toB (wayTH n s path k), (toB_list _).symm⟩
      have hct := hco k t (by rw [List.getElem?_take, if_pos (by omega), waysBH_at n s path (by rw [HM.out]; omega), ht, toB_eq])
      rw [Nat.zero_add] at hct
      obtain ⟨z, hz⟩ : ∃ z : ByteArray, sumH t.data.toList = z.data.toList := ⟨toB (sumH t.data.toList), (toB_list _).symm⟩
      have htz : t.size ≤ 140737488351233 := by
        have h := HLEN.out k (by rw [HM.out]; omega)
        rw [ht] at h
        simpa using h
      have hzz : z.size ≤ 32 := by
        have h := sumH_le t.data.toList
        rw [hz] at h
        simpa using h
      have hsum := HDS.out t z (by omega) hz wr (hK.keep hb)
      obtain ⟨y, hy⟩ : ∃ y : ByteArray, stepW sumH (n / 2 ^ k) t.data.toList p.data.toList = y.data.toList := ⟨toB (stepW sumH (n / 2 ^ k) t.data.toList p.data.toList), (toB_list _).symm⟩
      have HSN : Hid (strsV ((waysBH n s path).take (k + 1)) ++ [Value.string y] = strsV ((waysBH n s path).take (k + 1 + 1))) := Lib.hid (strs_snoc _ (by
        rw [waysBH_at n s path (k := k + 1) (by rw [HM.out]; omega), wayTH_succ n s path (by rw [HM.out]; exact hlt), ht, hp, hy, toB_eq]))
      unfold stepW at hy
      rw [hz] at hy
      obtain ⟨x, hx⟩ : ∃ x, n / 2 ^ k = x := ⟨_, rfl⟩
      have hxI : (n : Int) / 2 ^ k = (x : Int) := by rw [← hx]; push_cast; rfl
      have hxl : x ≤ 1024 := by rw [← hx]; exact Nat.le_trans (Nat.div_le_self _ _) hn
      rw [hx] at hy
      clear hp ht hz hco hll hcl hx hn
      by_cases h2 : x % 2 = 0
      · have hem : ((x : Int) % 2 == 1) = false := by rw [beq_eq_false_iff_ne]; omega
        have htm : ((x : Int).tmod 2 == 1) = false := by rw [Int.tmod_eq_emod_of_nonneg (by omega)]; exact hem
        rw [if_pos h2] at hy
        have hnode := nodeText_any z p y (by omega) (by omega) hy
        clear hy h2
        go_wp2_with fail
        refine hsum.mono ?_
        rintro e w2 ⟨rfl, hs2⟩
        have hown2 := own_keep hown hs2
        have hb2 := hb.next hs2
        clear hsum hown hs2 hcp hct hb
        go_wp2_with fail
        refine (hnode w2).mono ?_
        rintro e w2 ⟨rfl, rfl⟩
        go_wp2_with (first
          | (at_builtin; refine wpList_append_own _ rfl _ _ 22 rfl w.heap.size 9 i0 (.string ⟨#[]⟩) 1 16 Tryd.underlying22 hI0 hz0 hz1 hz2 rfl (by decide) _ _ _ rfl (hown2.alloc _) ⟨w2.heap.size, 0, none⟩ 1 1 [.string y] rfl rfl ?c1 ?c2 ?c3 ?c4 ?c5 ?_)
          | go_in)
        case c1 =>
          intro j u hj
          match j, hj with
          | 0, hj => simp at hj; subst hj; simp [Addr.add]
        case c2 => intro u hu; simp at hu; subst hu; rfl
        case c3 => unfold maxLen; omega
        case c4 => omega
        case c5 => have := hb2.size; simp; omega
        intro v' w4 hown' hgrow _
        rw [HSN.out] at hown'
        have hb4 := own_below (hown2.alloc (.cells #[.string y] 9)) (hb2.al _) hgrow
        clear hown2 hgrow hb2 hnode
        go_wp2
        go_roundw
        case rel => exact ⟨k + 1, by omega, by go_num, hown', hb4⟩
        case measure => simp [intOf]; omega
      · have hem : ((x : Int) % 2 == 1) = true := by rw [beq_iff_eq]; omega
        have htm : ((x : Int).tmod 2 == 1) = true := by rw [Int.tmod_eq_emod_of_nonneg (by omega)]; exact hem
        rw [if_neg h2] at hy
        have hnode := nodeText_any p z y (by omega) (by omega) hy
        clear hy h2
        go_wp2_with fail
        refine hsum.mono ?_
        rintro e w2 ⟨rfl, hs2⟩
        have hown2 := own_keep hown hs2
        have hb2 := hb.next hs2
        clear hsum hown hs2 hcp hct hb
        go_wp2_with fail
        refine (hnode w2).mono ?_
        rintro e w2 ⟨rfl, rfl⟩
        go_wp2_with (first
          | (at_builtin; refine wpList_append_own _ rfl _ _ 22 rfl w.heap.size 9 i0 (.string ⟨#[]⟩) 1 16 Tryd.underlying22 hI0 hz0 hz1 hz2 rfl (by decide) _ _ _ rfl (hown2.alloc _) ⟨w2.heap.size, 0, none⟩ 1 1 [.string y] rfl rfl ?c1 ?c2 ?c3 ?c4 ?c5 ?_)
          | go_in)
        case c1 =>
          intro j u hj
          match j, hj with
          | 0, hj => simp at hj; subst hj; simp [Addr.add]
        case c2 => intro u hu; simp at hu; subst hu; rfl
        case c3 => unfold maxLen; omega
        case c4 => omega
        case c5 => have := hb2.size; simp; omega
        intro v' w4 hown' hgrow _
        rw [HSN.out] at hown'
        have hb4 := own_below (hown2.alloc (.cells #[.string y] 9)) (hb2.al _) hgrow
        clear hown2 hgrow hb2 hnode
        go_wp2
        go_roundw
        case rel => exact ⟨k + 1, by omega, by go_num, hown', hb4⟩
        case measure => simp [intOf]; omega
    · obtain rfl : k = m := by omega
      rw [List.take_of_length_le (by rw [waysBH_length, HM.out]; omega)] at hown
      go_wp2
      go_ret
      exact ⟨_, rfl, hown, hb⟩

/-! ### Climb -/
open Classical in
/-- What Climb answers. -/
noncomputable def climbH (i : Int) (s : ByteArray) (path : List ByteArray) : ByteArray × Int :=
  if wayOk i path then (toB (climbL sumH i.toNat (ofLeafL s.data.toList) (txtsL path)), 0) else (⟨#[]⟩, 1)
theorem climbH_yes {i : Int} {s : ByteArray} {path : List ByteArray} (h : wayOk i path) : climbH i s path = (toB (climbL sumH i.toNat (ofLeafL s.data.toList) (txtsL path)), 0) := if_pos h
theorem climbH_no {i : Int} {s : ByteArray} {path : List ByteArray} (h : ¬ wayOk i path) : climbH i s path = (⟨#[]⟩, 1) := if_neg h
theorem climbH_wayT (n : Nat) (s : ByteArray) (path : List ByteArray) : climbL sumH n (ofLeafL s.data.toList) (txtsL path) = sumH (wayTH n s path path.length) := by
  rw [climbL_last, txtsL_length]
  rfl
set_option maxHeartbeats 2000000 in
theorem tclimb_any (HD : DSumH) (i : Int) (s : ByteArray) (hs : s.size ≤ 140737488351232) (path : List ByteArray) (A : Option Addr) (c : Nat) (hz : path.length ≤ 9223372036854775807) (r : ByteArray) (k : Int) (hr : climbH i s path = (r, k)) (w : World) (hK : Consts w) (hA : Sl w A (strsV path)) :
    Calls Tryd.prog 19 #[.int .i64 i, .string s, .slice A path.length c] w fun e w' => e = .returned (.tuple #[.string r, .int .i64 k]) ∧ Below w.heap.size w w' := by
  by_cases h10 : path.length ≤ 10
  rotate_left
  · rw [climbH_no fun h => h10 h.1] at hr
    obtain rfl := (Prod.mk.inj hr).1
    obtain rfl := (Prod.mk.inj hr).2
    have t1 : (10 : Int) < (path.length : Int) := by omega
    clear h10 hr hA
    generalize path.length = m at *
    go_enter Tryd.func19, Tryd.ntmps19
    go_wp2
    go_ret2
    exact ⟨rfl, Below.refl _ _⟩
  have t1 : ¬ (10 : Int) < (path.length : Int) := by omega
  by_cases hi0 : i < 0
  · rw [climbH_no fun h => absurd h.2.1 (by omega)] at hr
    obtain rfl := (Prod.mk.inj hr).1
    obtain rfl := (Prod.mk.inj hr).2
    clear hr hA
    generalize path.length = m at *
    go_enter Tryd.func19, Tryd.ntmps19
    go_wp2
    go_ret2
    exact ⟨rfl, Below.refl _ _⟩
  obtain ⟨n, rfl⟩ := Int.eq_ofNat_of_zero_le (Int.not_lt.1 hi0)
  obtain ⟨x, hx⟩ : ∃ x : Nat, 2 ^ path.length = x := ⟨_, rfl⟩
  have hxI : (2 : Int) ^ path.length = (x : Int) := by rw [← hx]; push_cast; rfl
  have hx10 : x ≤ 1024 := by rw [← hx]; have : 2 ^ path.length ≤ 2 ^ 10 := Nat.pow_le_pow_right (by omega) h10; omega
  by_cases hix : (x : Int) ≤ (n : Int)
  · rw [climbH_no fun h => absurd h.2.2.1 (by omega)] at hr
    obtain rfl := (Prod.mk.inj hr).1
    obtain rfl := (Prod.mk.inj hr).2
    clear hr hA hx
    generalize path.length = m at *
    go_enter Tryd.func19, Tryd.ntmps19
    go_wp2
    go_ret2
    exact ⟨rfl, Below.refl _ _⟩
  by_cases hall : ∀ p ∈ path, p.size = 32
  rotate_left
  · have har := areDigests_any path A c hz false (by rw [decide_eq_false hall]) w hA
    rw [climbH_no fun h => hall h.2.2.2] at hr
    obtain rfl := (Prod.mk.inj hr).1
    obtain rfl := (Prod.mk.inj hr).2
    clear hr hA hx hall
    generalize path.length = m at *
    go_enter Tryd.func19, Tryd.ntmps19
    go_wp2_with fail
    refine har.mono ?_
    rintro e w ⟨rfl, rfl⟩
    go_wp2
    go_ret2
    exact ⟨rfl, Below.refl _ _⟩
  have har := areDigests_any path A c hz true (by rw [decide_eq_true hall]) w hA
  have hok : wayOk (n : Int) path := ⟨h10, by omega, by rw [hxI]; omega, hall⟩
  have hcl := climbed_any HD n (by omega) s hs path h10 hall A c w hK hA
  unfold ClimbedP at hcl
  rw [climbH_yes hok, Int.toNat_natCast, climbH_wayT] at hr
  have hr1 := (Prod.mk.inj hr).1
  obtain rfl := (Prod.mk.inj hr).2
  obtain ⟨t, ht⟩ : ∃ t : ByteArray, wayTH n s path path.length = t.data.toList := ⟨toB (wayTH n s path path.length), (toB_list _).symm⟩
  have htz : t.size ≤ 140737488351233 := by
    have h := wayTH_len n s path hs hall path.length (Nat.le_refl _)
    rw [ht] at h
    simpa using h
  have HAT := Lib.hid (waysBH_at n s path (k := path.length) (by omega))
  rw [ht, toB_eq] at HAT
  have hsum := fun V hV => HD t r (by omega) (by rw [← hr1, toB_list, ht]) V hV
  have hKK := Lib.hid hK
  clear hr hA hx hall hok hr1 ht HD hs
  generalize path.length = m at *
  go_enter Tryd.func19, Tryd.ntmps19
  go_wp2_with fail
  refine har.mono ?_
  rintro e w ⟨rfl, rfl⟩
  go_wp2_with fail
  refine hcl.mono ?_
  rintro e w1 ⟨v, rfl, hown, hb⟩
  obtain ⟨g, c2, rfl, hg, hc2, hll, hco⟩ := own_join hown (by omega)
  have hct := hco m t HAT.out
  rw [Nat.zero_add] at hct
  have hsum1 := hsum w1 (hKK.out.keep hb)
  clear har hcl hown hll hco hsum hc2
  go_wp2_with fail
  refine hsum1.mono ?_
  rintro e w2 ⟨rfl, hb2⟩
  clear hct
  go_wp2
  go_ret2
  exact ⟨rfl, hb.next hb2⟩
theorem tcheck_any (HD : DSumH) (root : ByteArray) (i : Int) (s : ByteArray) (hs : s.size ≤ 140737488351232) (path : List ByteArray) (A : Option Addr) (c : Nat) (hz : path.length ≤ 9223372036854775807) (r : ByteArray) (k : Int) (hr : climbH i s path = (r, k)) (b : Bool) (hbb : b = (decide (k = 0) && decide (r = root))) (w : World) (hK : Consts w) (hA : Sl w A (strsV path)) :
    Calls Tryd.prog 21 #[.string root, .int .i64 i, .string s, .slice A path.length c] w fun e w' => e = .returned (.bool b) ∧ Below w.heap.size w w' := by
  have hclimb := tclimb_any HD i s hs path A c hz r k hr w hK hA
  have HB := Lib.hid hbb
  clear hbb hA HD hz hs
  have HK : k = 0 ∨ k = 1 := by
    have h := hr
    unfold climbH at h
    split at h
    · exact .inl (Prod.mk.inj h).2.symm
    · exact .inr (Prod.mk.inj h).2.symm
  clear hr
  generalize path.length = m at *
  rcases HK with rfl | rfl
  · go_enter Tryd.func21, Tryd.ntmps21
    go_wp2_with fail
    refine hclimb.mono ?_
    rintro e w1 ⟨rfl, hb⟩
    go_wp2
    go_ret
    exact ⟨ret_bool (by rw [HB.out, eq_str]; rfl), hb⟩
  · go_enter Tryd.func21, Tryd.ntmps21
    go_wp2_with fail
    refine hclimb.mono ?_
    rintro e w1 ⟨rfl, hb⟩
    go_wp2
    go_ret
    exact ⟨ret_bool (by rw [HB.out]; rfl), hb⟩
end Go.Proofs.YtgcohoonhklkbaaDoor

/-
  A range over a function whose iterator keeps a state of its own in one cell (block B): the iterator's word, and the loop's law, for a body that never leaves.
-/
namespace Go.Kx
open Go Go.RowKit

/-- The iterator's word. J: what the loop knows when the texts so far have come; J minds no store into block B. A round keeps the blocks that 'keep' names. -/
def SeqCell {α : Type} (F : Fence) (n : Nat) (P : Program) (g : Nat) (lb : Array Value) (encs : α → Array Value) (B : Nat) (keep : Nat → Prop) (xs : List α) (w : World) : Prop :=
  ∀ (l : Nat) (J : List α → World → Prop) (W : World), Below w.heap.size w W → (∀ s A v, J s A → J s (A.setCell ⟨B, 0, none⟩ v)) →
    (∀ pre x W1, pre ++ [x] <+: xs → J pre W1 → YieldAt F (n - 1) P l (encs x) W1 fun e W' => e = .returned (.bool true) ∧ J (pre ++ [x]) W' ∧ (∀ k, keep k → W'.heap[k]? = W1.heap[k]?)) →
    J [] W →
    CallsIn F n P g (#[.func (.yield l) #[] #[]] ++ lb) W fun e W' => (∃ v, e = .returned v) ∧ J xs W'

variable {F : Fence} {n : Nat} {P : Program}

theorem cell_of_heap {W W' : World} {b : Nat} (h : W'.heap[b]? = W.heap[b]?) (o : Nat) : W'.cell? ⟨b, o, none⟩ = W.cell? ⟨b, o, none⟩ := by simp [World.cell?, h]
theorem frozen_of_heap {W W' : World} {b : Nat} (h : W'.heap[b]? = W.heap[b]?) (o : Nat) : W'.frozen? ⟨b, o, none⟩ = W.frozen? ⟨b, o, none⟩ := by simp [World.frozen?, h]
theorem others_of_below {W W' : World} (h : Below W.heap.size W W') : KeepsOthers W W' :=
  ⟨h.size, fun k _ hk _ => (h.block k (Array.getElem?_eq_some_iff.1 hk).1).trans hk⟩

theorem wpIn_range_cell {α : Type} {g : Operand} {ps : Array Tmp} {assign body : Code} {Q : Exit → Act → World → Prop} {a : Act} {w : World}
    (hro : F.round = none) (h1 : 1 ≤ n) {gf : Nat} {lb : Array Value} (hg : a.eval g = .func (.func gf) #[] lb) (hFg : F.fn gf) (eg : ∀ args w, (callFunc gf args).run P w = .ok (.enter gf args) w)
    {encs : α → Array Value} {B : Nat} {keep : Nat → Prop} {xs : List α} (hB : B < w.heap.size) (hkp : ∀ k, keep k → k < w.heap.size) (hseq : SeqCell F (n - 1) P gf lb encs B keep xs w) (hps : ∀ x, (encs x).size = ps.size)
    (I : List α → World → Prop) (hIs : ∀ s A v, I s A → I s (A.setCell ⟨B, 0, none⟩ v)) (hIn : ∀ s A A', I s A → Below w.heap.size A A' → I s A') (h0 : I [] w) (a₁ : α → Act)
    (hassign : ∀ (l : Nat) (x : α) (W : World) (K : Act → World → Prop), K (a₁ x) W →
      assign.wpIn (F.inRound l) (n - 1 - 1) P (Exit.then K (fun _ _ _ => False)) { tmps := (ps.zip (encs x)).foldl (fun t (p, v) => t.setIfInBounds p v) a.tmps, defers := [] } W)
    (hbody : ∀ (l : Nat) (pre : List α) (x : α) (W : World), pre ++ [x] <+: xs → I pre W →
      body.wpIn (F.inRound l) (n - 1 - 1) P (fun e _ W' => match e with | .normal => KeepsOthers W W' ∧ (∀ k, keep k → W'.heap[k]? = W.heap[k]?) ∧ I (pre ++ [x]) W' | _ => False) (a₁ x) W)
    (hdone : ∀ (D : Nat) (W : World), w.heap.size ≤ D → I xs W → W.heap[D]? = some (.deferred (some [])) → Q .normal { a with defers := { target := .collected D, args := #[] } :: a.defers } W) :
    (Code.rangeFunc g ps assign body).wpIn F n P Q a w := by
  refine wpIn_rangeFunc ?_
  intro fn hfn
  rw [hro]
  -- the two blocks of book-keeping: D for deferred calls, D + 1 for the loop's record
  obtain ⟨D, hD⟩ : ∃ D, D = w.heap.size := ⟨_, rfl⟩
  obtain ⟨rec, hrec⟩ : ∃ rec : LoopState → Loop, rec = fun st => { state := st, pending := none, fn, tmps := a.tmps, params := ps, assign, body, defers := D } := ⟨_, rfl⟩
  obtain ⟨V, hV⟩ : ∃ V, (w.alloc (.deferred (some []))).alloc (.loop (rec .ready)) = V := ⟨_, rfl⟩
  have hsV : V.heap.size = D + 1 + 1 := by rw [← hV, hD]; simp
  have hbV : Below D w V := by rw [← hV, hD]; exact ((Below.refl _ w).alloc (Nat.le_refl _) _).alloc (by simp) _
  have hl0 : V.heap[D + 1]? = some (.loop (rec .ready)) := by
    have := World.alloc_heap_new (w.alloc (.deferred (some []))) (.loop (rec .ready))
    rw [World.size_alloc, ← hD, hV] at this
    exact this
  have hd0 : V.heap[D]? = some (.deferred (some [])) := by
    rw [← hV, hD]; exact (Below.heap_alloc _ _ _ (by simp)).trans (World.alloc_heap_new w _)
  have hput : ∀ (A : World) (l : Nat) (o o' : Obj), A.heap[l]? = some o → D ≤ l → Below D A (A.putObj l o') := fun A l o o' hl hDl =>
    (Below.refl D A).grown (grownBy_putObj' A l o') (by have := (Array.getElem?_eq_some_iff.1 hl).1; omega) (fun k e => by cases e; omega)
  have hI0 : I [] V := hIn _ _ _ h0 (by rw [← hD]; exact hbV)
  refine ⟨D + 1, [{ target := .collected D, args := #[] }], V, { target := .fn (.func gf) lb, args := #[.func (.yield (D + 1)) #[] #[]] }, V, gf, #[.func (.yield (D + 1)) #[] #[]] ++ lb, V, ?_, ?_, ?_, ?_, fun _ => h1, ?_⟩
  · rw [← hV, hrec, hD]; exact run_enterLoop_outer _ _ _ _ _
  · simp only [resolve, hg]
    simp [go_sem]
  · intro f' hf'; simp [Target.leads] at hf'; subst hf'; exact hFg
  · simp [invoke, go_sem, eg]
  have hBl : B ≠ D + 1 := by omega
  have hBd : B ≠ D := by omega
  refine (hseq (D + 1) (fun pre W => I pre W ∧ W.heap[D + 1]? = some (.loop (rec .ready)) ∧ W.heap[D]? = some (.deferred (some []))) V (by rw [← hD]; exact hbV)
    (fun s A v h => ⟨hIs s A v h.1, (Below.heap_setCell A ⟨B, 0, none⟩ v (D + 1) (fun e => hBl e.symm)).trans h.2.1, (Below.heap_setCell A ⟨B, 0, none⟩ v D (fun e => hBd e.symm)).trans h.2.2⟩) ?_ ⟨hI0, hl0, hd0⟩).mono ?_
  · rintro pre x W hpx ⟨hi, hl, hk⟩
    have hlt := (Array.getElem?_eq_some_iff.1 hl).1
    have hy := run_yield (P := P) (args := encs x) hl (by rw [hrec]; exact hps x)
    rw [hrec] at hy
    refine ⟨fn, _, assign, body, hy, roundIn_of_wpIn hfn (hassign _ x W _ ⟨_, run_beginRound hl (by rw [hrec]), ?_⟩)⟩
    have hl2 : (W.putObj (D + 1) (.loop { rec .ready with state := .busy })).heap[D + 1]? = some (.loop { rec .ready with state := .busy }) := World.putObj_heap_same hlt
    have hk2 : (W.putObj (D + 1) (.loop { rec .ready with state := .busy })).heap[D]? = some (.deferred (some [])) := (World.putObj_heap_other (by omega)).trans hk
    have hb2 : Below D W (W.putObj (D + 1) (.loop { rec .ready with state := .busy })) := hput _ _ _ _ hl (by omega)
    refine wpIn_mono (hbody _ pre x _ hpx (hIn _ _ _ hi (by rw [← hD]; exact hb2))) ?_
    rintro e a3 W3 hp
    cases e with
    | normal =>
      obtain ⟨hk3, hb3, hi3⟩ := hp
      have hl3 := hk3.same _ _ hl2 rfl
      have hd3 := hk3.same _ _ hk2 rfl
      have hend := run_endRound (P := P) none hl3
      have hb4 : Below D W3 (W3.putObj (D + 1) (.loop (rec .ready))) := hput _ _ _ _ hl3 (by omega)
      refine ⟨.bool true, W3.putObj (D + 1) (.loop (rec .ready)), by rw [hrec] at hend ⊢; exact hend, rfl, ⟨hIn _ _ _ hi3 (by rw [← hD]; exact hb4), World.putObj_heap_same (Array.getElem?_eq_some_iff.1 hl3).1, (World.putObj_heap_other (by omega)).trans hd3⟩, ?_⟩
      intro k hk
      have hkD : k < D := by rw [hD]; exact hkp k hk
      exact (hb4.block k hkD).trans ((hb3 k hk).trans (hb2.block k hkD))
    | ret => exact hp.elim
    | exit id => exact hp.elim
    | goto t => exact hp.elim
    | panic ch => exact hp.elim
    | outgrown => exact hp.elim
  · rintro e W2 ⟨⟨v, rfl⟩, hi, hl, hk⟩
    refine ⟨none, _, by have := run_endLoop (P := P) hl (by rw [hrec]; simp); rw [hrec] at this; exact this, ?_⟩
    exact hdone D _ (by omega) (hIn _ _ _ hi (by rw [← hD]; exact hput _ _ _ _ hl (by omega))) ((World.putObj_heap_other (by omega)).trans hk)
end Go.Kx
