/-
  share: the contract of Tape.
-/
import Derived.Test.YtljckcegcfidoaaTap1
import Derived.Test.YtljckcegcfidoaaUptot
namespace Go.Proofs.Ytljckcegcfidoaa
open Go.RowKit Go.Kx
set_option maxRecDepth 20000

theorem rws_ne {V : World} {M n : Nat} {F : Nat → Nat → Gf.G} (h : Rws V M n F) {A : Option Addr} {ws : List Int} (hs : Sl V A (intsI ws)) (hw : 0 < ws.length) : ∀ a, A = some a → a.block ≠ M := by
  rintro a rfl rfl
  obtain ⟨b, off, e, hc⟩ := sl_int hs hw
  cases e
  obtain ⟨cs, hb, hn, hc2⟩ := h
  rw [cell_of_row _ _ _ _ _ _ hb] at hc
  by_cases hq : off + 0 < n * 32
  · rw [hc2 _ hq] at hc
    cases hc
  · rw [Array.getElem?_eq_none (by omega)] at hc
    cases hc
/-- Where Tape answers. -/
def okTp (s : ByteArray) (l : List Sh) : Prop := s.size = 32 ∧ rightB l = true ∧ zeroB l = false ∧ l.length ≠ 255
def tapNo (s : ByteArray) : Int := if s.size = 32 then 90 else 1
set_option maxHeartbeats 1000000 in
theorem tape_no (s : ByteArray) (l : List Sh) (A : Option Addr) (c : Nat) (hl : l.length ≤ 9223372036854775807) (h : ¬ okTp s l) (w : World) (hs : Sl w A (shV l)) :
    Calls Try.prog 19 #[.string s, .slice A l.length c] w fun e w' => e = strE (⟨#[]⟩, tapNo s) ∧ Below w.heap.size w w' := by
  by_cases h1 : (s.size : Int) = 32
  rotate_left
  · have t1 : ((s.size : Int) != 32) = true := by simpa using h1
    have e : Hid (tapNo s = 1) := Lib.hid (by rw [tapNo, if_neg (by omega)])
    go_enter Try.func19, Try.ntmps19
    go_wp2
    go_ret2
    exact ⟨by rw [e.out]; rfl, Below.refl _ _⟩
  have t1 : ((s.size : Int) != 32) = false := by simpa using h1
  have e : Hid (tapNo s = 90) := Lib.hid (by rw [tapNo, if_pos (by omega)])
  have HRT := Lib.hid (fun V h => right_any l A c hl V h)
  have HZ := Lib.hid (fun V h => shows_any l A c hl V h)
  cases h2 : rightB l with
  | false =>
    rw [h2] at HRT
    clear h h1 h2
    go_enter Try.func19, Try.ntmps19
    go_wp2_with fail
    refine (HRT.out _ hs).mono ?_
    rintro e w1 ⟨rfl, hb⟩
    go_wp2
    go_ret2
    exact ⟨by rw [e.out]; rfl, hb⟩
  | true =>
    rw [h2] at HRT
    cases h3 : zeroB l with
    | true =>
      rw [h3] at HZ
      clear h h1 h2 h3
      go_enter Try.func19, Try.ntmps19
      go_wp2_with fail
      refine (HRT.out _ hs).mono ?_
      rintro e w1 ⟨rfl, hb⟩
      go_wp2_with fail
      refine (HZ.out _ (hs.keep hb)).mono ?_
      rintro e w2 ⟨rfl, hb2⟩
      go_wp2
      go_ret2
      exact ⟨by rw [e.out]; rfl, hb.next' hb2⟩
    | false =>
      rw [h3] at HZ
      have h4 : l.length = 255 := Decidable.byContradiction fun h5 => h ⟨by omega, h2, h3, h5⟩
      have t4 : ((l.length : Int) == 255) = true := by simp; omega
      clear h h1 h2 h3 h4
      go_enter Try.func19, Try.ntmps19
      go_wp2_with fail
      refine (HRT.out _ hs).mono ?_
      rintro e w1 ⟨rfl, hb⟩
      go_wp2_with fail
      refine (HZ.out _ (hs.keep hb)).mono ?_
      rintro e w2 ⟨rfl, hb2⟩
      go_wp2
      go_ret2
      exact ⟨by rw [e.out]; rfl, hb.next' hb2⟩
set_option maxHeartbeats 8000000 in
theorem tape_yes (s : ByteArray) (l : List Sh) (A : Option Addr) (c : Nat) (Q : Nat → List Gf.G) (h : okTp s l) (hq : Thru Q s l) (w : World) (hs : Sl w A (shV l)) :
    Calls Try.prog 19 #[.string s, .slice A l.length c] w fun e w' => e = strE (⟨(tapL Q l.length).toArray⟩, 0) ∧ Below w.heap.size w w' := by
  obtain ⟨h1, h2, h3, h4⟩ := h
  obtain ⟨q1, q2, q3⟩ := hq
  obtain ⟨p1, p2, p3, p4⟩ := rightB_of h2
  have t1 : ((s.size : Int) != 32) = false := by simp; omega
  have t4 : ((l.length : Int) == 255) = false := by simp; omega
  have hm : l.length ≤ 254 := by omega
  have HRT := Lib.hid (fun V h => right_any l A c (by omega) V h)
  have HZ := Lib.hid (fun V h => shows_any l A c (by omega) V h)
  rw [h2] at HRT
  rw [h3] at HZ
  have HAP := Lib.hid (fun V h => apart_any l p1 p2 p3 A c V h)
  have hok : weightsA (xsL l) 0 = (wgtsI (xsL l) 0, true) := by rw [weightsA, if_pos (okWt_of h2 rfl)]
  have HWT : Hid (∀ V N, Sl V (some ⟨N, 0, none⟩) (intsI (xsL l)) → Calls Try.prog 34 #[.slice (some ⟨N, 0, none⟩) l.length l.length, .int .i64 0] V fun e w' => (∃ A c, e = .returned (.tuple #[.slice A l.length c, .bool true]) ∧ Sl w' A (intsI (wgtsI (xsL l) 0))) ∧ Below V.heap.size V w') := Lib.hid (fun V N h => by
    have := weights_any (xsL l) 0 (some ⟨N, 0, none⟩) l.length (by rw [xsL_length]; omega) V h
    rw [hok, xsL_length] at this
    refine this.mono ?_
    rintro e w' ⟨⟨A, c, he, hsl⟩, hb⟩
    dsimp only at he
    rw [wgtsI_length, xsL_length] at he
    exact ⟨⟨A, c, he, hsl⟩, hb⟩)
  have HSM : Hid (∀ d, d < l.length → ∀ V g M A c, Fld V g → Rws V M l.length (lefD Q l (d + 1)) → Sl V A (intsI (wgtsI (xsL l) 0)) → Calls Try.prog 35 #[.pointer (some ⟨g, 0, none⟩), .slice (some ⟨M, 0, none⟩) l.length l.length, .slice A l.length c] V
      fun e w' => e = .returned (.agg (rowV (digD Q (d + 1)))) ∧ Below V.heap.size V w') := Lib.hid (fun d hd V g M A c hf hr hs => by
    have := ssum_any g M l.length (lefD Q l (d + 1)) _ A c (by rw [wgtsI_length, xsL_length]) p2 (wgtsI_dig _ _) V hf hr hs
    rwa [rowV_congr (S := digD Q (d + 1)) (fun j _ => lef_sum h2 (q1 j))] at this)
  have HTX := Lib.hid (fun d V => text_any (digD Q d) V)
  have HRO : Hid (∀ V, Calls Try.prog 41 #[.string s] V fun e w' => e = .returned (.agg (rowV (digD Q 0))) ∧ Below V.heap.size V w') := Lib.hid (fun V => by
    have := rowOf_any s h1 V
    rwa [rowV_congr (S := digD Q 0) (fun j hj => (q2 j hj).symm)] at this)
  have HST : Hid (∀ d i, d < l.length → i < l.length → ∃ x : Int, (xsL l).getD i 0 = x ∧ ∃ y : Nat, invA x = (y, true) ∧ ∀ V g, Fld V g → Calls Try.prog 44 #[.agg (rowV fun j => lefD Q l d i j + digD Q d j), .pointer (some ⟨g, 0, none⟩), .int .i64 (y : Int)] V
      fun e w' => e = .returned (.agg (rowV (lefD Q l (d + 1) i))) ∧ Below V.heap.size V w') := Lib.hid (fun d i hd hi => by
    have hdg := (okSh_of (allSh_at p3 hi)).1
    have h0 : (l.getD i sh0).1 ≠ 0 := fun e => by
      have := zeroB_yes hi e
      rw [h3] at this
      cases this
    refine ⟨_, xsL_at l hi, _, invA_G hdg h0, fun V g hf => ?_⟩
    have := stimes_any (fun j => lefD Q l d i j + digD Q d j) g ((toG (l.getD i sh0).1).inv.v : Nat) (dig_v _) V hf
    rwa [toG_of, rowV_congr (S := lefD Q l (d + 1) i) (fun j _ => lef_step (by rw [q1]; omega) hdg h0)] at this)
  have HR0 : Hid (∀ i j, i < l.length → j < 32 → bsG l i j = lefD Q l 0 i j) := Lib.hid (fun i j hi hj => q3 i hi j hj)
  have HXL := Lib.hid (xsL_length l)
  have HWL : Hid ((wgtsI (xsL l) 0).length = l.length) := Lib.hid (by rw [wgtsI_length, xsL_length])
  have HTL := Lib.hid (tapL_length Q)
  have HTS : Hid (∀ d, tapL Q (d + 1) = tapL Q d ++ txtL (digD Q (d + 1))) := Lib.hid (fun d => rfl)
  have HT0 : Hid (tapL Q 0 = []) := Lib.hid rfl
  clear h1 h2 h3 h4 q1 q2 q3 p2 p3 p4 hok
  generalize wgtsI (xsL l) 0 = ws at *
  go_enter Try.func19, Try.ntmps19
  go_wp2_with fail
  refine (HRT.out _ hs).mono ?_
  rintro e w1 ⟨rfl, hb⟩
  replace hs := hs.keep hb
  go_wp2_with fail
  refine (HZ.out _ hs).mono ?_
  rintro e w2 ⟨rfl, hb2⟩
  replace hs := hs.keep hb2
  replace hb := hb.next' hb2
  clear hb2
  go_wp2_with fail
  refine (new_any _).mono ?_
  rintro e w3 ⟨rfl, hf, hb3⟩
  have hg : w2.heap.size < w3.heap.size := hf.lt
  generalize w2.heap.size = g at hf hg ⊢
  replace hs := hs.keep hb3
  replace hb := hb.next' hb3
  clear hb3
  go_wp2_with fail
  refine (HAP.out _ hs).mono ?_
  rintro e w4 ⟨⟨N, M, rfl, hNM, hN, hM, hsx, hrw⟩, hb4⟩
  have HMW : Hid (w.heap.size ≤ M) := Lib.hid (Nat.le_trans hb.size hM)
  replace hf := hf.keep hb4
  replace hb := hb.next' hb4
  clear hb4 hs
  go_wp2_with fail
  refine (HWT.out _ N hsx).mono ?_
  rintro e w5 ⟨⟨B, cB, rfl, hsw⟩, hb5⟩
  replace hf := hf.keep hb5
  replace hsx := hsx.keep hb5
  replace hrw := hrw.keep hb5
  replace hb := hb.next' hb5
  have hBM := rws_ne hrw hsw (by rw [HWL.out]; omega)
  have hBl : ∀ a, B = some a → a.block < w5.heap.size := fun a e => by
    rcases hsw with h | ⟨b', off', rfl, hlt, _⟩
    · have h9 : (intsI ws).length = l.length := by rw [intsI_length, HWL.out]
      rw [h] at h9
      have : (0 : Nat) = l.length := h9
      omega
    · cases e; exact hlt
  have hNl : N < w5.heap.size := sl_old hsx rfl (by rw [intsI_length, HXL.out]; omega)
  have hMl := hrw.lt
  have hgl := hf.lt
  clear hb5
  go_wp2_with fail
  refine (HRO.out _).mono ?_
  rintro e w6 ⟨rfl, hb6⟩
  have hsz6 := hb6.size
  replace hf := hf.keep hb6
  replace hsx := hsx.keep hb6
  replace hrw := hrw.keep hb6
  replace hsw := hsw.keep hb6
  replace hb := hb.next' hb6
  have hDw : w.heap.size ≤ w6.heap.size := hb.size
  clear hb6
  obtain ⟨d0, hd0⟩ : ∃ d, rowV (digD Q 0) = d := ⟨_, rfl⟩
  have hinf0 := row_info' (digD Q 0)
  have hall0 := rowV_one (digD Q 0)
  have hzd0 : zero32.size = (rowV (digD Q 0)).size := by rw [rowV_size]; rfl
  rw [hd0] at hinf0 hall0 hzd0 ⊢
  have HD0 := Lib.hid hd0
  clear hd0
  have hz0 : (w6.alloc (.cells zero32 52)).heap[w6.heap.size]? = some (.cells zero32 52 (0, 0)) := heap_alloc_new _ _
  have hP1 := setRow_heap _ w6.heap.size _ d0 _ _ hz0
  have hkz := (Below.alloc0 w6 (.cells zero32 52)).setRow (Nat.le_refl _) d0
  have hzsz : ((w6.alloc (.cells zero32 52)).setRow w6.heap.size d0).heap.size = w6.heap.size + 1 := by simp
  replace hf := hf.keep hkz
  replace hsx := hsx.keep hkz
  replace hrw := hrw.keep hkz
  replace hsw := hsw.keep hkz
  replace hb := hb.next' hkz
  clear hkz
  unfold zero32 at hz0 hzd0 hP1 hzsz hf hsx hrw hsw hb
  have hBT := bld_new ((w6.alloc (.cells #[.int .u8 0, .int .u8 0, .int .u8 0, .int .u8 0, .int .u8 0, .int .u8 0, .int .u8 0, .int .u8 0, .int .u8 0, .int .u8 0, .int .u8 0, .int .u8 0, .int .u8 0, .int .u8 0, .int .u8 0, .int .u8 0, .int .u8 0, .int .u8 0, .int .u8 0, .int .u8 0, .int .u8 0, .int .u8 0, .int .u8 0, .int .u8 0, .int .u8 0, .int .u8 0, .int .u8 0, .int .u8 0, .int .u8 0, .int .u8 0, .int .u8 0, .int .u8 0] 52)).setRow w6.heap.size d0)
  have hkT := Below.alloc0 ((w6.alloc (.cells #[.int .u8 0, .int .u8 0, .int .u8 0, .int .u8 0, .int .u8 0, .int .u8 0, .int .u8 0, .int .u8 0, .int .u8 0, .int .u8 0, .int .u8 0, .int .u8 0, .int .u8 0, .int .u8 0, .int .u8 0, .int .u8 0, .int .u8 0, .int .u8 0, .int .u8 0, .int .u8 0, .int .u8 0, .int .u8 0, .int .u8 0, .int .u8 0, .int .u8 0, .int .u8 0, .int .u8 0, .int .u8 0, .int .u8 0, .int .u8 0, .int .u8 0, .int .u8 0] 52)).setRow w6.heap.size d0) (.cells #[.pointer none, .slice none 0 0] 69)
  replace hf := hf.keep hkT
  replace hsx := hsx.keep hkT
  replace hrw := hrw.keep hkT
  replace hsw := hsw.keep hkT
  replace hb := hb.next' hkT
  have hP2 := (hkT.block _ (Array.getElem?_eq_some_iff.1 hP1).1).trans hP1
  rw [hzsz] at hBT
  have hTsz := hkT.size
  rw [hzsz] at hTsz
  clear hkT hzsz hP1
  go_wp2_with (refine wpList_store_row rfl _ _ _ rfl w6.heap.size d0 rfl rfl _ _ hz0 hinf0 hzd0 hall0 ?_)
  clear hz0 hinf0 hzd0 hall0
  generalize World.alloc (World.setRow (World.alloc w6 _) _ _) _ = W0 at *
  have hTS0 : TpS W0 g N M w6.heap.size B (xsL l) ws l.length (lefD Q l 0) (digD Q 0) := ⟨hf, hsx, hsw, hrw.congr HR0.out, by rw [HD0.out]; exact hP2⟩
  have hTD : TpD (w6.heap.size + 1) g N M w6.heap.size B := ⟨by omega, by omega, fun e => hNM e, by omega, by omega, fun a e => ⟨hBM a e, by have := hBl a e; omega, by have := hBl a e; omega⟩, by omega, by omega, by omega, by omega⟩
  have hBT0 : Lib.IsBuilder 69 5 (w6.heap.size + 1) (w6.heap.size + 1) (Lib.byteCells (tapL Q 0)) W0 := by rw [HT0.out]; exact hBT
  have hMw : w.heap.size ≤ M := by have := HMW.out; omega
  clear hBT hf hsx hsw hrw hP2 hNM hBM hBl hNl hMl hgl hN hM hg hsz6 hTsz HD0
  generalize w6.heap.size = D at *
  go_wp2
  go_loopw [47] (fun i wr => ∃ d : Nat, d ≤ l.length ∧ i = .int .i64 (d : Int) ∧ TpS wr g N M D B (xsL l) ws l.length (lefD Q l d) (digD Q d) ∧ Lib.IsBuilder 69 5 (D + 1) (D + 1) (Lib.byteCells (tapL Q d)) wr ∧ Below w.heap.size w wr) (fun i _ => l.length - (intOf i).toNat)
  case atStart => exact ⟨0, by omega, rfl, hTS0, hBT0, hb⟩
  case round =>
    clear hTS0 hBT0 hb
    obtain ⟨d, hd, rfl, hTS, hBT, hb⟩ := hrel
    by_cases hltd : d < l.length
    · obtain ⟨dO, hdO⟩ : ∃ x, rowV (digD Q d) = x := ⟨_, rfl⟩
      have HDO := Lib.hid hdO
      have hinfO := row_info' (digD Q d)
      rw [hdO] at hinfO
      have hOsz : dO.size = 32 := by rw [← hdO, rowV_size]
      have HOS := Lib.hid hOsz
      clear hdO hOsz
      go_wp2
      go_loopw [51] (fun x wr => ∃ i : Nat, i ≤ l.length ∧ x = .int .i64 (i : Int) ∧ TpS wr g N M D B (xsL l) ws l.length (mixD Q l d i) (digD Q d) ∧ Lib.IsBuilder 69 5 (D + 1) (D + 1) (Lib.byteCells (tapL Q d)) wr ∧ Below w.heap.size w wr) (fun x _ => l.length - (intOf x).toNat)
      case atStart => exact ⟨0, by omega, rfl, hTS.congr (fun i j _ _ => by rw [mixD, if_neg (by omega)]), hBT, hb⟩
      case round =>
        clear hTS hBT hb
        obtain ⟨i, hi, rfl, hTS, hBT, hb⟩ := hrel
        by_cases hlt : i < l.length
        · obtain ⟨x, hx, y, hy, HTX2⟩ := HST.out d i hltd hlt
          obtain ⟨b', off', e', hcx⟩ := sl_int hTS.x (k := i) (by rw [HXL.out]; exact hlt)
          cases e'
          rw [Nat.zero_add, hx] at hcx
          have HINV : Hid (∀ V, Fld V g → Calls Try.prog 42 #[.pointer (some ⟨g, 0, none⟩), .int .i64 x] V fun e w' => e = two (y, true) ∧ w' = V) := Lib.hid (fun V hf => by rw [← hy]; exact inv_any g x V hf)
          obtain ⟨dR, hdR⟩ : ∃ x, rowV (lefD Q l d i) = x := ⟨_, rfl⟩
          obtain ⟨d2, hd2⟩ : ∃ x, rowV (lefD Q l (d + 1) i) = x := ⟨_, rfl⟩
          obtain ⟨dS, hdS⟩ : ∃ x, (rowV fun j => lefD Q l d i j + digD Q d j) = x := ⟨_, rfl⟩
          have HD2 := Lib.hid hd2
          have hinfR := row_info' (lefD Q l d i)
          have hdi := row_info' (lefD Q l (d + 1) i)
          have hda := rowV_one (lefD Q l (d + 1) i)
          have hds := rowV_size (lefD Q l (d + 1) i)
          have HPL : Hid (∀ V, Calls Try.prog 43 #[.agg dR, .agg dO] V fun e w' => e = .returned (.agg dS) ∧ Below V.heap.size V w') := Lib.hid (fun V => by
            have := splus_any (lefD Q l d i) (digD Q d) V
            rwa [hdR, HDO.out, hdS] at this)
          have HTI := Lib.hid HTX2
          have HMIX : Hid (rowV (mixD Q l d i i) = dR) := Lib.hid (by rw [← hdR]; exact rowV_congr fun j _ => by rw [mixD, if_neg (by omega)])
          rw [hdR] at hinfR
          rw [hd2] at hdi hda hds HTI
          rw [hdS] at HTI
          have HDS := Lib.hid hds
          have hinfl : (Try.prog.info? 52).map (·.size) = some dR.toList.length := hinfR
          have hKS : Hid (∀ V, TpS V g N M D B (xsL l) ws l.length (mixD Q l d i) (digD Q d) → V.heap[D]? = some (.cells dO 52 (0, 0)) ∧ V.rangeAt M (i * 32) dR.toList) := Lib.hid (fun V h => ⟨by rw [← HDO.out]; exact h.d, by rw [← HMIX.out]; exact h.r.range hlt⟩)
          clear hx hy HTX2 hdR hd2 hdS hinfR hds
          go_wp2_with fail
          refine (HINV.out _ hTS.f).mono ?_
          rintro e wr ⟨rfl, rfl⟩
          unfold two
          clear hcx
          go_wp2
          refine Uptot.begin_ [12] (fun V : World => V.heap[D]? = some (.cells dO 52 (0, 0))) (fun V : World => V.rangeAt M (i * 32) dR.toList) (by kernel_rfl) ?_
          replace hTS := hTS.keep (Below.drew0 wr)
          replace hBT := isBuilder_keep hBT (Below.drew0 wr)
          replace hb := hb.next' (Below.drew0 wr)
          have hST := hKS.out _ hTS
          generalize wr.drew = V at *
          refine Uptot.takeS (i := 0) (v := ?_) rfl (by kernel_rfl) (by kernel_rfl) (by kernel_rfl) (by kernel_rfl) (fun _ _ _ h => h) (Or.inl ⟨by rfl, ?_⟩) hST ?_
          rotate_left 1
          · intro w9 hSw; (try dsimp only at hSw); go_simp; (try with_reducible rfl)
          try simp only [Act.put, List.setIfInBounds_toArray, List.set_cons_zero, List.set_cons_succ]
          refine Uptot.takeS (i := 1) (v := ?_) rfl (by kernel_rfl) (by kernel_rfl) (by kernel_rfl) (by kernel_rfl) (fun _ _ _ h => h) (Or.inl ⟨by rfl, ?_⟩) hST ?_
          rotate_left 1
          · intro w9 hSw; (try dsimp only at hSw); go_simp; (try with_reducible rfl)
          try simp only [Act.put, List.setIfInBounds_toArray, List.set_cons_zero, List.set_cons_succ]
          refine Uptot.takeS (i := 2) (v := ?_) rfl (by kernel_rfl) (by kernel_rfl) (by kernel_rfl) (by kernel_rfl) (fun _ _ _ h => h) (Or.inl ⟨by rfl, ?_⟩) hST ?_
          rotate_left 1
          · intro w9 hSw; (try dsimp only at hSw); go_simp; (try with_reducible rfl)
          try simp only [Act.put, List.setIfInBounds_toArray, List.set_cons_zero, List.set_cons_succ]
          refine Uptot.takeS (i := 3) (v := ?_) rfl (by kernel_rfl) (by kernel_rfl) (by kernel_rfl) (by kernel_rfl) (fun _ _ _ h => h) (Or.inl ⟨by rfl, ?_⟩) hST ?_
          rotate_left 1
          · intro w9 hSw; (try dsimp only at hSw); go_simp; (try with_reducible rfl)
          try simp only [Act.put, List.setIfInBounds_toArray, List.set_cons_zero, List.set_cons_succ]
          refine Uptot.takeS (i := 4) (v := ?_) rfl (by kernel_rfl) (by kernel_rfl) (by kernel_rfl) (by kernel_rfl) (fun _ _ _ h => h) (Or.inl ⟨by rfl, ?_⟩) hST ?_
          rotate_left 1
          · intro w9 hSw; (try dsimp only at hSw); go_simp; (try with_reducible rfl)
          try simp only [Act.put, List.setIfInBounds_toArray, List.set_cons_zero, List.set_cons_succ]
          refine Uptot.take (i := 5) rfl (by kernel_rfl) (by kernel_rfl) (by kernel_rfl) (by kernel_rfl) (fun _ _ _ h => h) (yieldsIf_load_mid (wanted_plain rfl _) _ _ rfl M (i * 32) rfl _ _ (fun _ h => h.2) Try.underlying52 rfl hinfl) hST ?_
          try simp only [Act.put, List.setIfInBounds_toArray, List.set_cons_zero, List.set_cons_succ]
          refine Uptot.takeS (i := 6) rfl (by kernel_rfl) (by kernel_rfl) (by kernel_rfl) (by kernel_rfl) (fun _ _ _ h => h) (yields_load_row rfl _ _ rfl D rfl _ _ _ _ (fun _ h => h) Try.underlying52 rfl hinfO) hST ?_
          try simp only [Act.put, List.setIfInBounds_toArray, List.set_cons_zero, List.set_cons_succ]
          refine Uptot.takeS (i := 8) (v := ?_) rfl (by kernel_rfl) (by kernel_rfl) (by kernel_rfl) (by kernel_rfl) (fun _ _ _ h => h) (Or.inl ⟨by rfl, ?_⟩) hST ?_
          rotate_left 1
          · intro w9 hSw; (try dsimp only at hSw); go_simp; (try with_reducible rfl)
          try simp only [Act.put, List.setIfInBounds_toArray, List.set_cons_zero, List.set_cons_succ]
          refine Uptot.takeS (i := 9) (v := ?_) rfl (by kernel_rfl) (by kernel_rfl) (by kernel_rfl) (by kernel_rfl) (fun _ _ _ h => h) (Or.inl ⟨by rfl, ?_⟩) hST ?_
          rotate_left 1
          · intro w9 hSw; (try dsimp only at hSw); go_simp; (try with_reducible rfl)
          try simp only [Act.put, List.setIfInBounds_toArray, List.set_cons_zero, List.set_cons_succ]
          clear hST
          refine Uptot.one (i := 7) rfl (by kernel_rfl) (fun K hK9 => ?_)
          go_simp
          go_at_call 43
          refine (HPL.out _).mono ?_
          rintro e' V9 ⟨rfl, hb9⟩
          replace hTS := hTS.keep hb9
          replace hBT := isBuilder_keep hBT hb9
          replace hb := hb.next' hb9
          have hST := hKS.out _ hTS
          refine hK9.out _ _ (Cond.ahead hST) ?_
          clear hK9 K hb9 hST
          try simp only [Act.put, List.setIfInBounds_toArray, List.set_cons_zero, List.set_cons_succ]
          refine Uptot.one (i := 10) rfl (by kernel_rfl) (fun K hK9 => ?_)
          go_simp
          go_at_call 44
          refine (HTI.out _ g hTS.f).mono ?_
          rintro e' V10 ⟨rfl, hb9⟩
          replace hTS := hTS.keep hb9
          replace hBT := isBuilder_keep hBT hb9
          replace hb := hb.next' hb9
          have hST := hKS.out _ hTS
          refine hK9.out _ _ (Cond.ahead hST) ?_
          clear hK9 K hb9 hST
          try simp only [Act.put, List.setIfInBounds_toArray, List.set_cons_zero, List.set_cons_succ]
          have hST := hKS.out _ hTS
          refine Uptot.one (i := 11) rfl (by kernel_rfl) (fun K hK9 => ?_)
          go_simp
          refine hK9.out _ _ (Cond.ahead hST) ?_
          clear hK9 K
          try simp only [Act.put, List.setIfInBounds_toArray, List.set_cons_zero, List.set_cons_succ]
          clear hST
          refine Uptot.one (i := 12) rfl (by kernel_rfl) (fun K hK9 => ?_)
          rw [wanted_plain rfl, if_pos rfl]
          refine wp_store_mid _ _ _ rfl M (i * 32) d2 rfl rfl (hTS.r.there hlt d2 HDS.out) hdi hda ?_
          have hTS2 := (hTS.put hTD i (lefD Q l (d + 1) i)).congr (fun a b _ _ => mixD_put Q l d i a b)
          rw [HD2.out] at hTS2
          have hw0 := below_setCells (Nat.zero_le M) d2.toList (i * 32) V10 (Below.refl 0 V10)
          have hBT2 := bld_but hBT (M := M) hTD.mT ⟨hw0.os, hw0.tape, hw0.output⟩ (Agr.cells V10 M (i * 32) d2.toList)
          have hb2 := below_setCells hMw d2.toList (i * 32) V10 hb
          have hS2 := hTS2.d
          rw [HDO.out] at hS2
          refine hK9.out _ _ (Cond.behind hS2 (by kernel_rfl)) ?_
          clear hK9 K hS2 hw0 hTS hBT hb
          try simp only [Act.put]
          refine Uptot.done (by kernel_rfl) ?_ _
          generalize World.setCells _ _ _ _ = V5 at *
          go_wp2
          go_roundw
          case rel => exact ⟨i + 1, by omega, by go_num, hTS2, hBT2, hb2⟩
          case measure => simp [intOf]; omega
        · obtain rfl : i = l.length := by omega
          replace hTS := hTS.congr (G := lefD Q l (d + 1)) (fun i j hi _ => by rw [mixD, if_pos hi])
          obtain ⟨d2, hd2⟩ : ∃ x, rowV (digD Q (d + 1)) = x := ⟨_, rfl⟩
          have HD2 := Lib.hid hd2
          have HSU := Lib.hid (HSM.out d hltd)
          have HT2 := Lib.hid (fun V => text_any (digD Q (d + 1)) V)
          have hinf2 := row_info' (digD Q (d + 1))
          have hall2 := rowV_one (digD Q (d + 1))
          have hsz2 := rowV_size (digD Q (d + 1))
          rw [hd2] at HSU HT2 hinf2 hall2 hsz2
          have HS2 := Lib.hid hsz2
          have hso : dO.size = d2.size := by rw [HOS.out, hsz2]
          have HSO := Lib.hid hso
          have HTD := Lib.hid (HTS.out d)
          have hlen : (tapL Q d).length + 32 ≤ 100000 := by rw [HTL.out]; omega
          have hTSZ : (txt (digD Q (d + 1))).size = 32 := txt_size _
          have HTZ := Lib.hid hTSZ
          clear hd2 hsz2 hso hTSZ
          go_wp2_with fail
          refine (HSU.out _ g M B cB hTS.f hTS.r hTS.w).mono ?_
          rintro e w7 ⟨rfl, hb7⟩
          replace hTS := hTS.keep hb7
          replace hBT := isBuilder_keep hBT hb7
          replace hb := hb.next' hb7
          clear hb7
          have hD := hTS.d
          rw [HDO.out] at hD
          have hD2 := setRow_heap _ D _ d2 _ _ hD
          have hTS3 := hTS.dig hTD (digD Q (d + 1))
          rw [HD2.out] at hTS3
          have hw0 := (Below.refl 0 w7).setRow (Nat.zero_le D) d2
          have hBT3 := bld_but hBT (M := D) hTD.dT ⟨hw0.os, hw0.tape, hw0.output⟩ (Agr.row w7 D d2)
          have hb3 := hb.setRow hDw d2
          clear hw0 hBT hTS hb
          go_wp2_with (first
            | (refine wpList_store_row rfl _ _ _ rfl D d2 rfl rfl _ _ hD hinf2 HSO.out hall2 ?_)
            | (refine wpList_load_row rfl _ _ rfl D rfl _ _ _ _ hD2 Try.underlying52 rfl hinf2 ?_))
          clear hD hD2
          generalize World.setRow w7 D d2 = W8 at *
          refine (HT2.out _).mono ?_
          rintro e w9 ⟨rfl, hb9⟩
          replace hTS3 := hTS3.keep hb9
          replace hBT3 := isBuilder_keep hBT3 hb9
          replace hb3 := hb3.next' hb9
          clear hb9
          have hTlt := isBuilder_lt hBT3
          go_wp2_with fail
          refine (bld_write (D + 1) (D + 1) _ _ _ hBT3 (by rw [Lib.byteCells_length, HTZ.out]; omega) (Nat.le_of_lt hTlt)).mono ?_
          rintro e w10 ⟨rfl, hBT4, hb10⟩
          rw [Lib.strCells_eq, ← Lib.byteCells_append, show (txt (digD Q (d + 1))).data.toList = txtL (digD Q (d + 1)) from rfl, ← HTD.out] at hBT4
          have hTS4 := hTS3.low hTD hb10
          have hb4 := hb3.trans (hb10.mono (by omega))
          clear hBT3 hTS3 hb3 hb10 hTlt
          go_wp2
          go_roundw
          case rel => exact ⟨d + 1, by omega, by go_num, hTS4, hBT4, hb4⟩
          case measure => simp [intOf]; omega
    · obtain rfl : d = l.length := by omega
      have hTlt := isBuilder_lt hBT
      go_wp2_with fail
      refine (bld_string (D + 1) (D + 1) _ _ hBT (Nat.le_of_lt hTlt)).mono ?_
      rintro e w11 ⟨rfl, hb11⟩
      have hb5 := hb.trans (hb11.mono (by omega))
      go_wp2
      go_ret2
      exact ⟨rfl, hb5⟩
end Go.Proofs.Ytljckcegcfidoaa
