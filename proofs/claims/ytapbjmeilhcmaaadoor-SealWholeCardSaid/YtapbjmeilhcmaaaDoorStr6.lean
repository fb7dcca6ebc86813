/-
  stream: the contract of Crypt, where it answers.
-/
import Derived.Test.YtapbjmeilhcmaaaDoorStr5
import Derived.Test.YtapbjmeilhcmaaaDoorCells
import Derived.Deep.LoopGhost
namespace Go.Proofs.YtapbjmeilhcmaaaDoor
open Go.RowKit Go.Kx
set_option maxRecDepth 20000

theorem start_v (key nonce : ByteArray) (n : Nat) (hk : key.size = 32) (hn : nonce.size = 12) (hw : n < 4294967296) (w : World) :
    Calls Tryd.prog 16 #[.string key, .string nonce, .int .i64 n] w fun e w' => e = .returned (.tuple #[.agg (sv (startL key nonce n)), .bool true]) ∧ Below w.heap.size w w' := start_yes key nonce n hk hn hw _ rfl w
/-- What the cells of the bytes hold when k of them are hidden. -/
def hidAt (K : Nat → List UInt8) (n : Nat) (s : List UInt8) (k j : Nat) : Nat := if j < k then (s.getD j 0 ^^^ ksAt K n j).toNat else (s.getD j 0).toNat
theorem hidAt_same (K : Nat → List UInt8) (n : Nat) (s : List UInt8) (k : Nat) : hidAt K n s k k = (s.getD k 0).toNat := if_neg (by omega)
theorem hidAt_zero (K : Nat → List UInt8) (n : Nat) (s : List UInt8) (j : Nat) : hidAt K n s 0 j = (s.getD j 0).toNat := if_neg (by omega)
theorem hidAt_set (K : Nat → List UInt8) (n : Nat) (s : List UInt8) (k j : Nat) : (if j = k then (s.getD k 0 ^^^ ksAt K n k).toNat else hidAt K n s k j) = hidAt K n s (k + 1) j := by
  unfold hidAt
  by_cases h : j = k
  · subst h; simp
  · rw [if_neg h]
    by_cases h2 : j < k
    · rw [if_pos h2, if_pos (by omega)]
    · rw [if_neg h2, if_neg (by omega)]
theorem conv_hid (K : Nat → List UInt8) (n : Nat) (s : ByteArray) (G c : Nat) (wr : World) (h : Cells wr G s.size (hidAt K n s.data.toList s.size)) :
    (convert 27 9 (.slice (some ⟨G, 0, none⟩) s.size c)).run Tryd.prog wr = .ok (.string ⟨(hideL K n s.data.toList).toArray⟩) wr := by
  have hl : (hideL K n s.data.toList).length = s.size := by rw [hideL_length]; simp
  have hc := run_convert_bytes_back (P := Tryd.prog) wr 27 9 5 ⟨G, 0, none⟩ c (hideL K n s.data.toList) Tryd.underlying27 Tryd.underlying5 Tryd.underlying9 (fun j hj => by
    have hj' : j < s.size := by rw [hl] at hj; exact hj
    rw [Addr.add_mid, Nat.zero_add, (h.2 j hj').1, hidAt, if_pos hj']
    have e : (hideL K n s.data.toList)[j]? = some (s.data.toList.getD j 0 ^^^ ksAt K n j) := hideL_at _ _ _ _ (by simpa using hj')
    rw [List.getElem?_eq_getElem hj] at e
    rw [Option.some.inj e])
  rwa [hl] at hc
theorem start_ok_at {n z q : Nat} (hc : countedB n z = true) (hq : 64 * q < z) : n + q < 4294967296 := by
  simp only [countedB, Bool.or_eq_true, decide_eq_true_eq] at hc
  omega
theorem ks_byte (key nonce : ByteArray) (n q i : Nat) (kq : ByteArray) (h : ⟨(bytesL (startL key nonce (n + q))).toArray⟩ = kq) (hi : i < 64) (hi2 : i < kq.size) : kq[i] = ksAt (ksB key nonce) n (64 * q + i) := by
  subst h
  have e1 : (64 * q + i) / 64 = q := by omega
  have e2 : (64 * q + i) % 64 = i := by omega
  have e3 : i < (bytesL (startL key nonce (n + q))).length := by rw [bytesL_length]; exact hi
  rw [ksAt, e1, e2, ksB, List.getD_eq_getElem?_getD, List.getElem?_eq_getElem e3]
  rfl
set_option maxRecDepth 100000 in
set_option maxHeartbeats 2000000 in
theorem crypt_yes (key nonce : ByteArray) (n : Nat) (s : ByteArray) (hk : key.size = 32) (hn : nonce.size = 12) (hw : n < 4294967296) (hz : s.size ≤ 4000) (hc : countedB n s.size = true) (r : ByteArray) (hr : ⟨(hideL (ksB key nonce) n s.data.toList).toArray⟩ = r) (w : World) (hK : Places w) :
    Calls Tryd.prog 9 #[.string key, .string nonce, .int .i64 n, .string s] w fun e w' => e = .returned (.tuple #[.string r, .int .i64 0]) ∧ Below w.heap.size w w' := by
  obtain ⟨d, hd⟩ : ∃ d, sv (startL key nonce n) = d := ⟨_, rfl⟩
  have HST : Hid (∀ V : World, Calls Tryd.prog 16 #[.string key, .string nonce, .int .i64 n] V fun e w' => e = .returned (.tuple #[.agg d, .bool true]) ∧ Below V.heap.size V w') :=
    Lib.hid fun V => start_yes key nonce n hk hn hw d hd V
  have HCO : Hid (∀ V : World, Calls Tryd.prog 17 #[.int .i64 n, .int .i64 s.size] V fun e w' => e = .returned (.bool true) ∧ Below V.heap.size V w') :=
    Lib.hid fun V => by have h := counted_any n s.size hw hz V; rw [hc] at h; exact h
  have hinf : (Tryd.prog.info? 37).map (·.size) = some d.size := by rw [← hd, sv_size]; exact sv_info
  have hold : zero16.size = d.size := by rw [← hd, sv_size]; rfl
  have hall : d.all (·.oneCell') = true := by rw [← hd]; exact all_one_ints (k := .i64) (g := fun j => ((startL key nonce n).getD j 0 : Nat)) (n := 16) rfl
  have hst : ∀ V : World, (V.alloc (.cells zero16 37)).heap[V.heap.size]? = some (.cells zero16 37 (0, 0)) := fun V => heap_alloc_new V _
  have hconv : ∀ V : World, (convert 9 27 (.string s)).run Tryd.prog V = .ok (.slice (some ⟨V.heap.size, 0, none⟩) s.size (grownCap V s.size 0 5)) (V.drew.alloc (.cells (bytesRow s (grownCap V s.size 0 5)) 5 ((bytesRow s (grownCap V s.size 0 5)).size, (bytesRow s (grownCap V s.size 0 5)).size + 1))) :=
    fun V => run_bytes_of_string V _ _ _ s Tryd.underlying9 Tryd.underlying27 Tryd.underlying5
  have HCV := Lib.hid hconv
  have ht : ¬ (4000 : Int) < (s.size : Int) := by omega
  have HD := Lib.hid hd
  have HR := Lib.hid hr
  have HCN := Lib.hid hc
  unfold zero16 at hold hst
  clear hd hr hc hconv
  go_enter Tryd.func9, Tryd.ntmps9
  go_wp2_with fail
  go_step3
  go_wp2_with fail
  refine (HST.out _).mono ?_
  rintro e w1 ⟨rfl, hb1⟩
  go_wp2_with (refine wpList_store_row rfl _ _ _ rfl w1.heap.size _ rfl rfl _ _ (hst w1) hinf hold hall ?_)
  have hgW := setRow_heap _ _ _ d _ _ (hst w1)
  have hbW := (Below.alloc0 w1 (.cells zero16 37)).setRow (g := w1.heap.size) (Nat.le_refl _) d
  have hbw := hb1.next hbW
  have hl1 := hb1.size
  unfold zero16 at hbw
  clear hb1 hbW hst hold hall hinf
  generalize World.setRow _ _ _ = W2 at *
  refine (HCO.out _).mono ?_
  rintro e w3 ⟨rfl, hb3⟩
  have hg3 := (hb3.block _ (heap_lt hgW)).trans hgW
  have hbw3 := hbw.next' hb3
  have hgl := heap_lt hg3
  clear hgW hbw hb3
  go_wp2_with fail
  have e1 := HCV.out w3
  generalize grownCap w3 s.size 0 5 = c at e1
  have hcs := Cells.new w3 s 5 c
  have hg4 := (Below.heap_alloc w3.drew (.cells (bytesRow s c) 5 ((bytesRow s c).size, (bytesRow s c).size + 1)) w1.heap.size hgl).trans hg3
  have hb4 := hbw3.drew.al (.cells (bytesRow s c) 5 ((bytesRow s c).size, (bytesRow s c).size + 1))
  rw [e1]
  clear e1 HCV hg3 hbw3
  generalize World.alloc _ _ = W4 at *
  have hr4 : W4.rowIs w1.heap.size 37 16 (fun j => .int .i64 ((startL key nonce n).getD j 0 : Nat)) := row_of_heap (by rw [HD.out]; exact hg4)
  have hB1 : w.heap.size ≤ w1.heap.size := hl1
  have hne : w1.heap.size ≠ w3.heap.size := Nat.ne_of_lt hgl
  have hG1 : w.heap.size ≤ w3.heap.size := by omega
  clear hg4 hl1 hgl
  generalize w1.heap.size = B at *
  generalize w3.heap.size = G at *
  go_wp2_with fail
  go_step3
  go_wp2_with fail
  obtain ⟨F, hF⟩ : ∃ F, F = hidAt (ksB key nonce) n s.data.toList := ⟨_, rfl⟩
  obtain ⟨ST, hST⟩ : ∃ ST : Nat → List Nat, ST = fun q => startL key nonce (n + q) := ⟨_, rfl⟩
  have HF := Lib.hid hF
  have HS := Lib.hid hST
  have HSET : Hid (∀ k j, (if j = k then (s.data.toList.getD k 0 ^^^ ksAt (ksB key nonce) n k).toNat else F k j) = F (k + 1) j) := Lib.hid (by rw [hF]; exact hidAt_set _ _ _)
  have HSAME : Hid (∀ k, F k k = (s.data.toList.getD k 0).toNat) := Lib.hid (by rw [hF]; exact hidAt_same _ _ _)
  have HEND : Hid (∀ wr, Cells wr G s.size (F s.size) → (convert 27 9 (.slice (some ⟨G, 0, none⟩) s.size c)).run Tryd.prog wr = .ok (.string r) wr) := Lib.hid (by
    intro wr h
    rw [hF] at h
    rw [conv_hid _ _ _ _ _ _ h, HR.out])
  have HOK : Hid (∀ q, 64 * q < s.size → n + q < 4294967296 ∧ okL (ST q)) := Lib.hid (fun q hq => by
    have h1 := start_ok_at HCN.out hq
    rw [hST]
    exact ⟨h1, startL_ok key nonce (n + q) hk hn h1⟩)
  have HTW : Hid (∀ q, (ST q).getD 12 0 = n + q ∧ (ST q).set 12 (n + q + 1) = ST (q + 1)) := Lib.hid (fun q => by
    rw [hST]
    exact ⟨startL_12 key nonce (n + q) hk, startL_set key nonce (n + q) (n + q + 1) hk⟩)
  have HLEN : Hid (∀ q, (ST q).length = 16) := Lib.hid (fun q => by rw [hST]; simp [startL, cutL_length, hk, hn])
  have HKS : Hid (∀ q i (kq : ByteArray), ⟨(bytesL (ST q)).toArray⟩ = kq → i < 64 → ∀ h : i < kq.size, kq[i] = ksAt (ksB key nonce) n (64 * q + i)) := Lib.hid (fun q i kq h h1 h2 => ks_byte key nonce n q i kq (by rw [← h, hST]) h1 h2)
  have hr0 : W4.rowIs B 37 16 (fun j => .int .i64 ((ST 0).getD j 0 : Nat)) := by rw [hST]; exact hr4
  have hcs0 : Cells W4 G s.size (F (64 * 0)) := by
    rw [hF]
    have e : (fun j => (s.data.toList.getD j 0).toNat) = hidAt (ksB key nonce) n s.data.toList (64 * 0) := funext fun j => (hidAt_zero _ _ _ _).symm
    rw [← e]
    exact hcs
  clear hF hST hr4 hcs HR HCN HD hk hn
  go_loopg [13, 14, 15, 45] 63 (fun g va _ _ _ wr => ∃ q : Nat, q + g = 63 ∧ va = .int .i64 (64 * (q : Int)) ∧ 64 * q ≤ s.size ∧ wr.rowIs B 37 16 (fun j => .int .i64 ((ST q).getD j 0 : Nat)) ∧ Cells wr G s.size (F (64 * q)) ∧ Below w.heap.size w wr)
  case atStart => exact ⟨0, by omega, rfl, by omega, hr0, hcs0, hb4⟩
  case round =>
    clear hr0 hcs0 hb4
    obtain ⟨q, hqg, rfl, hqz, hr, hcs, hb⟩ := hrel
    by_cases hlt : 64 * q < s.size
    · have t1 : (64 * (q : Int)) < (s.size : Int) := by omega
      obtain ⟨hnq, hok⟩ := HOK.out q hlt
      have hgq := sv_of_row hr
      obtain ⟨dq, hdq⟩ : ∃ x, x = sv (ST q) := ⟨_, rfl⟩
      obtain ⟨kq, hkq⟩ : ∃ x : ByteArray, ⟨(bytesL (ST q)).toArray⟩ = x := ⟨_, rfl⟩
      have HBY : Hid (∀ V : World, Places V → Calls Tryd.prog 18 #[.agg dq] V fun e w' => e = .returned (.string kq) ∧ Below V.heap.size V w') := Lib.hid fun V hV => bytes_any (ST q) hok dq hdq kq hkq V hV
      have hkz : kq.size = 64 := by rw [← hkq, size_mk, bytesL_length]
      have hinfq : (Tryd.prog.info? 37).map (·.size) = some dq.size := by rw [hdq, sv_size]; exact sv_info
      rw [← hdq] at hgq
      have HKQ := Lib.hid (fun i => HKS.out q i kq hkq)
      have HKZ := Lib.hid hkz
      clear hdq hkq hkz hok
      obtain ⟨g, rfl⟩ : ∃ g, gk = g + 1 := ⟨gk - 1, by omega⟩
      go_wp2_with (refine wpList_load_row rfl _ _ rfl B rfl _ _ _ _ hgq Tryd.underlying37 rfl hinfq ?_)
      refine (HBY.out _ (hK.keep hb)).mono ?_
      rintro e w5 ⟨rfl, hb5⟩
      have hr5 := rowIs_keep hr hb5
      have hcs5 := hcs.keep hb5
      have hb6 := hb.next' hb5
      clear hr hcs hb hb5 hgq hinfq
      go_wp2_with fail
      go_loopg [15, 45] 64 (fun g2 _ vi wr => ∃ i0 : Nat, i0 + g2 = 64 ∧ vi = .int .i64 (i0 : Int) ∧ 64 * q + i0 ≤ s.size ∧ wr.rowIs B 37 16 (fun j => .int .i64 ((ST q).getD j 0 : Nat)) ∧ Cells wr G s.size (F (64 * q + i0)) ∧ Below w.heap.size w wr)
      case atStart => exact ⟨0, by omega, rfl, by omega, hr5, hcs5, hb6⟩
      case round =>
        clear hr5 hcs5 hb6
        obtain ⟨i0, hig, rfl, hiz, hr, hcs, hb⟩ := hrel
        cases gk with
        | zero =>
          obtain rfl : i0 = 64 := by omega
          have c12 := hr.cell (i := 12) (by omega)
          rw [(HTW.out q).1] at c12
          have d12 := hr.frozen 12
          have hr7 := row16_set hr (HLEN.out q) 12 (n + q + 1) (by omega)
          rw [(HTW.out q).2] at hr7
          have hcs7 : Cells (wr.setCell ⟨B, 12, none⟩ (.int .i64 ((n + q + 1 : Nat) : Int))) G s.size (F (64 * (q + 1))) := hcs.setOther hne _
          have hb7 : Below w.heap.size w (wr.setCell ⟨B, 12, none⟩ (.int .i64 ((n + q + 1 : Nat) : Int))) := hb.setCell (p := ⟨B, 12, none⟩) hB1 _
          have hw1 : IntKind.i64.wrap (((n + q : Nat) : Int) + 1) = ((n + q + 1 : Nat) : Int) := IntWalk.i64_in _ (by omega)
          have hw2 : IntKind.i64.wrap (64 * (q : Int) + 64) = 64 * (q : Int) + 64 := IntWalk.i64_in _ (by omega)
          clear hr hcs hb
          rw [show ((64 : Nat) : Int) = 64 from rfl]
          go_wp2
          go_roundg g
          case measure => omega
          case rel => exact ⟨q + 1, by omega, by go_num, by omega, hr7, hcs7, hb7⟩
        | succ g2 =>
          have hi1 : (i0 : Int) < 64 := by omega
          have hw1 : IntKind.i64.wrap (64 * (q : Int) + (i0 : Int)) = 64 * (q : Int) + (i0 : Int) := IntWalk.i64_in _ (by omega)
          by_cases hend : 64 * q + i0 = s.size
          · have teq : ((64 * (q : Int) + (i0 : Int)) == (s.size : Int)) = true := by simp; omega
            rw [hend] at hcs
            have hcv := HEND.out wr hcs
            clear hcs hr
            go_wp2
            rw [Exit.noGoto_ret]
            go_ret2
            exact ⟨rfl, hb⟩
          · have teq : ((64 * (q : Int) + (i0 : Int)) == (s.size : Int)) = false := by simp; omega
            have hlt2 : 64 * q + i0 < s.size := by omega
            have hload := (hcs.2 _ hlt2).1
            have hfz := (hcs.2 _ hlt2).2
            have hp1 : (0 : Int) ≤ 64 * (q : Int) + (i0 : Int) := by omega
            have hp2 : 64 * (q : Int) + (i0 : Int) < (s.size : Int) := by omega
            have hn1 : (64 * (q : Int) + (i0 : Int)).toNat = 64 * q + i0 := by omega
            have hki : i0 < kq.size := by rw [HKZ.out]; omega
            have HK1 := Lib.hid (HKQ.out i0 (by omega) hki)
            have HSET1 := Lib.hid (HSET.out (64 * q + i0))
            rw [HSAME.out] at hload
            have hxl : (s.data.toList.getD (64 * q + i0) 0).toNat < 256 := UInt8.toNat_lt _
            have HX : Hid (((s.data.toList.getD (64 * q + i0) 0).toNat ^^^ (ksAt (ksB key nonce) n (64 * q + i0)).toNat) = (s.data.toList.getD (64 * q + i0) 0 ^^^ ksAt (ksB key nonce) n (64 * q + i0)).toNat) := Lib.hid (UInt8.toNat_xor _ _).symm
            generalize ksAt (ksB key nonce) n (64 * q + i0) = y at *
            generalize s.data.toList.getD (64 * q + i0) 0 = x0 at *
            generalize (x0 ^^^ y).toNat = v at *
            generalize x0.toNat = x at *
            have HHR := Lib.hid (And.intro hr.drew (And.intro hcs.drew hb.drew))
            clear hr hcs hb hend
            go_wp2
            refine wp_region_still_tail 10 (by kernel_rfl) (by kernel_rfl) ?_
            simp only [List.take_succ_cons, List.take_zero, List.drop_succ_cons, List.drop_zero]
            repeat still_step
            refine wpStill_nil ?_
            have hload2 : wr.drew.cell? ⟨G, 64 * q + i0, none⟩ = _ := hload
            have hfz2 : wr.drew.frozen? ⟨G, 64 * q + i0, none⟩ = _ := hfz
            change wpList _ _ _ _ _ wr.drew
            clear hload hfz
            generalize wr.drew = w6 at *
            go_wp2
            have hbit : bits .xor .u8 (x : Int) (kq[i0].toNat : Int) = ((v : Nat) : Int) := by rw [HK1.out, u8_xor_nat _ _ hxl (UInt8.toNat_lt _), HX.out]
            rw [hbit]
            go_roundg g2
            case measure => omega
            case rel => exact ⟨i0 + 1, by omega, by go_num, by omega, HHR.out.1.setOther hne _, HHR.out.2.1.set hlt2 v HSET1.out, HHR.out.2.2.setCell (p := ⟨G, 64 * q + i0, none⟩) hG1 _⟩
    · obtain hqe : 64 * q = s.size := by omega
      have t1 : ¬ (64 * (q : Int)) < (s.size : Int) := by omega
      rw [hqe] at hcs
      have hcv := HEND.out wr hcs
      clear hcs hr hqe hlt
      go_wp2
      (try rw [Exit.noGoto_ret])
      go_ret2
      exact ⟨rfl, hb⟩
end Go.Proofs.YtapbjmeilhcmaaaDoor
