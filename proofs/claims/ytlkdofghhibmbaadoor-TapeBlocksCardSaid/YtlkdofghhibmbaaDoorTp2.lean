/-
  tape: the contract of Take.
-/
import Derived.Test.YtlkdofghhibmbaaDoorTp1
namespace Go.Proofs.YtlkdofghhibmbaaDoor
open Go.RowKit Go.Kx
set_option maxRecDepth 20000

set_option maxHeartbeats 4000000 in
theorem ttake_yes (T N n : Nat) (k : TK) (hk : TKok k) (hn : N + n ≤ k.bytes.length) (w : World) (hT : Tp w T k N) :
    Calls Tryd.prog 16 #[.pointer (some ⟨T, 0, none⟩), .int .i64 (n : Int)] w fun e w' => TTakeP T k (takeR k.bytes N (n : Int)) w e w' := by
  rw [takeR_yes (by omega) (by omega)]
  obtain ⟨c0, c1, c2, cf⟩ := hT.cells
  have hTl := hT.lt
  have hbx : k.low w.heap.size := hT.low
  have hsz := hk.size
  obtain ⟨L, hL⟩ : ∃ L, k.bytes.length = L := ⟨_, rfl⟩
  rw [hL] at c1 hn hsz
  obtain ⟨r, hr⟩ : ∃ r, N + r = L := ⟨L - N, by omega⟩
  have hleft := tleft_any N L hsz r hr
  have hrn : ¬ (r : Int) < (n : Int) := by omega
  have h0 : ¬ (n : Int) < 0 := by omega
  have HL := Lib.hid hL
  have HK := Lib.hid hk
  clear hL hr hk
  unfold TTakeP
  obtain ⟨out, hout⟩ : ∃ out : ByteArray, (⟨((k.bytes.drop N).take n).toArray⟩ : ByteArray) = out := ⟨_, rfl⟩
  have HOUT := Lib.hid hout
  rw [hout]
  clear hout
  obtain ⟨D, hD⟩ : ∃ D, k.bytes.drop N = D := ⟨_, rfl⟩
  have HD := Lib.hid hD
  have HDL : Hid (D.length = L - N) := Lib.hid (by rw [← hD, List.length_drop, HL.out])
  rw [hD] at HOUT
  clear hD
  go_enter Tryd.func16, Tryd.ntmps16
  go_wp2_with fail
  refine (hleft w).mono ?_
  rintro e w1 ⟨rfl, hb1⟩
  have hT1 := hT.keep hb1
  have hb1s := hb1.size
  clear c0 c1 c2 cf hleft
  go_wp2_with fail
  refine (bld_grow w1.heap.size w1.heap.size n _ (Nat.le_refl _) (heap_alloc_new w1 _) (by simp) (by omega)).mono ?_
  rintro e w3 ⟨rfl, hI, hb3⟩
  have hb13 : Below w1.heap.size w1 w3 := (Below.alloc0 w1 _).trans hb3
  have hT3 := hT1.keep hb13
  have hg3 : w.grownBy w3 (some T) := grown_trans (grown_of hb1) (grown_of hb13)
  have hB3 := hb13.size
  obtain ⟨Bq, hBq⟩ : ∃ B, w1.heap.size = B := ⟨_, rfl⟩
  rw [hBq] at hI hB3 hb1s ⊢
  clear hb1 hT1 hb3 hb13 hBq
  clear w1
  go_wp2
  go_loopw [7] (fun _ wr => ∃ kk : Nat, kk ≤ n ∧ Lib.IsBuilder 75 5 Bq Bq (Lib.byteCells (D.take kk)) wr ∧ Tp wr T k (N + kk) ∧ w.grownBy wr (some T) ∧ Bq ≤ wr.heap.size) (fun _ wr => n + N - tkN wr T)
  case atStart => exact ⟨0, by omega, hI, hT3, hg3, hB3⟩
  case round =>
    clear hI hT3 hg3 hB3
    obtain ⟨kk, hkk, hI, hTr, hg, hBs⟩ := hrel
    have hlk : (Lib.byteCells (D.take kk)).length = kk := by rw [Lib.byteCells_length, List.length_take, HDL.out]; omega
    have hlen := bld_len Bq Bq _ wr hI
    rw [hlk] at hlen
    clear hlk
    by_cases hlt : kk < n
    · have hltI : (kk : Int) < (n : Int) := by omega
      obtain ⟨b, hb⟩ : ∃ b : ByteArray, (⟨(restL k.bytes (N + kk)).toArray⟩ : ByteArray) = b := ⟨_, rfl⟩
      have hrest := HK.out.rest wr T (N + kk) hTr (by rw [HL.out]; omega) b hb
      obtain ⟨z, hz⟩ : ∃ z, b.size = z := ⟨_, rfl⟩
      have hz0 : 0 < z := by rw [← hz, ← hb, size_mk, restL_length, HL.out]; omega
      have hzL : z ≤ 64 := by rw [← hz, ← hb, size_mk, restL_length]; omega
      obtain ⟨d, hd⟩ : ∃ d, n - kk = d := ⟨_, rfl⟩
      have hdI : (n : Int) - (kk : Int) = (d : Int) := by omega
      have hdw : IntKind.i64.wrap (d : Int) = (d : Int) := IntWalk.i64_in _ (by omega)
      obtain ⟨x, hx⟩ : ∃ x, N + kk = x := ⟨_, rfl⟩
      rw [hx] at hTr
      have HX := Lib.hid hx
      have HB := Lib.hid hb
      have HZ := Lib.hid hz
      have hmeas0 := tkN_of hTr
      obtain ⟨m, hm0, hmz, hmd, hmin⟩ : ∃ m : Nat, 0 < m ∧ m ≤ z ∧ m ≤ d ∧ min (z : Int) (d : Int) = (m : Int) := ⟨min z d, by omega, by omega, by omega, by omega⟩
      obtain ⟨p, hp⟩ : ∃ p : ByteArray, b.extract 0 m = p := ⟨_, rfl⟩
      have hpz : p.size = m := by rw [← hp, ByteArray.size_extract]; omega
      have HNX : Hid (Lib.byteCells (D.take kk) ++ Lib.strCells p = Lib.byteCells (D.take (kk + m))) := Lib.hid (by
        have e : p.data.toList = (D.drop kk).take m := by
          rw [← hp, str_ext, ← HB.out]
          show ((restL k.bytes (N + kk)).drop 0).take (m - 0) = _
          rw [List.drop_zero, Nat.sub_zero, restL_take _ _ _ (by have := HZ.out; rw [← HB.out, size_mk] at this; omega), ← HD.out, List.drop_drop]
        rw [Lib.strCells_eq, ← Lib.byteCells_append, e, take_more])
      obtain ⟨y, hy⟩ : ∃ y, x + m = y := ⟨_, rfl⟩
      have hyI : (x : Int) + (m : Int) = (y : Int) := by omega
      have hyw : IntKind.i64.wrap (y : Int) = (y : Int) := IntWalk.i64_in _ (by have := HX.out; omega)
      have HY := Lib.hid hy
      have HDd := Lib.hid hd
      have HPZ := Lib.hid hpz
      clear hb hx hd hy hz
      go_wp2_with fail
      refine hlen.mono ?_
      rintro e wr ⟨rfl, rfl⟩
      go_wp2_with fail
      refine hrest.mono ?_
      rintro e w2 ⟨rfl, hb2⟩
      have hI2 := isBuilder_keep hI hb2
      have hT2 := hTr.keep hb2
      have hg2 := grown_trans hg (grown_of hb2)
      have hBs2 := Nat.le_trans hBs hb2.size
      have hlk : (Lib.byteCells (D.take kk)).length = kk := by rw [Lib.byteCells_length, List.length_take, HDL.out]; omega
      have hlen2 := bld_len Bq Bq _ w2 hI2
      rw [hlk] at hlen2
      have hzz := HZ.out
      clear hrest hlen hI hTr hg hBs hb2
      go_wp2_with fail
      refine hlen2.mono ?_
      rintro e w2 ⟨rfl, rfl⟩
      go_wp2_with fail
      have hzn : 0 ≤ (m : Int) := by omega
      refine (bld_write Bq Bq _ p w2 hI2 (by rw [hlk]; have := HPZ.out; omega) hBs2).mono ?_
      rintro e w4 ⟨rfl, hI4, hb4⟩
      rw [HNX.out] at hI4
      have hT4 := hT2.below (by omega) (hbx.mono (by omega)) hb4
      have hg4 := grown_low hg2 (by omega) hb4
      have hBs4 := Nat.le_trans hBs2 hb4.size
      have hpzz := HPZ.out
      obtain ⟨d0, d1, d2, d3⟩ := hT4.cells
      clear hI2 hT2 hg2 hBs2 hb4 hzz hlen2
      go_wp2
      go_roundw
      case rel => exact ⟨kk + m, by have := HDd.out; omega, isBuilder_grown hI4 (by omega) (grown_set _ _ _ _), by rw [show N + (kk + m) = y by have := HX.out; have := HY.out; omega]; exact hT4.set y (by rw [HL.out]; have := HX.out; have := HY.out; have := HDd.out; omega), grown_trans hg4 (grown_set _ _ _ _), by simpa using hBs4⟩
      case measure =>
        rw [hmeas0, tkN_of (hT4.set y (by rw [HL.out]; have := HX.out; have := HY.out; have := HDd.out; omega))]
        have := HX.out; have := HY.out; have := HDd.out
        omega
    · obtain rfl : kk = n := by omega
      have hltI : ¬ (kk : Int) < (kk : Int) := by omega
      have hT9 := HOUT.out
      go_wp2_with fail
      refine hlen.mono ?_
      rintro e wr ⟨rfl, rfl⟩
      go_wp2_with fail
      refine (bld_string Bq Bq _ wr hI hBs).mono ?_
      rintro e w4 ⟨rfl, hb4⟩
      rw [hT9]
      have hT4 := hTr.below (by omega) (hbx.mono (by omega)) hb4
      have hg4 := grown_low hg (by omega) hb4
      go_wp2
      go_ret2
      exact ⟨out, rfl, rfl, hT4, hg4⟩
/-- Take of any tape. -/
theorem ttake_any (T N : Nat) (k : TK) (hk : TKok k) (n : Int) (w : World) (hT : Tp w T k N) :
    Calls Tryd.prog 16 #[.pointer (some ⟨T, 0, none⟩), .int .i64 n] w fun e w' => TTakeP T k (takeR k.bytes N n) w e w' := by
  by_cases h : n < 0 ∨ (k.bytes.length : Int) - N < n
  · exact ttake_early T N k hk.size n h w hT
  · obtain ⟨m, rfl⟩ := Int.eq_ofNat_of_zero_le (Int.not_lt.1 fun h2 => h (.inl h2))
    have h2 : ¬ (k.bytes.length : Int) - N < (m : Int) := fun h2 => h (.inr h2)
    have := hT.2.2.1
    exact ttake_yes T N m k hk (by omega) w hT
end Go.Proofs.YtlkdofghhibmbaaDoor
