/-
  armour: the contract of Bytes.
-/
import Derived.Test.YtmmkhlianijagaaDoorAr3
import Derived.Test.YtmmkhlianijagaaDoorArmb
import Derived.Test.YtmmkhlianijagaaDoorShelfA
namespace Go.Proofs.YtmmkhlianijagaaDoor
open Go.RowKit Go.Kx Go.Arm Go.Shelf
set_option maxRecDepth 20000

theorem rbytes_group (vals : List Nat) (hv : ∀ x ∈ vals, x < 32) (hsz : vals.length ≤ 10000) (A : Option Addr) (c : Nat) (w : World) (hs : Sl w A (u8s vals)) :
    Calls Tryd.prog 16 #[.slice A vals.length c, .func (.func 17) #[] #[], .func (.func 18) #[] #[]] w fun e w' =>
      ∃ v j, e = .returned (.tuple #[v, .agg #[.int .i64 (numH 8 j (bitsL 5 vals) : Nat), .int .i64 (cntH 8 j (bitsL 5 vals) : Nat)]]) ∧ j = (bitsL 5 vals).length / 8 ∧ w'.ownsRow w.heap.size 5 1 v j (u8s (outN 8 j (bitsL 5 vals))) ∧ Below w.heap.size w w' :=
  regroup_any 17 18 (enters_of Tryd.func17 (by kernel_rfl) rfl) (enters_of Tryd.func18 (by kernel_rfl) rfl) 5 8 (by omega) (by omega) (by omega)
    (fun b m c x V h1 h2 h3 h => putLetter_any b m c x h1 h2 h3 V h) (fun b m c V h1 h => takeByte_no b m c h1 V h) (fun b m c q r k V h1 h2 h3 h4 h5 h6 h => takeByte_yes b m c q r k h1 h2 h3 h4 h5 h6 V h)
    vals hv hsz A c w hs
theorem alpha_find (c : UInt8) (w : World) : Calls Tryd.prog 15 #[.string ⟨#[97, 98, 99, 100, 101, 102, 103, 104, 105, 106, 107, 108, 109, 110, 111, 112, 113, 114, 115, 116, 117, 118, 119, 120, 121, 122, 50, 51, 52, 53, 54, 55]⟩, .int .u8 (c.toNat : Int)] w
    fun e w' => e = .returned (.int .i64 (if valA c < 32 then (valA c : Int) else -1)) ∧ w' = w := by
  have h := Tryd.strings_IndexByte ⟨#[97, 98, 99, 100, 101, 102, 103, 104, 105, 106, 107, 108, 109, 110, 111, 112, 113, 114, 115, 116, 117, 118, 119, 120, 121, 122, 50, 51, 52, 53, 54, 55]⟩ (c.toNat : Int) w
  rw [Int.toNat_natCast, show c.toNat.toUInt8 = c from UInt8.ofNat_toNat, show (ByteArray.mk #[97, 98, 99, 100, 101, 102, 103, 104, 105, 106, 107, 108, 109, 110, 111, 112, 113, 114, 115, 116, 117, 118, 119, 120, 121, 122, 50, 51, 52, 53, 54, 55]).data.toList = letT from rfl, index_alpha] at h
  exact h
/-- Numbers filled up to k. -/
def fillA (l : List UInt8) (k j : Nat) : Nat := if j < k then (valsW l).getD j 0 else 0
theorem fillA_set (l : List UInt8) (k j : Nat) (x : Nat) (hx : x = (valsW l).getD k 0) : (if j = k then x else fillA l k j) = fillA l (k + 1) j := by
  subst hx
  unfold fillA
  by_cases h : j = k
  · subst h; simp
  · rw [if_neg h]
    by_cases h2 : j < k
    · rw [if_pos h2, if_pos (by omega)]
    · rw [if_neg h2, if_neg (by omega)]
theorem byts_map (l : List UInt8) : byts l = u8s (l.map UInt8.toNat) := by simp [byts, u8s]
theorem sl_fill {W : World} {g : Nat} {s : ByteArray} (h : W.rowIs g 5 s.size (fun j => .int .u8 (fillA s.data.toList s.size j : Nat))) : Sl W (some ⟨g, 0, none⟩) (u8s (valsW s.data.toList)) := by
  refine .inr ⟨g, 0, rfl, h.lt, fun j u hu => ?_⟩
  have hj : j < (valsW s.data.toList).length := by have := (List.getElem?_eq_some_iff.1 hu).1; rwa [u8s_length] at this
  have hjs : j < s.size := by simpa [valsW] using hj
  rw [Nat.zero_add, h.cell hjs, ← hu]
  simp only [u8s, List.getElem?_map, List.getElem?_eq_getElem hj, Option.map_some, fillA, if_pos hjs, List.getD]
  rfl
theorem bytR_no {l : List UInt8} {r : ByteArray} {c : Int} (h : bytR l = (r.data.toList, c)) (hn : bytesA l = none) : r = ⟨#[]⟩ ∧ c = 100 := by
  unfold bytR at h
  rw [hn] at h
  obtain ⟨h1, h2⟩ : [] = r.data.toList ∧ (100 : Int) = c := by simpa using h
  exact ⟨ByteArray.ext (Array.toList_inj.1 h1.symm), h2.symm⟩
theorem bytR_yes {l b : List UInt8} {r : ByteArray} {c : Int} (h : bytR l = (r.data.toList, c)) (hn : bytesA l = some b) : r = ⟨b.toArray⟩ ∧ c = 0 := by
  unfold bytR at h
  rw [hn] at h
  obtain ⟨h1, h2⟩ : b = r.data.toList ∧ (0 : Int) = c := by simpa using h
  exact ⟨ByteArray.ext (by rw [h1]), h2.symm⟩
set_option maxHeartbeats 2000000 in
theorem abytes_any (s : ByteArray) (hz : s.size ≤ 10000) (r : ByteArray) (c : Int) (h : bytR s.data.toList = (r.data.toList, c)) (w : World) :
    Calls Tryd.prog 6 #[.string s] w fun e w' => e = .returned (.tuple #[.string r, .int .i64 c]) ∧ Below w.heap.size w w' := by
  have hmk := run_make_row' (P := Tryd.prog) 34 5 (.int .u8 0) 1 Tryd.underlying34 octet_info rfl .i64 .i64 s.size (by omega) (by omega)
  have hr0 := (World.rowIs_made w (.int .u8 0) s.size 5).congr (g := fun j => .int .u8 (fillA s.data.toList 0 j : Nat)) (fun j _ => by simp [fillA])
  have H := Lib.hid h
  clear h
  go_enter Tryd.func6, Tryd.ntmps6
  go_wp2
  go_loopw [5, 6, 14] (fun _ _ i wr => ∃ k : Nat, k ≤ s.size ∧ i = .int .i64 k ∧ Hid (∀ j, j < k → valA (s.data.toList.getD j 0) < 32) ∧ wr.rowIs w.heap.size 5 s.size (fun j => .int .u8 (fillA s.data.toList k j : Nat)) ∧ Below w.heap.size w wr) (fun _ _ i _ => s.size - (intOf i).toNat)
  case atStart => exact ⟨0, by omega, rfl, Lib.hid (fun j hj => by omega), hr0, Below.alloc0 _ _⟩
  case round =>
    clear hr0
    obtain ⟨k, hk, rfl, hg, hrow, hb⟩ := hrel
    by_cases hlt : k < s.size
    · have hcell := hrow.cell (i := k) hlt
      have hfz := hrow.frozen k
      have hgl := hrow.lt
      obtain ⟨x, hx⟩ : ∃ x : UInt8, s[k] = x := ⟨_, rfl⟩
      have hxd : s.data.toList.getD k 0 = x := by rw [← hx, List.getD, List.getElem?_eq_getElem (by simpa using hlt)]; rfl
      go_wp2_with fail
      refine (alpha_find x _).mono ?_
      rintro e w1 ⟨rfl, rfl⟩
      by_cases hv : valA x < 32
      · rw [if_pos hv]
        have HS := Lib.hid (fun j => fillA_set s.data.toList k j (valA x) (by rw [valsW, List.getD, List.getElem?_map, ← hxd, List.getD, List.getElem?_eq_getElem (by simpa using hlt)]; rfl))
        have HG : Hid (∀ j, j < k + 1 → valA (s.data.toList.getD j 0) < 32) := Lib.hid fun j hj => by
          rcases (by omega : j < k ∨ j = k) with h1 | rfl
          · exact hg.out j h1
          · rw [hxd]; exact hv
        generalize valA x = y at *
        have e8 : (y : Int) % 256 = (y : Int) := by omega
        clear hxd hx
        generalize fillA s.data.toList k k = z at hcell
        go_wp2
        go_roundw
        case rel =>
          refine ⟨k + 1, by omega, by go_num, HG, (hrow.set k _).congr fun j _ => ?_, hb.setCell (p := ⟨w.heap.size, k, none⟩) (by simp) _⟩
          rw [← HS.out]
          split <;> rfl
        case measure => simp [intOf]; omega
      · rw [if_neg hv]
        have hno : bytesA s.data.toList = none := bytesA_none ⟨x, by rw [← hxd, List.getD, List.getElem?_eq_getElem (by simpa using hlt)]; exact List.getElem_mem _, by omega⟩
        obtain ⟨rfl, rfl⟩ := bytR_no H.out hno
        clear hxd hx hcell
        go_wp2
        go_ret2
        exact ⟨rfl, hb⟩
    · obtain rfl : k = s.size := by omega
      have hsl := sl_fill hrow
      have hw : ∀ c ∈ s.data.toList, valA c < 32 := fun c hc => by
        obtain ⟨j, hj, rfl⟩ := List.getElem_of_mem hc
        have := hg.out j (by simpa using hj)
        rwa [List.getD, List.getElem?_eq_getElem hj] at this
      have hvl : (valsW s.data.toList).length = s.size := by simp [valsW]
      have HG := rbytes_group (valsW s.data.toList) (vals_lt hw) (by rw [hvl]; exact hz) (some ⟨w.heap.size, 0, none⟩) s.size wr hsl
      rw [hvl] at HG
      have HWH : Hid ((bitsL 5 (valsW s.data.toList)).length / 8 = whole s.data.toList) := Lib.hid (by rw [bits5_len]; rfl)
      have HW := Lib.hid hw
      clear hvl hw hsl hrow hg hmk
      go_wp2_with fail
      refine HG.mono ?_
      rintro e w2 ⟨v, j, rfl, hj, hown, hb2⟩
      rw [HWH.out] at hj
      subst hj
      have hbw := hb.next' hb2
      have hB2 : wr.heap.size ≤ w2.heap.size := hb2.size
      clear hb2 HG
      obtain ⟨M, hM⟩ : ∃ M, M = numH 8 (whole s.data.toList) (bitsL 5 (valsW s.data.toList)) := ⟨_, rfl⟩
      obtain ⟨C, hC⟩ : ∃ C, C = cntH 8 (whole s.data.toList) (bitsL 5 (valsW s.data.toList)) := ⟨_, rfl⟩
      rw [← hM, ← hC]
      have HM := Lib.hid hM
      have HC := Lib.hid hC
      clear hM hC
      have hbw1 := hbw.next' (Below.alloc0 w2 (.cells #[.int .i64 (M : Int), .int .i64 (C : Int)] 37))
      have hown1 := hown.alloc (.cells #[.int .i64 (M : Int), .int .i64 (C : Int)] 37)
      by_cases h5 : 5 ≤ C
      · obtain ⟨rfl, rfl⟩ := bytR_no H.out (bytes_no (by rw [← HC.out]; omega))
        go_wp2
        go_ret2
        exact ⟨rfl, hbw1⟩
      · by_cases h0 : M = 0
        · subst h0
          have hyes := bytes_yes HW.out (by rw [← HC.out]; omega) HM.out.symm
          obtain ⟨rfl, rfl⟩ := bytR_yes H.out hyes
          have hl : (ofL s.data.toList).length = whole s.data.toList := ofL_length _
          have hst := own_strs (w := w2.alloc (.cells #[.int .i64 ((0 : Nat) : Int), .int .i64 (C : Int)] 37)) (B0 := wr.heap.size) (v := v) (l := ofL s.data.toList) (by
            rw [hl, byts_map, ofL_nats, bytL_out]
            exact hown1)
          obtain ⟨A1, c1, hv, he⟩ := hst
          rw [hl] at hv
          subst hv
          rw [show ((0 : Nat) : Int) = 0 from rfl] at he
          clear hown hown1 hl hyes
          generalize whole s.data.toList = n at *
          go_wp2
          go_ret2
          exact ⟨rfl, hbw1⟩
        · obtain ⟨rfl, rfl⟩ := bytR_no H.out (bytes_no (by rw [← HM.out]; omega))
          have hne : ((M : Int) != 0) = true := by simp; omega
          go_wp2
          go_ret2
          exact ⟨rfl, hbw1⟩
end Go.Proofs.YtmmkhlianijagaaDoor
