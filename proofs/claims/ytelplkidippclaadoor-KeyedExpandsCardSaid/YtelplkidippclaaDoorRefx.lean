/-
  keyholeref03.Expand and Derive: the contracts.
-/
import Derived.Test.YtelplkidippclaaDoorRefk
import Derived.Test.YtelplkidippclaaDoorKey4
namespace Go.Proofs.YtelplkidippclaaDoor
open Go.RowKit Go.Kx
set_option maxRecDepth 20000

theorem rexpand_no (key info : ByteArray) (n : Int) (hn : n < 1 ∨ 8160 < n) (w : World) :
    Calls Tryd.prog 15 #[.string key, .string info, .int .i64 n] w fun e w' => e = .returned (.tuple #[.string ⟨#[]⟩, .int .i64 1]) ∧ w = w' := by
  by_cases h : n < 1
  · go_enter Tryd.func15, Tryd.ntmps15
    go_wp2
    go_ret2
    exact ⟨rfl, rfl⟩
  · have h2 : 8160 < n := by omega
    go_enter Tryd.func15, Tryd.ntmps15
    go_wp2
    go_ret2
    exact ⟨rfl, rfl⟩
set_option maxHeartbeats 1000000 in
theorem rexpand_yes (key info : ByteArray) (n : Nat) (h1 : 1 ≤ n) (h2 : n ≤ 8160) (hk : key.size ≤ 1000) (hi : info.size ≤ 1000) (r : ByteArray) (hr : ⟨(expL key.data.toList info.data.toList n).toArray⟩ = r) (w : World) :
    Calls Tryd.prog 15 #[.string key, .string info, .int .i64 n] w fun e w' => e = .returned (.tuple #[.string r, .int .i64 0]) ∧ Below w.heap.size w w' := by
  obtain ⟨l, hl⟩ : ∃ l, blkL key.data.toList = l := ⟨_, rfl⟩
  have HM : Hid (∀ (s r : ByteArray), s.size ≤ 1500 → (⟨(macB l s.data.toList).toArray⟩ : ByteArray) = r → ∀ V : World, Calls Tryd.prog 9 #[.string key, .string s] V fun e w' => e = .returned (.string r) ∧ Below V.heap.size V w') :=
    Lib.hid (fun s r hs hr V => rmac_gen key s (by omega) hs r (by rw [← hr, ← hl]; rfl) V)
  have HR : Hid (∀ i, i ≤ 255 → n ≤ 32 * i → (⟨((madeB l info.data.toList i).take n).toArray⟩ : ByteArray) = r) := Lib.hid (fun i hi hn => by rw [← hr, ← hl, expL_of _ _ i n hi hn])
  clear hl hr
  have t1 : ¬ (n : Int) < 1 := by omega
  have t2 : ¬ 8160 < (n : Int) := by omega
  go_enter Tryd.func15, Tryd.ntmps15
  go_wp2
  go_loopw [8, 9, 10] (fun o t i wr => ∃ (k j : Nat) (oo tt : ByteArray), k ≤ 255 ∧ Hid (j = k + 1) ∧ o = .string oo ∧ t = .string tt ∧ i = .int .i64 j ∧ Hid (oo.data.toList = madeB l info.data.toList k) ∧ Hid (tt.data.toList = partB l info.data.toList k) ∧ Below w.heap.size w wr) (fun _ _ i _ => 256 - (intOf i).toNat)
  case atStart => exact ⟨0, 1, ⟨#[]⟩, ⟨#[]⟩, by omega, Lib.hid rfl, rfl, rfl, rfl, Lib.hid rfl, Lib.hid rfl, Below.refl _ _⟩
  case round =>
    obtain ⟨k, j, oo, tt, hk, hj, rfl, rfl, rfl, ho, ht, hb⟩ := hrel
    have hos : oo.size = 32 * k := by have := congrArg List.length ho.out; rw [madeB_length] at this; simpa using this
    have hts : tt.size ≤ 32 := by have := partB_le l info.data.toList k; rw [← ht.out] at this; simpa using this
    by_cases hlt : oo.size < n
    · have hk2 : k < 255 := by omega
      obtain ⟨a, ha⟩ : ∃ a : ByteArray, tt ++ info = a := ⟨_, rfl⟩
      obtain ⟨u, hu⟩ : ∃ u : ByteArray, (⟨#[UInt8.ofNat j]⟩ : ByteArray) = u := ⟨_, rfl⟩
      obtain ⟨b, hb2⟩ : ∃ b : ByteArray, a ++ u = b := ⟨_, rfl⟩
      obtain ⟨m, hm⟩ : ∃ m : ByteArray, (⟨(macB l b.data.toList).toArray⟩ : ByteArray) = m := ⟨_, rfl⟩
      obtain ⟨c, hc⟩ : ∃ c : ByteArray, oo ++ m = c := ⟨_, rfl⟩
      have usz : u.size = 1 := by rw [← hu]; rfl
      have asz : a.size = tt.size + info.size := by rw [← ha]; simp
      have bsz : b.size = a.size + u.size := by rw [← hb2]; simp
      have msz : m.size = 32 := by rw [← hm, size_mk, macB_length]
      have g1 : ∀ V : World, (Op.stringOp .add tt info).run Tryd.prog V = .ok (.string a) V := fun V => by rw [← ha]; exact run_string_add_sum V tt info (by omega)
      have g2 : ∀ V : World, (Op.stringOp .add a u).run Tryd.prog V = .ok (.string b) V := fun V => by rw [← hb2]; exact run_string_add_sum V a u (by omega)
      have g3 : ∀ V : World, (Op.stringOp .add oo m).run Tryd.prog V = .ok (.string c) V := fun V => by rw [← hc]; exact run_string_add_sum V oo m (by omega)
      have ml : m.data.toList = partB l info.data.toList (k + 1) := by
        rw [← hm, ← hb2, ← ha, ← hu, hj.out, partB, ← ht.out]
        simp
      have HML : Hid (m.data.toList = partB l info.data.toList (k + 1)) := Lib.hid ml
      have HCL : Hid (c.data.toList = madeB l info.data.toList (k + 1)) := Lib.hid (by rw [madeB, ← ml, ← ho.out, ← hc]; simp)
      have hjl : j ≤ 255 := by have := hj.out; omega
      have hw8 : IntKind.u8.wrap (j : Int) = (j : Int) := u8_wrap j (by omega)
      have hw64 : IntKind.i64.wrap ((j : Int) + 1) = (j : Int) + 1 := IntWalk.i64_in _ (by omega)
      have hconv : ∀ V : World, (convert 33 9 (.slice (some ⟨V.heap.size, 0, none⟩) 1 1)).run Tryd.prog (V.alloc (.cells #[.int .u8 (j : Int)] 5)) = .ok (.string u) (V.alloc (.cells #[.int .u8 (j : Int)] 5)) := fun V => by
        rw [← hu]
        refine run_convert_bytes_back (P := Tryd.prog) _ 33 9 5 ⟨V.heap.size, 0, none⟩ 1 [UInt8.ofNat j] Tryd.underlying33 Tryd.underlying5 Tryd.underlying9 (fun i hi => ?_)
        obtain rfl : i = 0 := by simpa using hi
        have hz : ((UInt8.ofNat j).toNat : Int) = (j : Int) := by rw [UInt8.toNat_ofNat']; omega
        simp only [List.getElem_cons_zero, hz]
        rw [show (⟨V.heap.size, 0, none⟩ : Addr).add 0 = ⟨V.heap.size, 0, none⟩ by unfold Addr.add; split <;> simp_all]
        exact cell_of_row _ V.heap.size 0 #[.int .u8 (j : Int)] 5 (0, 0) (World.alloc_heap_new V _)
      have HMC := Lib.hid (HM.out b m (by omega) hm)
      have hlt' : (oo.size : Int) < (n : Int) := by omega
      clear ha hu hb2 hm hc usz asz bsz msz ml hos hts hlt
      go_wp2_with fail
      refine (HMC.out _).mono ?_
      rintro e w1 ⟨rfl, hb1⟩
      have hbr := hb.next' ((Below.alloc0 wr _).next hb1)
      clear hconv g1 g2 hb hb1
      go_wp2
      go_roundw
      case rel => exact ⟨k + 1, j + 1, c, m, by omega, Lib.hid (by rw [hj.out]), rfl, rfl, by go_num, HCL, HML, hbr⟩
      case measure => simp [intOf]; omega
    · have hlt' : ¬ (oo.size : Int) < (n : Int) := by omega
      have hsl : ∀ V : World, (Instr.slice 9 (.string oo) none (some (.int .i64 (n : Int))) none).run Tryd.prog V = .ok (.string r) V := fun V => by
        rw [run_slice_to Tryd.underlying9 oo n (by omega) (by omega), Int.toNat_natCast, ← HR.out k hk (by omega), ← ho.out]
        exact congrArg (fun b => Result.ok (Value.string b) V) (by apply ByteArray.ext; apply Array.toList_inj.1; rw [Lib.extract_data]; simp)
      clear hos hts hlt
      go_wp2
      go_ret2
      exact ⟨rfl, hb⟩
theorem rderive_yes (key salt info : ByteArray) (n : Nat) (h1 : 1 ≤ n) (h2 : n ≤ 8160) (hk : key.size ≤ 1000) (hs : salt.size ≤ 1000) (hi : info.size ≤ 1000) (x : ByteArray) (hx : ⟨(macL salt.data.toList key.data.toList).toArray⟩ = x) (r : ByteArray) (hr : ⟨(expL x.data.toList info.data.toList n).toArray⟩ = r) (w : World) :
    Calls Tryd.prog 17 #[.string key, .string salt, .string info, .int .i64 n] w fun e w' => e = .returned (.tuple #[.string r, .int .i64 0]) ∧ Below w.heap.size w w' := by
  have hxs : x.size ≤ 1000 := by rw [← hx, size_mk, macL_length]; omega
  have HX := Lib.hid hx
  have HR := Lib.hid hr
  clear hx hr
  go_enter Tryd.func17, Tryd.ntmps17
  go_wp2_with fail
  refine (rmac_gen salt key (by omega) (by omega) x HX.out _).mono ?_
  rintro e w1 ⟨rfl, hb1⟩
  go_wp2_with fail
  refine (rexpand_yes x info n h1 h2 hxs hi r HR.out _).mono ?_
  rintro e w2 ⟨rfl, hb2⟩
  go_wp2
  go_ret2
  exact ⟨rfl, hb1.next hb2⟩
theorem rderive_no (key salt info : ByteArray) (n : Int) (hn : n < 1 ∨ 8160 < n) (hk : key.size ≤ 1000) (hs : salt.size ≤ 1000) (w : World) :
    Calls Tryd.prog 17 #[.string key, .string salt, .string info, .int .i64 n] w fun e w' => e = .returned (.tuple #[.string ⟨#[]⟩, .int .i64 1]) ∧ Below w.heap.size w w' := by
  obtain ⟨x, hx⟩ : ∃ x : ByteArray, ⟨(macL salt.data.toList key.data.toList).toArray⟩ = x := ⟨_, rfl⟩
  have HX := Lib.hid hx
  clear hx
  go_enter Tryd.func17, Tryd.ntmps17
  go_wp2_with fail
  refine (rmac_gen salt key (by omega) (by omega) x HX.out _).mono ?_
  rintro e w1 ⟨rfl, hb1⟩
  go_wp2_with fail
  refine (rexpand_no x info n hn _).mono ?_
  rintro e w2 ⟨rfl, rfl⟩
  go_wp2
  go_ret2
  exact ⟨rfl, hb1⟩
end Go.Proofs.YtelplkidippclaaDoor
