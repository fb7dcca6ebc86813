/-
  keyholeref02.Hex, and keyholelaw02.sums: the document's two rows.
-/
import Derived.Test.YtelplkidippclaaDoorDig7
import Derived.Lib.QuietBelow
namespace Go.Proofs.YtelplkidippclaaDoor
open Go.RowKit Go.Kx
set_option maxRecDepth 20000

theorem hexL_snoc (l : List UInt8) (c : UInt8) : hexL (l ++ [c]) = hexL l ++ [hexD.getD (c.toNat / 16) 0, hexD.getD (c.toNat % 16) 0] := by simp [hexL]
theorem hexL_length (l : List UInt8) : (hexL l).length = 2 * l.length := by
  induction l with
  | nil => rfl
  | cons c l ih => simp [hexL] at ih ⊢; omega
theorem take_snoc (s : ByteArray) (k : Nat) (h : k < s.size) : s.data.toList.take (k + 1) = s.data.toList.take k ++ [s[k]] := by
  rw [List.take_add_one, List.getElem?_eq_getElem (by simpa using h)]; rfl
theorem hexD_ext (a : Nat) (h : a < 16) : (ByteArray.mk #[48, 49, 50, 51, 52, 53, 54, 55, 56, 57, 97, 98, 99, 100, 101, 102]).extract a (a + 1) = ⟨[hexD.getD a 0].toArray⟩ := by
  rcases (by omega : a = 0 ∨ a = 1 ∨ a = 2 ∨ a = 3 ∨ a = 4 ∨ a = 5 ∨ a = 6 ∨ a = 7 ∨ a = 8 ∨ a = 9 ∨ a = 10 ∨ a = 11 ∨ a = 12 ∨ a = 13 ∨ a = 14 ∨ a = 15) with rfl | rfl | rfl | rfl | rfl | rfl | rfl | rfl | rfl | rfl | rfl | rfl | rfl | rfl | rfl | rfl <;> decide +kernel
theorem run_slice_str {P : Program} {t : TypeId} (h : P.underlying t = some .string) (s : ByteArray) (lo hi : Int) (h0 : 0 ≤ lo) (h1 : lo ≤ hi) (h2 : hi ≤ (s.size : Int)) (V : World) :
    (Instr.slice t (.string s) (some (.int .i64 lo)) (some (.int .i64 hi)) none).run P V = .ok (.string (s.extract lo.toNat hi.toNat)) V := by
  obtain ⟨l, rfl⟩ := Int.eq_ofNat_of_zero_le h0
  obtain ⟨m, rfl⟩ := Int.eq_ofNat_of_zero_le (a := hi) (by omega)
  have e1 : (Instr.sliceBound (.int .i64 (m : Int)) s.size .sliceAlen).run P V = .ok m V := by
    simp only [Instr.sliceBound, asIntOf, Sem.run_bind, Sem.run_pure, Result.andThen_ok, if_pos (show 0 ≤ (m : Int) ∧ (m : Int) ≤ (s.size : Int) by omega), Int.toNat_natCast]
  have e2 : (Instr.sliceBound (.int .i64 (l : Int)) m .sliceB).run P V = .ok l V := by
    simp only [Instr.sliceBound, asIntOf, Sem.run_bind, Sem.run_pure, Result.andThen_ok, if_pos (show 0 ≤ (l : Int) ∧ (l : Int) ≤ (m : Int) by omega), Int.toNat_natCast]
  simp only [Instr.slice, Instr.sliceBounds, Sem.run_bind, run_underlying h, Result.andThen_ok, Option.isSome_none, Bool.false_eq_true, if_false, Sem.run_pure, e1, e2, Int.toNat_natCast]
set_option maxHeartbeats 1000000 in
theorem hex_any (s : ByteArray) (hs : s.size ≤ 100000) (w : World) :
    Calls Tryd.prog 22 #[.string s] w fun e w' => e = .returned (.string ⟨(hexL s.data.toList).toArray⟩) ∧ Below w.heap.size w w' := by
  go_enter Tryd.func22, Tryd.ntmps22
  go_wp2
  go_loopw [4, 5, 6, 7] (fun o i _ _ wr => ∃ k n : Nat, k ≤ s.size ∧ i = .int .i64 k ∧ o = .string ⟨(hexL (s.data.toList.take k)).toArray⟩ ∧ wr = w.drewN n) (fun _ i _ _ _ => s.size - (intOf i).toNat)
  case atStart => exact ⟨0, 0, Nat.zero_le _, rfl, rfl, rfl⟩
  case round =>
    obtain ⟨k, n, hk, rfl, rfl, hwr⟩ := hrel
    have HWR := Lib.hid hwr
    clear hwr
    by_cases hlt : k < s.size
    · have hlen := hexL_length (s.data.toList.take k)
      have hll : (s.data.toList.take k).length = k := by rw [List.length_take, Nat.min_eq_left (by simpa using hk)]
      have HN := Lib.hid (show hexL (s.data.toList.take (k + 1)) = _ by rw [take_snoc s k hlt, hexL_snoc])
      have hby : s[k].toNat < 256 := UInt8.toNat_lt _
      rw [hll] at hlen
      clear hll
      generalize hexL (s.data.toList.take k) = x at *
      have e1 := hexD_ext (s[k].toNat / 16) (by omega)
      have e2 := hexD_ext (s[k].toNat % 16) (by omega)
      have w1 : IntKind.i64.wrap ((s[k].toNat : Nat) : Int) = ((s[k].toNat : Nat) : Int) := IntWalk.i64_in _ (by omega)
      go_wp2
      rw [show ((s[k].toNat : Nat) : Int) / 16 = ((s[k].toNat / 16 : Nat) : Int) by omega, show ((s[k].toNat : Nat) : Int) % 16 = ((s[k].toNat % 16 : Nat) : Int) by omega]
      have ha : s[k].toNat / 16 < 16 := by omega
      have hb : s[k].toNat % 16 < 16 := by omega
      clear w1 hby
      generalize s[k].toNat / 16 = a at *
      generalize s[k].toNat % 16 = b at *
      have g1 : ∀ V : World, (Op.stringOp .add ⟨x.toArray⟩ ⟨[hexD.getD a 0].toArray⟩).run Tryd.prog V = .ok (.string ⟨(x ++ [hexD.getD a 0]).toArray⟩) V := fun V => str_add _ _ (by simp; omega) V
      have g2 : ∀ V : World, (Op.stringOp .add ⟨(x ++ [hexD.getD a 0]).toArray⟩ ⟨[hexD.getD b 0].toArray⟩).run Tryd.prog V = .ok (.string ⟨(x ++ [hexD.getD a 0] ++ [hexD.getD b 0]).toArray⟩) V := fun V => str_add _ _ (by simp; omega) V
      have HX := Lib.hid (show x ++ [hexD.getD a 0] ++ [hexD.getD b 0] = x ++ [hexD.getD a 0, hexD.getD b 0] by simp)
      generalize (x ++ [hexD.getD a 0] ++ [hexD.getD b 0]) = z at *
      generalize (x ++ [hexD.getD a 0]) = y at *
      generalize [hexD.getD a 0].toArray = da at *
      generalize [hexD.getD b 0].toArray = db at *
      have s1 : ∀ V : World, (Instr.slice 9 (.string ⟨#[48, 49, 50, 51, 52, 53, 54, 55, 56, 57, 97, 98, 99, 100, 101, 102]⟩) (some (.int .i64 (a : Int))) (some (.int .i64 ((a : Int) + 1))) none).run Tryd.prog V = .ok (.string ⟨da⟩) V := fun V => by
        rw [run_slice_str Tryd.underlying9 _ _ _ (by omega) (by omega) (by show _ ≤ (16 : Int); omega), show ((a : Int) + 1).toNat = a + 1 by omega, Int.toNat_natCast, e1]
      have s2 : ∀ V : World, (Instr.slice 9 (.string ⟨#[48, 49, 50, 51, 52, 53, 54, 55, 56, 57, 97, 98, 99, 100, 101, 102]⟩) (some (.int .i64 (b : Int))) (some (.int .i64 ((b : Int) + 1))) none).run Tryd.prog V = .ok (.string ⟨db⟩) V := fun V => by
        rw [run_slice_str Tryd.underlying9 _ _ _ (by omega) (by omega) (by show _ ≤ (16 : Int); omega), show ((b : Int) + 1).toNat = b + 1 by omega, Int.toNat_natCast, e2]
      have i1 : IntKind.i64.wrap ((a : Int) + 1) = (a : Int) + 1 := IntWalk.i64_in _ (by omega)
      have i2 : IntKind.i64.wrap ((b : Int) + 1) = (b : Int) + 1 := IntWalk.i64_in _ (by omega)
      clear e1 e2 ha hb
      go_quiet (fail)
      go_wp2
      go_roundw
      case rel => exact ⟨k + 1, n + nq, by omega, by go_num, by rw [HN.out, ← HX.out], by rw [HWR.out]; exact World.drewN_drewN _ _ _⟩
      case measure => simp [intOf]; omega
    · obtain rfl : k = s.size := by omega
      have HE := Lib.hid (show s.data.toList.take s.size = s.data.toList from List.take_of_length_le (by simp))
      generalize s.data.toList.take s.size = l at *
      go_wp2
      go_ret
      exact ⟨by rw [HE.out]; rfl, by rw [HWR.out]; exact Below.drewN0 _ _⟩
theorem same_any (s t : ByteArray) (w : World) : Calls Tryd.prog 26 #[.string s, .string t] w fun e w' => e = .returned (.bool (s.toList == t.toList)) ∧ w = w' := by
  go_enter Tryd.func26, Tryd.ntmps26
  go_wp2
  go_ret
  exact ⟨ret_bool (by rfl), rfl⟩
theorem same_aa (w : World) : Calls Tryd.prog 26 #[.string ⟨#[97]⟩, .string ⟨#[97]⟩] w fun e w' => e = .returned (.bool true) ∧ w = w' := by
  have h := same_any ⟨#[97]⟩ ⟨#[97]⟩ w
  rw [beq_self_eq_true] at h
  exact h
theorem same_ab (w : World) : Calls Tryd.prog 26 #[.string ⟨#[97]⟩, .string ⟨#[97, 98]⟩] w fun e w' => e = .returned (.bool false) ∧ w = w' := by
  have h := same_any ⟨#[97]⟩ ⟨#[97, 98]⟩ w
  rw [show ((ByteArray.mk #[97]).toList == (ByteArray.mk #[97, 98]).toList) = false by rw [Lib.toList_data, Lib.toList_data]; rfl] at h
  exact h
theorem hex_of (l m : List UInt8) (hm : hexL (sumL l) = m) (d : ByteArray) (hd : d = ⟨(sumL l).toArray⟩) (hl : (sumL l).length ≤ 100000) (w : World) :
    Calls Tryd.prog 22 #[.string d] w fun e w' => e = .returned (.string ⟨m.toArray⟩) ∧ Below w.heap.size w w' := by
  subst hm
  subst hd
  exact hex_any ⟨(sumL l).toArray⟩ (by rw [size_mk]; exact hl) w
theorem sumL_length (l : List UInt8) : (sumL l).length = 32 := by rw [sumL, joinL_length]; rfl
theorem sum_lit (l : List UInt8) (hl : l.length ≤ 1000000000) (d : ByteArray) (hd : d = ⟨(sumL l).toArray⟩) (w : World) (hK : Consts w) :
    Calls Tryd.prog 18 #[.string ⟨l.toArray⟩] w fun e w' => e = .returned (.string d) ∧ Below w.heap.size w w' := by
  subst hd
  have h := sum_any ⟨l.toArray⟩ (by rw [size_mk]; exact hl) w hK
  rw [show (ByteArray.mk l.toArray).data.toList = l from List.toList_toArray] at h
  exact h
end Go.Proofs.YtelplkidippclaaDoor
