/-
  stream's rows of the document, as the layer's laws call them.
-/
import Derived.Test.YtkekdcaemdlmiaaDoorStr7
import Derived.Test.YtkekdcaemdlmiaaDoorMany
import Derived.Lib.Strings
namespace Go.Proofs.YtkekdcaemdlmiaaDoor
open Go.RowKit Go.Kx
set_option maxRecDepth 20000

theorem run_slice_to' {P : Program} {t : TypeId} (h : P.underlying t = some .string) (s : ByteArray) (hi : Int) (h0 : 0 ≤ hi) (h2 : hi ≤ (s.size : Int)) (V : World) :
    (Instr.slice t (.string s) none (some (.int .i64 hi)) none).run P V = .ok (.string (s.extract 0 hi.toNat)) V := by
  obtain ⟨l, rfl⟩ := Int.eq_ofNat_of_zero_le h0
  have e2 : (Instr.sliceBound (.int .i64 (l : Int)) s.size .sliceAlen).run P V = .ok l V := by
    simp only [Instr.sliceBound, asIntOf, Sem.run_bind, Sem.run_pure, Result.andThen_ok, if_pos (show 0 ≤ (l : Int) ∧ (l : Int) ≤ (s.size : Int) by omega), Int.toNat_natCast]
  simp only [Instr.slice, Instr.sliceBounds, Sem.run_bind, run_underlying h, Result.andThen_ok, Option.isSome_none, Bool.false_eq_true, if_false, Sem.run_pure, e2, Int.toNat_natCast]
theorem rmany_v (n : Nat) (m : Int) (hm : (n : Int) = m) (hn : n ≤ 100000) (r : ByteArray) (hr : zeroB n = r) (w : World) :
    Calls Tryd.prog 14 #[.int .u8 0, .int .i64 m] w fun e w' => e = .returned (.string r) ∧ Below w.heap.size w w' := by
  subst hm hr
  exact rmany_any 0 n hn w
set_option maxHeartbeats 1000000 in
theorem streams_any (w : World) (hK : Places w) : Calls Tryd.prog 7 #[] w fun e w' => e = .returned (.bool true) ∧ Below w.heap.size w w' := by
  obtain ⟨k, hk⟩ : ∃ k, zeroB 32 = k := ⟨_, rfl⟩
  obtain ⟨c, hc⟩ : ∃ c, zeroB 12 = c := ⟨_, rfl⟩
  obtain ⟨b, hb⟩ : ∃ b : ByteArray, ⟨(bytesL (startL k c 0)).toArray⟩ = b := ⟨_, rfl⟩
  have hks : k.size = 32 := by rw [← hk]; rfl
  have hcs : c.size = 12 := by rw [← hc]; rfl
  have hbs : b.size = 64 := by rw [← hb, size_mk, bytesL_length]
  have hbt : b.extract 0 4 = ⟨#[118, 184, 224, 173]⟩ := by
    rw [← hb, ← hk, ← hc]
    apply ByteArray.ext
    apply Array.toList_inj.1
    rw [Lib.extract_data]
    exact block_example
  have hsl : ∀ V : World, (Instr.slice 9 (.string b) none (some (.int .i64 4)) none).run Tryd.prog V = .ok (.string ⟨#[118, 184, 224, 173]⟩) V := fun V => by
    rw [run_slice_to' Tryd.underlying9 b 4 (by omega) (by omega), show (4 : Int).toNat = 4 from rfl, hbt]
  have HT : Hid (∀ V : World, Calls Tryd.prog 12 #[.int .i64 286331153, .int .i64 16909060, .int .i64 2609737539, .int .i64 19088743] V fun e w' => e = .returned (.tuple #[.int .i64 3928658676, .int .i64 3407673550, .int .i64 1166100270, .int .i64 1484899515, .bool true]) ∧ Below V.heap.size V w') :=
    Lib.hid fun V => turn_any 286331153 16909060 2609737539 19088743 (by omega) (by omega) (by omega) (by omega) _ turn_example V
  have HB : Hid (∀ V : World, Places V → Calls Tryd.prog 13 #[.string k, .string c, .int .i64 0] V fun e w' => e = .returned (.tuple #[.string b, .int .i64 0]) ∧ Below V.heap.size V w') :=
    Lib.hid fun V hV => block_yes k c 0 hks hcs (by omega) b hb V hV
  have HN : Hid (∀ V : World, Calls Tryd.prog 13 #[.string ⟨#[]⟩, .string ⟨#[]⟩, .int .i64 0] V fun e w' => e = .returned (.tuple #[.string ⟨#[]⟩, .int .i64 1]) ∧ Below V.heap.size V w') :=
    Lib.hid fun V => block_no ⟨#[]⟩ ⟨#[]⟩ 0 (fun h => absurd h.1 (by decide)) V
  have HK := Lib.hid hk
  have HC := Lib.hid hc
  clear hk hc hb hks hcs hbt
  go_enter Tryd.func7, Tryd.ntmps7
  go_wp2_with fail
  refine (HT.out _).mono ?_
  rintro e w1 ⟨rfl, hb1⟩
  go_wp2_with fail
  refine (rmany_v 32 32 rfl (by omega) k HK.out _).mono ?_
  rintro e w2 ⟨rfl, hb2⟩
  go_wp2_with fail
  refine (rmany_v 12 12 rfl (by omega) c HC.out _).mono ?_
  rintro e w3 ⟨rfl, hb3⟩
  go_wp2_with fail
  have hb13 := hb1.next (hb2.next hb3)
  refine (HB.out _ (hK.keep hb13)).mono ?_
  rintro e w4 ⟨rfl, hb4⟩
  go_wp2_with fail
  refine (HN.out _).mono ?_
  rintro e w5 ⟨rfl, hb5⟩
  go_wp2
  go_ret
  exact ⟨rfl, hb13.next (hb4.next hb5)⟩
end Go.Proofs.YtkekdcaemdlmiaaDoor
