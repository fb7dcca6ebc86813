/-
  digest: the contract of Pad.
-/
import Derived.Test.YtlkdofghhibmbaaDoorDig4
import Derived.Test.YtlkdofghhibmbaaDoorShelf
namespace Go.Proofs.YtlkdofghhibmbaaDoor
open Go.RowKit Go.Kx
set_option maxRecDepth 20000

theorem repeat0 (z : Nat) : Lib.repeatL [0] z = List.replicate z 0 := by
  induction z with
  | zero => rfl
  | succ z ih => rw [Lib.repeatL, ih]; rfl
theorem pad_no (n : Int) (hn : n < 0 ∨ 1000000000 < n) (w : World) :
    Calls Tryd.prog 28 #[.int .i64 n] w fun e w' => e = .returned (.tuple #[.string ⟨#[]⟩, .bool false]) ∧ w = w' := by
  by_cases h : n < 0
  · go_enter Tryd.func28, Tryd.ntmps28
    go_wp2
    go_ret2
    exact ⟨rfl, rfl⟩
  · have h2 : 1000000000 < n := by omega
    go_enter Tryd.func28, Tryd.ntmps28
    go_wp2
    go_ret2
    exact ⟨rfl, rfl⟩

set_option maxHeartbeats 1000000 in
theorem pad_yes (n : Nat) (hn : n ≤ 1000000000) (w : World) :
    Calls Tryd.prog 28 #[.int .i64 n] w fun e w' => e = .returned (.tuple #[.string ⟨(padL n).toArray⟩, .bool true]) ∧ Below w.heap.size w w' := by
  have h1 : ¬ (n : Int) < 0 := by omega
  have h2 : ¬ 1000000000 < (n : Int) := by omega
  have e1 : (8 * (n : Int)) / 4294967296 = ((8 * n / 4294967296 : Nat) : Int) := by omega
  have e2 : (8 * (n : Int)) % 4294967296 = ((8 * n % 4294967296 : Nat) : Int) := by omega
  have hl := joinL_length true [8 * n / 4294967296, 8 * n % 4294967296]
  have hx : ∀ x ∈ [8 * n / 4294967296, 8 * n % 4294967296], x < 4294967296 := by simp; omega
  have HP := Lib.hid (show padL n = 128 :: (List.replicate ((64 - (n + 9) % 64) % 64) 0 ++ joinL true [8 * n / 4294967296, 8 * n % 4294967296]) from rfl)
  generalize 8 * n / 4294967296 = a at *
  generalize 8 * n % 4294967296 = b at *
  go_enter Tryd.func28, Tryd.ntmps28
  go_wp2_with fail
  refine (join_any _ _ [a, b] true _ (by simp) (Sl.new _ _ _) hx).mono ?_
  rintro e w1 ⟨rfl, hb1⟩
  go_wp2_with fail
  have e3 : (-(((n : Int) + 1 + 8) % 64) % 64) = (((64 - (n + 9) % 64) % 64 : Nat) : Int) := by omega
  have hz : (64 - (n + 9) % 64) % 64 < 64 := Nat.mod_lt _ (by omega)
  rw [e3]
  clear e3
  generalize (64 - (n + 9) % 64) % 64 = z at *
  have hrep := repeat0 z
  have hA : ∀ W : World, (Op.stringOp .add ⟨#[128]⟩ ⟨(List.replicate z 0).toArray⟩).run Tryd.prog W = .ok (.string ⟨(128 :: List.replicate z 0).toArray⟩) W := fun W => str_add [128] _ (by simp; omega) W
  have hB : ∀ W : World, (Op.stringOp .add ⟨(128 :: List.replicate z 0).toArray⟩ ⟨(joinL true [a, b]).toArray⟩).run Tryd.prog W = .ok (.string ⟨(padL n).toArray⟩) W := fun W => by
    rw [HP.out]
    exact str_add (128 :: List.replicate z 0) _ (by rw [hl]; simp; omega) W
  refine (Tryd.strings_Repeat ⟨#[0]⟩ z _ (by omega) (by simp [ByteArray.size]; omega)).mono ?_
  rintro e w2 ⟨rfl, hb2⟩
  rw [show (ByteArray.mk #[0]).data.toList = [0] from rfl, hrep]
  clear hrep
  generalize hq : (128 :: List.replicate z (0 : UInt8)).toArray = q at *
  clear hq
  generalize (List.replicate z (0 : UInt8)).toArray = r at *
  generalize hpad : (padL n).toArray = pd at *
  have HPD := Lib.hid hpad
  clear hpad
  go_wp2
  go_ret2
  exact ⟨by rw [HPD.out]; rfl, (Below.alloc0 _ _).next (hb1.next hb2)⟩
end Go.Proofs.YtlkdofghhibmbaaDoor
