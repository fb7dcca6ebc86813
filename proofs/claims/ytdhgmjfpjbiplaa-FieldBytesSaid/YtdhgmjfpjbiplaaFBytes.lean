/-
  keyholelaw07.FieldBytes: the walk.
-/
import Derived.Test.YtdhgmjfpjbiplaaFld4
import Derived.Test.YtdhgmjfpjbiplaaFld6
namespace Go.Proofs.Ytdhgmjfpjbiplaa
open Go.RowKit Go.Kx
set_option maxRecDepth 20000

set_option maxHeartbeats 4000000 in
theorem bytes_yes (a : Int) (s : ByteArray) (w : World) : Calls Try.prog 4 #[.int .i64 a, .string s] w fun e w' => e = .returned (.bool true) ∧ Below w.heap.size w w' := by
  by_cases hs : (300 : Int) < (s.size : Int)
  · go_enter Try.func4, Try.ntmps4
    go_wp2
    go_ret
    exact ⟨rfl, Below.refl _ _⟩
  · obtain ⟨⟨r, b⟩, hr⟩ : ∃ r, bytesA a s = r := ⟨_, rfl⟩
    have HB : Hid (∀ (g : Nat) (V : World), Fld V g → Calls Try.prog 20 #[.pointer (some ⟨g, 0, none⟩), .int .i64 a, .string s] V fun e w' => e = strB (r, b) ∧ Below V.heap.size V w') := Lib.hid fun g V hf => by rw [← hr]; exact fbytes_any g a s (by omega) V hf
    have HC : Hid (∀ V : World, Calls Try.prog 21 #[.int .i64 a, .string s] V fun e w' => e = strB (r, b) ∧ Below V.heap.size V w') := Lib.hid fun V => by rw [← hr]; exact rfbytes_any a s (by omega) V
    clear hr
    go_enter Try.func4, Try.ntmps4
    go_wp2_with fail
    refine (new_any _).mono ?_
    rintro e w1 ⟨rfl, hf, hb⟩
    generalize w.heap.size = g at hf ⊢
    go_wp2_with fail
    refine (HB.out g _ hf).mono ?_
    rintro e w2 ⟨rfl, hb2⟩
    replace hb := hb.next' hb2
    unfold strB
    go_wp2_with fail
    refine (HC.out _).mono ?_
    rintro e w3 ⟨rfl, hb3⟩
    replace hb := hb.next' hb3
    unfold strB
    go_wp2_with fail
    refine (fbytes_none _ _ _).mono ?_
    rintro e w4 ⟨rfl, rfl⟩
    unfold strB
    go_wp2_with fail
    refine (mul_none _ _ _).mono ?_
    rintro e w5 ⟨rfl, rfl⟩
    unfold two
    go_wp2_with fail
    refine (inv_none _ _).mono ?_
    rintro e w5 ⟨rfl, rfl⟩
    unfold two
    go_wp2_with fail
    refine (div_none _ _ _).mono ?_
    rintro e w5 ⟨rfl, rfl⟩
    unfold two
    go_wp2_with fail
    refine (pow_none _ _ _).mono ?_
    rintro e w5 ⟨rfl, rfl⟩
    unfold two
    go_wp2_with fail
    refine (fields_any _).mono ?_
    rintro e w6 ⟨rfl, hb6⟩
    replace hb := hb.next' hb6
    go_wp2
    go_ret
    exact ⟨rfl, hb⟩
end Go.Proofs.Ytdhgmjfpjbiplaa
