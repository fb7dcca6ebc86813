/-
  word: the contracts of Xor and Rot.
-/
import Derived.Test.YtlkdofghhibmbaaDoorWord
namespace Go.Proofs.YtlkdofghhibmbaaDoor
open Go.RowKit Go.Kx
theorem xor_any (a b : Nat) (ha : a < 4294967296) (hb : b < 4294967296) (w : World) :
   Calls Tryd.prog 86 #[.int .i64 a, .int .i64 b] w fun e w' => e = .returned (.tuple #[.int .i64 (a ^^^ b : Nat), .bool true]) ∧ Below w.heap.size w w' := by
  have h1 : okW a = true := okW_t (by omega) (by omega)
  have h2 : okW b = true := okW_t (by omega) (by omega)
  go_enter Tryd.func86, Tryd.ntmps86
  go_wp2_with (go_at_call 47; refine (is_two a b _ _ _ rfl).mono ?_; rintro e w' ⟨rfl, rfl⟩)
  go_ret2
  exact ⟨ret_int_bool (int_xor (a := a) (b := b) (by omega) (by omega)) rfl, Below.alloc0 _ _⟩
theorem rot_any (x n : Nat) (hx : x < 4294967296) (hn : n ≤ 32) (w : World) :
   Calls Tryd.prog 87 #[.int .i64 x, .int .i64 n] w fun e w' => e = .returned (.tuple #[.int .i64 (rotN x n : Nat), .bool true]) ∧ Below w.heap.size w w' := by
  have h1 : okW x = true := okW_t (by omega) (by omega)
  have hlt := rotN_lt x n hx hn
  go_enter Tryd.func87, Tryd.ntmps87
  go_wp2_with (first | (go_at_call 47; refine (is_one x _ _ _ rfl).mono ?_; rintro e w' ⟨rfl, rfl⟩) | (go_at_call 83; refine (rotl_any x n hx hn _).mono ?_; rintro e w' ⟨rfl, rfl⟩))
  go_ret2
  exact ⟨rfl, Below.alloc0 _ _⟩

end Go.Proofs.YtlkdofghhibmbaaDoor
