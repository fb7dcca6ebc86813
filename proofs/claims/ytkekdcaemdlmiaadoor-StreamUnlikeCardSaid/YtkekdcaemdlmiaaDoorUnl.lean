/-
  keyholeref01.Unlike: the contract; slices that a walk appends to (parts of Ref1, Ref4, Ref6 and Ref7 for seats without digest's reference: never beside them).
-/
import Derived.Test.YtkekdcaemdlmiaaDoorDig4
import Derived.Deep.AppendLies
import Derived.Deep.RegionLaw
namespace Go.Proofs.YtkekdcaemdlmiaaDoor
open Go.RowKit Go.Kx
set_option maxRecDepth 20000

theorem mod_up (x i : Nat) : x % 2 ^ (i + 1) = x % 2 ^ i + 2 ^ i * (x / 2 ^ i % 2) := by rw [Nat.pow_succ, Nat.mod_mul]
theorem div_up (x i : Nat) : x / 2 ^ i / 2 = x / 2 ^ (i + 1) := by rw [Nat.div_div_eq_div_mul, Nat.pow_succ]
theorem bit_of (x i : Nat) : x / 2 ^ i % 2 = (x.testBit i).toNat := by rw [Nat.testBit_eq_decide_div_mod_eq]; rcases Nat.mod_two_eq_zero_or_one (x / 2 ^ i) with h | h <;> simp [h]
theorem xor_up (a b i : Nat) : (a ^^^ b) / 2 ^ i % 2 = if a / 2 ^ i % 2 = b / 2 ^ i % 2 then 0 else 1 := by
  rw [bit_of, bit_of, bit_of, Nat.testBit_xor]
  cases a.testBit i <;> cases b.testBit i <;> rfl
theorem pow_le32 {i : Nat} (h : i ≤ 32) : 2 ^ i ≤ 4294967296 := Nat.pow_le_pow_right (by omega) h
theorem unlike_any (a b : Nat) (ha : a < 4294967296) (hb : b < 4294967296) (w : World) :
    Calls Tryd.prog 15 #[.int .i64 a, .int .i64 b] w fun e w' => e = .returned (.int .i64 (a ^^^ b : Nat)) ∧ w' = w := by
  go_enter Tryd.func15, Tryd.ntmps15
  go_wp2
  go_loop [0, 1, 5, 6, 7] (fun va vb vn vw vi => ∃ k A B n q : Nat, k ≤ 32 ∧ vi = .int .i64 k ∧ Hid (A = a / 2 ^ k) ∧ Hid (B = b / 2 ^ k) ∧ Hid (n = (a ^^^ b) % 2 ^ k) ∧ Hid (q = 2 ^ k) ∧ va = .int .i64 A ∧ vb = .int .i64 B ∧ vn = .int .i64 n ∧ vw = .int .i64 q) (fun _ _ _ _ i => 32 - (intOf i).toNat)
  case atStart => exact ⟨0, a, b, 0, 1, by omega, rfl, Lib.hid (by simp), Lib.hid (by simp), Lib.hid (by omega), Lib.hid rfl, rfl, rfl, rfl, rfl⟩
  case round =>
    obtain ⟨k, A, B, n, q, hk, rfl, hA, hB, hn, hq, rfl, rfl, rfl, rfl⟩ := hrel
    have hAl : A < 4294967296 := by rw [hA.out]; exact Nat.lt_of_le_of_lt (Nat.div_le_self _ _) ha
    have hBl : B < 4294967296 := by rw [hB.out]; exact Nat.lt_of_le_of_lt (Nat.div_le_self _ _) hb
    have hql : q ≤ 4294967296 := by rw [hq.out]; exact pow_le32 hk
    have hnl : n < 4294967296 := by rw [hn.out]; exact Nat.lt_of_le_of_lt (Nat.mod_le _ _) (Nat.xor_lt_two_pow (n := 32) ha hb)
    by_cases hl : k < 32
    · have hA' : Hid (A / 2 = a / 2 ^ (k + 1)) := Lib.hid (by rw [hA.out, div_up])
      have hB' : Hid (B / 2 = b / 2 ^ (k + 1)) := Lib.hid (by rw [hB.out, div_up])
      have hq' : Hid (2 * q = 2 ^ (k + 1)) := Lib.hid (by rw [hq.out, Nat.pow_succ, Nat.mul_comm])
      by_cases hp : A % 2 = B % 2
      · have hn' : Hid (n = (a ^^^ b) % 2 ^ (k + 1)) := Lib.hid (by rw [mod_up, xor_up, ← hA.out, ← hB.out, if_pos hp, ← hn.out]; rfl)
        have ht : ((A : Int) % 2 != (B : Int) % 2) = false := by simp; omega
        clear hA hB hn hq hp
        go_wp2
        go_round
        case rel => exact ⟨k + 1, A / 2, B / 2, n, 2 * q, by omega, by go_num, hA', hB', hn', hq', by go_num, by go_num, by go_num, by go_num⟩
        case measure => simp [intOf]; omega
      · have hn' : Hid (n + q = (a ^^^ b) % 2 ^ (k + 1)) := Lib.hid (by rw [mod_up, xor_up, ← hA.out, ← hB.out, if_neg hp, ← hn.out, ← hq.out]; omega)
        have ht : ((A : Int) % 2 != (B : Int) % 2) = true := by simp; omega
        clear hA hB hn hq hp
        go_wp2
        go_round
        case rel => exact ⟨k + 1, A / 2, B / 2, n + q, 2 * q, by omega, by go_num, hA', hB', hn', hq', by go_num, by go_num, by go_num, by go_num⟩
        case measure => simp [intOf]; omega
    · obtain rfl : k = 32 := by omega
      go_wp2
      go_ret
      exact ⟨ret_int (by rw [hn.out, Nat.mod_eq_of_lt (Nat.xor_lt_two_pow (n := 32) ha hb)]), rfl⟩
theorem unlike_v (a b : Nat) (ha : a < 4294967296) (hb : b < 4294967296) (y : Nat) (hy : a ^^^ b = y) (w : World) :
    Calls Tryd.prog 15 #[.int .i64 a, .int .i64 b] w fun e w' => e = .returned (.int .i64 (y : Nat)) ∧ w' = w := by
  subst hy; exact unlike_any a b ha hb w
theorem own_sl {w : World} {base : Nat} {e : TypeId} {v : Value} {n : Nat} {xs : List Value} (h : w.ownsRow base e 1 v n xs) : ∃ A c, v = .slice A n c ∧ Sl w A xs := by
  have hl := h.1
  rcases Nat.eq_zero_or_pos n with h0 | h0
  · subst h0
    have hx : xs = [] := List.eq_nil_of_length_eq_zero (by simpa using hl)
    subst hx
    rcases h.2 with ⟨rfl, _⟩ | ⟨g, cap, cur, rfl, _⟩
    · exact ⟨_, _, rfl, .inl rfl⟩
    · exact ⟨_, _, rfl, .inl rfl⟩
  · obtain ⟨g, cap, hv, _, hlt⟩ := h.form h0
    subst hv
    refine ⟨_, _, rfl, .inr ⟨g, 0, rfl, hlt, fun j u hu => ?_⟩⟩
    have := h.cells (g := g) rfl j u hu
    rw [Nat.zero_add]
    rw [← this]
    congr 1
    unfold Addr.add
    split <;> simp_all
theorem own_below {w wr w1 : World} {e : TypeId} {v : Value} {n : Nat} {xs : List Value} (hown : wr.ownsRow w.heap.size e 1 v n xs) (hb : Below w.heap.size w wr) (hg : wr.grownBy w1 v.ownBlock) : Below w.heap.size w w1 :=
  hb.grown hg hb.size (fun k hk => (hown.lt k hk).1)
def byts (l : List UInt8) : List Value := l.map (fun b : UInt8 => Value.int .u8 (b.toNat : Int))
theorem byts_snoc (l : List UInt8) (b : UInt8) : byts l ++ [Value.int .u8 (b.toNat : Int)] = byts (l ++ [b]) := by simp [byts]
theorem take_snocB {l : List UInt8} {k : Nat} {x : UInt8} (h : l[k]? = some x) : l.take k ++ [x] = l.take (k + 1) := by rw [List.take_add_one, h]; rfl
theorem own_str {w : World} {B0 : Nat} {v : Value} {l : List UInt8} (h : w.ownsRow B0 5 1 v l.length (byts l)) :
    ∃ A c, v = .slice A l.length c ∧ (0 < l.length → (convert 35 9 v).run Tryd.prog w = .ok (.string ⟨l.toArray⟩) w) := by
  obtain ⟨A, c, rfl, hs⟩ := own_sl h
  refine ⟨A, c, rfl, fun h0 => ?_⟩
  rcases hs with hs | ⟨b, off, rfl, _, hc⟩
  · have : l = [] := by simpa [byts] using hs
    subst this
    simp at h0
  · refine run_convert_bytes_back (P := Tryd.prog) w 35 9 5 ⟨b, off, none⟩ c l Tryd.underlying35 Tryd.underlying5 Tryd.underlying9 (fun j hj => ?_)
    rw [show (⟨b, off, none⟩ : Addr).add j = ⟨b, off + j, none⟩ by unfold Addr.add; split <;> simp_all]
    rw [hc j (.int .u8 (l[j].toNat : Int)) (by simp [byts, hj])]
end Go.Proofs.YtkekdcaemdlmiaaDoor
