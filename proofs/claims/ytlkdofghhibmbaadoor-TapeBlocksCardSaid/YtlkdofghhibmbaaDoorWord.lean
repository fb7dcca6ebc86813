/-
  word: the contracts of its functions.
-/
import Derived.Test.YtlkdofghhibmbaaDoorChecked
import Derived.Test.YtlkdofghhibmbaaDoorWords
import Derived.Test.YtlkdofghhibmbaaDoorInfo
import Derived.StillTailTactics
import Derived.Deep.OwnRows
import Derived.Deep.QuietTactic
import Derived.BigQuiet
namespace Go.Proofs.YtlkdofghhibmbaaDoor
open Go.RowKit Go.Kx
set_option maxRecDepth 20000

def okW (x : Int) : Bool := decide (0 ≤ x) && decide (x ≤ 4294967295)
theorem okW_t {x : Int} (h0 : 0 ≤ x) (h1 : x ≤ 4294967295) : okW x = true := by simp [okW, h0, h1]
theorem okW_lo {x : Int} (h0 : x < 0) : okW x = false := by simp [okW]; omega
theorem okW_hi {x : Int} (h0 : 4294967295 < x) : okW x = false := by simp [okW]; omega
theorem all_bad {xs : List Int} {k : Nat} {x : Int} (h : xs[k]? = some x) (hb : okW x = false) : xs.all okW = false := by
  rw [List.all_eq_false]
  exact ⟨x, List.mem_of_getElem? h, by simp [hb]⟩
theorem all_snoc {xs : List Int} {k : Nat} {x : Int} (h : xs[k]? = some x) (ha : (xs.take k).all okW = true) (hb : okW x = true) : (xs.take (k + 1)).all okW = true := by
  rw [List.take_add_one, List.all_append, ha, h]
  simp [hb]

theorem is_any (A : Option Addr) (c : Nat) (xs : List Int) (w : World) (hm : xs.length ≤ 9223372036854775807) (hs : Sl w A (xs.map (.int .i64))) :
    Calls Tryd.prog 47 #[.slice A xs.length c] w fun e w' => e = .returned (.bool (xs.all okW)) ∧ w = w' := by
  go_enter Tryd.func47, Tryd.ntmps47
  go_wp2
  go_loop [4, 7] (fun _ i => ∃ k : Nat, k ≤ xs.length ∧ i = .int .i64 k ∧ (xs.take k).all okW = true) (fun _ i => xs.length - (intOf i).toNat)
  case atStart => exact ⟨0, Nat.zero_le _, rfl, rfl⟩
  case round =>
    obtain ⟨k, hk, rfl, ha⟩ := hrel
    by_cases hlt : k < xs.length
    · obtain ⟨b, off, u, rfl, hu, hcell⟩ := hs.at_ (k := k) (by simpa using hlt)
      obtain ⟨x, hx, rfl⟩ : ∃ x, xs[k]? = some x ∧ .int .i64 x = u := by simpa using hu
      have HB := Lib.hid (@all_bad xs k x hx)
      have HG := Lib.hid (all_snoc hx ha)
      clear ha hs hx hu
      by_cases h0 : x < 0
      · go_wp2
        go_ret
        exact ⟨ret_bool (HB.out (okW_lo h0)).symm, rfl⟩
      · by_cases h1 : 4294967295 < x
        · go_wp2
          go_ret
          exact ⟨ret_bool (HB.out (okW_hi h1)).symm, rfl⟩
        · go_wp2
          go_round
          case rel => exact ⟨k + 1, by omega, by go_num, HG.out (okW_t (by omega) (by omega))⟩
          case measure => simp [intOf]; omega
    · go_wp2
      go_ret
      exact ⟨ret_bool (by rw [List.take_of_length_le (by omega)] at ha; exact ha.symm), rfl⟩

theorem is_one (a : Int) (t : TypeId) (n : Nat) (w : World) (hn : n = w.heap.size) :
   Calls Tryd.prog 47 #[.slice (some ⟨n, 0, none⟩) 1 1] (w.alloc (.cells #[.int .i64 a] t)) fun e w' => e = .returned (.bool (okW a)) ∧ (w.alloc (.cells #[.int .i64 a] t)) = w' := by
  subst hn
  simpa using is_any (some ⟨w.heap.size, 0, none⟩) 1 [a] (w.alloc (.cells #[.int .i64 a] t)) (by simp) (Sl.new w t #[.int .i64 a])
theorem is_two (a b : Int) (t : TypeId) (n : Nat) (w : World) (hn : n = w.heap.size) :
   Calls Tryd.prog 47 #[.slice (some ⟨n, 0, none⟩) 2 2] (w.alloc (.cells #[.int .i64 a, .int .i64 b] t)) fun e w' => e = .returned (.bool (okW a && okW b)) ∧ (w.alloc (.cells #[.int .i64 a, .int .i64 b] t)) = w' := by
  subst hn
  simpa using is_any (some ⟨w.heap.size, 0, none⟩) 2 [a, b] (w.alloc (.cells #[.int .i64 a, .int .i64 b] t)) (by simp) (Sl.new w t #[.int .i64 a, .int .i64 b])

/-! ### Add -/
def addL (xs : List Nat) : Nat := xs.foldl (fun s x => (s + x) % 4294967296) 0
theorem addL_snoc (xs : List Nat) (x : Nat) : addL (xs ++ [x]) = (addL xs + x) % 4294967296 := by simp [addL, List.foldl_append]
theorem addL_lt (xs : List Nat) : addL xs < 4294967296 := by
  rcases List.eq_nil_or_concat xs with rfl | ⟨ys, y, rfl⟩
  · decide
  · rw [List.concat_eq_append, addL_snoc]; exact Nat.mod_lt _ (by omega)
theorem and_word (a : Nat) (ha : a < 9223372036854775808) : bits .and .i64 (a : Int) 4294967295 = ((a % 4294967296 : Nat) : Int) := by
  rw [show (4294967295 : Int) = ((4294967295 : Nat) : Int) from rfl, int_and ha (by omega), show (4294967295 : Nat) = 2 ^ 32 - 1 from rfl, Nat.and_two_pow_sub_one_eq_mod]
theorem all_ok (xs : List Nat) (h : ∀ x ∈ xs, x < 4294967296) : (xs.map (fun x : Nat => (x : Int))).all okW = true := by
  rw [List.all_eq_true]
  intro y hy
  obtain ⟨x, hx, rfl⟩ := List.mem_map.1 hy
  have := h x hx
  exact okW_t (by omega) (by omega)
def ints (xs : List Nat) : List Value := xs.map (fun x : Nat => Value.int .i64 (x : Int))
theorem ints_map (xs : List Nat) : (xs.map (fun x : Nat => (x : Int))).map (Value.int .i64) = ints xs := by simp [ints]
theorem is_nats (A : Option Addr) (c : Nat) (xs : List Nat) (w : World) (hm : xs.length ≤ 9223372036854775807) (hs : Sl w A (ints xs)) (hok : ∀ x ∈ xs, x < 4294967296) :
    Calls Tryd.prog 47 #[.slice A xs.length c] w fun e w' => e = .returned (.bool true) ∧ w = w' := by
  have h := is_any A c (xs.map (fun x : Nat => (x : Int))) w (by simpa using hm) (by rw [ints_map]; exact hs)
  rw [all_ok xs hok] at h
  simpa using h
theorem add_any (A : Option Addr) (c : Nat) (xs : List Nat) (w : World) (hm : xs.length ≤ 9223372036854775807) (hs : Sl w A (ints xs)) (hok : ∀ x ∈ xs, x < 4294967296) :
    Calls Tryd.prog 50 #[.slice A xs.length c] w fun e w' => e = .returned (.tuple #[.int .i64 (addL xs), .bool true]) ∧ w = w' := by
  have HOK := Lib.hid hok
  clear hok
  go_enter Tryd.func50, Tryd.ntmps50
  go_wp2_with (go_at_call 47; refine (is_nats A c xs _ hm hs HOK.out).mono ?_; rintro e w' ⟨rfl, rfl⟩)
  go_loop [4, 6, 12] (fun s _ i => ∃ k : Nat, k ≤ xs.length ∧ i = .int .i64 k ∧ s = .int .i64 (addL (xs.take k))) (fun _ _ i => xs.length - (intOf i).toNat)
  case atStart => exact ⟨0, Nat.zero_le _, rfl, rfl⟩
  case round =>
    obtain ⟨k, hk, rfl, rfl⟩ := hrel
    by_cases hlt : k < xs.length
    · obtain ⟨b, off, u, rfl, hu, hcell⟩ := hs.at_ (k := k) (by simpa [ints] using hlt)
      obtain ⟨x, hx, rfl⟩ : ∃ x, xs[k]? = some x ∧ .int .i64 (x : Int) = u := by simpa [ints] using hu
      have hx2 : x < 4294967296 := HOK.out x (List.mem_of_getElem? hx)
      have hst : addL (xs.take (k + 1)) = (addL (xs.take k) + x) % 4294967296 := by rw [List.take_add_one, hx]; exact addL_snoc _ _
      have hlt2 := addL_lt (xs.take k)
      have HST := Lib.hid hst
      clear hs hu hx hst
      generalize addL (xs.take k) = a at *
      have hand : bits .and .i64 ((a : Int) + (x : Int)) 4294967295 = (((a + x) % 4294967296 : Nat) : Int) := by rw [← and_word (a + x) (by omega)]; push_cast; rfl
      go_wp2
      go_round
      case rel => exact ⟨k + 1, by omega, by go_num, by rw [HST.out]; first | rfl | (rw [Int.natCast_emod, Int.natCast_add]; rfl)⟩
      case measure => simp [intOf]; omega
    · obtain rfl : k = xs.length := by omega
      go_wp2
      go_ret2
      exact ⟨ret_int_bool (by first | rfl | rw [List.take_length]) rfl, rfl⟩

/-! ### Rot -/
def rotN (x n : Nat) : Nat := (x * 2 ^ n) % 4294967296 + x / 2 ^ (32 - n)
theorem rot_or (x s : Nat) (hx : x < 4294967296) (hs : s < 32) : (x * 2 ^ s % 4294967296) ||| (x / 2 ^ (32 - s)) = rotN x s := by
  have hp : 2 ^ s * 2 ^ (32 - s) = 4294967296 := by rw [← Nat.pow_add, show s + (32 - s) = 32 from by omega]
  have h1 : x * 2 ^ s % 4294967296 % 2 ^ s = 0 := by
    rw [← hp, Nat.mod_mul_right_mod]; exact Nat.mul_mod_left _ _
  have h2 : x / 2 ^ (32 - s) < 2 ^ s := by
    rw [Nat.div_lt_iff_lt_mul (Nat.two_pow_pos _), hp]; exact hx
  exact nat_join s _ _ h1 h2
theorem rotN_lt (x n : Nat) (hx : x < 4294967296) (hn : n ≤ 32) : rotN x n < 4294967296 := by
  rcases Nat.eq_or_lt_of_le hn with rfl | hn
  · show x * 4294967296 % 4294967296 + x / 1 < _; omega
  · rw [← rot_or x n hx hn]
    have h2 : x / 2 ^ (32 - n) ≤ x := Nat.div_le_self _ _
    exact Nat.or_lt_two_pow (n := 32) (Nat.mod_lt _ (by omega)) (by omega)
theorem rotN_32 (x : Nat) : rotN x 32 = x := by show x * 4294967296 % 4294967296 + x / 1 = x; omega
theorem rotN_mod (x n : Nat) (hx : x < 4294967296) (hn : n ≤ 32) : rotN x (n % 32) = rotN x n := by
  rcases Nat.eq_or_lt_of_le hn with rfl | hn
  · rw [rotN_32]; show x * 1 % 4294967296 + x / 4294967296 = x; omega
  · rw [Nat.mod_eq_of_lt hn]
theorem rotN_back (x n : Nat) (hx : x < 4294967296) (hn : n ≤ 32) : rotN (rotN x n) (32 - n) = x := by
  have hp : 2 ^ n * 2 ^ (32 - n) = 4294967296 := by rw [← Nat.pow_add, show n + (32 - n) = 32 from by omega]
  have hq : x / 2 ^ (32 - n) < 2 ^ n := by rw [Nat.div_lt_iff_lt_mul (Nat.two_pow_pos _), hp]; exact hx
  have hdm := Nat.div_add_mod x (2 ^ (32 - n))
  have hr : x % 2 ^ (32 - n) < 2 ^ (32 - n) := Nat.mod_lt _ (Nat.two_pow_pos _)
  have hA : 0 < 2 ^ n := Nat.two_pow_pos _
  unfold rotN
  rw [show 32 - (32 - n) = n from by omega]
  generalize 2 ^ n = A at *
  generalize 2 ^ (32 - n) = B at *
  generalize x / B = q at *
  generalize x % B = r at *
  subst hdm
  have e1 : (B * q + r) * A % 4294967296 = r * A := by
    have : (B * q + r) * A = r * A + 4294967296 * q := by rw [← hp, Nat.add_mul]; ac_rfl
    rw [this, Nat.add_mul_mod_self_left]
    apply Nat.mod_eq_of_lt
    rw [← hp, Nat.mul_comm A B]
    exact Nat.mul_lt_mul_of_pos_right hr hA
  rw [e1]
  have e2 : (r * A + q) * B % 4294967296 = q * B := by
    have : (r * A + q) * B = q * B + 4294967296 * r := by rw [← hp, Nat.add_mul]; ac_rfl
    rw [this, Nat.add_mul_mod_self_left]
    apply Nat.mod_eq_of_lt
    rw [← hp]
    exact Nat.mul_lt_mul_of_pos_right hq (by omega)
  have e3 : (r * A + q) / A = r := by
    rw [Nat.mul_comm r A, Nat.mul_add_div hA, Nat.div_eq_of_lt hq]; rfl
  rw [e2, e3, Nat.mul_comm q B]
theorem u64_and_31 (n : Nat) (h : n < 18446744073709551616) : bits .and .u64 (n : Int) 31 = ((n % 32 : Nat) : Int) := by
  rw [show (31 : Int) = ((31 : Nat) : Int) from rfl, u64_and_nat n 31 h (by omega), nat_mask5]
theorem rotl_any (x n : Nat) (hx : x < 4294967296) (hn : n ≤ 32) (w : World) :
   Calls Tryd.prog 83 #[.int .u32 x, .int .i64 n] w fun e w' => e = .returned (.int .u32 (rotN x n : Nat)) ∧ w = w' := by
  have HM := Lib.hid (rotN_mod x n hx hn)
  have h1 := u64_and_31 n (by omega)
  have h2 : n % 32 < 32 := Nat.mod_lt _ (by omega)
  generalize n % 32 = s at *
  go_enter Tryd.func83, Tryd.ntmps83
  go_wp2
  go_ret
  refine ⟨ret_int ?_, rfl⟩
  have e1 : ((x : Int) * 2 ^ s % 4294967296) = ((x * 2 ^ s % 4294967296 : Nat) : Int) := by rw [Int.natCast_emod, Int.natCast_mul, Int.natCast_pow]; rfl
  have e2 : ((x : Int) / 2 ^ (32 - s)) = ((x / 2 ^ (32 - s) : Nat) : Int) := by rw [Int.natCast_ediv, Int.natCast_pow]; rfl
  rw [e1, e2, u32_or_nat _ _ (Nat.mod_lt _ (by omega)) (Nat.lt_of_le_of_lt (Nat.div_le_self _ _) hx), rot_or x s hx h2, HM.out]
/-! ### Cut -/
theorem below_any (h : Bool) (w : World) :
   Calls Tryd.prog 54 #[.bool h] w fun e w' => e = .returned (.func (.func 72) #[] #[.pointer (some ⟨w.heap.size, 0, none⟩)]) ∧ w.alloc (.cells #[.bool h] 4) = w' := by
  go_enter Tryd.func54, Tryd.ntmps54
  go_wp2
  go_ret
  exact ⟨rfl, rfl⟩

def shB (h : Bool) (m : Int) : Int := if h then 8 * (3 - m) else 8 * m
def shN (h : Bool) (m : Nat) : Nat := if h then 8 * (3 - m) else 8 * m
theorem shN_le (h : Bool) (m : Nat) (hm : m < 4) : shN h m ≤ 24 := by
  cases h <;> simp [shN] <;> omega
theorem shB_eq (h : Bool) (m : Nat) (hm : m < 4) : shB h (m : Int) = (shN h m : Int) := by
  cases h <;> simp [shB, shN] <;> omega
theorem below1 (h : Bool) (a : Addr) (i : Int) (h0 : 0 ≤ i) (h1 : i ≤ 3) (w : World) (hc : w.cell? a = some (.bool h)) :
   Calls Tryd.prog 72 #[.int .i64 i, .pointer (some a)] w fun e w' => e = .returned (.int .u64 (shB h i)) ∧ w' = w := by
  cases h
  · go_enter Tryd.func72, Tryd.ntmps72
    go_wp2
    go_ret
    exact ⟨rfl, rfl⟩
  · go_enter Tryd.func72, Tryd.ntmps72
    go_wp2
    go_ret
    exact ⟨rfl, rfl⟩

def wd (h : Bool) (a b c d : Nat) : Nat := if h then a * 16777216 + b * 65536 + c * 256 + d else d * 16777216 + c * 65536 + b * 256 + a
def byteAt (s : ByteArray) (k i : Nat) : Nat := if i < k then (s.data.toList.getD i 0).toNat else 0
theorem or_top (x y i : Nat) (hx : x < 2 ^ i) : x ||| y * 2 ^ i = x + y * 2 ^ i := by
  rw [Nat.or_comm, nat_join i (y * 2 ^ i) x (Nat.mul_mod_left _ _) hx]; omega
theorem or_low (x y z i j : Nat) (hx : x = z * 2 ^ j) (hy : y * 2 ^ i < 2 ^ j) : x ||| y * 2 ^ i = x + y * 2 ^ i := by
  subst hx; exact nat_join j _ _ (Nat.mul_mod_left _ _) hy
theorem wd0 (h : Bool) (b : Nat) : wd h 0 0 0 0 ||| b * 2 ^ shN h 0 = wd h b 0 0 0 := by
  cases h <;> simp [wd, shN]
theorem wd1 (h : Bool) (a b : Nat) (ha : a < 256) (hb : b < 256) : wd h a 0 0 0 ||| b * 2 ^ shN h 1 = wd h a b 0 0 := by
  cases h
  · show 0 * 16777216 + 0 * 65536 + 0 * 256 + a ||| b * 2 ^ 8 = 0 * 16777216 + 0 * 65536 + b * 256 + a
    rw [or_top _ _ _ (by omega)]; omega
  · show a * 16777216 + 0 * 65536 + 0 * 256 + 0 ||| b * 2 ^ 16 = a * 16777216 + b * 65536 + 0 * 256 + 0
    rw [or_low _ _ a 16 24 (by omega) (by omega)]; omega
theorem wd2 (h : Bool) (a a1 b : Nat) (ha : a < 256) (h1 : a1 < 256) (hb : b < 256) : wd h a a1 0 0 ||| b * 2 ^ shN h 2 = wd h a a1 b 0 := by
  cases h
  · show 0 * 16777216 + 0 * 65536 + a1 * 256 + a ||| b * 2 ^ 16 = 0 * 16777216 + b * 65536 + a1 * 256 + a
    rw [or_top _ _ _ (by omega)]; omega
  · show a * 16777216 + a1 * 65536 + 0 * 256 + 0 ||| b * 2 ^ 8 = a * 16777216 + a1 * 65536 + b * 256 + 0
    rw [or_low _ _ (a * 256 + a1) 8 16 (by omega) (by omega)]; omega
theorem wd3 (h : Bool) (a a1 a2 b : Nat) (ha : a < 256) (h1 : a1 < 256) (h2 : a2 < 256) (hb : b < 256) : wd h a a1 a2 0 ||| b * 2 ^ shN h 3 = wd h a a1 a2 b := by
  cases h
  · show 0 * 16777216 + a2 * 65536 + a1 * 256 + a ||| b * 2 ^ 24 = b * 16777216 + a2 * 65536 + a1 * 256 + a
    rw [or_top _ _ _ (by omega)]; omega
  · show a * 16777216 + a1 * 65536 + a2 * 256 + 0 ||| b * 2 ^ 0 = a * 16777216 + a1 * 65536 + a2 * 256 + b
    rw [or_low _ _ (a * 65536 + a1 * 256 + a2) 0 8 (by omega) (by omega)]; omega
theorem wrap_shl (b sh : Nat) (hb : b < 256) (hs : sh ≤ 24) : IntKind.i64.wrap ((b : Int) * 2 ^ sh) = ((b * 2 ^ sh : Nat) : Int) := by
  have h1 : (2 : Nat) ^ sh ≤ 2 ^ 24 := Nat.pow_le_pow_right (by omega) hs
  have h2 : b * 2 ^ sh ≤ 255 * 2 ^ 24 := Nat.mul_le_mul (by omega) h1
  have h3 : ((b : Int) * 2 ^ sh) = ((b * 2 ^ sh : Nat) : Int) := by push_cast; rfl
  rw [h3]
  exact IntWalk.i64_in _ (by omega)
theorem byteAt_lt (s : ByteArray) (k i : Nat) : byteAt s k i < 256 := by
  unfold byteAt; split
  · exact UInt8.toNat_lt _
  · omega
theorem byteAt_at (s : ByteArray) (k : Nat) (h : k < s.size) : byteAt s (k + 1) k = s[k].toNat := by
  unfold byteAt
  rw [if_pos (by omega), List.getD_eq_getElem?_getD, List.getElem?_eq_getElem (by simpa using h)]; rfl
theorem byteAt_at0 (s : ByteArray) (k i : Nat) (h : k ≤ i) : byteAt s k i = 0 := by
  unfold byteAt; rw [if_neg (by omega)]
theorem byteAt_ne (s : ByteArray) (k i : Nat) (h : i ≠ k) : byteAt s (k + 1) i = byteAt s k i := by
  unfold byteAt
  by_cases hi : i < k
  · rw [if_pos hi, if_pos (by omega)]
  · rw [if_neg hi, if_neg (by omega)]
def cutRow (h : Bool) (s : ByteArray) (k j : Nat) : Nat := wd h (byteAt s k (4 * j)) (byteAt s k (4 * j + 1)) (byteAt s k (4 * j + 2)) (byteAt s k (4 * j + 3))

theorem wd_lt (h : Bool) (a b c d : Nat) (ha : a < 256) (hb : b < 256) (hc : c < 256) (hd : d < 256) : wd h a b c d < 4294967296 := by
  unfold wd; split <;> omega
theorem cutRow_lt (h : Bool) (s : ByteArray) (k j : Nat) : cutRow h s k j < 4294967296 := wd_lt h _ _ _ _ (byteAt_lt _ _ _) (byteAt_lt _ _ _) (byteAt_lt _ _ _) (byteAt_lt _ _ _)
theorem cutRow_ne (h : Bool) (s : ByteArray) (k j : Nat) (hj : j ≠ k / 4) : cutRow h s (k + 1) j = cutRow h s k j := by
  unfold cutRow
  rw [byteAt_ne _ _ _ (by omega), byteAt_ne _ _ _ (by omega), byteAt_ne _ _ _ (by omega), byteAt_ne _ _ _ (by omega)]
theorem cutRow_at (h : Bool) (s : ByteArray) (k : Nat) (hk : k < s.size) : cutRow h s k (k / 4) ||| s[k].toNat * 2 ^ (shN h (k % 4)) = cutRow h s (k + 1) (k / 4) := by
  obtain ⟨j, m, hm, hkj⟩ : ∃ j m, m < 4 ∧ k = 4 * j + m := ⟨k / 4, k % 4, by omega, by omega⟩
  have e1 : k / 4 = j := by omega
  have e2 : k % 4 = m := by omega
  have hl := byteAt_at s k hk
  have hb : s[k].toNat < 256 := UInt8.toNat_lt _
  rw [e1, e2]
  generalize s[k].toNat = b at hl hb ⊢
  unfold cutRow
  have l0 := byteAt_lt s k (4 * j)
  have l1 := byteAt_lt s k (4 * j + 1)
  have l2 := byteAt_lt s k (4 * j + 2)
  rcases (by omega : m = 0 ∨ m = 1 ∨ m = 2 ∨ m = 3) with rfl | rfl | rfl | rfl
  · have hk0 : 4 * j = k := by omega
    rw [hk0, hl, byteAt_ne _ _ (k + 1) (by omega), byteAt_ne _ _ (k + 2) (by omega), byteAt_ne _ _ (k + 3) (by omega), byteAt_at0 s _ k (by omega), byteAt_at0 s _ (k + 1) (by omega), byteAt_at0 s _ (k + 2) (by omega), byteAt_at0 s _ (k + 3) (by omega)]
    exact wd0 h b
  · have hk0 : 4 * j + 1 = k := by omega
    rw [hk0, hl, byteAt_ne _ _ (4 * j) (by omega), byteAt_ne _ _ (4 * j + 2) (by omega), byteAt_ne _ _ (4 * j + 3) (by omega), byteAt_at0 s _ k (by omega), byteAt_at0 s _ (4 * j + 2) (by omega), byteAt_at0 s _ (4 * j + 3) (by omega)]
    exact wd1 h _ b l0 hb
  · have hk0 : 4 * j + 2 = k := by omega
    rw [hk0, hl, byteAt_ne _ _ (4 * j) (by omega), byteAt_ne _ _ (4 * j + 1) (by omega), byteAt_ne _ _ (4 * j + 3) (by omega), byteAt_at0 s _ k (by omega), byteAt_at0 s _ (4 * j + 3) (by omega)]
    exact wd2 h _ _ b l0 l1 hb
  · have hk0 : 4 * j + 3 = k := by omega
    rw [hk0, hl, byteAt_ne _ _ (4 * j) (by omega), byteAt_ne _ _ (4 * j + 1) (by omega), byteAt_ne _ _ (4 * j + 2) (by omega), byteAt_at0 s _ k (by omega)]
    exact wd3 h _ _ _ b l0 l1 l2 hb
set_option maxHeartbeats 4000000 in
theorem cut_any (s : ByteArray) (h : Bool) (w : World) (hs : s.size ≤ 1000000) (h4 : s.size % 4 = 0) :
   Calls Tryd.prog 48 #[.string s, .bool h] w fun e w' => ∃ b, e = .returned (.tuple #[.slice (some ⟨b, 0, none⟩) (s.size / 4) (s.size / 4), .bool true]) ∧ b = w.heap.size + 1 ∧
     w'.rowIs b 3 (s.size / 4) (fun j => .int .i64 (cutRow h s s.size j)) ∧ Below w.heap.size w w' := by
  have hmk0 := run_make_row' (P := Tryd.prog) 71 3 (.int .i64 0) 8 Tryd.underlying71 int_info rfl .i64 .i64 (s.size / 4) (by omega) (by omega)
  have hq : ((s.size / 4 : Nat) : Int) = (s.size : Int) / 4 := by omega
  rw [hq] at hmk0
  have hmk : ∀ W : World, (Instr.makeSlice 71 (.int .i64 ((s.size : Int) / 4)) (.int .i64 ((s.size : Int) / 4))).run Tryd.prog W = .ok (.slice (some ⟨W.heap.size, 0, none⟩) (s.size / 4) (s.size / 4)) (W.alloc (.cells (madeCells #[.int .i64 0] (s.size / 4)) 3)) := hmk0
  clear hq hmk0
  have he : ((s.size : Int) % 4 != 0) = false := by simp; omega
  go_enter Tryd.func48, Tryd.ntmps48
  go_wp2_with (go_at_call 54; refine (below_any h _).mono ?_; rintro e w' ⟨rfl, rfl⟩)
  go_loopw [8, 21] (fun _ i wr => ∃ k : Nat, k ≤ s.size ∧ i = .int .i64 k ∧ wr.cell? ⟨w.heap.size, 0, none⟩ = some (.bool h) ∧ w.heap.size + 1 < wr.heap.size ∧
      wr.rowIs (w.heap.size + 1) 3 (s.size / 4) (fun j => .int .i64 (cutRow h s k j)) ∧ Below w.heap.size w wr) (fun _ i _ => s.size - (intOf i).toNat)
  case atStart =>
    refine ⟨0, Nat.zero_le _, rfl, by go_simp, by simp, ?_, ((Below.refl _ _).alloc (Nat.le_refl _) _).alloc (by simp) _⟩
    have hr := (World.rowIs_made (w.alloc (.cells #[.bool h] 4)) (.int .i64 0) (s.size / 4) 3).congr (g := fun j => .int .i64 (cutRow h s 0 j)) (fun j _ => by simp [cutRow, byteAt, wd])
    simpa using hr
  case round =>
    obtain ⟨k, hk, rfl, hcell, hsz, hrow, hb⟩ := hrel
    by_cases hlt : k < s.size
    · have hload := hrow.cell (i := k / 4) (by omega)
      have hfz := hrow.frozen (k / 4)
      have hw1 : IntKind.i64.wrap ((k : Int) / 4) = (k : Int) / 4 := IntWalk.i64_in _ (by omega)
      have hn1 : ((k : Int) / 4).toNat = k / 4 := by omega
      have hp1 : (0 : Int) ≤ (k : Int) / 4 := by omega
      have hp2 : (k : Int) / 4 < (s.size : Int) / 4 := by omega
      have hby : s[k].toNat < 256 := UInt8.toNat_lt _
      have hbw : IntKind.i64.wrap ((s[k].toNat : Nat) : Int) = ((s[k].toNat : Nat) : Int) := IntWalk.i64_in _ (by omega)
      have hmod : (k : Int).tmod 4 = ((k % 4 : Nat) : Int) := by rw [Int.tmod_eq_emod_of_nonneg (by omega)]; omega
      obtain ⟨sh, hsh, hsh24, hshB⟩ : ∃ sh : Nat, sh = shN h (k % 4) ∧ sh ≤ 24 ∧ shB h ((k : Int) % 4) = (sh : Int) := ⟨_, rfl, shN_le _ _ (by omega), by rw [← shB_eq h (k % 4) (by omega)]; congr 1⟩
      have hsw : IntKind.i64.wrap ((s[k].toNat : Int) * 2 ^ sh) = ((s[k].toNat * 2 ^ sh : Nat) : Int) := wrap_shl _ sh (by omega) hsh24
      have HSH := Lib.hid hsh
      clear hsh
      go_wp2
      refine wp_region_still_tail 16 (by kernel_rfl) (by kernel_rfl) ?_
      simp only [List.take_succ_cons, List.take_zero, List.drop_succ_cons, List.drop_zero]
      repeat still_step
      still_call (below1 _ _ _ (by omega) (by omega) _ (by assumption))
      rw [hshB]
      clear hshB
      repeat still_step
      refine wpStill_nil ?_
      have hrow2 := hrow.drew
      have hb2 := hb.drew
      have hcell2 : wr.drew.cell? ⟨w.heap.size, 0, none⟩ = some (.bool h) := hcell
      have hsz2 : w.heap.size + 1 < wr.drew.heap.size := hsz
      have hload2 : wr.drew.cell? ⟨w.heap.size + 1, k / 4, none⟩ = _ := hload
      have hfz2 : wr.drew.frozen? ⟨w.heap.size + 1, k / 4, none⟩ = _ := hfz
      change wpList _ _ _ _ _ wr.drew
      clear hrow hb hcell hsz hload hfz
      generalize wr.drew = w2 at *
      go_wp2
      go_roundw
      case rel =>
        have hbit : bits .or .i64 ((cutRow h s k (k / 4) : Nat) : Int) ((s[k].toNat : Int) * 2 ^ sh) = ((cutRow h s (k + 1) (k / 4) : Nat) : Int) := by
          have hlt1 := cutRow_lt h s k (k / 4)
          have e : ((s[k].toNat : Int) * 2 ^ sh) = ((s[k].toNat * 2 ^ sh : Nat) : Int) := by push_cast; rfl
          have h1 : (2 : Nat) ^ sh ≤ 2 ^ 24 := Nat.pow_le_pow_right (by omega) hsh24
          have h2 : s[k].toNat * 2 ^ sh ≤ 255 * 2 ^ 24 := Nat.mul_le_mul (by omega) h1
          rw [e, int_or (by omega) (by omega), HSH.out, cutRow_at h s k hlt]
        refine ⟨k + 1, by omega, by go_num, ?_, by simpa using hsz2, ?_, hb2.setCell (p := ⟨w.heap.size + 1, k / 4, none⟩) (by simp) _⟩
        · rw [World.cell?_setCell_other _ _ _ _ (by simp)]; exact hcell2
        · refine (hrow2.set (k / 4) _).congr fun j _ => ?_
          by_cases hj : j = k / 4
          · rw [if_pos hj, hbit, hj]
          · rw [if_neg hj, cutRow_ne h s k j hj]
      case measure => simp [intOf]; omega
    · obtain rfl : k = s.size := by omega
      go_wp2
      go_ret2
      exact ⟨_, rfl, rfl, hrow, hb⟩

/-! ### what Cut tells, as a list -/
theorem Sl_of_row {w : World} {b : Nat} {t : TypeId} {n : Nat} {f : Nat → Value} (h : w.rowIs b t n f) : Sl w (some ⟨b, 0, none⟩) ((List.range n).map f) := by
  refine .inr ⟨b, 0, rfl, h.lt, fun j u hu => ?_⟩
  rw [List.getElem?_map] at hu
  obtain ⟨i, hi, rfl⟩ := Option.map_eq_some_iff.1 hu
  obtain ⟨hj, rfl⟩ := List.getElem?_eq_some_iff.1 hi
  rw [Nat.zero_add]
  simpa using h.cell (i := j) (by simpa using hj)
def cutL (h : Bool) (s : ByteArray) : List Nat := (List.range (s.size / 4)).map (cutRow h s s.size)
theorem cutL_length (h : Bool) (s : ByteArray) : (cutL h s).length = s.size / 4 := by simp [cutL]
theorem cutL_lt (h : Bool) (s : ByteArray) : ∀ x ∈ cutL h s, x < 4294967296 := by
  intro x hx
  obtain ⟨j, _, rfl⟩ := List.mem_map.1 hx
  exact cutRow_lt _ _ _ _
theorem cut_new (s : ByteArray) (h : Bool) (w : World) (hs : s.size ≤ 1000000) (h4 : s.size % 4 = 0) :
   Calls Tryd.prog 48 #[.string s, .bool h] w fun e w' => ∃ b, e = .returned (.tuple #[.slice (some ⟨b, 0, none⟩) (cutL h s).length (cutL h s).length, .bool true]) ∧
     w.heap.size ≤ b ∧ Sl w' (some ⟨b, 0, none⟩) (ints (cutL h s)) ∧ Below w.heap.size w w' := by
  refine (cut_any s h w hs h4).mono ?_
  rintro e w' ⟨b, rfl, rfl, hr, hb⟩
  refine ⟨_, by rw [cutL_length], by omega, ?_, hb⟩
  have := Sl_of_row hr
  unfold ints cutL
  rw [List.map_map]
  exact this
theorem cut_list (s : ByteArray) (h : Bool) (w : World) (hs : s.size ≤ 1000000) (h4 : s.size % 4 = 0) :
   Calls Tryd.prog 48 #[.string s, .bool h] w fun e w' => ∃ b, e = .returned (.tuple #[.slice (some ⟨b, 0, none⟩) (cutL h s).length (cutL h s).length, .bool true]) ∧
     Sl w' (some ⟨b, 0, none⟩) (ints (cutL h s)) ∧ Below w.heap.size w w' :=
  (cut_new s h w hs h4).mono fun _ _ ⟨b, he, _, h1, h2⟩ => ⟨b, he, h1, h2⟩
theorem cut_none (s : ByteArray) (h : Bool) (w : World) (hs : s.size ≤ 9223372036854775807) (h4 : s.size % 4 ≠ 0) :
   Calls Tryd.prog 48 #[.string s, .bool h] w fun e w' => e = .returned (.tuple #[.slice none 0 0, .bool false]) ∧ w = w' := by
  have he : ((s.size : Int) % 4 != 0) = true := by simp; omega
  clear h4
  go_enter Tryd.func48, Tryd.ntmps48
  go_wp2
  go_ret2
  exact ⟨rfl, rfl⟩
end Go.Proofs.YtlkdofghhibmbaaDoor
