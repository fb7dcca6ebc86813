/-
  keyholeref10: the contracts of value, bits and number.
-/
import Derived.Test.YtmmkhlianijagaaDoorAr3
import Derived.Test.YtmmkhlianijagaaDoorWord
namespace Go.Proofs.YtmmkhlianijagaaDoor
open Go.RowKit Go.Kx Go.Arm
set_option maxRecDepth 20000

/-! ### value -/
theorem val_at {c : UInt8} {k : Nat} (hk : k < 32) (h : letA k = c) : valA c = k := by
  have h1 : valA c = valA (letA k) := by rw [h]
  rw [h1, valA_letA k hk]
theorem val_none {c : UInt8} (hn : ∀ j, j < 32 → letA j ≠ c) : ¬ valA c < 32 := fun h => hn _ h (letA_valA h)
set_option maxHeartbeats 1000000 in
theorem rvalue_any (c : UInt8) (r : Int) (hr : (if valA c < 32 then (valA c : Int) else -1) = r) (w : World) :
    Calls Tryd.prog 19 #[.int .u8 (c.toNat : Int)] w fun e w' => e = .returned (.int .i64 r) ∧ w' = w := by
  have HR := Lib.hid hr
  clear hr
  go_enter Tryd.func19, Tryd.ntmps19
  go_wp2
  go_loopw [3] (fun i wr => ∃ k : Nat, k ≤ 32 ∧ i = .int .i64 k ∧ Hid (∀ j, j < k → letA j ≠ c) ∧ wr = w) (fun i _ => 32 - (intOf i).toNat)
  case atStart => exact ⟨0, by omega, rfl, Lib.hid (fun j hj => by omega), rfl⟩
  case round =>
    obtain ⟨k, hk, rfl, hn, rfl⟩ := hrel
    by_cases hlt : k < 32
    · have ha := alpha_at k hlt
      obtain ⟨y, hy⟩ : ∃ y, (letA k).toNat = y := ⟨_, rfl⟩
      by_cases he : letA k = c
      · have hv := val_at hlt he
        have hyc : ((y : Int) == (c.toNat : Int)) = true := by rw [← hy, he]; simp
        obtain rfl : r = (k : Int) := by rw [← HR.out, if_pos (by omega), hv]
        clear hv he
        go_wp2
        go_ret
        exact ⟨rfl, rfl⟩
      · have hyc : ((y : Int) == (c.toNat : Int)) = false := by
          rw [← hy, beq_eq_false_iff_ne]
          intro h
          exact he (UInt8.toNat_inj.1 (by omega))
        have HN : Hid (∀ j, j < k + 1 → letA j ≠ c) := Lib.hid fun j hj => by
          rcases (by omega : j < k ∨ j = k) with h1 | rfl
          · exact hn.out j h1
          · exact he
        clear he
        go_wp2
        go_roundw
        case rel => exact ⟨k + 1, by omega, by go_num, HN, trivial⟩
        case measure => simp [intOf]; omega
    · obtain rfl : k = 32 := by omega
      obtain rfl : r = -1 := by rw [← HR.out, if_neg (val_none hn.out)]
      go_wp2
      go_ret
      exact ⟨rfl, rfl⟩

/-! ### bits -/
def digN (n m j : Nat) : Nat := n / 2 ^ (m - 1 - j) % 2
theorem bitsN_get (m : Nat) : ∀ (n j : Nat), j < m → (bitsN n m).getD j 0 = digN n m j := by
  induction m with
  | zero => intro n j h; omega
  | succ m ih =>
    intro n j h
    rw [bitsN, List.getD]
    by_cases hj : j < m
    · rw [List.getElem?_append_left (by rw [bitsN_length]; exact hj)]
      have := ih (n / 2) j hj
      rw [List.getD] at this
      rw [this]
      unfold digN
      rw [Nat.div_div_eq_div_mul, show m + 1 - 1 - j = (m - 1 - j) + 1 by omega, Nat.pow_succ, Nat.mul_comm 2]
    · obtain rfl : j = m := by omega
      rw [List.getElem?_append_right (by rw [bitsN_length]; exact Nat.le_refl _), bitsN_length]
      simp [digN]
def fillB (n m k j : Nat) : Nat := if k ≤ j then digN n m j else 0
theorem fillB_set (n m k j x : Nat) (hx : x = digN n m k) : (if j = k then x else fillB n m (k + 1) j) = fillB n m k j := by
  subst hx
  unfold fillB
  by_cases h : j = k
  · subst h; simp
  · rw [if_neg h]
    by_cases h2 : k ≤ j
    · rw [if_pos h2, if_pos (by omega)]
    · rw [if_neg h2, if_neg (by omega)]
theorem ints_length (l : List Nat) : (ints l).length = l.length := by simp [ints]
theorem sl_bits {W : World} {g n m : Nat} (h : W.rowIs g 3 m (fun j => .int .i64 (fillB n m 0 j : Nat))) : Sl W (some ⟨g, 0, none⟩) (ints (bitsN n m)) := by
  refine .inr ⟨g, 0, rfl, h.lt, fun j u hu => ?_⟩
  have hj : j < (bitsN n m).length := by have := (List.getElem?_eq_some_iff.1 hu).1; rwa [ints_length] at this
  have hjm : j < m := by rwa [bitsN_length] at hj
  rw [Nat.zero_add, h.cell hjm, ← hu]
  have e := bitsN_get m n j hjm
  rw [List.getD, List.getElem?_eq_getElem hj] at e
  simp only [ints, List.getElem?_map, List.getElem?_eq_getElem hj, Option.map_some, fillB, if_pos (Nat.zero_le j), ← e]
  rfl
set_option maxHeartbeats 1000000 in
theorem rbits_any (n m : Nat) (hn : n < 1000000) (hm : m ≤ 8) (w : World) :
    Calls Tryd.prog 20 #[.int .i64 (n : Int), .int .i64 (m : Int)] w fun e w' => e = .returned (.slice (some ⟨w.heap.size, 0, none⟩) m m) ∧ Sl w' (some ⟨w.heap.size, 0, none⟩) (ints (bitsN n m)) ∧ Below w.heap.size w w' := by
  have hmk := run_make_row' (P := Tryd.prog) 45 3 (.int .i64 0) 8 Tryd.underlying45 int_info rfl .i64 .i64 m (by omega) (by omega)
  have hr0 := (World.rowIs_made w (.int .i64 0) m 3).congr (g := fun j => .int .i64 (fillB n m m j : Nat)) (fun j hj => by rw [fillB, if_neg (by omega)]; rfl)
  go_enter Tryd.func20, Tryd.ntmps20
  go_wp2
  go_loopw [0, 6] (fun x i wr => ∃ k y : Nat, k ≤ m ∧ i = .int .i64 ((k : Int) - 1) ∧ x = .int .i64 (y : Int) ∧ Hid (y = n / 2 ^ (m - k)) ∧ y < 1000000 ∧ wr.rowIs w.heap.size 3 m (fun j => .int .i64 (fillB n m k j : Nat)) ∧ Below w.heap.size w wr) (fun _ i _ => (intOf i + 1).toNat)
  case atStart => exact ⟨m, n, by omega, rfl, rfl, Lib.hid (by rw [Nat.sub_self, Nat.pow_zero, Nat.div_one]), hn, hr0, Below.alloc0 _ _⟩
  case round =>
    clear hr0 hmk
    obtain ⟨k, y, hk, rfl, rfl, hy, hyl, hrow, hb⟩ := hrel
    rcases Nat.eq_zero_or_pos k with rfl | h0
    · have hs := sl_bits hrow
      go_wp2
      go_ret
      exact ⟨rfl, hs, hb⟩
    · obtain ⟨q, rfl⟩ : ∃ q, k = q + 1 := ⟨k - 1, by omega⟩
      have hcell := hrow.cell (i := q) (by omega)
      have hfz := hrow.frozen q
      have HY : Hid (y / 2 = n / 2 ^ (m - q)) := Lib.hid (by rw [hy.out, Nat.div_div_eq_div_mul, show m - q = (m - (q + 1)) + 1 by omega, Nat.pow_succ])
      have HS := Lib.hid (fun j => fillB_set n m q j (y % 2) (by rw [hy.out, digN, show m - 1 - q = m - (q + 1) by omega]))
      generalize fillB n m (q + 1) q = z at hcell
      rw [show (((q + 1 : Nat) : Int) - 1) = (q : Int) by omega]
      go_wp2
      go_roundw
      case rel =>
        refine ⟨q, y / 2, by omega, by go_num, by simp, HY, by omega, (hrow.set q _).congr fun j _ => ?_, hb.setCell (p := ⟨w.heap.size, q, none⟩) (by simp) _⟩
        rw [← HS.out]
        split <;> simp
      case measure => simp [intOf]

/-! ### number -/
theorem sl_nat {w : World} {A : Option Addr} {l : List Nat} (h : Sl w A (ints l)) {k : Nat} (hk : k < l.length) : ∃ b off, A = some ⟨b, off, none⟩ ∧ w.cell? ⟨b, off + k, none⟩ = some (.int .i64 (l.getD k 0 : Nat)) := by
  obtain ⟨b, off, u, rfl, hu, hc⟩ := h.at_ (k := k) (by rw [ints_length]; exact hk)
  refine ⟨b, off, rfl, ?_⟩
  rw [hc]
  simp only [ints, List.getElem?_map, List.getElem?_eq_getElem hk, Option.map_some, Option.some.injEq] at hu
  rw [← hu, List.getD, List.getElem?_eq_getElem hk]
  rfl
theorem num_take (l : List Nat) {k : Nat} (hk : k < l.length) : numN (l.take (k + 1)) = 2 * numN (l.take k) + l.getD k 0 := by
  rw [List.take_add_one, List.getElem?_eq_getElem hk, List.getD, List.getElem?_eq_getElem hk]
  exact numN_snoc _ _
theorem num_small {l : List Nat} (h2 : ∀ d ∈ l, d < 2) (hl : l.length ≤ 8) (k : Nat) : numN (l.take k) < 256 := by
  have h := numN_lt (l.take k) (fun d hd => h2 d (List.mem_of_mem_take hd))
  have h1 : 2 ^ (l.take k).length ≤ 2 ^ 8 := Nat.pow_le_pow_right (by omega) (by rw [List.length_take]; omega)
  omega
set_option maxHeartbeats 1000000 in
theorem rnumber_any (l : List Nat) (h2 : ∀ d ∈ l, d < 2) (hl : l.length ≤ 8) (n : Nat) (hn : l.length = n) (x : Nat) (hx : numN l = x) (A : Option Addr) (c : Nat) (w : World) (hs : Sl w A (ints l)) :
    Calls Tryd.prog 21 #[.slice A n c] w fun e w' => e = .returned (.int .i64 (x : Int)) ∧ w' = w := by
  have HN := Lib.hid hn
  have HX := Lib.hid hx
  have hn8 : n ≤ 8 := by omega
  clear hn hx
  go_enter Tryd.func21, Tryd.ntmps21
  go_wp2
  go_loopw [3, 4] (fun v i wr => ∃ k y : Nat, k ≤ n ∧ i = .int .i64 k ∧ v = .int .i64 (y : Int) ∧ Hid (numN (l.take k) = y) ∧ wr = w) (fun _ i _ => n - (intOf i).toNat)
  case atStart => exact ⟨0, 0, by omega, rfl, rfl, Lib.hid rfl, rfl⟩
  case round =>
    obtain ⟨k, y, hk, rfl, rfl, hy, rfl⟩ := hrel
    by_cases hlt : k < n
    · have hkl : k < l.length := by rw [HN.out]; exact hlt
      obtain ⟨b, off, rfl, hc⟩ := sl_nat hs hkl
      have hyl : y < 256 := by rw [← hy.out]; exact num_small h2 hl k
      have hd : l.getD k 0 < 2 := by rw [List.getD, List.getElem?_eq_getElem hkl]; exact h2 _ (List.getElem_mem hkl)
      have HT := Lib.hid (num_take l hkl)
      generalize l.getD k 0 = d at *
      clear hkl hl
      go_wp2
      go_roundw
      case rel => exact ⟨k + 1, 2 * y + d, by omega, by go_num, by simp, Lib.hid (by rw [HT.out, hy.out]), trivial⟩
      case measure => simp [intOf]; omega
    · obtain rfl : k = n := by omega
      obtain rfl : y = x := by rw [← hy.out, ← HX.out, ← HN.out, List.take_length]
      clear hl
      go_wp2
      go_ret
      exact ⟨rfl, rfl⟩
end Go.Proofs.YtmmkhlianijagaaDoor
