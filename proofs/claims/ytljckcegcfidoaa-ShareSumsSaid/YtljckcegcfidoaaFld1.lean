/-
  field: the contracts of isDigit, double, after; a field in the heap.
-/
import Derived.Test.YtljckcegcfidoaaGfm
import Derived.Test.YtljckcegcfidoaaRowa
import Derived.Test.YtljckcegcfidoaaInfo
namespace Go.Proofs.Ytljckcegcfidoaa
open Go.RowKit Go.Kx
set_option maxRecDepth 20000

/-- Is a number a digit? -/
def dig (a : Int) : Bool := decide (0 ≤ a) && decide (a < 256)
theorem dig_nat {a : Int} (h : dig a = true) : ∃ n : Nat, a = n ∧ n < 256 := by
  simp only [dig, Bool.and_eq_true, decide_eq_true_eq] at h
  exact ⟨a.toNat, by omega, by omega⟩
theorem dig_of {n : Nat} (h : n < 256) : dig (n : Int) = true := by simp [dig]; omega
theorem isDigit_any (a : Int) (w : World) : Calls Try.prog 65 #[.int .i64 a] w fun e w' => e = .returned (.bool (dig a)) ∧ w' = w := by
  go_enter Try.func65, Try.ntmps65
  by_cases h : 0 ≤ a
  · go_wp2
    go_ret
    exact ⟨ret_bool (by simp [dig, h]), rfl⟩
  · go_wp2
    go_ret
    exact ⟨ret_bool (by simp [dig]; omega), rfl⟩
theorem double_any (a : Nat) (ha : a < 256) (w : World) : Calls Try.prog 61 #[.int .i64 (a : Int)] w fun e w' => e = .returned (.int .i64 (Gf.dbl a : Nat)) ∧ w' = w := by
  go_enter Try.func61, Try.ntmps61
  by_cases h : (a : Int) * 2 < 256
  · go_wp2
    go_ret
    exact ⟨ret_int (by rw [Gf.dbl, if_pos (by omega)]; omega), rfl⟩
  · have e : bits .xor .i64 ((a : Int) * 2 - 256) 27 = ((2 * a - 256) ^^^ 27 : Nat) := by
      rw [show (a : Int) * 2 - 256 = ((2 * a - 256 : Nat) : Int) by omega]
      exact int_xor (b := 27) (by omega) (by omega)
    go_wp2
    go_ret
    exact ⟨ret_int (by rw [Gf.dbl, if_neg (by omega)]), rfl⟩

/-! ### a field in the heap -/
def fldAt (j : Nat) : Nat := if j < 256 then (if j = 0 then 0 else Gf.logT j) else Gf.powT (j - 256)
def newAt (n j : Nat) : Nat := if j < 256 then (if j ≠ 0 ∧ Gf.logT j < n then Gf.logT j else 0) else if j - 256 < n then Gf.powT (j - 256) else 0
theorem newAt_zero (j : Nat) : newAt 0 j = 0 := by simp [newAt]
theorem newAt_full (j : Nat) (hj : j < 511) : newAt 255 j = fldAt j := by
  unfold newAt fldAt
  by_cases h : j < 256
  · rw [if_pos h, if_pos h]
    by_cases h0 : j = 0
    · rw [if_neg (by omega), if_pos h0]
    · rw [if_pos ⟨h0, (Gf.log_spec h h0).2⟩, if_neg h0]
  · rw [if_neg h, if_neg h, if_pos (by omega)]
theorem newAt_set (n j : Nat) (hn : n < 255) : (if j = 256 + n then Gf.powT n else if j = Gf.powT n then n else newAt n j) = newAt (n + 1) j := by
  have hp := Gf.powT_lt n
  unfold newAt
  by_cases h : j < 256
  · rw [if_neg (by omega), if_pos h, if_pos h]
    by_cases h1 : j = Gf.powT n
    · subst h1
      rw [if_pos rfl, Gf.log_powT hn, if_pos ⟨Gf.powT_ne n, by omega⟩]
    · rw [if_neg h1]
      by_cases h0 : j = 0
      · rw [if_neg (by omega), if_neg (by omega)]
      · have hs := Gf.log_spec h h0
        have hne : Gf.logT j ≠ n := fun he => h1 (by rw [← hs.1, he])
        by_cases hl : Gf.logT j < n
        · rw [if_pos ⟨h0, hl⟩, if_pos ⟨h0, by omega⟩]
        · rw [if_neg (by omega), if_neg (by omega)]
  · rw [if_neg h, if_neg h, if_neg (show ¬ j = Gf.powT n by omega)]
    by_cases h1 : j = 256 + n
    · rw [if_pos h1, if_pos (by omega)]
      congr 1; omega
    · rw [if_neg h1]
      by_cases h2 : j - 256 < n
      · rw [if_pos h2, if_pos (by omega)]
      · rw [if_neg h2, if_neg (by omega)]
/-- A block that holds a field. -/
def Fld (w : World) (b : Nat) : Prop := w.rowIs b 89 511 (fun j => .int .i64 (fldAt j : Nat))
theorem Fld.keep {w w' : World} {b : Nat} (h : Fld w b) (hb : Below w.heap.size w w') : Fld w' b := rowIs_keep h hb
theorem Fld.log {w : World} {b a : Nat} (h : Fld w b) (ha : a < 256) (h0 : a ≠ 0) : w.cell? ⟨b, a, none⟩ = some (.int .i64 (Gf.logT a : Nat)) := by
  have := World.rowIs.cell h (i := a) (by omega)
  rw [this, fldAt, if_pos ha, if_neg h0]
theorem Fld.pow {w : World} {b n : Nat} (h : Fld w b) (hn : n < 255) : w.cell? ⟨b, 256 + n, none⟩ = some (.int .i64 (Gf.powT n : Nat)) := by
  have := World.rowIs.cell h (i := 256 + n) (by omega)
  rw [this, fldAt, if_neg (by omega)]
  congr 4; omega
theorem after_any (b n : Nat) (hn : n < 4611686018427387904) (w : World) (hf : Fld w b) : Calls Try.prog 66 #[.pointer (some ⟨b, 0, none⟩), .int .i64 (n : Int)] w fun e w' => e = .returned (.int .i64 (Gf.powT n : Nat)) ∧ w' = w := by
  have hm : n % 255 < 255 := Nat.mod_lt _ (by omega)
  have hc := hf.pow hm
  rw [Gf.powT_mod] at hc
  have e : (n : Int).tmod 255 = ((n % 255 : Nat) : Int) := by rw [Int.tmod_eq_emod_of_nonneg (by omega)]; omega
  generalize Gf.powT n = p at *
  go_enter Try.func66, Try.ntmps66
  go_wp2
  go_ret
  exact ⟨rfl, rfl⟩
def zeros (n : Nat) : Array Value := (List.replicate n (Value.int .i64 0)).toArray
theorem zero_fld_info : (Try.prog.info? 89).map (·.zero) = some (some (.agg (zeros 511))) := by kernel_rfl
theorem zero_fld (w : World) : (Sem.run Try.prog (zeroValue 89) w) = .ok (.agg (zeros 511)) w := by
  have h := zero_fld_info
  cases hi : Try.prog.info? 89 with
  | none => simp [hi] at h
  | some i =>
    have hz : i.zero = some (.agg (zeros 511)) := by simpa [hi] using h
    simp [zeroValue, typeInfo, hi, hz, go_sem]
theorem new_any (w : World) : Calls Try.prog 36 #[] w fun e w' => e = .returned (.pointer (some ⟨w.heap.size, 0, none⟩)) ∧ Fld w' w.heap.size ∧ Below w.heap.size w w' := by
  have hz := zero_fld w
  have hr0 := rowIs_new (w := w) (t := 89) (n := 511) (z := .int .i64 0) (c := zeros 511) rfl
  generalize zeros 511 = zs at *
  go_enter Try.func36, Try.ntmps36
  go_wp2
  go_loopw [2, 5] (fun x i wr => ∃ n : Nat, n ≤ 255 ∧ i = .int .i64 n ∧ x = .int .i64 (Gf.powT n : Nat) ∧ wr.rowIs w.heap.size 89 511 (fun j => .int .i64 (newAt n j : Nat)) ∧ Below w.heap.size w wr) (fun _ i _ => 255 - (intOf i).toNat)
  case atStart => exact ⟨0, by omega, rfl, rfl, hr0.congr fun j _ => by rw [newAt_zero]; rfl, Below.alloc0 _ _⟩
  case round =>
    clear hr0
    obtain ⟨n, hn, rfl, rfl, hr, hb⟩ := hrel
    have hpl := Gf.powT_lt n
    by_cases hlt : n < 255
    · have HS := Lib.hid (fun j => newAt_set n j hlt)
      have htri : Hid (Gf.tri (Gf.powT n) = Gf.powT (n + 1)) := Lib.hid rfl
      generalize hp : Gf.powT n = p at *
      have HP := Lib.hid hp
      clear hp
      have hload := hr.cell (i := p) (by omega)
      have hload2 := hr.cell (i := 256 + n) (by omega)
      have hfz := hr.frozen p
      have hfz2 := hr.frozen (256 + n)
      have ex : bits .xor .i64 (p : Int) (Gf.dbl p : Nat) = (Gf.tri p : Nat) := int_xor (by omega) (by have := Gf.dbl_lt hpl; omega)
      rw [htri.out] at ex
      have hq : IntKind.i64.wrap ((Gf.powT (n + 1) : Nat) : Int) = (Gf.powT (n + 1) : Nat) := wrapNat (by have := Gf.powT_lt (n + 1); omega)
      go_wp2_with fail
      refine (double_any p hpl _).mono ?_
      rintro e w1 ⟨rfl, rfl⟩
      generalize hx : Gf.powT (n + 1) = x at *
      have HX := Lib.hid hx
      clear hx
      generalize Gf.dbl p = d at *
      go_wp2
      go_roundw
      case rel =>
        refine ⟨n + 1, by omega, by go_num, by rw [HX.out], ((hr.set p _).set (256 + n) _).congr fun j _ => ?_, (hb.setCell (p := ⟨w.heap.size, p, none⟩) (by simp) _).setCell (p := ⟨w.heap.size, 256 + n, none⟩) (by simp) _⟩
        rw [← HS.out]
        split
        · rfl
        · split <;> rfl
      case measure => simp [intOf]; omega
    · obtain rfl : n = 255 := by omega
      go_wp2
      go_ret
      exact ⟨rfl, hr.congr fun j hj => by rw [newAt_full j hj], hb⟩
end Go.Proofs.Ytljckcegcfidoaa
