/-
  tag: the contracts of the reference's Of, of row, and of the document's rows.
-/
import Derived.Test.YtgiajnbihdobeaaTag9
import Derived.Test.YtgiajnbihdobeaaMany
import Derived.Test.YtgiajnbihdobeaaRef01
namespace Go.Proofs.Ytgiajnbihdobeaa
open Go.RowKit Go.Kx
set_option maxRecDepth 20000

/-! ### Of -/
def bytN (l : List UInt8) : List Nat := l.map fun b => b.toNat
theorem bytN_length (l : List UInt8) : (bytN l).length = l.length := by simp [bytN]
theorem intsN_snoc (xs : List Nat) (x : Nat) : intsN xs ++ [Value.int .i64 (x : Int)] = intsN (xs ++ [x]) := by simp [intsN]
theorem bytN_take {s : ByteArray} {k : Nat} (h : k < s.size) : (bytN s.data.toList).take k ++ [s[k].toNat] = (bytN s.data.toList).take (k + 1) := by
  have e : (bytN s.data.toList)[k]? = some s[k].toNat := by
    rw [bytN, List.getElem?_map, List.getElem?_eq_getElem (by simpa using h)]; rfl
  rw [List.take_add_one, e]; rfl
set_option maxHeartbeats 1000000 in
theorem of_any (s : ByteArray) (w : World) (hs : s.size ≤ 1000000) :
    Calls Try.prog 8 #[.string s] w fun e w' => ∃ v, e = .returned v ∧ w'.ownsRow w.heap.size 3 1 v s.size (intsN (bytN s.data.toList)) ∧ Below w.heap.size w w' := by
  obtain ⟨i0, hi, hz0, hz1, hz2⟩ := info_parts int_info
  have HT := Lib.hid (fun k h => @bytN_take s k h)
  have HL := Lib.hid (bytN_length s.data.toList)
  generalize bytN s.data.toList = xs at *
  go_enter Try.func8, Try.ntmps8
  go_wp2
  go_loopw [3, 4] (fun v i wr => ∃ k : Nat, k ≤ s.size ∧ i = .int .i64 k ∧ wr.ownsRow w.heap.size 3 1 v k (intsN (xs.take k)) ∧ Below w.heap.size w wr) (fun _ i _ => s.size - (intOf i).toNat)
  case atStart => exact ⟨0, by omega, rfl, World.ownsRow_nil _ _ _ _, Below.refl _ _⟩
  case round =>
    obtain ⟨k, hk, rfl, hown, hb⟩ := hrel
    by_cases hlt : k < s.size
    · have HX := Lib.hid (HT.out k hlt)
      have hx8 : s[k].toNat < 256 := UInt8.toNat_lt _
      have hw64 : IntKind.i64.wrap ((s[k].toNat : Nat) : Int) = ((s[k].toNat : Nat) : Int) := IntWalk.i64_in _ (by omega)
      go_wp2_with (first
        | (at_builtin; refine wpList_append_own _ rfl _ _ 25 rfl w.heap.size 3 i0 (.int .i64 0) 1 8 Try.underlying25 hi hz0 hz1 hz2 rfl (by decide) _ _ _ rfl (hown.alloc _) ⟨wr.heap.size, 0, none⟩ 1 1 [.int .i64 (s[k].toNat : Int)] rfl rfl ?c1 ?c2 ?c3 ?c4 ?c5 ?_)
        | go_in)
      case c1 =>
        intro j u hj
        match j, hj with
        | 0, hj => simp at hj; subst hj; simp [Addr.add]
      case c2 => intro u hu; simp at hu; subst hu; rfl
      case c3 => unfold maxLen; omega
      case c4 => omega
      case c5 => have h1 := hb.size; simp; omega
      · intro v' w1 hown' hgrow _
        have hb1 := own_below (hown.alloc _) (hb.al _) hgrow
        rw [intsN_snoc, HX.out] at hown'
        clear hown hgrow hb
        go_wp2
        go_roundw
        case rel => exact ⟨k + 1, by omega, by go_num, hown', hb1⟩
        case measure => simp [intOf]; omega
    · go_wp2
      go_ret
      have hk2 : k = s.size := by omega
      have hl : xs.length = s.size := by rw [HL.out]; simp
      exact ⟨_, rfl, by rw [← hk2, List.take_of_length_le (by omega)] at *; exact hown, hb⟩

/-! ### the laws' row -/
theorem digit_low (n j : Nat) (h : n < 65536) (hj : 2 ≤ j) : digitV n j = 0 := by
  unfold digitV
  rw [Nat.div_eq_of_lt]
  exact Nat.lt_of_lt_of_le h (Nat.le_trans (show 65536 ≤ 256 ^ 2 by decide) (Nat.pow_le_pow_right (by omega) hj))
theorem sl_of_digits {w : World} {b : Nat} {t : TypeId} {f : Nat → Value} {v : Nat} (h : w.rowIs b t 17 f) (hf : ∀ j, j < 17 → f j = .int .i64 (digitV v j : Nat)) : Sl w (some ⟨b, 0, none⟩) (intsN (rowL v)) := rowIs_sl h fun j u hu => by
  have hj : j < 17 := by
    by_cases hj : j < 17
    · exact hj
    · rw [List.getElem?_eq_none (by simp [intsN, rowL]; omega)] at hu; cases hu
  rw [intsN_at (by rw [rowL_length]; exact hj), rowL_at v j hj] at hu
  exact ⟨hj, by rw [hf j hj]; simpa using hu⟩
set_option maxHeartbeats 1000000 in
theorem lawrow_any (n : Nat) (hn : n < 65536) (w : World) :
    Calls Try.prog 12 #[.int .i64 n] w fun e w' => ∃ b, e = .returned (.slice (some ⟨b, 0, none⟩) 17 17) ∧ Sl w' (some ⟨b, 0, none⟩) (intsN (rowL n)) ∧ Below w.heap.size w w' := by
  have hr0 := World.rowIs_made w (.int .i64 0) 17 3
  have hbw := Below.alloc0 w (.cells (madeCells #[Value.int .i64 0] 17) 3)
  have hmk := make17 w
  obtain ⟨V, hV⟩ : ∃ V, V = w.alloc (.cells (madeCells #[Value.int .i64 0] 17) 3) := ⟨_, rfl⟩
  rw [← hV] at hr0 hbw hmk
  have c0 := hr0.cell (i := 0) (by omega)
  have f0 := hr0.frozen 0
  have c1 := hr0.cell (i := 1) (by omega)
  have f1 := hr0.frozen 1
  obtain ⟨x, hx⟩ : ∃ x, n % 256 = x := ⟨_, rfl⟩
  obtain ⟨y, hy⟩ : ∃ y, n / 256 = y := ⟨_, rfl⟩
  have e1 : (n : Int).tmod 256 = (x : Int) := by rw [rem256, hx]
  have e2 : (n : Int) / 256 = (y : Int) := by omega
  have HF : Hid (∀ j, j < 17 → (if j = 1 then Value.int .i64 (y : Int) else if j = 0 then Value.int .i64 (x : Int) else Value.int .i64 0) = .int .i64 (digitV n j : Nat)) := Lib.hid fun j hj => by
    by_cases h1 : j = 1
    · rw [if_pos h1, h1, ← hy]; congr 2; simp only [digitV, Nat.pow_one]; omega
    · rw [if_neg h1]
      by_cases h0 : j = 0
      · rw [if_pos h0, h0, ← hx]; congr 2; simp only [digitV, Nat.pow_zero, Nat.div_one]
      · rw [if_neg h0, digit_low n j hn (by omega)]; rfl
  clear hx hy hV
  go_enter Try.func12, Try.ntmps12
  go_wp2
  go_ret
  exact ⟨_, rfl, sl_of_digits ((hr0.set 0 _).set 1 _) HF.out, (hbw.setCell (p := ⟨w.heap.size, 0, none⟩) (by simp) _).setCell (p := ⟨w.heap.size, 1, none⟩) (by simp) _⟩

/-! ### the document's rows -/
theorem many0 (w : World) : Calls Try.prog 11 #[.int .u8 0, .int .i64 16] w fun e w' => e = .returned (.string ⟨(List.replicate 16 (0 : UInt8)).toArray⟩) ∧ Below w.heap.size w w' := rmany_any 0 16 (by omega) w
theorem many255 (w : World) : Calls Try.prog 11 #[.int .u8 255, .int .i64 16] w fun e w' => e = .returned (.string ⟨(List.replicate 16 (255 : UInt8)).toArray⟩) ∧ Below w.heap.size w w' := rmany_any 255 16 (by omega) w
theorem clamp0 : clampL (List.replicate 16 (0 : UInt8)) = List.replicate 16 0 := by decide
theorem digT0 : digT (List.replicate 16 (0 : UInt8)) = 0 := by decide
/-- A key whose first 16 bytes are 0 has its end as each Tag. -/
theorem tagV_zero (e s : List UInt8) : tagV (List.replicate 16 0 ++ e) s = digT e := by
  have h1 : (List.replicate 16 (0 : UInt8) ++ e).take 16 = List.replicate 16 0 := by rw [List.take_append_of_le_length (by simp), List.take_of_length_le (by simp)]
  have h2 : (List.replicate 16 (0 : UInt8) ++ e).drop 16 = e := by rw [List.drop_append_of_le_length (by simp), List.drop_of_length_le (by simp), List.nil_append]
  rw [tagV, h1, h2, clamp0, digT0, accV_zero, Nat.zero_add]
theorem step353 : stepV 0 1 [97] = 353 := by decide +kernel
theorem sl_vals {w : World} {A : Option Addr} {l m : List Value} (h : Sl w A l) (e : l = m) : Sl w A m := e ▸ h
theorem intsN_int (l : List Nat) : intsN l = (l.map Int.ofNat).map (.int .i64) := by simp [intsN]
theorem ints_same (A B : Option Addr) (v : Nat) (w : World) (hA : Sl w A (intsN (rowL v))) (hB : Sl w B (intsN (rowL v))) :
    Calls Try.prog 13 #[.slice A 17 17, .slice B 17 17] w fun e w' => e = .returned (.bool true) ∧ Below w.heap.size w w' := by
  have hl : ((rowL v).map Int.ofNat).length = 17 := by rw [List.length_map, rowL_length]
  have h := ints_b A B 17 17 ((rowL v).map Int.ofNat) ((rowL v).map Int.ofNat) w (by rw [hl]; omega) (sl_vals hA (intsN_int _)) (sl_vals hB (intsN_int _))
  rw [hl, beq_self_eq_true] at h
  exact h
theorem abc_key : tagV (List.replicate 16 0 ++ [97, 98, 99, 100, 101, 102, 103, 104, 105, 106, 107, 108, 109, 110, 111, 112]) [97, 110, 121, 32, 116, 101, 120, 116] = digT [97, 98, 99, 100, 101, 102, 103, 104, 105, 106, 107, 108, 109, 110, 111, 112] := tagV_zero _ _
theorem tag_abc (key : ByteArray) (hk : key.data.toList = List.replicate 16 0 ++ [97, 98, 99, 100, 101, 102, 103, 104, 105, 106, 107, 108, 109, 110, 111, 112]) (w : World) :
    Calls Try.prog 10 #[.string key, .string ⟨#[97, 110, 121, 32, 116, 101, 120, 116]⟩] w fun e w' => e = .returned (.tuple #[.string ⟨#[97, 98, 99, 100, 101, 102, 103, 104, 105, 106, 107, 108, 109, 110, 111, 112]⟩, .int .i64 0]) ∧ Below w.heap.size w w' := by
  have hz : key.size = 32 := by have : key.data.toList.length = 32 := by rw [hk]; rfl
                                simpa using this
  refine tag_yes key _ hz (by decide) _ ?_ w
  rw [hk, show (ByteArray.mk #[97, 110, 121, 32, 116, 101, 120, 116]).data.toList = [97, 110, 121, 32, 116, 101, 120, 116] from rfl, abc_key, lowL_digT _ (by rfl)]
theorem clamp255 (w : World) : Calls Try.prog 7 #[.string ⟨(List.replicate 16 (255 : UInt8)).toArray⟩] w fun e w' => e = .returned (.tuple #[.string ⟨#[255, 255, 255, 15, 252, 255, 255, 15, 252, 255, 255, 15, 252, 255, 255, 15]⟩, .bool true]) ∧ Below w.heap.size w w' :=
  Clamp_yes _ (by rw [size_mk]; rfl) _ (by decide +kernel) w
theorem good0 : goodR (rowL 0) := good_rowL (by decide)
theorem good1 : goodR (rowL 1) := good_rowL (by decide)
theorem step_a (A B : Option Addr) (w : World) (hA : Sl w A (intsN (rowL 0))) (hB : Sl w B (intsN (rowL 1))) :
    Calls Try.prog 9 #[.slice A 17 17, .slice B 17 17, .string ⟨#[97]⟩] w fun e w' => ∃ b, e = .returned (.tuple #[.slice (some ⟨b, 0, none⟩) 17 17, .bool true]) ∧ Sl w' (some ⟨b, 0, none⟩) (intsN (rowL 353)) ∧ Below w.heap.size w w' :=
  Step_yes A B 17 17 (rowL 0) (rowL 1) good0 good1 ⟨#[97]⟩ (by decide) (by decide) 353 (by rw [digR_rowL 0 (by decide), digR_rowL 1 (by decide)]; exact step353) w hA hB
set_option maxHeartbeats 1000000 in
theorem tags_any (w : World) : Calls Try.prog 6 #[] w fun e w' => e = .returned (.bool true) ∧ Below w.heap.size w w' := by
  obtain ⟨z, hz⟩ : ∃ z : ByteArray, (⟨(List.replicate 16 (0 : UInt8)).toArray⟩ : ByteArray) = z := ⟨_, rfl⟩
  obtain ⟨key, hkey⟩ : ∃ key : ByteArray, z ++ ⟨#[97, 98, 99, 100, 101, 102, 103, 104, 105, 106, 107, 108, 109, 110, 111, 112]⟩ = key := ⟨_, rfl⟩
  obtain ⟨ff, hff⟩ : ∃ z : ByteArray, (⟨(List.replicate 16 (255 : UInt8)).toArray⟩ : ByteArray) = z := ⟨_, rfl⟩
  have hadd : ∀ V : World, (Op.stringOp .add z ⟨#[97, 98, 99, 100, 101, 102, 103, 104, 105, 106, 107, 108, 109, 110, 111, 112]⟩).run Try.prog V = .ok (.string key) V := fun V => by
    rw [← hkey]; exact run_string_add_sum V z _ (by rw [← hz, size_mk]; decide)
  have HM0 : Hid (∀ V : World, Calls Try.prog 11 #[.int .u8 0, .int .i64 16] V fun e w' => e = .returned (.string z) ∧ Below V.heap.size V w') := Lib.hid fun V => by rw [← hz]; exact many0 V
  have HM1 : Hid (∀ V : World, Calls Try.prog 11 #[.int .u8 255, .int .i64 16] V fun e w' => e = .returned (.string ff) ∧ Below V.heap.size V w') := Lib.hid fun V => by rw [← hff]; exact many255 V
  have HTG : Hid (∀ V : World, Calls Try.prog 10 #[.string key, .string ⟨#[97, 110, 121, 32, 116, 101, 120, 116]⟩] V fun e w' => e = .returned (.tuple #[.string ⟨#[97, 98, 99, 100, 101, 102, 103, 104, 105, 106, 107, 108, 109, 110, 111, 112]⟩, .int .i64 0]) ∧ Below V.heap.size V w') :=
    Lib.hid fun V => tag_abc key (by rw [← hkey, ← hz]; simp) V
  have HCL : Hid (∀ V : World, Calls Try.prog 7 #[.string ff] V fun e w' => e = .returned (.tuple #[.string ⟨#[255, 255, 255, 15, 252, 255, 255, 15, 252, 255, 255, 15, 252, 255, 255, 15]⟩, .bool true]) ∧ Below V.heap.size V w') :=
    Lib.hid fun V => by rw [← hff]; exact clamp255 V
  clear hz hkey hff
  go_enter Try.func6, Try.ntmps6
  go_wp2_with fail
  refine (HM0.out _).mono ?_
  rintro e w1 ⟨rfl, hb1⟩
  go_wp2_with fail
  refine (HTG.out _).mono ?_
  rintro e w2 ⟨rfl, hb2⟩
  go_wp2_with fail
  refine (lawrow_any 0 (by omega) _).mono ?_
  rintro e w3 ⟨b3, rfl, hs3, hb3⟩
  go_wp2_with fail
  refine (lawrow_any 1 (by omega) _).mono ?_
  rintro e w4 ⟨b4, rfl, hs4, hb4⟩
  go_wp2_with fail
  refine (step_a _ _ _ (hs3.keep hb4) hs4).mono ?_
  rintro e w5 ⟨b5, rfl, hs5, hb5⟩
  go_wp2_with fail
  refine (tag_no _ _ (by decide) _).mono ?_
  rintro e w6 ⟨rfl, hb6⟩
  go_wp2_with fail
  refine (HM1.out _).mono ?_
  rintro e w7 ⟨rfl, hb7⟩
  go_wp2_with fail
  refine (HCL.out _).mono ?_
  rintro e w8 ⟨rfl, hb8⟩
  go_wp2_with fail
  refine (lawrow_any 353 (by omega) _).mono ?_
  rintro e w9 ⟨b9, rfl, hs9, hb9⟩
  go_wp2_with fail
  refine (ints_same _ _ 353 _ ((((hs5.keep hb6).keep hb7).keep hb8).keep hb9) hs9).mono ?_
  rintro e w10 ⟨rfl, hb10⟩
  go_wp2
  go_ret
  exact ⟨rfl, hb1.next (hb2.next (hb3.next (hb4.next (hb5.next (hb6.next (hb7.next (hb8.next (hb9.next hb10))))))))⟩
end Go.Proofs.Ytgiajnbihdobeaa
