/-
  TagZeros: the walk.
-/
import Derived.Test.YtgiajnbihdobeaaTag10
namespace Go.Proofs.Ytgiajnbihdobeaa
open Go.RowKit Go.Kx
set_option maxRecDepth 20000

theorem tagV_split (a e s : List UInt8) (h : a.length = 16) : tagV (a ++ e) s = accV (digT (clampL a)) s (partsN s.length) + digT e := by
  have h1 : (a ++ e).take 16 = a := by rw [List.take_append_of_le_length (by omega), List.take_of_length_le (by omega)]
  have h2 : (a ++ e).drop 16 = e := by rw [List.drop_append_of_le_length (by omega), List.drop_of_length_le (by omega), List.nil_append]
  rw [tagV, h1, h2]
theorem zeros_no (r e s : ByteArray) (h : r.size ≠ 16 ∨ e.size ≠ 16 ∨ 1000 < s.size) (w : World) :
    Calls Try.prog 4 #[.string r, .string e, .string s] w fun x w' => x = .returned (.bool true) ∧ Below w.heap.size w w' := by
  by_cases h1 : r.size = 16
  · have t1 : ((r.size : Int) != 16) = false := by rw [h1]; rfl
    by_cases h2 : e.size = 16
    · have t2 : ((e.size : Int) != 16) = false := by rw [h2]; rfl
      have t3 : (1000 : Int) < (s.size : Int) := by omega
      go_enter Try.func4, Try.ntmps4
      go_wp2_with fail
      refine (tags_any _).mono ?_
      rintro e w1 ⟨rfl, hb1⟩
      go_wp2
      go_ret
      exact ⟨rfl, hb1⟩
    · have t2 : ((e.size : Int) != 16) = true := by rw [bne_iff_ne]; omega
      go_enter Try.func4, Try.ntmps4
      go_wp2_with fail
      refine (tags_any _).mono ?_
      rintro e w1 ⟨rfl, hb1⟩
      go_wp2
      go_ret
      exact ⟨rfl, hb1⟩
  · have t1 : ((r.size : Int) != 16) = true := by rw [bne_iff_ne]; omega
    go_enter Try.func4, Try.ntmps4
    go_wp2_with fail
    refine (tags_any _).mono ?_
    rintro e w1 ⟨rfl, hb1⟩
    go_wp2
    go_ret
    exact ⟨rfl, hb1⟩
theorem zeros_yes (r e s : ByteArray) (h1 : r.size = 16) (h2 : e.size = 16) (h3 : s.size ≤ 1000) (w : World) :
    Calls Try.prog 4 #[.string r, .string e, .string s] w fun x w' => x = .returned (.bool true) ∧ Below w.heap.size w w' := by
  have hrl : r.data.toList.length = 16 := by simpa using h1
  have hel : e.data.toList.length = 16 := by simpa using h2
  obtain ⟨z, hz⟩ : ∃ z : ByteArray, (⟨(List.replicate 16 (0 : UInt8)).toArray⟩ : ByteArray) = z := ⟨_, rfl⟩
  have hzz : z.size = 16 := by rw [← hz, size_mk]; rfl
  obtain ⟨c, hc⟩ : ∃ c : ByteArray, (⟨(clampL r.data.toList).toArray⟩ : ByteArray) = c := ⟨_, rfl⟩
  have hcl : c.data.toList = clampL r.data.toList := by rw [← hc]
  have hcz : c.size = 16 := by rw [← hc, size_mk, clampL_length, hrl]
  obtain ⟨ka, hka⟩ : ∃ k : ByteArray, z ++ e = k := ⟨_, rfl⟩
  obtain ⟨kb, hkb⟩ : ∃ k : ByteArray, r ++ e = k := ⟨_, rfl⟩
  obtain ⟨kc, hkc⟩ : ∃ k : ByteArray, c ++ e = k := ⟨_, rfl⟩
  have hla : ka.data.toList = List.replicate 16 0 ++ e.data.toList := by rw [← hka, ← hz]; simp
  have hlb : kb.data.toList = r.data.toList ++ e.data.toList := by rw [← hkb]; simp
  have hlc : kc.data.toList = clampL r.data.toList ++ e.data.toList := by rw [← hkc, ← hcl]; simp
  have hsa : ka.size = 32 := by rw [← hka, ByteArray.size_append]; omega
  have hsb : kb.size = 32 := by rw [← hkb, ByteArray.size_append]; omega
  have hsc : kc.size = 32 := by rw [← hkc, ByteArray.size_append]; omega
  obtain ⟨t, ht⟩ : ∃ t : ByteArray, (⟨(lowL (tagV kb.data.toList s.data.toList)).toArray⟩ : ByteArray) = t := ⟨_, rfl⟩
  have aa : ∀ V : World, (Op.stringOp .add z e).run Try.prog V = .ok (.string ka) V := fun V => by rw [← hka]; exact run_string_add_sum V z e (by omega)
  have ab : ∀ V : World, (Op.stringOp .add r e).run Try.prog V = .ok (.string kb) V := fun V => by rw [← hkb]; exact run_string_add_sum V r e (by omega)
  have ac : ∀ V : World, (Op.stringOp .add c e).run Try.prog V = .ok (.string kc) V := fun V => by rw [← hkc]; exact run_string_add_sum V c e (by omega)
  have HM : Hid (∀ V : World, Calls Try.prog 11 #[.int .u8 0, .int .i64 16] V fun x w' => x = .returned (.string z) ∧ Below V.heap.size V w') := Lib.hid fun V => by rw [← hz]; exact many0 V
  have HTA : Hid (∀ V : World, Calls Try.prog 10 #[.string ka, .string s] V fun x w' => x = .returned (.tuple #[.string e, .int .i64 0]) ∧ Below V.heap.size V w') :=
    Lib.hid fun V => tag_yes ka s hsa (by omega) e (by rw [hla, tagV_zero, lowL_digT _ hel]) V
  have HTB : Hid (∀ V : World, Calls Try.prog 10 #[.string kb, .string s] V fun x w' => x = .returned (.tuple #[.string t, .int .i64 0]) ∧ Below V.heap.size V w') :=
    Lib.hid fun V => tag_yes kb s hsb (by omega) t ht V
  have HTC : Hid (∀ V : World, Calls Try.prog 10 #[.string kc, .string s] V fun x w' => x = .returned (.tuple #[.string t, .int .i64 0]) ∧ Below V.heap.size V w') :=
    Lib.hid fun V => tag_yes kc s hsc (by omega) t (by rw [← ht, hlb, hlc, tagV_split _ _ _ hrl, tagV_split _ _ _ (by rw [clampL_length, hrl]), clampL_twice]) V
  have HC1 : Hid (∀ V : World, Calls Try.prog 7 #[.string r] V fun x w' => x = .returned (.tuple #[.string c, .bool true]) ∧ Below V.heap.size V w') := Lib.hid fun V => Clamp_yes r h1 c hc V
  have HC2 : Hid (∀ V : World, Calls Try.prog 7 #[.string c] V fun x w' => x = .returned (.tuple #[.string c, .bool true]) ∧ Below V.heap.size V w') :=
    Lib.hid fun V => Clamp_yes c hcz c (by rw [hcl, clampL_twice]; exact hc) V
  have t1 : ((r.size : Int) != 16) = false := by rw [h1]; rfl
  have t2 : ((e.size : Int) != 16) = false := by rw [h2]; rfl
  have t3 : ¬ (1000 : Int) < (s.size : Int) := by omega
  clear hrl hel hz hzz hc hcl hcz hka hkb hkc hla hlb hlc hsa hsb hsc ht h1 h2
  go_enter Try.func4, Try.ntmps4
  go_wp2_with fail
  refine (HM.out _).mono ?_
  rintro x w1 ⟨rfl, hb1⟩
  go_wp2_with fail
  refine (HTA.out _).mono ?_
  rintro x w2 ⟨rfl, hb2⟩
  go_wp2_with fail
  refine (HC1.out _).mono ?_
  rintro x w3 ⟨rfl, hb3⟩
  go_wp2_with fail
  refine (HTB.out _).mono ?_
  rintro x w4 ⟨rfl, hb4⟩
  go_wp2_with fail
  refine (HTC.out _).mono ?_
  rintro x w5 ⟨rfl, hb5⟩
  go_wp2_with fail
  refine (HC2.out _).mono ?_
  rintro x w6 ⟨rfl, hb6⟩
  go_wp2_with fail
  refine (tags_any _).mono ?_
  rintro x w7 ⟨rfl, hb7⟩
  go_wp2
  go_ret
  exact ⟨ret_bool (by first | rfl | simp), hb1.next (hb2.next (hb3.next (hb4.next (hb5.next (hb6.next hb7)))))⟩
theorem walkTagZeros (r : ByteArray) (e : ByteArray) (s : ByteArray) (w : World) :
    Calls Try.prog 4 #[.string r, .string e, .string s] w fun x w' => x = .returned (.bool true) ∧ Below w.heap.size w w' := by
  by_cases h : r.size ≠ 16 ∨ e.size ≠ 16 ∨ 1000 < s.size
  · exact zeros_no r e s h w
  · exact zeros_yes r e s (by omega) (by omega) (by omega) w
end Go.Proofs.Ytgiajnbihdobeaa
