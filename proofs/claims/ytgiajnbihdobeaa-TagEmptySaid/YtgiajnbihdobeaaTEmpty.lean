/-
  TagEmpty: the walk.
-/
import Derived.Test.YtgiajnbihdobeaaTag10
namespace Go.Proofs.Ytgiajnbihdobeaa
open Go.RowKit Go.Kx
set_option maxRecDepth 20000

theorem tagV_empty (key : List UInt8) : tagV key [] = digT (key.drop 16) := by
  rw [tagV]
  show accV _ _ 0 + _ = _
  rw [accV, Nat.zero_add]
theorem walkTagEmpty (key : ByteArray) (s : ByteArray) (w : World) :
    Calls Try.prog 5 #[.string key, .string s] w fun e w' => e = .returned (.bool true) ∧ Below w.heap.size w w' := by
  by_cases h1 : 100 < key.size
  · have t1 : (100 : Int) < (key.size : Int) := by omega
    go_enter Try.func5, Try.ntmps5
    go_wp2
    go_ret
    exact ⟨rfl, Below.refl _ _⟩
  · have t1 : ¬ (100 : Int) < (key.size : Int) := by omega
    by_cases h2 : 1000 < s.size
    · have t2 : (1000 : Int) < (s.size : Int) := by omega
      go_enter Try.func5, Try.ntmps5
      go_wp2
      go_ret
      exact ⟨rfl, Below.refl _ _⟩
    · have t2 : ¬ (1000 : Int) < (s.size : Int) := by omega
      by_cases hk : key.size = 32
      · obtain ⟨k2, hk2⟩ : ∃ k2, key.extract 16 key.size = k2 := ⟨_, rfl⟩
        have hs2 : ∀ V : World, (Instr.slice 9 (.string key) (some (.int .i64 16)) none none).run Try.prog V = .ok (.string k2) V := fun V => by rw [← hk2]; exact str_from Try.underlying9 key 16 (by omega) V
        have hkl : key.data.toList.length = 32 := by simpa using hk
        obtain ⟨r, hr⟩ : ∃ r : ByteArray, (⟨(lowL (tagV key.data.toList s.data.toList)).toArray⟩ : ByteArray) = r := ⟨_, rfl⟩
        have hrz : r.size = 16 := by rw [← hr, size_mk, lowL_length]
        have HT1 : Hid (∀ V : World, Calls Try.prog 10 #[.string key, .string ⟨#[]⟩] V fun e w' => e = .returned (.tuple #[.string k2, .int .i64 0]) ∧ Below V.heap.size V w') :=
          Lib.hid fun V => tag_yes key ⟨#[]⟩ hk (by decide) k2 (by
            rw [show (ByteArray.mk #[]).data.toList = [] from rfl, tagV_empty, lowL_digT _ (by rw [List.length_drop]; omega), ← hk2]
            apply ByteArray.ext
            apply Array.toList_inj.1
            rw [str_ext, List.take_of_length_le (by simp)]) V
        have HT2 : Hid (∀ V : World, Calls Try.prog 10 #[.string key, .string s] V fun e w' => e = .returned (.tuple #[.string r, .int .i64 0]) ∧ Below V.heap.size V w') :=
          Lib.hid fun V => tag_yes key s hk (by omega) r hr V
        have hne : ((key.size : Int) != 32) = false := by rw [hk]; rfl
        have he : ((r.size : Int) == 16) = true := by rw [hrz]; rfl
        clear hk2 hr
        go_enter Try.func5, Try.ntmps5
        go_wp2_with fail
        refine (HT1.out _).mono ?_
        rintro e w1 ⟨rfl, hb1⟩
        go_wp2_with fail
        refine (HT2.out _).mono ?_
        rintro e w2 ⟨rfl, hb2⟩
        go_wp2_with fail
        refine (tags_any _).mono ?_
        rintro e w3 ⟨rfl, hb3⟩
        go_wp2
        go_ret
        exact ⟨ret_bool (by first | rfl | simp), hb1.next (hb2.next hb3)⟩
      · have hne : ((key.size : Int) != 32) = true := by rw [bne_iff_ne]; omega
        go_enter Try.func5, Try.ntmps5
        go_wp2_with fail
        refine (tag_no key _ hk _).mono ?_
        rintro e w1 ⟨rfl, hb1⟩
        go_wp2_with fail
        refine (tag_no key _ hk _).mono ?_
        rintro e w2 ⟨rfl, hb2⟩
        go_wp2_with fail
        refine (tags_any _).mono ?_
        rintro e w3 ⟨rfl, hb3⟩
        go_wp2
        go_ret
        exact ⟨ret_bool (by first | rfl | simp), hb1.next (hb2.next hb3)⟩
end Go.Proofs.Ytgiajnbihdobeaa
