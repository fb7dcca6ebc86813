/-
  stream: what a call of Crypt answers, by cases; slices of strings.
-/
import Derived.Test.YtapbjmeilhcmaaaDoorStr7
import Derived.Lib.Strings
import Derived.Test.YtapbjmeilhcmaaaDoorReach
namespace Go.Proofs.YtapbjmeilhcmaaaDoor
open Go.RowKit Go.Kx
set_option maxRecDepth 20000

theorem crypt_split (key nonce : ByteArray) (n : Int) (s : ByteArray) :
    (∃ c : Int, c ≠ 0 ∧ ∀ t : ByteArray, t.size = s.size → ∀ V : World, Calls Tryd.prog 9 #[.string key, .string nonce, .int .i64 n, .string t] V fun e w' => e = .returned (.tuple #[.string ⟨#[]⟩, .int .i64 c]) ∧ Below V.heap.size V w') ∨
    (key.size = 32 ∧ nonce.size = 12 ∧ ∃ m : Nat, n = (m : Int) ∧ m < 4294967296 ∧ s.size ≤ 4000 ∧ countedB m s.size = true) := by
  by_cases hk : key.size = 32 ∧ nonce.size = 12 ∧ okW n = true
  · have ho := hk.2.2
    simp only [okW, Bool.and_eq_true, decide_eq_true_eq] at ho
    obtain ⟨m, rfl⟩ := Int.eq_ofNat_of_zero_le ho.1
    have hm : m < 4294967296 := by omega
    by_cases hz : s.size ≤ 4000
    · cases hc : countedB m s.size
      · exact .inl ⟨2, by omega, fun t ht V => crypt_far key nonce m t hk.1 hk.2.1 hm (by omega) (by rw [ht]; exact hc) V⟩
      · exact .inr ⟨hk.1, hk.2.1, m, rfl, hm, hz, hc⟩
    · exact .inl ⟨2, by omega, fun t ht V => crypt_long key nonce m t hk.1 hk.2.1 hm (by omega) V⟩
  · exact .inl ⟨1, by omega, fun t _ V => crypt_arg key nonce n t (fun h => by
      cases ho : okW n
      · rfl
      · exact absurd ⟨h.1, h.2, ho⟩ hk) V⟩
theorem crypt_some (key nonce : ByteArray) (n : Int) (s : ByteArray) (w : World) (hK : Places w) :
    Calls Tryd.prog 9 #[.string key, .string nonce, .int .i64 n, .string s] w fun e w' => (∃ r c, e = .returned (.tuple #[.string r, .int .i64 c])) ∧ Below w.heap.size w w' := by
  rcases crypt_split key nonce n s with ⟨c, _, h⟩ | ⟨hk, hn, m, rfl, hm, hz, hc⟩
  · exact (h s rfl w).mono fun e w' ⟨he, hb⟩ => ⟨⟨_, _, he⟩, hb⟩
  · exact (crypt_yes key nonce m s hk hn hm hz hc _ rfl w hK).mono fun e w' ⟨he, hb⟩ => ⟨⟨_, _, he⟩, hb⟩
theorem run_slice_from' {P : Program} {t : TypeId} (h : P.underlying t = some .string) (s : ByteArray) (lo : Int) (h0 : 0 ≤ lo) (h2 : lo ≤ (s.size : Int)) (V : World) :
    (Instr.slice t (.string s) (some (.int .i64 lo)) none none).run P V = .ok (.string (s.extract lo.toNat s.size)) V := by
  obtain ⟨l, rfl⟩ := Int.eq_ofNat_of_zero_le h0
  have e2 : (Instr.sliceBound (.int .i64 (l : Int)) s.size .sliceB).run P V = .ok l V := by
    simp only [Instr.sliceBound, asIntOf, Sem.run_bind, Sem.run_pure, Result.andThen_ok, if_pos (show 0 ≤ (l : Int) ∧ (l : Int) ≤ (s.size : Int) by omega), Int.toNat_natCast]
  simp only [Instr.slice, Instr.sliceBounds, Sem.run_bind, run_underlying h, Result.andThen_ok, Option.isSome_none, Bool.false_eq_true, if_false, Sem.run_pure, e2, Int.toNat_natCast]
theorem str_same {a b : ByteArray} (h : a.data.toList = b.data.toList) : a = b := by
  apply ByteArray.ext
  apply Array.toList_inj.1
  exact h
theorem list_size (a : ByteArray) : a.data.toList.length = a.size := by simp
end Go.Proofs.YtapbjmeilhcmaaaDoor
