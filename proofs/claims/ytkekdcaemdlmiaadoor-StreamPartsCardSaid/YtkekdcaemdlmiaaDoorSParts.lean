/-
  StreamParts, for every input: parts at multiples of 64 bytes may be done one by one.
-/
import Derived.Test.YtkekdcaemdlmiaaDoorStrc
namespace Go.Proofs.YtkekdcaemdlmiaaDoor
open Go.RowKit Go.Kx
set_option maxRecDepth 20000

set_option maxHeartbeats 1000000 in
theorem walkStreamParts (key nonce : ByteArray) (n : Int) (s : ByteArray) (q : Int) (w : World) (hK : Places w) :
    Calls Tryd.prog 4 #[.string key, .string nonce, .int .i64 n, .string s, .int .i64 q] w fun e w' => e = .returned (.bool true) ∧ Below w.heap.size w w' := by
  by_cases h1 : 100 < key.size
  · have t1 : (100 : Int) < (key.size : Int) := by omega
    clear h1
    go_enter Tryd.func4, Tryd.ntmps4
    go_wp2_with fail
    refine (streams_any _ hK).mono ?_
    rintro e w1 ⟨rfl, hb1⟩
    go_wp2
    go_ret
    exact ⟨rfl, hb1⟩
  have t1 : ¬ (100 : Int) < (key.size : Int) := by omega
  by_cases h2 : 100 < nonce.size
  · have t2 : (100 : Int) < (nonce.size : Int) := by omega
    clear h2 h1
    go_enter Tryd.func4, Tryd.ntmps4
    go_wp2_with fail
    refine (streams_any _ hK).mono ?_
    rintro e w1 ⟨rfl, hb1⟩
    go_wp2
    go_ret
    exact ⟨rfl, hb1⟩
  have t2 : ¬ (100 : Int) < (nonce.size : Int) := by omega
  by_cases h3 : 4000 < s.size
  · have t3 : (4000 : Int) < (s.size : Int) := by omega
    clear h3 h1 h2
    go_enter Tryd.func4, Tryd.ntmps4
    go_wp2_with fail
    refine (streams_any _ hK).mono ?_
    rintro e w1 ⟨rfl, hb1⟩
    go_wp2
    go_ret
    exact ⟨rfl, hb1⟩
  have t3 : ¬ (4000 : Int) < (s.size : Int) := by omega
  by_cases h4 : q < 0
  · have t4 : q < 0 := by omega
    clear h4 h1 h2 h3
    go_enter Tryd.func4, Tryd.ntmps4
    go_wp2_with fail
    refine (streams_any _ hK).mono ?_
    rintro e w1 ⟨rfl, hb1⟩
    go_wp2
    go_ret
    exact ⟨rfl, hb1⟩
  have t4 : ¬ q < 0 := by omega
  by_cases h5 : 62 < q
  · have t5 : (62 : Int) < q := by omega
    clear h5 h1 h2 h3
    go_enter Tryd.func4, Tryd.ntmps4
    go_wp2_with fail
    refine (streams_any _ hK).mono ?_
    rintro e w1 ⟨rfl, hb1⟩
    go_wp2
    go_ret
    exact ⟨rfl, hb1⟩
  have t5 : ¬ (62 : Int) < q := by omega
  obtain ⟨m, rfl⟩ := Int.eq_ofNat_of_zero_le (show 0 ≤ q by omega)
  have hm62 : m ≤ 62 := by omega
  have hw : IntKind.i64.wrap (64 * (m : Int)) = 64 * (m : Int) := IntWalk.i64_in _ (by omega)
  by_cases h6 : s.size < 64 * m
  · have t6 : (s.size : Int) < 64 * (m : Int) := by omega
    clear h6 h1 h2 h3 h4 h5
    go_enter Tryd.func4, Tryd.ntmps4
    go_wp2_with fail
    refine (streams_any _ hK).mono ?_
    rintro e w1 ⟨rfl, hb1⟩
    go_wp2
    go_ret
    exact ⟨rfl, hb1⟩
  have t6 : ¬ (s.size : Int) < 64 * (m : Int) := by omega
  have hms : 64 * m ≤ s.size := by omega
  obtain ⟨p, hp⟩ : ∃ p : ByteArray, s.extract 0 (64 * m) = p := ⟨_, rfl⟩
  have hsl : ∀ V : World, (Instr.slice 9 (.string s) none (some (.int .i64 (64 * (m : Int)))) none).run Tryd.prog V = .ok (.string p) V := fun V => by
    rw [run_slice_to' Tryd.underlying9 s (64 * (m : Int)) (by omega) (by omega), show (64 * (m : Int)).toNat = 64 * m by omega, hp]
  obtain ⟨r, hr⟩ : ∃ r : ByteArray, s.extract (64 * m) s.size = r := ⟨_, rfl⟩
  have hsr : ∀ V : World, (Instr.slice 9 (.string s) (some (.int .i64 (64 * (m : Int)))) none none).run Tryd.prog V = .ok (.string r) V := fun V => by
    rw [run_slice_from' Tryd.underlying9 s (64 * (m : Int)) (by omega) (by omega), show (64 * (m : Int)).toNat = 64 * m by omega, hr]
  have hpl : p.data.toList = s.data.toList.take (64 * m) := by rw [← hp, Lib.extract_data]; rfl
  have hrl : r.data.toList = s.data.toList.drop (64 * m) := by rw [← hr, Lib.extract_data, List.take_of_length_le (by rw [List.length_drop, list_size]; exact Nat.le_refl _)]
  have hpz : p.size = 64 * m := by rw [← list_size, hpl, List.length_take, list_size]; omega
  have hrz : r.size = s.size - 64 * m := by rw [← list_size, hrl, List.length_drop, list_size]
  clear h1 h2 h3 h4 h5 h6 hp hr
  rcases crypt_split key nonce n s with ⟨c, hc0, hC⟩ | ⟨hk, hn, k, rfl, hkl, hz, hc⟩
  · have HC := Lib.hid (hC s rfl)
    have te : (c != 0) = true := by simpa using hc0
    clear hC hc0 hpl hrl hpz hrz
    go_enter Tryd.func4, Tryd.ntmps4
    go_wp2_with fail
    refine (HC.out _).mono ?_
    rintro e w1 ⟨rfl, hb1⟩
    go_wp2_with fail
    refine (crypt_some key nonce n p _ (hK.keep hb1)).mono ?_
    rintro e w2 ⟨⟨r2, c2, rfl⟩, hb2⟩
    go_wp2_with fail
    refine (streams_any _ (hK.keep (hb1.next hb2))).mono ?_
    rintro e w3 ⟨rfl, hb3⟩
    go_wp2
    go_ret
    exact ⟨rfl, hb1.next (hb2.next hb3)⟩
  obtain ⟨a, ha⟩ : ∃ a : ByteArray, ⟨(hideL (ksB key nonce) k s.data.toList).toArray⟩ = a := ⟨_, rfl⟩
  have HC : Hid (∀ V : World, Places V → Calls Tryd.prog 6 #[.string key, .string nonce, .int .i64 k, .string s] V fun e w' => e = .returned (.tuple #[.string a, .int .i64 0]) ∧ Below V.heap.size V w') :=
    Lib.hid fun V hV => crypt_yes key nonce k s hk hn hkl hz hc a ha V hV
  by_cases hf : 4294967295 - (m : Int) < (k : Int)
  · clear hpl hrl hpz hrz ha
    go_enter Tryd.func4, Tryd.ntmps4
    go_wp2_with fail
    refine (HC.out _ hK).mono ?_
    rintro e w1 ⟨rfl, hb1⟩
    go_wp2_with fail
    refine (crypt_some key nonce k p _ (hK.keep hb1)).mono ?_
    rintro e w2 ⟨⟨r2, c2, rfl⟩, hb2⟩
    go_wp2_with fail
    refine (streams_any _ (hK.keep (hb1.next hb2))).mono ?_
    rintro e w3 ⟨rfl, hb3⟩
    go_wp2
    go_ret
    exact ⟨rfl, hb1.next (hb2.next hb3)⟩
  · have hkm : k + m < 4294967296 := by omega
    have hcp : countedB k p.size = true := by
      simp only [countedB, Bool.or_eq_true, decide_eq_true_eq] at hc ⊢
      omega
    have hcr : countedB (k + m) r.size = true := by
      simp only [countedB, Bool.or_eq_true, decide_eq_true_eq] at hc ⊢
      omega
    obtain ⟨b, hb⟩ : ∃ b : ByteArray, ⟨(hideL (ksB key nonce) k p.data.toList).toArray⟩ = b := ⟨_, rfl⟩
    obtain ⟨d, hd⟩ : ∃ d : ByteArray, ⟨(hideL (ksB key nonce) (k + m) r.data.toList).toArray⟩ = d := ⟨_, rfl⟩
    have hbz : b.size = p.size := by rw [← hb, size_mk, hideL_length, list_size]
    have hdz : d.size = r.size := by rw [← hd, size_mk, hideL_length, list_size]
    have hbd : b ++ d = a := by
      apply str_same
      rw [← ha, ← hb, ← hd, mk_append, hpl, hrl]
      exact (hideL_parts (ksB key nonce) k m s.data.toList (by rw [list_size]; exact hms)).symm
    have hadd : ∀ V : World, (Op.stringOp .add b d).run Tryd.prog V = .ok (.string a) V := fun V => by rw [run_string_add_sum V b d (by omega), hbd]
    have HP : Hid (∀ V : World, Places V → Calls Tryd.prog 6 #[.string key, .string nonce, .int .i64 k, .string p] V fun e w' => e = .returned (.tuple #[.string b, .int .i64 0]) ∧ Below V.heap.size V w') :=
      Lib.hid fun V hV => crypt_yes key nonce k p hk hn hkl (by omega) hcp b hb V hV
    have HR : Hid (∀ V : World, Places V → Calls Tryd.prog 6 #[.string key, .string nonce, .int .i64 ((k + m : Nat) : Int), .string r] V fun e w' => e = .returned (.tuple #[.string d, .int .i64 0]) ∧ Below V.heap.size V w') :=
      Lib.hid fun V hV => crypt_yes key nonce (k + m) r hk hn hkm (by omega) hcr d hd V hV
    have hwk : IntKind.i64.wrap ((k : Int) + (m : Int)) = ((k + m : Nat) : Int) := IntWalk.i64_in _ (by omega)
    clear hpl hrl hpz hrz ha hb hd hbz hdz hbd hcp hcr hk hn hz hc
    go_enter Tryd.func4, Tryd.ntmps4
    go_wp2_with fail
    refine (HC.out _ hK).mono ?_
    rintro e w1 ⟨rfl, hb1⟩
    go_wp2_with fail
    refine (HP.out _ (hK.keep hb1)).mono ?_
    rintro e w2 ⟨rfl, hb2⟩
    go_wp2_with fail
    refine (HR.out _ (hK.keep (hb1.next hb2))).mono ?_
    rintro e w3 ⟨rfl, hb3⟩
    have hb := hb1.next (hb2.next hb3)
    go_wp2_with fail
    refine (streams_any _ (hK.keep hb)).mono ?_
    rintro e w4 ⟨rfl, hb4⟩
    go_wp2
    go_ret
    exact ⟨rfl, hb.next hb4⟩
end Go.Proofs.YtkekdcaemdlmiaaDoor
