/-
  StreamUnlike, for every input: two texts of one length that are hidden by one key, nonce and counter are unlike in the bytes in which the texts are.
-/
import Derived.Test.YtkekdcaemdlmiaaDoorStrc
import Derived.Test.YtkekdcaemdlmiaaDoorBytx
namespace Go.Proofs.YtkekdcaemdlmiaaDoor
open Go.RowKit Go.Kx
set_option maxRecDepth 20000

theorem xorB_at (a b : List UInt8) (j : Nat) (h1 : j < a.length) (h2 : j < b.length) : (xorB a b)[j]? = some (a[j] ^^^ b[j]) := by
  rw [xorB, List.getElem?_zipWith, List.getElem?_eq_getElem h1, List.getElem?_eq_getElem h2]
theorem bytes_xor (a b : ByteArray) (z : Nat) (hz : z ≤ 5000) (ha : a.size = z) (hb : b.size = z) (L : List UInt8) (hL : xorB a.data.toList b.data.toList = L) (w : World) :
    Calls Tryd.prog 8 #[.string a, .string b] w fun e w' => e = .returned (.string ⟨L.toArray⟩) ∧ Below w.heap.size w w' := by
  subst hL
  refine rbytes_all a b z hz ha hb _ (by simp [xorB, ha, hb]) (fun j h1 h2 => ⟨a[j] ^^^ b[j], ?_, ?_⟩) w
  · exact xorB_at a.data.toList b.data.toList j (by simpa using h1) (by simpa using h2)
  · exact (UInt8.toNat_xor _ _).symm
set_option maxHeartbeats 1000000 in
theorem walkStreamUnlike (key nonce : ByteArray) (n : Int) (s t : ByteArray) (w : World) (hK : Places w) :
    Calls Tryd.prog 5 #[.string key, .string nonce, .int .i64 n, .string s, .string t] w fun e w' => e = .returned (.bool true) ∧ Below w.heap.size w w' := by
  by_cases h1 : 100 < key.size
  · have t1 : (100 : Int) < (key.size : Int) := by omega
    clear h1
    go_enter Tryd.func5, Tryd.ntmps5
    go_wp2_with fail
    refine (streams_any _ hK).mono ?_
    rintro e w1 ⟨rfl, hb1⟩
    go_wp2
    go_ret
    exact ⟨rfl, hb1⟩
  have t1 : ¬ (100 : Int) < (key.size : Int) := by omega
  by_cases h2 : 100 < nonce.size
  · have t2 : (100 : Int) < (nonce.size : Int) := by omega
    clear h1 h2
    go_enter Tryd.func5, Tryd.ntmps5
    go_wp2_with fail
    refine (streams_any _ hK).mono ?_
    rintro e w1 ⟨rfl, hb1⟩
    go_wp2
    go_ret
    exact ⟨rfl, hb1⟩
  have t2 : ¬ (100 : Int) < (nonce.size : Int) := by omega
  by_cases h3 : 1000 < s.size
  · have t3 : (1000 : Int) < (s.size : Int) := by omega
    clear h1 h2 h3
    go_enter Tryd.func5, Tryd.ntmps5
    go_wp2_with fail
    refine (streams_any _ hK).mono ?_
    rintro e w1 ⟨rfl, hb1⟩
    go_wp2
    go_ret
    exact ⟨rfl, hb1⟩
  have t3 : ¬ (1000 : Int) < (s.size : Int) := by omega
  by_cases h4 : s.size = t.size
  case neg =>
    have t4 : ((s.size : Int) != (t.size : Int)) = true := by simp; omega
    clear h1 h2 h3 h4
    go_enter Tryd.func5, Tryd.ntmps5
    go_wp2_with fail
    refine (streams_any _ hK).mono ?_
    rintro e w1 ⟨rfl, hb1⟩
    go_wp2
    go_ret
    exact ⟨rfl, hb1⟩
  have t4 : ((s.size : Int) != (t.size : Int)) = false := by simp; omega
  rcases crypt_split key nonce n s with ⟨c, hc0, hC⟩ | ⟨hk, hn, m, rfl, hm, hz, hc⟩
  · have HC := Lib.hid (hC s rfl)
    have HT := Lib.hid (hC t h4.symm)
    have te : (c != 0) = true := by simpa using hc0
    clear hC hc0 h1 h2 h3 h4
    go_enter Tryd.func5, Tryd.ntmps5
    go_wp2_with fail
    refine (HC.out _).mono ?_
    rintro e w1 ⟨rfl, hb1⟩
    go_wp2_with fail
    refine (HT.out _).mono ?_
    rintro e w2 ⟨rfl, hb2⟩
    go_wp2_with fail
    refine (streams_any _ (hK.keep (hb1.next hb2))).mono ?_
    rintro e w3 ⟨rfl, hb3⟩
    go_wp2
    go_ret
    exact ⟨ret_bool (by first | rfl | simp), hb1.next (hb2.next hb3)⟩
  · obtain ⟨a, ha⟩ : ∃ a : ByteArray, ⟨(hideL (ksB key nonce) m s.data.toList).toArray⟩ = a := ⟨_, rfl⟩
    obtain ⟨b, hb⟩ : ∃ b : ByteArray, ⟨(hideL (ksB key nonce) m t.data.toList).toArray⟩ = b := ⟨_, rfl⟩
    have haz : a.size = s.size := by rw [← ha, size_mk, hideL_length, list_size]
    have hbz : b.size = s.size := by rw [← hb, size_mk, hideL_length, list_size]; omega
    obtain ⟨L, hL⟩ : ∃ L, xorB s.data.toList t.data.toList = L := ⟨_, rfl⟩
    have hab : xorB a.data.toList b.data.toList = L := by
      rw [← hL, ← ha, ← hb]
      exact hideL_xor _ _ _ _ (by rw [list_size, list_size]; exact h4)
    have hse : (a.toList == b.toList) = (s.toList == t.toList) := by
      rw [Bool.eq_iff_iff, beq_iff_eq, beq_iff_eq, Lib.toList_data, Lib.toList_data, Lib.toList_data, Lib.toList_data, ← ha, ← hb]
      exact ⟨fun h => hideL_inj _ _ _ _ h, fun h => congrArg (hideL (ksB key nonce) m) h⟩
    obtain ⟨x, hx⟩ : ∃ x : ByteArray, ⟨L.toArray⟩ = x := ⟨_, rfl⟩
    have HC : Hid (∀ V : World, Places V → Calls Tryd.prog 6 #[.string key, .string nonce, .int .i64 m, .string s] V fun e w' => e = .returned (.tuple #[.string a, .int .i64 0]) ∧ Below V.heap.size V w') :=
      Lib.hid fun V hV => crypt_yes key nonce m s hk hn hm hz hc a ha V hV
    have HT : Hid (∀ V : World, Places V → Calls Tryd.prog 6 #[.string key, .string nonce, .int .i64 m, .string t] V fun e w' => e = .returned (.tuple #[.string b, .int .i64 0]) ∧ Below V.heap.size V w') :=
      Lib.hid fun V hV => crypt_yes key nonce m t hk hn hm (by omega) (by rw [← h4]; exact hc) b hb V hV
    have HX : Hid (∀ V : World, Calls Tryd.prog 8 #[.string a, .string b] V fun e w' => e = .returned (.string x) ∧ Below V.heap.size V w') :=
      Lib.hid fun V => by rw [← hx]; exact bytes_xor a b s.size (by omega) haz hbz L hab V
    have HY : Hid (∀ V : World, Calls Tryd.prog 8 #[.string s, .string t] V fun e w' => e = .returned (.string x) ∧ Below V.heap.size V w') :=
      Lib.hid fun V => by rw [← hx]; exact bytes_xor s t s.size (by omega) rfl h4.symm L hL V
    have HE := Lib.hid hse
    clear ha hb haz hbz hL hab hse hx hk hn hm hz hc h1 h2 h3 h4
    go_enter Tryd.func5, Tryd.ntmps5
    go_wp2_with fail
    refine (HC.out _ hK).mono ?_
    rintro e w1 ⟨rfl, hb1⟩
    go_wp2_with fail
    refine (HT.out _ (hK.keep hb1)).mono ?_
    rintro e w2 ⟨rfl, hb2⟩
    have hb := hb1.next hb2
    go_wp2_with fail
    refine (streams_any _ (hK.keep hb)).mono ?_
    rintro e w3 ⟨rfl, hb3⟩
    go_wp2_with fail
    refine (HX.out _).mono ?_
    rintro e w4 ⟨rfl, hb4⟩
    go_wp2_with fail
    refine (HY.out _).mono ?_
    rintro e w5 ⟨rfl, hb5⟩
    go_wp2
    go_ret
    exact ⟨ret_bool (by rw [HE.out]; first | rfl | simp), hb.next (hb3.next (hb4.next hb5))⟩
end Go.Proofs.YtkekdcaemdlmiaaDoor
