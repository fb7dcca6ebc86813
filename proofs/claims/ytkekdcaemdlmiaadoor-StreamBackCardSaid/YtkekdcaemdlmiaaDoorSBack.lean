/-
  StreamBack, for every input: Crypt of Crypt is the text, and as long; the same text is hidden the same.
-/
import Derived.Test.YtkekdcaemdlmiaaDoorStrc
namespace Go.Proofs.YtkekdcaemdlmiaaDoor
open Go.RowKit Go.Kx
set_option maxRecDepth 20000

set_option maxHeartbeats 1000000 in
theorem walkStreamBack (key nonce : ByteArray) (n : Int) (s : ByteArray) (w : World) (hK : Places w) :
    Calls Tryd.prog 3 #[.string key, .string nonce, .int .i64 n, .string s] w fun e w' => e = .returned (.bool true) ∧ Below w.heap.size w w' := by
  by_cases hb1 : 100 < key.size
  · have t1 : (100 : Int) < (key.size : Int) := by omega
    clear hb1
    go_enter Tryd.func3, Tryd.ntmps3
    go_wp2
    go_ret
    exact ⟨rfl, Below.refl _ _⟩
  have t1 : ¬ (100 : Int) < (key.size : Int) := by omega
  by_cases hb2 : 100 < nonce.size
  · have t2 : (100 : Int) < (nonce.size : Int) := by omega
    clear hb1 hb2
    go_enter Tryd.func3, Tryd.ntmps3
    go_wp2
    go_ret
    exact ⟨rfl, Below.refl _ _⟩
  have t2 : ¬ (100 : Int) < (nonce.size : Int) := by omega
  by_cases hb3 : 5000 < s.size
  · have t3 : (5000 : Int) < (s.size : Int) := by omega
    clear hb1 hb2 hb3
    go_enter Tryd.func3, Tryd.ntmps3
    go_wp2
    go_ret
    exact ⟨rfl, Below.refl _ _⟩
  have t3 : ¬ (5000 : Int) < (s.size : Int) := by omega
  clear hb1 hb2 hb3
  rcases crypt_split key nonce n s with ⟨c, hc0, hC⟩ | ⟨hk, hn, m, rfl, hm, hz, hc⟩
  · have HC := Lib.hid (hC s rfl)
    have te : (c != 0) = true := by simpa using hc0
    clear hC hc0
    go_enter Tryd.func3, Tryd.ntmps3
    go_wp2_with fail
    refine (HC.out _).mono ?_
    rintro e w1 ⟨rfl, hb1⟩
    go_wp2_with fail
    refine (crypt_some key nonce n ⟨#[]⟩ _ (hK.keep hb1)).mono ?_
    rintro e w2 ⟨⟨r, c2, rfl⟩, hb2⟩
    go_wp2_with fail
    refine (HC.out _).mono ?_
    rintro e w3 ⟨rfl, hb3⟩
    have hb := hb1.next (hb2.next hb3)
    go_wp2_with fail
    refine (streams_any _ (hK.keep hb)).mono ?_
    rintro e w4 ⟨rfl, hb4⟩
    go_wp2
    go_ret
    exact ⟨rfl, hb.next hb4⟩
  · obtain ⟨a, ha⟩ : ∃ a : ByteArray, ⟨(hideL (ksB key nonce) m s.data.toList).toArray⟩ = a := ⟨_, rfl⟩
    have haz : a.size = s.size := by rw [← ha, size_mk, hideL_length, list_size]
    have hback : ⟨(hideL (ksB key nonce) m a.data.toList).toArray⟩ = s := by
      apply str_same
      rw [← ha]
      exact hideL_back _ _ _
    have HC : Hid (∀ V : World, Places V → Calls Tryd.prog 6 #[.string key, .string nonce, .int .i64 m, .string s] V fun e w' => e = .returned (.tuple #[.string a, .int .i64 0]) ∧ Below V.heap.size V w') :=
      Lib.hid fun V hV => crypt_yes key nonce m s hk hn hm hz hc a ha V hV
    have HB : Hid (∀ V : World, Places V → Calls Tryd.prog 6 #[.string key, .string nonce, .int .i64 m, .string a] V fun e w' => e = .returned (.tuple #[.string s, .int .i64 0]) ∧ Below V.heap.size V w') :=
      Lib.hid fun V hV => crypt_yes key nonce m a hk hn hm (by omega) (by rw [haz]; exact hc) s hback V hV
    clear ha hback hk hn hm hz hc
    go_enter Tryd.func3, Tryd.ntmps3
    go_wp2_with fail
    refine (HC.out _ hK).mono ?_
    rintro e w1 ⟨rfl, hb1⟩
    go_wp2_with fail
    refine (HB.out _ (hK.keep hb1)).mono ?_
    rintro e w2 ⟨rfl, hb2⟩
    go_wp2_with fail
    refine (HC.out _ (hK.keep (hb1.next hb2))).mono ?_
    rintro e w3 ⟨rfl, hb3⟩
    have hb := hb1.next (hb2.next hb3)
    go_wp2_with fail
    refine (streams_any _ (hK.keep hb)).mono ?_
    rintro e w4 ⟨rfl, hb4⟩
    go_wp2
    go_ret
    exact ⟨rfl, hb.next hb4⟩
end Go.Proofs.YtkekdcaemdlmiaaDoor
