/-
  SealWhole, for every input: what is sealed is what is hidden, and the Tag of what is told of it.
-/
import Derived.Test.YtapbjmeilhcmaaaDoorSl6
namespace Go.Proofs.YtapbjmeilhcmaaaDoor
open Go.RowKit Go.Kx
set_option maxRecDepth 20000

set_option maxHeartbeats 2000000 in
theorem walkSealWhole (key nonce beside : ByteArray) (rb : beside.size ≤ 140737488351232) (s : ByteArray) (rs : s.size ≤ 140737488351232) (w : World) (hK : Places w) :
    Calls Tryd.prog 5 #[.string key, .string nonce, .string beside, .string s] w fun e w' => e = .returned (.bool true) ∧ Below w.heap.size w w' := by
  have i1 : IntKind.i64.wrap ((beside.size : Int) + (s.size : Int)) = (beside.size : Int) + (s.size : Int) := IntWalk.i64_in _ (by omega)
  by_cases h1 : 100 < key.size
  · have t1 : (100 : Int) < (key.size : Int) := by omega
    clear h1
    go_enter Tryd.func5, Tryd.ntmps5
    go_wp2
    go_ret
    exact ⟨rfl, Below.refl _ _⟩
  have t1 : ¬ (100 : Int) < (key.size : Int) := by omega
  by_cases h2 : 100 < nonce.size
  · have t2 : (100 : Int) < (nonce.size : Int) := by omega
    clear h1 h2
    go_enter Tryd.func5, Tryd.ntmps5
    go_wp2
    go_ret
    exact ⟨rfl, Below.refl _ _⟩
  have t2 : ¬ (100 : Int) < (nonce.size : Int) := by omega
  by_cases h3 : 5000 < beside.size + s.size
  · have t3 : (5000 : Int) < (beside.size : Int) + (s.size : Int) := by omega
    clear h1 h2 h3
    go_enter Tryd.func5, Tryd.ntmps5
    go_wp2
    go_ret
    exact ⟨rfl, Below.refl _ _⟩
  have t3 : ¬ (5000 : Int) < (beside.size : Int) + (s.size : Int) := by omega
  clear h1 h2
  obtain ⟨⟨a, e⟩, hA⟩ : ∃ p, sealR key nonce beside s = p := ⟨_, rfl⟩
  have HA := Lib.hid (seal_any _ _ _ _ _ _ hA)
  by_cases he : e = 0
  · subst he
    obtain ⟨hk, hz, hal⟩ := sealR_ok hA
    obtain ⟨x, hx⟩ : ∃ x : ByteArray, ⟨(hiddenL key nonce s.data.toList).toArray⟩ = x := ⟨_, rfl⟩
    have hxl : x.data.toList = hiddenL key nonce s.data.toList := by rw [← hx]
    have hxz : x.size = s.size := by rw [← list_size, hxl, hiddenL_length, list_size]
    obtain ⟨o, ho⟩ : ∃ o : ByteArray, ⟨(onceL key nonce).toArray⟩ = o := ⟨_, rfl⟩
    have hol : o.data.toList = onceL key nonce := by rw [← ho]
    have hoz : o.size = 32 := by rw [← list_size, hol, onceL_length]
    obtain ⟨t, ht⟩ : ∃ t : ByteArray, ⟨(toldL beside.data.toList x.data.toList).toArray⟩ = t := ⟨_, rfl⟩
    have htl : t.data.toList = toldL beside.data.toList x.data.toList := by rw [← ht]
    have htz : t.size ≤ 8016 := by
      have := toldL_le beside.data.toList x.data.toList (by rw [list_size]; exact hz.1) (by rw [list_size, hxz]; exact hz.2)
      rw [← htl, list_size] at this
      exact this
    obtain ⟨m, hm⟩ : ∃ m : ByteArray, ⟨(markL key nonce beside.data.toList x.data.toList).toArray⟩ = m := ⟨_, rfl⟩
    have hmz : m.size = 16 := by rw [← hm, size_mk, markL_length]
    have HC := Lib.hid (crypt_one key nonce s hk.1 hk.2 hz.2 x hx)
    have HO := Lib.hid (once_yes key nonce hk.1 hk.2 o ho)
    have HT := Lib.hid (told_any beside x (by omega) (by omega) t ht)
    have HG := Lib.hid (tag_yes o t hoz (by omega) m (by rw [hol, htl]; exact hm))
    have hadd : ∀ W : World, (Op.stringOp .add x m).run Tryd.prog W = .ok (.string a) W := fun W => by
      rw [str_add2 x m (by omega) W]
      congr 2
      apply str_same
      rw [hal, sealL, ← hm, list_str, list_str, hxl]
    clear hA hk hz hal hx hxl hxz ho hol hoz ht htl htz hm hmz h3
    go_enter Tryd.func5, Tryd.ntmps5
    go_wp2_with fail
    refine (HA.out _ hK).mono ?_
    rintro e w1 ⟨rfl, hb1⟩
    go_wp2_with fail
    refine (HC.out _ (hK.keep hb1)).mono ?_
    rintro e w2 ⟨rfl, hb2⟩
    have hb12 := hb1.next hb2
    go_wp2_with fail
    refine (HO.out _ (hK.keep hb12)).mono ?_
    rintro e w3 ⟨rfl, hb3⟩
    have hb13 := hb12.next hb3
    go_wp2_with fail
    refine (HT.out _).mono ?_
    rintro e w4 ⟨rfl, hb4⟩
    have hb14 := hb13.next hb4
    go_wp2_with fail
    refine (HG.out _).mono ?_
    rintro e w5 ⟨rfl, hb5⟩
    have hb15 := hb14.next hb5
    go_wp2_with fail
    refine (seals_any _ (hK.keep hb15)).mono ?_
    rintro e w6 ⟨rfl, hb6⟩
    go_wp2
    go_ret
    exact ⟨ret_bool (by first | rfl | simp), hb15.next hb6⟩
  · have te : (e != 0) = true := by simpa using he
    obtain rfl := sealR_err hA he
    clear hA he h3
    go_enter Tryd.func5, Tryd.ntmps5
    go_wp2_with fail
    refine (HA.out _ hK).mono ?_
    rintro e w1 ⟨rfl, hb1⟩
    go_wp2_with fail
    refine (seals_any _ (hK.keep hb1)).mono ?_
    rintro e w2 ⟨rfl, hb2⟩
    go_wp2
    go_ret
    exact ⟨ret_bool (by first | rfl | simp), hb1.next hb2⟩
end Go.Proofs.YtapbjmeilhcmaaaDoor
