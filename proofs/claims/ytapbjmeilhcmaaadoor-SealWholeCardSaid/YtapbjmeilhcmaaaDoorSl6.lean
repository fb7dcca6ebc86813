/-
  seal: what a call of Seal and of Open answers, as one function each; what follows of it; the document's rows.
-/
import Derived.Test.YtapbjmeilhcmaaaDoorSl5
import Derived.Test.YtapbjmeilhcmaaaDoorMany
import Derived.Test.YtapbjmeilhcmaaaDoorReach
namespace Go.Proofs.YtapbjmeilhcmaaaDoor
open Go.RowKit Go.Kx
set_option maxRecDepth 20000

def sealR (key nonce b s : ByteArray) : ByteArray × Int :=
  if key.size = 32 ∧ nonce.size = 12 then (if b.size ≤ 4000 ∧ s.size ≤ 4000 then (⟨(sealL key nonce b.data.toList s.data.toList).toArray⟩, 0) else (⟨#[]⟩, 2)) else (⟨#[]⟩, 1)
def openR (key nonce b x : ByteArray) : ByteArray × Int :=
  if key.size = 32 ∧ nonce.size = 12 then (if b.size ≤ 4000 ∧ x.size ≤ 4016 then (if 16 ≤ x.size ∧ fitsL key nonce b.data.toList x.data.toList = true then (⟨(hiddenL key nonce (x.data.toList.take (x.data.toList.length - 16))).toArray⟩, 0) else (⟨#[]⟩, 60)) else (⟨#[]⟩, 2)) else (⟨#[]⟩, 1)
theorem seal_any (key nonce b s : ByteArray) (r : ByteArray) (c : Int) (h : sealR key nonce b s = (r, c)) (w : World) (hK : Places w) :
    Calls Tryd.prog 6 #[.string key, .string nonce, .string b, .string s] w fun e w' => e = .returned (.tuple #[.string r, .int .i64 c]) ∧ Below w.heap.size w w' := by
  unfold sealR at h
  split at h
  · rename_i hk
    split at h
    · rename_i hz
      obtain ⟨hr, rfl⟩ := Prod.mk.inj h
      exact seal_yes key nonce b s hk.1 hk.2 hz.1 hz.2 r hr w hK
    · rename_i hz
      obtain ⟨rfl, rfl⟩ := Prod.mk.inj h
      exact seal_long key nonce b s hk.1 hk.2 (by omega) w hK
  · rename_i hk
    obtain ⟨rfl, rfl⟩ := Prod.mk.inj h
    exact seal_arg key nonce b s hk w
theorem open_any (key nonce b x : ByteArray) (hx : x.size ≤ 9223372036854775807) (r : ByteArray) (c : Int) (h : openR key nonce b x = (r, c)) (w : World) (hK : Places w) :
    Calls Tryd.prog 7 #[.string key, .string nonce, .string b, .string x] w fun e w' => e = .returned (.tuple #[.string r, .int .i64 c]) ∧ Below w.heap.size w w' := by
  unfold openR at h
  split at h
  · rename_i hk
    split at h
    · rename_i hz
      split at h
      · rename_i hf
        obtain ⟨hr, rfl⟩ := Prod.mk.inj h
        exact open_fit key nonce b x hk.1 hk.2 hz.1 hf.1 hz.2 hf.2 r hr w hK
      · rename_i hf
        obtain ⟨rfl, rfl⟩ := Prod.mk.inj h
        by_cases h16 : 16 ≤ x.size
        · exact open_unfit key nonce b x hk.1 hk.2 hz.1 h16 hz.2 (by simpa [h16] using hf) w hK
        · exact open_short key nonce b x hk.1 hk.2 hz.1 (by omega) w hK
    · rename_i hz
      obtain ⟨rfl, rfl⟩ := Prod.mk.inj h
      exact open_long key nonce b x hk.1 hk.2 hx (by omega) w hK
  · rename_i hk
    obtain ⟨rfl, rfl⟩ := Prod.mk.inj h
    exact open_arg key nonce b x hk w

/-! ### what follows -/
theorem sealR_ok {key nonce b s a : ByteArray} (h : sealR key nonce b s = (a, 0)) : (key.size = 32 ∧ nonce.size = 12) ∧ (b.size ≤ 4000 ∧ s.size ≤ 4000) ∧ a.data.toList = sealL key nonce b.data.toList s.data.toList := by
  unfold sealR at h
  split at h
  · rename_i hk
    split at h
    · rename_i hz
      exact ⟨hk, hz, by rw [← (Prod.mk.inj h).1]⟩
    · exact absurd (Prod.mk.inj h).2 (by omega)
  · exact absurd (Prod.mk.inj h).2 (by omega)
theorem sealR_err {key nonce b s a : ByteArray} {e : Int} (h : sealR key nonce b s = (a, e)) (he : e ≠ 0) : a = ⟨#[]⟩ := by
  unfold sealR at h
  split at h
  · split at h
    · exact absurd (Prod.mk.inj h).2.symm he
    · exact (Prod.mk.inj h).1.symm
  · exact (Prod.mk.inj h).1.symm
theorem sealR_size {key nonce b s a : ByteArray} (h : sealR key nonce b s = (a, 0)) : a.size = s.size + 16 := by
  rw [← list_size, (sealR_ok h).2.2, sealL_length, list_size]
theorem sealR_le {key nonce b s a : ByteArray} {e : Int} (h : sealR key nonce b s = (a, e)) : a.size ≤ s.size + 16 := by
  by_cases he : e = 0
  · subst he
    exact Nat.le_of_eq (sealR_size h)
  · rw [sealR_err h he]
    exact Nat.zero_le _
theorem seal_back {key nonce b s a : ByteArray} (h : sealR key nonce b s = (a, 0)) : openR key nonce b a = (s, 0) := by
  obtain ⟨hk, hz, ha⟩ := sealR_ok h
  have hs := sealR_size h
  unfold openR
  rw [if_pos hk, if_pos ⟨hz.1, by omega⟩, if_pos ⟨by omega, by rw [ha]; exact seal_fits _ _ _ _⟩, ha, open_seal]
theorem openR_ok {key nonce b x c : ByteArray} (h : openR key nonce b x = (c, 0)) : sealR key nonce b c = (x, 0) := by
  unfold openR at h
  split at h
  · rename_i hk
    split at h
    · rename_i hz
      split at h
      · rename_i hf
        have hc := (Prod.mk.inj h).1
        have hcl : c.data.toList = hiddenL key nonce (x.data.toList.take (x.data.toList.length - 16)) := by rw [← hc]
        have hcz : c.size ≤ 4000 := by rw [← list_size, hcl, hiddenL_length, List.length_take, list_size]; omega
        unfold sealR
        rw [if_pos hk, if_pos ⟨hz.1, hcz⟩, hcl, seal_open _ _ _ _ hf.2]
      · exact absurd (Prod.mk.inj h).2 (by omega)
    · exact absurd (Prod.mk.inj h).2 (by omega)
  · exact absurd (Prod.mk.inj h).2 (by omega)
theorem openR_err {key nonce b x c : ByteArray} {e : Int} (h : openR key nonce b x = (c, e)) (he : e ≠ 0) : c = ⟨#[]⟩ := by
  unfold openR at h
  split at h
  · split at h
    · split at h
      · exact absurd (Prod.mk.inj h).2.symm he
      · exact (Prod.mk.inj h).1.symm
    · exact (Prod.mk.inj h).1.symm
  · exact (Prod.mk.inj h).1.symm
theorem openR_short {key nonce b x : ByteArray} (hk : key.size = 32 ∧ nonce.size = 12) (hb : b.size ≤ 4000) (hx : x.size < 16) : openR key nonce b x = (⟨#[]⟩, 60) := by
  unfold openR
  rw [if_pos hk, if_pos ⟨hb, by omega⟩, if_neg (by omega)]
theorem openR_unfit {key nonce b x : ByteArray} (hk : key.size = 32 ∧ nonce.size = 12) (hb : b.size ≤ 4000) (hx : x.size ≤ 4016) (hf : fitsL key nonce b.data.toList x.data.toList = false) : openR key nonce b x = (⟨#[]⟩, 60) := by
  unfold openR
  rw [if_pos hk, if_pos ⟨hb, hx⟩, if_neg (by rw [hf]; simp)]

/-! ### the document's rows -/
theorem rmany_w (c : UInt8) (n : Nat) (m k : Int) (hk : (c.toNat : Int) = k) (hm : (n : Int) = m) (hn : n ≤ 100000) (r : ByteArray) (hr : ⟨(List.replicate n c).toArray⟩ = r) (w : World) :
    Calls Tryd.prog 15 #[.int .u8 k, .int .i64 m] w fun e w' => e = .returned (.string r) ∧ Below w.heap.size w w' := by
  subst hk hm hr
  exact rmany_any c n hn w
set_option maxHeartbeats 1000000 in
theorem seals_any (w : World) (hK : Places w) : Calls Tryd.prog 8 #[] w fun e w' => e = .returned (.bool true) ∧ Below w.heap.size w w' := by
  obtain ⟨k, hk⟩ : ∃ k, keyE = k := ⟨_, rfl⟩
  obtain ⟨c, hc⟩ : ∃ c, nonceE = c := ⟨_, rfl⟩
  have hkc : k.size = 32 ∧ c.size = 12 := by rw [← hk, ← hc]; exact ⟨rfl, rfl⟩
  obtain ⟨a, ha⟩ : ∃ a : ByteArray, ⟨(sealL k c [120] [97, 98, 99]).toArray⟩ = a := ⟨_, rfl⟩
  have hA : sealR k c ⟨#[120]⟩ ⟨#[97, 98, 99]⟩ = (a, 0) := by
    unfold sealR
    rw [if_pos hkc, if_pos ⟨by decide, by decide⟩, ← ha]
  have haz : a.size = 19 := sealR_size hA
  have hB := seal_back hA
  have hG : openR k c ⟨#[121]⟩ a = (⟨#[]⟩, 60) := openR_unfit hkc (by decide) (by omega) (by rw [← ha, ← hk, ← hc]; exact example_else)
  have hH : openR k c ⟨#[120]⟩ ⟨#[97, 98, 99]⟩ = (⟨#[]⟩, 60) := openR_short hkc (by decide) (by decide)
  obtain ⟨t, ht⟩ : ∃ t : ByteArray, ⟨(toldL [97] []).toArray⟩ = t := ⟨_, rfl⟩
  have htz : t.size = 32 := by rw [← ht, size_mk]; rfl
  have HM1 : Hid (∀ V : World, Calls Tryd.prog 15 #[.int .u8 1, .int .i64 32] V fun e w' => e = .returned (.string k) ∧ Below V.heap.size V w') := Lib.hid fun V => rmany_w 1 32 32 1 rfl rfl (by omega) k hk V
  have HM2 : Hid (∀ V : World, Calls Tryd.prog 15 #[.int .u8 2, .int .i64 12] V fun e w' => e = .returned (.string c) ∧ Below V.heap.size V w') := Lib.hid fun V => rmany_w 2 12 12 2 rfl rfl (by omega) c hc V
  have HA := Lib.hid (seal_any _ _ _ _ _ _ hA)
  have HB := Lib.hid (open_any _ _ _ _ (by omega) _ _ hB)
  have HG := Lib.hid (open_any _ _ _ _ (by omega) _ _ hG)
  have HH := Lib.hid (open_any _ _ _ _ (by decide) _ _ hH)
  have HT : Hid (∀ V : World, Calls Tryd.prog 12 #[.string ⟨#[97]⟩, .string ⟨#[]⟩] V fun e w' => e = .returned (.string t) ∧ Below V.heap.size V w') := Lib.hid fun V => told_any ⟨#[97]⟩ ⟨#[]⟩ (by decide) (by decide) t ht V
  clear hk hc hkc ha hA hB hG hH ht
  go_enter Tryd.func8, Tryd.ntmps8
  go_wp2_with fail
  refine (HM1.out _).mono ?_
  rintro e w1 ⟨rfl, hb1⟩
  go_wp2_with fail
  refine (HM2.out _).mono ?_
  rintro e w2 ⟨rfl, hb2⟩
  go_wp2_with fail
  have hb12 := hb1.next hb2
  refine (HA.out _ (hK.keep hb12)).mono ?_
  rintro e w3 ⟨rfl, hb3⟩
  have hb13 := hb12.next hb3
  go_wp2_with fail
  refine (HB.out _ (hK.keep hb13)).mono ?_
  rintro e w4 ⟨rfl, hb4⟩
  have hb14 := hb13.next hb4
  go_wp2_with fail
  refine (HG.out _ (hK.keep hb14)).mono ?_
  rintro e w5 ⟨rfl, hb5⟩
  have hb15 := hb14.next hb5
  go_wp2_with fail
  refine (HH.out _ (hK.keep hb15)).mono ?_
  rintro e w6 ⟨rfl, hb6⟩
  have hb16 := hb15.next hb6
  go_wp2_with fail
  refine (HT.out _).mono ?_
  rintro e w7 ⟨rfl, hb7⟩
  go_wp2
  go_ret
  exact ⟨rfl, hb16.next hb7⟩
end Go.Proofs.YtapbjmeilhcmaaaDoor
