/-
  keyholeref03.Mac: the contract.
-/
import Derived.Test.YtelplkidippclaaDoorKeym
import Derived.Test.YtelplkidippclaaDoorRefm
import Derived.Test.YtelplkidippclaaDoorRef8
import Derived.Test.YtelplkidippclaaDoorRef9
namespace Go.Proofs.YtelplkidippclaaDoor
open Go.RowKit Go.Kx
set_option maxRecDepth 20000

theorem many_v (c : UInt8) (n : Nat) (x : Int) (hx : (c.toNat : Int) = x) (y : Int) (hy : (n : Int) = y ∧ n ≤ 100000) (r : ByteArray) (hr : ⟨(List.replicate n c).toArray⟩ = r) (w : World) :
    Calls Tryd.prog 20 #[.int .u8 x, .int .i64 y] w fun e w' => e = .returned (.string r) ∧ Below w.heap.size w w' := by
  obtain ⟨hy, hn⟩ := hy
  subst hx hy hr
  exact rmany_any c n hn w
theorem repl_get (n : Nat) (c : UInt8) (j : Nat) (h : j < (⟨(List.replicate n c).toArray⟩ : ByteArray).size) : (⟨(List.replicate n c).toArray⟩ : ByteArray)[j] = c := by
  show (List.replicate n c).toArray[j]'_ = c
  simp
theorem rbytes_pad (K m : ByteArray) (l : List UInt8) (hK : K.data.toList = l) (hl : l.length = 64) (c : UInt8) (hm : ⟨(List.replicate 64 c).toArray⟩ = m) (r : ByteArray) (hr : ⟨(padX l c).toArray⟩ = r) (w : World) :
    Calls Tryd.prog 21 #[.string K, .string m] w fun e w' => e = .returned (.string r) ∧ Below w.heap.size w w' := by
  have ks : K.size = 64 := by rw [← hl, ← hK]; simp
  have ms : m.size = 64 := by rw [← hm, size_mk, List.length_replicate]
  subst hr
  refine rbytes_gen K m ks ms (padX l c) (by rw [padX_length, hl]) (fun j h1 h2 => ?_) w
  have hj : j < l.length := by omega
  refine ⟨l[j] ^^^ c, by simp [padX, hj], ?_⟩
  have e1 : K[j] = l[j] := by subst hK; rfl
  have e2 : m[j] = c := by
    subst hm
    exact repl_get 64 c j h2
  rw [e1, e2, UInt8.toNat_xor]
set_option maxHeartbeats 1000000 in
theorem rmac_gen (key s : ByteArray) (hk : key.size ≤ 1500) (hs : s.size ≤ 1500) (r : ByteArray) (hr : ⟨(macL key.data.toList s.data.toList).toArray⟩ = r) (w : World) :
    Calls Tryd.prog 9 #[.string key, .string s] w fun e w' => e = .returned (.string r) ∧ Below w.heap.size w w' := by
  obtain ⟨l, hl⟩ : ∃ l, blkL key.data.toList = l := ⟨_, rfl⟩
  obtain ⟨k2, hk2⟩ : ∃ k2 : ByteArray, (⟨(keyL key.data.toList).toArray⟩ : ByteArray) = k2 := ⟨_, rfl⟩
  have k2l : k2.data.toList = keyL key.data.toList := by rw [← hk2]
  have k2z : k2.size ≤ 64 := by have := keyL_le key.data.toList; rw [← k2l] at this; simpa using this
  obtain ⟨z, hz⟩ : ∃ z : ByteArray, (⟨(List.replicate (64 - k2.size) 0).toArray⟩ : ByteArray) = z := ⟨_, rfl⟩
  have zsz : z.size = 64 - k2.size := by rw [← hz]; exact (size_mk _).trans List.length_replicate
  obtain ⟨p, hp⟩ : ∃ p : ByteArray, (⟨(List.replicate 64 54).toArray⟩ : ByteArray) = p := ⟨_, rfl⟩
  obtain ⟨q, hq⟩ : ∃ q : ByteArray, (⟨(List.replicate 64 92).toArray⟩ : ByteArray) = q := ⟨_, rfl⟩
  obtain ⟨K, hK⟩ : ∃ K : ByteArray, k2 ++ z = K := ⟨_, rfl⟩
  have Kl : K.data.toList = l := by
    rw [← hK, ← hz, ← hl, blkL, ← k2l]
    simp
  have ll : l.length = 64 := by rw [← hl, blkL_length]
  obtain ⟨i, hi⟩ : ∃ i : ByteArray, (⟨(padX l 54).toArray⟩ : ByteArray) = i := ⟨_, rfl⟩
  obtain ⟨o, ho⟩ : ∃ o : ByteArray, (⟨(padX l 92).toArray⟩ : ByteArray) = o := ⟨_, rfl⟩
  have isz : i.size = 64 := by rw [← hi, size_mk, padX_length, ll]
  have osz : o.size = 64 := by rw [← ho, size_mk, padX_length, ll]
  obtain ⟨a, ha⟩ : ∃ a : ByteArray, i ++ s = a := ⟨_, rfl⟩
  have asz : a.size ≤ 1600 := by rw [← ha]; simp; omega
  obtain ⟨d, hd⟩ : ∃ d : ByteArray, (⟨(sumL a.data.toList).toArray⟩ : ByteArray) = d := ⟨_, rfl⟩
  have dsz : d.size = 32 := by rw [← hd, size_mk, sumL_length]
  obtain ⟨b, hb⟩ : ∃ b : ByteArray, o ++ d = b := ⟨_, rfl⟩
  have bsz : b.size ≤ 100 := by rw [← hb]; simp; omega
  have hrb : (⟨(sumL b.data.toList).toArray⟩ : ByteArray) = r := by
    rw [← hr, ← hb, ← hd, ← ha, ← hi, ← ho, macL, hl, macB]
    simp
  have g1 : ∀ V : World, (Op.stringOp .add k2 z).run Tryd.prog V = .ok (.string K) V := fun V => by rw [← hK]; exact run_string_add_sum V k2 z (by omega)
  have g2 : ∀ V : World, (Op.stringOp .add i s).run Tryd.prog V = .ok (.string a) V := fun V => by rw [← ha]; exact run_string_add_sum V i s (by omega)
  have g3 : ∀ V : World, (Op.stringOp .add o d).run Tryd.prog V = .ok (.string b) V := fun V => by rw [← hb]; exact run_string_add_sum V o d (by omega)
  have hwr : IntKind.i64.wrap (64 - (k2.size : Int)) = 64 - (k2.size : Int) := IntWalk.i64_in _ (by omega)
  have hn1 : ((64 - k2.size : Nat) : Int) = 64 - (k2.size : Int) := by omega
  have HB1 : Hid (∀ V : World, Calls Tryd.prog 21 #[.string K, .string p] V fun e w' => e = .returned (.string i) ∧ Below V.heap.size V w') := Lib.hid (fun V => rbytes_pad K p l Kl ll 54 hp i hi V)
  have HB2 : Hid (∀ V : World, Calls Tryd.prog 21 #[.string K, .string q] V fun e w' => e = .returned (.string o) ∧ Below V.heap.size V w') := Lib.hid (fun V => rbytes_pad K q l Kl ll 92 hq o ho V)
  have HS1 : Hid (∀ V : World, Calls Tryd.prog 19 #[.string a] V fun e w' => e = .returned (.string d) ∧ Below V.heap.size V w') := Lib.hid (fun V => by rw [← hd]; exact rsum_of rstep_yes a (by omega) V)
  have HS2 : Hid (∀ V : World, Calls Tryd.prog 19 #[.string b] V fun e w' => e = .returned (.string r) ∧ Below V.heap.size V w') := Lib.hid (fun V => by rw [← hrb]; exact rsum_of rstep_yes b (by omega) V)
  have HZ := Lib.hid hz
  have HP := Lib.hid hp
  have HQ := Lib.hid hq
  have HN1 := Lib.hid hn1
  have HK2 : Hid (∀ _ : 64 < key.size, ∀ V : World, Calls Tryd.prog 19 #[.string key] V fun e w' => e = .returned (.string k2) ∧ Below V.heap.size V w') := Lib.hid (fun h V => by
    rw [← hk2, keyL, if_pos (by simp; omega)]; exact rsum_of rstep_yes key (by omega) V)
  have HK3 : Hid (∀ _ : ¬ 64 < key.size, key = k2) := Lib.hid (fun h => by rw [← hk2, keyL, if_neg (by simp; omega)])
  clear hl hk2 k2l zsz hz hp hq hK Kl ll hi ho isz osz ha asz hd dsz hb bsz hrb hr hn1
  by_cases h : 64 < key.size
  · have h' : (64 : Int) < (key.size : Int) := by omega
    have HK := Lib.hid (HK2.out h)
    clear h HK2 HK3
    go_enter Tryd.func9, Tryd.ntmps9
    go_wp2_with fail
    refine (HK.out _).mono ?_
    rintro e w0 ⟨rfl, hb0⟩
    go_wp2_with fail
    refine (many_v 0 (64 - k2.size) 0 rfl (64 - (k2.size : Int)) ⟨HN1.out, by omega⟩ z HZ.out _).mono ?_
    rintro e w1 ⟨rfl, hb1⟩
    go_wp2_with fail
    refine (many_v 54 64 54 rfl 64 ⟨rfl, by omega⟩ p HP.out _).mono ?_
    rintro e w2 ⟨rfl, hb2⟩
    go_wp2_with fail
    refine (HB1.out _).mono ?_
    rintro e w3 ⟨rfl, hb3⟩
    go_wp2_with fail
    refine (many_v 92 64 92 rfl 64 ⟨rfl, by omega⟩ q HQ.out _).mono ?_
    rintro e w4 ⟨rfl, hb4⟩
    go_wp2_with fail
    refine (HB2.out _).mono ?_
    rintro e w5 ⟨rfl, hb5⟩
    go_wp2_with fail
    refine (HS1.out _).mono ?_
    rintro e w6 ⟨rfl, hb6⟩
    go_wp2_with fail
    refine (HS2.out _).mono ?_
    rintro e w7 ⟨rfl, hb7⟩
    go_wp2
    go_ret
    exact ⟨rfl, hb0.next (hb1.next (hb2.next (hb3.next (hb4.next (hb5.next (hb6.next hb7))))))⟩
  · have h' : ¬ (64 : Int) < (key.size : Int) := by omega
    obtain rfl := HK3.out h
    clear h HK2 HK3
    go_enter Tryd.func9, Tryd.ntmps9
    go_wp2_with fail
    refine (many_v 0 (64 - key.size) 0 rfl (64 - (key.size : Int)) ⟨HN1.out, by omega⟩ z HZ.out _).mono ?_
    rintro e w1 ⟨rfl, hb1⟩
    go_wp2_with fail
    refine (many_v 54 64 54 rfl 64 ⟨rfl, by omega⟩ p HP.out _).mono ?_
    rintro e w2 ⟨rfl, hb2⟩
    go_wp2_with fail
    refine (HB1.out _).mono ?_
    rintro e w3 ⟨rfl, hb3⟩
    go_wp2_with fail
    refine (many_v 92 64 92 rfl 64 ⟨rfl, by omega⟩ q HQ.out _).mono ?_
    rintro e w4 ⟨rfl, hb4⟩
    go_wp2_with fail
    refine (HB2.out _).mono ?_
    rintro e w5 ⟨rfl, hb5⟩
    go_wp2_with fail
    refine (HS1.out _).mono ?_
    rintro e w6 ⟨rfl, hb6⟩
    go_wp2_with fail
    refine (HS2.out _).mono ?_
    rintro e w7 ⟨rfl, hb7⟩
    go_wp2
    go_ret
    exact ⟨rfl, hb1.next (hb2.next (hb3.next (hb4.next (hb5.next (hb6.next hb7)))))⟩
end Go.Proofs.YtelplkidippclaaDoor
