/-
  keyed: the contracts of mac, Mac, Extract and Check.
-/
import Derived.Test.YtelplkidippclaaDoorKey1
namespace Go.Proofs.YtelplkidippclaaDoor
open Go.RowKit Go.Kx
set_option maxRecDepth 20000

theorem bytes_eq {a b : ByteArray} (h : a.data.toList = b.data.toList) : a = b := by
  apply ByteArray.ext
  apply Array.toList_inj.1
  exact h
theorem mk_data (a : ByteArray) : (⟨a.data.toList.toArray⟩ : ByteArray) = a := rfl
theorem sum_v (s : ByteArray) (hs : s.size ≤ 1000000000) (r : ByteArray) (hr : ⟨(sumL s.data.toList).toArray⟩ = r) (w : World) (hK : Consts w) :
    Calls Tryd.prog 18 #[.string s] w fun e w' => e = .returned (.string r) ∧ Below w.heap.size w w' := by
  subst hr
  exact sum_any s hs w hK
set_option maxHeartbeats 1000000 in
theorem mac_any (l : List UInt8) (hl : l.length = 64) (s : ByteArray) (hs : s.size ≤ 100000000) (d : Array Value) (hd : kvA l = d) (w : World) (hK : Consts w) :
    Calls Tryd.prog 23 #[.func (.func 25) #[.agg d] #[], .string s] w fun e w' => e = .returned (.string ⟨(macB l s.data.toList).toArray⟩) ∧ Below w.heap.size w w' := by
  obtain ⟨p, hp⟩ : ∃ p : ByteArray, ⟨(padX l 92).toArray⟩ = p := ⟨_, rfl⟩
  obtain ⟨q, hq⟩ : ∃ q : ByteArray, ⟨(padX l 54).toArray⟩ = q := ⟨_, rfl⟩
  have hps : p.size = 64 := by rw [← hp, size_mk, padX_length, hl]
  have hqs : q.size = 64 := by rw [← hq, size_mk, padX_length, hl]
  obtain ⟨a, ha⟩ : ∃ a : ByteArray, q ++ s = a := ⟨_, rfl⟩
  have hadd1 : ∀ V : World, (Op.stringOp .add q s).run Tryd.prog V = .ok (.string a) V := fun V => by rw [← ha]; exact run_string_add_sum V q s (by omega)
  have haz : a.size ≤ 1000000000 := by rw [← ha]; simp; omega
  obtain ⟨u, hu⟩ : ∃ u : ByteArray, ⟨(sumL a.data.toList).toArray⟩ = u := ⟨_, rfl⟩
  have huz : u.size = 32 := by rw [← hu, size_mk, sumL_length]
  obtain ⟨b, hb⟩ : ∃ b : ByteArray, p ++ u = b := ⟨_, rfl⟩
  have hadd2 : ∀ V : World, (Op.stringOp .add p u).run Tryd.prog V = .ok (.string b) V := fun V => by rw [← hb]; exact run_string_add_sum V p u (by omega)
  have hbz : b.size ≤ 1000000000 := by rw [← hb]; simp; omega
  obtain ⟨r, hr⟩ : ∃ r : ByteArray, ⟨(sumL b.data.toList).toArray⟩ = r := ⟨_, rfl⟩
  have HR : Hid ((⟨(macB l s.data.toList).toArray⟩ : ByteArray) = r) := Lib.hid (by
    rw [← hr, ← hb, ← hu, ← ha, ← hp, ← hq, macB]
    simp)
  have HP := Lib.hid hp
  have HQ := Lib.hid hq
  have HU := Lib.hid hu
  have HRR := Lib.hid hr
  have HL := Lib.hid hl
  have HD := Lib.hid hd
  clear hp hq hps hqs ha hu huz hb hr hl hd hs
  go_enter Tryd.func23, Tryd.ntmps23
  go_wp2_with fail
  refine (pad_v l HL.out 92 92 rfl d HD.out p HP.out _).mono ?_
  rintro e w1 ⟨rfl, hb1⟩
  go_wp2_with fail
  refine (pad_v l HL.out 54 54 rfl d HD.out q HQ.out _).mono ?_
  rintro e w2 ⟨rfl, hb2⟩
  go_wp2_with fail
  refine (sum_v a haz u HU.out _ (hK.keep (hb1.next hb2))).mono ?_
  rintro e w3 ⟨rfl, hb3⟩
  go_wp2_with fail
  refine (sum_v b hbz r HRR.out _ (hK.keep (hb1.next (hb2.next hb3)))).mono ?_
  rintro e w4 ⟨rfl, hb4⟩
  go_wp2
  go_ret
  exact ⟨by rw [HR.out]; rfl, hb1.next (hb2.next (hb3.next hb4))⟩
theorem mac_v (l : List UInt8) (hl : l.length = 64) (s : ByteArray) (hs : s.size ≤ 100000000) (d : Array Value) (hd : kvA l = d) (r : ByteArray) (hr : ⟨(macB l s.data.toList).toArray⟩ = r) (w : World) (hK : Consts w) :
    Calls Tryd.prog 23 #[.func (.func 25) #[.agg d] #[], .string s] w fun e w' => e = .returned (.string r) ∧ Below w.heap.size w w' := by
  subst hr
  exact mac_any l hl s hs d hd w hK
theorem Mac_any (key s : ByteArray) (hk : key.size ≤ 100000000) (hs : s.size ≤ 100000000) (r : ByteArray) (hr : ⟨(macL key.data.toList s.data.toList).toArray⟩ = r) (w : World) (hK : Consts w) :
    Calls Tryd.prog 11 #[.string key, .string s] w fun e w' => e = .returned (.string r) ∧ Below w.heap.size w w' := by
  obtain ⟨l, hl⟩ : ∃ l, blkL key.data.toList = l := ⟨_, rfl⟩
  obtain ⟨d, hd⟩ : ∃ d, kvA l = d := ⟨_, rfl⟩
  have HL : Hid (l.length = 64) := Lib.hid (by rw [← hl, blkL_length])
  have HR : Hid ((⟨(macB l s.data.toList).toArray⟩ : ByteArray) = r) := Lib.hid (by rw [← hr, macL, hl])
  have HB : Hid (∀ V : World, Consts V → Calls Tryd.prog 24 #[.string key] V fun e w' => e = .returned (.agg d) ∧ Below V.heap.size V w') := Lib.hid (fun V hV => by rw [← hd, ← hl]; exact blockOf_any key (by omega) V hV)
  have HD := Lib.hid hd
  clear hl hd hr
  have hmf : ∀ (fn : Fn) (first cap : Array Value) (w : World), (Instr.makeFunc fn first cap).run Tryd.prog w = .ok (.func fn first cap) w := fun _ _ _ _ => rfl
  go_enter Tryd.func11, Tryd.ntmps11
  go_wp2_with fail
  refine (HB.out _ hK).mono ?_
  rintro e w1 ⟨rfl, hb1⟩
  go_wp2_with fail
  refine (mac_v l HL.out s hs d HD.out r HR.out _ (hK.keep hb1)).mono ?_
  rintro e w2 ⟨rfl, hb2⟩
  go_wp2
  go_ret
  exact ⟨rfl, hb1.next hb2⟩
theorem Extract_any (key s : ByteArray) (hk : key.size ≤ 100000000) (hs : s.size ≤ 100000000) (r : ByteArray) (hr : ⟨(macL key.data.toList s.data.toList).toArray⟩ = r) (w : World) (hK : Consts w) :
    Calls Tryd.prog 13 #[.string key, .string s] w fun e w' => e = .returned (.string r) ∧ Below w.heap.size w w' := by
  have HR := Lib.hid hr
  clear hr
  go_enter Tryd.func13, Tryd.ntmps13
  go_wp2_with fail
  refine (Mac_any key s hk hs r HR.out _ hK).mono ?_
  rintro e w1 ⟨rfl, hb1⟩
  go_wp2
  go_ret
  exact ⟨rfl, hb1⟩
theorem Check_any (key s m : ByteArray) (hk : key.size ≤ 100000000) (hs : s.size ≤ 100000000) (r : ByteArray) (hr : ⟨(macL key.data.toList s.data.toList).toArray⟩ = r) (b : Bool) (hb : (m.toList == r.toList) = b) (w : World) (hK : Consts w) :
    Calls Tryd.prog 12 #[.string key, .string s, .string m] w fun e w' => e = .returned (.bool b) ∧ Below w.heap.size w w' := by
  have HR := Lib.hid hr
  have HS : Hid (∀ V : World, Calls Tryd.prog 26 #[.string m, .string r] V fun e w' => e = .returned (.bool b) ∧ V = w') := Lib.hid (fun V => by rw [← hb]; exact same_any m r V)
  clear hr hb
  go_enter Tryd.func12, Tryd.ntmps12
  go_wp2_with fail
  refine (Mac_any key s hk hs r HR.out _ hK).mono ?_
  rintro e w1 ⟨rfl, hb1⟩
  go_wp2_with fail
  refine (HS.out _).mono ?_
  rintro e w2 ⟨rfl, rfl⟩
  go_wp2
  go_ret
  exact ⟨rfl, hb1⟩
end Go.Proofs.YtelplkidippclaaDoor
