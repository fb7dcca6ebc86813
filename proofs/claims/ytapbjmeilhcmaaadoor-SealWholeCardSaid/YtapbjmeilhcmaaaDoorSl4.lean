/-
  seal: the contracts of Told and mark.
-/
import Derived.Test.YtapbjmeilhcmaaaDoorSl1
import Derived.Test.YtapbjmeilhcmaaaDoorSl2
import Derived.Test.YtapbjmeilhcmaaaDoorSl3
namespace Go.Proofs.YtapbjmeilhcmaaaDoor
open Go.RowKit Go.Kx
set_option maxRecDepth 20000

theorem told_any (b h : ByteArray) (hb : b.size ≤ 1000000) (hh : h.size ≤ 1000000) (r : ByteArray) (hr : ⟨(toldL b.data.toList h.data.toList).toArray⟩ = r) (w : World) :
    Calls Tryd.prog 12 #[.string b, .string h] w fun e w' => e = .returned (.string r) ∧ Below w.heap.size w w' := by
  obtain ⟨x, hx⟩ : ∃ x : ByteArray, ⟨(cntL b.size).toArray⟩ = x := ⟨_, rfl⟩
  obtain ⟨y, hy⟩ : ∃ y : ByteArray, ⟨(cntL h.size).toArray⟩ = y := ⟨_, rfl⟩
  obtain ⟨z, hz⟩ : ∃ z : ByteArray, ⟨(x.data.toList ++ y.data.toList).toArray⟩ = z := ⟨_, rfl⟩
  have hxz : x.size = 8 := by rw [← hx, size_mk, cntL_length]
  have hyz : y.size = 8 := by rw [← hy, size_mk, cntL_length]
  have hzz : z.size = 16 := by rw [← hz, size_mk]; simp [hxz, hyz]
  have HX := Lib.hid (count_any b x hx)
  have HY := Lib.hid (count_any h y hy)
  have hadd : ∀ W : World, (Op.stringOp .add x y).run Tryd.prog W = .ok (.string z) W := fun W => by
    have h := str_add (P := Tryd.prog) x.data.toList y.data.toList (by simp [hxz, hyz]) W
    rw [hz] at h
    exact h
  have HP : Hid (∀ (A : Option Addr) (V : World), Sl V A (strs [b, h, z]) → Calls Tryd.prog 26 #[.slice A 3 3] V fun e w' => e = .returned (.string r) ∧ Below V.heap.size V w') := Lib.hid fun A V hV =>
    padded_any A 3 [b, h, z] (by simp) (by simp [hb, hh, hzz]) r (by rw [← hr, toldL, bytesOf, List.map_cons, List.map_cons, List.map_cons, List.map_nil, ← hz, ← hx, ← hy]; simp) V hV
  clear hx hy hz hxz hyz hzz hr
  go_enter Tryd.func12, Tryd.ntmps12
  go_wp2_with fail
  refine (HX.out _).mono ?_
  rintro e w1 ⟨rfl, hb1⟩
  go_wp2_with fail
  refine (HY.out _).mono ?_
  rintro e w2 ⟨rfl, hb2⟩
  have hb3 := hb1.next hb2
  go_wp2_with fail
  refine (HP.out _ _ (Sl.new' rfl)).mono ?_
  rintro e w3 ⟨rfl, hb4⟩
  go_wp2
  go_ret
  exact ⟨rfl, hb3.al _ |>.next' hb4⟩
theorem mark_any (key nonce once : ByteArray) (hon : once.data.toList = onceL key nonce) (b h : ByteArray) (hb : b.size ≤ 4000) (hh : h.size ≤ 4000) (r : ByteArray) (hr : ⟨(markL key nonce b.data.toList h.data.toList).toArray⟩ = r) (w : World) :
    Calls Tryd.prog 13 #[.string once, .string b, .string h] w fun e w' => e = .returned (.string r) ∧ Below w.heap.size w w' := by
  obtain ⟨t, ht⟩ : ∃ t : ByteArray, ⟨(toldL b.data.toList h.data.toList).toArray⟩ = t := ⟨_, rfl⟩
  have htl : t.data.toList = toldL b.data.toList h.data.toList := by rw [← ht]
  have htz : t.size ≤ 8016 := by
    have := toldL_le b.data.toList h.data.toList (by simpa using hb) (by simpa using hh)
    rw [← htl] at this
    simpa using this
  have hoz : once.size = 32 := by
    have := onceL_length key nonce
    rw [← hon] at this
    simpa using this
  have HT := Lib.hid (told_any b h (by omega) (by omega) t ht)
  have HG := Lib.hid (tag_yes once t hoz (by omega) r (by rw [hon, htl]; exact hr))
  clear ht htl htz hoz hon hb hh hr
  go_enter Tryd.func13, Tryd.ntmps13
  go_wp2_with fail
  refine (HT.out _).mono ?_
  rintro e w1 ⟨rfl, hb1⟩
  go_wp2_with fail
  refine (HG.out _).mono ?_
  rintro e w2 ⟨rfl, hb2⟩
  go_wp2
  go_ret
  exact ⟨rfl, hb1.next hb2⟩
end Go.Proofs.YtapbjmeilhcmaaaDoor
