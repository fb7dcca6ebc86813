/-
  seal: the contract of padded (its parts, whole or by a variadic call).
-/
import Derived.Test.YtapbjmeilhcmaaaDoorSlm
import Derived.Test.YtapbjmeilhcmaaaDoorBld
import Derived.Test.YtapbjmeilhcmaaaDoorTag9
import Derived.Test.YtapbjmeilhcmaaaDoorShelf
namespace Go.Proofs.YtapbjmeilhcmaaaDoor
open Go.RowKit Go.Kx
set_option maxRecDepth 20000

theorem repeat00 (z : Nat) : Lib.repeatL [0] z = List.replicate z 0 := by
  induction z with
  | zero => rfl
  | succ z ih => rw [Lib.repeatL, ih]; rfl
theorem rep_any (z : Nat) (q : ByteArray) (hq : ⟨(List.replicate z 0).toArray⟩ = q) (hz : z ≤ 1000000) (w : World) :
    Calls Tryd.prog 40 #[.string ⟨#[0]⟩, .int .i64 z] w fun e w' => e = .returned (.string q) ∧ Below w.heap.size w w' := by
  have h := Tryd.strings_Repeat ⟨#[0]⟩ z w (by omega) (by simp [ByteArray.size]; omega)
  rw [show (ByteArray.mk #[0]).data.toList = [0] from rfl, repeat00, hq] at h
  exact h
theorem bld_write (B b : Nat) (bs : List Value) (s : ByteArray) (w : World) (h : Lib.IsBuilder 72 5 B b bs w) (hlen : bs.length + s.size ≤ 140737488355328) (hBw : B ≤ w.heap.size) :
    Calls Tryd.prog 39 #[.pointer (some ⟨b, 0, none⟩), .string s] w fun e w' => e = .returned (.tuple #[.int .i64 s.size, .nilIface]) ∧ Lib.IsBuilder 72 5 B b (bs ++ Lib.strCells s) w' ∧ Below B w w' :=
  (Any.Builder_WriteString { Tryd.lays105 with } Tryd.Builder_Extra_105 B b bs s w h hlen hBw).mono fun _ _ ⟨he, hi, hb⟩ => ⟨he, .inr hi, hb⟩
theorem bld_string (B b : Nat) (l : List UInt8) (w : World) (h : Lib.IsBuilder 72 5 B b (Lib.byteCells l) w) (hBw : B ≤ w.heap.size) :
    Calls Tryd.prog 41 #[.pointer (some ⟨b, 0, none⟩)] w fun e w' => e = .returned (.string ⟨l.toArray⟩) ∧ Below B w w' :=
  Any.Builder_String_any { Tryd.lays105 with } Tryd.Builder_Extra_105 B b l w h hBw
theorem bld_new (w : World) : Lib.IsBuilder 72 5 w.heap.size w.heap.size [] (w.alloc (.cells #[.pointer none, .slice none 0 0] 72)) := Lib.fresh_isBuilder _ _ w
def strs (L : List ByteArray) : List Value := L.map Value.string
def bytesOf (L : List ByteArray) : List (List UInt8) := L.map fun s => s.data.toList
theorem bytesOf_snoc (L : List ByteArray) (k : Nat) (h : k < L.length) : pads16 (bytesOf (L.take (k + 1))) = pads16 (bytesOf (L.take k)) ++ (L[k].data.toList ++ List.replicate ((16 - L[k].size % 16) % 16) 0) := by
  rw [List.take_add_one, List.getElem?_eq_getElem h, bytesOf, List.map_append, pads16_append]
  simp [pads16, pad16, bytesOf]
theorem pads16_le (L : List (List UInt8)) (n : Nat) (h : ∀ l ∈ L, l.length ≤ 16 * n) : (pads16 L).length ≤ 16 * n * L.length := by
  induction L with
  | nil => simp [pads16]
  | cons l r ih =>
    have h1 := pad16_le l (h l (by simp))
    have h2 := ih (fun x hx => h x (by simp [hx]))
    simp only [pads16, List.length_append, List.length_cons, Nat.mul_add]
    omega
theorem bytesOf_le (L : List ByteArray) (hz : ∀ s ∈ L, s.size ≤ 1000000) (hn : L.length ≤ 100) (k : Nat) : (pads16 (bytesOf (L.take k))).length ≤ 100000000 := by
  have h := pads16_le (bytesOf (L.take k)) 62500 (fun l hl => by
    obtain ⟨s, hs, rfl⟩ := List.mem_map.1 hl
    have := hz s (List.mem_of_mem_take hs)
    simpa using this)
  have h2 : (bytesOf (L.take k)).length ≤ 100 := by simp [bytesOf]; omega
  have h3 := Nat.mul_le_mul_left (16 * 62500) h2
  omega
set_option maxHeartbeats 2000000 in
theorem padded_any (A : Option Addr) (c : Nat) (L : List ByteArray) (hn : L.length ≤ 100) (hz : ∀ s ∈ L, s.size ≤ 1000000) (r : ByteArray) (hr : ⟨(pads16 (bytesOf L)).toArray⟩ = r) (w : World) (hA : Sl w A (strs L)) :
    Calls Tryd.prog 26 #[.slice A L.length c] w fun e w' => e = .returned (.string r) ∧ Below w.heap.size w w' := by
  have hb0 := bld_new w
  have hbw := Below.alloc0 w (.cells #[.pointer none, .slice none 0 0] 72)
  have hB0 := hbw.size
  have HSL := Lib.hid hA
  have HR := Lib.hid hr
  have HZ := Lib.hid hz
  have HN := Lib.hid hn
  obtain ⟨n, hn⟩ : ∃ n, L.length = n := ⟨_, rfl⟩
  have HLN := Lib.hid hn
  have hn100 : n ≤ 100 := by have := HN.out; omega
  rw [hn]
  clear hA hr hz hn
  go_enter Tryd.func26, Tryd.ntmps26
  go_wp2
  generalize (w.alloc _) = W at *
  go_loopw [5, 6, 9] (fun _ _ i wr => ∃ k : Nat, k ≤ n ∧ i = .int .i64 k ∧ Lib.IsBuilder 72 5 w.heap.size w.heap.size (Lib.byteCells (pads16 (bytesOf (L.take k)))) wr ∧ Below w.heap.size w wr) (fun _ _ i _ => n - (intOf i).toNat)
  case atStart => exact ⟨0, by omega, rfl, hb0, hbw⟩
  case round =>
    clear hb0 hbw
    obtain ⟨k, hk, rfl, hI, hb⟩ := hrel
    by_cases hlt : k < n
    · have hkl : k < L.length := by rw [HLN.out]; exact hlt
      obtain ⟨b, off, u, rfl, hu, hcell⟩ := (HSL.out.keep hb).at_ (k := k) (by simpa [strs] using hkl)
      obtain ⟨s, hs⟩ : ∃ s, L[k] = s := ⟨_, rfl⟩
      have hu2 : (strs L)[k]? = some (.string s) := by rw [strs, List.getElem?_map, List.getElem?_eq_getElem hkl, hs]; rfl
      rw [hu2] at hu
      obtain rfl : Value.string s = u := by simpa using hu
      have hsz : s.size ≤ 1000000 := by rw [← hs]; exact HZ.out _ (List.getElem_mem hkl)
      have HNX : Hid (pads16 (bytesOf (L.take (k + 1))) = pads16 (bytesOf (L.take k)) ++ (s.data.toList ++ List.replicate ((16 - s.size % 16) % 16) 0)) := Lib.hid (by rw [bytesOf_snoc L k hkl, hs])
      have hlen := bytesOf_le L HZ.out HN.out k
      generalize pads16 (bytesOf (L.take k)) = acc at *
      clear hu hu2 hs hkl
      have k0 : (k : Int) < (n : Int) := by omega
      go_wp2_with fail
      refine (bld_write w.heap.size w.heap.size _ s _ hI (by rw [Lib.byteCells_length]; omega) hb.size).mono ?_
      rintro e w1 ⟨rfl, hI1, hb1⟩
      have hb2 := hb.trans hb1
      clear hI hb hb1 hcell
      go_wp2_with fail
      have e3 : (-((s.size : Int) % 16) % 16) = (((16 - s.size % 16) % 16 : Nat) : Int) := by omega
      have hz16 : (16 - s.size % 16) % 16 < 16 := Nat.mod_lt _ (by omega)
      rw [e3]
      clear e3
      generalize (16 - s.size % 16) % 16 = z at *
      obtain ⟨q, hq⟩ : ∃ q : ByteArray, ⟨(List.replicate z 0).toArray⟩ = q := ⟨_, rfl⟩
      have hql : q.data.toList = List.replicate z 0 := by rw [← hq]
      have hqz : q.size = z := by rw [← hq, size_mk, List.length_replicate]
      refine (rep_any z q hq (by omega) _).mono ?_
      rintro e w2 ⟨rfl, hb3⟩
      have hI2 := isBuilder_keep hI1 hb3
      have hb4 := hb2.next' hb3
      clear hI1 hb2 hb3
      go_wp2_with fail
      refine (bld_write w.heap.size w.heap.size _ _ _ hI2 (by rw [List.length_append, Lib.byteCells_length, Lib.strCells_length]; omega) hb4.size).mono ?_
      rintro e w3 ⟨rfl, hI3, hb5⟩
      have hb6 := hb4.trans hb5
      rw [Lib.strCells_eq, Lib.strCells_eq, ← Lib.byteCells_append, ← Lib.byteCells_append, List.append_assoc] at hI3
      rw [hql, ← HNX.out] at hI3
      clear hI2 hb4 hb5
      go_wp2
      go_roundw
      case rel => exact ⟨k + 1, by omega, by go_num, hI3, hb6⟩
      case measure => simp [intOf]; omega
    · obtain rfl : k = n := by omega
      rw [show L.take k = L by rw [← HLN.out, List.take_length]] at hI
      go_wp2_with fail
      refine (bld_string w.heap.size w.heap.size _ _ hI hb.size).mono ?_
      rintro e w1 ⟨rfl, hb1⟩
      rw [HR.out]
      go_wp2
      go_ret
      exact ⟨rfl, hb.trans hb1⟩
end Go.Proofs.YtapbjmeilhcmaaaDoor
