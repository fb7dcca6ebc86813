/-
  keyholelaw03.large: the contract.
-/
import Derived.Test.YtelplkidippclaaDoorMacs
namespace Go.Proofs.YtelplkidippclaaDoor
open Go.RowKit Go.Kx
set_option maxRecDepth 20000

def total (ss : List ByteArray) : Nat := (ss.map (·.size)).sum
theorem total_take (ss : List ByteArray) (k : Nat) (h : k < ss.length) : total (ss.take (k + 1)) = total (ss.take k) + ss[k].size := by
  have e : ss.take (k + 1) = ss.take k ++ [ss[k]] := by rw [List.take_add_one, List.getElem?_eq_getElem h]; rfl
  rw [total, total, e, List.map_append, List.sum_append]
  simp only [List.map_cons, List.map_nil, List.sum_cons, List.sum_nil, Nat.add_zero]
theorem total_le (ss : List ByteArray) (hs : ∀ s ∈ ss, s.size ≤ 140737488351232) : total ss ≤ ss.length * 140737488351232 := by
  induction ss with
  | nil => simp [total]
  | cons s ss ih =>
    have h1 := ih (fun x hx => hs x (List.mem_cons_of_mem _ hx))
    have h2 := hs s List.mem_cons_self
    simp only [total, List.map_cons, List.sum_cons, List.length_cons] at h1 ⊢
    omega
set_option maxHeartbeats 1000000 in
theorem large_any (A : Option Addr) (c : Nat) (ss : List ByteArray) (hs : ∀ s ∈ ss, s.size ≤ 140737488351232) (hl : ss.length ≤ 100) (w : World) (h : Sl w A (ss.map .string)) :
    Calls Tryd.prog 8 #[.slice A ss.length c] w fun e w' => e = .returned (.bool (decide (400 < total ss))) ∧ w = w' := by
  have HT : Hid (∀ k, total (ss.take k) ≤ 14073748835123200) := Lib.hid (fun k => by
    have h1 := total_le (ss.take k) (fun s h => hs s (List.mem_of_mem_take h))
    have h2 : (ss.take k).length ≤ ss.length := by simp; omega
    omega)
  have HTT : Hid (∀ k (hk : k < ss.length), total (ss.take (k + 1)) = total (ss.take k) + ss[k].size) := Lib.hid (fun k hk => total_take ss k hk)
  have HS := Lib.hid hs
  clear hs
  go_enter Tryd.func8, Tryd.ntmps8
  go_wp2
  go_loopw [3, 4] (fun n i wr => ∃ k t : Nat, k ≤ ss.length ∧ i = .int .i64 k ∧ n = .int .i64 t ∧ Hid (t = total (ss.take k)) ∧ wr = w) (fun _ i _ => ss.length - (intOf i).toNat)
  case atStart => exact ⟨0, 0, by omega, rfl, rfl, Lib.hid (by simp [total]), rfl⟩
  case round =>
    obtain ⟨k, t, hk, rfl, rfl, ht, rfl⟩ := hrel
    by_cases hlt : k < ss.length
    · obtain ⟨b, off, u, rfl, hu, hld⟩ := h.at_ (k := k) (by simpa using hlt)
      obtain ⟨x, hx, rfl⟩ : ∃ x : ByteArray, ss[k]? = some x ∧ .string x = u := by simpa using hu
      have hxe : ss[k] = x := by rw [List.getElem?_eq_getElem hlt] at hx; exact Option.some.inj hx
      have hn := HTT.out k hlt
      rw [hxe] at hn
      have hb := HT.out (k + 1)
      have HN : Hid (t + x.size = total (ss.take (k + 1))) := Lib.hid (by rw [hn, ← ht.out])
      have htb : t + x.size ≤ 14073748835123200 := by rw [HN.out]; exact hb
      have hw1 : IntKind.i64.wrap ((t : Int) + (x.size : Int)) = (t : Int) + (x.size : Int) := IntWalk.i64_in _ (by omega)
      clear hu hx hxe hn hb
      go_wp2
      go_roundw
      case rel => exact ⟨k + 1, t + x.size, by omega, by go_num, by go_num, HN, trivial⟩
      case measure => simp [intOf]; omega
    · obtain rfl : k = ss.length := by omega
      have HE : Hid (t = total ss) := Lib.hid (by rw [ht.out, List.take_length])
      go_wp2
      go_ret
      exact ⟨ret_bool (by rw [HE.out]; simp; omega), rfl⟩
theorem large_v (n : Nat) (c m : Nat) (ss : List ByteArray) (hm : ss.length = m) (hs : ∀ s ∈ ss, s.size ≤ 140737488351232) (hl : ss.length ≤ 100) (b : Bool) (hb : decide (400 < total ss) = b) (w : World) (h : Sl w (some ⟨n, 0, none⟩) (ss.map .string)) :
    Calls Tryd.prog 8 #[.slice (some ⟨n, 0, none⟩) m c] w fun e w' => e = .returned (.bool b) ∧ w = w' := by
  subst hm hb
  exact large_any _ c ss hs hl w h
end Go.Proofs.YtelplkidippclaaDoor
