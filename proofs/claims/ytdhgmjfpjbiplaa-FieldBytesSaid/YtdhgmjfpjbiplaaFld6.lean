/-
  keyholeref07.Bytes: the contract.
-/
import Derived.Test.YtdhgmjfpjbiplaaFld3
import Derived.Test.YtdhgmjfpjbiplaaFld5
namespace Go.Proofs.Ytdhgmjfpjbiplaa
open Go.RowKit Go.Kx
set_option maxRecDepth 20000

set_option maxHeartbeats 1000000 in
theorem rfbytes_any (a : Int) (s : ByteArray) (hs : s.size ≤ 100000) (w : World) : Calls Try.prog 21 #[.int .i64 a, .string s] w fun e w' => e = strB (bytesA a s) ∧ Below w.heap.size w w' := by
  cases ha : dig a with
  | false =>
    have hr : bytesA a s = (⟨#[]⟩, false) := by simp [bytesA, ha]
    rw [hr]
    go_enter Try.func21, Try.ntmps21
    go_wp2_with fail
    refine (digit_any _ _).mono ?_
    rintro e w1 ⟨rfl, rfl⟩
    go_wp2
    go_ret2
    exact ⟨rfl, Below.refl _ _⟩
  | true =>
    have hr : bytesA a s = (⟨(prodL a.toNat s.data.toList).toArray⟩, true) := by simp [bytesA, ha]
    rw [hr]
    obtain ⟨m, rfl, hm⟩ := dig_nat ha
    show Calls _ _ _ _ fun e w' => e = strB (⟨(prodL m s.data.toList).toArray⟩, true) ∧ _
    obtain ⟨i0, hi, hz0, hz1, hz2⟩ := info_parts octet_info
    have HX : Hid (∀ j (h : j < s.size), ∃ x : UInt8, (prodL m s.data.toList)[j]? = some x ∧ Gf.mulG s[j].toNat m = x.toNat) := Lib.hid (fun j h => by
      have h2 : j < s.data.toList.length := by simpa using h
      have hl := Gf.mulG_lt (s[j]).toNat hm
      refine ⟨UInt8.ofNat (Gf.mulG m (s[j]).toNat), ?_, ?_⟩
      · rw [prodL, List.getElem?_map, List.getElem?_eq_getElem h2]
        rfl
      · rw [UInt8.toNat_ofNat', Nat.mod_eq_of_lt hl, Gf.mul_comm (UInt8.toNat_lt _) hm])
    have HL : Hid ((prodL m s.data.toList).length = s.size) := Lib.hid (by simp [prodL])
    generalize prodL m s.data.toList = L at *
    go_enter Try.func21, Try.ntmps21
    go_wp2_with fail
    refine (digit_any _ _).mono ?_
    rintro e w1 ⟨rfl, rfl⟩
    go_wp2
    go_loopw [6, 7] (fun v i wr => ∃ k : Nat, k ≤ s.size ∧ i = .int .i64 k ∧ wr.ownsRow w1.heap.size 5 1 v k (byts (L.take k)) ∧ Below w1.heap.size w1 wr) (fun _ i _ => s.size - (intOf i).toNat)
    case atStart => exact ⟨0, by omega, rfl, World.ownsRow_nil _ _ _ _, Below.refl _ _⟩
    case round =>
      obtain ⟨k, hk, rfl, hown, hb⟩ := hrel
      by_cases hlt : k < s.size
      · obtain ⟨x, hx, hxx⟩ := HX.out k hlt
        have HXK := Lib.hid hx
        have HXX := Lib.hid hxx
        have la : s[k].toNat < 256 := UInt8.toNat_lt _
        have lx : x.toNat < 256 := UInt8.toNat_lt _
        have wa : IntKind.i64.wrap ((s[k].toNat : Nat) : Int) = ((s[k].toNat : Nat) : Int) := IntWalk.i64_in _ (by omega)
        have wx : IntKind.u8.wrap ((x.toNat : Nat) : Int) = ((x.toNat : Nat) : Int) := by simp only [IntKind.wrap, IntKind.bits, IntKind.signed]; simp; omega
        have hsz := hb.size
        clear hx hxx
        go_wp2_with fail
        refine (times_any _ m la hm _).mono ?_
        rw [HXX.out]
        rintro e w' ⟨rfl, rfl⟩
        go_wp2_with (first
          | (at_builtin; refine wpList_append_own _ rfl _ _ 44 rfl w1.heap.size 5 i0 (.int .u8 0) 1 1 Try.underlying44 hi hz0 hz1 hz2 rfl (by decide) _ _ _ rfl (hown.alloc _) ⟨w'.heap.size, 0, none⟩ 1 1 [.int .u8 (x.toNat : Int)] rfl rfl ?c1 ?c2 ?c3 ?c4 ?c5 ?_)
          | go_in)
        case c1 =>
          intro j u hj
          match j, hj with
          | 0, hj => simp at hj; subst hj; simp [Addr.add]
        case c2 => intro u hu; simp at hu; subst hu; rfl
        case c3 => unfold maxLen; omega
        case c4 => omega
        case c5 => simp; omega
        · intro v' w2 hown' hgrow _
          have hb1 := own_below (hown.alloc _) (hb.al _) hgrow
          rw [byts_snoc, take_snocB HXK.out] at hown'
          clear hown hgrow hb
          go_wp2
          go_roundw
          case rel => exact ⟨k + 1, by omega, by go_num, hown', hb1⟩
          case measure => simp [intOf]; omega
      · obtain rfl : k = s.size := by omega
        rw [List.take_of_length_le (by rw [HL.out]; omega)] at hown
        obtain ⟨A, c, e, hconv⟩ := own_strs (by rw [HL.out]; exact hown)
        rw [HL.out] at e
        subst e
        go_wp2
        go_ret2
        exact ⟨by rfl, hb⟩
end Go.Proofs.Ytdhgmjfpjbiplaa
