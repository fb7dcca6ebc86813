/-
  keyholeref01.Bytes: the contract, for bytes of any number (Refm has it for 64).
-/
import Derived.Test.YtljckcegcfidoaaOwn
import Derived.Test.YtljckcegcfidoaaUnl
namespace Go.Proofs.Ytljckcegcfidoaa
open Go.RowKit Go.Kx
set_option maxRecDepth 20000

set_option maxHeartbeats 2000000 in
theorem rbytes_all (a b : ByteArray) (z : Nat) (hzz : z ≤ 5000) (ha : a.size = z) (hbz : b.size = z) (L : List UInt8) (hL : L.length = z) (h : ∀ j (h1 : j < a.size) (h2 : j < b.size), ∃ x : UInt8, L[j]? = some x ∧ (a[j].toNat ^^^ b[j].toNat) = x.toNat) (w : World) :
    Calls Try.prog 22 #[.string a, .string b] w fun e w' => e = .returned (.string ⟨L.toArray⟩) ∧ Below w.heap.size w w' := by
  obtain ⟨i0, hi, hz0, hz1, hz2⟩ := info_parts octet_info
  have HX := Lib.hid h
  have HL := Lib.hid hL
  clear h hL
  go_enter Try.func22, Try.ntmps22
  go_wp2
  go_loopw [5, 6] (fun v i wr => ∃ k : Nat, k ≤ z ∧ i = .int .i64 k ∧ wr.ownsRow w.heap.size 5 1 v k (byts (L.take k)) ∧ Below w.heap.size w wr) (fun _ i _ => z - (intOf i).toNat)
  case atStart => exact ⟨0, by omega, rfl, World.ownsRow_nil _ _ _ _, Below.refl _ _⟩
  case round =>
    obtain ⟨k, hk, rfl, hown, hb⟩ := hrel
    by_cases hlt : k < z
    · have hka : k < a.size := by omega
      have hkb : k < b.size := by omega
      obtain ⟨x, hx, hxx⟩ := HX.out k hka hkb
      have HXK := Lib.hid hx
      have HXX := Lib.hid hxx
      have la : a[k].toNat < 256 := UInt8.toNat_lt _
      have lb : b[k].toNat < 256 := UInt8.toNat_lt _
      have lx : x.toNat < 256 := UInt8.toNat_lt _
      have wa : IntKind.i64.wrap ((a[k].toNat : Nat) : Int) = ((a[k].toNat : Nat) : Int) := IntWalk.i64_in _ (by omega)
      have wb : IntKind.i64.wrap ((b[k].toNat : Nat) : Int) = ((b[k].toNat : Nat) : Int) := IntWalk.i64_in _ (by omega)
      have wx : IntKind.u8.wrap ((x.toNat : Nat) : Int) = ((x.toNat : Nat) : Int) := by simp only [IntKind.wrap, IntKind.bits, IntKind.signed]; simp; omega
      have hsz := hb.size
      clear hx hxx
      go_wp2_with fail
      go_region_law (first
        | (refine step_append_lies _ (by rfl) _ _ _ (by rfl) w.heap.size 5 i0 _ 1 1 Try.underlying54 hi hz0 hz1 hz2 rfl (by omega) u5 k (byts (L.take k)) (by rfl) ((hown.alloc _).drew) ⟨wr.heap.size, 0, none⟩ 1 1 [.int .u8 (x.toNat : Int)] (by rfl) (by rfl) (by intro j u hj; match j, hj with | 0, hj => (simp at hj; subst hj; simp [Addr.add])) (by simp [Value.oneCell']) (by omega) (by unfold maxLen; omega) (by omega) (by simp; omega) (wr.heap.size + 1) (by simp) ?_; intro gg cap w2 hown2 hgrow hat hlt2)
        | (go_simp; go_at_call 48; refine (unlike_v _ _ (by omega) (by omega) x.toNat HXX.out _).mono ?_; rintro e w'' ⟨rfl, rfl⟩))
      all_goals have hb2 := own_below ((hown.alloc _).drew) ((hb.al _).drew) hgrow
      all_goals rw [byts_snoc, take_snocB HXK.out] at hown2
      all_goals clear hown hb hgrow hat hlt2
      all_goals go_wp2
      all_goals go_roundw
      all_goals first
        | exact ⟨k + 1, by omega, by go_num, hown2, hb2⟩
        | (simp [intOf]; omega)
    · obtain rfl : k = z := by omega
      rw [List.take_of_length_le (by rw [HL.out]; omega)] at hown
      obtain ⟨A, c, e, hconv⟩ := own_strs (by rw [HL.out]; exact hown)
      rw [HL.out] at e
      subst e
      go_wp2
      go_ret
      exact ⟨by rfl, hb⟩
end Go.Proofs.Ytljckcegcfidoaa
