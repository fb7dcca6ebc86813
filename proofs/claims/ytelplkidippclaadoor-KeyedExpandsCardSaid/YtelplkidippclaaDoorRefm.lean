/-
  keyholeref01.Many and Bytes: the contracts.
-/
import Derived.Test.YtelplkidippclaaDoorRef6
import Derived.Test.YtelplkidippclaaDoorRef7
namespace Go.Proofs.YtelplkidippclaaDoor
open Go.RowKit Go.Kx
set_option maxRecDepth 20000

def manyAt (c k j : Nat) : Nat := if j < k then c else 0
theorem manyAt_set (c k j : Nat) : (if j = k then c else manyAt c k j) = manyAt c (k + 1) j := by
  unfold manyAt
  by_cases h : j = k
  · subst h; simp
  · rw [if_neg h]
    by_cases h2 : j < k
    · rw [if_pos h2, if_pos (by omega)]
    · rw [if_neg h2, if_neg (by omega)]
set_option maxHeartbeats 1000000 in
theorem rmany_any (c : UInt8) (n : Nat) (hn : n ≤ 100000) (w : World) :
    Calls Tryd.prog 20 #[.int .u8 (c.toNat : Int), .int .i64 (n : Int)] w fun e w' => e = .returned (.string ⟨(List.replicate n c).toArray⟩) ∧ Below w.heap.size w w' := by
  have hmk := run_make_row' (P := Tryd.prog) 33 5 (.int .u8 0) 1 Tryd.underlying33 byte_info rfl .i64 .i64 n (by omega) (by omega)
  obtain ⟨y, hy⟩ : ∃ y : Nat, c.toNat = y := ⟨_, rfl⟩
  have HY := Lib.hid hy
  rw [hy]
  clear hy
  go_enter Tryd.func20, Tryd.ntmps20
  go_wp2
  go_loopw [6] (fun i wr => ∃ k : Nat, k ≤ n ∧ i = .int .i64 k ∧ wr.rowIs w.heap.size 5 n (fun j => .int .u8 (manyAt y k j : Nat)) ∧ Below w.heap.size w wr) (fun i _ => n - (intOf i).toNat)
  case atStart =>
    refine ⟨0, Nat.zero_le _, rfl, ?_, Below.alloc0 _ _⟩
    exact (World.rowIs_made w (.int .u8 0) n 5).congr (g := fun j => .int .u8 (manyAt y 0 j : Nat)) (fun j _ => by simp [manyAt])
  case round =>
    obtain ⟨k, hk, rfl, hrow, hb⟩ := hrel
    by_cases hlt : k < n
    · have hload := hrow.cell (i := k) hlt
      have hfz := hrow.frozen k
      generalize manyAt y k k = z at hload
      go_wp2
      go_roundw
      case rel =>
        refine ⟨k + 1, by omega, by go_num, (hrow.set k _).congr fun j _ => ?_, hb.setCell (p := ⟨w.heap.size, k, none⟩) (by simp) _⟩
        rw [← manyAt_set]
        split <;> rfl
      case measure => simp [intOf]; omega
    · obtain rfl : k = n := by omega
      have hconv : (convert 33 9 (.slice (some ⟨w.heap.size, 0, none⟩) k k)).run Tryd.prog wr = .ok (.string ⟨(List.replicate k c).toArray⟩) wr := by
        have hc := run_convert_bytes_back (P := Tryd.prog) wr 33 9 5 ⟨w.heap.size, 0, none⟩ k (List.replicate k c) Tryd.underlying33 Tryd.underlying5 Tryd.underlying9 (fun j hj => by
          have hj' : j < k := by simpa using hj
          have := hrow.cell (i := j) hj'
          rw [show (⟨w.heap.size, 0, none⟩ : Addr).add j = ⟨w.heap.size, j, none⟩ by unfold Addr.add; split <;> simp_all, this, manyAt, if_pos hj', ← HY.out]
          simp)
        rwa [List.length_replicate] at hc
      generalize hout : List.replicate k c = out at *
      have HO := Lib.hid hout
      clear hout
      go_wp2
      go_ret
      exact ⟨by rw [HO.out]; rfl, hb⟩
set_option maxHeartbeats 2000000 in
theorem rbytes_gen (a b : ByteArray) (ha : a.size = 64) (hbz : b.size = 64) (L : List UInt8) (hL : L.length = 64) (h : ∀ j (h1 : j < a.size) (h2 : j < b.size), ∃ x : UInt8, L[j]? = some x ∧ (a[j].toNat ^^^ b[j].toNat) = x.toNat) (w : World) :
    Calls Tryd.prog 21 #[.string a, .string b] w fun e w' => e = .returned (.string ⟨L.toArray⟩) ∧ Below w.heap.size w w' := by
  obtain ⟨i0, hi, hz0, hz1, hz2⟩ := info_parts byte_info
  have HX := Lib.hid h
  have HL := Lib.hid hL
  clear h hL
  go_enter Tryd.func21, Tryd.ntmps21
  go_wp2
  go_loopw [5, 6] (fun v i wr => ∃ k : Nat, k ≤ 64 ∧ i = .int .i64 k ∧ wr.ownsRow w.heap.size 5 1 v k (byts (L.take k)) ∧ Below w.heap.size w wr) (fun _ i _ => 64 - (intOf i).toNat)
  case atStart => exact ⟨0, by omega, rfl, World.ownsRow_nil _ _ _ _, Below.refl _ _⟩
  case round =>
    obtain ⟨k, hk, rfl, hown, hb⟩ := hrel
    by_cases hlt : k < 64
    · have hka : k < a.size := by omega
      have hkb : k < b.size := by omega
      obtain ⟨x, hx, hxx⟩ := HX.out k hka hkb
      have HXK := Lib.hid hx
      have HXX := Lib.hid hxx
      have la : a[k].toNat < 256 := UInt8.toNat_lt _
      have lb : b[k].toNat < 256 := UInt8.toNat_lt _
      have lx : x.toNat < 256 := UInt8.toNat_lt _
      have wa : IntKind.i64.wrap ((a[k].toNat : Nat) : Int) = ((a[k].toNat : Nat) : Int) := IntWalk.i64_in _ (by omega)
      have wb : IntKind.i64.wrap ((b[k].toNat : Nat) : Int) = ((b[k].toNat : Nat) : Int) := IntWalk.i64_in _ (by omega)
      have wx : IntKind.u8.wrap ((x.toNat : Nat) : Int) = ((x.toNat : Nat) : Int) := by simp only [IntKind.wrap, IntKind.bits, IntKind.signed]; simp; omega
      have hsz := hb.size
      clear hx hxx
      go_wp2_with fail
      go_region_law (first
        | (refine step_append_lies _ (by rfl) _ _ _ (by rfl) w.heap.size 5 i0 _ 1 1 Tryd.underlying33 hi hz0 hz1 hz2 rfl (by omega) u5 k (byts (L.take k)) (by rfl) ((hown.alloc _).drew) ⟨wr.heap.size, 0, none⟩ 1 1 [.int .u8 (x.toNat : Int)] (by rfl) (by rfl) (by intro j u hj; match j, hj with | 0, hj => (simp at hj; subst hj; simp [Addr.add])) (by simp [Value.oneCell']) (by omega) (by unfold maxLen; omega) (by omega) (by simp; omega) (wr.heap.size + 1) (by simp) ?_; intro gg cap w2 hown2 hgrow hat hlt2)
        | (go_simp; go_at_call 37; refine (unlike_v _ _ (by omega) (by omega) x.toNat HXX.out _).mono ?_; rintro e w'' ⟨rfl, rfl⟩))
      all_goals have hb2 := own_below ((hown.alloc _).drew) ((hb.al _).drew) hgrow
      all_goals rw [byts_snoc, take_snocB HXK.out] at hown2
      all_goals clear hown hb hgrow hat hlt2
      all_goals go_wp2
      all_goals go_roundw
      all_goals first
        | exact ⟨k + 1, by omega, by go_num, hown2, hb2⟩
        | (simp [intOf]; omega)
    · obtain rfl : k = 64 := by omega
      rw [List.take_of_length_le (by rw [HL.out]; omega)] at hown
      obtain ⟨A, c, e, hconv⟩ := own_str (by rw [HL.out]; exact hown)
      have hconv2 := hconv (by rw [HL.out]; omega)
      rw [HL.out] at e
      subst e
      clear hconv
      go_wp2
      go_ret
      exact ⟨by rfl, hb⟩
end Go.Proofs.YtelplkidippclaaDoor
