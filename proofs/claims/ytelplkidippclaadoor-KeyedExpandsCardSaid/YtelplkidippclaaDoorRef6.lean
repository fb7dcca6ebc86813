/-
  keyholeref02.Pad: the contract.
-/
import Derived.Test.YtelplkidippclaaDoorRef4
import Derived.Test.YtelplkidippclaaDoorDig5
namespace Go.Proofs.YtelplkidippclaaDoor
open Go.RowKit Go.Kx
set_option maxRecDepth 20000

def byts (l : List UInt8) : List Value := l.map (fun b : UInt8 => Value.int .u8 (b.toNat : Int))
theorem byts_snoc (l : List UInt8) (b : UInt8) : byts l ++ [Value.int .u8 (b.toNat : Int)] = byts (l ++ [b]) := by simp [byts]
theorem take_snocB {l : List UInt8} {k : Nat} {x : UInt8} (h : l[k]? = some x) : l.take k ++ [x] = l.take (k + 1) := by rw [List.take_add_one, h]; rfl
theorem rpad_no (n : Int) (hn : n < 0 ∨ 1000000000 < n) (w : World) :
    Calls Tryd.prog 33 #[.int .i64 n] w fun e w' => e = .returned (.tuple #[.string ⟨#[]⟩, .bool false]) ∧ w = w' := by
  by_cases h : n < 0
  · go_enter Tryd.func33, Tryd.ntmps33
    go_wp2
    go_ret2
    exact ⟨rfl, rfl⟩
  · have h2 : 1000000000 < n := by omega
    go_enter Tryd.func33, Tryd.ntmps33
    go_wp2
    go_ret2
    exact ⟨rfl, rfl⟩
theorem own_new (w : World) (b : UInt8) : (w.alloc (.cells #[.int .u8 (b.toNat : Int)] 5)).ownsRow w.heap.size 5 1 (.slice (some ⟨w.heap.size, 0, none⟩) 1 1) 1 (byts [b]) :=
  ⟨rfl, .inr ⟨w.heap.size, 1, _, rfl, Nat.le_refl _, heap_alloc_new w _, Nat.le_refl _, by unfold maxLen; omega, rfl, rfl⟩⟩
theorem own_str {w : World} {B0 : Nat} {v : Value} {l : List UInt8} (h : w.ownsRow B0 5 1 v l.length (byts l)) :
    ∃ A c, v = .slice A l.length c ∧ (0 < l.length → (convert 33 9 v).run Tryd.prog w = .ok (.string ⟨l.toArray⟩) w) := by
  obtain ⟨A, c, rfl, hs⟩ := own_sl h
  refine ⟨A, c, rfl, fun h0 => ?_⟩
  rcases hs with hs | ⟨b, off, rfl, _, hc⟩
  · have : l = [] := by simpa [byts] using hs
    subst this
    simp at h0
  · refine run_convert_bytes_back (P := Tryd.prog) w 33 9 5 ⟨b, off, none⟩ c l Tryd.underlying33 Tryd.underlying5 Tryd.underlying9 (fun j hj => ?_)
    rw [show (⟨b, off, none⟩ : Addr).add j = ⟨b, off + j, none⟩ by unfold Addr.add; split <;> simp_all]
    rw [hc j (.int .u8 (l[j].toNat : Int)) (by simp [byts, hj])]
theorem u8_of' {x y : Nat} (h : x % 256 = y % 256) : UInt8.ofNat x = UInt8.ofNat y := by
  apply UInt8.toNat.inj
  simpa [UInt8.toNat_ofNat'] using h
theorem jat (h : Bool) (xs : List Nat) (i : Nat) (hi : i < 4 * xs.length) : (joinL h xs)[i]? = some (UInt8.ofNat (xs.getD (i / 4) 0 / 2 ^ shN h (i % 4))) := by simp [joinL, hi]
theorem j4 (a b : Nat) : (joinL true [a, b])[4]? = some (UInt8.ofNat (b / 16777216)) ∧ (joinL true [a, b])[5]? = some (UInt8.ofNat (b / 65536)) ∧ (joinL true [a, b])[6]? = some (UInt8.ofNat (b / 256)) ∧ (joinL true [a, b])[7]? = some (UInt8.ofNat b) := by
  refine ⟨?_, ?_, ?_, ?_⟩
  · rw [jat _ _ _ (by simp)]; rfl
  · rw [jat _ _ _ (by simp)]; rfl
  · rw [jat _ _ _ (by simp)]; rfl
  · rw [jat _ _ _ (by simp)]; show some (UInt8.ofNat (b / 1)) = _; rw [Nat.div_one]
theorem padL_get (n : Nat) (j : Nat) : (j < (64 - (n + 9) % 64) % 64 → (padL n)[1 + j]? = some 0) ∧ (j < 8 → (padL n)[1 + (64 - (n + 9) % 64) % 64 + j]? = some (UInt8.ofNat (8 * n / 256 ^ (7 - j)))) := by
  unfold padL
  generalize hz : (64 - (n + 9) % 64) % 64 = z
  constructor
  · intro hj
    rw [Nat.add_comm, List.getElem?_cons_succ, List.getElem?_append_left (by simpa using hj)]
    simp [hj]
  · intro hj
    rw [show 1 + z + j = (z + j) + 1 by omega, List.getElem?_cons_succ, List.getElem?_append_right (by simp)]
    rw [List.length_replicate, Nat.add_sub_cancel_left]
    rcases (by omega : j = 0 ∨ j = 1 ∨ j = 2 ∨ j = 3 ∨ j = 4 ∨ j = 5 ∨ j = 6 ∨ j = 7) with rfl | rfl | rfl | rfl | rfl | rfl | rfl | rfl
    · show some (UInt8.ofNat (8 * n / 4294967296 / 16777216)) = some (UInt8.ofNat (8 * n / 72057594037927936)); rw [Nat.div_div_eq_div_mul]
    · show some (UInt8.ofNat (8 * n / 4294967296 / 65536)) = some (UInt8.ofNat (8 * n / 281474976710656)); rw [Nat.div_div_eq_div_mul]
    · show some (UInt8.ofNat (8 * n / 4294967296 / 256)) = some (UInt8.ofNat (8 * n / 1099511627776)); rw [Nat.div_div_eq_div_mul]
    · show some (UInt8.ofNat (8 * n / 4294967296 / 1)) = some (UInt8.ofNat (8 * n / 4294967296)); rw [Nat.div_one]
    · rw [show (7 - 4 : Nat) = 3 from rfl, (j4 _ _).1]; exact congrArg some (u8_of' (by omega))
    · rw [show (7 - 5 : Nat) = 2 from rfl, (j4 _ _).2.1]; exact congrArg some (u8_of' (by omega))
    · rw [show (7 - 6 : Nat) = 1 from rfl, (j4 _ _).2.2.1]; exact congrArg some (u8_of' (by omega))
    · rw [show (7 - 7 : Nat) = 0 from rfl, (j4 _ _).2.2.2]; exact congrArg some (u8_of' (by show _ = 8 * n / 1 % 256; omega))
theorem padL_length (n : Nat) : (padL n).length = 1 + (64 - (n + 9) % 64) % 64 + 8 := by
  unfold padL
  rw [List.length_cons, List.length_append, List.length_replicate, joinL_length]
  simp; omega
set_option maxHeartbeats 2000000 in
theorem rpad_yes (n : Nat) (hn : n ≤ 1000000000) (w : World) :
    Calls Tryd.prog 33 #[.int .i64 n] w fun e w' => e = .returned (.tuple #[.string ⟨(padL n).toArray⟩, .bool true]) ∧ Below w.heap.size w w' := by
  obtain ⟨i0, hi, hz0, hz1, hz2⟩ := info_parts byte_info
  have h1 : ¬ (n : Int) < 0 := by omega
  have h2 : ¬ 1000000000 < (n : Int) := by omega
  have HL := Lib.hid (padL_length n)
  have HA : Hid (∀ j, j < (64 - (n + 9) % 64) % 64 → (padL n)[1 + j]? = some 0) := Lib.hid (fun j => (padL_get n j).1)
  have HB : Hid (∀ j, j < 8 → (padL n)[1 + (64 - (n + 9) % 64) % 64 + j]? = some (UInt8.ofNat (8 * n / 256 ^ (7 - j)))) := Lib.hid (fun j => (padL_get n j).2)
  have H0 : Hid ((padL n).take 1 = [128]) := Lib.hid rfl
  generalize hL : padL n = L at *
  clear hL
  obtain ⟨z, hz⟩ : ∃ z, z = (64 - (n + 9) % 64) % 64 := ⟨_, rfl⟩
  rw [← hz] at HL HA HB
  have hzl : z < 64 := by omega
  have HZ := Lib.hid hz
  clear hz
  go_enter Tryd.func33, Tryd.ntmps33
  go_wp2_with fail
  go_loopw [4] (fun v wr => ∃ k A c : Nat, k ≤ z ∧ v = .slice (some ⟨A, 0, none⟩) (1 + k) c ∧ wr.ownsRow w.heap.size 5 1 v (1 + k) (byts (L.take (1 + k))) ∧ Below w.heap.size w wr) (fun v _ => match v with | .slice _ m _ => 100 - m | _ => 0)
  case atStart => exact ⟨0, w.heap.size, 1, Nat.zero_le _, rfl, by rw [H0.out]; exact own_new w 128, Below.alloc0 _ _⟩
  case round =>
    obtain ⟨k, A, c, hk, rfl, hown, hb⟩ := hrel
    by_cases hlt : k < z
    · have hc : (((n : Int) + ((1 + k : Nat) : Int) + 8) % 64 != 0) = true := by have h3 := HZ.out; simp; omega
      have HX : Hid (L[1 + k]? = some 0) := Lib.hid (HA.out k hlt)
      generalize hm : 1 + k = m at *
      have hm1 : m ≤ 64 := by omega
      go_wp2_with (first
        | (at_builtin; refine wpList_append_own _ rfl _ _ 33 rfl w.heap.size 5 i0 (.int .u8 0) 1 1 Tryd.underlying33 hi hz0 hz1 hz2 rfl (by decide) _ _ _ rfl (hown.alloc _) ⟨wr.heap.size, 0, none⟩ 1 1 [.int .u8 ((0 : UInt8).toNat : Int)] rfl rfl ?c1 ?c2 ?c3 ?c4 ?c5 ?_)
        | go_in)
      case c1 =>
        intro j u hj
        match j, hj with
        | 0, hj => simp at hj; subst hj; simp [Addr.add]
      case c2 => intro u hu; simp at hu; subst hu; rfl
      case c3 => unfold maxLen; omega
      case c4 => omega
      case c5 => have h1 := hb.size; simp; omega
      · intro v' w1 hown' hgrow _
        have hb1 := own_below (hown.alloc _) (hb.al _) hgrow
        have e : byts (L.take m) ++ [Value.int .u8 0] = _ := byts_snoc (L.take m) 0
        rw [e, take_snocB HX.out] at hown'
        clear e hown hgrow hb
        obtain ⟨g, cap, rfl, _⟩ := hown'.form (by omega)
        go_wp2
        go_roundw
        case rel =>
          refine ⟨k + 1, g, cap, by omega, ?_, ?_, hb1⟩
          · rw [show 1 + (k + 1) = m + 1 by omega]
          · rw [show 1 + (k + 1) = m + 1 by omega]; exact hown'
        case measure => show 100 - (m + 1) < 100 - m; omega
    · obtain rfl : k = z := by omega
      have hc : (((n : Int) + (1 + (k : Int)) + 8) % 64 != 0) = false := by have h3 := HZ.out; simp; omega
      go_wp2_with fail
      clear hc
      go_loopw [4, 5, 6] (fun v vq vi wr => ∃ i m q A c : Nat, i ≤ 8 ∧ vi = .int .i64 i ∧ Hid (m = 1 + k + i) ∧ Hid (q = 256 ^ (8 - i) / 256) ∧ vq = .int .i64 q ∧ v = .slice (some ⟨A, 0, none⟩) m c ∧ wr.ownsRow w.heap.size 5 1 v m (byts (L.take m)) ∧ Below w.heap.size w wr) (fun _ _ i _ => 8 - (intOf i).toNat)
      case atStart => exact ⟨0, 1 + k, 72057594037927936, A, c, by omega, rfl, Lib.hid rfl, Lib.hid rfl, rfl, rfl, hown, hb⟩
      case round =>
        clear hown hb
        obtain ⟨i, m, q, A, c, hil, rfl, hm, hq, rfl, rfl, hown, hb⟩ := hrel
        have hmz : m ≤ 80 := by have h3 := hm.out; omega
        have hm0 : 0 < m := by have h3 := hm.out; omega
        by_cases hlt : i < 8
        · have HX : Hid (L[m]? = some (UInt8.ofNat (8 * n / 256 ^ (7 - i)))) := Lib.hid (by rw [hm.out]; exact HB.out i hlt)
          have hq1 : q = 256 ^ (7 - i) := by rw [hq.out, show 8 - i = (7 - i) + 1 by omega, Nat.pow_succ, Nat.mul_div_cancel _ (by omega)]
          have hq2 : Hid (q / 256 = 256 ^ (8 - (i + 1)) / 256) := Lib.hid (by rw [hq1, show 8 - (i + 1) = 7 - i by omega])
          have hq0 : 0 < q := by rw [hq1]; exact Nat.pow_pos (by omega)
          have hql : q ≤ 72057594037927936 := by rw [hq1]; exact (show 256 ^ (7 - i) ≤ 256 ^ 7 from Nat.pow_le_pow_right (by omega) (by omega))
          rw [← hq1] at HX
          clear hq1 hq
          have hv : ((8 * (n : Int)) / (q : Int)).tmod 256 = (((UInt8.ofNat (8 * n / q)).toNat : Nat) : Int) := by
            have e1 : (8 * (n : Int)) / (q : Int) = ((8 * n / q : Nat) : Int) := by rw [Int.natCast_ediv, Int.natCast_mul]; rfl
            rw [e1, UInt8.toNat_ofNat', Int.tmod_eq_emod_of_nonneg (Int.natCast_nonneg _)]; rfl
          have hbl : (UInt8.ofNat (8 * n / q)).toNat < 256 := UInt8.toNat_lt _
          have hbw : IntKind.u8.wrap (((UInt8.ofNat (8 * n / q)).toNat : Nat) : Int) = (((UInt8.ofNat (8 * n / q)).toNat : Nat) : Int) := by simp only [IntKind.wrap, IntKind.bits, IntKind.signed]; simp
          have hb3 : (((UInt8.ofNat (8 * n / q)).toNat : Nat) : Int) % 256 = (((UInt8.ofNat (8 * n / q)).toNat : Nat) : Int) := by omega
          generalize UInt8.ofNat (8 * n / q) = b at *
          go_wp2_with (first
            | (at_builtin; refine wpList_append_own _ rfl _ _ 33 rfl w.heap.size 5 i0 (.int .u8 0) 1 1 Tryd.underlying33 hi hz0 hz1 hz2 rfl (by decide) _ _ _ rfl (hown.alloc _) ⟨wr.heap.size, 0, none⟩ 1 1 [.int .u8 (b.toNat : Int)] rfl rfl ?d1 ?d2 ?d3 ?d4 ?d5 ?_)
            | go_in)
          case d1 =>
            intro j u hj
            match j, hj with
            | 0, hj => simp at hj; subst hj; simp [Addr.add]
          case d2 => intro u hu; simp at hu; subst hu; rfl
          case d3 => unfold maxLen; omega
          case d4 => omega
          case d5 => have h1 := hb.size; simp; omega
          · intro v' w1 hown' hgrow _
            have hb1 := own_below (hown.alloc _) (hb.al _) hgrow
            have e := byts_snoc (L.take m) b
            rw [e, take_snocB HX.out] at hown'
            clear e hown hgrow hb
            obtain ⟨g, cap, rfl, _⟩ := hown'.form (by omega)
            go_wp2
            go_roundw
            case rel =>
              exact ⟨i + 1, m + 1, q / 256, g, cap, by omega, by go_num, Lib.hid (by have h3 := hm.out; omega), hq2, by go_num, rfl, hown', hb1⟩
            case measure => simp [intOf]; omega
        · obtain rfl : i = 8 := by omega
          obtain rfl : m = L.length := by have h3 := hm.out; have h4 := HL.out; omega
          rw [List.take_length] at hown
          obtain ⟨A', c', e, hconv⟩ := own_str hown
          obtain ⟨rfl, rfl⟩ : some ⟨A, 0, none⟩ = A' ∧ c = c' := by simpa using e
          have hconv2 := hconv hm0
          clear hconv e
          generalize hn' : L.length = m at *
          clear hn'
          go_wp2
          go_ret2
          exact ⟨rfl, hb⟩
end Go.Proofs.YtelplkidippclaaDoor
