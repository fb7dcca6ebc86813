/-
  keyholeref02.words, keyholeref01.Told, Join: the contracts.
-/
import Derived.Test.YtelplkidippclaaDoorRef4
import Derived.Test.YtelplkidippclaaDoorDig4
namespace Go.Proofs.YtelplkidippclaaDoor
open Go.RowKit Go.Kx
set_option maxRecDepth 20000

theorem rwords_any (w : World) :
    Calls Tryd.prog 48 #[] w fun e w' => ∃ b, e = .returned (.slice (some ⟨b, 0, none⟩) 64 64) ∧ Sl w' (some ⟨b, 0, none⟩) (ints shaK) ∧ Below w.heap.size w w' := by
  go_enter Tryd.func48, Tryd.ntmps48
  go_wp2
  go_ret
  exact ⟨_, rfl, Sl.new' rfl (by rfl), Below.alloc0 _ _⟩
theorem told4 (W : World) (a b c d : Nat) (ha : a < 256) (hb : b < 256) (hc : c < 256) (hd : d < 256) :
    (convert 33 9 (.slice (some ⟨W.heap.size, 0, none⟩) 4 4)).run Tryd.prog (W.alloc (.cells #[.int .u8 (a : Int), .int .u8 (b : Int), .int .u8 (c : Int), .int .u8 (d : Int)] 5)) =
      .ok (.string ⟨#[UInt8.ofNat a, UInt8.ofNat b, UInt8.ofNat c, UInt8.ofNat d]⟩) (W.alloc (.cells #[.int .u8 (a : Int), .int .u8 (b : Int), .int .u8 (c : Int), .int .u8 (d : Int)] 5)) := by
  refine run_convert_bytes_back (P := Tryd.prog) _ 33 9 5 ⟨W.heap.size, 0, none⟩ 4 [UInt8.ofNat a, UInt8.ofNat b, UInt8.ofNat c, UInt8.ofNat d] Tryd.underlying33 Tryd.underlying5 Tryd.underlying9 (fun j hj => ?_)
  have h := cell_of_row (W.alloc (.cells #[.int .u8 (a : Int), .int .u8 (b : Int), .int .u8 (c : Int), .int .u8 (d : Int)] 5)) W.heap.size j _ 5 (0, 0) (heap_alloc_new W _)
  rw [show (⟨W.heap.size, 0, none⟩ : Addr).add j = ⟨W.heap.size, j, none⟩ by unfold Addr.add; split <;> simp_all, h]
  have hj' : j < 4 := hj
  rcases (by omega : j = 0 ∨ j = 1 ∨ j = 2 ∨ j = 3) with rfl | rfl | rfl | rfl <;> simp [UInt8.toNat_ofNat'] <;> omega
theorem told_list (x : Nat) (h : Bool) : joinL h [x] = [UInt8.ofNat (x / 2 ^ shN h 0), UInt8.ofNat (x / 2 ^ shN h 1), UInt8.ofNat (x / 2 ^ shN h 2), UInt8.ofNat (x / 2 ^ shN h 3)] := rfl
theorem u8_of (x y : Nat) (h : x % 256 = y % 256) : UInt8.ofNat x = UInt8.ofNat y := by
  apply UInt8.toNat.inj
  simpa [UInt8.toNat_ofNat'] using h
theorem rtold_any (x : Nat) (h : Bool) (hx : x < 4294967296) (w : World) :
    Calls Tryd.prog 53 #[.int .i64 x, .bool h] w fun e w' => e = .returned (.string ⟨(joinL h [x]).toArray⟩) ∧ Below w.heap.size w w' := by
  obtain ⟨a, ha⟩ : ∃ a, a = x / 16777216 := ⟨_, rfl⟩
  obtain ⟨b, hb⟩ : ∃ b, b = x / 65536 % 256 := ⟨_, rfl⟩
  obtain ⟨c, hc⟩ : ∃ c, c = x / 256 % 256 := ⟨_, rfl⟩
  obtain ⟨d, hd⟩ : ∃ d, d = x % 256 := ⟨_, rfl⟩
  have la : a < 256 := by omega
  have lb : b < 256 := by omega
  have lc : c < 256 := by omega
  have ld : d < 256 := by omega
  have ea : (x : Int) / 16777216 = (a : Int) := by omega
  have eb : (x : Int) / 65536 % 256 = (b : Int) := by omega
  have ec : (x : Int) / 256 % 256 = (c : Int) := by omega
  have ed : (x : Int) % 256 = (d : Int) := by omega
  have hh := told4 w a b c d la lb lc ld
  have hl := told4 w d c b a ld lc lb la
  have HT : Hid (joinL true [x] = [UInt8.ofNat a, UInt8.ofNat b, UInt8.ofNat c, UInt8.ofNat d]) := Lib.hid (by
    rw [told_list, u8_of (x / 2 ^ shN true 0) a (by show x / 16777216 % 256 = _; omega), u8_of (x / 2 ^ shN true 1) b (by show x / 65536 % 256 = _; omega), u8_of (x / 2 ^ shN true 2) c (by show x / 256 % 256 = _; omega), u8_of (x / 2 ^ shN true 3) d (by show x / 1 % 256 = _; omega)])
  have HF : Hid (joinL false [x] = [UInt8.ofNat d, UInt8.ofNat c, UInt8.ofNat b, UInt8.ofNat a]) := Lib.hid (by
    rw [told_list, u8_of (x / 2 ^ shN false 3) a (by show x / 16777216 % 256 = _; omega), u8_of (x / 2 ^ shN false 2) b (by show x / 65536 % 256 = _; omega), u8_of (x / 2 ^ shN false 1) c (by show x / 256 % 256 = _; omega), u8_of (x / 2 ^ shN false 0) d (by show x / 1 % 256 = _; omega)])
  clear ha hb hc hd
  cases h
  · rw [HF.out]
    clear HT HF hh
    go_enter Tryd.func53, Tryd.ntmps53
    go_wp2
    go_ret
    exact ⟨rfl, Below.alloc0 _ _⟩
  · rw [HT.out]
    clear HT HF hl
    go_enter Tryd.func53, Tryd.ntmps53
    go_wp2
    go_ret
    exact ⟨rfl, Below.alloc0 _ _⟩
theorem joinL_snoc (h : Bool) (xs : List Nat) (x : Nat) : joinL h (xs ++ [x]) = joinL h xs ++ joinL h [x] := by
  unfold joinL
  rw [List.length_append, show 4 * (xs.length + [x].length) = 4 * xs.length + 4 by simp; omega, List.range_add, List.map_append, List.map_map]
  congr 1
  · refine List.map_congr_left fun i hi => ?_
    rw [getD_app _ _ _ (by have := List.mem_range.1 hi; omega)]
  · refine List.map_congr_left fun i hi => ?_
    have hi4 : i < 4 := by simpa using hi
    show UInt8.ofNat ((xs ++ [x]).getD ((4 * xs.length + i) / 4) 0 / 2 ^ shN h ((4 * xs.length + i) % 4)) = _
    rw [show (4 * xs.length + i) / 4 = xs.length by omega, show (4 * xs.length + i) % 4 = i % 4 by omega, show i / 4 = 0 by omega]
    simp [List.getD_eq_getElem?_getD]
theorem rall_nats (A : Option Addr) (c : Nat) (xs : List Nat) (w : World) (hm : xs.length ≤ 9223372036854775807) (hs : Sl w A (ints xs)) (hok : ∀ x ∈ xs, x < 4294967296) :
    Calls Tryd.prog 46 #[.slice A xs.length c] w fun e w' => e = .returned (.bool true) ∧ w = w' := by
  have h := rall_any A c (xs.map (fun x : Nat => (x : Int))) w (by simpa using hm) (by rw [ints_map]; exact hs)
  rw [all_ok xs hok] at h
  simpa using h
theorem rjoin_any (A : Option Addr) (c : Nat) (xs : List Nat) (h : Bool) (w : World) (hm : xs.length ≤ 100000) (hs : Sl w A (ints xs)) (hok : ∀ x ∈ xs, x < 4294967296) :
    Calls Tryd.prog 36 #[.slice A xs.length c, .bool h] w fun e w' => e = .returned (.tuple #[.string ⟨(joinL h xs).toArray⟩, .bool true]) ∧ Below w.heap.size w w' := by
  have HOK := Lib.hid hok
  clear hok
  go_enter Tryd.func36, Tryd.ntmps36
  go_wp2_with (go_at_call 46; refine (rall_nats A c xs _ (by omega) hs HOK.out).mono ?_; rintro e w' ⟨rfl, rfl⟩)
  go_loopw [6, 7] (fun v i wr => ∃ (k : Nat) (o : List UInt8), k ≤ xs.length ∧ i = .int .i64 k ∧ Hid (o = joinL h (xs.take k)) ∧ Hid (o.length ≤ 400000) ∧ v = .string ⟨o.toArray⟩ ∧ Below w.heap.size w wr) (fun _ i _ => xs.length - (intOf i).toNat)
  case atStart => exact ⟨0, [], Nat.zero_le _, rfl, Lib.hid rfl, Lib.hid (by simp), rfl, Below.refl _ _⟩
  case round =>
    obtain ⟨k, o, hk, rfl, ho, hol, rfl, hb⟩ := hrel
    by_cases hlt : k < xs.length
    · obtain ⟨b, off, u, rfl, hu, hcell⟩ := (hs.keep hb).at_ (k := k) (by simpa [ints] using hlt)
      obtain ⟨x, hx, rfl⟩ : ∃ x, xs[k]? = some x ∧ .int .i64 (x : Int) = u := by simpa [ints] using hu
      have hxl : x < 4294967296 := HOK.out x (List.mem_of_getElem? hx)
      have HS := Lib.hid (show o ++ joinL h [x] = joinL h (xs.take (k + 1)) by rw [ho.out, ← joinL_snoc, rtake_snoc hx])
      have HN : Hid ((o ++ joinL h [x]).length ≤ 400000) := Lib.hid (by rw [HS.out, joinL_length]; simp; omega)
      have hA : ∀ W : World, (Op.stringOp .add ⟨o.toArray⟩ ⟨(joinL h [x]).toArray⟩).run Tryd.prog W = .ok (.string ⟨(o ++ joinL h [x]).toArray⟩) W := fun W => str_add o _ (by have := HN.out; rw [List.length_append] at this; omega) W
      clear hs hu hx ho hol
      go_wp2_with fail
      refine (rtold_any x h hxl _).mono ?_
      rintro e w1 ⟨rfl, hb1⟩
      have hb2 := hb.next' hb1
      clear hb hb1 hcell
      generalize hq : o ++ joinL h [x] = q at *
      generalize hq1 : joinL h [x] = q1 at *
      clear hq hq1
      go_wp2
      go_roundw
      case rel => exact ⟨k + 1, q, by omega, by go_num, HS, HN, rfl, hb2⟩
      case measure => simp [intOf]; omega
    · go_wp2
      go_ret2
      exact ⟨by rw [ho.out, List.take_of_length_le (by omega)]; rfl, hb⟩
end Go.Proofs.YtelplkidippclaaDoor
