/-
  Merged by program: Tq5, Tq6, Txs, Range, Slices, Tq7, Trf7, Trf8, Trf9, Tq8, Rdr.
-/
import Derived.Test.YtgcohoonhklkbaaDoorM2
import Derived.Test.YtgcohoonhklkbaaDoorM1
import Derived.Lib.Bytes
import Derived.StillTailTactics
import Derived.Deep.QuietTactic
import Derived.BigQuiet
import Derived.RangeFuncNested
import Derived.RangeFuncBound
import Derived.RangeFuncCalls
import Derived.RangeFuncLeaves
import Derived.Shelf.Abstract
import Derived.Shelf.RegionOpen
import Derived.OwnWalkIn
import Derived.TacticsInMore
import Derived.LoopNIn
import Derived.LoopIn
import Derived.OrdersIn

/-
  tree: the contracts of Root, Path (of any texts).
-/
namespace Go.Proofs.YtgcohoonhklkbaaDoor
open Go.RowKit Go.Kx Go.Trm
set_option maxRecDepth 20000

open Classical in
theorem tmay_yes {n : Nat} (hm : mayN n) (A : Option Addr) (c : Nat) (w : World) :
    Calls Tryd.prog 28 #[.slice A n c] w fun e w' => e = .returned (.bool true) ∧ w = w' := tmay_any n (by have := may_pos hm; omega) A c true (by rw [decide_eq_true hm]) w
open Classical in
theorem tmay_no {n : Nat} (hm : ¬ mayN n) (hn : n ≤ 9223372036854775807) (A : Option Addr) (c : Nat) (w : World) :
    Calls Tryd.prog 28 #[.slice A n c] w fun e w' => e = .returned (.bool false) ∧ w = w' := tmay_any n hn A c false (by rw [decide_eq_false hm]) w
open Classical in
/-- What Root answers. -/
noncomputable def rootH (l : List ByteArray) : ByteArray × Int := if mayN l.length then (toB (rootL sumH (txtsL l) l.length.log2), 0) else (⟨#[]⟩, 1)
theorem rootH_yes {l : List ByteArray} {d : Nat} (hd : l.length = 2 ^ d) (h : d ≤ 10) : rootH l = (toB (rootL sumH (txtsL l) d), 0) := by
  rw [rootH, if_pos ⟨d, h, hd⟩, hd, Nat.log2_two_pow]
theorem rootH_no {l : List ByteArray} (h : ¬ mayN l.length) : rootH l = (⟨#[]⟩, 1) := if_neg h
theorem troot_any (HD : DSumH) (l : List ByteArray) (A : Option Addr) (c : Nat) (hz : l.length ≤ 9223372036854775807) (hs : ∀ s ∈ l, s.size ≤ 140737488351232) (r : ByteArray) (k : Int) (hr : rootH l = (r, k)) (w : World) (hK : Consts w) (hA : Sl w A (strsV l)) :
    Calls Tryd.prog 9 #[.slice A l.length c] w fun e w' => e = .returned (.tuple #[.string r, .int .i64 k]) ∧ Below w.heap.size w w' := by
  by_cases hm : mayN l.length
  · obtain ⟨d, hd10, hd⟩ := hm
    have hmay := tmay_yes ⟨d, hd10, hd⟩ A c w
    have hover := over_any HD l d hd hd10 hs A c w hA hK
    rw [rootH_yes hd hd10] at hr
    have hroot := fun v V hv => root_any l d hd hd10 A l.length c v r (Prod.mk.inj hr).1 V hv
    obtain rfl := (Prod.mk.inj hr).2
    clear hd hr hA HD hz hs
    generalize l.length = n at *
    go_enter Tryd.func9, Tryd.ntmps9
    go_wp2_with fail
    refine hmay.mono ?_
    rintro e w ⟨rfl, rfl⟩
    go_wp2_with fail
    refine hover.mono ?_
    rintro e w1 ⟨v, rfl, hat, hb⟩
    have hroot1 := hroot v w1 hat
    clear hroot hover hmay
    go_wp2_with fail
    refine hroot1.mono ?_
    rintro e w2 ⟨rfl, hb2⟩
    go_wp2
    go_ret2
    exact ⟨rfl, hb.next hb2⟩
  · have hmay := tmay_no hm hz A c w
    rw [rootH_no hm] at hr
    obtain rfl := (Prod.mk.inj hr).1
    obtain rfl := (Prod.mk.inj hr).2
    generalize l.length = n at *
    clear hm
    go_enter Tryd.func9, Tryd.ntmps9
    go_wp2_with fail
    refine hmay.mono ?_
    rintro e w ⟨rfl, rfl⟩
    go_wp2
    go_ret2
    exact ⟨rfl, Below.refl _ _⟩

/-! ### Path -/
open Classical in
/-- What Path answers. -/
noncomputable def pathH (l : List ByteArray) (i : Int) : List ByteArray × Int := if mayN l.length ∧ 0 ≤ i ∧ i < l.length then ((pathL sumH (txtsL l) i.toNat l.length.log2).map toB, 0) else ([], 1)
theorem pathH_yes {l : List ByteArray} {d n : Nat} (hd : l.length = 2 ^ d) (h : d ≤ 10) (hn : n < l.length) : pathH l (n : Int) = ((pathL sumH (txtsL l) n d).map toB, 0) := by
  rw [pathH, if_pos ⟨⟨d, h, hd⟩, by omega, by omega⟩, hd, Nat.log2_two_pow, Int.toNat_natCast]
theorem pathH_no {l : List ByteArray} {i : Int} (h : ¬ (mayN l.length ∧ 0 ≤ i ∧ i < l.length)) : pathH l i = ([], 1) := if_neg h
theorem tpath_early (l : List ByteArray) (A : Option Addr) (c : Nat) (hz : l.length ≤ 9223372036854775807) (i : Int) (h : ¬ (mayN l.length ∧ 0 ≤ i ∧ i < l.length)) (w : World) :
    Calls Tryd.prog 11 #[.slice A l.length c, .int .i64 i] w fun e w' => e = .returned (.tuple #[.slice none 0 0, .int .i64 1]) ∧ w' = w := by
  by_cases hm : mayN l.length
  · have hmay := tmay_yes hm A c w
    have h1 : i < 0 ∨ (l.length : Int) ≤ i := by
      by_cases h2 : i < 0
      · exact .inl h2
      · exact .inr (Int.not_lt.1 fun h3 => h ⟨hm, by omega, h3⟩)
    generalize l.length = n at *
    clear h hm
    by_cases h2 : i < 0
    · clear h1
      go_enter Tryd.func11, Tryd.ntmps11
      go_wp2_with fail
      refine hmay.mono ?_
      rintro e w ⟨rfl, rfl⟩
      go_wp2
      go_ret2
      exact ⟨rfl, rfl⟩
    · have h3 : (n : Int) ≤ i := by omega
      clear h1
      go_enter Tryd.func11, Tryd.ntmps11
      go_wp2_with fail
      refine hmay.mono ?_
      rintro e w ⟨rfl, rfl⟩
      go_wp2
      go_ret2
      exact ⟨rfl, rfl⟩
  · have hmay := tmay_no hm hz A c w
    generalize l.length = n at *
    clear h hm
    go_enter Tryd.func11, Tryd.ntmps11
    go_wp2_with fail
    refine hmay.mono ?_
    rintro e w ⟨rfl, rfl⟩
    go_wp2
    go_ret2
    exact ⟨rfl, rfl⟩
theorem xor_fin : ∀ n : Fin 2048, n.1 ^^^ 1 = partN n.1 := by decide +kernel
theorem xor_part {n : Nat} (h : n < 2048) : n ^^^ 1 = partN n := xor_fin ⟨n, h⟩
set_option maxHeartbeats 4000000 in
theorem tpath_any (HD : DSumH) (l : List ByteArray) (A : Option Addr) (c : Nat) (hz : l.length ≤ 9223372036854775807) (hs : ∀ s ∈ l, s.size ≤ 140737488351232) (i : Int) (ps : List ByteArray) (k : Int) (hr : pathH l i = (ps, k)) (w : World) (hK : Consts w) (hA : Sl w A (strsV l)) :
    Calls Tryd.prog 11 #[.slice A l.length c, .int .i64 i] w fun e w' => PathP ps k w e w' := by
  by_cases hm : mayN l.length ∧ 0 ≤ i ∧ i < l.length
  rotate_left
  · rw [pathH_no hm] at hr
    obtain rfl := (Prod.mk.inj hr).1
    obtain rfl := (Prod.mk.inj hr).2
    exact (tpath_early l A c hz i hm w).mono fun e w' ⟨he, hw⟩ => ⟨_, he, World.ownsRow_nil _ _ _ _, hw ▸ Below.refl _ _⟩
  obtain ⟨⟨d, hd10, hd⟩, h2, h3⟩ := hm
  obtain ⟨m, rfl⟩ := Int.eq_ofNat_of_zero_le h2
  have hml : m < l.length := by omega
  have hmay := tmay_yes ⟨d, hd10, hd⟩ A c w
  have hover := over_any HD l d hd hd10 hs A c w hA hK
  rw [pathH_yes hd hd10 hml] at hr
  have hp1 := (Prod.mk.inj hr).1
  obtain rfl := (Prod.mk.inj hr).2
  have hpl : ps.length = d := by rw [← hp1, List.length_map, pathL_length]
  have HPL := Lib.hid hpl
  have HK : Hid (∀ q, q < d → ∃ p x, partN (m / 2 ^ q) = p ∧ p < 2048 ∧ p < (rowH l q).length ∧ (rowH l q).length ≤ 2048 ∧ 1 < (rowH l q).length ∧ (rowH l q)[p]? = some x ∧ ps[q]? = some x) := Lib.hid fun q hq => by
    have h4 := half_lt (n := m) (k := q) (d := d) (by omega) (by omega)
    have h5 : 2 ^ (d - q) = 2 * 2 ^ (d - q - 1) := by rw [← Nat.pow_succ']; congr 1; omega
    have h6 := partN_lt (i := m / 2 ^ q) (h := 2 ^ (d - q - 1)) (by omega)
    have h7 := rowH_length l hd (k := q) (by omega)
    have h8 : 2 ^ (d - q) ≤ 2 ^ 10 := Nat.pow_le_pow_right (by omega) (by omega)
    have h9 : partN (m / 2 ^ q) < (rowH l q).length := by omega
    have h10 := Nat.two_pow_pos (d - q - 1)
    refine ⟨_, (rowH l q)[partN (m / 2 ^ q)], rfl, by omega, h9, by omega, by omega, List.getElem?_eq_getElem h9, ?_⟩
    rw [← hp1, List.getElem?_map, pathL, List.getElem?_map, List.getElem?_range hq]
    simp only [Option.map_some, Option.some.injEq, rowH, List.getElem_map, List.getD]
    rw [List.getElem?_eq_getElem (by rw [rowH, List.length_map] at h9; exact h9)]
    rfl
  have HLAST : Hid ((rowH l d).length = 1) := Lib.hid (by rw [rowH_length l hd (Nat.le_refl _), Nat.sub_self, Nat.pow_zero])
  have hm9 : m < 2048 := by have : 2 ^ d ≤ 2 ^ 10 := Nat.pow_le_pow_right (by omega) hd10; omega
  have hn9 : l.length < 2048 := by have : 2 ^ d ≤ 2 ^ 10 := Nat.pow_le_pow_right (by omega) hd10; omega
  obtain ⟨n, hn⟩ : ∃ n, l.length = n := ⟨_, rfl⟩
  rw [hn] at hmay hover hml hn9 ⊢
  have t1 : ¬ (m : Int) < 0 := by omega
  have t2 : ¬ (n : Int) ≤ (m : Int) := by omega
  clear hn hd hr hA HD hz h2 h3 hp1 hpl hs
  obtain ⟨i0, hI0, hz0, hz1, hz2⟩ := info_parts string_info
  go_enter Tryd.func11, Tryd.ntmps11
  go_wp2_with fail
  refine hmay.mono ?_
  rintro e w ⟨rfl, rfl⟩
  go_wp2_with fail
  refine hover.mono ?_
  rintro e w1 ⟨v, rfl, hat, hb⟩
  clear hmay hover
  obtain ⟨g5, c5, rfl, hg5, hrm⟩ := hat
  obtain ⟨x, hxx⟩ : ∃ x, d + 1 = x := ⟨_, rfl⟩
  rw [hxx]
  have HXX := Lib.hid hxx
  have hxl : x ≤ 11 := by omega
  clear hxx
  have hfd : ∀ w : World, (Instr.field 44 (.agg #[.slice A n c, .slice (some ⟨g5, 0, none⟩) x c5]) 1).run Tryd.prog w = .ok (.slice (some ⟨g5, 0, none⟩) x c5) w := fun _ => by kernel_rfl
  go_wp2
  clear hfd
  go_loopw [1, 6, 26] (fun i v kk wr => ∃ k y q : Nat, k ≤ x ∧ i = .int .i64 (y : Int) ∧ kk = .int .i64 (k : Int) ∧ Hid (y = m / 2 ^ k) ∧ y < 2048 ∧ Hid (q = min k d) ∧ wr.ownsRow w1.heap.size 9 1 v q (strsV (ps.take q)) ∧ Below w1.heap.size w1 wr) (fun _ _ kk _ => x - (intOf kk).toNat)
  case atStart => exact ⟨0, m, 0, by omega, rfl, rfl, Lib.hid (by simp), hm9, Lib.hid (by simp), World.ownsRow_nil _ _ _ _, Below.refl _ _⟩
  case round =>
    obtain ⟨k, y, q, hk, rfl, rfl, hy, hyl, hq, hown, hb1⟩ := hrel
    by_cases hlt : k < x
    · obtain ⟨u, hu, g, c1, rfl, hg, hcs⟩ := hrm k (by have := HXX.out; omega)
      have hc1 := (hb1.cell (p := ⟨g5, k, none⟩) hg5).trans hu
      have HY : Hid (y / 2 = m / 2 ^ (k + 1)) := Lib.hid (by rw [hy.out, Nat.div_div_eq_div_mul, Nat.pow_succ])
      by_cases hkd : k < d
      · obtain rfl : k = q := by have := hq.out; omega
        obtain ⟨p, s, hpp, hp9, hpr, hrl, h1r, hps, hpk⟩ := HK.out k hkd
        have hc3 := (hb1.cell (p := ⟨g, p, none⟩) hg).trans (hcs p s hps)
        obtain ⟨z, hz⟩ : ∃ z, (rowH l k).length = z := ⟨_, rfl⟩
        rw [hz] at hc1 hpr hrl h1r
        have hxor : bits .xor .i64 (y : Int) 1 = (p : Int) := by
          rw [show (1 : Int) = ((1 : Nat) : Int) from rfl, int_xor (by omega) (by omega), xor_part hyl, hy.out, hpp]
        have HSN : Hid (strsV (ps.take k) ++ [Value.string s] = strsV (ps.take (k + 1))) := Lib.hid (strs_snoc _ hpk)
        have hpz : (p : Int) < (z : Int) := by omega
        have hp0 : (0 : Int) ≤ (p : Int) := by omega
        have h1z : (1 : Int) < (z : Int) := by omega
        clear hpp hps hpk hcs hz hu
        go_wp2_with (first
          | (at_builtin; refine wpList_append_own _ rfl _ _ 22 rfl w1.heap.size 9 i0 (.string ⟨#[]⟩) 1 16 Tryd.underlying22 hI0 hz0 hz1 hz2 rfl (by decide) _ _ _ rfl (hown.alloc _) ⟨wr.heap.size, 0, none⟩ 1 1 [.string s] rfl rfl ?c1 ?c2 ?c3 ?c4 ?c5 ?_)
          | go_in)
        case c1 =>
          intro j u hj
          match j, hj with
          | 0, hj => simp at hj; subst hj; simp [Addr.add]
        case c2 => intro u hu; simp at hu; subst hu; rfl
        case c3 => unfold maxLen; omega
        case c4 => omega
        case c5 => have := hb1.size; simp; omega
        intro v' w4 hown' hgrow _
        rw [HSN.out] at hown'
        have hb4 := own_below (hown.alloc (.cells #[.string s] 9)) (hb1.al _) hgrow
        clear hown hgrow hb1
        go_wp2
        go_roundw
        case rel => exact ⟨k + 1, y / 2, k + 1, by omega, by simp, by go_num, HY, by omega, Lib.hid (by omega), hown', hb4⟩
        case measure => simp [intOf]; omega
      · obtain rfl : k = d := by have := HXX.out; omega
        rw [HLAST.out] at hc1
        clear hcs hu
        go_wp2
        go_roundw
        case rel => exact ⟨k + 1, y / 2, q, by omega, by simp, by go_num, HY, by omega, Lib.hid (by have := hq.out; omega), hown, hb1⟩
        case measure => simp [intOf]; omega
    · obtain rfl : k = x := by omega
      obtain rfl : q = d := by have := hq.out; have := HXX.out; omega
      rw [List.take_of_length_le (by rw [HPL.out]; omega)] at hown
      go_wp2
      go_ret2
      exact ⟨_, rfl, by rw [HPL.out]; exact own_mono hown hb.size, hb.next hb1⟩
end Go.Proofs.YtgcohoonhklkbaaDoor

/-
  tree: the contracts of climbed, Climb, Check (of any texts).
-/
namespace Go.Proofs.YtgcohoonhklkbaaDoor
open Go.RowKit Go.Kx Go.Trm
set_option maxRecDepth 20000

/-- The texts of a way, as strings. -/
def waysBH (i : Nat) (s : ByteArray) (path : List ByteArray) : List ByteArray := (waysL sumH i (ofLeafL s.data.toList) (txtsL path)).map toB
theorem waysBH_length (i : Nat) (s : ByteArray) (path : List ByteArray) : (waysBH i s path).length = path.length + 1 := by rw [waysBH, List.length_map, waysL_length, txtsL_length]
/-- The text k of a way. -/
def wayTH (i : Nat) (s : ByteArray) (path : List ByteArray) (k : Nat) : List UInt8 := (waysL sumH i (ofLeafL s.data.toList) (txtsL path)).getD k []
theorem wayTH_zero (i : Nat) (s : ByteArray) (path : List ByteArray) : wayTH i s path 0 = ofLeafL s.data.toList := waysL_zero _ _ _ _
theorem wayTH_succ (i : Nat) (s : ByteArray) (path : List ByteArray) {k : Nat} (h : k < path.length) : wayTH i s path (k + 1) = stepW sumH (i / 2 ^ k) (wayTH i s path k) path[k].data.toList := by
  unfold wayTH
  rw [waysL_get sumH _ _ _ k (by rw [txtsL_length]; exact h), txtsL_get path h]
theorem wayTH_len (i : Nat) (s : ByteArray) (path : List ByteArray) (hs : s.size ≤ 140737488351232) (hp : ∀ p ∈ path, p.size = 32) : ∀ k, k ≤ path.length → (wayTH i s path k).length ≤ 140737488351233
  | 0, _ => by
    rw [wayTH_zero]
    have : s.data.toList.length = s.size := by simp
    simp only [ofLeafL, List.length_cons]
    omega
  | k + 1, hk => by
    rw [wayTH_succ i s path (by omega)]
    have h1 := hp _ (List.getElem_mem (show k < path.length by omega))
    have h2 : path[k].data.toList.length = path[k].size := by simp
    have h3 := sumH_le (wayTH i s path k)
    unfold stepW ofNodeL
    split <;> simp only [List.length_cons, List.length_append] <;> omega
theorem waysBH_take (i : Nat) (s : ByteArray) (path : List ByteArray) {k : Nat} (h : k < path.length + 1) : (waysBH i s path).take (k + 1) = (waysBH i s path).take k ++ [toB (wayTH i s path k)] := by
  have hl := waysBH_length i s path
  rw [List.take_add_one, List.getElem?_eq_getElem (by omega)]
  congr 1
  simp only [Option.toList_some, List.cons.injEq, and_true]
  unfold wayTH
  have h2 : k < (waysL sumH i (ofLeafL s.data.toList) (txtsL path)).length := by rw [waysL_length, txtsL_length]; omega
  simp only [waysBH, List.getElem_map, List.getD, List.getElem?_eq_getElem h2, Option.getD_some]
theorem waysBH_at (i : Nat) (s : ByteArray) (path : List ByteArray) {k : Nat} (h : k < path.length + 1) : (waysBH i s path)[k]? = some (toB (wayTH i s path k)) := by
  have h3 : k < (waysL sumH i (ofLeafL s.data.toList) (txtsL path)).length := by rw [waysL_length, txtsL_length]; omega
  rw [waysBH, List.getElem?_map, List.getElem?_eq_getElem h3, wayTH, List.getD, List.getElem?_eq_getElem h3]
  rfl
/-- What climbed tells. -/
def ClimbedP (n : Nat) (s : ByteArray) (path : List ByteArray) (W : World) (e : Ending) (W' : World) : Prop :=
  ∃ v, e = .returned v ∧ W'.ownsRow W.heap.size 9 1 v (path.length + 1) (strsV (waysBH n s path)) ∧ Below W.heap.size W W'
set_option maxHeartbeats 4000000 in
theorem climbed_any (HD : DSumH) (n : Nat) (hn : n ≤ 1024) (s : ByteArray) (hs : s.size ≤ 140737488351232) (path : List ByteArray) (hp10 : path.length ≤ 10) (hp : ∀ p ∈ path, p.size = 32) (A : Option Addr) (c : Nat) (w : World) (hK : Consts w) (hA : Sl w A (strsV path)) :
    Calls Tryd.prog 40 #[.int .i64 (n : Int), .string s, .slice A path.length c] w fun e w' => ClimbedP n s path w e w' := by
  obtain ⟨q, hq⟩ : ∃ q : ByteArray, ofLeafL s.data.toList = q.data.toList := ⟨toB (ofLeafL s.data.toList), (toB_list _).symm⟩
  have hleaf := leafText_any s q hs hq w
  have hq0 : strsV [q] = strsV ((waysBH n s path).take 1) := by
    rw [show (1 : Nat) = 0 + 1 from rfl, waysBH_take n s path (by omega), wayTH_zero, hq, toB_eq]
    rfl
  have HLEN := Lib.hid (wayTH_len n s path hs hp)
  have HP := Lib.hid hp
  have HDS := Lib.hid HD
  obtain ⟨m, hm⟩ : ∃ m, path.length = m := ⟨_, rfl⟩
  have HM := Lib.hid hm
  have hown0 := own_made1 w w.heap.size q (Nat.le_refl _)
  rw [hq0] at hown0
  have hb0 := Below.alloc0 w (.cells #[.string q] 9)
  obtain ⟨i0, hI0, hz0, hz1, hz2⟩ := info_parts string_info
  rw [hm] at hp10
  clear hq hq0 HD hs hp
  unfold ClimbedP
  rw [hm]
  clear hm
  go_enter Tryd.func40, Tryd.ntmps40
  go_wp2_with fail
  refine hleaf.mono ?_
  rintro e w ⟨rfl, rfl⟩
  clear hleaf
  go_wp2
  go_loopw [7, 17] (fun v kk wr => ∃ k : Nat, k ≤ m ∧ kk = .int .i64 (k : Int) ∧ wr.ownsRow w.heap.size 9 1 v (k + 1) (strsV ((waysBH n s path).take (k + 1))) ∧ Below w.heap.size w wr) (fun _ kk _ => m - (intOf kk).toNat)
  case atStart => exact ⟨0, by omega, rfl, hown0, hb0⟩
  case round =>
    clear hown0 hb0
    obtain ⟨k, hk, rfl, hown, hb⟩ := hrel
    by_cases hlt : k < m
    · obtain ⟨b, off, hAe, hcp⟩ := sl_strV (hA.keep hb) (k := k) (by rw [HM.out]; exact hlt)
      subst hAe
      obtain ⟨p, hp⟩ : ∃ p, path[k]'(by rw [HM.out]; exact hlt) = p := ⟨_, rfl⟩
      rw [hp] at hcp
      have hp32 : p.size = 32 := by rw [← hp]; exact HP.out _ (List.getElem_mem _)
      obtain ⟨g, c2, rfl, hg, hcl, hll, hco⟩ := own_join hown (by omega)
      obtain ⟨t, ht⟩ : ∃ t : ByteArray, wayTH n s path k = t.data.toList := ⟨toB (wayTH n s path k), (toB_list _).symm⟩
      have hct := hco k t (by rw [List.getElem?_take, if_pos (by omega), waysBH_at n s path (by rw [HM.out]; omega), ht, toB_eq])
      rw [Nat.zero_add] at hct
      obtain ⟨z, hz⟩ : ∃ z : ByteArray, sumH t.data.toList = z.data.toList := ⟨toB (sumH t.data.toList), (toB_list _).symm⟩
      have htz : t.size ≤ 140737488351233 := by
        have h := HLEN.out k (by rw [HM.out]; omega)
        rw [ht] at h
        simpa using h
      have hzz : z.size ≤ 32 := by
        have h := sumH_le t.data.toList
        rw [hz] at h
        simpa using h
      have hsum := HDS.out t z (by omega) hz wr (hK.keep hb)
      obtain ⟨y, hy⟩ : ∃ y : ByteArray, stepW sumH (n / 2 ^ k) t.data.toList p.data.toList = y.data.toList := ⟨toB (stepW sumH (n / 2 ^ k) t.data.toList p.data.toList), (toB_list _).symm⟩
      have HSN : Hid (strsV ((waysBH n s path).take (k + 1)) ++ [Value.string y] = strsV ((waysBH n s path).take (k + 1 + 1))) := Lib.hid (strs_snoc _ (by
        rw [waysBH_at n s path (k := k + 1) (by rw [HM.out]; omega), wayTH_succ n s path (by rw [HM.out]; exact hlt), ht, hp, hy, toB_eq]))
      unfold stepW at hy
      rw [hz] at hy
      obtain ⟨x, hx⟩ : ∃ x, n / 2 ^ k = x := ⟨_, rfl⟩
      have hxI : (n : Int) / 2 ^ k = (x : Int) := by rw [← hx]; push_cast; rfl
      have hxl : x ≤ 1024 := by rw [← hx]; exact Nat.le_trans (Nat.div_le_self _ _) hn
      rw [hx] at hy
      clear hp ht hz hco hll hcl hx hn
      by_cases h2 : x % 2 = 0
      · have hem : ((x : Int) % 2 == 1) = false := by rw [beq_eq_false_iff_ne]; omega
        have htm : ((x : Int).tmod 2 == 1) = false := by rw [Int.tmod_eq_emod_of_nonneg (by omega)]; exact hem
        rw [if_pos h2] at hy
        have hnode := nodeText_any z p y (by omega) (by omega) hy
        clear hy h2
        go_wp2_with fail
        refine hsum.mono ?_
        rintro e w2 ⟨rfl, hs2⟩
        have hown2 := own_keep hown hs2
        have hb2 := hb.next hs2
        clear hsum hown hs2 hcp hct hb
        go_wp2_with fail
        refine (hnode w2).mono ?_
        rintro e w2 ⟨rfl, rfl⟩
        go_wp2_with (first
          | (at_builtin; refine wpList_append_own _ rfl _ _ 22 rfl w.heap.size 9 i0 (.string ⟨#[]⟩) 1 16 Tryd.underlying22 hI0 hz0 hz1 hz2 rfl (by decide) _ _ _ rfl (hown2.alloc _) ⟨w2.heap.size, 0, none⟩ 1 1 [.string y] rfl rfl ?c1 ?c2 ?c3 ?c4 ?c5 ?_)
          | go_in)
        case c1 =>
          intro j u hj
          match j, hj with
          | 0, hj => simp at hj; subst hj; simp [Addr.add]
        case c2 => intro u hu; simp at hu; subst hu; rfl
        case c3 => unfold maxLen; omega
        case c4 => omega
        case c5 => have := hb2.size; simp; omega
        intro v' w4 hown' hgrow _
        rw [HSN.out] at hown'
        have hb4 := own_below (hown2.alloc (.cells #[.string y] 9)) (hb2.al _) hgrow
        clear hown2 hgrow hb2 hnode
        go_wp2
        go_roundw
        case rel => exact ⟨k + 1, by omega, by go_num, hown', hb4⟩
        case measure => simp [intOf]; omega
      · have hem : ((x : Int) % 2 == 1) = true := by rw [beq_iff_eq]; omega
        have htm : ((x : Int).tmod 2 == 1) = true := by rw [Int.tmod_eq_emod_of_nonneg (by omega)]; exact hem
        rw [if_neg h2] at hy
        have hnode := nodeText_any p z y (by omega) (by omega) hy
        clear hy h2
        go_wp2_with fail
        refine hsum.mono ?_
        rintro e w2 ⟨rfl, hs2⟩
        have hown2 := own_keep hown hs2
        have hb2 := hb.next hs2
        clear hsum hown hs2 hcp hct hb
        go_wp2_with fail
        refine (hnode w2).mono ?_
        rintro e w2 ⟨rfl, rfl⟩
        go_wp2_with (first
          | (at_builtin; refine wpList_append_own _ rfl _ _ 22 rfl w.heap.size 9 i0 (.string ⟨#[]⟩) 1 16 Tryd.underlying22 hI0 hz0 hz1 hz2 rfl (by decide) _ _ _ rfl (hown2.alloc _) ⟨w2.heap.size, 0, none⟩ 1 1 [.string y] rfl rfl ?c1 ?c2 ?c3 ?c4 ?c5 ?_)
          | go_in)
        case c1 =>
          intro j u hj
          match j, hj with
          | 0, hj => simp at hj; subst hj; simp [Addr.add]
        case c2 => intro u hu; simp at hu; subst hu; rfl
        case c3 => unfold maxLen; omega
        case c4 => omega
        case c5 => have := hb2.size; simp; omega
        intro v' w4 hown' hgrow _
        rw [HSN.out] at hown'
        have hb4 := own_below (hown2.alloc (.cells #[.string y] 9)) (hb2.al _) hgrow
        clear hown2 hgrow hb2 hnode
        go_wp2
        go_roundw
        case rel => exact ⟨k + 1, by omega, by go_num, hown', hb4⟩
        case measure => simp [intOf]; omega
    · obtain rfl : k = m := by omega
      rw [List.take_of_length_le (by rw [waysBH_length, HM.out]; omega)] at hown
      go_wp2
      go_ret
      exact ⟨_, rfl, hown, hb⟩

/-! ### Climb -/
open Classical in
/-- What Climb answers. -/
noncomputable def climbH (i : Int) (s : ByteArray) (path : List ByteArray) : ByteArray × Int :=
  if wayOk i path then (toB (climbL sumH i.toNat (ofLeafL s.data.toList) (txtsL path)), 0) else (⟨#[]⟩, 1)
theorem climbH_yes {i : Int} {s : ByteArray} {path : List ByteArray} (h : wayOk i path) : climbH i s path = (toB (climbL sumH i.toNat (ofLeafL s.data.toList) (txtsL path)), 0) := if_pos h
theorem climbH_no {i : Int} {s : ByteArray} {path : List ByteArray} (h : ¬ wayOk i path) : climbH i s path = (⟨#[]⟩, 1) := if_neg h
theorem climbH_wayT (n : Nat) (s : ByteArray) (path : List ByteArray) : climbL sumH n (ofLeafL s.data.toList) (txtsL path) = sumH (wayTH n s path path.length) := by
  rw [climbL_last, txtsL_length]
  rfl
set_option maxHeartbeats 2000000 in
theorem tclimb_any (HD : DSumH) (i : Int) (s : ByteArray) (hs : s.size ≤ 140737488351232) (path : List ByteArray) (A : Option Addr) (c : Nat) (hz : path.length ≤ 9223372036854775807) (r : ByteArray) (k : Int) (hr : climbH i s path = (r, k)) (w : World) (hK : Consts w) (hA : Sl w A (strsV path)) :
    Calls Tryd.prog 19 #[.int .i64 i, .string s, .slice A path.length c] w fun e w' => e = .returned (.tuple #[.string r, .int .i64 k]) ∧ Below w.heap.size w w' := by
  by_cases h10 : path.length ≤ 10
  rotate_left
  · rw [climbH_no fun h => h10 h.1] at hr
    obtain rfl := (Prod.mk.inj hr).1
    obtain rfl := (Prod.mk.inj hr).2
    have t1 : (10 : Int) < (path.length : Int) := by omega
    clear h10 hr hA
    generalize path.length = m at *
    go_enter Tryd.func19, Tryd.ntmps19
    go_wp2
    go_ret2
    exact ⟨rfl, Below.refl _ _⟩
  have t1 : ¬ (10 : Int) < (path.length : Int) := by omega
  by_cases hi0 : i < 0
  · rw [climbH_no fun h => absurd h.2.1 (by omega)] at hr
    obtain rfl := (Prod.mk.inj hr).1
    obtain rfl := (Prod.mk.inj hr).2
    clear hr hA
    generalize path.length = m at *
    go_enter Tryd.func19, Tryd.ntmps19
    go_wp2
    go_ret2
    exact ⟨rfl, Below.refl _ _⟩
  obtain ⟨n, rfl⟩ := Int.eq_ofNat_of_zero_le (Int.not_lt.1 hi0)
  obtain ⟨x, hx⟩ : ∃ x : Nat, 2 ^ path.length = x := ⟨_, rfl⟩
  have hxI : (2 : Int) ^ path.length = (x : Int) := by rw [← hx]; push_cast; rfl
  have hx10 : x ≤ 1024 := by rw [← hx]; have : 2 ^ path.length ≤ 2 ^ 10 := Nat.pow_le_pow_right (by omega) h10; omega
  by_cases hix : (x : Int) ≤ (n : Int)
  · rw [climbH_no fun h => absurd h.2.2.1 (by omega)] at hr
    obtain rfl := (Prod.mk.inj hr).1
    obtain rfl := (Prod.mk.inj hr).2
    clear hr hA hx
    generalize path.length = m at *
    go_enter Tryd.func19, Tryd.ntmps19
    go_wp2
    go_ret2
    exact ⟨rfl, Below.refl _ _⟩
  by_cases hall : ∀ p ∈ path, p.size = 32
  rotate_left
  · have har := areDigests_any path A c hz false (by rw [decide_eq_false hall]) w hA
    rw [climbH_no fun h => hall h.2.2.2] at hr
    obtain rfl := (Prod.mk.inj hr).1
    obtain rfl := (Prod.mk.inj hr).2
    clear hr hA hx hall
    generalize path.length = m at *
    go_enter Tryd.func19, Tryd.ntmps19
    go_wp2_with fail
    refine har.mono ?_
    rintro e w ⟨rfl, rfl⟩
    go_wp2
    go_ret2
    exact ⟨rfl, Below.refl _ _⟩
  have har := areDigests_any path A c hz true (by rw [decide_eq_true hall]) w hA
  have hok : wayOk (n : Int) path := ⟨h10, by omega, by rw [hxI]; omega, hall⟩
  have hcl := climbed_any HD n (by omega) s hs path h10 hall A c w hK hA
  unfold ClimbedP at hcl
  rw [climbH_yes hok, Int.toNat_natCast, climbH_wayT] at hr
  have hr1 := (Prod.mk.inj hr).1
  obtain rfl := (Prod.mk.inj hr).2
  obtain ⟨t, ht⟩ : ∃ t : ByteArray, wayTH n s path path.length = t.data.toList := ⟨toB (wayTH n s path path.length), (toB_list _).symm⟩
  have htz : t.size ≤ 140737488351233 := by
    have h := wayTH_len n s path hs hall path.length (Nat.le_refl _)
    rw [ht] at h
    simpa using h
  have HAT := Lib.hid (waysBH_at n s path (k := path.length) (by omega))
  rw [ht, toB_eq] at HAT
  have hsum := fun V hV => HD t r (by omega) (by rw [← hr1, toB_list, ht]) V hV
  have hKK := Lib.hid hK
  clear hr hA hx hall hok hr1 ht HD hs
  generalize path.length = m at *
  go_enter Tryd.func19, Tryd.ntmps19
  go_wp2_with fail
  refine har.mono ?_
  rintro e w ⟨rfl, rfl⟩
  go_wp2_with fail
  refine hcl.mono ?_
  rintro e w1 ⟨v, rfl, hown, hb⟩
  obtain ⟨g, c2, rfl, hg, hc2, hll, hco⟩ := own_join hown (by omega)
  have hct := hco m t HAT.out
  rw [Nat.zero_add] at hct
  have hsum1 := hsum w1 (hKK.out.keep hb)
  clear har hcl hown hll hco hsum hc2
  go_wp2_with fail
  refine hsum1.mono ?_
  rintro e w2 ⟨rfl, hb2⟩
  clear hct
  go_wp2
  go_ret2
  exact ⟨rfl, hb.next hb2⟩
theorem tcheck_any (HD : DSumH) (root : ByteArray) (i : Int) (s : ByteArray) (hs : s.size ≤ 140737488351232) (path : List ByteArray) (A : Option Addr) (c : Nat) (hz : path.length ≤ 9223372036854775807) (r : ByteArray) (k : Int) (hr : climbH i s path = (r, k)) (b : Bool) (hbb : b = (decide (k = 0) && decide (r = root))) (w : World) (hK : Consts w) (hA : Sl w A (strsV path)) :
    Calls Tryd.prog 21 #[.string root, .int .i64 i, .string s, .slice A path.length c] w fun e w' => e = .returned (.bool b) ∧ Below w.heap.size w w' := by
  have hclimb := tclimb_any HD i s hs path A c hz r k hr w hK hA
  have HB := Lib.hid hbb
  clear hbb hA HD hz hs
  have HK : k = 0 ∨ k = 1 := by
    have h := hr
    unfold climbH at h
    split at h
    · exact .inl (Prod.mk.inj h).2.symm
    · exact .inr (Prod.mk.inj h).2.symm
  clear hr
  generalize path.length = m at *
  rcases HK with rfl | rfl
  · go_enter Tryd.func21, Tryd.ntmps21
    go_wp2_with fail
    refine hclimb.mono ?_
    rintro e w1 ⟨rfl, hb⟩
    go_wp2
    go_ret
    exact ⟨ret_bool (by rw [HB.out, eq_str]; rfl), hb⟩
  · go_enter Tryd.func21, Tryd.ntmps21
    go_wp2_with fail
    refine hclimb.mono ?_
    rintro e w1 ⟨rfl, hb⟩
    go_wp2
    go_ret
    exact ⟨ret_bool (by rw [HB.out]; rfl), hb⟩
end Go.Proofs.YtgcohoonhklkbaaDoor

/-
  keyholeref01.Texts, keyholeref01.Own, keyholeref11.Big: the contracts.
-/
namespace Go.Proofs.YtgcohoonhklkbaaDoor
open Go.RowKit Go.Kx
set_option maxRecDepth 20000

theorem str_eq (a b : ByteArray) : (a.toList == b.toList) = decide (a = b) := by
  rw [Lib.toList_data, Lib.toList_data]
  by_cases h : a = b
  · rw [h]; simp
  · rw [decide_eq_false h, beq_eq_false_iff_ne]
    exact fun e => h (ByteArray.ext (Array.toList_inj.1 e))
theorem takeB_eq {xs ys : List ByteArray} {k : Nat} {x : ByteArray} (hx : xs[k]? = some x) (hy : ys[k]? = some x) (h : xs.take k = ys.take k) : xs.take (k + 1) = ys.take (k + 1) := by
  rw [List.take_add_one, List.take_add_one, h, hx, hy]
theorem texts_any (A B : Option Addr) (c d : Nat) (xs ys : List ByteArray) (w : World) (hx : xs.length ≤ 1000000) (b : Bool) (hb : b = decide (xs = ys)) (hA : Sl w A (strsV xs)) (hB : Sl w B (strsV ys)) :
    Calls Tryd.prog 13 #[.slice A xs.length c, .slice B ys.length d] w fun e w' => e = .returned (.bool b) ∧ ∃ n, w' = w.drewN n := by
  have HB := Lib.hid hb
  clear hb
  by_cases hl : xs.length = ys.length
  · have HL := Lib.hid hl
    have hne : ((xs.length : Int) != (ys.length : Int)) = false := by simp [hl]
    have HSA := Lib.hid hA
    have HSB := Lib.hid hB
    obtain ⟨n, hn⟩ : ∃ n, xs.length = n := ⟨_, rfl⟩
    obtain ⟨m, hm⟩ : ∃ m, ys.length = m := ⟨_, rfl⟩
    have HN := Lib.hid hn
    have HM := Lib.hid hm
    have hnm : m = n := by omega
    have hm6 : m ≤ 1000000 := by omega
    rw [hn, hm] at hne ⊢
    subst hnm
    clear hl hn hm hA hB
    go_enter Tryd.func13, Tryd.ntmps13
    go_wp2
    go_loopw [5] (fun i wr => ∃ k q : Nat, k ≤ m ∧ i = .int .i64 (k : Int) ∧ wr = w.drewN q ∧ xs.take k = ys.take k) (fun i _ => m - (intOf i).toNat)
    case atStart => exact ⟨0, 0, Nat.zero_le _, rfl, rfl, rfl⟩
    case round =>
      obtain ⟨k, q, hk, rfl, rfl, ht⟩ := hrel
      have HT := Lib.hid ht
      clear ht
      by_cases hlt : k < m
      · have hkx : k < xs.length := by rw [HN.out]; exact hlt
        have hky : k < ys.length := by rw [HM.out]; exact hlt
        obtain ⟨b1, o1, rfl, hc1⟩ := sl_strV HSA.out hkx
        obtain ⟨b2, o2, rfl, hc2⟩ := sl_strV HSB.out hky
        obtain ⟨x, hx1⟩ : ∃ x, xs[k] = x := ⟨_, rfl⟩
        obtain ⟨y, hy1⟩ : ∃ y, ys[k] = y := ⟨_, rfl⟩
        rw [hx1] at hc1
        rw [hy1] at hc2
        have e1 : Hid (xs[k]? = some x) := Lib.hid (by rw [List.getElem?_eq_getElem hkx, hx1])
        have e2 : Hid (ys[k]? = some y) := Lib.hid (by rw [List.getElem?_eq_getElem hky, hy1])
        have hk1 : (k : Int) < (m : Int) := by omega
        clear hkx hky hx1 hy1
        by_cases hxy : x = y
        · subst hxy
          have HE : Hid (xs.take (k + 1) = ys.take (k + 1)) := Lib.hid (takeB_eq e1.out e2.out HT.out)
          go_wp2
          go_quiet (fail)
          go_wp2
          go_roundw
          case rel => exact ⟨k + 1, _, by omega, by go_num, rfl, HE.out⟩
          case measure => simp [intOf]; omega
        · have hbq : (x.toList == y.toList) = false := by rw [str_eq, decide_eq_false hxy]
          have HF : Hid (b = false) := Lib.hid (by
            rw [HB.out, decide_eq_false]
            rintro rfl
            have := e1.out
            rw [e2.out] at this
            exact hxy (Option.some.inj this).symm)
          clear hxy
          go_wp2
          go_quiet (fail)
          go_wp2
          go_ret
          exact ⟨ret_bool HF.out.symm, _, World.drewN_drewN _ _ _⟩
      · obtain rfl : k = m := by omega
        have HF : Hid (b = true) := Lib.hid (by
          have h := HT.out
          rw [List.take_of_length_le (by rw [HN.out]; omega), List.take_of_length_le (by rw [HM.out]; omega)] at h
          rw [HB.out, decide_eq_true h])
        go_wp2
        go_ret
        exact ⟨ret_bool HF.out.symm, _, rfl⟩
  · have hne : ((xs.length : Int) != (ys.length : Int)) = true := by rw [bne_iff_ne]; omega
    have HF : Hid (b = false) := Lib.hid (by rw [HB.out, decide_eq_false]; rintro rfl; exact hl rfl)
    go_enter Tryd.func13, Tryd.ntmps13
    go_wp2
    go_ret
    exact ⟨ret_bool HF.out.symm, 0, rfl⟩

/-! ### Big -/
/-- Are texts more than are looked at? -/
def bigN (l : List ByteArray) : Prop := (16 < l.length ∧ l.length ≤ 1024) ∨ 1100 < l.length ∨ ∃ s ∈ l, 200 < s.size
theorem rbig_any (l : List ByteArray) (hz : l.length ≤ 9223372036854775807) (hs : ∀ s ∈ l, s.size ≤ 9223372036854775807) (A : Option Addr) (c : Nat) (w : World) (hA : Sl w A (strsV l)) :
    Calls Tryd.prog 7 #[.slice A l.length c] w fun e w' => ((bigN l ∧ e = .returned (.bool true)) ∨ (¬ bigN l ∧ e = .returned (.bool false))) ∧ w' = w := by
  have HSA := Lib.hid hA
  have HS := Lib.hid hs
  obtain ⟨n, hn⟩ : ∃ n, l.length = n := ⟨_, rfl⟩
  have HN := Lib.hid hn
  rw [hn] at hz ⊢
  clear hn hA hs
  have HYES : Hid (((16 < n ∧ n ≤ 1024) ∨ 1100 < n) → bigN l) := Lib.hid fun h => by
    rw [← HN.out] at h
    rcases h with h | h
    · exact .inl h
    · exact .inr (.inl h)
  by_cases h1 : 1100 < n
  · have HB := Lib.hid (HYES.out (.inr h1))
    have t1 : (16 : Int) < (n : Int) := by omega
    have t2 : ¬ (n : Int) ≤ 1024 := by omega
    have t3 : (1100 : Int) < (n : Int) := by omega
    go_enter Tryd.func7, Tryd.ntmps7
    go_wp2
    go_ret
    exact ⟨.inl ⟨HB.out, rfl⟩, rfl⟩
  · by_cases h2 : 16 < n ∧ n ≤ 1024
    · have HB := Lib.hid (HYES.out (.inl h2))
      have t1 : (16 : Int) < (n : Int) := by omega
      have t2 : (n : Int) ≤ 1024 := by omega
      clear h2
      go_enter Tryd.func7, Tryd.ntmps7
      go_wp2
      go_ret
      exact ⟨.inl ⟨HB.out, rfl⟩, rfl⟩
    · have HNO : Hid ((∀ k, (hk : k < l.length) → l[k].size ≤ 200) → ¬ bigN l) := Lib.hid fun h3 h4 => by
        rcases h4 with h5 | h5 | ⟨s, hs, h5⟩
        · rw [HN.out] at h5; exact h2 h5
        · rw [HN.out] at h5; exact h1 h5
        · obtain ⟨k, hk, rfl⟩ := List.getElem_of_mem hs
          have := h3 k hk
          omega
      have t3 : ¬ (1100 : Int) < (n : Int) := by omega
      rcases (by omega : n ≤ 16 ∨ (16 < n ∧ 1024 < n)) with t | t
      all_goals
        first
          | have t1 : ¬ (16 : Int) < (n : Int) := by omega
          | (have t1 : (16 : Int) < (n : Int) := by omega
             have t2 : ¬ (n : Int) ≤ 1024 := by omega)
        clear t h2 HYES
        go_enter Tryd.func7, Tryd.ntmps7
        go_wp2
        go_loopw [3] (fun i wr => ∃ k : Nat, k ≤ n ∧ i = .int .i64 (k : Int) ∧ wr = w ∧ Hid (∀ j, (hj : j < l.length) → j < k → l[j].size ≤ 200)) (fun i _ => n - (intOf i).toNat)
        case atStart => exact ⟨0, Nat.zero_le _, rfl, rfl, Lib.hid fun j _ h => by omega⟩
        case round =>
          obtain ⟨k, hk, rfl, rfl, ha⟩ := hrel
          by_cases hlt : k < n
          · have hkl : k < l.length := by rw [HN.out]; exact hlt
            obtain ⟨b1, o1, rfl, hc1⟩ := sl_strV HSA.out hkl
            obtain ⟨x, hx1⟩ : ∃ x, l[k] = x := ⟨_, rfl⟩
            have hxz : x.size ≤ 9223372036854775807 := by rw [← hx1]; exact HS.out _ (List.getElem_mem _)
            rw [hx1] at hc1
            by_cases hx : 200 < x.size
            · have HB : Hid (bigN l) := Lib.hid (.inr (.inr ⟨x, by rw [← hx1]; exact List.getElem_mem _, hx⟩))
              have t5 : (200 : Int) < (x.size : Int) := by omega
              clear hx1
              go_wp2
              go_ret
              exact ⟨.inl ⟨HB.out, rfl⟩, rfl⟩
            · have HA : Hid (∀ j, (hj : j < l.length) → j < k + 1 → l[j].size ≤ 200) := Lib.hid fun j hj hjk => by
                rcases (by omega : j < k ∨ j = k) with h | rfl
                · exact ha.out j hj h
                · rw [hx1]; omega
              have t5 : ¬ (200 : Int) < (x.size : Int) := by omega
              clear hx1
              go_wp2
              go_roundw
              case rel => exact ⟨k + 1, by omega, by go_num, trivial, HA⟩
              case measure => simp [intOf]; omega
          · obtain rfl : k = n := by omega
            have HB : Hid (¬ bigN l) := Lib.hid (HNO.out fun j hj => ha.out j hj (by rw [← HN.out]; exact hj))
            go_wp2
            go_ret
            exact ⟨.inr ⟨HB.out, rfl⟩, rfl⟩

/-! ### Own -/
theorem own_texts (l : List ByteArray) (hz : l.length ≤ 1000000) (A : Option Addr) (c : Nat) (w : World) (hA : Sl w A (strsV l)) :
    Calls Tryd.prog 8 #[.slice A l.length c] w fun e w' => ∃ v, e = .returned v ∧ w'.ownsRow w.heap.size 9 1 v l.length (strsV l) ∧ Below w.heap.size w w' := by
  obtain ⟨i0, hI0, hz0, hz1, hz2⟩ := info_parts string_info
  rcases Nat.eq_zero_or_pos l.length with h0 | h0
  · have hl : l = [] := List.eq_nil_of_length_eq_zero h0
    subst hl
    rw [List.length_nil]
    rcases A with _ | a
    all_goals
      go_enter Tryd.func8, Tryd.ntmps8
      go_wp2
      go_ret
      exact ⟨_, rfl, World.ownsRow_nil _ _ _ _, Below.refl _ _⟩
  · obtain ⟨b, off, u, rfl, -, -⟩ := hA.at_ (k := 0) (by rw [strsV_length]; exact h0)
    have hcells : ∀ (j : Nat) u, (strsV l)[j]? = some u → w.cell? ((⟨b, off, none⟩ : Addr).add j) = some u := fun j u hu => by
      rcases hA with h | ⟨b', off', e, _, hc⟩
      · rw [h] at hu; cases hu
      · obtain ⟨rfl, rfl⟩ : b = b' ∧ off = off' := by simpa using e
        rw [show (⟨b, off, none⟩ : Addr).add j = ⟨b, off + j, none⟩ by unfold Addr.add; split <;> simp_all]
        exact hc j u hu
    have HC := Lib.hid hcells
    have hlen : (strsV l).length = l.length * 1 := by rw [strsV_length, Nat.mul_one]
    have HLEN := Lib.hid hlen
    clear hcells hA hlen
    go_enter Tryd.func8, Tryd.ntmps8
    go_wp2_with (first
      | (at_builtin; refine wpList_append_own _ rfl _ _ 22 rfl w.heap.size 9 i0 (.string ⟨#[]⟩) 1 16 Tryd.underlying22 hI0 hz0 hz1 hz2 rfl (by decide) _ 0 [] rfl (World.ownsRow_nil _ _ _ _) ⟨b, off, none⟩ l.length c (strsV l) rfl HLEN.out ?c1 ?c2 ?c3 ?c4 ?c5 ?_)
      | go_in)
    case c1 => exact HC.out
    case c2 => exact strsV_cell
    case c3 => unfold maxLen; omega
    case c4 => omega
    case c5 => exact Nat.le_refl _
    intro v' w4 hown' hgrow _
    have hb4 := own_below (World.ownsRow_nil w w.heap.size 9 1) (Below.refl _ _) hgrow
    clear hgrow
    go_wp2
    go_ret
    exact ⟨_, rfl, hown', hb4⟩
end Go.Proofs.YtgcohoonhklkbaaDoor

/-
  A range over a function whose iterator keeps a state of its own in one cell (block B): the iterator's word, and the loop's law, for a body that never leaves.
-/
namespace Go.Kx
open Go Go.RowKit

/-- The iterator's word. J: what the loop knows when the texts so far have come; J minds no store into block B. A round keeps the blocks that 'keep' names. -/
def SeqCell {α : Type} (F : Fence) (n : Nat) (P : Program) (g : Nat) (lb : Array Value) (encs : α → Array Value) (B : Nat) (keep : Nat → Prop) (xs : List α) (w : World) : Prop :=
  ∀ (l : Nat) (J : List α → World → Prop) (W : World), Below w.heap.size w W → (∀ s A v, J s A → J s (A.setCell ⟨B, 0, none⟩ v)) →
    (∀ pre x W1, pre ++ [x] <+: xs → J pre W1 → YieldAt F (n - 1) P l (encs x) W1 fun e W' => e = .returned (.bool true) ∧ J (pre ++ [x]) W' ∧ (∀ k, keep k → W'.heap[k]? = W1.heap[k]?)) →
    J [] W →
    CallsIn F n P g (#[.func (.yield l) #[] #[]] ++ lb) W fun e W' => (∃ v, e = .returned v) ∧ J xs W'

variable {F : Fence} {n : Nat} {P : Program}

theorem cell_of_heap {W W' : World} {b : Nat} (h : W'.heap[b]? = W.heap[b]?) (o : Nat) : W'.cell? ⟨b, o, none⟩ = W.cell? ⟨b, o, none⟩ := by simp [World.cell?, h]
theorem frozen_of_heap {W W' : World} {b : Nat} (h : W'.heap[b]? = W.heap[b]?) (o : Nat) : W'.frozen? ⟨b, o, none⟩ = W.frozen? ⟨b, o, none⟩ := by simp [World.frozen?, h]
theorem others_of_below {W W' : World} (h : Below W.heap.size W W') : KeepsOthers W W' :=
  ⟨h.size, fun k _ hk _ => (h.block k (Array.getElem?_eq_some_iff.1 hk).1).trans hk⟩

theorem wpIn_range_cell {α : Type} {g : Operand} {ps : Array Tmp} {assign body : Code} {Q : Exit → Act → World → Prop} {a : Act} {w : World}
    (hro : F.round = none) (h1 : 1 ≤ n) {gf : Nat} {lb : Array Value} (hg : a.eval g = .func (.func gf) #[] lb) (hFg : F.fn gf) (eg : ∀ args w, (callFunc gf args).run P w = .ok (.enter gf args) w)
    {encs : α → Array Value} {B : Nat} {keep : Nat → Prop} {xs : List α} (hB : B < w.heap.size) (hkp : ∀ k, keep k → k < w.heap.size) (hseq : SeqCell F (n - 1) P gf lb encs B keep xs w) (hps : ∀ x, (encs x).size = ps.size)
    (I : List α → World → Prop) (hIs : ∀ s A v, I s A → I s (A.setCell ⟨B, 0, none⟩ v)) (hIn : ∀ s A A', I s A → Below w.heap.size A A' → I s A') (h0 : I [] w) (a₁ : α → Act)
    (hassign : ∀ (l : Nat) (x : α) (W : World) (K : Act → World → Prop), K (a₁ x) W →
      assign.wpIn (F.inRound l) (n - 1 - 1) P (Exit.then K (fun _ _ _ => False)) { tmps := (ps.zip (encs x)).foldl (fun t (p, v) => t.setIfInBounds p v) a.tmps, defers := [] } W)
    (hbody : ∀ (l : Nat) (pre : List α) (x : α) (W : World), pre ++ [x] <+: xs → I pre W →
      body.wpIn (F.inRound l) (n - 1 - 1) P (fun e _ W' => match e with | .normal => KeepsOthers W W' ∧ (∀ k, keep k → W'.heap[k]? = W.heap[k]?) ∧ I (pre ++ [x]) W' | _ => False) (a₁ x) W)
    (hdone : ∀ (D : Nat) (W : World), w.heap.size ≤ D → I xs W → W.heap[D]? = some (.deferred (some [])) → Q .normal { a with defers := { target := .collected D, args := #[] } :: a.defers } W) :
    (Code.rangeFunc g ps assign body).wpIn F n P Q a w := by
  refine wpIn_rangeFunc ?_
  intro fn hfn
  rw [hro]
  -- the two blocks of book-keeping: D for deferred calls, D + 1 for the loop's record
  obtain ⟨D, hD⟩ : ∃ D, D = w.heap.size := ⟨_, rfl⟩
  obtain ⟨rec, hrec⟩ : ∃ rec : LoopState → Loop, rec = fun st => { state := st, pending := none, fn, tmps := a.tmps, params := ps, assign, body, defers := D } := ⟨_, rfl⟩
  obtain ⟨V, hV⟩ : ∃ V, (w.alloc (.deferred (some []))).alloc (.loop (rec .ready)) = V := ⟨_, rfl⟩
  have hsV : V.heap.size = D + 1 + 1 := by rw [← hV, hD]; simp
  have hbV : Below D w V := by rw [← hV, hD]; exact ((Below.refl _ w).alloc (Nat.le_refl _) _).alloc (by simp) _
  have hl0 : V.heap[D + 1]? = some (.loop (rec .ready)) := by
    have := World.alloc_heap_new (w.alloc (.deferred (some []))) (.loop (rec .ready))
    rw [World.size_alloc, ← hD, hV] at this
    exact this
  have hd0 : V.heap[D]? = some (.deferred (some [])) := by
    rw [← hV, hD]; exact (Below.heap_alloc _ _ _ (by simp)).trans (World.alloc_heap_new w _)
  have hput : ∀ (A : World) (l : Nat) (o o' : Obj), A.heap[l]? = some o → D ≤ l → Below D A (A.putObj l o') := fun A l o o' hl hDl =>
    (Below.refl D A).grown (grownBy_putObj' A l o') (by have := (Array.getElem?_eq_some_iff.1 hl).1; omega) (fun k e => by cases e; omega)
  have hI0 : I [] V := hIn _ _ _ h0 (by rw [← hD]; exact hbV)
  refine ⟨D + 1, [{ target := .collected D, args := #[] }], V, { target := .fn (.func gf) lb, args := #[.func (.yield (D + 1)) #[] #[]] }, V, gf, #[.func (.yield (D + 1)) #[] #[]] ++ lb, V, ?_, ?_, ?_, ?_, fun _ => h1, ?_⟩
  · rw [← hV, hrec, hD]; exact run_enterLoop_outer _ _ _ _ _
  · simp only [resolve, hg]
    simp [go_sem]
  · intro f' hf'; simp [Target.leads] at hf'; subst hf'; exact hFg
  · simp [invoke, go_sem, eg]
  have hBl : B ≠ D + 1 := by omega
  have hBd : B ≠ D := by omega
  refine (hseq (D + 1) (fun pre W => I pre W ∧ W.heap[D + 1]? = some (.loop (rec .ready)) ∧ W.heap[D]? = some (.deferred (some []))) V (by rw [← hD]; exact hbV)
    (fun s A v h => ⟨hIs s A v h.1, (Below.heap_setCell A ⟨B, 0, none⟩ v (D + 1) (fun e => hBl e.symm)).trans h.2.1, (Below.heap_setCell A ⟨B, 0, none⟩ v D (fun e => hBd e.symm)).trans h.2.2⟩) ?_ ⟨hI0, hl0, hd0⟩).mono ?_
  · rintro pre x W hpx ⟨hi, hl, hk⟩
    have hlt := (Array.getElem?_eq_some_iff.1 hl).1
    have hy := run_yield (P := P) (args := encs x) hl (by rw [hrec]; exact hps x)
    rw [hrec] at hy
    refine ⟨fn, _, assign, body, hy, roundIn_of_wpIn hfn (hassign _ x W _ ⟨_, run_beginRound hl (by rw [hrec]), ?_⟩)⟩
    have hl2 : (W.putObj (D + 1) (.loop { rec .ready with state := .busy })).heap[D + 1]? = some (.loop { rec .ready with state := .busy }) := World.putObj_heap_same hlt
    have hk2 : (W.putObj (D + 1) (.loop { rec .ready with state := .busy })).heap[D]? = some (.deferred (some [])) := (World.putObj_heap_other (by omega)).trans hk
    have hb2 : Below D W (W.putObj (D + 1) (.loop { rec .ready with state := .busy })) := hput _ _ _ _ hl (by omega)
    refine wpIn_mono (hbody _ pre x _ hpx (hIn _ _ _ hi (by rw [← hD]; exact hb2))) ?_
    rintro e a3 W3 hp
    cases e with
    | normal =>
      obtain ⟨hk3, hb3, hi3⟩ := hp
      have hl3 := hk3.same _ _ hl2 rfl
      have hd3 := hk3.same _ _ hk2 rfl
      have hend := run_endRound (P := P) none hl3
      have hb4 : Below D W3 (W3.putObj (D + 1) (.loop (rec .ready))) := hput _ _ _ _ hl3 (by omega)
      refine ⟨.bool true, W3.putObj (D + 1) (.loop (rec .ready)), by rw [hrec] at hend ⊢; exact hend, rfl, ⟨hIn _ _ _ hi3 (by rw [← hD]; exact hb4), World.putObj_heap_same (Array.getElem?_eq_some_iff.1 hl3).1, (World.putObj_heap_other (by omega)).trans hd3⟩, ?_⟩
      intro k hk
      have hkD : k < D := by rw [hD]; exact hkp k hk
      exact (hb4.block k hkD).trans ((hb3 k hk).trans (hb2.block k hkD))
    | ret => exact hp.elim
    | exit id => exact hp.elim
    | goto t => exact hp.elim
    | panic ch => exact hp.elim
    | outgrown => exact hp.elim
  · rintro e W2 ⟨⟨v, rfl⟩, hi, hl, hk⟩
    refine ⟨none, _, by have := run_endLoop (P := P) hl (by rw [hrec]; simp); rw [hrec] at this; exact this, ?_⟩
    exact hdone D _ (by omega) (hIn _ _ _ hi (by rw [← hD]; exact hput _ _ _ _ hl (by omega))) ((World.putObj_heap_other (by omega)).trans hk)
end Go.Kx

/-
  Parts of a string by slices (any program).
-/
namespace Go.Kx
open Go.RowKit

theorem str_mid {P : Program} {t : TypeId} (h : P.underlying t = some .string) (s : ByteArray) (lo hi : Nat) (h1 : lo ≤ hi) (h2 : hi ≤ s.size) (V : World) :
    (Instr.slice t (.string s) (some (.int .i64 (lo : Int))) (some (.int .i64 (hi : Int))) none).run P V = .ok (.string (s.extract lo hi)) V := by
  have e1 : (Instr.sliceBound (.int .i64 (hi : Int)) s.size .sliceAlen).run P V = .ok hi V := by
    simp only [Instr.sliceBound, asIntOf, Sem.run_bind, Sem.run_pure, Result.andThen_ok, if_pos (show 0 ≤ (hi : Int) ∧ (hi : Int) ≤ (s.size : Int) by omega), Int.toNat_natCast]
  have e2 : (Instr.sliceBound (.int .i64 (lo : Int)) hi .sliceB).run P V = .ok lo V := by
    simp only [Instr.sliceBound, asIntOf, Sem.run_bind, Sem.run_pure, Result.andThen_ok, if_pos (show 0 ≤ (lo : Int) ∧ (lo : Int) ≤ (hi : Int) by omega), Int.toNat_natCast]
  simp only [Instr.slice, Instr.sliceBounds, Sem.run_bind, run_underlying h, Result.andThen_ok, Option.isSome_none, Bool.false_eq_true, if_false, Sem.run_pure, e1, e2]
theorem str_to {P : Program} {t : TypeId} (h : P.underlying t = some .string) (s : ByteArray) (hi : Nat) (h2 : hi ≤ s.size) (V : World) :
    (Instr.slice t (.string s) none (some (.int .i64 (hi : Int))) none).run P V = .ok (.string (s.extract 0 hi)) V := by
  have e1 : (Instr.sliceBound (.int .i64 (hi : Int)) s.size .sliceAlen).run P V = .ok hi V := by
    simp only [Instr.sliceBound, asIntOf, Sem.run_bind, Sem.run_pure, Result.andThen_ok, if_pos (show 0 ≤ (hi : Int) ∧ (hi : Int) ≤ (s.size : Int) by omega), Int.toNat_natCast]
  simp only [Instr.slice, Instr.sliceBounds, Sem.run_bind, run_underlying h, Result.andThen_ok, Option.isSome_none, Bool.false_eq_true, if_false, Sem.run_pure, e1]
theorem str_from {P : Program} {t : TypeId} (h : P.underlying t = some .string) (s : ByteArray) (lo : Nat) (h1 : lo ≤ s.size) (V : World) :
    (Instr.slice t (.string s) (some (.int .i64 (lo : Int))) none none).run P V = .ok (.string (s.extract lo s.size)) V := by
  have e2 : (Instr.sliceBound (.int .i64 (lo : Int)) s.size .sliceB).run P V = .ok lo V := by
    simp only [Instr.sliceBound, asIntOf, Sem.run_bind, Sem.run_pure, Result.andThen_ok, if_pos (show 0 ≤ (lo : Int) ∧ (lo : Int) ≤ (s.size : Int) by omega), Int.toNat_natCast]
  simp only [Instr.slice, Instr.sliceBounds, Sem.run_bind, run_underlying h, Result.andThen_ok, Option.isSome_none, Bool.false_eq_true, if_false, Sem.run_pure, e2]
theorem str_ext (s : ByteArray) (i j : Nat) : (s.extract i j).data.toList = (s.data.toList.drop i).take (j - i) := by
  simp [Array.toList_extract, List.extract_eq_take_drop]
end Go.Kx

/-
  tree: slices.Equal of texts; downward: a slice of rows gone through from the last on (slices.Backward).
-/
namespace Go.Proofs.YtgcohoonhklkbaaDoor
open Go.RowKit Go.Kx Go.Shelf Go.Trm
set_option maxRecDepth 20000
attribute [local go_sem] Oper.semAt_some

theorem equal_any (A B : Option Addr) (c d : Nat) (xs ys : List ByteArray) (w : World) (hx : xs.length ≤ 1000000) (b : Bool) (hb : b = decide (xs = ys)) (hl : xs.length = ys.length) (hA : Sl w A (strsV xs)) (hB : Sl w B (strsV ys)) :
    Calls Tryd.prog 42 #[.slice A xs.length c, .slice B ys.length d] w fun e w' => e = .returned (.bool b) ∧ ∃ n, w' = w.drewN n := by
  have HB := Lib.hid hb
  clear hb
  have HL := Lib.hid hl
  have hne : ((xs.length : Int) != (ys.length : Int)) = false := by simp [hl]
  have HSA := Lib.hid hA
  have HSB := Lib.hid hB
  obtain ⟨n, hn⟩ : ∃ n, xs.length = n := ⟨_, rfl⟩
  obtain ⟨m, hm⟩ : ∃ m, ys.length = m := ⟨_, rfl⟩
  have HN := Lib.hid hn
  have HM := Lib.hid hm
  have hnm : m = n := by omega
  have hm6 : m ≤ 1000000 := by omega
  rw [hn, hm] at hne ⊢
  subst hnm
  clear hl hn hm hA hB
  go_enter Tryd.func42, Tryd.ntmps42
  go_wp2
  go_loopw [13] (fun i wr => ∃ k q : Nat, k ≤ m ∧ i = .int .i64 (k : Int) ∧ wr = w.drewN q ∧ xs.take k = ys.take k) (fun i _ => m - (intOf i).toNat)
  case atStart => exact ⟨0, 0, Nat.zero_le _, rfl, rfl, rfl⟩
  case round =>
    obtain ⟨k, q, hk, rfl, rfl, ht⟩ := hrel
    have HT := Lib.hid ht
    clear ht
    by_cases hlt : k < m
    · have hkx : k < xs.length := by rw [HN.out]; exact hlt
      have hky : k < ys.length := by rw [HM.out]; exact hlt
      obtain ⟨b1, o1, rfl, hc1⟩ := sl_strV HSA.out hkx
      obtain ⟨b2, o2, rfl, hc2⟩ := sl_strV HSB.out hky
      obtain ⟨x, hx1⟩ : ∃ x, xs[k] = x := ⟨_, rfl⟩
      obtain ⟨y, hy1⟩ : ∃ y, ys[k] = y := ⟨_, rfl⟩
      rw [hx1] at hc1
      rw [hy1] at hc2
      have e1 : Hid (xs[k]? = some x) := Lib.hid (by rw [List.getElem?_eq_getElem hkx, hx1])
      have e2 : Hid (ys[k]? = some y) := Lib.hid (by rw [List.getElem?_eq_getElem hky, hy1])
      have hk1 : (k : Int) < (m : Int) := by omega
      clear hkx hky hx1 hy1
      by_cases hxy : x = y
      · subst hxy
        have HE : Hid (xs.take (k + 1) = ys.take (k + 1)) := Lib.hid (takeB_eq e1.out e2.out HT.out)
        have hbq : (x.toList != x.toList) = false := by simp
        go_wp2
        go_quiet (fail)
        go_wp2
        go_roundw
        case rel => exact ⟨k + 1, _, by omega, by go_num, rfl, HE.out⟩
        case measure => simp [intOf]; omega
      · have hbq : (x.toList == y.toList) = false := by rw [str_eq, decide_eq_false hxy]
        have HF : Hid (b = false) := Lib.hid (by
          rw [HB.out, decide_eq_false]
          rintro rfl
          have := e1.out
          rw [e2.out] at this
          exact hxy (Option.some.inj this).symm)
        clear hxy
        go_wp2
        go_quiet (fail)
        go_wp2
        go_ret
        exact ⟨ret_bool HF.out.symm, _, World.drewN_drewN _ _ _⟩
    · obtain rfl : k = m := by omega
      have HF : Hid (b = true) := Lib.hid (by
        have h := HT.out
        rw [List.take_of_length_le (by rw [HN.out]; omega), List.take_of_length_le (by rw [HM.out]; omega)] at h
        rw [HB.out, decide_eq_true h])
      go_wp2
      go_ret
      exact ⟨ret_bool HF.out.symm, _, rfl⟩

/-! ### downward -/
theorem backward_any (a : Option Addr) (m c : Nat) (w : World) :
    Calls Tryd.prog 57 #[.slice a m c] w fun e w' => e = .returned (.func (.func 74) #[] #[.pointer (some ⟨w.heap.size, 0, none⟩)]) ∧ w.alloc (.cells #[.slice a m c] 42) = w' := by
  have hmf : ∀ (fn : Fn) (first cap : Array Value) (w : World), (Instr.makeFunc fn first cap).run Tryd.prog w = .ok (.func fn first cap) w := fun _ _ _ _ => rfl
  go_enter Tryd.func57, Tryd.ntmps57
  go_wp2
  go_ret
  exact ⟨rfl, rfl⟩
theorem downward_any (A a : Option Addr) (n c m c' : Nat) (w : World) :
    Calls Tryd.prog 43 #[.agg #[.slice A n c, .slice a m c']] w fun e w' => e = .returned (.func (.func 74) #[] #[.pointer (some ⟨w.heap.size + 1, 0, none⟩)]) ∧
      (w.alloc (.cells #[.slice A n c, .slice a m c'] 44)).alloc (.cells #[.slice a m c'] 42) = w' := by
  have hb := backward_any a m c' (w.alloc (.cells #[.slice A n c, .slice a m c'] 44))
  go_enter Tryd.func43, Tryd.ntmps43
  go_wp2_with fail
  refine hb.mono ?_
  rintro e w1 ⟨rfl, rfl⟩
  go_wp2
  go_ret
  exact ⟨by simp, rfl⟩
/-- What comes: from the last on. -/
def downS {n : Nat} (h0 : 0 < n) (k : Nat) : List {x : Nat // x < n} := (List.range k).map fun j => ⟨n - 1 - j, by omega⟩
theorem downS_succ {n : Nat} (h0 : 0 < n) (k : Nat) : downS h0 k ++ [⟨n - 1 - k, by omega⟩] = downS h0 (k + 1) := by simp [downS, List.range_succ]
theorem downS_length {n : Nat} (h0 : 0 < n) (k : Nat) : (downS h0 k).length = k := by simp [downS]
theorem downS_prefix {n : Nat} (h0 : 0 < n) (i j : Nat) : downS h0 i <+: downS h0 (i + j) := by
  induction j with
  | zero => exact List.prefix_rfl
  | succ j ih => exact ih.trans ⟨[⟨n - 1 - (i + j), by omega⟩], downS_succ h0 (i + j)⟩
theorem downS_le {n : Nat} (h0 : 0 < n) (i j : Nat) (h : i ≤ j) : downS h0 i <+: downS h0 j := by
  obtain ⟨m, rfl⟩ : ∃ m, j = i + m := ⟨j - i, by omega⟩
  exact downS_prefix h0 i m
/-- What a round keeps: the variable's block and the slice's. -/
def KpDn (b1 g : Nat) (A B : World) : Prop := B.heap[b1]? = A.heap[b1]? ∧ B.heap[g]? = A.heap[g]?
theorem KpDn_t {b1 g : Nat} {A B C : World} (h : KpDn b1 g A B) (k : KpDn b1 g B C) : KpDn b1 g A C := ⟨k.1.trans h.1, k.2.trans h.2⟩
theorem KpDn_b {b1 g : Nat} {w : World} (h1 : b1 < w.heap.size) (h2 : g < w.heap.size) (W : World) (l : Nat) (o o' : Obj) (hl : w.heap.size ≤ l) (_ : W.heap[l]? = some o) (_ : o.isCells = false) (_ : o.isWalk = false) : KpDn b1 g W (W.putObj l o') :=
  ⟨World.putObj_heap_other (by omega), World.putObj_heap_other (by omega)⟩
set_option maxHeartbeats 1000000 in
theorem downward1_in (n : Nat) (hn : 1 ≤ n) (b1 g m c : Nat) (h0 : 0 < m) (hm : m ≤ 11) (U : Nat → Value) (w : World) (h1 : w.cell? ⟨b1, 0, none⟩ = some (.slice (some ⟨g, 0, none⟩) m c)) (hU : ∀ x, x < m → w.cell? ⟨g, x, none⟩ = some (U x)) :
    SeqStopsK Fence.wide n Tryd.prog 74 #[.pointer (some ⟨b1, 0, none⟩)] (fun x : {x : Nat // x < m} => #[.int .i64 (x.1 : Int), U x.1]) (KpDn b1 g)
      (fun xs => xs = downS h0 m) (fun pre => pre <+: downS h0 m) m w := by
  intro q J Jx W hW hJ hJx hY hJ0
  have c1 := (hW.cell (p := ⟨b1, 0, none⟩) (block_lt_of_cell h1)).trans h1
  have HU : Hid (∀ x, x < m → W.cell? ⟨g, x, none⟩ = some (U x)) := Lib.hid fun x hx => (hW.cell (p := ⟨g, x, none⟩) (block_lt_of_cell (hU x hx))).trans (hU x hx)
  clear h1 hW hU
  have HG : ∀ V : World, V = W → Hid (V.heap[g]? = W.heap[g]?) := fun V e => Lib.hid (by rw [e])
  refine callsIn_of_wp Tryd.func74 rfl trivial ?_ rfl
  simp only [Tryd.ntmps74, List.size_toArray, List.length_cons, List.length_nil, Nat.reduceAdd, Nat.reduceSub, Array.replicate_succ, Array.replicate_zero, List.push_toArray, List.append_toArray, List.nil_append, List.cons_append]
  gi_wp2
  gi_loopw [3] (fun i wr => ∃ (k : Nat) (z : Int), k ≤ m ∧ i = .int .i64 z ∧ z = (m : Int) - 1 - k ∧ wr.cell? ⟨b1, 0, none⟩ = some (.slice (some ⟨g, 0, none⟩) m c) ∧ Hid (wr.heap[g]? = W.heap[g]?) ∧ J (downS h0 k) wr) (fun i _ => (intOf i + 1).toNat)
  case atStart => exact ⟨0, _, by omega, rfl, by omega, c1, HG _ rfl, hJ0⟩
  case round =>
    clear c1 hJ0 HG
    obtain ⟨k, z, hk, rfl, hz, c1, hg, hJk⟩ := hrel
    by_cases hlt : k < m
    · obtain ⟨p, hp⟩ : ∃ p : Nat, m - 1 - k = p := ⟨_, rfl⟩
      obtain rfl : z = (p : Int) := by omega
      have hpm : p < m := by omega
      have hcu : wr.cell? ⟨g, p, none⟩ = some (U p) := (cell_of_heap hg.out p).trans (HU.out p hpm)
      have HPS : Hid (downS h0 k ++ [⟨p, hpm⟩] = downS h0 (k + 1)) := Lib.hid (by subst hp; exact downS_succ h0 k)
      have HLEN : Hid ((downS h0 k).length < m) := Lib.hid (by rw [downS_length]; exact hlt)
      have HLE : Hid (downS h0 (k + 1) <+: downS h0 m) := Lib.hid (downS_le h0 _ _ hlt)
      have HZ := Lib.hid hz
      clear hp hz
      generalize hps : downS h0 k = ps at *
      obtain ⟨fn, tmps, assign, body, hy, hR⟩ := hY ps ⟨p, hpm⟩ wr hJk HLEN.out
      have t0 : (0 : Int) ≤ (p : Int) := by omega
      have t1 : (p : Int) < (m : Int) := by omega
      gi_wp2
      refine hR.mono ?_
      rintro e W' (⟨rfl, hJ', hk'⟩ | ⟨rfl, hJx'⟩)
      · have e1 : W'.cell? ⟨b1, 0, none⟩ = _ := (cell_of_heap hk'.1 0).trans c1
        have hg' : Hid (W'.heap[g]? = W.heap[g]?) := Lib.hid (hk'.2.trans hg.out)
        clear hy hR hk' c1 hcu hg
        rw [HPS.out] at hJ'
        gi_wp2
        go_roundw
        case rel => exact ⟨k + 1, _, by omega, rfl, by have := HZ.out; omega, e1, hg', hJ'⟩
        case measure => simp [intOf] <;> omega
      · clear hy hR
        rw [HPS.out] at hJx'
        gi_wp2
        refine bodyPost_ret (results_none rfl _ _ _) rfl ?_
        exact ⟨⟨_, rfl⟩, .inr ⟨_, HLE.out, hJx'⟩⟩
    · obtain rfl : k = m := by omega
      obtain rfl : z = -1 := by omega
      gi_wp2
      go_end0
      exact ⟨⟨_, rfl⟩, .inl ⟨_, rfl, hJk⟩⟩
end Go.Proofs.YtgcohoonhklkbaaDoor

/-
  keyholeref11: the contract of below.
-/
namespace Go.Proofs.YtgcohoonhklkbaaDoor
open Go.RowKit Go.Kx Go.Trm
set_option maxRecDepth 20000

/-- What a digest of a row is the Sum of. -/
def belowL (l : List Txt) (r k : Nat) : Txt := if r = 0 then ofLeafL (l.getD k []) else ofNodeL ((rowL sumL l (r - 1)).getD (2 * k) []) ((rowL sumL l (r - 1)).getD (2 * k + 1) [])
theorem below_row (l : List Txt) {d r k : Nat} (hl : l.length = 2 ^ d) (hr : r ≤ d) (hk : k < 2 ^ (d - r)) : (rowL sumL l r).getD k [] = sumL (belowL l r k) := by
  cases r with
  | zero =>
    rw [belowL, if_pos rfl, rowL, List.getD, List.getElem?_map, List.getD, List.getElem?_eq_getElem (by rw [hl]; exact hk)]
    rfl
  | succ r =>
    rw [belowL, if_neg (by omega), Nat.add_sub_cancel, rowL_get sumL l hl r k (by omega) hk]
    rfl
theorem rbelow_any (l : List ByteArray) (d : Nat) (hd : l.length = 2 ^ d) (hd10 : d ≤ 10) (hs : ∀ s ∈ l, s.size ≤ 1000) (A : Option Addr) (c c5 g5 : Nat) (r k : Nat) (hr : r ≤ d) (hk : k < 2 ^ (d - r)) (n : Nat) (hn : n = d + 1) (z : ByteArray) (hz : belowL (txtsL l) r k = z.data.toList)
    (w : World) (hA : Sl w A (strsV l)) (hM : RowsMem w g5 n l) :
    Calls Tryd.prog 45 #[.slice A l.length c, .slice (some ⟨g5, 0, none⟩) n c5, .int .i64 (r : Int), .int .i64 (k : Int)] w fun e w' => e = .returned (.string z) ∧ ∃ q, w' = w.drewN q := by
  have hpk : 2 ^ (d - r) ≤ 2 ^ 10 := Nat.pow_le_pow_right (by omega) (by omega)
  have hk9 : k < 1024 := by omega
  cases r with
  | zero =>
    have hkl : k < l.length := by rw [hd]; exact hk
    obtain ⟨b, off, rfl, hc⟩ := sl_strV hA hkl
    obtain ⟨p, hp⟩ : ∃ p, l[k] = p := ⟨_, rfl⟩
    have hps : p.size ≤ 1000 := by rw [← hp]; exact hs _ (List.getElem_mem _)
    rw [hp] at hc
    have hleaf := rofLeaf_any p z (by omega) (by rw [← hz, belowL, if_pos rfl, txtsL_get l hkl, hp]) w
    have hkl2 : (k : Int) < (l.length : Int) := by omega
    clear hp hz hd hs hA hM hk hpk hn
    generalize l.length = m at *
    go_enter Tryd.func45, Tryd.ntmps45
    go_wp2_with fail
    refine hleaf.mono ?_
    rintro e w1 ⟨rfl, rfl⟩
    go_wp2
    go_ret
    exact ⟨rfl, 0, rfl⟩
  | succ r =>
    obtain ⟨g, c1, -, hc1, hc2⟩ := hM.2 r (by omega)
    have hlen := rowB_length l hd (k := r) (by omega)
    have h5 : 2 ^ (d - r) = 2 * 2 ^ (d - (r + 1)) := by rw [← Nat.pow_succ']; congr 1; omega
    have h6 : 2 * k + 1 < (rowB l r).length := by omega
    obtain ⟨a, ha⟩ : ∃ a, (rowB l r)[2 * k]? = some a := ⟨_, List.getElem?_eq_getElem (by omega)⟩
    obtain ⟨b, hb⟩ : ∃ b, (rowB l r)[2 * k + 1]? = some b := ⟨_, List.getElem?_eq_getElem h6⟩
    have haz := rowB_len32 l hd (k := r) (by omega) ha
    have hbz := rowB_len32 l hd (k := r) (by omega) hb
    have hca := hc2 _ _ ha
    have hcb := hc2 _ _ hb
    have hnode := rofNode_any a b z (by omega) (by omega) (by rw [← hz, belowL, if_neg (by omega), Nat.add_sub_cancel, rowB_get l ha, rowB_get l hb])
    obtain ⟨m, hm⟩ : ∃ m, (rowB l r).length = m := ⟨_, rfl⟩
    obtain ⟨x, hx⟩ : ∃ x, 2 * k = x := ⟨_, rfl⟩
    obtain ⟨x1, hx1⟩ : ∃ x1, x + 1 = x1 := ⟨_, rfl⟩
    obtain ⟨r1, hr1⟩ : ∃ r1, r + 1 = r1 := ⟨_, rfl⟩
    rw [hm] at hc1 h6
    rw [hx] at hca hcb h6
    rw [hx1] at hcb h6
    rw [hr1]
    have e1 : (2 : Int) * (k : Int) = (x : Int) := by omega
    have e2 : (x : Int) + 1 = (x1 : Int) := by omega
    have e3 : (r1 : Int) - 1 = (r : Int) := by omega
    have t1 : ((r1 : Int) == 0) = false := by rw [beq_eq_false_iff_ne]; omega
    have w1 : IntKind.i64.wrap (x : Int) = (x : Int) := IntWalk.i64_in _ (by omega)
    have w2 : IntKind.i64.wrap (x1 : Int) = (x1 : Int) := IntWalk.i64_in _ (by omega)
    have w3 : IntKind.i64.wrap (r : Int) = (r : Int) := IntWalk.i64_in _ (by omega)
    have p1 : (0 : Int) ≤ (x : Int) := by omega
    have p2 : (0 : Int) ≤ (x1 : Int) := by omega
    have p3 : (0 : Int) ≤ (r : Int) := by omega
    have q1 : (x : Int) < (m : Int) := by omega
    have q2 : (x1 : Int) < (m : Int) := by omega
    have q3 : (r : Int) < (n : Int) := by omega
    have hrn : r < n := by omega
    have hxm : x < m := by omega
    clear hm hx hx1 hr1 ha hb hc2 h5 hlen hz hd hs hA hM hk hpk hn haz hbz hr
    generalize l.length = y at *
    go_enter Tryd.func45, Tryd.ntmps45
    go_wp2_with fail
    refine Uptot.begin_ [] (fun w' => w'.cell? ⟨g5, r, none⟩ = some (.slice (some ⟨g, 0, none⟩) m c1) ∧ w'.cell? ⟨g, x, none⟩ = some (.string a) ∧ w'.cell? ⟨g, x1, none⟩ = some (.string b)) (fun _ => True) (by kernel_rfl) ?_
    have hST : (w.drew.cell? ⟨g5, r, none⟩ = some (.slice (some ⟨g, 0, none⟩) m c1) ∧ w.drew.cell? ⟨g, x, none⟩ = some (.string a) ∧ w.drew.cell? ⟨g, x1, none⟩ = some (.string b)) ∧ True := ⟨⟨hc1, hca, hcb⟩, trivial⟩
    have hw : Hid (w.drew = w.drewN 1) := Lib.hid rfl
    generalize w.drew = V2 at *
    refine Uptot.takeS (i := 0) (v := ?_) rfl (by kernel_rfl) (by kernel_rfl) (by kernel_rfl) (by kernel_rfl) (fun _ _ _ h => h) (Or.inl ⟨by rfl, ?_⟩) hST ?_
    rotate_left 1
    · intro w9 hSw; (try dsimp only at hSw); obtain ⟨h90, h91, h92⟩ := hSw; go_simp; (try with_reducible rfl)
    try simp only [Act.put, List.setIfInBounds_toArray, List.set_cons_zero, List.set_cons_succ]
    refine Uptot.takeS (i := 1) (v := ?_) rfl (by kernel_rfl) (by kernel_rfl) (by kernel_rfl) (by kernel_rfl) (fun _ _ _ h => h) (Or.inl ⟨by rfl, ?_⟩) hST ?_
    rotate_left 1
    · intro w9 hSw; (try dsimp only at hSw); obtain ⟨h90, h91, h92⟩ := hSw; go_simp; (try with_reducible rfl)
    try simp only [Act.put, List.setIfInBounds_toArray, List.set_cons_zero, List.set_cons_succ]
    refine Uptot.takeS (i := 2) (v := ?_) rfl (by kernel_rfl) (by kernel_rfl) (by kernel_rfl) (by kernel_rfl) (fun _ _ _ h => h) (Or.inl ⟨by rfl, ?_⟩) hST ?_
    rotate_left 1
    · intro w9 hSw; (try dsimp only at hSw); obtain ⟨h90, h91, h92⟩ := hSw; go_simp; (try with_reducible rfl)
    try simp only [Act.put, List.setIfInBounds_toArray, List.set_cons_zero, List.set_cons_succ]
    refine Uptot.takeS (i := 3) (v := ?_) rfl (by kernel_rfl) (by kernel_rfl) (by kernel_rfl) (by kernel_rfl) (fun _ _ _ h => h) (Or.inl ⟨by rfl, ?_⟩) hST ?_
    rotate_left 1
    · intro w9 hSw; (try dsimp only at hSw); obtain ⟨h90, h91, h92⟩ := hSw; go_simp; (try with_reducible rfl)
    try simp only [Act.put, List.setIfInBounds_toArray, List.set_cons_zero, List.set_cons_succ]
    refine Uptot.takeS (i := 4) (v := ?_) rfl (by kernel_rfl) (by kernel_rfl) (by kernel_rfl) (by kernel_rfl) (fun _ _ _ h => h) (Or.inl ⟨by rfl, ?_⟩) hST ?_
    rotate_left 1
    · intro w9 hSw; (try dsimp only at hSw); obtain ⟨h90, h91, h92⟩ := hSw; go_simp; (try with_reducible rfl)
    try simp only [Act.put, List.setIfInBounds_toArray, List.set_cons_zero, List.set_cons_succ]
    refine Uptot.takeS (i := 5) (v := ?_) rfl (by kernel_rfl) (by kernel_rfl) (by kernel_rfl) (by kernel_rfl) (fun _ _ _ h => h) (Or.inl ⟨by rfl, ?_⟩) hST ?_
    rotate_left 1
    · intro w9 hSw; (try dsimp only at hSw); obtain ⟨h90, h91, h92⟩ := hSw; go_simp; (try with_reducible rfl)
    try simp only [Act.put, List.setIfInBounds_toArray, List.set_cons_zero, List.set_cons_succ]
    refine Uptot.takeS (i := 6) (v := ?_) rfl (by kernel_rfl) (by kernel_rfl) (by kernel_rfl) (by kernel_rfl) (fun _ _ _ h => h) (Or.inl ⟨by rfl, ?_⟩) hST ?_
    rotate_left 1
    · intro w9 hSw; (try dsimp only at hSw); obtain ⟨h90, h91, h92⟩ := hSw; go_simp; (try with_reducible rfl)
    try simp only [Act.put, List.setIfInBounds_toArray, List.set_cons_zero, List.set_cons_succ]
    refine Uptot.takeS (i := 7) (v := ?_) rfl (by kernel_rfl) (by kernel_rfl) (by kernel_rfl) (by kernel_rfl) (fun _ _ _ h => h) (Or.inl ⟨by rfl, ?_⟩) hST ?_
    rotate_left 1
    · intro w9 hSw; (try dsimp only at hSw); obtain ⟨h90, h91, h92⟩ := hSw; go_simp; (try with_reducible rfl)
    try simp only [Act.put, List.setIfInBounds_toArray, List.set_cons_zero, List.set_cons_succ]
    refine Uptot.takeS (i := 8) (v := ?_) rfl (by kernel_rfl) (by kernel_rfl) (by kernel_rfl) (by kernel_rfl) (fun _ _ _ h => h) (Or.inl ⟨by rfl, ?_⟩) hST ?_
    rotate_left 1
    · intro w9 hSw; (try dsimp only at hSw); obtain ⟨h90, h91, h92⟩ := hSw; go_simp; (try with_reducible rfl)
    try simp only [Act.put, List.setIfInBounds_toArray, List.set_cons_zero, List.set_cons_succ]
    refine Uptot.takeS (i := 9) (v := ?_) rfl (by kernel_rfl) (by kernel_rfl) (by kernel_rfl) (by kernel_rfl) (fun _ _ _ h => h) (Or.inl ⟨by rfl, ?_⟩) hST ?_
    rotate_left 1
    · intro w9 hSw; (try dsimp only at hSw); obtain ⟨h90, h91, h92⟩ := hSw; go_simp; (try with_reducible rfl)
    try simp only [Act.put, List.setIfInBounds_toArray, List.set_cons_zero, List.set_cons_succ]
    refine Uptot.takeS (i := 10) (v := ?_) rfl (by kernel_rfl) (by kernel_rfl) (by kernel_rfl) (by kernel_rfl) (fun _ _ _ h => h) (Or.inl ⟨by rfl, ?_⟩) hST ?_
    rotate_left 1
    · intro w9 hSw; (try dsimp only at hSw); obtain ⟨h90, h91, h92⟩ := hSw; go_simp; (try with_reducible rfl)
    try simp only [Act.put, List.setIfInBounds_toArray, List.set_cons_zero, List.set_cons_succ]
    refine Uptot.takeS (i := 11) (v := ?_) rfl (by kernel_rfl) (by kernel_rfl) (by kernel_rfl) (by kernel_rfl) (fun _ _ _ h => h) (Or.inl ⟨by rfl, ?_⟩) hST ?_
    rotate_left 1
    · intro w9 hSw; (try dsimp only at hSw); obtain ⟨h90, h91, h92⟩ := hSw; go_simp; (try with_reducible rfl)
    try simp only [Act.put, List.setIfInBounds_toArray, List.set_cons_zero, List.set_cons_succ]
    refine Uptot.takeS (i := 12) (v := ?_) rfl (by kernel_rfl) (by kernel_rfl) (by kernel_rfl) (by kernel_rfl) (fun _ _ _ h => h) (Or.inl ⟨by rfl, ?_⟩) hST ?_
    rotate_left 1
    · intro w9 hSw; (try dsimp only at hSw); obtain ⟨h90, h91, h92⟩ := hSw; go_simp; (try with_reducible rfl)
    try simp only [Act.put, List.setIfInBounds_toArray, List.set_cons_zero, List.set_cons_succ]
    refine Uptot.takeS (i := 13) (v := ?_) rfl (by kernel_rfl) (by kernel_rfl) (by kernel_rfl) (by kernel_rfl) (fun _ _ _ h => h) (Or.inl ⟨by rfl, ?_⟩) hST ?_
    rotate_left 1
    · intro w9 hSw; (try dsimp only at hSw); obtain ⟨h90, h91, h92⟩ := hSw; go_simp; (try with_reducible rfl)
    try simp only [Act.put, List.setIfInBounds_toArray, List.set_cons_zero, List.set_cons_succ]
    refine Uptot.takeS (i := 14) (v := ?_) rfl (by kernel_rfl) (by kernel_rfl) (by kernel_rfl) (by kernel_rfl) (fun _ _ _ h => h) (Or.inl ⟨by rfl, ?_⟩) hST ?_
    rotate_left 1
    · intro w9 hSw; (try dsimp only at hSw); obtain ⟨h90, h91, h92⟩ := hSw; go_simp; (try with_reducible rfl)
    try simp only [Act.put, List.setIfInBounds_toArray, List.set_cons_zero, List.set_cons_succ]
    refine Uptot.takeS (i := 15) (v := ?_) rfl (by kernel_rfl) (by kernel_rfl) (by kernel_rfl) (by kernel_rfl) (fun _ _ _ h => h) (Or.inl ⟨by rfl, ?_⟩) hST ?_
    rotate_left 1
    · intro w9 hSw; (try dsimp only at hSw); obtain ⟨h90, h91, h92⟩ := hSw; go_simp; (try with_reducible rfl)
    try simp only [Act.put, List.setIfInBounds_toArray, List.set_cons_zero, List.set_cons_succ]
    refine Uptot.takeS (i := 16) (v := ?_) rfl (by kernel_rfl) (by kernel_rfl) (by kernel_rfl) (by kernel_rfl) (fun _ _ _ h => h) (Or.inl ⟨by rfl, ?_⟩) hST ?_
    rotate_left 1
    · intro w9 hSw; (try dsimp only at hSw); obtain ⟨h90, h91, h92⟩ := hSw; go_simp; (try with_reducible rfl)
    try simp only [Act.put, List.setIfInBounds_toArray, List.set_cons_zero, List.set_cons_succ]
    refine Uptot.takeS (i := 17) (v := ?_) rfl (by kernel_rfl) (by kernel_rfl) (by kernel_rfl) (by kernel_rfl) (fun _ _ _ h => h) (Or.inl ⟨by rfl, ?_⟩) hST ?_
    rotate_left 1
    · intro w9 hSw; (try dsimp only at hSw); obtain ⟨h90, h91, h92⟩ := hSw; go_simp; (try with_reducible rfl)
    try simp only [Act.put, List.setIfInBounds_toArray, List.set_cons_zero, List.set_cons_succ]
    refine Uptot.takeS (i := 18) (v := ?_) rfl (by kernel_rfl) (by kernel_rfl) (by kernel_rfl) (by kernel_rfl) (fun _ _ _ h => h) (Or.inl ⟨by rfl, ?_⟩) hST ?_
    rotate_left 1
    · intro w9 hSw; (try dsimp only at hSw); obtain ⟨h90, h91, h92⟩ := hSw; go_simp; (try with_reducible rfl)
    try simp only [Act.put, List.setIfInBounds_toArray, List.set_cons_zero, List.set_cons_succ]
    refine Uptot.one (i := 19) rfl (by kernel_rfl) (fun K hK9 => ?_)
    go_simp
    go_at_call 38
    refine (hnode V2).mono ?_
    rintro e w9 ⟨rfl, rfl⟩
    refine hK9.out _ _ (Cond.ahead hST) ?_
    clear hK9 K
    try simp only [Act.put, List.setIfInBounds_toArray, List.set_cons_zero, List.set_cons_succ]
    refine Uptot.one (i := 20) rfl (by kernel_rfl) (fun K hK9 => ?_)
    go_simp
    refine hK9.out _ _ (Cond.ahead hST) ?_
    clear hK9 K
    try simp only [Act.put, List.setIfInBounds_toArray, List.set_cons_zero, List.set_cons_succ]
    refine Uptot.done (by kernel_rfl) ?_ _
    go_wp2
    go_ret
    exact ⟨rfl, 1, hw.out⟩
end Go.Proofs.YtgcohoonhklkbaaDoor

/-
  keyholeref11: the contract of Collide.
-/
namespace Go.Proofs.YtgcohoonhklkbaaDoor
open Go.RowKit Go.Kx Go.Trm
set_option maxRecDepth 20000

/-- The first place at which two functions are not the same. -/
def colK (f g : Nat → Txt) : Nat → Nat → Option (Txt × Txt)
  | 0, _ => none
  | n + 1, k => if f k = g k then colK f g n (k + 1) else some (f k, g k)
theorem colK_step {f g : Nat → Txt} {n k : Nat} (hk : k < n) (h : f k = g k) : colK f g (n - k) k = colK f g (n - (k + 1)) (k + 1) := by
  rw [show n - k = n - (k + 1) + 1 by omega, colK, if_pos h]
theorem colK_hit {f g : Nat → Txt} {n k : Nat} (hk : k < n) (h : f k ≠ g k) : colK f g (n - k) k = some (f k, g k) := by
  rw [show n - k = n - (k + 1) + 1 by omega, colK, if_neg h]
def colD (l m : List Txt) (d : Nat) : Nat → Option (Txt × Txt)
  | 0 => none
  | r + 1 => match colK (belowL l r) (belowL m r) (2 ^ (d - r)) 0 with
    | some p => some p
    | none => colD l m d r
theorem colD_some {l m : List Txt} {d r : Nat} {p : Txt × Txt} (h : colK (belowL l r) (belowL m r) (2 ^ (d - r)) 0 = some p) : colD l m d (r + 1) = some p := by rw [colD, h]
theorem colD_none {l m : List Txt} {d r : Nat} (h : colK (belowL l r) (belowL m r) (2 ^ (d - r)) 0 = none) : colD l m d (r + 1) = colD l m d r := by rw [colD, h]
/-- When does Collide look? -/
def colOk (l m : List ByteArray) (d : Nat) : Prop := l.length = m.length ∧ l.length = 2 ^ d ∧ d ≤ 10 ∧ l ≠ m ∧ rootL sumL (txtsL l) d = rootL sumL (txtsL m) d
open Classical in
noncomputable def colA (l m : List ByteArray) : Option (Txt × Txt) := if colOk l m l.length.log2 then colD (txtsL l) (txtsL m) l.length.log2 (l.length.log2 + 1) else none
theorem colA_yes {l m : List ByteArray} {d : Nat} (h : colOk l m d) : colA l m = colD (txtsL l) (txtsL m) d (d + 1) := by
  have hd : l.length.log2 = d := by rw [h.2.1, Nat.log2_two_pow]
  rw [colA, hd, if_pos h]
theorem colA_no {l m : List ByteArray} (h : ∀ d, ¬ colOk l m d) : colA l m = none := by rw [colA, if_neg (h _)]
/-- What is shown, as a value. -/
def outV : Option (Txt × Txt) → Value
  | some (x, y) => .tuple #[.string (toB x), .string (toB y), .bool true]
  | none => .tuple #[.string ⟨#[]⟩, .string ⟨#[]⟩, .bool false]
theorem rowB_last (l : List ByteArray) {d : Nat} (hl : l.length = 2 ^ d) : (rowB l d)[0]? = some (toB (rootL sumL (txtsL l) d)) := by
  have h1 := rowB_length l hl (Nat.le_refl d)
  rw [Nat.sub_self, Nat.pow_zero] at h1
  rw [List.getElem?_eq_getElem (by omega)]
  simp only [rowB, List.getElem_map, rootL, List.getD]
  rw [rowB, List.length_map] at h1
  rw [List.getElem?_eq_getElem (by omega)]
  rfl
theorem toB_inj {a b : Txt} (h : toB a = toB b) : a = b := by rw [← toB_list a, h, toB_list]
theorem belowB (l : List Txt) (r k : Nat) : ∃ z : ByteArray, belowL l r k = z.data.toList := ⟨toB (belowL l r k), (toB_list _).symm⟩
/-- What a call of Collide answers. -/
def CollideP (ans : Option (Txt × Txt)) (W : World) (e : Ending) (W' : World) : Prop := e = .returned (outV ans) ∧ Below W.heap.size W W'
theorem collide_early (l m : List ByteArray) (A B : Option Addr) (c c' : Nat) (hz : l.length ≤ 1000000) (h : ¬ (l.length = m.length ∧ mayN l.length ∧ l ≠ m)) (w : World) (hA : Sl w A (strsV l)) (hB : Sl w B (strsV m)) :
    Calls Tryd.prog 24 #[.slice A l.length c, .slice B m.length c'] w fun e w' => CollideP none w e w' := by
  by_cases hl : l.length = m.length
  · have hne : ((l.length : Int) != (m.length : Int)) = false := by simp [hl]
    by_cases hm : mayN l.length
    · have hlm : l = m := Classical.byContradiction fun h2 => h ⟨hl, hm, h2⟩
      have hmay := rmay_yes hm hz A c w
      have htx := texts_any A B c c' l m w hz true (by rw [decide_eq_true hlm]) hA hB
      clear hlm h hA hB hm hl
      generalize l.length = x at *
      generalize m.length = y at *
      go_enter Tryd.func24, Tryd.ntmps24
      go_wp2_with fail
      refine hmay.mono ?_
      rintro e w ⟨rfl, rfl⟩
      go_wp2_with fail
      refine htx.mono ?_
      rintro e w1 ⟨rfl, n, rfl⟩
      go_wp2
      go_ret3
      exact ⟨rfl, Below.drewN0 _ _⟩
    · have hmay := rmay_no hm hz A c w
      clear h hA hB hm hl
      generalize l.length = x at *
      generalize m.length = y at *
      go_enter Tryd.func24, Tryd.ntmps24
      go_wp2_with fail
      refine hmay.mono ?_
      rintro e w ⟨rfl, rfl⟩
      go_wp2
      go_ret3
      exact ⟨rfl, Below.refl _ _⟩
  · have hne : ((l.length : Int) != (m.length : Int)) = true := by rw [bne_iff_ne]; omega
    clear h hA hB hl
    generalize l.length = x at *
    generalize m.length = y at *
    go_enter Tryd.func24, Tryd.ntmps24
    go_wp2
    go_ret3
    exact ⟨rfl, Below.refl _ _⟩
set_option maxHeartbeats 4000000 in
theorem rcollide_any (HS : RSum) (l m : List ByteArray) (A B : Option Addr) (c c' : Nat) (hz : l.length ≤ 1000000) (hs : ∀ s ∈ l, s.size ≤ 1000) (hsm : ∀ s ∈ m, s.size ≤ 1000) (ans : Option (Txt × Txt)) (hans : colA l m = ans) (w : World) (hA : Sl w A (strsV l)) (hB : Sl w B (strsV m)) :
    Calls Tryd.prog 24 #[.slice A l.length c, .slice B m.length c'] w fun e w' => CollideP ans w e w' := by
  by_cases h : l.length = m.length ∧ mayN l.length ∧ l ≠ m
  rotate_left
  · rw [colA_no fun d hd => h ⟨hd.1, ⟨d, hd.2.2.1, hd.2.1⟩, hd.2.2.2.1⟩] at hans
    subst hans
    exact collide_early l m A B c c' hz h w hA hB
  obtain ⟨hl, ⟨d, hd10, hd⟩, hlm⟩ := h
  have hdm : m.length = 2 ^ d := by omega
  have hmay := rmay_yes ⟨d, hd10, hd⟩ hz A c w
  have htx := texts_any A B c c' l m w hz false (by rw [decide_eq_false hlm]) hA hB
  have hrl := fun V hAV => rrows_any HS l d hd hd10 hs A c V hAV
  have hrm := fun V hAV => rrows_any HS m d hdm hd10 hsm B c' V hAV
  have hne : ((l.length : Int) != (m.length : Int)) = false := by simp [hl]
  have HRL := Lib.hid hrl
  have HRM := Lib.hid hrm
  have HBL := Lib.hid fun (g5 c5 n r k : Nat) z => rbelow_any l d hd hd10 hs A c c5 g5 r k (n := n) (z := z)
  have HBM := Lib.hid fun (g5 c5 n r k : Nat) z => rbelow_any m d hdm hd10 hsm B c' c5 g5 r k (n := n) (z := z)
  have HTL := Lib.hid (rowB_last l hd)
  have HTM := Lib.hid (rowB_last m hdm)
  have HLL := Lib.hid fun k (hk : k ≤ d) => rowB_length l hd hk
  have HLM := Lib.hid fun k (hk : k ≤ d) => rowB_length m hdm hk
  have HYES := Lib.hid fun (h : rootL sumL (txtsL l) d = rootL sumL (txtsL m) d) => (colA_yes (l := l) (m := m) (d := d) ⟨hl, hd, hd10, hlm, h⟩).symm.trans hans
  have HNO : Hid (rootL sumL (txtsL l) d ≠ rootL sumL (txtsL m) d → ans = none) := Lib.hid fun h => by
    rw [← hans]
    refine colA_no fun d' hd' => h ?_
    obtain rfl : d' = d := by
      have h1 := hd'.2.1
      rw [hd] at h1
      exact Nat.le_antisymm ((Nat.pow_le_pow_iff_right (by omega : 1 < 2)).1 (by omega)) ((Nat.pow_le_pow_iff_right (by omega : 1 < 2)).1 (by omega))
    exact hd'.2.2.2.2
  have HDA := Lib.hid hA
  have HDB := Lib.hid hB
  clear hrl hrm hA hB hans hlm hd hdm hs hsm HS hl
  generalize l.length = x at *
  generalize m.length = y at *
  go_enter Tryd.func24, Tryd.ntmps24
  go_wp2_with fail
  refine hmay.mono ?_
  rintro e w ⟨rfl, rfl⟩
  go_wp2_with fail
  refine htx.mono ?_
  rintro e w1 ⟨rfl, q0, rfl⟩
  have hb0 := Below.drewN0 w q0
  generalize w.drewN q0 = w1 at *
  go_wp2_with fail
  refine (HRL.out w1 (HDA.out.keep hb0)).mono ?_
  intro e w2 h
  obtain ⟨v, vs, rfl, hown, hra, hb2⟩ := h
  obtain ⟨g5, c5, rfl, hM1⟩ := rows_mem hown (by omega) hra
  clear hown hra
  have hb02 := hb0.next hb2
  go_wp2_with fail
  refine (HRM.out w2 (HDB.out.keep hb02)).mono ?_
  intro e w3 h
  obtain ⟨v, vs, rfl, hown, hra, hb3⟩ := h
  obtain ⟨g6, c6, rfl, hM2⟩ := rows_mem hown (by omega) hra
  have hb := hb02.next hb3
  replace hM1 := hM1.keep hb3
  clear hown hra hb02 hb2 hb3 hb0 hmay htx hne
  have hx : ((d + 1 : Nat) : Int) - 1 = (d : Int) := by omega
  obtain ⟨n, hn⟩ : ∃ n, d + 1 = n := ⟨_, rfl⟩
  rw [hn] at hx hM1 hM2 ⊢
  have HN := Lib.hid hn
  have hdn : d < n := by omega
  have hn11 : n ≤ 11 := by omega
  clear hn
  obtain ⟨ga, ca, -, h1, h2⟩ := hM1.2 d hdn
  obtain ⟨gb, cb, -, h3, h4⟩ := hM2.2 d hdn
  have h5 := h2 0 _ HTL.out
  have h6 := h4 0 _ HTM.out
  have h7 := HLL.out d (Nat.le_refl _)
  have h8 := HLM.out d (Nat.le_refl _)
  rw [Nat.sub_self, Nat.pow_zero] at h7 h8
  rw [h7] at h1
  rw [h8] at h3
  clear h2 h4 h7 h8
  by_cases hroot : rootL sumL (txtsL l) d = rootL sumL (txtsL m) d
  rotate_left
  · have hans := HNO.out hroot
    obtain ⟨s, hs⟩ : ∃ s, toB (rootL sumL (txtsL l) d) = s := ⟨_, rfl⟩
    obtain ⟨t, ht⟩ : ∃ t, toB (rootL sumL (txtsL m) d) = t := ⟨_, rfl⟩
    rw [hs] at h5
    rw [ht] at h6
    have hst : (s.toList == t.toList) = false := by
      rw [str_eq, decide_eq_false]
      rw [← hs, ← ht]
      exact fun h => hroot (toB_inj h)
    have HANS := Lib.hid hans
    clear hs ht hroot hans
    go_wp2
    go_quiet (fail)
    go_wp2
    go_ret3
    exact ⟨by rw [HANS.out]; rfl, hb.trans (Below.drewN0 _ _ |>.mono hb.size)⟩
  have HANS := Lib.hid (HYES.out hroot)
  rw [← hroot] at h6
  obtain ⟨s, hs⟩ : ∃ s, toB (rootL sumL (txtsL l) d) = s := ⟨_, rfl⟩
  rw [hs] at h5 h6
  clear hroot hs
  go_wp2
  go_quiet (fail)
  have hbq := hb.trans ((Below.drewN0 w3 nq).mono hb.size)
  replace hM1 := hM1.keep (Below.drewN0 w3 nq)
  replace hM2 := hM2.keep (Below.drewN0 w3 nq)
  clear hb h1 h3 h5 h6
  generalize w3.drewN nq = W at *
  go_wp2
  go_loopw [10] (fun r wr => ∃ (rr : Nat) (z : Int), rr ≤ d + 1 ∧ r = .int .i64 z ∧ z = (rr : Int) - 1 ∧ Hid (colD (txtsL l) (txtsL m) d rr = ans) ∧ Below W.heap.size W wr) (fun r _ => (intOf r + 1).toNat)
  case atStart => exact ⟨d + 1, d, by omega, rfl, by omega, HANS, Below.refl _ _⟩
  case round =>
    obtain ⟨rr, z, hrr, rfl, hz1, ha, hb⟩ := hrel
    rcases rr with _ | r
    · obtain rfl : z = -1 := by omega
      have HA : Hid (ans = none) := Lib.hid ha.out.symm
      clear hz1
      go_wp2
      go_ret3
      exact ⟨by rw [HA.out]; rfl, hbq.next hb⟩
    · obtain rfl : z = (r : Int) := by omega
      have hrd : r ≤ d := by omega
      obtain ⟨g, c1, hg, hc1, -⟩ := hM1.2 r (by omega)
      obtain ⟨y1, hy1⟩ : ∃ y1, (rowB l r).length = y1 := ⟨_, rfl⟩
      have hy2 : Hid (y1 = 2 ^ (d - r)) := Lib.hid (by rw [← hy1, HLL.out r hrd])
      have hy9 : y1 ≤ 1024 := by rw [hy2.out]; have : 2 ^ (d - r) ≤ 2 ^ 10 := Nat.pow_le_pow_right (by omega) (by omega); omega
      rw [hy1] at hc1
      have hr0 : (0 : Int) ≤ (r : Int) := by omega
      have hrn : r < n := by omega
      have hrnI : (r : Int) < (n : Int) := by omega
      clear hy1 hz1
      go_wp2
      go_loopw [11] (fun k wr => ∃ kk : Nat, k = .int .i64 (kk : Int) ∧ kk ≤ y1 ∧ Hid (colK (belowL (txtsL l) r) (belowL (txtsL m) r) y1 0 = colK (belowL (txtsL l) r) (belowL (txtsL m) r) (y1 - kk) kk) ∧ Below W.heap.size W wr) (fun k _ => y1 - (intOf k).toNat)
      case atStart => exact ⟨0, rfl, Nat.zero_le _, Lib.hid rfl, hb⟩
      case round =>
        clear hb
        obtain ⟨k, rfl, hk, hcol, hb⟩ := hrel
        have hc2 := (hb.cell (p := ⟨g5, r, none⟩) hM1.1).trans hc1
        by_cases hlt : k < y1
        · obtain ⟨p, hp⟩ := belowB (txtsL l) r k
          obtain ⟨q, hq⟩ := belowB (txtsL m) r k
          have hkp : k < 2 ^ (d - r) := by rw [← hy2.out]; exact hlt
          have hB1 := HBL.out g5 c5 n r k p hrd hkp HN.out.symm hp wr (HDA.out.keep (hbq.next hb)) (hM1.keep hb)
          have hB2 := fun q0 => HBM.out g6 c6 n r k q hrd hkp HN.out.symm hq (wr.drewN q0) (HDB.out.keep ((hbq.next hb).next (Below.drewN0 wr q0))) (hM2.keep (hb.next (Below.drewN0 wr q0)))
          have hkI : (k : Int) < (y1 : Int) := by omega
          have HP := Lib.hid hp
          have HQ := Lib.hid hq
          clear hp hq hkp
          go_wp2_with fail
          refine hB1.mono ?_
          rintro e w4 ⟨rfl, q0, rfl⟩
          have hB3 := hB2 q0
          clear hB1 hB2
          go_wp2_with fail
          refine hB3.mono ?_
          rintro e w5 ⟨rfl, q1, rfl⟩
          have hb5 := (hb.next (Below.drewN0 wr q0)).next (Below.drewN0 (wr.drewN q0) q1)
          clear hB3 hb hc2
          generalize (wr.drewN q0).drewN q1 = W5 at *
          by_cases hpq : p = q
          · subst hpq
            have HC : Hid (colK (belowL (txtsL l) r) (belowL (txtsL m) r) y1 0 = colK (belowL (txtsL l) r) (belowL (txtsL m) r) (y1 - (k + 1)) (k + 1)) := Lib.hid (by
              rw [hcol.out, colK_step hlt (by rw [HP.out, HQ.out])])
            go_wp2
            go_roundw
            case rel => exact ⟨k + 1, by go_num, by omega, HC, hb5⟩
            case measure => simp [intOf]; omega
          · have hpq2 : (p.toList == q.toList) = false := by rw [str_eq, decide_eq_false hpq]
            have HC : Hid (ans = some (p.data.toList, q.data.toList)) := Lib.hid (by
              rw [← ha.out, colD_some (p := (p.data.toList, q.data.toList))]
              rw [← hy2.out, hcol.out, colK_hit hlt (by rw [HP.out, HQ.out]; exact fun h => hpq (ByteArray.ext (Array.toList_inj.1 h))), HP.out, HQ.out])
            clear hpq
            go_wp2
            go_ret3
            exact ⟨by rw [HC.out, outV, toB_eq, toB_eq]; rfl, hbq.next hb5⟩
        · obtain rfl : k = y1 := by omega
          have HD : Hid (colD (txtsL l) (txtsL m) d r = ans) := Lib.hid (by
            rw [← ha.out, colD_none]
            rw [← hy2.out, hcol.out, Nat.sub_self]
            rfl)
          go_wp2
          go_roundw
          case rel => exact ⟨r, (r : Int) - 1, by omega, rfl, rfl, HD, hb⟩
          case measure => simp [intOf]
end Go.Proofs.YtgcohoonhklkbaaDoor

/-
  keyholeref11: the contract of Trace.
-/
namespace Go.Proofs.YtgcohoonhklkbaaDoor
open Go.RowKit Go.Kx Go.Trm
set_option maxRecDepth 20000

theorem pathR_len {l : List ByteArray} {d n : Nat} {ps : List ByteArray} (hd : l.length = 2 ^ d) (h : d ≤ 10) (hn : n < l.length) (hp : pathR l (n : Int) = (ps, 0)) : ps.length = d := by
  rw [pathR_yes hd h hn] at hp
  rw [← (Prod.mk.inj hp).1, List.length_map, pathL_length]
theorem pathR_ok {l : List ByteArray} {d n : Nat} {ps : List ByteArray} (hd : l.length = 2 ^ d) (h : d ≤ 10) (hn : n < l.length) (hp : pathR l (n : Int) = (ps, 0)) : wayOk (n : Int) ps := by
  have hl := pathR_len hd h hn hp
  rw [pathR_yes hd h hn] at hp
  refine ⟨by omega, by omega, ?_, fun p hpp => ?_⟩
  · rw [hl]
    have : ((2 : Int) ^ d) = ((2 ^ d : Nat) : Int) := by push_cast; rfl
    omega
  · rw [← (Prod.mk.inj hp).1] at hpp
    obtain ⟨y, hy, rfl⟩ := List.mem_map.1 hpp
    obtain ⟨q, hq, rfl⟩ := List.mem_map.1 hy
    have hqd : q < d := List.mem_range.1 hq
    have h4 := half_lt (n := n) (k := q) (d := d) (by omega) (by omega)
    have h5 : 2 ^ (d - q) = 2 * 2 ^ (d - q - 1) := by rw [← Nat.pow_succ']; congr 1; omega
    have h6 := partN_lt (i := n / 2 ^ q) (h := 2 ^ (d - q - 1)) (by omega)
    have h7 := rowB_length l hd (k := q) (by omega)
    have h9 : partN (n / 2 ^ q) < (rowB l q).length := by omega
    have e := List.getElem?_eq_getElem h9
    have h10 := rowB_len32 l hd (k := q) (by omega) e
    have h11 := rowB_get l e
    rw [h11, toB_eq]
    exact h10
theorem pathR_texts {l : List ByteArray} {d n : Nat} {ps : List ByteArray} (hd : l.length = 2 ^ d) (h : d ≤ 10) (hn : n < l.length) (hp : pathR l (n : Int) = (ps, 0)) : txtsL ps = pathL sumL (txtsL l) n d := by
  rw [pathR_yes hd h hn] at hp
  rw [← (Prod.mk.inj hp).1, txtsL, List.map_map]
  conv => rhs; rw [← List.map_id (pathL sumL (txtsL l) n d)]
  exact List.map_congr_left fun x _ => toB_list x

/-- When does Trace look? -/
def trcOk (l : List ByteArray) (n d : Nat) (s : ByteArray) (path : List ByteArray) : Prop :=
  l.length = 2 ^ d ∧ d ≤ 10 ∧ n < l.length ∧ path.length = d ∧ l[n]? ≠ some s ∧ wayOk (n : Int) path ∧ climbL sumL n (ofLeafL s.data.toList) (txtsL path) = rootL sumL (txtsL l) d
open Classical in
noncomputable def trcA (l : List ByteArray) (i : Int) (s : ByteArray) (path : List ByteArray) : Option (Txt × Txt) :=
  if 0 ≤ i ∧ trcOk l i.toNat path.length s path then lastDiff (waysL sumL i.toNat (ofLeafL ((txtsL l).getD i.toNat [])) (pathL sumL (txtsL l) i.toNat path.length)) (waysL sumL i.toNat (ofLeafL s.data.toList) (txtsL path)) (path.length + 1) else none
theorem trcA_yes {l : List ByteArray} {n d : Nat} {s : ByteArray} {path : List ByteArray} (h : trcOk l n d s path) : trcA l (n : Int) s path = lastDiff (waysL sumL n (ofLeafL ((txtsL l).getD n [])) (pathL sumL (txtsL l) n d)) (waysL sumL n (ofLeafL s.data.toList) (txtsL path)) (d + 1) := by
  have hd : path.length = d := h.2.2.2.1
  subst hd
  rw [trcA, Int.toNat_natCast, if_pos ⟨by omega, h⟩]
theorem trcA_no {l : List ByteArray} {i : Int} {s : ByteArray} {path : List ByteArray} (h : ∀ n d : Nat, i = (n : Int) → ¬ trcOk l n d s path) : trcA l i s path = none := by
  rw [trcA, if_neg]
  rintro ⟨h1, h2⟩
  exact h _ _ (by omega) h2
theorem trc_early (HS : RSum) (l : List ByteArray) (i : Int) (s : ByteArray) (path : List ByteArray) (A B : Option Addr) (c c' : Nat) (hz : l.length ≤ 1000000) (hs : ∀ s ∈ l, s.size ≤ 1000) (h : ¬ (mayN l.length ∧ 0 ≤ i ∧ i < l.length)) (w : World) (hA : Sl w A (strsV l)) :
    Calls Tryd.prog 26 #[.slice A l.length c, .int .i64 i, .string s, .slice B path.length c'] w fun e w' => e = .returned (outV none) ∧ Below w.heap.size w w' := by
  obtain ⟨r, k, hr⟩ : ∃ r k, rootR l = (r, k) := ⟨_, _, rfl⟩
  have hk : k = 0 ∨ k = 1 := by
    unfold rootR at hr
    split at hr
    · exact .inl (Prod.mk.inj hr).2.symm
    · exact .inr (Prod.mk.inj hr).2.symm
  have hroot := rroot_any HS l A c hz hs r k hr w hA
  have hpath := fun V => path_early l A c hz i h V
  clear hr h hA hs HS hz
  generalize l.length = x at *
  generalize path.length = y at *
  rcases hk with rfl | rfl
  all_goals
    go_enter Tryd.func26, Tryd.ntmps26
    go_wp2_with fail
    refine hroot.mono ?_
    rintro e w1 ⟨rfl, hb⟩
    have hp1 := hpath w1
    clear hpath hroot
    go_wp2_with fail
    refine hp1.mono ?_
    rintro e w1 ⟨rfl, rfl⟩
    go_wp2
    go_ret3
    exact ⟨rfl, hb⟩
set_option maxHeartbeats 4000000 in
theorem rtrace_any (HS : RSum) (l : List ByteArray) (i : Int) (s : ByteArray) (path : List ByteArray) (A B : Option Addr) (c c' : Nat) (hz : l.length ≤ 1000000) (hzp : path.length ≤ 1000000) (hs : ∀ s ∈ l, s.size ≤ 1000) (hss : s.size ≤ 1000) (ans : Option (Txt × Txt)) (hans : trcA l i s path = ans) (w : World) (hA : Sl w A (strsV l)) (hB : Sl w B (strsV path)) :
    Calls Tryd.prog 26 #[.slice A l.length c, .int .i64 i, .string s, .slice B path.length c'] w fun e w' => e = .returned (outV ans) ∧ Below w.heap.size w w' := by
  by_cases h : mayN l.length ∧ 0 ≤ i ∧ i < l.length
  rotate_left
  · rw [trcA_no fun n d hi hd => h ⟨⟨d, hd.2.1, hd.1⟩, by omega, by have := hd.2.2.1; omega⟩] at hans
    subst hans
    exact trc_early HS l i s path A B c c' hz hs h w hA
  obtain ⟨⟨d, hd10, hd⟩, hi0, hil⟩ := h
  obtain ⟨n, rfl⟩ := Int.eq_ofNat_of_zero_le hi0
  have hnl : n < l.length := by omega
  have hroot := rroot_any HS l A c hz hs _ _ (rootR_yes hd hd10) w hA
  obtain ⟨r, hr⟩ : ∃ r, toB (rootL sumL (txtsL l) d) = r := ⟨_, rfl⟩
  rw [hr] at hroot
  obtain ⟨ps, hps⟩ : ∃ ps, pathR l (n : Int) = (ps, 0) := ⟨_, pathR_yes hd hd10 hnl⟩
  have hpath := fun V hAV => rpath_any HS l A c hz hs (n : Int) ps 0 hps V hAV
  have hpl := pathR_len hd hd10 hnl hps
  have hpok := pathR_ok hd hd10 hnl hps
  have hpt := pathR_texts hd hd10 hnl hps
  obtain ⟨t, k, hck⟩ : ∃ t k, climbR (n : Int) s path = (t, k) := ⟨_, _, rfl⟩
  obtain ⟨bb, hbb⟩ : ∃ bb : Bool, bb = (decide (k = 0) && decide (t = r)) := ⟨_, rfl⟩
  have hcheck := fun V hBV => rcheck_any HS r (n : Int) s path B c' hzp hss t k hck bb hbb V hBV
  obtain ⟨b0, off0, rfl, hc0⟩ := sl_strV hA hnl
  obtain ⟨p, hp⟩ : ∃ p, l[n] = p := ⟨_, rfl⟩
  rw [hp] at hc0
  have hps1 : p.size ≤ 1000 := by rw [← hp]; exact hs _ (List.getElem_mem _)
  have hln : l[n]? = some p := by rw [List.getElem?_eq_getElem hnl, hp]
  have hway1 := fun V A' c1 hAV => rways_any HS (n : Int) p ps A' c1 (by omega) hps1 V hAV
  have hway2 := fun V hBV => rways_any HS (n : Int) s path B c' hzp hss V hBV
  have hbbT : Hid (bb = true → path.length = d → p ≠ s → trcOk l n d s path) := Lib.hid fun h1 h2 h3 => by
    rw [hbb, Bool.and_eq_true, decide_eq_true_eq, decide_eq_true_eq] at h1
    have h4 : wayOk (n : Int) path := Classical.byContradiction fun h5 => by
      rw [climbR_no h5] at hck
      have := (Prod.mk.inj hck).2
      omega
    rw [climbR_yes h4, Int.toNat_natCast] at hck
    refine ⟨hd, hd10, hnl, h2, by rw [hln]; exact fun h => h3 (Option.some.inj h), h4, ?_⟩
    have h5 := (Prod.mk.inj hck).1
    rw [h1.2, ← hr] at h5
    exact toB_inj h5
  have hbbF : Hid (bb = false ∨ path.length ≠ d ∨ p = s → ans = none) := Lib.hid fun h1 => by
    rw [← hans]
    refine trcA_no fun n' d' hn' hd' => ?_
    obtain rfl : n' = n := by omega
    obtain rfl : d' = d := by
      have h2 := hd'.1
      rw [hd] at h2
      exact Nat.le_antisymm ((Nat.pow_le_pow_iff_right (by omega : 1 < 2)).1 (by omega)) ((Nat.pow_le_pow_iff_right (by omega : 1 < 2)).1 (by omega))
    obtain ⟨-, -, -, g1, g2, g3, g4⟩ := hd'
    rcases h1 with h1 | h1 | h1
    · rw [climbR_yes g3, Int.toNat_natCast, g4, hr] at hck
      rw [hbb, ← (Prod.mk.inj hck).1, ← (Prod.mk.inj hck).2] at h1
      simp at h1
    · exact h1 g1
    · exact g2 (by rw [hln, h1])
  have hLD : Hid (trcOk l n d s path → lastDiff (waysL sumL n (ofLeafL p.data.toList) (txtsL ps)) (waysL sumL n (ofLeafL s.data.toList) (txtsL path)) (d + 1) = ans) := Lib.hid fun h => by
    rw [← hans, trcA_yes h, hpt, txtsL_get l hnl, hp]
  have HCELL : Hid (∀ V, Below w.heap.size w V → V.cell? ⟨b0, off0 + n, none⟩ = some (.string p)) := Lib.hid fun V hV => by
    obtain ⟨b', off', hAe, hc⟩ := sl_strV (hA.keep hV) hnl
    obtain ⟨rfl, rfl⟩ : b' = b0 ∧ off' = off0 := by simpa using hAe.symm
    rw [hp] at hc
    exact hc
  have HA := Lib.hid hA
  have HB := Lib.hid hB
  have HPL := Lib.hid hpl
  have HPOK := Lib.hid hpok
  have HCH := Lib.hid hcheck
  have HW1 := Lib.hid hway1
  have HW2 := Lib.hid hway2
  have HPT := Lib.hid hpath
  have hn9 : n < 2048 := by have : 2 ^ d ≤ 2 ^ 10 := Nat.pow_le_pow_right (by omega) hd10; omega
  have hnI : (n : Int) < (l.length : Int) := by omega
  have hrd : d ≤ 10 := hd10
  clear hpl hpok hcheck hway1 hway2 hpath hpt hans hbb hck hp hr hps hd hs HS hA hB hln hil hi0
  generalize l.length = x at *
  obtain ⟨y, hy⟩ : ∃ y, path.length = y := ⟨_, rfl⟩
  have HY := Lib.hid hy
  rw [hy] at hzp ⊢
  clear hy
  go_enter Tryd.func26, Tryd.ntmps26
  go_wp2_with fail
  refine hroot.mono ?_
  rintro e w1 ⟨rfl, hb1⟩
  clear hroot
  have hpth := HPT.out w1 (HA.out.keep hb1)
  go_wp2_with fail
  refine hpth.mono ?_
  intro e w2 h
  obtain ⟨v, rfl, hown, hb2⟩ := h
  clear hpth
  rw [HPL.out] at hown
  obtain ⟨A1, c1, rfl, hA1⟩ := own_sl hown
  have hb12 := hb1.next hb2
  have hc2 := HCELL.out w2 hb12
  clear hown
  by_cases hyd : y = d
  rotate_left
  · have hne : ((d : Int) != (y : Int)) = true := by rw [bne_iff_ne]; omega
    have HN := Lib.hid (hbbF.out (.inr (.inl (by rw [HY.out]; exact hyd))))
    clear hyd
    go_wp2
    go_ret3
    exact ⟨by rw [HN.out]; rfl, hb12⟩
  obtain rfl : d = y := hyd.symm
  have hne : ((d : Int) != (d : Int)) = false := by simp
  by_cases hps2 : p = s
  · have hse : (s.toList == p.toList) = true := by rw [str_eq, decide_eq_true hps2.symm]
    have HN := Lib.hid (hbbF.out (.inr (.inr hps2)))
    clear hps2
    go_wp2
    go_ret3
    exact ⟨by rw [HN.out]; rfl, hb12⟩
  have hse : (s.toList == p.toList) = false := by rw [str_eq, decide_eq_false fun h => hps2 h.symm]
  have hch := HCH.out w2 (HB.out.keep hb12)
  rw [HY.out] at hch
  cases bb with
  | false =>
    have HN := Lib.hid (hbbF.out (.inl rfl))
    clear hps2
    go_wp2_with fail
    refine hch.mono ?_
    rintro e w3 ⟨rfl, hb3⟩
    go_wp2
    go_ret3
    exact ⟨by rw [HN.out]; rfl, hb12.next hb3⟩
  | true =>
    have HTO := Lib.hid (hbbT.out rfl HY.out hps2)
    have HLD := Lib.hid (hLD.out HTO.out)
    clear hps2 hLD hbbT hbbF
    go_wp2_with fail
    refine hch.mono ?_
    rintro e w3 ⟨rfl, hb3⟩
    have hb13 := hb12.next hb3
    have hc3 := HCELL.out w3 hb13
    have hw1 := HW1.out w3 A1 c1 (hA1.keep hb3)
    rw [HPL.out] at hw1
    clear hch hc2
    go_wp2_with fail
    refine hw1.mono ?_
    intro e w4 h
    clear hw1
    rcases h with ⟨-, v4, rfl, hown4, hb4⟩ | ⟨hno, -, -⟩
    rotate_left
    · exact absurd HPOK.out hno
    rw [HPL.out, Int.toNat_natCast] at hown4
    obtain ⟨ga, ca, rfl, hga, hla, hcella⟩ := own_vals hown4 (by omega)
    have hb14 := hb13.next hb4
    have hw2 := HW2.out w4 (HB.out.keep hb14)
    rw [HY.out] at hw2
    clear hown4
    go_wp2_with fail
    refine hw2.mono ?_
    intro e w5 h
    clear hw2
    rcases h with ⟨-, v5, rfl, hown5, hb5⟩ | ⟨hno, -, -⟩
    rotate_left
    · exact absurd HTO.out.2.2.2.2.2.1 hno
    rw [HY.out, Int.toNat_natCast] at hown5
    obtain ⟨gb, cb, rfl, hgb, hlb, hcellb⟩ := own_vals hown5 (by omega)
    have hb := hb14.next hb5
    have HCA : Hid (∀ k, k < d + 1 → ∃ a b : ByteArray, (waysL sumL n (ofLeafL p.data.toList) (txtsL ps)).getD k [] = a.data.toList ∧ (waysL sumL n (ofLeafL s.data.toList) (txtsL path)).getD k [] = b.data.toList ∧ w5.cell? ⟨ga, k, none⟩ = some (.string a) ∧ w5.cell? ⟨gb, k, none⟩ = some (.string b)) := Lib.hid fun k hk => by
      have g1 : k < (waysB n p ps).length := by rw [waysB_length, HPL.out]; exact hk
      have g2 : k < (waysB n s path).length := by rw [waysB_length, HY.out]; exact hk
      have f1 := waysB_get n p ps (k := k) (m := k + 1) (by rw [HPL.out]; exact hk) (by rw [List.length_take]; omega)
      have f2 := waysB_get n s path (k := k) (m := k + 1) (by rw [HY.out]; exact hk) (by rw [List.length_take]; omega)
      rw [List.getElem_take] at f1 f2
      refine ⟨toB (wayT n p ps k), toB (wayT n s path k), by rw [toB_list]; rfl, by rw [toB_list]; rfl, ?_, ?_⟩
      · refine (hb5.cell (p := ⟨ga, k, none⟩) hga).trans (hcella k _ ?_)
        rw [strsV, List.getElem?_map, List.getElem?_eq_getElem g1, f1]
        rfl
      · refine hcellb k _ ?_
        rw [strsV, List.getElem?_map, List.getElem?_eq_getElem g2, f2]
        rfl
    have hx : ((d + 1 : Nat) : Int) - 1 = (d : Int) := by omega
    obtain ⟨m, hm⟩ : ∃ m, d + 1 = m := ⟨_, rfl⟩
    rw [hm] at hx ⊢
    have HM := Lib.hid hm
    have hm11 : m ≤ 11 := by omega
    clear hm hown5 hcella hcellb hga hgb hla hlb hb14 hb13 hb12 hb3 hb4 hb5 hc0 hc3 hb1 hb2 hA1
    go_wp2
    go_loopw [19] (fun r wr => ∃ (rr q : Nat) (z : Int), rr ≤ d + 1 ∧ r = .int .i64 z ∧ z = (rr : Int) - 1 ∧ Hid (lastDiff (waysL sumL n (ofLeafL p.data.toList) (txtsL ps)) (waysL sumL n (ofLeafL s.data.toList) (txtsL path)) rr = ans) ∧ wr = w5.drewN q) (fun r _ => (intOf r + 1).toNat)
    case atStart => exact ⟨d + 1, 0, d, by omega, rfl, by omega, HLD, rfl⟩
    case round =>
      obtain ⟨rr, q, z, hrr, rfl, hz1, ha, rfl⟩ := hrel
      rcases rr with _ | k
      · obtain rfl : z = -1 := by omega
        have HA : Hid (ans = none) := Lib.hid ha.out.symm
        clear hz1
        go_wp2
        go_ret3
        exact ⟨by rw [HA.out]; rfl, hb.next (Below.drewN0 _ _)⟩
      · obtain rfl : z = (k : Int) := by omega
        obtain ⟨a, b, e1, e2, hca, hcb⟩ := HCA.out k (by omega)
        have hca2 : (w5.drewN q).cell? ⟨ga, k, none⟩ = some (.string a) := hca
        have hcb2 : (w5.drewN q).cell? ⟨gb, k, none⟩ = some (.string b) := hcb
        have hk0 : (0 : Int) ≤ (k : Int) := by omega
        have hkm : (k : Int) < (m : Int) := by have := HM.out; omega
        have hkm2 : k < m := by have := HM.out; omega
        have HE1 := Lib.hid e1
        have HE2 := Lib.hid e2
        clear hz1 e1 e2
        by_cases hab : a = b
        · subst hab
          have HD : Hid (lastDiff (waysL sumL n (ofLeafL p.data.toList) (txtsL ps)) (waysL sumL n (ofLeafL s.data.toList) (txtsL path)) k = ans) := Lib.hid (by
            rw [← ha.out, lastDiff, if_neg (by rw [HE1.out, HE2.out]; simp)])
          go_wp2
          go_quiet (fail)
          go_wp2
          go_roundw
          case rel => exact ⟨k, _, (k : Int) - 1, by omega, rfl, rfl, HD, rfl⟩
          case measure => simp [intOf]
        · have hab2 : (a.toList == b.toList) = false := by rw [str_eq, decide_eq_false hab]
          have HD : Hid (ans = some (a.data.toList, b.data.toList)) := Lib.hid (by
            rw [← ha.out, lastDiff, if_pos (by rw [HE1.out, HE2.out]; exact fun h => hab (ByteArray.ext (Array.toList_inj.1 h))), HE1.out, HE2.out])
          clear hab
          go_wp2
          go_quiet (fail)
          have hca3 : ((w5.drewN q).drewN nq).cell? ⟨ga, k, none⟩ = some (.string a) := hca
          have hcb3 : ((w5.drewN q).drewN nq).cell? ⟨gb, k, none⟩ = some (.string b) := hcb
          have hb6 := hb.next ((Below.drewN0 w5 q).next (Below.drewN0 (w5.drewN q) nq))
          clear hca hcb hca2 hcb2 hb
          generalize (w5.drewN q).drewN nq = W6 at *
          go_wp2
          go_quiet (fail)
          go_wp2
          go_ret3
          exact ⟨by rw [HD.out, outV, toB_eq, toB_eq]; rfl, hb6.next (Below.drewN0 _ _)⟩
end Go.Proofs.YtgcohoonhklkbaaDoor

/-
  tree: what Trace tells, as mathematics (of any texts); results out of three cells.
-/
namespace Go.Proofs.YtgcohoonhklkbaaDoor
open Go.RowKit Go.Kx Go.Trm
set_option maxRecDepth 20000

theorem run_loadVar_one {P : Program} {ty : TypeId} {d : TypeDesc} (hu : P.underlying ty = some d) (hd : (match d with | .struct _ | .array _ _ => true | _ => false) = false) {w : World} {a : Addr} {v : Value} (hc : w.cell? a = some v) : (loadVar ty a).run P w = .ok v w := by
  have hagg : (isAgg ty).run P w = .ok false w := by
    cases d <;> simp_all [isAgg, underlying, Sem.run_bind, Result.andThen]
  simp [loadVar, hagg, Sem.run_bind, Result.andThen, load]
  simp [Sem.run, hc]
theorem results_cell3 {P : Program} {fn : Func} {p q r : Tmp} {s t u : TypeId} (h : fn.results = #[.cell p s, .cell q t, .cell r u]) {tmps : Array Value} {w : World} {a b c : Addr} {x y z : Value}
    (hp : tmps.getD p undef = .pointer (some a)) (hq : tmps.getD q undef = .pointer (some b)) (hr : tmps.getD r undef = .pointer (some c))
    (h1 : (loadVar s a).run P w = .ok x w) (h2 : (loadVar t b).run P w = .ok y w) (h3 : (loadVar u c).run P w = .ok z w) :
    (results fn tmps).run P w = .ok (.tuple #[x, y, z]) w := by
  have hp' : tmps[p]?.getD undef = .pointer (some a) := by simpa using hp
  have hq' : tmps[q]?.getD undef = .pointer (some b) := by simpa using hq
  have hr' : tmps[r]?.getD undef = .pointer (some c) := by simpa using hr
  simp [results, h, hp', hq', hr', asAddr, h1, h2, h3, Sem.run_bind, Result.andThen]

/-! ### the way of a text that is there -/
theorem und_way (l : List ByteArray) {d n : Nat} (hl : l.length = 2 ^ d) (hn : n < 2 ^ d) : ∀ h, h ≤ d → undT l h (n / 2 ^ h) = (waysL sumH n (ofLeafL ((txtsL l).getD n [])) (pathL sumH (txtsL l) n d)).getD h []
  | 0, _ => by rw [waysL_zero, Nat.pow_zero, Nat.div_one]; rfl
  | h + 1, hh => by
    have hl' : (txtsL l).length = 2 ^ d := by rw [txtsL_length]; exact hl
    have hpk : (pathL sumH (txtsL l) n d).getD h [] = (rowL sumH (txtsL l) h).getD (partN (n / 2 ^ h)) [] := by
      rw [pathL, List.getD, List.getElem?_map, List.getElem?_range (by omega)]
      rfl
    rw [waysL_get sumH _ _ _ h (by rw [pathL_length]; omega), hpk]
    unfold stepW
    rw [ways_row sumH (txtsL l) hl' n hn h (by omega), undT, Nat.pow_succ, ← Nat.div_div_eq_div_mul]
    unfold partN
    by_cases h2 : n / 2 ^ h % 2 = 0
    · rw [if_pos h2, if_pos h2, two_even h2]
    · rw [if_neg h2, if_neg h2, two_odd h2, show n / 2 ^ h - 1 + 1 = n / 2 ^ h by generalize n / 2 ^ h = m at h2 ⊢; omega]
theorem lastDiff_at {a b : List Txt} : ∀ {n k : Nat}, k < n → a.getD k [] ≠ b.getD k [] → (∀ j, k < j → j < n → a.getD j [] = b.getD j []) → lastDiff a b n = some (a.getD k [], b.getD k [])
  | n + 1, k, hk, hne, h => by
    by_cases hn : k = n
    · subst hn
      rw [lastDiff, if_pos hne]
    · rw [lastDiff, if_neg (by simpa using h n (by omega) (by omega))]
      exact lastDiff_at (by omega) hne fun j h1 h2 => h j h1 (by omega)
theorem lastDiff_no {a b : List Txt} : ∀ {n : Nat}, (∀ j, j < n → a.getD j [] = b.getD j []) → lastDiff a b n = none
  | 0, _ => rfl
  | n + 1, h => by
    rw [lastDiff, if_neg (by simpa using h n (by omega))]
    exact lastDiff_no fun j hj => h j (by omega)
theorem downS_mem {m : Nat} (h0 : 0 < m) (k : Nat) {j : Nat} (hj : j < m) (h : m ≤ k + j) : (⟨j, hj⟩ : {x : Nat // x < m}) ∈ downS h0 k := by
  refine List.mem_map.2 ⟨m - 1 - j, List.mem_range.2 (by omega), ?_⟩
  exact Subtype.ext (by show m - 1 - (m - 1 - j) = j; omega)
theorem downS_split {m : Nat} (h0 : 0 < m) {pre : List {x : Nat // x < m}} {x : {x : Nat // x < m}} (h : pre ++ [x] <+: downS h0 m) : ∃ k, k < m ∧ pre = downS h0 k ∧ x.1 = m - 1 - k := by
  have hl := h.length_le
  rw [downS_length, List.length_append, List.length_singleton] at hl
  have hp := downS_le h0 (pre.length + 1) m hl
  have e : pre ++ [x] = downS h0 (pre.length + 1) := by
    rw [List.prefix_iff_eq_take.1 h, List.prefix_iff_eq_take.1 hp, downS_length, List.length_append, List.length_singleton]
  rw [← downS_succ] at e
  obtain ⟨e1, e2⟩ := List.append_inj e (by rw [downS_length])
  refine ⟨pre.length, by omega, e1, ?_⟩
  have := List.head_eq_of_cons_eq e2
  rw [this]

/-! ### when Trace looks -/
def trcHok (l : List ByteArray) (n d : Nat) (s : ByteArray) (path : List ByteArray) : Prop :=
  l.length = 2 ^ d ∧ d ≤ 10 ∧ n < l.length ∧ path.length = d ∧ l[n]? ≠ some s ∧ wayOk (n : Int) path ∧ climbL sumH n (ofLeafL s.data.toList) (txtsL path) = rootL sumH (txtsL l) d
/-- The two ways of a trace. -/
def wayA (l : List ByteArray) (n d : Nat) : List Txt := waysL sumH n (ofLeafL ((txtsL l).getD n [])) (pathL sumH (txtsL l) n d)
def wayB (n : Nat) (s : ByteArray) (path : List ByteArray) : List Txt := waysL sumH n (ofLeafL s.data.toList) (txtsL path)
open Classical in
noncomputable def trcH (l : List ByteArray) (i : Int) (s : ByteArray) (path : List ByteArray) : Option (Txt × Txt) :=
  if 0 ≤ i ∧ trcHok l i.toNat path.length s path then lastDiff (wayA l i.toNat path.length) (wayB i.toNat s path) (path.length + 1) else none
theorem trcH_yes {l : List ByteArray} {n d : Nat} {s : ByteArray} {path : List ByteArray} (h : trcHok l n d s path) : trcH l (n : Int) s path = lastDiff (wayA l n d) (wayB n s path) (d + 1) := by
  have hd : path.length = d := h.2.2.2.1
  subst hd
  rw [trcH, Int.toNat_natCast, if_pos ⟨by omega, h⟩]
theorem trcH_no {l : List ByteArray} {i : Int} {s : ByteArray} {path : List ByteArray} (h : ∀ n d : Nat, i = (n : Int) → ¬ trcHok l n d s path) : trcH l i s path = none := by
  rw [trcH, if_neg]
  rintro ⟨h1, h2⟩
  exact h _ _ (by omega) h2
/-- The cells that a call of Trace keeps: the place, the results, the rows. -/
def TrS (N R : Nat) (i : Int) (A : Option Addr) (n c : Nat) (vd : Value) (x y : ByteArray) (z : Bool) (V : World) : Prop :=
  V.heap[N]? = some (.cells #[.int .i64 i] 3) ∧ V.heap[N + 1]? = some (.cells #[.string x] 9) ∧ V.heap[N + 1 + 1]? = some (.cells #[.string y] 9) ∧ V.heap[N + 1 + 1 + 1]? = some (.cells #[.bool z] 4) ∧ V.heap[R]? = some (.cells #[.slice A n c, vd] 44)
theorem heap_keepB {V V' : World} {k : Nat} {o : Obj} (h : V.heap[k]? = some o) (hb : Below V.heap.size V V') : V'.heap[k]? = some o := (hb.block k (Array.getElem?_eq_some_iff.1 h).1).trans h
theorem TrS.keep {N R : Nat} {i : Int} {A : Option Addr} {n c : Nat} {vd : Value} {x y : ByteArray} {z : Bool} {V V' : World} (h : TrS N R i A n c vd x y z V) (hb : Below V.heap.size V V') : TrS N R i A n c vd x y z V' :=
  ⟨heap_keepB h.1 hb, heap_keepB h.2.1 hb, heap_keepB h.2.2.1 hb, heap_keepB h.2.2.2.1 hb, heap_keepB h.2.2.2.2 hb⟩
theorem cell0 {V : World} {b : Nat} {v : Value} {t : TypeId} (h : V.heap[b]? = some (.cells #[v] t)) : V.cell? ⟨b, 0, none⟩ = some v := by rw [cell_of_row _ _ _ _ _ _ h]; rfl
theorem froz0 {V : World} {b o : Nat} {cs : Array Value} {t : TypeId} (h : V.heap[b]? = some (.cells cs t)) : V.frozen? ⟨b, o, none⟩ = false := by unfold World.frozen?; rw [h]; simp
/-- The three results out of their cells. -/
theorem trace_ret {tmps : Array Value} {V : World} {b1 b2 b3 : Nat} {x y : ByteArray} {z : Bool} (hp : tmps.getD 8 undef = .pointer (some ⟨b1, 0, none⟩)) (hq : tmps.getD 9 undef = .pointer (some ⟨b2, 0, none⟩)) (hr : tmps.getD 10 undef = .pointer (some ⟨b3, 0, none⟩))
    (h1 : V.cell? ⟨b1, 0, none⟩ = some (.string x)) (h2 : V.cell? ⟨b2, 0, none⟩ = some (.string y)) (h3 : V.cell? ⟨b3, 0, none⟩ = some (.bool z)) : (results Tryd.f25 tmps).run Tryd.prog V = .ok (.tuple #[.string x, .string y, .bool z]) V :=
  results_cell3 rfl hp hq hr (run_loadVar_one Tryd.underlying9 rfl h1) (run_loadVar_one Tryd.underlying9 rfl h2) (run_loadVar_one Tryd.underlying4 rfl h3)
/-- Three stores of results, read back. -/
theorem trace_set {N : Nat} {V : World} {a b e : Value} (x y : ByteArray) (z : Bool) (z1 : V.cell? ⟨N + 1, 0, none⟩ = some a) (z2 : V.cell? ⟨N + 1 + 1, 0, none⟩ = some b) (z3 : V.cell? ⟨N + 1 + 1 + 1, 0, none⟩ = some e) :
    (((V.setCell ⟨N + 1, 0, none⟩ (.string x)).setCell ⟨N + 1 + 1, 0, none⟩ (.string y)).setCell ⟨N + 1 + 1 + 1, 0, none⟩ (.bool z)).cell? ⟨N + 1, 0, none⟩ = some (.string x) ∧
    (((V.setCell ⟨N + 1, 0, none⟩ (.string x)).setCell ⟨N + 1 + 1, 0, none⟩ (.string y)).setCell ⟨N + 1 + 1 + 1, 0, none⟩ (.bool z)).cell? ⟨N + 1 + 1, 0, none⟩ = some (.string y) ∧
    (((V.setCell ⟨N + 1, 0, none⟩ (.string x)).setCell ⟨N + 1 + 1, 0, none⟩ (.string y)).setCell ⟨N + 1 + 1 + 1, 0, none⟩ (.bool z)).cell? ⟨N + 1 + 1 + 1, 0, none⟩ = some (.bool z) := by
  have ne12 : (⟨N + 1 + 1, 0, none⟩ : Addr) ≠ ⟨N + 1, 0, none⟩ := by simp
  have ne13 : (⟨N + 1 + 1 + 1, 0, none⟩ : Addr) ≠ ⟨N + 1, 0, none⟩ := by simp
  have ne23 : (⟨N + 1 + 1 + 1, 0, none⟩ : Addr) ≠ ⟨N + 1 + 1, 0, none⟩ := by simp
  refine ⟨?_, ?_, ?_⟩
  · rw [World.cell?_setCell_other _ _ _ _ ne13, World.cell?_setCell_other _ _ _ _ ne12]
    exact World.cell?_setCell_same' _ _ _ (by rw [z1]; rfl)
  · rw [World.cell?_setCell_other _ _ _ _ ne23]
    exact World.cell?_setCell_same' _ _ _ (by rw [World.cell?_setCell_other _ _ _ _ ne12.symm, z2]; rfl)
  · exact World.cell?_setCell_same' _ _ _ (by rw [World.cell?_setCell_other _ _ _ _ ne23.symm, World.cell?_setCell_other _ _ _ _ ne13.symm, z3]; rfl)
theorem trace_setB {w V : World} (hb : Below w.heap.size w V) (x y : ByteArray) (z : Bool) : Below w.heap.size w (((V.setCell ⟨w.heap.size + 1, 0, none⟩ (.string x)).setCell ⟨w.heap.size + 1 + 1, 0, none⟩ (.string y)).setCell ⟨w.heap.size + 1 + 1 + 1, 0, none⟩ (.bool z)) :=
  ((hb.setCell (p := ⟨w.heap.size + 1, 0, none⟩) (by simp) _).setCell (p := ⟨w.heap.size + 1 + 1, 0, none⟩) (by simp; omega) _).setCell (p := ⟨w.heap.size + 1 + 1 + 1, 0, none⟩) (by simp; omega) _
/-- Three stores of results: the blocks. -/
theorem trace_heap {N : Nat} {V : World} {a b e : Value} {ta tb te : TypeId} (x y : ByteArray) (z : Bool) (z1 : V.heap[N + 1]? = some (.cells #[a] ta)) (z2 : V.heap[N + 1 + 1]? = some (.cells #[b] tb)) (z3 : V.heap[N + 1 + 1 + 1]? = some (.cells #[e] te)) :
    (((V.setCell ⟨N + 1, 0, none⟩ (.string x)).setCell ⟨N + 1 + 1, 0, none⟩ (.string y)).setCell ⟨N + 1 + 1 + 1, 0, none⟩ (.bool z)).heap[N + 1]? = some (.cells #[.string x] ta) ∧
    (((V.setCell ⟨N + 1, 0, none⟩ (.string x)).setCell ⟨N + 1 + 1, 0, none⟩ (.string y)).setCell ⟨N + 1 + 1 + 1, 0, none⟩ (.bool z)).heap[N + 1 + 1]? = some (.cells #[.string y] tb) ∧
    (((V.setCell ⟨N + 1, 0, none⟩ (.string x)).setCell ⟨N + 1 + 1, 0, none⟩ (.string y)).setCell ⟨N + 1 + 1 + 1, 0, none⟩ (.bool z)).heap[N + 1 + 1 + 1]? = some (.cells #[.bool z] te) := by
  refine ⟨?_, ?_, ?_⟩
  · exact (Below.heap_setCell _ ⟨N + 1 + 1 + 1, 0, none⟩ _ (N + 1) (by simp only []; omega)).trans ((Below.heap_setCell _ ⟨N + 1 + 1, 0, none⟩ _ (N + 1) (by simp only []; omega)).trans ((heap_setCell_same V (N + 1) 0 _ _ _ z1).trans rfl))
  · exact (Below.heap_setCell _ ⟨N + 1 + 1 + 1, 0, none⟩ _ (N + 1 + 1) (by simp only []; omega)).trans ((heap_setCell_same _ (N + 1 + 1) 0 _ _ _ ((Below.heap_setCell _ ⟨N + 1, 0, none⟩ _ (N + 1 + 1) (by simp only []; omega)).trans z2)).trans rfl)
  · exact (heap_setCell_same _ (N + 1 + 1 + 1) 0 _ _ _ ((Below.heap_setCell _ ⟨N + 1 + 1, 0, none⟩ _ (N + 1 + 1 + 1) (by simp only []; omega)).trans ((Below.heap_setCell _ ⟨N + 1, 0, none⟩ _ (N + 1 + 1 + 1) (by simp only []; omega)).trans z3))).trans rfl
theorem trace_may (l : List ByteArray) (i : Int) (s : ByteArray) (path : List ByteArray) (A B : Option Addr) (c c' : Nat) (hz : l.length ≤ 9223372036854775807) (h : ¬ mayN l.length) (w : World) :
    Calls Tryd.prog 25 #[.slice A l.length c, .int .i64 i, .string s, .slice B path.length c'] w fun e w' => e = .returned (outV none) ∧ Below w.heap.size w w' := by
  have hmay := fun V => tmay_no h hz A c V
  clear h
  generalize l.length = n at *
  generalize path.length = m at *
  go_enter Tryd.func25, Tryd.ntmps25
  go_wp2_with fail
  refine (hmay _).mono ?_
  rintro e w1 ⟨rfl, rfl⟩
  go_wp2
  exact bodyPost_ret (v := outV none) (trace_ret rfl rfl rfl (by go_simp) (by go_simp) (by go_simp)) rfl ⟨rfl, (((Below.alloc0 w _).alloc (by simp) _).alloc (by simp; omega) _).alloc (by simp; omega) _⟩
end Go.Proofs.YtgcohoonhklkbaaDoor

/-
  A region that draws, in a round of a range over a function (the wide fence; any program): walked as outside of one (Uptot), if it ends as it should.
-/
namespace Go.Kx
open Go

/-- Only a plain end. -/
def plainEnd (Q : Exit → Act → World → Prop) : Exit → Act → World → Prop
  | .normal, a, w => Q .normal a w
  | _, _, _ => False
theorem plainEnd_out {Q : Exit → Act → World → Prop} : ∀ e a w, plainEnd Q e a w → Q e a w
  | .normal, _, _, h => h
theorem plainEnd_in {Q : Exit → Act → World → Prop} {a : Act} {w : World} (h : Q .normal a w) : plainEnd Q .normal a w := h
theorem plainEnd_lets {Q : Exit → Act → World → Prop} (h : LetsOut (plainEnd Q)) : False := by
  obtain ⟨_, _, h⟩ := h
  exact h
/-- No operation is a defer statement. -/
def noDefers (ops : Array Oper) : Bool := ops.all fun o => match o.op with | .defer _ => false | _ => true
theorem noDefers_at {ops : Array Oper} (h : noDefers ops = true) {i : Nat} {o : Oper} (ho : ops[i]? = some o) : ∀ c, o.op ≠ .defer c := fun c e => by
  have h1 := Array.all_eq_true_iff_forall_mem.1 h o (Array.mem_of_getElem? ho)
  rw [e] at h1
  cases h1
theorem oper_round {P : Program} {o : Oper} {a : Act} {w : World} {K : Act → World → Prop} {Q : Exit → Act → World → Prop} {l n : Nat} (hd : ∀ c, o.op ≠ .defer c) (h : o.wp P a w K (plainEnd Q)) :
    o.wpIn (Fence.wide.inRound l) n P a w K Q := by
  refine ⟨fun _ _ => trivial, ?_⟩
  rw [Oper.semAt_plain _ _ _ hd]
  unfold Oper.wp at h
  generalize (execOp a.eval o).run P w = r at h
  cases r with
  | ok x w' =>
    cases x with
    | value v => exact h
    | skip => exact h
    | defer d => exact h
    | enter f args =>
      refine ⟨fun hdep => absurd hdep (by simp [Fence.wide]), CallsIn.inRound l (callsIn_wide.2 (Calls.mono h fun e w2 he => ?_))⟩
      cases e with
      | returned v => exact he
      | panicked c => exact he.elim
      | outgrown => exact (plainEnd_lets he).elim
    | row r args =>
      refine ⟨fun hdep => absurd hdep (by simp [Fence.wide]), fun c cs _ => ?_⟩
      obtain ⟨v, w2, hr, hs⟩ := h c cs
      exact ⟨v, w2, hr, stepsIn_wide.2 hs⟩
    | _ => exact h.elim
  | halt x w' =>
    cases x with
    | panic v => exact h.elim
    | _ => exact h.elim
theorem any_round {P : Program} {md : Region.Mode} {ops : Array Oper} {Q : Exit → Act → World → Prop} {l n : Nat} (hd : noDefers ops = true) : ∀ (fuel : Nat) (listed : Array Bool) (a : Act) (w : World),
    wpAny P md ops (plainEnd Q) fuel listed a w → wpAnyIn (Fence.wide.inRound l) n P md ops Q fuel listed a w
  | 0, _, _, _, h => h
  | fuel + 1, listed, a, w, h => by
    refine ⟨h.1, fun i hi => ?_⟩
    have h2 := h.2 i hi
    unfold wpOp at h2
    unfold wpOpIn
    split
    · rename_i he
      rw [he] at h2
      exact any_round hd fuel _ _ _ h2
    · rename_i o ho
      rw [ho] at h2
      simp only [] at h2
      split
      · rename_i hw
        rw [if_pos hw] at h2
        rcases h2 with h3 | ⟨_, h3⟩
        · exact Oper.wpIn_mono (fun a w h => any_round hd fuel _ a w h) (oper_round (noDefers_at hd ho) h3)
        · exact (plainEnd_lets h3).elim
      · rename_i hw
        rw [if_neg hw] at h2
        exact ⟨fun _ _ => trivial, any_round hd fuel _ _ _ h2⟩
theorem Uptot.begin_round {P : Program} {ls : List Oper} {a : Act} {w : World} {Q : Exit → Act → World → Prop} {id l n : Nat} (Ls : List Nat) (S T : World → Prop) (hm : P.follows .mixedOrders = true) (hd : noDefers ls.toArray = true)
    (h : Uptot P .any ls.toArray (plainEnd Q) S T Ls ls.length (Array.replicate ls.length false) a w.drew) : (Code.region id ls.toArray true).wpIn (Fence.wide.inRound l) n P Q a w := by
  refine wpIn_region_any hm (any_round hd _ _ _ _ (Uptot.any (S := S) (T := T) (Ls := Ls) _ _ _ _ ?_))
  simpa using h
end Go.Kx
