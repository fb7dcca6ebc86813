/-
  Merged by program: Ply3, Dgt, Ply10, Shr4, Upto, Uptot, Stil, Shr2, Shr3, Shr5, Shr6, Ply4, Ply5.
-/
import Derived.Test.YtljckcegcfidoaaM1
import Derived.OrdersHeld
import Derived.Deep.RegionHeld
import Derived.RegionTactic
import Derived.StillTailTactics
import Derived.Lib.LazyBuf
import Derived.Deep.MidRow
import Derived.Deep.Cut

/-
  poly: the contract of anySame.
-/
namespace Go.Proofs.Ytljckcegcfidoaa
open Go.RowKit Go.Kx Go.Maps
set_option maxRecDepth 100000

theorem keyed_int : Keyed Try.prog 3 := int_keyed Try.underlying3
theorem dig_wf {x : Int} (h : dig x = true) : (Lit.int .i64 x).wf = true := by
  obtain ⟨n, rfl, hn⟩ := dig_nat h
  exact WalkArith.wf_i64 (by omega)
theorem anySame_any (l : List Int) (A : Option Addr) (c : Nat) (hl : l.length ≤ 255) (hd : allI dig l = true) (w : World) (hs : Sl w A (intsI l)) :
    Calls Try.prog 59 #[.slice A l.length c] w fun e w' => e = .returned (.bool (!apartI l)) ∧ Below w.heap.size w w' := by
  have hmm := fun n w => run_makeMap_int (P := Try.prog) Try.underlying94 n w
  have hless := Lib.hid (setI_less (H := Unit) l)
  go_enter Try.func59, Try.ntmps59
  go_wp2
  go_loopw [11] (fun i wr => ∃ k : Nat, k ≤ l.length ∧ i = .int .i64 k ∧ wr.ownsMap Try.prog 3 unitElem w.heap.size k (setI (H := Unit) l k) ∧ Below w.heap.size w wr) (fun i _ => l.length - (intOf i).toNat)
  case atStart => exact ⟨0, Nat.zero_le _, rfl, by rw [setI_zero]; exact World.ownsMap_made _ _ _ _, Below.alloc0 _ _⟩
  case round =>
    obtain ⟨k, hk, rfl, hown, hb⟩ := hrel
    by_cases hlt : k < l.length
    · obtain ⟨b, off, rfl, hc⟩ := sl_int (hs.keep hb) hlt
      have hkey := keyOf_int_mk (P := Try.prog) Try.underlying3 (dig_wf (allI_at hd hlt))
      have hsucc := Lib.hid (setI_succ (H := Unit) l k hlt)
      generalize l.getD k 0 = x at *
      go_wp2_with (first
        | (at_mapUpdate; refine wpList_mapUpdate_own _ rfl _ _ _ 94 rfl 3 95 keyed_int Try.underlying94 (unitElem (H := Unit)) w.heap.size k _ rfl hown (by unfold maxLen; omega) _ _ _ rfl rfl hkey _ [] unitElem_mk ?_; intro w1 hown1 hgrow1)
        | go_in)
      go_roundw
      case rel => exact ⟨k + 1, by omega, by go_num, hsucc.out.symm ▸ hown1, hb.grown hgrow1 hb.size (fun j hj => by cases hj; exact Nat.le_refl _)⟩
      case measure => simp [intOf]; omega
    · obtain rfl : k = l.length := by omega
      go_wp2_with (first
        | (at_len; refine wpList_len_own _ rfl _ 94 rfl 3 95 Try.underlying94 _ w.heap.size _ _ rfl hown ?_)
        | go_in)
      go_ret
      exact ⟨ret_bool hless.out, hb⟩
end Go.Proofs.Ytljckcegcfidoaa

/-
  keyholeref07.Digit: the contract.
-/
namespace Go.Proofs.Ytljckcegcfidoaa
open Go.RowKit Go.Kx
set_option maxRecDepth 20000

theorem rdigit_any (a : Int) (w : World) : Calls Try.prog 58 #[.int .i64 a] w fun e w' => e = .returned (.bool (dig a)) ∧ w' = w := by
  go_enter Try.func58, Try.ntmps58
  by_cases h : 0 ≤ a
  · go_wp2
    go_ret
    exact ⟨ret_bool (by simp [dig, h]; omega), rfl⟩
  · go_wp2
    go_ret
    exact ⟨ret_bool (by simp [dig]; omega), rfl⟩
end Go.Proofs.Ytljckcegcfidoaa

/-
  keyholeref08: the contracts of All and Places.
-/
namespace Go.Proofs.Ytljckcegcfidoaa
open Go.RowKit Go.Kx
set_option maxRecDepth 20000

theorem rallI_any (l : List Int) (A : Option Addr) (c : Nat) (hl : l.length ≤ 9223372036854775807) (w : World) (hs : Sl w A (intsI l)) :
    Calls Try.prog 57 #[.slice A l.length c] w fun e w' => e = .returned (.bool (allI dig l)) ∧ w' = w := by
  go_enter Try.func57, Try.ntmps57
  go_wp2
  go_loop [3] (fun i => ∃ k : Nat, i = .int .i64 k ∧ k ≤ l.length ∧ Hid (∀ j, j < k → dig (l.getD j 0) = true)) (fun i => l.length - (intOf i).toNat)
  case atStart => exact ⟨0, rfl, by omega, Lib.hid (fun j hj => by omega)⟩
  case round =>
    obtain ⟨k, rfl, hk, hd⟩ := hrel
    by_cases hlt : k < l.length
    · obtain ⟨b, off, rfl, hc⟩ := sl_int hs hlt
      have hn := Lib.hid (fun h => allI_no (p := dig) hlt h)
      have hd2 : Hid (dig (l.getD k 0) = true → ∀ j, j < k + 1 → dig (l.getD j 0) = true) := Lib.hid (fun h j hj => by
        by_cases e : j = k
        · rw [e]; exact h
        · exact hd.out j (by omega))
      generalize l.getD k 0 = x at *
      cases hx : dig x with
      | true =>
        go_wp2_with fail
        refine (rdigit_any _ _).mono ?_
        rintro e w1 ⟨rfl, rfl⟩
        go_wp2
        go_round
        case rel => exact ⟨k + 1, by go_num, by omega, Lib.hid (hd2.out hx)⟩
        case measure => simp [intOf]; omega
      | false =>
        go_wp2_with fail
        refine (rdigit_any _ _).mono ?_
        rintro e w1 ⟨rfl, rfl⟩
        go_wp2
        go_ret
        exact ⟨ret_bool (hn.out hx).symm, rfl⟩
    · obtain rfl : k = l.length := by omega
      go_wp2
      go_ret
      exact ⟨ret_bool (allI_yes hd.out).symm, rfl⟩
theorem apartI_iff {l : List Int} : apartI l = true ↔ ∀ j, j < l.length → ∀ k, k < j → l.getD j 0 ≠ l.getD k 0 := by
  rw [apartI_nodup]
  unfold List.Nodup
  rw [List.pairwise_iff_getElem]
  constructor
  · intro h j hj k hk
    have := h k j (by omega) hj hk
    rw [List.getD, List.getD, List.getElem?_eq_getElem hj, List.getElem?_eq_getElem (show k < l.length by omega)]
    exact fun e => this e.symm
  · intro h i j hi hj hij
    have := h j hj i hij
    rw [List.getD, List.getD, List.getElem?_eq_getElem hj, List.getElem?_eq_getElem hi] at this
    exact fun e => this e.symm
/-- Places of 1 to 255 digits, no two the same. -/
def placesB (l : List Int) : Bool := decide (1 ≤ l.length) && decide (l.length ≤ 255) && allI dig l && apartI l
theorem placesB_no {l : List Int} (h : apartI l = false) : placesB l = false := by simp [placesB, h]
set_option maxHeartbeats 1000000 in
theorem places_any (l : List Int) (A : Option Addr) (c : Nat) (hl : l.length ≤ 9223372036854775807) (w : World) (hs : Sl w A (intsI l)) :
    Calls Try.prog 62 #[.slice A l.length c] w fun e w' => e = .returned (.bool (placesB l)) ∧ Below w.heap.size w w' := by
  go_enter Try.func62, Try.ntmps62
  go_wp2
  go_loopw [3] (fun i wr => ∃ k : Nat, i = .int .i64 k ∧ k ≤ l.length ∧ Hid (∀ j, j < k → ∀ m, m < j → l.getD j 0 ≠ l.getD m 0) ∧ Below w.heap.size w wr) (fun i _ => l.length - (intOf i).toNat)
  case atStart => exact ⟨0, rfl, by omega, Lib.hid (fun j hj => by omega), Below.refl _ _⟩
  case round =>
    obtain ⟨k, rfl, hk, hd, hb⟩ := hrel
    by_cases hlt : k < l.length
    · go_wp2
      go_loopw [4] (fun i wr => ∃ m : Nat, i = .int .i64 m ∧ m ≤ k ∧ Hid (∀ j, j < m → l.getD k 0 ≠ l.getD j 0) ∧ Below w.heap.size w wr) (fun i _ => k - (intOf i).toNat)
      case atStart => exact ⟨0, rfl, by omega, Lib.hid (fun j hj => by omega), hb⟩
      case round =>
        clear hb
        obtain ⟨m, rfl, hm, he, hb⟩ := hrel
        by_cases hlm : m < k
        · obtain ⟨b, off, rfl, hc⟩ := sl_int (hs.keep hb) hlt
          obtain ⟨b', off', e', hc'⟩ := sl_int (hs.keep hb) (show m < l.length by omega)
          obtain ⟨rfl, rfl⟩ : b = b' ∧ off = off' := by simpa using e'
          clear e'
          have hbD := fun n : Nat => hb.next' (Below.drewN0 _ n)
          have hHE := Lib.hid he.out
          obtain ⟨x, hx⟩ : ∃ x, l.getD k 0 = x := ⟨_, rfl⟩
          obtain ⟨y, hy⟩ : ∃ y, l.getD m 0 = y := ⟨_, rfl⟩
          rw [hx] at hc
          rw [hy] at hc'
          have hlk : (k : Int) < (l.length : Int) := by omega
          have hlm' : (m : Int) < (l.length : Int) := by omega
          by_cases hxy : x = y
          · have hno : Hid (placesB l = false) := Lib.hid (placesB_no (by
              cases h : apartI l with
              | false => rfl
              | true => exact absurd (hx.trans (hxy.trans hy.symm)) (apartI_iff.1 h k hlt m hlm)))
            have t1 : (x == y) = true := by simpa using hxy
            clear hxy hx hy
            go_wp2
            go_quiet (fail)
            go_wp2
            go_ret
            exact ⟨ret_bool hno.out.symm, hbD _⟩
          · have t1 : (x == y) = false := by simpa using hxy
            have hnew : Hid (∀ j, j < m + 1 → l.getD k 0 ≠ l.getD j 0) := Lib.hid (fun j hj => by
              by_cases e : j = m
              · rw [e, hx, hy]; exact hxy
              · exact hHE.out j (by omega))
            clear hxy hx hy
            go_wp2
            go_quiet (fail)
            go_wp2
            go_roundw
            case rel => exact ⟨m + 1, by go_num, by omega, hnew, hbD _⟩
            case measure => simp [intOf]; omega
        · obtain rfl : m = k := by omega
          have hnew : Hid (∀ j, j < m + 1 → ∀ n, n < j → l.getD j 0 ≠ l.getD n 0) := Lib.hid (fun j hj n hn => by
            by_cases e : j = m
            · rw [e]; exact he.out n (by omega)
            · exact hd.out j (by omega) n hn)
          go_wp2
          go_roundw
          case rel => exact ⟨m + 1, by go_num, by omega, hnew, hb⟩
          case measure => simp [intOf]; omega
    · obtain rfl : k = l.length := by omega
      have hap := apartI_iff.2 hd.out
      have hsk := hs.keep hb
      by_cases h1 : 1 ≤ l.length
      · by_cases h2 : l.length ≤ 255
        · have hr : Hid (allI dig l = placesB l) := Lib.hid (by simp [placesB, h1, h2, hap])
          go_wp2_with fail
          refine (rallI_any l A c hl _ hsk).mono ?_
          rintro e w1 ⟨rfl, rfl⟩
          go_wp2
          go_ret
          exact ⟨ret_bool hr.out, hb⟩
        · have hr : Hid (false = placesB l) := Lib.hid (by simp [placesB]; omega)
          go_wp2
          go_ret
          exact ⟨ret_bool hr.out, hb⟩
      · have hr : Hid (false = placesB l) := Lib.hid (by simp [placesB]; omega)
        go_wp2
        go_ret
        exact ⟨ret_bool hr.out, hb⟩
end Go.Proofs.Ytljckcegcfidoaa

/-
  share: the contracts of showsSecret, areRight and apart.
-/
namespace Go.Proofs.Ytljckcegcfidoaa
open Go.RowKit Go.Kx
set_option maxRecDepth 20000

/-! ### what shares are right -/
def xsL (l : List Sh) : List Int := l.map Prod.fst
theorem xsL_length (l : List Sh) : (xsL l).length = l.length := by simp [xsL]
theorem xsL_at (l : List Sh) {k : Nat} (h : k < l.length) : (xsL l).getD k 0 = (l.getD k sh0).1 := by simp [xsL, List.getD, h]
def okSh (s : Sh) : Bool := dig s.1 && decide (s.2.size = 32)
def allSh (l : List Sh) : Bool := l.all okSh
def rightB (l : List Sh) : Bool := decide (1 ≤ l.length) && decide (l.length ≤ 255) && allSh l && apartI (xsL l)
def zeroB (l : List Sh) : Bool := l.any fun s => decide (s.1 = 0)
theorem zeroB_yes {l : List Sh} {k : Nat} (hk : k < l.length) (h : (l.getD k sh0).1 = 0) : zeroB l = true := by
  rw [zeroB, List.any_eq_true]
  refine ⟨l[k], List.getElem_mem hk, ?_⟩
  rw [List.getD, List.getElem?_eq_getElem hk] at h
  simpa using h
theorem zeroB_no {l : List Sh} (h : ∀ k, k < l.length → (l.getD k sh0).1 ≠ 0) : zeroB l = false := by
  rw [zeroB, List.any_eq_false]
  intro x hx
  obtain ⟨k, hk, rfl⟩ := List.getElem_of_mem hx
  have := h k hk
  rw [List.getD, List.getElem?_eq_getElem hk] at this
  simpa using this
theorem allSh_no {l : List Sh} {k : Nat} (hk : k < l.length) (h : okSh (l.getD k sh0) = false) : allSh l = false := by
  rw [allSh, List.all_eq_false]
  refine ⟨l[k], List.getElem_mem hk, ?_⟩
  rw [List.getD, List.getElem?_eq_getElem hk] at h
  simpa using h
theorem allSh_yes {l : List Sh} (h : ∀ k, k < l.length → okSh (l.getD k sh0) = true) : allSh l = true := by
  rw [allSh, List.all_eq_true]
  intro x hx
  obtain ⟨k, hk, rfl⟩ := List.getElem_of_mem hx
  have := h k hk
  rwa [List.getD, List.getElem?_eq_getElem hk] at this
theorem allSh_at {l : List Sh} (h : allSh l = true) {k : Nat} (hk : k < l.length) : okSh (l.getD k sh0) = true := by
  rw [List.getD, List.getElem?_eq_getElem hk]
  exact List.all_eq_true.1 h _ (List.getElem_mem hk)
theorem okSh_of {s : Sh} (h : okSh s = true) : dig s.1 = true ∧ s.2.size = 32 := by simpa [okSh] using h
theorem rightB_of {l : List Sh} (h : rightB l = true) : 1 ≤ l.length ∧ l.length ≤ 255 ∧ allSh l = true ∧ apartI (xsL l) = true := by
  simp [rightB] at h
  exact ⟨h.1.1.1, h.1.1.2, h.1.2, h.2⟩
/-- Which X are among the first k. -/
def seenX (l : List Sh) (k : Nat) (j : Nat) : Bool := ((xsL l).take k).contains (j : Int)
theorem seenX_zero (l : List Sh) (j : Nat) : seenX l 0 j = false := by simp [seenX]
theorem seenX_set (l : List Sh) {k x : Nat} (hk : k < l.length) (hx : (l.getD k sh0).1 = x) (j : Nat) : (if j = x then Value.bool true else .bool (seenX l k j)) = .bool (seenX l (k + 1) j) := by
  have e : (xsL l).take (k + 1) = (xsL l).take k ++ [(x : Int)] := by
    rw [List.take_add_one]
    congr 1
    have := xsL_at l hk
    rw [hx, List.getD, List.getElem?_eq_getElem (by rw [xsL_length]; exact hk)] at this
    rw [List.getElem?_eq_getElem (by rw [xsL_length]; exact hk)]
    simpa using this
  unfold seenX
  rw [e]
  by_cases h : j = x
  · subst h; simp
  · rw [if_neg h]
    congr 1
    rw [Bool.eq_iff_iff]
    simp only [List.contains_iff_mem, List.mem_append, List.mem_singleton]
    constructor
    · exact fun h2 => .inl h2
    · rintro (h2 | h2)
      · exact h2
      · exact absurd (by omega) h
theorem seen_no {l : List Sh} {k x : Nat} (hk : k < l.length) (hx : (l.getD k sh0).1 = x) (h : seenX l k x = true) : apartI (xsL l) = false := by
  cases e : apartI (xsL l) with
  | false => rfl
  | true =>
    have hm : (x : Int) ∈ (xsL l).take k := by simpa [seenX] using h
    obtain ⟨j, hj, he⟩ := List.getElem_of_mem hm
    have hjk : j < k := by simp at hj; omega
    have h1 := apartI_iff.1 e k (by rw [xsL_length]; exact hk) j hjk
    refine absurd ?_ h1
    rw [xsL_at l hk, hx, ← he, List.getElem_take, List.getD, List.getElem?_eq_getElem]
    rfl
theorem seen_yes {l : List Sh} (h : ∀ k, k < l.length → ∃ x : Nat, (l.getD k sh0).1 = x ∧ seenX l k x = false) : apartI (xsL l) = true := by
  rw [apartI_iff]
  intro j hj k hk e
  rw [xsL_length] at hj
  obtain ⟨x, hx, hs⟩ := h j hj
  rw [xsL_at l hj, hx] at e
  have : seenX l j x = true := by
    rw [seenX, List.contains_iff_mem, List.mem_take_iff_getElem]
    refine ⟨k, by simp [xsL_length]; omega, ?_⟩
    rw [e, List.getD, List.getElem?_eq_getElem (by rw [xsL_length]; omega)]
    rfl
  rw [hs] at this
  cases this

/-! ### showsSecret -/
set_option maxHeartbeats 1000000 in
theorem shows_any (l : List Sh) (A : Option Addr) (c : Nat) (hl : l.length ≤ 9223372036854775807) (w : World) (hs : Sl w A (shV l)) :
    Calls Try.prog 29 #[.slice A l.length c] w fun e w' => e = .returned (.bool (zeroB l)) ∧ Below w.heap.size w w' := by
  go_enter Try.func29, Try.ntmps29
  go_wp2
  go_loopw [7] (fun i wr => ∃ k : Nat, k ≤ l.length ∧ i = .int .i64 (k : Int) ∧ Hid (∀ j, j < k → (l.getD j sh0).1 ≠ 0) ∧ Below w.heap.size w wr) (fun i _ => l.length - (intOf i).toNat)
  case atStart => exact ⟨0, by omega, rfl, Lib.hid (fun j hj => by omega), Below.refl _ _⟩
  case round =>
    obtain ⟨k, hk, rfl, hd, hb⟩ := hrel
    by_cases hlt : k < l.length
    · obtain ⟨b, off, rfl, hx, hy⟩ := sl_sh (hs.keep hb) hlt
      have HY := Lib.hid (fun h => zeroB_yes (l := l) hlt h)
      have HN : Hid ((l.getD k sh0).1 ≠ 0 → ∀ j, j < k + 1 → (l.getD j sh0).1 ≠ 0) := Lib.hid (fun h j hj => by
        by_cases e : j = k
        · rw [e]; exact h
        · exact hd.out j (by omega))
      generalize (l.getD k sh0).1 = x at *
      generalize (l.getD k sh0).2 = y at *
      have hb2 := fun (o : Obj) => hb.al o
      by_cases hz : x = 0
      · subst hz
        have e := Lib.hid (HY.out rfl)
        go_wp2
        go_ret
        exact ⟨ret_bool e.out.symm, hb2 _⟩
      · have t1 : (x == 0) = false := by simpa using hz
        have H := Lib.hid (HN.out hz)
        clear hz
        go_wp2
        go_roundw
        case rel => exact ⟨k + 1, by omega, by go_num, H, hb2 _⟩
        case measure => simp [intOf]; omega
    · obtain rfl : k = l.length := by omega
      have e := Lib.hid (zeroB_no hd.out)
      go_wp2
      go_ret
      exact ⟨ret_bool e.out.symm, hb⟩

/-! ### areRight -/
theorem seen_zero : Try.zeroCells84 = (List.replicate 256 (Value.bool false)).toArray := by kernel_rfl
set_option maxHeartbeats 4000000 in
theorem right_any (l : List Sh) (A : Option Addr) (c : Nat) (hl : l.length ≤ 9223372036854775807) (w : World) (hs : Sl w A (shV l)) :
    Calls Try.prog 32 #[.slice A l.length c] w fun e w' => e = .returned (.bool (rightB l)) ∧ Below w.heap.size w w' := by
  by_cases h1 : l.length < 1
  · have hr : rightB l = false := by simp [rightB]; omega
    rw [hr]
    go_enter Try.func32, Try.ntmps32
    go_wp2
    go_ret
    exact ⟨rfl, Below.refl _ _⟩
  by_cases h2 : 255 < l.length
  · have hr : rightB l = false := by simp [rightB]; omega
    rw [hr]
    go_enter Try.func32, Try.ntmps32
    go_wp2
    go_ret
    exact ⟨rfl, Below.refl _ _⟩
  have HR : Hid (allSh l = true → apartI (xsL l) = true → rightB l = true) := Lib.hid (fun a b => by simp [rightB, a, b]; omega)
  have HNA : Hid (allSh l = false → rightB l = false) := Lib.hid (fun a => by simp [rightB, a])
  have HNP : Hid (apartI (xsL l) = false → rightB l = false) := Lib.hid (fun a => by simp [rightB, a])
  have h1i : ¬ ((l.length : Int) < 1) := by omega
  have h2i : ¬ ((255 : Int) < (l.length : Int)) := by omega
  have hT : (w.alloc (.cells Try.zeroCells84 84)).rowIs w.heap.size 84 256 (fun j => .bool (seenX l 0 j)) :=
    (rowIs_new seen_zero).congr fun j _ => by rw [seenX_zero]
  have hb0 := Below.alloc0 w (.cells Try.zeroCells84 84)
  go_enter Try.func32, Try.ntmps32
  go_wp2_with fail
  generalize World.alloc w _ = W at *
  go_loopw [16] (fun i wr => ∃ k : Nat, k ≤ l.length ∧ i = .int .i64 (k : Int) ∧ Hid (∀ j, j < k → okSh (l.getD j sh0) = true ∧ ∃ x : Nat, (l.getD j sh0).1 = x ∧ seenX l j x = false) ∧ wr.rowIs w.heap.size 84 256 (fun j => .bool (seenX l k j)) ∧ Below w.heap.size w wr) (fun i _ => l.length - (intOf i).toNat)
  case atStart => exact ⟨0, by omega, rfl, Lib.hid (fun j hj => by omega), hT, hb0⟩
  case round =>
    clear hT hb0
    obtain ⟨k, hk, rfl, hd, hr, hb⟩ := hrel
    by_cases hlt : k < l.length
    · obtain ⟨b, off, rfl, hx, hy⟩ := sl_sh (hs.keep hb) hlt
      obtain ⟨x, hX⟩ : ∃ x, (l.getD k sh0).1 = x := ⟨_, rfl⟩
      obtain ⟨y, hY⟩ : ∃ y, (l.getD k sh0).2 = y := ⟨_, rfl⟩
      have HX := Lib.hid hX
      have HYY := Lib.hid hY
      have HOK : Hid (okSh (l.getD k sh0) = (dig x && decide (y.size = 32))) := Lib.hid (by rw [okSh, hX, hY])
      rw [hX] at hx
      rw [hY] at hy
      clear hX hY
      have hb2 := hb.al (.cells #[.int .i64 x, .string y] 39)
      have hr2 := rowIs_keep hr (Below.alloc0 wr (.cells #[.int .i64 x, .string y] 39))
      have HNA2 : Hid (okSh (l.getD k sh0) = false → rightB l = false) := Lib.hid (fun h => HNA.out (allSh_no hlt h))
      by_cases hx0 : x < 0
      · have hd0 : dig x = false := by simp [dig]; omega
        have e := Lib.hid (HNA2.out (by rw [HOK.out, hd0]; rfl))
        clear hd0 hr2 hr
        go_wp2
        go_ret
        exact ⟨ret_bool e.out.symm, hb2⟩
      by_cases hx1 : 255 < x
      · have hd0 : dig x = false := by simp [dig]; omega
        have e := Lib.hid (HNA2.out (by rw [HOK.out, hd0]; simp))
        clear hd0 hr2 hr
        go_wp2
        go_ret
        exact ⟨ret_bool e.out.symm, hb2⟩
      obtain ⟨x, rfl⟩ : ∃ m : Nat, x = m := ⟨x.toNat, by omega⟩
      have hxl : x < 256 := by omega
      have hcell := hr2.cell (i := x) hxl
      have hfz := hr2.frozen x
      have HSEEN := Lib.hid (fun h => HNP.out (seen_no (k := k) hlt HX.out h))
      have HNX := Lib.hid (fun j => seenX_set l hlt HX.out j)
      cases hsn : seenX l k x with
      | true =>
        have e := Lib.hid (HSEEN.out hsn)
        rw [hsn] at hcell
        clear hsn hr2 hr
        go_wp2
        go_ret
        exact ⟨ret_bool e.out.symm, hb2⟩
      | false =>
        have HSN := Lib.hid hsn
        rw [hsn] at hcell
        clear hsn
        by_cases hz : (y.size : Int) = 32
        · have t1 : ((y.size : Int) != 32) = false := by simpa using hz
          have HD : Hid (∀ j, j < k + 1 → okSh (l.getD j sh0) = true ∧ ∃ x : Nat, (l.getD j sh0).1 = x ∧ seenX l j x = false) := Lib.hid (fun j hj => by
            by_cases e : j = k
            · subst e
              exact ⟨by rw [HOK.out, dig_of hxl]; simp; omega, x, HX.out, HSN.out⟩
            · exact hd.out j (by omega))
          clear hz
          go_wp2
          go_roundw
          case rel => exact ⟨k + 1, by omega, by go_num, HD, (hr2.set x _).congr fun j _ => HNX.out j, hb2.setCell (by show w.heap.size ≤ w.heap.size; omega) _⟩
          case measure => simp [intOf]; omega
        · have t1 : ((y.size : Int) != 32) = true := by simpa using hz
          have e := Lib.hid (HNA2.out (by rw [HOK.out]; simp; intro _ h; omega))
          clear hz
          go_wp2
          go_ret
          exact ⟨ret_bool e.out.symm, hb2⟩
    · obtain rfl : k = l.length := by omega
      have e := Lib.hid (HR.out (allSh_yes fun j hj => (hd.out j hj).1) (seen_yes fun j hj => (hd.out j hj).2))
      go_wp2
      go_ret
      exact ⟨ret_bool e.out.symm, hb⟩
end Go.Proofs.Ytljckcegcfidoaa

/-
  A region that draws, whose last operation L writes what others of it read: a condition S on the world is asked behind every operation but L. What reads under S may be taken first, if L waits for it.
-/
namespace Go.Kx

section
variable {P : Program} {md : Region.Mode} {ops : Array Oper} {Q : Exit → Act → World → Prop} {S : World → Prop} {L : Nat}

def Upto (P : Program) (md : Region.Mode) (ops : Array Oper) (Q : Exit → Act → World → Prop) (S : World → Prop) (L : Nat) : Nat → Array Bool → Act → World → Prop
  | 0, l, a, w => Region.ready md ops l = [] ∧ Q .normal a w
  | n + 1, l, a, w => (Region.ready md ops l = [] → Q .normal a w) ∧
      ∀ i ∈ Region.ready md ops l, wpOp P ops Q i (fun a' w' => (i = L ∨ S w') ∧ Upto P md ops Q S L n (l.setIfInBounds i true) a' w') a w
theorem Upto.any : ∀ (n : Nat) (l : Array Bool) (a : Act) (w : World), Upto P md ops Q S L n l a w → wpAny P md ops Q n l a w
  | 0, _, _, _, h => h
  | n + 1, _, _, _, h => ⟨h.1, fun i hi => wpOp_mono (fun a' w' h' => Upto.any n _ a' w' h'.2) (h.2 i hi)⟩
def waits (md : Region.Mode) (ops : Array Oper) (L i : Nat) : Bool := match ops[L]? with
  | some o => o.after.toList.any fun e => Region.binds md e && e.on == i
  | none => true
theorem listed_no {l : Array Bool} {i : Nat} (h0 : l.getD i true = false) (h1 : l.getD i false = true) : False := by
  rcases Nat.lt_or_ge i l.size with h | h
  · simp [h] at h0 h1; rw [h0] at h1; cases h1
  · simp [Array.getElem?_eq_none h] at h1
theorem waits_ready {i : Nat} {l : Array Bool} (h : waits md ops L i = true) (hi : i ∈ Region.ready md ops l) : L ∉ Region.ready md ops l := by
  intro hL
  obtain ⟨_, o, ho, hall⟩ := mem_ready.1 hL
  have h0 := (mem_ready.1 hi).1
  unfold waits at h
  rw [ho] at h
  obtain ⟨e, he, hb⟩ := List.any_eq_true.1 h
  simp only [Bool.and_eq_true, beq_iff_eq] at hb
  have h1 := hall e (by simpa using he) hb.1
  rw [hb.2] at h1
  exact listed_no h0 h1
theorem Upto.take_gen {i : Nat} {oi : Oper} {v : Value} (hi : ops[i]? = some oi) (hs : Region.noSelect ops = true) (hL : waits md ops L i = true) (hQ : ∀ c a w, Q (.panic c) (a.put oi.dst v) w → Q (.panic c) a w) :
    ∀ (n : Nat) (l : Array Bool) (a : Act) (w : World), (∀ j oj, ops[j]? = some oj → j ≠ i → l.getD j true = false → (∀ e ∈ oj.after, Region.binds md e = true → e.on ≠ i) → oi.apart ops oj = true) →
      i ∈ Region.ready md ops l → YieldsIf P ops S oi v a → S w → Upto P md ops Q S L n (l.setIfInBounds i true) (a.put oi.dst v) w → Upto P md ops Q S L (n + 1) l a w := by
  intro n
  induction n with
  | zero =>
    intro l a w _ hr hy hS H
    refine ⟨fun h => (by rw [h] at hr; cases hr), fun j hj => ?_⟩
    by_cases hji : j = i
    · subst hji; exact hy.wpOp hi hS ⟨.inr hS, H⟩
    · have h1 := ready_mono hj hji
      rw [H.1] at h1
      cases h1
  | succ n ih =>
    intro l a w hf hr hy hS H
    refine ⟨fun h => (by rw [h] at hr; cases hr), fun j hj => ?_⟩
    by_cases hji : j = i
    · subst hji; exact hy.wpOp hi hS ⟨.inr hS, H⟩
    · have hjL : j ≠ L := fun h => waits_ready hL hr (h ▸ hj)
      obtain ⟨hun, oj, hoj, hall⟩ := mem_ready.1 hj
      have hno : ∀ e ∈ oj.after, Region.binds md e = true → e.on ≠ i := fun e he hb heq => listed_no (mem_ready.1 hr).1 (by have := hall e he hb; rwa [heq] at this)
      have h2 := wpOp_putIf hoj (hf j oj hoj hji hun hno) (fun cs b => Region.noSelect_spec hs i oi cs b hi) (fun cs b => Region.noSelect_spec hs j oj cs b hoj) hQ hy (H.2 j (ready_mono hj hji))
      refine wpOp_mono (fun a' w' h3 => ?_) h2
      have hS' := h3.2.1.resolve_left hjL
      refine ⟨.inr hS', ih _ a' w' (fun k ok hk hki huk hnk => ?_) (ready_mono hr (Ne.symm hji)) h3.1 hS' (by rw [Array.setIfInBounds_comm _ _ hji]; exact h3.2.2)⟩
      refine hf k ok hk hki ?_ hnk
      by_cases hjk : j = k
      · subst hjk; exact hun
      · rwa [getD_set_ne true hjk] at huk
end
section
variable {P : Program} {md : Region.Mode} {ls : List Oper} {Q : Exit → Act → World → Prop} {S : World → Prop} {L n : Nat} {l : Array Bool} {a : Act} {w : World}
theorem drop_at {ls rest : List Oper} {i : Nat} {o : Oper} (h : ls.drop i = o :: rest) : ls.toArray[i]? = some o := by
  have := congrArg (fun x : List Oper => x[0]?) h
  simpa [List.getElem?_drop] using this
theorem Upto.take {i : Nat} {oi : Oper} {rest : List Oper} {v : Value} (hi : ls.drop i = oi :: rest) (hs : Region.noSelect ls.toArray = true) (hf : Region.free md ls.toArray l i = true) (hr : (Region.ready md ls.toArray l).contains i = true)
    (hL : waits md ls.toArray L i = true) (hQ : ∀ c a w, Q (.panic c) (a.put oi.dst v) w → Q (.panic c) a w) (hy : YieldsIf P ls.toArray S oi v a) (hS : S w)
    (h : Upto P md ls.toArray Q S L n (l.setIfInBounds i true) (a.put oi.dst v) w) : Upto P md ls.toArray Q S L (n + 1) l a w :=
  Upto.take_gen (drop_at hi) hs hL hQ n l a w (Region.free_spec (drop_at hi) hf) (by simpa using hr) hy hS h
theorem Upto.step {i : Nat} {o : Oper} {rest : List Oper} (ho : ls.drop i = o :: rest)
    (h : ∀ K : Act → World → Prop, Shut (∀ a w, (i = L ∨ S w) → Upto P md ls.toArray Q S L n (l.setIfInBounds i true) a w → K a w) → if Region.wanted o (yielded ls.toArray a.tmps) = true then Oper.wp P o a w K Q else K (a.put o.dst undef) w) :
    wpOp P ls.toArray Q i (fun a' w' => (i = L ∨ S w') ∧ Upto P md ls.toArray Q S L n (l.setIfInBounds i true) a' w') a w :=
  wpOp_step (drop_at ho) fun K hK => h K fun a w h1 h2 => hK a w ⟨h1, h2⟩
theorem Upto.one {i : Nat} (hr : Region.ready md ls.toArray l = [i]) (h : wpOp P ls.toArray Q i (fun a' w' => (i = L ∨ S w') ∧ Upto P md ls.toArray Q S L n (l.setIfInBounds i true) a' w') a w) :
    Upto P md ls.toArray Q S L (n + 1) l a w := ⟨fun h0 => (by rw [hr] at h0; cases h0), fun j hj => by
  rw [hr] at hj
  obtain rfl := List.mem_singleton.1 hj
  exact h⟩
theorem Upto.two {i j : Nat} (hr : Region.ready md ls.toArray l = [i, j]) (h : wpOp P ls.toArray Q i (fun a' w' => (i = L ∨ S w') ∧ Upto P md ls.toArray Q S L n (l.setIfInBounds i true) a' w') a w)
    (h' : wpOp P ls.toArray Q j (fun a' w' => (j = L ∨ S w') ∧ Upto P md ls.toArray Q S L n (l.setIfInBounds j true) a' w') a w) :
    Upto P md ls.toArray Q S L (n + 1) l a w := ⟨fun h0 => (by rw [hr] at h0; cases h0), fun k hk => by
  rw [hr] at hk
  rcases List.mem_cons.1 hk with rfl | hk
  · exact h
  · obtain rfl := List.mem_singleton.1 hk
    exact h'⟩
theorem Upto.done (hr : Region.ready md ls.toArray l = []) (h : Q .normal a w) : ∀ n, Upto P md ls.toArray Q S L n l a w
  | 0 => ⟨hr, h⟩
  | _ + 1 => ⟨fun _ => h, by rw [hr]; simp⟩
theorem Upto.begin_ {id : Nat} (L : Nat) (S : World → Prop) (hm : P.follows .mixedOrders = true) (h : Upto P .any ls.toArray Q S L ls.length (Array.replicate ls.length false) a w.drew) : (Code.region id ls.toArray true).wp P Q a w := by
  refine wp_region_any hm (Upto.any (S := S) (L := L) _ _ _ _ ?_)
  simpa using h
end
end Go.Kx

/-
  A region that draws, some operations of which (Ls) write what others of it read: of two conditions on the world S is asked behind every operation, T until one of Ls has come. What reads under S and T may be taken first, if those of Ls wait for it; what reads under S alone always.
-/
namespace Go.Kx

section
variable {P : Program} {md : Region.Mode} {ops : Array Oper} {Q : Exit → Act → World → Prop} {S T : World → Prop} {Ls : List Nat}

def come (Ls : List Nat) (l : Array Bool) : Bool := Ls.any fun L => l.getD L false
def Cond (S T : World → Prop) (Ls : List Nat) (l : Array Bool) (w : World) : Prop := S w ∧ (come Ls l = true ∨ T w)
def Uptot (P : Program) (md : Region.Mode) (ops : Array Oper) (Q : Exit → Act → World → Prop) (S T : World → Prop) (Ls : List Nat) : Nat → Array Bool → Act → World → Prop
  | 0, l, a, w => Region.ready md ops l = [] ∧ Q .normal a w
  | n + 1, l, a, w => (Region.ready md ops l = [] → Q .normal a w) ∧
      ∀ i ∈ Region.ready md ops l, wpOp P ops Q i (fun a' w' => Cond S T Ls (l.setIfInBounds i true) w' ∧ Uptot P md ops Q S T Ls n (l.setIfInBounds i true) a' w') a w
theorem Uptot.any : ∀ (n : Nat) (l : Array Bool) (a : Act) (w : World), Uptot P md ops Q S T Ls n l a w → wpAny P md ops Q n l a w
  | 0, _, _, _, h => h
  | n + 1, _, _, _, h => ⟨h.1, fun i hi => wpOp_mono (fun a' w' h' => Uptot.any n _ a' w' h'.2) (h.2 i hi)⟩
theorem come_set {l : Array Bool} {i : Nat} (h : i ∉ Ls) : come Ls (l.setIfInBounds i true) = come Ls l := by
  unfold come
  rw [Bool.eq_iff_iff, List.any_eq_true, List.any_eq_true]
  have e : ∀ L ∈ Ls, (l.setIfInBounds i true).getD L false = l.getD L false := fun L hL => getD_set_ne false (fun e => h (e ▸ hL))
  constructor
  · rintro ⟨L, hL, h1⟩
    exact ⟨L, hL, by rw [← e L hL]; exact h1⟩
  · rintro ⟨L, hL, h1⟩
    exact ⟨L, hL, by rw [e L hL]; exact h1⟩
theorem Uptot.take_gen {i : Nat} {oi : Oper} {v : Value} {R : World → Prop} (hi : ops[i]? = some oi) (hiL : i ∉ Ls) (hs : Region.noSelect ops = true) (hR : ∀ w, S w → T w → R w) (hM : (∀ w, S w → R w) ∨ ∀ L ∈ Ls, waits md ops L i = true)
    (hQ : ∀ c a w, Q (.panic c) (a.put oi.dst v) w → Q (.panic c) a w) :
    ∀ (n : Nat) (l : Array Bool) (a : Act) (w : World), (∀ j oj, ops[j]? = some oj → j ≠ i → l.getD j true = false → (∀ e ∈ oj.after, Region.binds md e = true → e.on ≠ i) → oi.apart ops oj = true) →
      i ∈ Region.ready md ops l → ((∀ w, S w → R w) ∨ come Ls l = false) → YieldsIf P ops R oi v a → Cond S T Ls l w → Uptot P md ops Q S T Ls n (l.setIfInBounds i true) (a.put oi.dst v) w → Uptot P md ops Q S T Ls (n + 1) l a w := by
  have hRw : ∀ l w, ((∀ w, S w → R w) ∨ come Ls l = false) → Cond S T Ls l w → R w := fun l w hD hC => by
    rcases hD with h | h
    · exact h w hC.1
    · exact hR w hC.1 (hC.2.resolve_left (by rw [h]; simp))
  have hCi : ∀ l w, Cond S T Ls l w → Cond S T Ls (l.setIfInBounds i true) w := fun l w hC => by
    unfold Cond
    rw [come_set hiL]
    exact hC
  intro n
  induction n with
  | zero =>
    intro l a w _ hr hD hy hC H
    refine ⟨fun h => (by rw [h] at hr; cases hr), fun j hj => ?_⟩
    by_cases hji : j = i
    · subst hji; exact hy.wpOp hi (hRw l w hD hC) ⟨hCi l w hC, H⟩
    · have h1 := ready_mono hj hji
      rw [H.1] at h1
      cases h1
  | succ n ih =>
    intro l a w hf hr hD hy hC H
    refine ⟨fun h => (by rw [h] at hr; cases hr), fun j hj => ?_⟩
    by_cases hji : j = i
    · subst hji; exact hy.wpOp hi (hRw l w hD hC) ⟨hCi l w hC, H⟩
    · obtain ⟨hun, oj, hoj, hall⟩ := mem_ready.1 hj
      have hno : ∀ e ∈ oj.after, Region.binds md e = true → e.on ≠ i := fun e he hb heq => listed_no (mem_ready.1 hr).1 (by have := hall e he hb; rwa [heq] at this)
      have h2 := wpOp_putIf hoj (hf j oj hoj hji hun hno) (fun cs b => Region.noSelect_spec hs i oi cs b hi) (fun cs b => Region.noSelect_spec hs j oj cs b hoj) hQ hy (H.2 j (ready_mono hj hji))
      refine wpOp_mono (fun a' w' h3 => ?_) h2
      have hC' : Cond S T Ls (l.setIfInBounds j true) w' := by
        have h4 := h3.2.1
        unfold Cond at h4 ⊢
        rw [Array.setIfInBounds_comm _ _ (Ne.symm hji), come_set hiL] at h4
        exact h4
      have hD' : (∀ w, S w → R w) ∨ come Ls (l.setIfInBounds j true) = false := by
        rcases hD with h | h
        · exact .inl h
        · rcases hM with h' | h'
          · exact .inl h'
          · exact .inr (by rw [come_set fun hjL => waits_ready (h' j hjL) hr hj]; exact h)
      refine ⟨hC', ih _ a' w' (fun k ok hk hki huk hnk => ?_) (ready_mono hr (Ne.symm hji)) hD' h3.1 hC' (by rw [Array.setIfInBounds_comm _ _ hji]; exact h3.2.2)⟩
      refine hf k ok hk hki ?_ hnk
      by_cases hjk : j = k
      · subst hjk; exact hun
      · rwa [getD_set_ne true hjk] at huk
end
section
variable {P : Program} {md : Region.Mode} {ls : List Oper} {Q : Exit → Act → World → Prop} {S T : World → Prop} {Ls : List Nat} {n : Nat} {l : Array Bool} {a : Act} {w : World}
/-- Ahead of all of Ls: what reads under S and T. -/
theorem Uptot.take {i : Nat} {oi : Oper} {rest : List Oper} {v : Value} (hi : ls.drop i = oi :: rest) (hs : Region.noSelect ls.toArray = true) (hf : Region.free md ls.toArray l i = true) (hr : (Region.ready md ls.toArray l).contains i = true)
    (hL : (!Ls.contains i && !come Ls l && Ls.all fun L => waits md ls.toArray L i) = true) (hQ : ∀ c a w, Q (.panic c) (a.put oi.dst v) w → Q (.panic c) a w) (hy : YieldsIf P ls.toArray (fun w => S w ∧ T w) oi v a) (hS : S w ∧ T w)
    (h : Uptot P md ls.toArray Q S T Ls n (l.setIfInBounds i true) (a.put oi.dst v) w) : Uptot P md ls.toArray Q S T Ls (n + 1) l a w := by
  simp only [Bool.and_eq_true, Bool.not_eq_true', List.all_eq_true] at hL
  exact Uptot.take_gen (R := fun w => S w ∧ T w) (drop_at hi) (by simpa using hL.1.1) hs (fun _ h1 h2 => ⟨h1, h2⟩) (.inr hL.2) hQ n l a w (Region.free_spec (drop_at hi) hf) (by simpa using hr) (.inr hL.1.2) hy ⟨hS.1, .inr hS.2⟩ h
/-- What reads under S alone. -/
theorem Uptot.takeS {i : Nat} {oi : Oper} {rest : List Oper} {v : Value} (hi : ls.drop i = oi :: rest) (hs : Region.noSelect ls.toArray = true) (hf : Region.free md ls.toArray l i = true) (hr : (Region.ready md ls.toArray l).contains i = true)
    (hL : (!Ls.contains i) = true) (hQ : ∀ c a w, Q (.panic c) (a.put oi.dst v) w → Q (.panic c) a w) (hy : YieldsIf P ls.toArray S oi v a) (hS : S w ∧ T w)
    (h : Uptot P md ls.toArray Q S T Ls n (l.setIfInBounds i true) (a.put oi.dst v) w) : Uptot P md ls.toArray Q S T Ls (n + 1) l a w :=
  Uptot.take_gen (R := S) (drop_at hi) (by simpa using hL) hs (fun _ h1 _ => h1) (.inl fun _ h => h) hQ n l a w (Region.free_spec (drop_at hi) hf) (by simpa using hr) (.inl fun _ h => h) hy ⟨hS.1, .inr hS.2⟩ h
/-- One operation alone may come; b: whether one of Ls has come behind it. -/
theorem Uptot.one {i : Nat} {o : Oper} {rest : List Oper} (hi : ls.drop i = o :: rest) (hr : Region.ready md ls.toArray l = [i])
    (h : ∀ K : Act → World → Prop, Shut (∀ a w, Cond S T Ls (l.setIfInBounds i true) w → Uptot P md ls.toArray Q S T Ls n (l.setIfInBounds i true) a w → K a w) → if Region.wanted o (yielded ls.toArray a.tmps) = true then Oper.wp P o a w K Q else K (a.put o.dst undef) w) :
    Uptot P md ls.toArray Q S T Ls (n + 1) l a w := ⟨fun h0 => (by rw [hr] at h0; cases h0), fun j hj => by
  rw [hr] at hj
  obtain rfl := List.mem_singleton.1 hj
  exact wpOp_step (drop_at hi) fun K hK => h K fun a w h1 h2 => hK a w ⟨h1, h2⟩⟩
theorem Cond.ahead (h : S w ∧ T w) : Cond S T Ls l w := ⟨h.1, .inr h.2⟩
theorem Cond.behind (h : S w) (hc : come Ls l = true) : Cond S T Ls l w := ⟨h, .inl hc⟩
theorem Uptot.done (hr : Region.ready md ls.toArray l = []) (h : Q .normal a w) : ∀ n, Uptot P md ls.toArray Q S T Ls n l a w
  | 0 => ⟨hr, h⟩
  | _ + 1 => ⟨fun _ => h, by rw [hr]; simp⟩
theorem Uptot.begin_ {id : Nat} (Ls : List Nat) (S T : World → Prop) (hm : P.follows .mixedOrders = true) (h : Uptot P .any ls.toArray Q S T Ls ls.length (Array.replicate ls.length false) a w.drew) : (Code.region id ls.toArray true).wp P Q a w := by
  refine wp_region_any hm (Uptot.any (S := S) (T := T) (Ls := Ls) _ _ _ _ ?_)
  simpa using h
end
end Go.Kx

/-
  A whole row loaded in a region that draws (any program).
-/
namespace Go.Kx
open Go.RowKit
variable {P : Program}

theorem exec_load_row {o : Oper} {a : Act} {w : World} (ty : TypeId) (x : Operand) (ho : o.op = .load ty x)
    (g : Nat) (hx : a.eval x = .pointer (some ⟨g, 0, none⟩)) (t : TypeId) (cs : Array Value) (fr : Nat × Nat) (d : TypeDesc) (hg : w.heap[g]? = some (.cells cs t fr))
    (hu : P.underlying ty = some d) (hd : (match d with | .struct _ | .array _ _ => true | _ => false) = true) (hi : (P.info? ty).map (·.size) = some cs.size) :
    (execOp a.eval o).run P w = .ok (.value (.agg cs)) w := by
  unfold execOp
  simp only [ho, hx, Instr.loadAt, Instr.sureAddr, Sem.run_bind, Sem.run_pure, Result.andThen_ok, run_loadVar_row w g t ty cs fr d hg hu hd hi]
theorem wanted_plain {o : Oper} (h : o.guard = none) (f : Nat → Option Bool) : Region.wanted o f = true := by
  unfold Region.wanted
  rw [h]
theorem wpStill_load_row {ops : Array Oper} {rest : List Oper} {o : Oper} {a : Act} {w : World} {Q : Act → Prop} (hgd : o.guard = none) (ty : TypeId) (x : Operand) (ho : o.op = .load ty x)
    (g : Nat) (hx : a.eval x = .pointer (some ⟨g, 0, none⟩)) (t : TypeId) (cs : Array Value) (fr : Nat × Nat) (d : TypeDesc) (hg : w.heap[g]? = some (.cells cs t fr))
    (hu : P.underlying ty = some d) (hd : (match d with | .struct _ | .array _ _ => true | _ => false) = true) (hi : (P.info? ty).map (·.size) = some cs.size)
    (h : wpStill P ops w Q rest (a.put o.dst (.agg cs))) : wpStill P ops w Q (o :: rest) a :=
  wpStill_step fun K hK => by
    rw [wanted_plain hgd, if_pos rfl]
    unfold Oper.still
    rw [exec_load_row ty x ho g hx t cs fr d hg hu hd hi]
    exact ⟨rfl, hK _ h⟩
theorem yields_load_row {ops : Array Oper} {S : World → Prop} {o : Oper} {a : Act} (hgd : o.guard = none) (ty : TypeId) (x : Operand) (ho : o.op = .load ty x)
    (g : Nat) (hx : a.eval x = .pointer (some ⟨g, 0, none⟩)) (t : TypeId) (cs : Array Value) (fr : Nat × Nat) (d : TypeDesc) (hg : ∀ w, S w → w.heap[g]? = some (.cells cs t fr))
    (hu : P.underlying ty = some d) (hd : (match d with | .struct _ | .array _ _ => true | _ => false) = true) (hi : (P.info? ty).map (·.size) = some cs.size) :
    YieldsIf P ops S o (.agg cs) a :=
  .inl ⟨wanted_plain hgd _, fun w hw => exec_load_row ty x ho g hx t cs fr d (hg w hw) hu hd hi⟩
end Go.Kx

/-
  share: the contracts of polynomials and of its closure.
-/
namespace Go.Proofs.Ytljckcegcfidoaa
open Go.RowKit Go.Kx
set_option maxRecDepth 20000

set_option maxHeartbeats 1000000 in
theorem digits_any (s : ByteArray) (j k : Nat) (hs : s.size = 32 * k) (hj : j < 32) (hk : k ≤ 255) (N : Nat) (w : World) (hN : w.cell? ⟨N, 0, none⟩ = some (.string s)) :
    Calls Try.prog 49 #[.int .i64 (j : Int), .pointer (some ⟨N, 0, none⟩)] w fun e w' => (∃ A c, e = .returned (.slice A k c) ∧ Sl w' A (intsI (polI s j k)) ∧ FreshA w.heap.size A) ∧ Below w.heap.size w w' := by
  obtain ⟨i0, hi, hz0, hz1, hz2⟩ := info_parts int_info
  have HS := Lib.hid hs
  have HJ := Lib.hid hj
  clear hs hj
  go_enter Try.func49, Try.ntmps49
  go_wp2
  go_loopw [4, 5] (fun v i wr => ∃ p n : Nat, p ≤ k ∧ n = 32 * p + j ∧ i = .int .i64 (n : Int) ∧ wr.ownsRow w.heap.size 3 1 v p (intsI ((polI s j k).take p)) ∧ Below w.heap.size w wr) (fun _ i _ => 32 * k + 32 - (intOf i).toNat)
  case atStart => exact ⟨0, j, by omega, by omega, rfl, World.ownsRow_nil _ _ _ _, Below.refl _ _⟩
  case round =>
    obtain ⟨p, n, hp, hn, rfl, hown, hb⟩ := hrel
    have hNr := (hb.cell (p := ⟨N, 0, none⟩) (block_lt_of_cell hN)).trans hN
    by_cases hlt : p < k
    · have hns : n < s.size := by rw [HS.out]; have := HJ.out; omega
      have hv := gOf_v s n hns
      have HSN := Lib.hid (polI_snoc s j k p hlt)
      rw [← hn] at HSN
      have hvl := (gOf s n).lt
      have HV := Lib.hid hv
      have HNN := Lib.hid hn
      clear hn hv
      rw [HV.out] at HSN hvl
      have wv : IntKind.i64.wrap ((s[n].toNat : Nat) : Int) = ((s[n].toNat : Nat) : Int) := IntWalk.i64_in _ (by omega)
      have hsz := hb.size
      have hnl : n < 10000 := by have := HNN.out; have := HJ.out; omega
      go_wp2_with (first
        | (at_builtin; refine wpList_append_own _ rfl _ _ 48 rfl w.heap.size 3 i0 (.int .i64 0) 1 8 Try.underlying48 hi hz0 hz1 hz2 rfl (by decide) _ _ _ rfl (hown.alloc _) ⟨wr.heap.size, 0, none⟩ 1 1 [.int .i64 (s[n].toNat : Nat)] rfl rfl ?c1 ?c2 ?c3 ?c4 ?c5 ?_)
        | go_in)
      case c1 =>
        intro j u hj
        match j, hj with
        | 0, hj => simp at hj; subst hj; simp [Addr.add]
      case c2 => intro u hu; simp at hu; subst hu; rfl
      case c3 => unfold maxLen; omega
      case c4 => omega
      case c5 => simp; omega
      · intro v' w3 hown' hgrow _
        have hb1 := own_below (hown.alloc _) (hb.al _) hgrow
        rw [HSN.out] at hown'
        clear hown hgrow hb
        go_wp2
        go_roundw
        case rel => exact ⟨p + 1, n + 32, by omega, by have := HNN.out; omega, by go_num, hown', hb1⟩
        case measure => have := HNN.out; have := HJ.out; simp [intOf]; omega
    · obtain rfl : p = k := by omega
      have hns : ¬ n < s.size := by rw [HS.out]; omega
      obtain ⟨A, c, rfl, hs3, hA⟩ := own_slf hown
      rw [List.take_of_length_le (by rw [polI_length]; exact Nat.le_refl _)] at hs3
      clear hn
      go_wp2
      go_ret
      exact ⟨⟨_, _, rfl, hs3, hA⟩, hb⟩
theorem polynomials_any (s : ByteArray) (w : World) : Calls Try.prog 23 #[.string s] w fun e w' => e = .returned (.func (.func 49) #[] #[.pointer (some ⟨w.heap.size, 0, none⟩)]) ∧
    w'.cell? ⟨w.heap.size, 0, none⟩ = some (.string s) ∧ Below w.heap.size w w' := by
  have hb0 := Below.alloc0 w (.cells #[.string s] 9)
  have hc0 : (w.alloc (.cells #[.string s] 9)).cell? ⟨w.heap.size, 0, none⟩ = some (.string s) := (cell_of_row _ _ _ _ _ _ (heap_alloc_new w _)).trans rfl
  have hmf : ∀ (fn : Fn) (first cap : Array Value) (w : World), (Instr.makeFunc fn first cap).run Try.prog w = .ok (.func fn first cap) w := fun _ _ _ _ => rfl
  go_enter Try.func23, Try.ntmps23
  go_wp2
  go_ret
  exact ⟨rfl, hc0, hb0⟩
end Go.Proofs.Ytljckcegcfidoaa

/-
  share: the contract of Split.
-/
namespace Go.Proofs.Ytljckcegcfidoaa
open Go.RowKit Go.Kx
set_option maxRecDepth 20000

/-! ### mathematics -/
def okS (s : ByteArray) (n k : Int) (t : ByteArray) : Prop := s.size = 32 ∧ 1 ≤ n ∧ n ≤ 255 ∧ 1 ≤ k ∧ k ≤ n ∧ (t.size : Int) = 32 * (k - 1)
/-- Byte j of the share at place i (X is one more). -/
def shY (p : ByteArray) (k i j : Nat) : Gf.G := Gf.ev (polG p j k) (toG ((i : Int) + 1))
def splL (p : ByteArray) (n k : Nat) : List Sh := (List.range n).map fun i : Nat => ((i : Int) + 1, txt (shY p k i))
theorem splL_at (p : ByteArray) (n k i : Nat) (h : i < n) : (splL p n k).getD i sh0 = ((i : Int) + 1, txt (shY p k i)) := by simp [splL, List.getD, h]
theorem splL_length (p : ByteArray) (n k : Nat) : (splL p n k).length = n := by simp [splL]
/-- The rows while they are filled: those columns below j, and of column j those rows below i. -/
def fillG (Y : Nat → Nat → Gf.G) (jc ic i j : Nat) : Gf.G := if j < jc ∨ (j = jc ∧ i < ic) then Y i j else 0
def fillF (Y : Nat → Nat → Gf.G) (jc ic q : Nat) : Value := .int .u8 ((fillG Y jc ic (q / 32) (q % 32)).v : Nat)
theorem fillF_zero (Y : Nat → Nat → Gf.G) (q : Nat) : fillF Y 0 0 q = .int .u8 0 := by
  unfold fillF fillG
  rw [if_neg (by omega)]
  rfl
theorem fillF_set (Y : Nat → Nat → Gf.G) (jc ic q : Nat) (hj : jc < 32) : (if q = ic * 32 + jc then Value.int .u8 ((Y ic jc).v : Nat) else fillF Y jc ic q) = fillF Y jc (ic + 1) q := by
  unfold fillF fillG
  by_cases h : q = ic * 32 + jc
  · rw [if_pos h, if_pos (by omega), show q / 32 = ic by omega, show q % 32 = jc by omega]
  · rw [if_neg h]
    by_cases h2 : q % 32 < jc ∨ (q % 32 = jc ∧ q / 32 < ic)
    · rw [if_pos h2, if_pos (by omega)]
    · rw [if_neg h2, if_neg (by omega)]
theorem fillF_next (Y : Nat → Nat → Gf.G) (n jc q : Nat) (hq : q < n * 32) : fillF Y jc n q = fillF Y (jc + 1) 0 q := by
  unfold fillF fillG
  by_cases h2 : q % 32 < jc ∨ (q % 32 = jc ∧ q / 32 < n)
  · rw [if_pos h2, if_pos (by omega)]
  · rw [if_neg h2, if_neg (by omega)]
/-- A row out of the whole. -/
theorem fill_row (Y : Nat → Nat → Gf.G) {w : World} {N n : Nat} {t : TypeId} (h : w.rowIs N t (n * 32) (fillF Y 32 0)) {i : Nat} (hi : i < n) : w.rangeAt N (i * 32) (rowV (Y i)).toList := by
  intro j v hv
  have hj : j < 32 := by
    have := (List.getElem?_eq_some_iff.1 hv).1
    simpa [rowV_size] using this
  rw [Array.getElem?_toList, rowV_at _ hj] at hv
  rw [h.cell (i := i * 32 + j) (by omega)]
  unfold fillF fillG
  rw [if_pos (by omega), show (i * 32 + j) / 32 = i by omega, show (i * 32 + j) % 32 = j by omega]
  exact hv
/-- The shares while they are filled. -/
def doneC (L : List Sh) (i q : Nat) : Value := if q / 2 < i then shC (L.getD (q / 2) sh0) (q % 2) else shC sh0 (q % 2)
theorem doneC_set (L : List Sh) (i q : Nat) : (if q = i * 2 + 1 then Value.string (L.getD i sh0).2 else if q = i * 2 then Value.int .i64 (L.getD i sh0).1 else doneC L i q) = doneC L (i + 1) q := by
  unfold doneC
  by_cases h : q = i * 2 + 1
  · rw [if_pos h, if_pos (by omega), show q / 2 = i by omega, show q % 2 = 1 by omega]
    rfl
  · rw [if_neg h]
    by_cases h1 : q = i * 2
    · rw [if_pos h1, if_pos (by omega), show q / 2 = i by omega, show q % 2 = 0 by omega]
      rfl
    · rw [if_neg h1]
      by_cases h2 : q / 2 < i
      · rw [if_pos h2, if_pos (by omega)]
      · rw [if_neg h2, if_neg (by omega)]
theorem done_sl {L : List Sh} {w : World} {M : Nat} {t : TypeId} (h : w.rowIs M t (L.length * 2) (doneC L L.length)) : Sl w (some ⟨M, 0, none⟩) (shV L) := by
  refine .inr ⟨M, 0, rfl, h.lt, fun j u hu => ?_⟩
  have hj : j < L.length * 2 := by
    have := (List.getElem?_eq_some_iff.1 hu).1
    rwa [shV_length] at this
  rw [Nat.zero_add, h.cell hj, doneC, if_pos (by omega), ← hu, shV_at, if_pos hj]
theorem rows_info : (Try.prog.info? 52).map (fun i => (i.zero, i.size, i.bytes)) = some (some (.agg zero32), 32, 32) := by kernel_rfl
theorem shares_info : (Try.prog.info? 39).map (fun i => (i.zero, i.size, i.bytes)) = some (some (.agg #[.int .i64 0, .string ⟨#[]⟩]), 2, 24) := by kernel_rfl
theorem run_make_rows (n : Nat) (hn : n ≤ 255) (w : World) : (Instr.makeSlice 47 (.int .i64 (n : Int)) (.int .i64 (n : Int))).run Try.prog w = .ok (.slice (some ⟨w.heap.size, 0, none⟩) n n) (w.alloc (.cells (madeCells zero32 (n * 32)) 52)) := by
  obtain ⟨i, hi, hzz⟩ := Option.map_eq_some_iff.1 rows_info
  simp only [Prod.mk.injEq] at hzz
  obtain ⟨hz, hs, hb⟩ := hzz
  have hr := run_make (P := Try.prog) w 47 52 i _ Try.underlying47 hi hz .i64 .i64 n n (by omega) (Int.le_refl _) (by rw [hb]; omega) (by omega)
  rw [hs] at hr
  simpa [Value.cells] using hr
theorem run_make_shares (n : Nat) (hn : n ≤ 255) (w : World) : (Instr.makeSlice 22 (.int .i64 (n : Int)) (.int .i64 (n : Int))).run Try.prog w = .ok (.slice (some ⟨w.heap.size, 0, none⟩) n n) (w.alloc (.cells (madeCells #[.int .i64 0, .string ⟨#[]⟩] (n * 2)) 39)) := by
  obtain ⟨i, hi, hzz⟩ := Option.map_eq_some_iff.1 shares_info
  simp only [Prod.mk.injEq] at hzz
  obtain ⟨hz, hs, hb⟩ := hzz
  have hr := run_make (P := Try.prog) w 22 39 i _ Try.underlying22 hi hz .i64 .i64 n n (by omega) (Int.le_refl _) (by rw [hb]; omega) (by omega)
  rw [hs] at hr
  simpa [Value.cells] using hr
theorem made_rows (Y : Nat → Nat → Gf.G) (n : Nat) (w : World) : (w.alloc (.cells (madeCells zero32 (n * 32)) 52)).rowIs w.heap.size 52 (n * 32) (fillF Y 0 0) := by
  have h := World.rowIs_alloc w (madeCells zero32 (n * 32)) 52 (fillF Y 0 0) (fun i hi => by
    rw [size_madeCells] at hi
    rw [fillF_zero, madeCells, Array.getElem?_map, Array.getElem?_range, if_pos hi]
    show some (zero32[i % 32]!) = _
    have : i % 32 < zero32.size := Nat.mod_lt _ (by decide)
    rw [getElem!_pos zero32 (i % 32) this]
    have h2 : ∀ r, r < 32 → zero32[r]? = some (.int .u8 0) := fun r hr => by rw [zero32_eq, List.getElem?_toArray, List.getElem?_replicate, if_pos hr]
    have h3 := h2 (i % 32) (Nat.mod_lt _ (by decide))
    rwa [Array.getElem?_eq_getElem this] at h3)
  rwa [size_madeCells] at h
theorem made_shares (L : List Sh) (n : Nat) (w : World) : (w.alloc (.cells (madeCells #[.int .i64 0, .string ⟨#[]⟩] (n * 2)) 39)).rowIs w.heap.size 39 (n * 2) (doneC L 0) := by
  have h := World.rowIs_alloc w (madeCells #[.int .i64 0, .string ⟨#[]⟩] (n * 2)) 39 (doneC L 0) (fun i hi => by
    rw [size_madeCells] at hi
    rw [doneC, if_neg (by omega), madeCells, Array.getElem?_map, Array.getElem?_range, if_pos hi]
    show some ((#[Value.int .i64 0, .string ⟨#[]⟩] : Array Value)[i % 2]!) = _
    rcases (show i % 2 = 0 ∨ i % 2 = 1 by omega) with e | e <;> rw [e] <;> rfl)
  rwa [size_madeCells] at h

/-! ### Split -/
def shEnd (A : Option Addr) (n c : Nat) (e : Int) : Ending := .returned (.tuple #[.slice A n c, .int .i64 e])
theorem split_no (s : ByteArray) (n k : Int) (t : ByteArray) (h : ¬ okS s n k t) (w : World) : Calls Try.prog 9 #[.string s, .int .i64 n, .int .i64 k, .string t] w fun e w' => e = shEnd none 0 0 1 ∧ w' = w := by
  by_cases h1 : (s.size : Int) = 32
  rotate_left
  · have t1 : ((s.size : Int) != 32) = true := by simpa using h1
    go_enter Try.func9, Try.ntmps9
    go_wp2
    go_ret2
    exact ⟨rfl, rfl⟩
  have t1 : ((s.size : Int) != 32) = false := by simpa using h1
  by_cases h2 : n < 1
  · clear h1
    go_enter Try.func9, Try.ntmps9
    go_wp2
    go_ret2
    exact ⟨rfl, rfl⟩
  by_cases h3 : n > 255
  · clear h1
    go_enter Try.func9, Try.ntmps9
    go_wp2
    go_ret2
    exact ⟨rfl, rfl⟩
  by_cases h4 : k < 1
  · clear h1
    go_enter Try.func9, Try.ntmps9
    go_wp2
    go_ret2
    exact ⟨rfl, rfl⟩
  by_cases h5 : k > n
  · clear h1
    go_enter Try.func9, Try.ntmps9
    go_wp2
    go_ret2
    exact ⟨rfl, rfl⟩
  have h6 : (t.size : Int) ≠ 32 * (k - 1) := fun e => h ⟨by omega, by omega, by omega, by omega, by omega, e⟩
  have t6 : ((t.size : Int) != 32 * (k - 1)) = true := by simpa using h6
  clear h h1 h6
  go_enter Try.func9, Try.ntmps9
  go_wp2
  go_ret2
  exact ⟨rfl, rfl⟩
set_option maxHeartbeats 4000000 in
theorem split_yes (s : ByteArray) (n k : Nat) (t : ByteArray) (h1 : s.size = 32) (h2 : 1 ≤ n) (h3 : n ≤ 255) (h4 : 1 ≤ k) (h5 : k ≤ n) (h6 : t.size = 32 * (k - 1)) (w : World) :
    Calls Try.prog 9 #[.string s, .int .i64 (n : Int), .int .i64 (k : Int), .string t] w fun e w' => (∃ A c, e = shEnd A n c 0 ∧ Sl w' A (shV (splL (s ++ t) n k))) ∧ Below w.heap.size w w' := by
  have t1 : ((s.size : Int) != 32) = false := by simp; omega
  have t6 : ((t.size : Int) != 32 * ((k : Int) - 1)) = false := by simp; omega
  obtain ⟨p, hp⟩ : ∃ p, s ++ t = p := ⟨_, rfl⟩
  have hps : p.size = 32 * k := by rw [← hp, ByteArray.size_append]; omega
  have hrun : ∀ W : World, (Op.stringOp .add s t).run Try.prog W = .ok (.string p) W := fun W => by rw [run_string_add_sum W _ _ (by omega), hp]
  rw [hp]
  clear hp
  obtain ⟨L, hL⟩ : ∃ L, splL p n k = L := ⟨_, rfl⟩
  have hLn : L.length = n := by rw [← hL, splL_length]
  have HLN := Lib.hid hLn
  have HLI : Hid (∀ i, i < n → L.getD i sh0 = ((i : Int) + 1, txt (shY p k i))) := Lib.hid (fun i hi => by rw [← hL]; simp [splL, List.getD, hi])
  rw [hL]
  clear hL hLn
  have hmk := run_make_rows n h3
  have hmk2 := run_make_shares n h3
  have HPS := Lib.hid hps
  have hn1 : ¬ (n : Int) < 1 := by omega
  have hn2 : ¬ (n : Int) > 255 := by omega
  have hk1 : ¬ (k : Int) < 1 := by omega
  have hk2 : ¬ (k : Int) > n := by omega
  clear h1 hps
  go_enter Try.func9, Try.ntmps9
  go_wp2_with fail
  refine (polynomials_any p _).mono ?_
  rintro e w1 ⟨rfl, hP, hb1⟩
  go_wp2
  have hrow : (w1.alloc (.cells (madeCells zero32 (n * 32)) 52)).rowIs w1.heap.size 52 (n * 32) (fillF (shY p k) 0 0) := made_rows _ _ _
  have hk1' := Below.alloc0 w1 (.cells (madeCells zero32 (n * 32)) 52)
  have hP0 := hP
  replace hP := (hk1'.cell (p := ⟨w.heap.size, 0, none⟩) (block_lt_of_cell hP)).trans hP
  have hNN : w.heap.size ≤ w1.heap.size := hb1.size
  have hb := hb1.next' hk1'
  have hNe : w.heap.size < w1.heap.size := block_lt_of_cell hP0
  clear hb1 hk1'
  generalize World.alloc w1 _ = W at *
  generalize w1.heap.size = N at *
  go_loopw [54] (fun i wr => ∃ j : Nat, j ≤ 32 ∧ i = .int .i64 (j : Int) ∧ wr.rowIs N 52 (n * 32) (fillF (shY p k) j 0) ∧ wr.cell? ⟨w.heap.size, 0, none⟩ = some (.string p) ∧ Below w.heap.size w wr) (fun i _ => 32 - (intOf i).toNat)
  case atStart => exact ⟨0, by omega, rfl, hrow, hP, hb⟩
  case round =>
    clear hrow hP hb
    obtain ⟨j, hj, rfl, hr, hPr, hb⟩ := hrel
    by_cases hlt : j < 32
    · go_wp2_with fail
      refine (digits_any p j k HPS.out hlt (by omega) w.heap.size _ hPr).mono ?_
      rintro e w2 ⟨⟨A, c, rfl, hs, hA⟩, hb2⟩
      replace hA := hA.ne (N := N) hr.lt
      have hr2 := rowIs_keep hr hb2
      have hP2 := (hb2.cell (p := ⟨w.heap.size, 0, none⟩) (block_lt_of_cell hPr)).trans hPr
      replace hb := hb.next' hb2
      clear hr hPr hb2 hP0
      have HEV : Hid (∀ V (i : Nat), i < n → Sl V A (intsI (polI p j k)) → Calls Try.prog 24 #[.slice A k c, .int .i64 ((i : Int) + 1)] V fun e w' => e = two ((shY p k i j).v, true) ∧ Below V.heap.size V w') := Lib.hid (fun V i hi hV => by
        have h := eval_any (polI p j k) ((i : Int) + 1) A c (by rw [polI_length]; omega) V hV
        have hd : dig ((i : Int) + 1) = true := by simp [dig]; omega
        rw [evalA, if_pos ⟨by rw [polI_length]; omega, dig_polI _ _ _, hd⟩, gs_polI, polI_length] at h
        exact h)
      go_wp2
      have hsz2 := block_lt_of_cell hP2
      go_loopw [62] (fun i wr => ∃ i' : Nat, i' ≤ n ∧ i = .int .i64 (i' : Int) ∧ wr.rowIs N 52 (n * 32) (fillF (shY p k) j i') ∧ wr.cell? ⟨w.heap.size, 0, none⟩ = some (.string p) ∧ Sl wr A (intsI (polI p j k)) ∧ Below w.heap.size w wr) (fun i _ => n - (intOf i).toNat)
      case atStart => exact ⟨0, by omega, rfl, hr2, hP2, hs, hb⟩
      case round =>
        clear hr2 hP2 hb hs
        obtain ⟨i, hi, rfl, hr, hPr, hs, hb⟩ := hrel
        by_cases hli : i < n
        · obtain ⟨y, hy⟩ : ∃ y, shY p k i j = y := ⟨_, rfl⟩
          have HE := Lib.hid (HEV.out wr i hli hs)
          have HSET := Lib.hid (fun q => fillF_set (shY p k) j i q hlt)
          rw [hy] at HE HSET
          clear hy
          have hyl := y.lt
          have hym : ((y.v : Nat) : Int) % 256 = (y.v : Nat) := by omega
          go_wp2_with fail
          refine HE.out.mono ?_
          rintro e w3 ⟨rfl, hb3⟩
          unfold two
          replace hs := hs.keep hb3
          replace hPr := (hb3.cell (p := ⟨w.heap.size, 0, none⟩) (block_lt_of_cell hPr)).trans hPr
          replace hr := rowIs_keep hr hb3
          replace hb := hb.next' hb3
          clear hb3 HE
          have hload := hr.cell (i := i * 32 + j) (by omega)
          have hfz := hr.frozen (i * 32 + j)
          go_wp2
          go_roundw
          case rel => exact ⟨i + 1, by omega, by go_num, (hr.set (i * 32 + j) _).congr fun q _ => HSET.out q, (World.cell?_setCell_other _ _ _ _ (by intro e; have := congrArg Addr.block e; dsimp only at this; omega)).trans hPr, hs.setA hA _ _, hb.setCell (by show w.heap.size ≤ N; omega) _⟩
          case measure => simp [intOf]; omega
        · obtain rfl : i = n := by omega
          replace hr := hr.congr fun q hq => fillF_next (shY p k) i j q hq
          go_wp2
          go_roundw
          case rel => exact ⟨j + 1, by omega, by go_num, hr, hPr, hb⟩
          case measure => simp [intOf]; omega
    · have hj32 : j = 32 := by omega
      rw [hj32] at hr
      clear hPr hj32
      have hM := made_shares L n wr
      have hkm := Below.alloc0 wr (.cells (madeCells #[.int .i64 0, .string ⟨#[]⟩] (n * 2)) 39)
      have hr2 := rowIs_keep hr hkm
      have hb2 := hb.next' hkm
      have hNM : N < wr.heap.size := hr.lt
      have hMg : w.heap.size ≤ wr.heap.size := hb.size
      go_wp2
      clear hr hb hkm
      generalize World.alloc wr _ = W2 at *
      generalize wr.heap.size = M at *
      go_loopw [85] (fun i wr => ∃ i' : Nat, i' ≤ n ∧ i = .int .i64 (i' : Int) ∧ wr.rowIs N 52 (n * 32) (fillF (shY p k) 32 0) ∧ wr.rowIs M 39 (n * 2) (doneC L i') ∧ Below w.heap.size w wr) (fun i _ => n - (intOf i).toNat)
      case atStart => exact ⟨0, by omega, rfl, hr2, hM, hb2⟩
      case round =>
        clear hr2 hM hb2
        obtain ⟨i, hi, rfl, hr, hM, hb⟩ := hrel
        by_cases hli : i < n
        · obtain ⟨d, hd⟩ : ∃ d, rowV (shY p k i) = d := ⟨_, rfl⟩
          have hrg := fill_row (shY p k) hr hli
          have HT := Lib.hid (fun V => text_any (shY p k i) V)
          have hinfd := row_info' (shY p k i)
          have hall := rowV_one (shY p k i)
          have hzd : zero32.size = (rowV (shY p k i)).size := by rw [rowV_size]; rfl
          have hll := HLI.out i hli
          have HSET := Lib.hid (fun q => doneC_set L i q)
          rw [hll] at HSET
          rw [hd] at hrg HT hinfd hall hzd
          generalize txt (shY p k i) = x at *
          clear hd hll
          have hinfl : (Try.prog.info? 52).map (·.size) = some d.toList.length := hinfd
          have hz : (wr.alloc (.cells zero32 52)).heap[wr.heap.size]? = some (.cells zero32 52 (0, 0)) := heap_alloc_new _ _
          have hd1 := setRow_heap _ wr.heap.size _ d _ _ hz
          have hkz := (Below.alloc0 wr (.cells zero32 52)).setRow (Nat.le_refl _) d
          have hr3 := rowIs_keep hr hkz
          have hM3 := rowIs_keep hM hkz
          have hb3 := hb.next' hkz
          unfold zero32 at hz hd1 hzd hr3 hM3 hb3
          clear hkz
          go_wp2_with (first
            | (refine wpList_load_mid rfl _ _ rfl N (i * 32) rfl _ _ hrg Try.underlying52 rfl hinfl ?_)
            | (refine wpList_store_row rfl _ _ _ rfl wr.heap.size d rfl rfl _ _ hz hinfd hzd hall ?_)
            | (refine wpList_load_row rfl _ _ rfl wr.heap.size rfl _ _ _ _ hd1 Try.underlying52 rfl hinfd ?_))
          clear hr hM hb hz hd1 hrg
          generalize World.setRow _ _ d = W4 at *
          refine (HT.out _).mono ?_
          rintro e w4 ⟨rfl, hb4⟩
          replace hr3 := rowIs_keep hr3 hb4
          replace hM3 := rowIs_keep hM3 hb4
          replace hb3 := hb3.next' hb4
          clear hb4
          have hl0 := hM3.cell (i := i * 2) (by omega)
          have hl1 := hM3.cell (i := i * 2 + 1) (by omega)
          have hf0 := hM3.frozen (i * 2)
          have hf1 := hM3.frozen (i * 2 + 1)
          generalize doneC L i (i * 2) = c0 at hl0
          generalize doneC L i (i * 2 + 1) = c1 at hl1
          go_wp2
          go_roundw
          case rel => exact ⟨i + 1, by omega, by go_num, (hr3.setOther (by show N ≠ M; omega) _).setOther (by show N ≠ M; omega) _, ((hM3.set (i * 2) _).set (i * 2 + 1) _).congr fun q _ => HSET.out q, (hb3.setCell (by show w.heap.size ≤ M; omega) _).setCell (by show w.heap.size ≤ M; omega) _⟩
          case measure => simp [intOf]; omega
        · obtain rfl : i = n := by omega
          have hM' : wr.rowIs M 39 (L.length * 2) (doneC L L.length) := by rw [HLN.out]; exact hM
          have hsl := done_sl hM'
          go_wp2
          go_ret2
          exact ⟨⟨_, _, rfl, hsl⟩, hb⟩
theorem splits_any (s : ByteArray) (n k : Int) (t : ByteArray) (w : World) :
    (¬ okS s n k t ∧ Calls Try.prog 9 #[.string s, .int .i64 n, .int .i64 k, .string t] w fun e w' => e = shEnd none 0 0 1 ∧ w' = w) ∨
    (okS s n k t ∧ Calls Try.prog 9 #[.string s, .int .i64 n, .int .i64 k, .string t] w fun e w' => (∃ A c, e = shEnd A n.toNat c 0 ∧ Sl w' A (shV (splL (s ++ t) n.toNat k.toNat))) ∧ Below w.heap.size w w') := by
  by_cases h : okS s n k t
  · refine .inr ⟨h, ?_⟩
    obtain ⟨h1, h2, h3, h4, h5, h6⟩ := h
    obtain ⟨n', rfl⟩ : ∃ m : Nat, n = m := ⟨n.toNat, by omega⟩
    obtain ⟨k', rfl⟩ : ∃ m : Nat, k = m := ⟨k.toNat, by omega⟩
    exact split_yes s n' k' t h1 (by omega) (by omega) (by omega) (by omega) (by omega) w
  · exact .inl ⟨h, split_no s n k t h w⟩
theorem okS_nat {s : ByteArray} {n k : Int} {t : ByteArray} (h : okS s n k t) : ∃ n' k' : Nat, n = n' ∧ k = k' ∧ 1 ≤ n' ∧ n' ≤ 255 ∧ 1 ≤ k' ∧ k' ≤ n' ∧ s.size = 32 ∧ t.size = 32 * (k' - 1) := by
  obtain ⟨h1, h2, h3, h4, h5, h6⟩ := h
  exact ⟨n.toNat, k.toNat, by omega, by omega, by omega, by omega, by omega, by omega, h1, by omega⟩
end Go.Proofs.Ytljckcegcfidoaa

/-
  share: the contract of apart.
-/
namespace Go.Proofs.Ytljckcegcfidoaa
open Go.RowKit Go.Kx
set_option maxRecDepth 20000

/-- The X while they are filled. -/
def xsF (l : List Sh) (k j : Nat) : Value := .int .i64 (if j < k then (l.getD j sh0).1 else 0)
theorem xsF_set (l : List Sh) (k j : Nat) : (if j = k then Value.int .i64 (l.getD k sh0).1 else xsF l k j) = xsF l (k + 1) j := by
  unfold xsF
  by_cases h : j = k
  · subst h; simp
  · rw [if_neg h]
    by_cases h2 : j < k
    · rw [if_pos h2, if_pos (by omega)]
    · rw [if_neg h2, if_neg (by omega)]
theorem xsF_sl {l : List Sh} {w : World} {N : Nat} {t : TypeId} (h : w.rowIs N t l.length (xsF l l.length)) : Sl w (some ⟨N, 0, none⟩) (intsI (xsL l)) := by
  refine .inr ⟨N, 0, rfl, h.lt, fun j u hu => ?_⟩
  obtain ⟨x, hx, rfl⟩ := intsI_at hu
  have hj : j < l.length := by
    have := (List.getElem?_eq_some_iff.1 hx).1
    rwa [xsL_length] at this
  rw [Nat.zero_add, h.cell hj, xsF, if_pos hj]
  have := xsL_at l hj
  rw [List.getD, hx] at this
  rw [← this]
  rfl
/-- n rows in a block of their own. -/
def Rws (w : World) (M n : Nat) (F : Nat → Nat → Gf.G) : Prop := w.rowIs M 52 (n * 32) (fun q => .int .u8 ((F (q / 32) (q % 32)).v : Nat))
theorem Rws.keep {w w' : World} {M n : Nat} {F : Nat → Nat → Gf.G} (h : Rws w M n F) (hb : Below w.heap.size w w') : Rws w' M n F := rowIs_keep h hb
theorem Rws.lt {w : World} {M n : Nat} {F : Nat → Nat → Gf.G} (h : Rws w M n F) : M < w.heap.size := World.rowIs.lt h
theorem Rws.range {w : World} {M n : Nat} {F : Nat → Nat → Gf.G} (h : Rws w M n F) {i : Nat} (hi : i < n) : w.rangeAt M (i * 32) (rowV (F i)).toList := by
  intro j v hv
  have hj : j < 32 := by
    have := (List.getElem?_eq_some_iff.1 hv).1
    simpa [rowV_size] using this
  rw [Array.getElem?_toList, rowV_at _ hj] at hv
  rw [World.rowIs.cell h (i := i * 32 + j) (by omega)]
  show some (Value.int .u8 ((F ((i * 32 + j) / 32) ((i * 32 + j) % 32)).v : Nat)) = some v
  rw [show (i * 32 + j) / 32 = i by omega, show (i * 32 + j) % 32 = j by omega]
  exact hv
theorem Rws.there {w : World} {M n : Nat} {F : Nat → Nat → Gf.G} (h : Rws w M n F) {i : Nat} (hi : i < n) (d : Array Value) (hd : d.size = 32) : w.there M (i * 32) d.size := fun j hj => by
  rw [hd] at hj
  exact ⟨by rw [World.rowIs.cell h (i := i * 32 + j) (by omega)]; rfl, World.rowIs.frozen h _⟩
/-- One of the rows anew. -/
def putR (F : Nat → Nat → Gf.G) (i : Nat) (R : Nat → Gf.G) (i' j : Nat) : Gf.G := if i' = i then R j else F i' j
theorem Rws.put {w : World} {M n : Nat} {F : Nat → Nat → Gf.G} (h : Rws w M n F) (i : Nat) (R : Nat → Gf.G) : Rws (w.setCells M (i * 32) (rowV R).toList) M n (putR F i R) := by
  have h2 := Go.rowIs_setCells (rowV R).toList (i * 32) w _ h
  refine World.rowIs.congr h2 fun q _ => ?_
  have hl : (rowV R).toList.length = 32 := by simp [rowV_size]
  rw [hl]
  unfold putR
  by_cases hq : i * 32 ≤ q ∧ q < i * 32 + 32
  · rw [if_pos hq, if_pos (by omega), Array.getElem?_toList, rowV_at R (by omega)]
    show Value.int .u8 ((R (q - i * 32)).v : Nat) = _
    rw [show q % 32 = q - i * 32 by omega]
  · rw [if_neg hq, if_neg (by omega)]
theorem Rws.congr {w : World} {M n : Nat} {F G : Nat → Nat → Gf.G} (h : Rws w M n F) (e : ∀ i j, i < n → j < 32 → F i j = G i j) : Rws w M n G :=
  World.rowIs.congr h fun q hq => by rw [e _ _ (by omega) (by omega)]
theorem Rws.setOther {w : World} {M n : Nat} {F : Nat → Nat → Gf.G} (h : Rws w M n F) {N : Nat} (hne : M ≠ N) (o : Nat) (v : Value) : Rws (w.setCell ⟨N, o, none⟩ v) M n F := World.rowIs.setOther h (by exact hne) v
theorem made_rows0 (n : Nat) (w : World) : Rws (w.alloc (.cells (madeCells zero32 (n * 32)) 52)) w.heap.size n (fun _ _ => 0) :=
  World.rowIs.congr (made_rows (fun _ _ => 0) n w) fun q _ => by rw [fillF_zero]; rfl
/-- The rows while they are filled. -/
def apG (l : List Sh) (k i j : Nat) : Gf.G := if i < k then gOf (l.getD i sh0).2 j else 0
theorem apG_put (l : List Sh) (k i j : Nat) : putR (apG l k) k (gOf (l.getD k sh0).2) i j = apG l (k + 1) i j := by
  unfold putR apG
  by_cases h : i = k
  · subst h; simp
  · rw [if_neg h]
    by_cases h2 : i < k
    · rw [if_pos h2, if_pos (by omega)]
    · rw [if_neg h2, if_neg (by omega)]
/-- Bytes of the shares. -/
def bsG (l : List Sh) (i j : Nat) : Gf.G := gOf (l.getD i sh0).2 j
theorem made_xs (l : List Sh) (w : World) : (w.alloc (.cells (madeCells #[.int .i64 0] l.length) 3)).rowIs w.heap.size 3 l.length (xsF l 0) :=
  (World.rowIs_made w (.int .i64 0) l.length 3).congr fun j _ => by simp [xsF]
theorem made_ap (l : List Sh) (w : World) : Rws (w.alloc (.cells (madeCells zero32 (l.length * 32)) 52)) w.heap.size l.length (apG l 0) :=
  (made_rows0 l.length w).congr fun i j _ _ => by simp [apG]
theorem apart_ways (l : List Sh) (w V : World) (a b : Nat) (h : (a = w.heap.size ∧ b = w.heap.size + 1 ∧ V = ((w.alloc (.cells (madeCells #[.int .i64 0] l.length) 3)).alloc (.cells (madeCells zero32 (l.length * 32)) 52)).drew) ∨
    (a = w.heap.size + 1 ∧ b = w.heap.size ∧ V = ((w.alloc (.cells (madeCells zero32 (l.length * 32)) 52)).alloc (.cells (madeCells #[.int .i64 0] l.length) 3)).drew)) :
    ∃ N M, Value.slice (some ⟨a, 0, none⟩) l.length l.length = .slice (some ⟨N, 0, none⟩) l.length l.length ∧ Value.slice (some ⟨b, 0, none⟩) l.length l.length = .slice (some ⟨M, 0, none⟩) l.length l.length ∧ N ≠ M ∧ w.heap.size ≤ N ∧ w.heap.size ≤ M ∧ V.rowIs N 3 l.length (xsF l 0) ∧ Rws V M l.length (apG l 0) ∧ Below w.heap.size w V := by
  rcases h with ⟨rfl, rfl, rfl⟩ | ⟨rfl, rfl, rfl⟩
  · refine ⟨_, _, rfl, rfl, by omega, by omega, by omega, World.rowIs.drew (rowIs_keep (made_xs l w) (Below.alloc0 _ _)), World.rowIs.drew ?_, ((Below.alloc0 _ _).al _).drew⟩
    have := made_ap l (w.alloc (.cells (madeCells #[.int .i64 0] l.length) 3))
    rwa [World.size_alloc] at this
  · refine ⟨_, _, rfl, rfl, by omega, by omega, by omega, World.rowIs.drew ?_, World.rowIs.drew (rowIs_keep (made_ap l w) (Below.alloc0 _ _)), ((Below.alloc0 _ _).al _).drew⟩
    have := made_xs l (w.alloc (.cells (madeCells zero32 (l.length * 32)) 52))
    rwa [World.size_alloc] at this

set_option maxHeartbeats 4000000 in
theorem apart_any (l : List Sh) (h0 : 1 ≤ l.length) (h2 : l.length ≤ 255) (hall : allSh l = true) (A : Option Addr) (c : Nat) (w : World) (hs : Sl w A (shV l)) :
    Calls Try.prog 33 #[.slice A l.length c] w fun e w' => (∃ N M, e = .returned (.tuple #[.slice (some ⟨N, 0, none⟩) l.length l.length, .slice (some ⟨M, 0, none⟩) l.length l.length]) ∧
      N ≠ M ∧ w.heap.size ≤ N ∧ w.heap.size ≤ M ∧ Sl w' (some ⟨N, 0, none⟩) (intsI (xsL l)) ∧ Rws w' M l.length (bsG l)) ∧ Below w.heap.size w w' := by
  have hmk := run_make_row' (P := Try.prog) 48 3 (.int .i64 0) 8 Try.underlying48 int_info rfl .i64 .i64 l.length (by omega) (by omega)
  have hmk2 := run_make_rows l.length h2
  have hst : ∀ a : Addr, A = some a → a.block < w.heap.size := fun a e => by
    rcases hs with h | ⟨b, off, rfl, hlt, _⟩
    · have := shV_length l
      rw [h] at this
      simp at this
      omega
    · cases e; exact hlt
  go_enter Try.func33, Try.ntmps33
  go_wp2
  go_cut [4, 5] from 8 (fun a b wx => ∃ N M, a = .slice (some ⟨N, 0, none⟩) l.length l.length ∧ b = .slice (some ⟨M, 0, none⟩) l.length l.length ∧ N ≠ M ∧ w.heap.size ≤ N ∧ w.heap.size ≤ M ∧ wx.rowIs N 3 l.length (xsF l 0) ∧ Rws wx M l.length (apG l 0) ∧ Below w.heap.size w wx)
  case first =>
    go_region_with fail
    all_goals (go_wp2_with fail; go_meet)
    all_goals first
      | exact apart_ways l w _ _ _ (.inl ⟨rfl, rfl, rfl⟩)
      | exact apart_ways l w _ _ _ (.inr ⟨rfl, rfl, rfl⟩)
  case rest =>
    obtain ⟨N, M, rfl, rfl, hNM, hN, hM, hr1, hr2, hb⟩ := hcut
    go_wp2
    go_loopw [16] (fun i wr => ∃ k : Nat, k ≤ l.length ∧ i = .int .i64 (k : Int) ∧ wr.rowIs N 3 l.length (xsF l k) ∧ Rws wr M l.length (apG l k) ∧ Below w.heap.size w wr) (fun i _ => l.length - (intOf i).toNat)
    case atStart => exact ⟨0, by omega, rfl, hr1, hr2, hb⟩
    case round =>
      clear hr1 hr2 hb
      obtain ⟨k, hk, rfl, hr1, hr2, hb⟩ := hrel
      by_cases hlt : k < l.length
      · obtain ⟨b, off, rfl, hx, hy⟩ := sl_sh (hs.keep hb) hlt
        have hy32 := (okSh_of (allSh_at hall hlt)).2
        have HX := Lib.hid (fun j => xsF_set l k j)
        have HR := Lib.hid (fun i j => apG_put l k i j)
        have HOK := Lib.hid (fun V => rowOf_any _ hy32 V)
        generalize (l.getD k sh0).1 = x at *
        generalize (l.getD k sh0).2 = y at *
        obtain ⟨d, hd⟩ : ∃ d, rowV (gOf y) = d := ⟨_, rfl⟩
        have hds : d.size = 32 := by rw [← hd, rowV_size]
        have hdi := row_info' (gOf y)
        have hda := rowV_one (gOf y)
        have hput := fun {V : World} (h : Rws V M l.length (apG l k)) => h.put k (gOf y)
        rw [hd] at HOK hdi hda
        have HDD := Lib.hid hd
        have HDS := Lib.hid hds
        clear hd hds hy32
        have hbA := hb.al (.cells #[.int .i64 x, .string y] 39)
        have hkA := Below.alloc0 wr (.cells #[.int .i64 x, .string y] 39)
        have hr1A := rowIs_keep hr1 hkA
        have hr2A := hr2.keep hkA
        have hcx : (wr.alloc (.cells #[.int .i64 x, .string y] 39)).cell? ⟨wr.heap.size, 0, none⟩ = some (.int .i64 x) := (cell_of_row _ _ _ _ _ _ (heap_alloc_new wr _)).trans rfl
        have hcy : (wr.alloc (.cells #[.int .i64 x, .string y] 39)).cell? ⟨wr.heap.size, 1, none⟩ = some (.string y) := (cell_of_row _ _ _ _ _ _ (heap_alloc_new wr _)).trans rfl
        have hNP : N < wr.heap.size := hr1.lt
        have hMP : M < wr.heap.size := hr2.lt
        go_wp2
        clear hr1 hr2 hb hkA hx hy hput
        generalize World.alloc wr _ = W at *
        generalize wr.heap.size = P at *
        refine Uptot.begin_ [] (fun V : World => V.cell? ⟨P, 0, none⟩ = some (.int .i64 x) ∧ V.cell? ⟨P, 1, none⟩ = some (.string y)) (fun _ : World => True) (by kernel_rfl) ?_
        have hbV : Below W.heap.size W W.drew := Below.drew0 W
        have hST : (W.drew.cell? ⟨P, 0, none⟩ = some (.int .i64 x) ∧ W.drew.cell? ⟨P, 1, none⟩ = some (.string y)) ∧ True := ⟨⟨hcx, hcy⟩, trivial⟩
        generalize W.drew = V at *
        refine Uptot.takeS (i := 0) (v := ?_) rfl (by kernel_rfl) (by kernel_rfl) (by kernel_rfl) (by kernel_rfl) (fun _ _ _ h => h) (Or.inl ⟨by rfl, ?_⟩) hST ?_
        rotate_left 1
        · intro w9 hSw; (try dsimp only at hSw); obtain ⟨s1', s2'⟩ := hSw; go_simp; (try with_reducible rfl)
        try simp only [Act.put, List.setIfInBounds_toArray, List.set_cons_zero, List.set_cons_succ]
        refine Uptot.takeS (i := 1) (v := ?_) rfl (by kernel_rfl) (by kernel_rfl) (by kernel_rfl) (by kernel_rfl) (fun _ _ _ h => h) (Or.inl ⟨by rfl, ?_⟩) hST ?_
        rotate_left 1
        · intro w9 hSw; (try dsimp only at hSw); obtain ⟨s1', s2'⟩ := hSw; go_simp; (try with_reducible rfl)
        try simp only [Act.put, List.setIfInBounds_toArray, List.set_cons_zero, List.set_cons_succ]
        refine Uptot.takeS (i := 2) (v := ?_) rfl (by kernel_rfl) (by kernel_rfl) (by kernel_rfl) (by kernel_rfl) (fun _ _ _ h => h) (Or.inl ⟨by rfl, ?_⟩) hST ?_
        rotate_left 1
        · intro w9 hSw; (try dsimp only at hSw); obtain ⟨s1', s2'⟩ := hSw; go_simp; (try with_reducible rfl)
        try simp only [Act.put, List.setIfInBounds_toArray, List.set_cons_zero, List.set_cons_succ]
        refine Uptot.takeS (i := 3) (v := ?_) rfl (by kernel_rfl) (by kernel_rfl) (by kernel_rfl) (by kernel_rfl) (fun _ _ _ h => h) (Or.inl ⟨by rfl, ?_⟩) hST ?_
        rotate_left 1
        · intro w9 hSw; (try dsimp only at hSw); obtain ⟨s1', s2'⟩ := hSw; go_simp; (try with_reducible rfl)
        try simp only [Act.put, List.setIfInBounds_toArray, List.set_cons_zero, List.set_cons_succ]
        refine Uptot.takeS (i := 4) (v := ?_) rfl (by kernel_rfl) (by kernel_rfl) (by kernel_rfl) (by kernel_rfl) (fun _ _ _ h => h) (Or.inl ⟨by rfl, ?_⟩) hST ?_
        rotate_left 1
        · intro w9 hSw; (try dsimp only at hSw); obtain ⟨s1', s2'⟩ := hSw; go_simp; (try with_reducible rfl)
        try simp only [Act.put, List.setIfInBounds_toArray, List.set_cons_zero, List.set_cons_succ]
        refine Uptot.takeS (i := 5) (v := ?_) rfl (by kernel_rfl) (by kernel_rfl) (by kernel_rfl) (by kernel_rfl) (fun _ _ _ h => h) (Or.inl ⟨by rfl, ?_⟩) hST ?_
        rotate_left 1
        · intro w9 hSw; (try dsimp only at hSw); obtain ⟨s1', s2'⟩ := hSw; go_simp; (try with_reducible rfl)
        try simp only [Act.put, List.setIfInBounds_toArray, List.set_cons_zero, List.set_cons_succ]
        refine Uptot.takeS (i := 6) (v := ?_) rfl (by kernel_rfl) (by kernel_rfl) (by kernel_rfl) (by kernel_rfl) (fun _ _ _ h => h) (Or.inl ⟨by rfl, ?_⟩) hST ?_
        rotate_left 1
        · intro w9 hSw; (try dsimp only at hSw); obtain ⟨s1', s2'⟩ := hSw; go_simp; (try with_reducible rfl)
        try simp only [Act.put, List.setIfInBounds_toArray, List.set_cons_zero, List.set_cons_succ]
        refine Uptot.takeS (i := 7) (v := ?_) rfl (by kernel_rfl) (by kernel_rfl) (by kernel_rfl) (by kernel_rfl) (fun _ _ _ h => h) (Or.inl ⟨by rfl, ?_⟩) hST ?_
        rotate_left 1
        · intro w9 hSw; (try dsimp only at hSw); obtain ⟨s1', s2'⟩ := hSw; go_simp; (try with_reducible rfl)
        try simp only [Act.put, List.setIfInBounds_toArray, List.set_cons_zero, List.set_cons_succ]
        refine Uptot.one (i := 8) rfl (by kernel_rfl) (fun K hK9 => ?_)
        go_simp
        go_at_call 41
        refine (HOK.out _).mono ?_
        rintro e' V9 ⟨rfl, hb9⟩
        replace hST : (V9.cell? ⟨P, 0, none⟩ = some (.int .i64 x) ∧ V9.cell? ⟨P, 1, none⟩ = some (.string y)) ∧ True := ⟨⟨(hb9.cell (p := ⟨P, 0, none⟩) (block_lt_of_cell hST.1.1)).trans hST.1.1, (hb9.cell (p := ⟨P, 1, none⟩) (block_lt_of_cell hST.1.2)).trans hST.1.2⟩, trivial⟩
        replace hbV := hbV.next hb9
        refine hK9.out _ _ (Cond.ahead hST) ?_
        clear hK9 K hb9
        try simp only [Act.put, List.setIfInBounds_toArray, List.set_cons_zero, List.set_cons_succ]
        refine Uptot.one (i := 9) rfl (by kernel_rfl) (fun K hK9 => ?_)
        go_simp
        refine hK9.out _ _ (Cond.ahead hST) ?_
        clear hK9 K
        try simp only [Act.put, List.setIfInBounds_toArray, List.set_cons_zero, List.set_cons_succ]
        replace hr1A := rowIs_keep hr1A hbV
        replace hr2A := hr2A.keep hbV
        replace hbA := hbA.next' hbV
        clear hbV
        have hl1 := hr1A.cell (i := k) hlt
        have hf1 := hr1A.frozen k
        generalize xsF l k k = c1 at hl1
        refine Uptot.one (i := 10) rfl (by kernel_rfl) (fun K hK9 => ?_)
        go_simp
        replace hr1A := (hr1A.set k (.int .i64 x)).congr fun j _ => HX.out j
        replace hr2A := hr2A.setOther (N := N) (by omega) k (.int .i64 x)
        replace hbA := hbA.setCell (p := ⟨N, k, none⟩) (by exact hN) (.int .i64 x)
        replace hST : ((V9.setCell ⟨N, k, none⟩ (.int .i64 x)).cell? ⟨P, 0, none⟩ = some (.int .i64 x) ∧ (V9.setCell ⟨N, k, none⟩ (.int .i64 x)).cell? ⟨P, 1, none⟩ = some (.string y)) ∧ True := ⟨⟨(World.cell?_setCell_other _ _ _ _ (by intro e; have := congrArg Addr.block e; dsimp only at this; omega)).trans hST.1.1, (World.cell?_setCell_other _ _ _ _ (by intro e; have := congrArg Addr.block e; dsimp only at this; omega)).trans hST.1.2⟩, trivial⟩
        refine hK9.out _ _ (Cond.ahead hST) ?_
        clear hK9 K hl1 hf1
        generalize World.setCell _ _ _ = V at *
        try simp only [Act.put, List.setIfInBounds_toArray, List.set_cons_zero, List.set_cons_succ]
        refine Uptot.one (i := 11) rfl (by kernel_rfl) (fun K hK9 => ?_)
        go_simp
        refine hK9.out _ _ (Cond.ahead hST) ?_
        clear hK9 K
        try simp only [Act.put, List.setIfInBounds_toArray, List.set_cons_zero, List.set_cons_succ]
        refine Uptot.one (i := 12) rfl (by kernel_rfl) (fun K hK9 => ?_)
        rw [wanted_plain rfl, if_pos rfl]
        refine wp_store_mid _ _ _ rfl M (k * 32) d rfl rfl (hr2A.there hlt d HDS.out) hdi hda ?_
        replace hr2A : Rws (V.setCells M (k * 32) d.toList) M l.length (apG l (k + 1)) := by
          have h := hr2A.put k (gOf y)
          rw [HDD.out] at h
          exact h.congr fun i j _ _ => HR.out i j
        replace hr1A := Go.rowIs_setCells_other (t := 3) (n := l.length) (f := xsF l (k + 1)) (by omega : N ≠ M) d.toList (k * 32) V hr1A
        replace hbA := Go.below_setCells hM d.toList (k * 32) V hbA
        replace hST : ((V.setCells M (k * 32) d.toList).cell? ⟨P, 0, none⟩ = some (.int .i64 x) ∧ (V.setCells M (k * 32) d.toList).cell? ⟨P, 1, none⟩ = some (.string y)) ∧ True := ⟨⟨(World.cell?_setCells_out _ _ _ _ _ (by intro e; dsimp only at e; omega)).trans hST.1.1, (World.cell?_setCells_out _ _ _ _ _ (by intro e; dsimp only at e; omega)).trans hST.1.2⟩, trivial⟩
        refine hK9.out _ _ (Cond.ahead hST) ?_
        clear hK9 K
        try simp only [Act.put]
        refine Uptot.done (by kernel_rfl) ?_ _
        generalize World.setCells _ _ _ _ = V5 at *
        go_wp2
        go_roundw
        case rel => exact ⟨k + 1, by omega, by go_num, hr1A, hr2A, hbA⟩
        case measure => simp [intOf]; omega
      · obtain rfl : k = l.length := by omega
        have hsx := xsF_sl hr1
        have hrw : Rws wr M l.length (bsG l) := hr2.congr fun i j hi _ => if_pos hi
        go_wp2
        go_ret2
        exact ⟨⟨N, M, rfl, hNM, hN, hM, hsx, hrw⟩, hb⟩
end Go.Proofs.Ytljckcegcfidoaa

/-
  share: the contract of sum.
-/
namespace Go.Proofs.Ytljckcegcfidoaa
open Go.RowKit Go.Kx
set_option maxRecDepth 20000

/-- The sum of the first k rows, each times its weight. -/
def accR (ws : List Int) (F : Nat → Nat → Gf.G) (k j : Nat) : Gf.G := Gf.sumG ((List.range k).map fun i => toG (ws.getD i 0) * F i j)
theorem accR_succ (ws : List Int) (F : Nat → Nat → Gf.G) (k j : Nat) : accR ws F (k + 1) j = accR ws F k j + toG (ws.getD k 0) * F k j := by
  unfold accR
  rw [List.range_succ, List.map_append, Gf.sumG_append]
  show _ + (_ + 0) = _
  rw [Gf.G.add_zero]
theorem sl_old {w : World} {A : Option Addr} {vs : List Value} (h : Sl w A vs) {b off : Nat} (e : A = some ⟨b, off, none⟩) (hv : 0 < vs.length) : b < w.heap.size := by
  rcases h with h | ⟨b', off', e', hlt, _⟩
  · subst h; simp at hv
  · rw [e] at e'
    cases e'
    exact hlt
set_option maxHeartbeats 4000000 in
theorem ssum_any (g M n : Nat) (F : Nat → Nat → Gf.G) (ws : List Int) (A : Option Addr) (c : Nat) (hn : ws.length = n) (hn2 : n ≤ 255) (hd : allI dig ws = true) (w : World) (hf : Fld w g) (hr : Rws w M n F) (hs : Sl w A (intsI ws)) :
    Calls Try.prog 35 #[.pointer (some ⟨g, 0, none⟩), .slice (some ⟨M, 0, none⟩) n n, .slice A n c] w fun e w' => e = .returned (.agg (rowV (accR ws F n))) ∧ Below w.heap.size w w' := by
  have HN := Lib.hid hn
  have hz : zero32 = rowV (accR ws F 0) := by
    show _ = rowV fun _ => 0
    rw [rowV, rowA, zero32_eq]
    congr 1
  obtain ⟨z, hzz, hzs⟩ : ∃ z : Array Value, zero32 = z ∧ z.size = 32 := ⟨_, rfl, rfl⟩
  have hg0 : ((w.alloc (.cells zero32 52)).alloc (.cells zero32 52)).heap[w.heap.size]? = some (.cells zero32 52 (0, 0)) :=
    (Below.heap_alloc _ _ _ (by simp)).trans (heap_alloc_new w _)
  have hg1 : ((w.alloc (.cells zero32 52)).alloc (.cells zero32 52)).heap[w.heap.size + 1]? = some (.cells zero32 52 (0, 0)) := by
    have := heap_alloc_new (w.alloc (.cells zero32 52)) (.cells zero32 52)
    rwa [World.size_alloc] at this
  have hb0 : Below w.heap.size w ((w.alloc (.cells zero32 52)).alloc (.cells zero32 52)) := (Below.alloc0 _ _).al _
  replace hg0 := hg0.trans (congrArg (fun d => some (Obj.cells d 52 (0, 0))) hzz)
  replace hg1 := hg1.trans (congrArg (fun d => some (Obj.cells d 52 (0, 0))) hz)
  clear hz hzz hn
  unfold zero32 at hg0 hg1 hb0
  go_enter Try.func35, Try.ntmps35
  go_wp2
  generalize World.alloc (World.alloc w _) _ = W at *
  have hS1 : w.heap.size + 1 < W.heap.size := (Array.getElem?_eq_some_iff.1 hg1).1
  go_loopw [12] (fun i wr => ∃ k : Nat, k ≤ n ∧ i = .int .i64 (k : Int) ∧ wr.heap[w.heap.size + 1]? = some (.cells (rowV (accR ws F k)) 52 (0, 0)) ∧ wr.heap[w.heap.size]? = some (.cells z 52 (0, 0)) ∧ Below w.heap.size w wr) (fun i _ => n - (intOf i).toNat)
  case atStart => exact ⟨0, by omega, rfl, hg1, hg0, hb0⟩
  case round =>
    clear hg1 hg0 hb0 hS1
    obtain ⟨k, hk, rfl, hg1, hg0, hb⟩ := hrel
    by_cases hlt : k < n
    · have hltn : k < ws.length := by rw [HN.out]; exact hlt
      obtain ⟨b, off, rfl, hx⟩ := sl_int (hs.keep hb) hltn
      have hbw : b < w.heap.size := sl_old hs rfl (by rw [intsI_length]; omega)
      have hxd := allI_at hd hltn
      have hrg := (hr.keep hb).range hlt
      have hinfR := row_info' (F k)
      have hallR := rowV_one (F k)
      have hzd : zero32.size = (rowV (F k)).size := by rw [rowV_size]; rfl
      have hinfS := row_info' (accR ws F k)
      have hinf2 := row_info' (accR ws F (k + 1))
      have hall2 := rowV_one (accR ws F (k + 1))
      have hsz2 : (rowV (accR ws F k)).size = (rowV (accR ws F (k + 1))).size := by rw [rowV_size, rowV_size]
      have hfr := hf.keep hb
      obtain ⟨x, hxx⟩ : ∃ x, ws.getD k 0 = x := ⟨_, rfl⟩
      have HT : Hid (∀ V, Fld V g → Calls Try.prog 44 #[.agg (rowV (F k)), .pointer (some ⟨g, 0, none⟩), .int .i64 x] V fun e w' => e = .returned (.agg (rowV fun j => toG x * F k j)) ∧ Below V.heap.size V w') :=
        Lib.hid (fun V hV => stimes_any (F k) g x (by rw [← hxx]; exact hxd) V hV)
      have HP : Hid (∀ V, Calls Try.prog 43 #[.agg (rowV (accR ws F k)), .agg (rowV fun j => toG x * F k j)] V fun e w' => e = .returned (.agg (rowV (accR ws F (k + 1)))) ∧ Below V.heap.size V w') := Lib.hid (fun V => by
        have h := splus_any (accR ws F k) (fun j => toG x * F k j) V
        rw [rowV_congr (R := fun j => accR ws F k j + toG x * F k j) (S := accR ws F (k + 1)) (fun j _ => by rw [accR_succ, hxx])] at h
        exact h)
      rw [hxx] at hx
      clear hxx hxd
      generalize (rowV fun j => toG x * F k j) = dT at *
      generalize rowV (F k) = dR at *
      generalize hD1 : rowV (accR ws F k) = dS at *
      clear hD1
      obtain ⟨d2, hD2⟩ : ∃ d, rowV (accR ws F (k + 1)) = d := ⟨_, rfl⟩
      have HD2 := Lib.hid hD2
      rw [hD2] at HP hinf2 hall2 hsz2
      clear hD2
      have hinfl : (Try.prog.info? 52).map (·.size) = some dR.toList.length := hinfR
      have hz0 : (wr.alloc (.cells zero32 52)).heap[wr.heap.size]? = some (.cells zero32 52 (0, 0)) := heap_alloc_new _ _
      have hP1 := setRow_heap _ wr.heap.size _ dR _ _ hz0
      have hkz := (Below.alloc0 wr (.cells zero32 52)).setRow (Nat.le_refl _) dR
      have hg1' := (hkz.block _ (Array.getElem?_eq_some_iff.1 hg1).1).trans hg1
      have hg0' := (hkz.block _ (Array.getElem?_eq_some_iff.1 hg0).1).trans hg0
      have hx' := (hkz.cell (p := ⟨b, off + k, none⟩) (block_lt_of_cell hx)).trans hx
      have hf' := hfr.keep hkz
      have hb' := hb.next' hkz
      have hPS : w.heap.size + 1 < wr.heap.size := (Array.getElem?_eq_some_iff.1 hg1).1
      unfold zero32 at hz0 hP1 hzd hg1' hg0' hx' hf' hb'
      clear hkz
      go_wp2_with (first
        | (refine wpList_load_mid rfl _ _ rfl M (k * 32) rfl _ _ hrg Try.underlying52 rfl hinfl ?_)
        | (refine wpList_store_row rfl _ _ _ rfl wr.heap.size dR rfl rfl _ _ hz0 hinfR hzd hallR ?_))
      clear hg1 hg0 hx hb hrg hz0 hzd hfr
      generalize World.setRow _ _ dR = W1 at *
      generalize wr.heap.size = P at *
      refine Uptot.begin_ [9] (fun V : World => V.heap[P]? = some (.cells dR 52 (0, 0)) ∧ V.cell? ⟨b, off + k, none⟩ = some (.int .i64 x)) (fun V : World => V.heap[w.heap.size + 1]? = some (.cells dS 52 (0, 0))) (by kernel_rfl) ?_
      have hbV : Below W1.heap.size W1 W1.drew := Below.drew0 W1
      have hST : (W1.drew.heap[P]? = some (.cells dR 52 (0, 0)) ∧ W1.drew.cell? ⟨b, off + k, none⟩ = some (.int .i64 x)) ∧ W1.drew.heap[w.heap.size + 1]? = some (.cells dS 52 (0, 0)) := ⟨⟨hP1, hx'⟩, hg1'⟩
      have hfV := hf'.keep hbV
      clear hP1 hx' hg1' hf'
      generalize W1.drew = V at *
      refine Uptot.take (i := 0) rfl (by kernel_rfl) (by kernel_rfl) (by kernel_rfl) (by kernel_rfl) (fun _ _ _ h => h) (yields_load_row rfl _ _ rfl (w.heap.size + 1) rfl _ _ _ _ (fun _ h => h.2) Try.underlying52 rfl hinfS) hST ?_
      try simp only [Act.put, List.setIfInBounds_toArray, List.set_cons_zero, List.set_cons_succ]
      refine Uptot.takeS (i := 1) rfl (by kernel_rfl) (by kernel_rfl) (by kernel_rfl) (by kernel_rfl) (fun _ _ _ h => h) (yields_load_row rfl _ _ rfl P rfl _ _ _ _ (fun _ h => h.1) Try.underlying52 rfl hinfR) hST ?_
      try simp only [Act.put, List.setIfInBounds_toArray, List.set_cons_zero, List.set_cons_succ]
      refine Uptot.takeS (i := 2) (v := ?_) rfl (by kernel_rfl) (by kernel_rfl) (by kernel_rfl) (by kernel_rfl) (fun _ _ _ h => h) (Or.inl ⟨by rfl, ?_⟩) hST ?_
      rotate_left 1
      · intro w9 hSw; (try dsimp only at hSw); obtain ⟨s1', s2'⟩ := hSw; go_simp; (try with_reducible rfl)
      try simp only [Act.put, List.setIfInBounds_toArray, List.set_cons_zero, List.set_cons_succ]
      refine Uptot.takeS (i := 3) (v := ?_) rfl (by kernel_rfl) (by kernel_rfl) (by kernel_rfl) (by kernel_rfl) (fun _ _ _ h => h) (Or.inl ⟨by rfl, ?_⟩) hST ?_
      rotate_left 1
      · intro w9 hSw; (try dsimp only at hSw); obtain ⟨s1', s2'⟩ := hSw; go_simp; (try with_reducible rfl)
      try simp only [Act.put, List.setIfInBounds_toArray, List.set_cons_zero, List.set_cons_succ]
      refine Uptot.takeS (i := 4) (v := ?_) rfl (by kernel_rfl) (by kernel_rfl) (by kernel_rfl) (by kernel_rfl) (fun _ _ _ h => h) (Or.inl ⟨by rfl, ?_⟩) hST ?_
      rotate_left 1
      · intro w9 hSw; (try dsimp only at hSw); obtain ⟨s1', s2'⟩ := hSw; go_simp; (try with_reducible rfl)
      try simp only [Act.put, List.setIfInBounds_toArray, List.set_cons_zero, List.set_cons_succ]
      refine Uptot.takeS (i := 5) (v := ?_) rfl (by kernel_rfl) (by kernel_rfl) (by kernel_rfl) (by kernel_rfl) (fun _ _ _ h => h) (Or.inl ⟨by rfl, ?_⟩) hST ?_
      rotate_left 1
      · intro w9 hSw; (try dsimp only at hSw); obtain ⟨s1', s2'⟩ := hSw; go_simp; (try with_reducible rfl)
      try simp only [Act.put, List.setIfInBounds_toArray, List.set_cons_zero, List.set_cons_succ]
      refine Uptot.takeS (i := 6) (v := ?_) rfl (by kernel_rfl) (by kernel_rfl) (by kernel_rfl) (by kernel_rfl) (fun _ _ _ h => h) (Or.inl ⟨by rfl, ?_⟩) hST ?_
      rotate_left 1
      · intro w9 hSw; (try dsimp only at hSw); obtain ⟨s1', s2'⟩ := hSw; go_simp; (try with_reducible rfl)
      try simp only [Act.put, List.setIfInBounds_toArray, List.set_cons_zero, List.set_cons_succ]
      refine Uptot.one (i := 7) rfl (by kernel_rfl) (fun K hK9 => ?_)
      go_simp
      go_at_call 44
      refine (HT.out _ hfV).mono ?_
      rintro e' V9 ⟨rfl, hb9⟩
      replace hST : (V9.heap[P]? = some (.cells dR 52 (0, 0)) ∧ V9.cell? ⟨b, off + k, none⟩ = some (.int .i64 x)) ∧ V9.heap[w.heap.size + 1]? = some (.cells dS 52 (0, 0)) :=
        ⟨⟨(hb9.block _ (Array.getElem?_eq_some_iff.1 hST.1.1).1).trans hST.1.1, (hb9.cell (p := ⟨b, off + k, none⟩) (block_lt_of_cell hST.1.2)).trans hST.1.2⟩, (hb9.block _ (Array.getElem?_eq_some_iff.1 hST.2).1).trans hST.2⟩
      replace hbV := hbV.next hb9
      refine hK9.out _ _ (Cond.ahead hST) ?_
      clear hK9 K hb9
      clear hfV
      try simp only [Act.put, List.setIfInBounds_toArray, List.set_cons_zero, List.set_cons_succ]
      refine Uptot.one (i := 8) rfl (by kernel_rfl) (fun K hK9 => ?_)
      go_simp
      go_at_call 43
      refine (HP.out _).mono ?_
      rintro e' V10 ⟨rfl, hb9⟩
      replace hST : (V10.heap[P]? = some (.cells dR 52 (0, 0)) ∧ V10.cell? ⟨b, off + k, none⟩ = some (.int .i64 x)) ∧ V10.heap[w.heap.size + 1]? = some (.cells dS 52 (0, 0)) :=
        ⟨⟨(hb9.block _ (Array.getElem?_eq_some_iff.1 hST.1.1).1).trans hST.1.1, (hb9.cell (p := ⟨b, off + k, none⟩) (block_lt_of_cell hST.1.2)).trans hST.1.2⟩, (hb9.block _ (Array.getElem?_eq_some_iff.1 hST.2).1).trans hST.2⟩
      replace hbV := hbV.next hb9
      refine hK9.out _ _ (Cond.ahead hST) ?_
      clear hK9 K hb9
      try simp only [Act.put, List.setIfInBounds_toArray, List.set_cons_zero, List.set_cons_succ]
      refine Uptot.one (i := 9) rfl (by kernel_rfl) (fun K hK9 => ?_)
      rw [wanted_plain rfl, if_pos rfl]
      refine wp_store_row _ _ _ rfl (w.heap.size + 1) d2 rfl rfl _ _ hST.2 hinf2 hsz2 hall2 ?_
      have hnew := setRow_heap _ (w.heap.size + 1) _ d2 _ _ hST.2
      have hz9 := (setRow_other V10 (w.heap.size + 1) w.heap.size d2 (by omega)).trans ((hbV.block _ (Array.getElem?_eq_some_iff.1 hg0').1).trans hg0')
      have hbE := (hb'.next' hbV).setRow (g := w.heap.size + 1) (by omega) d2
      have hSS : (V10.setRow (w.heap.size + 1) d2).heap[P]? = some (.cells dR 52 (0, 0)) ∧ (V10.setRow (w.heap.size + 1) d2).cell? ⟨b, off + k, none⟩ = some (.int .i64 x) :=
        ⟨(setRow_other V10 (w.heap.size + 1) P d2 (by omega)).trans hST.1.1, ((((Below.refl _ V10).setRow (g := w.heap.size + 1) (Nat.le_refl _) d2).cell (p := ⟨b, off + k, none⟩) (by show b < _; omega))).trans hST.1.2⟩
      refine hK9.out _ _ (Cond.behind hSS (by kernel_rfl)) ?_
      clear hK9 K
      try simp only [Act.put]
      refine Uptot.done (by kernel_rfl) ?_ _
      clear hSS hST hbV hb' hg0'
      generalize World.setRow _ _ d2 = V11 at *
      rw [← HD2.out] at hnew
      go_wp2
      go_roundw
      case rel => exact ⟨k + 1, by omega, by go_num, hnew, hz9, hbE⟩
      case measure => simp [intOf]; omega
    · obtain rfl : k = n := by omega
      obtain ⟨d, hD⟩ : ∃ d, rowV (accR ws F k) = d := ⟨_, rfl⟩
      have HD := Lib.hid hD
      have hinf := row_info' (accR ws F k)
      have hall := rowV_one (accR ws F k)
      have hds := rowV_size (accR ws F k)
      rw [hD] at hg1 hinf hall hds
      clear hD
      have hzd : z.size = d.size := by rw [hzs, hds]
      clear hds
      go_wp2_with (first
        | (refine wpList_load_row rfl _ _ rfl (w.heap.size + 1) rfl _ _ _ _ hg1 Try.underlying52 rfl hinf ?_)
        | (refine wpList_store_row rfl _ _ _ rfl w.heap.size _ rfl rfl _ _ hg0 hinf hzd hall ?_))
      exact bodyPost_ret (v := .agg d) (results_cell_row rfl _ _ w.heap.size _ _ _ _ rfl (setRow_heap _ _ _ _ _ _ hg0) Try.underlying52 rfl hinf) rfl ⟨by rw [HD.out], hb.setRow (Nat.le_refl _) _⟩
end Go.Proofs.Ytljckcegcfidoaa

/-
  poly: the contract of fold over quotients.
-/
namespace Go.Proofs.Ytljckcegcfidoaa
open Go.RowKit Go.Kx
set_option maxRecDepth 20000

def quo (p : Int × Int) : Array Value := #[.int .i64 p.1, .int .i64 p.2]
theorem quo_size (p : Int × Int) : (quo p).size = 2 := rfl
theorem quo_all (p : Int × Int) : (quo p).all (·.oneCell') = true := by simp [quo, Value.oneCell']
theorem quo_info : (Try.prog.info? 97).map (·.size) = some 2 := by kernel_rfl
/-- A block that holds a quotient. -/
def Quo (w : World) (b : Nat) (p : Int × Int) : Prop := w.heap[b]? = some (.cells (quo p) 97 (0, 0))
theorem Quo.lt {w : World} {b : Nat} {p : Int × Int} (h : Quo w b p) : b < w.heap.size := (Array.getElem?_eq_some_iff.1 h).1
theorem Quo.keep {w w' : World} {b B : Nat} {p : Int × Int} (h : Quo w b p) (hb : Below B w w') (hB : b < B) : Quo w' b p := (hb.block b hB).trans h
theorem Quo.keep' {w w' : World} {b : Nat} {p : Int × Int} (h : Quo w b p) (hb : Below w.heap.size w w') : Quo w' b p := h.keep hb h.lt
theorem Quo.set {w : World} {b : Nat} {p : Int × Int} (h : Quo w b p) (q : Int × Int) : Quo (w.setRow b (quo q)) b q := setRow_heap _ _ _ _ _ _ h
theorem Quo.other {w : World} {b g : Nat} {p : Int × Int} (h : Quo w b p) (hne : b ≠ g) (cs : Array Value) : Quo (w.setRow g cs) b p := (setRow_other w g b cs hne).trans h
theorem Quo.new (w : World) (p : Int × Int) : Quo (w.alloc (.cells (quo p) 97)) w.heap.size p := heap_alloc_new w _
theorem Quo.cells {w : World} {b : Nat} {p : Int × Int} (h : Quo w b p) : w.cell? ⟨b, 0, none⟩ = some (.int .i64 p.1) ∧ w.cell? ⟨b, 1, none⟩ = some (.int .i64 p.2) :=
  ⟨(cell_of_row _ _ _ _ _ _ h).trans rfl, (cell_of_row _ _ _ _ _ _ h).trans rfl⟩
set_option maxHeartbeats 1000000 in
theorem foldQ_any (F : FuncId) (hF : ∀ (a : Array Value) (w : World), (callFunc F a).run Try.prog w = .ok (.enter F a) w) (p0 p1 p2 p3 : Value) (l : List Int) (S : Nat → Int × Int) (A : Option Addr) (c : Nat) (hl : l.length ≤ 9223372036854775807) (w : World) (hs : Sl w A (intsI l))
    (hstep : ∀ k, k < l.length → ∀ w1, Below w.heap.size w w1 → Calls Try.prog F #[.agg (quo (S k)), .int .i64 k, .int .i64 (l.getD k 0), p0, p1, p2, p3] w1 fun e w' => e = .returned (.agg (quo (S (k + 1)))) ∧ Below w1.heap.size w1 w') :
    Calls Try.prog 73 #[.slice A l.length c, .agg (quo (S 0)), .func (.func F) #[] #[p0, p1, p2, p3]] w fun e w' => e = .returned (.agg (quo (S l.length))) ∧ Below w.heap.size w w' := by
  have HS := Lib.hid hstep
  clear hstep
  obtain ⟨⟨o0, u0⟩, h00⟩ : ∃ p, p = S 0 := ⟨_, rfl⟩
  rw [← h00]
  have H00 := Lib.hid h00
  clear h00
  show Calls _ _ #[_, .agg #[.int .i64 o0, .int .i64 u0], _] _ _
  go_enter Try.func73, Try.ntmps73
  go_wp2
  have hq1 : Quo (((w.alloc (.cells (quo (o0, u0)) 97)).alloc (.cells (quo (0, 0)) 97)).alloc (.cells (quo (o0, u0)) 97)) (w.heap.size + 1) (0, 0) := by
    have := Quo.new (w.alloc (.cells (quo (o0, u0)) 97)) (0, 0)
    rw [World.size_alloc] at this
    exact this.keep' (Below.alloc0 _ _)
  have hq2 : Quo (((w.alloc (.cells (quo (o0, u0)) 97)).alloc (.cells (quo (0, 0)) 97)).alloc (.cells (quo (o0, u0)) 97)) (w.heap.size + 1 + 1) (o0, u0) := by
    have := Quo.new ((w.alloc (.cells (quo (o0, u0)) 97)).alloc (.cells (quo (0, 0)) 97)) (o0, u0)
    rw [World.size_alloc, World.size_alloc] at this
    exact this
  have hb0 : Below w.heap.size w (((w.alloc (.cells (quo (o0, u0)) 97)).alloc (.cells (quo (0, 0)) 97)).alloc (.cells (quo (o0, u0)) 97)) := ((Below.alloc0 _ _).al _).al _
  unfold quo at hq1 hq2 hb0
  generalize World.alloc _ (.cells #[.int .i64 o0, .int .i64 u0] 97) = W at *
  go_loopw [13] (fun i wr => ∃ k : Nat, i = .int .i64 k ∧ k ≤ l.length ∧ Quo wr (w.heap.size + 1) (0, 0) ∧ Quo wr (w.heap.size + 1 + 1) (S k) ∧ Below w.heap.size w wr) (fun i _ => l.length - (intOf i).toNat)
  case atStart => exact ⟨0, rfl, by omega, hq1, by rw [← H00.out]; exact hq2, hb0⟩
  case round =>
    clear hq1 hq2 hb0
    obtain ⟨k, rfl, hk, hq1, hq2, hb⟩ := hrel
    by_cases hlt : k < l.length
    · have HC := Lib.hid (HS.out k hlt wr hb)
      obtain ⟨b, off, rfl, hc⟩ := sl_int (hs.keep hb) hlt
      generalize l.getD k 0 = x at *
      generalize hy : S (k + 1) = y at *
      have HY := Lib.hid hy
      clear hy
      generalize S k = z at *
      obtain ⟨zo, zu⟩ := z
      obtain ⟨yo, yu⟩ := y
      have hc0 := hq2.cells.1
      have hc1 := hq2.cells.2
      unfold quo at HC
      go_wp2_with fail
      refine HC.out.mono ?_
      rintro e w1 ⟨rfl, hb1⟩
      replace hb := hb.next' hb1
      replace hq1 := hq1.keep' hb1
      replace hq2 := hq2.keep' hb1
      clear hc0 hc1
      go_wp2_with (refine wpList_store_row rfl _ _ _ rfl (w.heap.size + 1 + 1) (quo (yo, yu)) rfl rfl _ _ hq2 quo_info rfl (quo_all _) ?_)
      go_roundw
      case rel => exact ⟨k + 1, by go_num, by omega, hq1.other (by omega) _, by rw [HY.out]; exact hq2.set _, hb.setRow (by omega) _⟩
      case measure => simp [intOf]; omega
    · obtain rfl : k = l.length := by omega
      obtain ⟨⟨zo, zu⟩, hz⟩ : ∃ z, S l.length = z := ⟨_, rfl⟩
      rw [hz] at hq2
      have HZ := Lib.hid hz
      clear hz
      have hc0 := hq2.cells.1
      have hc1 := hq2.cells.2
      go_wp2_with (refine wpList_store_row rfl _ _ _ rfl (w.heap.size + 1) (quo (zo, zu)) rfl rfl _ _ hq1 quo_info rfl (quo_all _) ?_)
      exact bodyPost_ret (v := .agg (quo (zo, zu))) (results_cell_row rfl _ _ (w.heap.size + 1) _ _ _ _ rfl (hq1.set _) Try.underlying97 rfl quo_info) rfl ⟨by rw [HZ.out], hb.setRow (by omega) _⟩
end Go.Proofs.Ytljckcegcfidoaa

/-
  poly: the contracts of weight's closure and of weight.
-/
namespace Go.Proofs.Ytljckcegcfidoaa
open Go.RowKit Go.Kx
set_option maxRecDepth 20000

/-- What weight's closure needs. -/
def WtBox (w : World) (B g : Nat) (xs : List Int) (i : Nat) (x : Int) (A : Option Addr) (c : Nat) : Prop :=
  Fld w g ∧ w.cell? ⟨B, 0, none⟩ = some (.pointer (some ⟨g, 0, none⟩)) ∧ w.cell? ⟨B + 1, 0, none⟩ = some (.slice A xs.length c) ∧ w.cell? ⟨B + 1 + 1, 0, none⟩ = some (.int .i64 i) ∧ w.cell? ⟨B + 1 + 1 + 1, 0, none⟩ = some (.int .i64 x) ∧ Sl w A (intsI xs) ∧ B + 1 + 1 + 1 < w.heap.size
theorem WtBox.keep {w w' : World} {B g : Nat} {xs : List Int} {i : Nat} {x : Int} {A : Option Addr} {c : Nat} (h : WtBox w B g xs i x A c) (hb : Below w.heap.size w w') : WtBox w' B g xs i x A c := by
  obtain ⟨h0, h1, h2, h3, h4, h5, h6⟩ := h
  exact ⟨h0.keep hb, (hb.cell (p := ⟨B, 0, none⟩) (show B < _ by omega)).trans h1, (hb.cell (p := ⟨B + 1, 0, none⟩) (show B + 1 < _ by omega)).trans h2, (hb.cell (p := ⟨B + 1 + 1, 0, none⟩) (show B + 1 + 1 < _ by omega)).trans h3, (hb.cell (p := ⟨B + 1 + 1 + 1, 0, none⟩) h6).trans h4, h5.keep hb, Nat.lt_of_lt_of_le h6 hb.size⟩
/-- A round of weight's fold. -/
def qstep (x xi : Int) (p : Int × Int) (d : Int) : Int × Int := (((mulA p.1 ((addA x d).1 : Nat)).1 : Nat), ((mulA p.2 ((addA xi d).1 : Nat)).1 : Nat))
def qround (xs : List Int) (i : Nat) (x : Int) (p : Int × Int) (k : Nat) (d : Int) : Int × Int := if k = i then p else qstep x (xs.getD i 0) p d
set_option maxHeartbeats 4000000 in
theorem weightStep_any (B g : Nat) (xs : List Int) (i : Nat) (x : Int) (A : Option Addr) (c : Nat) (hi : i < xs.length) (p : Int × Int) (k : Nat) (d : Int) (w : World) (h : WtBox w B g xs i x A c) :
    Calls Try.prog 74 #[.agg (quo p), .int .i64 k, .int .i64 d, .pointer (some ⟨B + 1 + 1, 0, none⟩), .pointer (some ⟨B, 0, none⟩), .pointer (some ⟨B + 1 + 1 + 1, 0, none⟩), .pointer (some ⟨B + 1, 0, none⟩)] w
      fun e w' => e = .returned (.agg (quo (qround xs i x p k d))) ∧ Below w.heap.size w w' := by
  obtain ⟨o, u⟩ := p
  have hb0 : Below w.heap.size w ((w.alloc (.cells (quo (o, u)) 97)).alloc (.cells (quo (0, 0)) 97)) := (Below.alloc0 _ _).al _
  have hbx := h.keep hb0
  have hq0 : Quo ((w.alloc (.cells (quo (o, u)) 97)).alloc (.cells (quo (0, 0)) 97)) w.heap.size (o, u) := (Quo.new w (o, u)).keep' (Below.alloc0 _ _)
  have hq1 : Quo ((w.alloc (.cells (quo (o, u)) 97)).alloc (.cells (quo (0, 0)) 97)) (w.heap.size + 1) (0, 0) := by
    have := Quo.new (w.alloc (.cells (quo (o, u)) 97)) (0, 0)
    rw [World.size_alloc] at this
    exact this
  have hc0 := hq0.cells.1
  have hc1 := hq0.cells.2
  obtain ⟨hf, hbf, hbs, hbi, hbxx, hsl, hlt⟩ := hbx
  by_cases hki : k = i
  · have hr : qround xs i x (o, u) k d = (o, u) := if_pos hki
    rw [hr]
    subst hki
    have hq2 := hq1.set (o, u)
    have hb2 := hb0.setRow (g := w.heap.size + 1) (by omega) (quo (o, u))
    unfold quo at hb0 hc0 hc1 hbf hbs hbi hbxx hq1
    show Calls _ _ #[.agg #[.int .i64 o, .int .i64 u], _, _, _, _, _, _] _ _
    go_enter Try.func74, Try.ntmps74
    go_wp2_with (refine wpList_store_row rfl _ _ _ rfl (w.heap.size + 1) (quo (o, u)) rfl rfl _ _ hq1 quo_info rfl (quo_all _) ?_)
    exact bodyPost_ret (v := .agg (quo (o, u))) (results_cell_row rfl _ _ (w.heap.size + 1) _ _ _ _ rfl hq2 Try.underlying97 rfl quo_info) rfl ⟨rfl, hb2⟩
  · obtain ⟨⟨ro, ru⟩, hr⟩ : ∃ r, qround xs i x (o, u) k d = r := ⟨_, rfl⟩
    rw [hr]
    rw [qround, if_neg hki, qstep] at hr
    obtain ⟨hro, hru⟩ := Prod.mk.inj hr
    clear hr
    obtain ⟨b, off, rfl, hcx⟩ := sl_int h.2.2.2.2.2.1 hi
    have hbl := block_lt_of_cell hcx
    have hBl := h.2.2.2.2.2.2
    replace hcx := (hb0.cell (p := ⟨b, off + i, none⟩) hbl).trans hcx
    generalize xs.getD i 0 = xi at *
    dsimp only at hro hru hc0 hc1
    have hte : ((k : Int) == (i : Int)) = false := by simp; omega
    have HRO := Lib.hid hro
    have HRU := Lib.hid hru
    clear hro hru hki hsl h
    obtain ⟨s1, hs1⟩ : ∃ s, (addA x d).1 = s := ⟨_, rfl⟩
    obtain ⟨s2, hs2⟩ : ∃ s, (addA xi d).1 = s := ⟨_, rfl⟩
    rw [hs1] at HRO
    rw [hs2] at HRU
    have HS1 := Lib.hid hs1
    have HS2 := Lib.hid hs2
    clear hs1 hs2
    unfold quo at hb0 hc0 hc1 hbf hbs hbi hbxx hcx hf hlt hq0 hq1
    show Calls _ _ #[.agg #[.int .i64 o, .int .i64 u], _, _, _, _, _, _] _ _
    go_enter Try.func74, Try.ntmps74
    go_wp2
    generalize World.alloc (World.alloc w _) _ = W at *
    refine Uptot.begin_ [] (fun V : World => V.cell? ⟨B, 0, none⟩ = some (.pointer (some ⟨g, 0, none⟩)) ∧ V.cell? ⟨w.heap.size, 0, none⟩ = some (.int .i64 o) ∧ V.cell? ⟨w.heap.size, 1, none⟩ = some (.int .i64 u) ∧ V.cell? ⟨B + 1 + 1 + 1, 0, none⟩ = some (.int .i64 x) ∧ V.cell? ⟨B + 1, 0, none⟩ = some (.slice (some ⟨b, off, none⟩) xs.length c) ∧ V.cell? ⟨B + 1 + 1, 0, none⟩ = some (.int .i64 i) ∧ V.cell? ⟨b, off + i, none⟩ = some (.int .i64 xi)) (fun _ : World => True) (by kernel_rfl) ?_
    have hKS : Hid (∀ V, Below (w.heap.size + 1) W V → (V.cell? ⟨B, 0, none⟩ = some (.pointer (some ⟨g, 0, none⟩)) ∧ V.cell? ⟨w.heap.size, 0, none⟩ = some (.int .i64 o) ∧ V.cell? ⟨w.heap.size, 1, none⟩ = some (.int .i64 u) ∧ V.cell? ⟨B + 1 + 1 + 1, 0, none⟩ = some (.int .i64 x) ∧ V.cell? ⟨B + 1, 0, none⟩ = some (.slice (some ⟨b, off, none⟩) xs.length c) ∧ V.cell? ⟨B + 1 + 1, 0, none⟩ = some (.int .i64 i) ∧ V.cell? ⟨b, off + i, none⟩ = some (.int .i64 xi)) ∧ True) := Lib.hid fun V hV =>
      ⟨⟨(hV.cell (p := ⟨B, 0, none⟩) (show B < _ by omega)).trans hbf, (hV.cell (p := ⟨w.heap.size, 0, none⟩) (show w.heap.size < _ by omega)).trans hc0, (hV.cell (p := ⟨w.heap.size, 1, none⟩) (show w.heap.size < _ by omega)).trans hc1, (hV.cell (p := ⟨B + 1 + 1 + 1, 0, none⟩) (show B + 1 + 1 + 1 < _ by omega)).trans hbxx,
        (hV.cell (p := ⟨B + 1, 0, none⟩) (show B + 1 < _ by omega)).trans hbs, (hV.cell (p := ⟨B + 1 + 1, 0, none⟩) (show B + 1 + 1 < _ by omega)).trans hbi, (hV.cell (p := ⟨b, off + i, none⟩) (show b < _ by omega)).trans hcx⟩, trivial⟩
    have hbV : Below W.heap.size W W.drew := Below.drew0 W
    have hle : Hid (w.heap.size + 1 < W.heap.size) := Lib.hid (Array.getElem?_eq_some_iff.1 hq1).1
    have hST := hKS.out _ (hbV.mono (Nat.le_of_lt hle.out))
    clear hbf hc0 hc1 hbxx hbs hbi hcx hlt
    generalize W.drew = V at *
    refine Uptot.takeS (i := 0) (v := ?_) rfl (by kernel_rfl) (by kernel_rfl) (by kernel_rfl) (by kernel_rfl) (fun _ _ _ h => h) (Or.inl ⟨by rfl, ?_⟩) hST ?_
    rotate_left 1
    · intro w9 hSw; (try dsimp only at hSw); obtain ⟨s1', s2', s3', s4', s5', s6', s7'⟩ := hSw; go_simp; (try with_reducible rfl)
    try simp only [Act.put, List.setIfInBounds_toArray, List.set_cons_zero, List.set_cons_succ]
    refine Uptot.takeS (i := 1) (v := ?_) rfl (by kernel_rfl) (by kernel_rfl) (by kernel_rfl) (by kernel_rfl) (fun _ _ _ h => h) (Or.inl ⟨by rfl, ?_⟩) hST ?_
    rotate_left 1
    · intro w9 hSw; (try dsimp only at hSw); obtain ⟨s1', s2', s3', s4', s5', s6', s7'⟩ := hSw; go_simp; (try with_reducible rfl)
    try simp only [Act.put, List.setIfInBounds_toArray, List.set_cons_zero, List.set_cons_succ]
    refine Uptot.takeS (i := 2) (v := ?_) rfl (by kernel_rfl) (by kernel_rfl) (by kernel_rfl) (by kernel_rfl) (fun _ _ _ h => h) (Or.inl ⟨by rfl, ?_⟩) hST ?_
    rotate_left 1
    · intro w9 hSw; (try dsimp only at hSw); obtain ⟨s1', s2', s3', s4', s5', s6', s7'⟩ := hSw; go_simp; (try with_reducible rfl)
    try simp only [Act.put, List.setIfInBounds_toArray, List.set_cons_zero, List.set_cons_succ]
    refine Uptot.takeS (i := 3) (v := ?_) rfl (by kernel_rfl) (by kernel_rfl) (by kernel_rfl) (by kernel_rfl) (fun _ _ _ h => h) (Or.inl ⟨by rfl, ?_⟩) hST ?_
    rotate_left 1
    · intro w9 hSw; (try dsimp only at hSw); obtain ⟨s1', s2', s3', s4', s5', s6', s7'⟩ := hSw; go_simp; (try with_reducible rfl)
    try simp only [Act.put, List.setIfInBounds_toArray, List.set_cons_zero, List.set_cons_succ]
    refine Uptot.takeS (i := 4) (v := ?_) rfl (by kernel_rfl) (by kernel_rfl) (by kernel_rfl) (by kernel_rfl) (fun _ _ _ h => h) (Or.inl ⟨by rfl, ?_⟩) hST ?_
    rotate_left 1
    · intro w9 hSw; (try dsimp only at hSw); obtain ⟨s1', s2', s3', s4', s5', s6', s7'⟩ := hSw; go_simp; (try with_reducible rfl)
    try simp only [Act.put, List.setIfInBounds_toArray, List.set_cons_zero, List.set_cons_succ]
    refine Uptot.takeS (i := 7) (v := ?_) rfl (by kernel_rfl) (by kernel_rfl) (by kernel_rfl) (by kernel_rfl) (fun _ _ _ h => h) (Or.inl ⟨by rfl, ?_⟩) hST ?_
    rotate_left 1
    · intro w9 hSw; (try dsimp only at hSw); obtain ⟨s1', s2', s3', s4', s5', s6', s7'⟩ := hSw; go_simp; (try with_reducible rfl)
    try simp only [Act.put, List.setIfInBounds_toArray, List.set_cons_zero, List.set_cons_succ]
    refine Uptot.takeS (i := 8) (v := ?_) rfl (by kernel_rfl) (by kernel_rfl) (by kernel_rfl) (by kernel_rfl) (fun _ _ _ h => h) (Or.inl ⟨by rfl, ?_⟩) hST ?_
    rotate_left 1
    · intro w9 hSw; (try dsimp only at hSw); obtain ⟨s1', s2', s3', s4', s5', s6', s7'⟩ := hSw; go_simp; (try with_reducible rfl)
    try simp only [Act.put, List.setIfInBounds_toArray, List.set_cons_zero, List.set_cons_succ]
    refine Uptot.takeS (i := 9) (v := ?_) rfl (by kernel_rfl) (by kernel_rfl) (by kernel_rfl) (by kernel_rfl) (fun _ _ _ h => h) (Or.inl ⟨by rfl, ?_⟩) hST ?_
    rotate_left 1
    · intro w9 hSw; (try dsimp only at hSw); obtain ⟨s1', s2', s3', s4', s5', s6', s7'⟩ := hSw; go_simp; (try with_reducible rfl)
    try simp only [Act.put, List.setIfInBounds_toArray, List.set_cons_zero, List.set_cons_succ]
    refine Uptot.takeS (i := 10) (v := ?_) rfl (by kernel_rfl) (by kernel_rfl) (by kernel_rfl) (by kernel_rfl) (fun _ _ _ h => h) (Or.inl ⟨by rfl, ?_⟩) hST ?_
    rotate_left 1
    · intro w9 hSw; (try dsimp only at hSw); obtain ⟨s1', s2', s3', s4', s5', s6', s7'⟩ := hSw; go_simp; (try with_reducible rfl)
    try simp only [Act.put, List.setIfInBounds_toArray, List.set_cons_zero, List.set_cons_succ]
    refine Uptot.takeS (i := 11) (v := ?_) rfl (by kernel_rfl) (by kernel_rfl) (by kernel_rfl) (by kernel_rfl) (fun _ _ _ h => h) (Or.inl ⟨by rfl, ?_⟩) hST ?_
    rotate_left 1
    · intro w9 hSw; (try dsimp only at hSw); obtain ⟨s1', s2', s3', s4', s5', s6', s7'⟩ := hSw; go_simp; (try with_reducible rfl)
    try simp only [Act.put, List.setIfInBounds_toArray, List.set_cons_zero, List.set_cons_succ]
    refine Uptot.takeS (i := 12) (v := ?_) rfl (by kernel_rfl) (by kernel_rfl) (by kernel_rfl) (by kernel_rfl) (fun _ _ _ h => h) (Or.inl ⟨by rfl, ?_⟩) hST ?_
    rotate_left 1
    · intro w9 hSw; (try dsimp only at hSw); obtain ⟨s1', s2', s3', s4', s5', s6', s7'⟩ := hSw; go_simp; (try with_reducible rfl)
    try simp only [Act.put, List.setIfInBounds_toArray, List.set_cons_zero, List.set_cons_succ]
    refine Uptot.takeS (i := 13) (v := ?_) rfl (by kernel_rfl) (by kernel_rfl) (by kernel_rfl) (by kernel_rfl) (fun _ _ _ h => h) (Or.inl ⟨by rfl, ?_⟩) hST ?_
    rotate_left 1
    · intro w9 hSw; (try dsimp only at hSw); obtain ⟨s1', s2', s3', s4', s5', s6', s7'⟩ := hSw; go_simp; (try with_reducible rfl)
    try simp only [Act.put, List.setIfInBounds_toArray, List.set_cons_zero, List.set_cons_succ]
    refine Uptot.takeS (i := 14) (v := ?_) rfl (by kernel_rfl) (by kernel_rfl) (by kernel_rfl) (by kernel_rfl) (fun _ _ _ h => h) (Or.inl ⟨by rfl, ?_⟩) hST ?_
    rotate_left 1
    · intro w9 hSw; (try dsimp only at hSw); obtain ⟨s1', s2', s3', s4', s5', s6', s7'⟩ := hSw; go_simp; (try with_reducible rfl)
    try simp only [Act.put, List.setIfInBounds_toArray, List.set_cons_zero, List.set_cons_succ]
    refine Uptot.one (i := 5) rfl (by kernel_rfl) (fun K hK9 => ?_)
    go_simp
    go_at_call 55
    refine (pplus_any _ _ _).mono ?_
    rw [HS1.out]
    rintro e' V9 ⟨rfl, rfl⟩
    refine hK9.out _ _ (Cond.ahead hST) ?_
    clear hK9 K
    try simp only [Act.put, List.setIfInBounds_toArray, List.set_cons_zero, List.set_cons_succ]
    refine Uptot.one (i := 6) rfl (by kernel_rfl) (fun K hK9 => ?_)
    go_simp
    go_at_call 56
    refine (ptimes_any g _ _ _ (hf.keep hbV)).mono ?_
    rw [HRO.out]
    rintro e' V9 ⟨rfl, m9, rfl⟩
    replace hbV := hbV.next (Below.drewN0 _ m9)
    replace hST := hKS.out _ (hbV.mono (Nat.le_of_lt hle.out))
    refine hK9.out _ _ (Cond.ahead hST) ?_
    clear hK9 K
    generalize World.drewN _ m9 = V at *
    try simp only [Act.put, List.setIfInBounds_toArray, List.set_cons_zero, List.set_cons_succ]
    refine Uptot.one (i := 15) rfl (by kernel_rfl) (fun K hK9 => ?_)
    go_simp
    go_at_call 55
    refine (pplus_any _ _ _).mono ?_
    rw [HS2.out]
    rintro e' V9 ⟨rfl, rfl⟩
    refine hK9.out _ _ (Cond.ahead hST) ?_
    clear hK9 K
    try simp only [Act.put, List.setIfInBounds_toArray, List.set_cons_zero, List.set_cons_succ]
    refine Uptot.one (i := 16) rfl (by kernel_rfl) (fun K hK9 => ?_)
    go_simp
    go_at_call 56
    refine (ptimes_any g _ _ _ (hf.keep hbV)).mono ?_
    rw [HRU.out]
    rintro e' V9 ⟨rfl, m9, rfl⟩
    replace hbV := hbV.next (Below.drewN0 _ m9)
    replace hST := hKS.out _ (hbV.mono (Nat.le_of_lt hle.out))
    refine hK9.out _ _ (Cond.ahead hST) ?_
    clear hK9 K
    generalize World.drewN _ m9 = V at *
    try simp only [Act.put, List.setIfInBounds_toArray, List.set_cons_zero, List.set_cons_succ]
    refine Uptot.one (i := 17) rfl (by kernel_rfl) (fun K hK9 => ?_)
    go_simp
    refine hK9.out _ _ (Cond.ahead hST) ?_
    clear hK9 K
    try simp only [Act.put, List.setIfInBounds_toArray, List.set_cons_zero, List.set_cons_succ]
    refine Uptot.one (i := 18) rfl (by kernel_rfl) (fun K hK9 => ?_)
    rw [wanted_plain rfl, if_pos rfl]
    refine wp_store_row _ _ _ rfl (w.heap.size + 1) (quo (ro, ru)) rfl rfl _ _ (hq1.keep hbV hle.out) quo_info rfl (quo_all _) ?_
    have hbE := (hbV.mono (Nat.le_of_lt hle.out)).setRow (g := w.heap.size + 1) (Nat.le_refl _) (quo (ro, ru))
    refine hK9.out _ _ (Cond.ahead (hKS.out _ hbE)) ?_
    clear hK9 K
    try simp only [Act.put]
    refine Uptot.done (by kernel_rfl) ?_ _
    have hqE := (hq1.keep hbV hle.out).set (ro, ru)
    go_wp2
    exact bodyPost_ret (v := .agg (quo (ro, ru))) (results_cell_row rfl _ _ (w.heap.size + 1) _ _ _ _ rfl hqE Try.underlying97 rfl quo_info) rfl ⟨rfl, (hb0.next' hbV (by omega)).setRow (by omega) _⟩
end Go.Proofs.Ytljckcegcfidoaa
