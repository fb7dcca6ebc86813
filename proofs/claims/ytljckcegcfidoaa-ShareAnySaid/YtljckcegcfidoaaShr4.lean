/-
  share: the contracts of showsSecret, areRight and apart.
-/
import Derived.Test.YtljckcegcfidoaaShr1
import Derived.Test.YtljckcegcfidoaaShl
import Derived.Test.YtljckcegcfidoaaIset
import Derived.Test.YtljckcegcfidoaaPly10
namespace Go.Proofs.Ytljckcegcfidoaa
open Go.RowKit Go.Kx
set_option maxRecDepth 20000

/-! ### what shares are right -/
def xsL (l : List Sh) : List Int := l.map Prod.fst
theorem xsL_length (l : List Sh) : (xsL l).length = l.length := by simp [xsL]
theorem xsL_at (l : List Sh) {k : Nat} (h : k < l.length) : (xsL l).getD k 0 = (l.getD k sh0).1 := by simp [xsL, List.getD, h]
def okSh (s : Sh) : Bool := dig s.1 && decide (s.2.size = 32)
def allSh (l : List Sh) : Bool := l.all okSh
def rightB (l : List Sh) : Bool := decide (1 ≤ l.length) && decide (l.length ≤ 255) && allSh l && apartI (xsL l)
def zeroB (l : List Sh) : Bool := l.any fun s => decide (s.1 = 0)
theorem zeroB_yes {l : List Sh} {k : Nat} (hk : k < l.length) (h : (l.getD k sh0).1 = 0) : zeroB l = true := by
  rw [zeroB, List.any_eq_true]
  refine ⟨l[k], List.getElem_mem hk, ?_⟩
  rw [List.getD, List.getElem?_eq_getElem hk] at h
  simpa using h
theorem zeroB_no {l : List Sh} (h : ∀ k, k < l.length → (l.getD k sh0).1 ≠ 0) : zeroB l = false := by
  rw [zeroB, List.any_eq_false]
  intro x hx
  obtain ⟨k, hk, rfl⟩ := List.getElem_of_mem hx
  have := h k hk
  rw [List.getD, List.getElem?_eq_getElem hk] at this
  simpa using this
theorem allSh_no {l : List Sh} {k : Nat} (hk : k < l.length) (h : okSh (l.getD k sh0) = false) : allSh l = false := by
  rw [allSh, List.all_eq_false]
  refine ⟨l[k], List.getElem_mem hk, ?_⟩
  rw [List.getD, List.getElem?_eq_getElem hk] at h
  simpa using h
theorem allSh_yes {l : List Sh} (h : ∀ k, k < l.length → okSh (l.getD k sh0) = true) : allSh l = true := by
  rw [allSh, List.all_eq_true]
  intro x hx
  obtain ⟨k, hk, rfl⟩ := List.getElem_of_mem hx
  have := h k hk
  rwa [List.getD, List.getElem?_eq_getElem hk] at this
theorem allSh_at {l : List Sh} (h : allSh l = true) {k : Nat} (hk : k < l.length) : okSh (l.getD k sh0) = true := by
  rw [List.getD, List.getElem?_eq_getElem hk]
  exact List.all_eq_true.1 h _ (List.getElem_mem hk)
theorem okSh_of {s : Sh} (h : okSh s = true) : dig s.1 = true ∧ s.2.size = 32 := by simpa [okSh] using h
theorem rightB_of {l : List Sh} (h : rightB l = true) : 1 ≤ l.length ∧ l.length ≤ 255 ∧ allSh l = true ∧ apartI (xsL l) = true := by
  simp [rightB] at h
  exact ⟨h.1.1.1, h.1.1.2, h.1.2, h.2⟩
/-- Which X are among the first k. -/
def seenX (l : List Sh) (k : Nat) (j : Nat) : Bool := ((xsL l).take k).contains (j : Int)
theorem seenX_zero (l : List Sh) (j : Nat) : seenX l 0 j = false := by simp [seenX]
theorem seenX_set (l : List Sh) {k x : Nat} (hk : k < l.length) (hx : (l.getD k sh0).1 = x) (j : Nat) : (if j = x then Value.bool true else .bool (seenX l k j)) = .bool (seenX l (k + 1) j) := by
  have e : (xsL l).take (k + 1) = (xsL l).take k ++ [(x : Int)] := by
    rw [List.take_add_one]
    congr 1
    have := xsL_at l hk
    rw [hx, List.getD, List.getElem?_eq_getElem (by rw [xsL_length]; exact hk)] at this
    rw [List.getElem?_eq_getElem (by rw [xsL_length]; exact hk)]
    simpa using this
  unfold seenX
  rw [e]
  by_cases h : j = x
  · subst h; simp
  · rw [if_neg h]
    congr 1
    rw [Bool.eq_iff_iff]
    simp only [List.contains_iff_mem, List.mem_append, List.mem_singleton]
    constructor
    · exact fun h2 => .inl h2
    · rintro (h2 | h2)
      · exact h2
      · exact absurd (by omega) h
theorem seen_no {l : List Sh} {k x : Nat} (hk : k < l.length) (hx : (l.getD k sh0).1 = x) (h : seenX l k x = true) : apartI (xsL l) = false := by
  cases e : apartI (xsL l) with
  | false => rfl
  | true =>
    have hm : (x : Int) ∈ (xsL l).take k := by simpa [seenX] using h
    obtain ⟨j, hj, he⟩ := List.getElem_of_mem hm
    have hjk : j < k := by simp at hj; omega
    have h1 := apartI_iff.1 e k (by rw [xsL_length]; exact hk) j hjk
    refine absurd ?_ h1
    rw [xsL_at l hk, hx, ← he, List.getElem_take, List.getD, List.getElem?_eq_getElem]
    rfl
theorem seen_yes {l : List Sh} (h : ∀ k, k < l.length → ∃ x : Nat, (l.getD k sh0).1 = x ∧ seenX l k x = false) : apartI (xsL l) = true := by
  rw [apartI_iff]
  intro j hj k hk e
  rw [xsL_length] at hj
  obtain ⟨x, hx, hs⟩ := h j hj
  rw [xsL_at l hj, hx] at e
  have : seenX l j x = true := by
    rw [seenX, List.contains_iff_mem, List.mem_take_iff_getElem]
    refine ⟨k, by simp [xsL_length]; omega, ?_⟩
    rw [e, List.getD, List.getElem?_eq_getElem (by rw [xsL_length]; omega)]
    rfl
  rw [hs] at this
  cases this

/-! ### showsSecret -/
set_option maxHeartbeats 1000000 in
theorem shows_any (l : List Sh) (A : Option Addr) (c : Nat) (hl : l.length ≤ 9223372036854775807) (w : World) (hs : Sl w A (shV l)) :
    Calls Try.prog 29 #[.slice A l.length c] w fun e w' => e = .returned (.bool (zeroB l)) ∧ Below w.heap.size w w' := by
  go_enter Try.func29, Try.ntmps29
  go_wp2
  go_loopw [7] (fun i wr => ∃ k : Nat, k ≤ l.length ∧ i = .int .i64 (k : Int) ∧ Hid (∀ j, j < k → (l.getD j sh0).1 ≠ 0) ∧ Below w.heap.size w wr) (fun i _ => l.length - (intOf i).toNat)
  case atStart => exact ⟨0, by omega, rfl, Lib.hid (fun j hj => by omega), Below.refl _ _⟩
  case round =>
    obtain ⟨k, hk, rfl, hd, hb⟩ := hrel
    by_cases hlt : k < l.length
    · obtain ⟨b, off, rfl, hx, hy⟩ := sl_sh (hs.keep hb) hlt
      have HY := Lib.hid (fun h => zeroB_yes (l := l) hlt h)
      have HN : Hid ((l.getD k sh0).1 ≠ 0 → ∀ j, j < k + 1 → (l.getD j sh0).1 ≠ 0) := Lib.hid (fun h j hj => by
        by_cases e : j = k
        · rw [e]; exact h
        · exact hd.out j (by omega))
      generalize (l.getD k sh0).1 = x at *
      generalize (l.getD k sh0).2 = y at *
      have hb2 := fun (o : Obj) => hb.al o
      by_cases hz : x = 0
      · subst hz
        have e := Lib.hid (HY.out rfl)
        go_wp2
        go_ret
        exact ⟨ret_bool e.out.symm, hb2 _⟩
      · have t1 : (x == 0) = false := by simpa using hz
        have H := Lib.hid (HN.out hz)
        clear hz
        go_wp2
        go_roundw
        case rel => exact ⟨k + 1, by omega, by go_num, H, hb2 _⟩
        case measure => simp [intOf]; omega
    · obtain rfl : k = l.length := by omega
      have e := Lib.hid (zeroB_no hd.out)
      go_wp2
      go_ret
      exact ⟨ret_bool e.out.symm, hb⟩

/-! ### areRight -/
theorem seen_zero : Try.zeroCells84 = (List.replicate 256 (Value.bool false)).toArray := by kernel_rfl
set_option maxHeartbeats 4000000 in
theorem right_any (l : List Sh) (A : Option Addr) (c : Nat) (hl : l.length ≤ 9223372036854775807) (w : World) (hs : Sl w A (shV l)) :
    Calls Try.prog 32 #[.slice A l.length c] w fun e w' => e = .returned (.bool (rightB l)) ∧ Below w.heap.size w w' := by
  by_cases h1 : l.length < 1
  · have hr : rightB l = false := by simp [rightB]; omega
    rw [hr]
    go_enter Try.func32, Try.ntmps32
    go_wp2
    go_ret
    exact ⟨rfl, Below.refl _ _⟩
  by_cases h2 : 255 < l.length
  · have hr : rightB l = false := by simp [rightB]; omega
    rw [hr]
    go_enter Try.func32, Try.ntmps32
    go_wp2
    go_ret
    exact ⟨rfl, Below.refl _ _⟩
  have HR : Hid (allSh l = true → apartI (xsL l) = true → rightB l = true) := Lib.hid (fun a b => by simp [rightB, a, b]; omega)
  have HNA : Hid (allSh l = false → rightB l = false) := Lib.hid (fun a => by simp [rightB, a])
  have HNP : Hid (apartI (xsL l) = false → rightB l = false) := Lib.hid (fun a => by simp [rightB, a])
  have h1i : ¬ ((l.length : Int) < 1) := by omega
  have h2i : ¬ ((255 : Int) < (l.length : Int)) := by omega
  have hT : (w.alloc (.cells Try.zeroCells84 84)).rowIs w.heap.size 84 256 (fun j => .bool (seenX l 0 j)) :=
    (rowIs_new seen_zero).congr fun j _ => by rw [seenX_zero]
  have hb0 := Below.alloc0 w (.cells Try.zeroCells84 84)
  go_enter Try.func32, Try.ntmps32
  go_wp2_with fail
  generalize World.alloc w _ = W at *
  go_loopw [16] (fun i wr => ∃ k : Nat, k ≤ l.length ∧ i = .int .i64 (k : Int) ∧ Hid (∀ j, j < k → okSh (l.getD j sh0) = true ∧ ∃ x : Nat, (l.getD j sh0).1 = x ∧ seenX l j x = false) ∧ wr.rowIs w.heap.size 84 256 (fun j => .bool (seenX l k j)) ∧ Below w.heap.size w wr) (fun i _ => l.length - (intOf i).toNat)
  case atStart => exact ⟨0, by omega, rfl, Lib.hid (fun j hj => by omega), hT, hb0⟩
  case round =>
    clear hT hb0
    obtain ⟨k, hk, rfl, hd, hr, hb⟩ := hrel
    by_cases hlt : k < l.length
    · obtain ⟨b, off, rfl, hx, hy⟩ := sl_sh (hs.keep hb) hlt
      obtain ⟨x, hX⟩ : ∃ x, (l.getD k sh0).1 = x := ⟨_, rfl⟩
      obtain ⟨y, hY⟩ : ∃ y, (l.getD k sh0).2 = y := ⟨_, rfl⟩
      have HX := Lib.hid hX
      have HYY := Lib.hid hY
      have HOK : Hid (okSh (l.getD k sh0) = (dig x && decide (y.size = 32))) := Lib.hid (by rw [okSh, hX, hY])
      rw [hX] at hx
      rw [hY] at hy
      clear hX hY
      have hb2 := hb.al (.cells #[.int .i64 x, .string y] 39)
      have hr2 := rowIs_keep hr (Below.alloc0 wr (.cells #[.int .i64 x, .string y] 39))
      have HNA2 : Hid (okSh (l.getD k sh0) = false → rightB l = false) := Lib.hid (fun h => HNA.out (allSh_no hlt h))
      by_cases hx0 : x < 0
      · have hd0 : dig x = false := by simp [dig]; omega
        have e := Lib.hid (HNA2.out (by rw [HOK.out, hd0]; rfl))
        clear hd0 hr2 hr
        go_wp2
        go_ret
        exact ⟨ret_bool e.out.symm, hb2⟩
      by_cases hx1 : 255 < x
      · have hd0 : dig x = false := by simp [dig]; omega
        have e := Lib.hid (HNA2.out (by rw [HOK.out, hd0]; simp))
        clear hd0 hr2 hr
        go_wp2
        go_ret
        exact ⟨ret_bool e.out.symm, hb2⟩
      obtain ⟨x, rfl⟩ : ∃ m : Nat, x = m := ⟨x.toNat, by omega⟩
      have hxl : x < 256 := by omega
      have hcell := hr2.cell (i := x) hxl
      have hfz := hr2.frozen x
      have HSEEN := Lib.hid (fun h => HNP.out (seen_no (k := k) hlt HX.out h))
      have HNX := Lib.hid (fun j => seenX_set l hlt HX.out j)
      cases hsn : seenX l k x with
      | true =>
        have e := Lib.hid (HSEEN.out hsn)
        rw [hsn] at hcell
        clear hsn hr2 hr
        go_wp2
        go_ret
        exact ⟨ret_bool e.out.symm, hb2⟩
      | false =>
        have HSN := Lib.hid hsn
        rw [hsn] at hcell
        clear hsn
        by_cases hz : (y.size : Int) = 32
        · have t1 : ((y.size : Int) != 32) = false := by simpa using hz
          have HD : Hid (∀ j, j < k + 1 → okSh (l.getD j sh0) = true ∧ ∃ x : Nat, (l.getD j sh0).1 = x ∧ seenX l j x = false) := Lib.hid (fun j hj => by
            by_cases e : j = k
            · subst e
              exact ⟨by rw [HOK.out, dig_of hxl]; simp; omega, x, HX.out, HSN.out⟩
            · exact hd.out j (by omega))
          clear hz
          go_wp2
          go_roundw
          case rel => exact ⟨k + 1, by omega, by go_num, HD, (hr2.set x _).congr fun j _ => HNX.out j, hb2.setCell (by show w.heap.size ≤ w.heap.size; omega) _⟩
          case measure => simp [intOf]; omega
        · have t1 : ((y.size : Int) != 32) = true := by simpa using hz
          have e := Lib.hid (HNA2.out (by rw [HOK.out]; simp; intro _ h; omega))
          clear hz
          go_wp2
          go_ret
          exact ⟨ret_bool e.out.symm, hb2⟩
    · obtain rfl : k = l.length := by omega
      have e := Lib.hid (HR.out (allSh_yes fun j hj => (hd.out j hj).1) (seen_yes fun j hj => (hd.out j hj).2))
      go_wp2
      go_ret
      exact ⟨ret_bool e.out.symm, hb⟩
end Go.Proofs.Ytljckcegcfidoaa
