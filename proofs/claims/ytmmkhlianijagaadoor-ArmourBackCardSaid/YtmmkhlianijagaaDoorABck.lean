/-
  keyholelaw10.ArmourBack: the walk.
-/
import Derived.Test.YtmmkhlianijagaaDoorAr8
import Derived.Test.YtmmkhlianijagaaDoorAr9
namespace Go.Proofs.YtmmkhlianijagaaDoor
open Go.RowKit Go.Kx Go.Shelf Go.Arm
set_option maxRecDepth 20000

theorem beq_str (s : ByteArray) : (s.toList != s.toList) = false := by simp
theorem bytes_of_letters (s l : ByteArray) (hl : ⟨(letL s.data.toList).toArray⟩ = l) : bytR l.data.toList = (s.data.toList, 0) := by
  unfold bytR
  rw [show l.data.toList = letL s.data.toList by rw [← hl], bytesA_some.2 rfl]
/-- What Put, then Get of it, answers. -/
theorem put_then_get (s t : ByteArray) (f : Int) (h : aputR s.data.toList = (t.data.toList, f)) : (f = 0 ∧ s.size ≤ 200 ∧ getR t.data.toList = (s.data.toList, 0)) ∨ (f = 2 ∧ 200 < s.size ∧ t = ⟨#[]⟩) := by
  have hl : s.data.toList.length = s.size := by simp
  unfold aputR at h
  rw [hl] at h
  by_cases h2 : s.size ≤ 200
  · rw [if_pos h2] at h
    obtain ⟨h3, rfl⟩ : putL sum3 s.data.toList = t.data.toList ∧ (0 : Int) = f := by simpa using h
    refine .inl ⟨rfl, h2, ?_⟩
    unfold getR
    rw [← h3, get_put sum3 sum3_len (by omega)]
  · rw [if_neg h2] at h
    obtain ⟨h3, rfl⟩ : [] = t.data.toList ∧ (2 : Int) = f := by simpa using h
    exact .inr ⟨rfl, by omega, ByteArray.ext (Array.toList_inj.1 h3.symm)⟩
theorem get_nil : getL sum3 [] = none := by
  unfold getL
  rw [show bytesA (plainL []) = some [] by rfl]
  rfl
/-- What Get, then Put of it, answers. -/
theorem get_then_put (w v : ByteArray) (h : Int) (hg : getR w.data.toList = (v.data.toList, h)) : (h = 0 ∧ aputR v.data.toList = (w.data.toList, 0)) ∨ (h = 100 ∧ v = ⟨#[]⟩) := by
  unfold getR at hg
  cases e : getL sum3 w.data.toList with
  | none =>
    rw [e] at hg
    obtain ⟨h3, rfl⟩ : [] = v.data.toList ∧ (100 : Int) = h := by simpa using hg
    exact .inr ⟨rfl, ByteArray.ext (Array.toList_inj.1 h3.symm)⟩
  | some u =>
    rw [e] at hg
    obtain ⟨h3, rfl⟩ : u = v.data.toList ∧ (0 : Int) = h := by simpa using hg
    subst h3
    obtain ⟨h4, h5⟩ := put_get sum3 e
    refine .inl ⟨rfl, ?_⟩
    unfold aputR
    rw [if_pos h5, h4]
theorem strOf (x : List UInt8 × Int) : ∃ (t : ByteArray) (c : Int), x = (t.data.toList, c) := ⟨⟨x.1.toArray⟩, x.2, rfl⟩
theorem aputR_small {l : List UInt8} {t : ByteArray} {f : Int} (h : aputR l = (t.data.toList, f)) : t.size ≤ 1000 := by
  unfold aputR at h
  have hz : t.data.toList.length = t.size := by simp
  split at h
  · obtain ⟨h3, _⟩ : putL sum3 l = t.data.toList ∧ (0 : Int) = f := by simpa using h
    rename_i h2
    have h1 := dash_len (letL (l ++ sum3 l)) 0
    rw [letL_length, List.length_append, sum3_len] at h1
    have h4 : (putL sum3 l).length = t.size := by rw [h3, hz]
    have h5 : (putL sum3 l).length ≤ 2 * lenN (l.length + 3) := h1
    unfold lenN at h5
    omega
  · obtain ⟨h3, _⟩ : [] = t.data.toList ∧ (2 : Int) = f := by simpa using h
    rw [← h3] at hz
    simp at hz
    omega
/-- What PutShare, then GetShare of it, answers. -/
theorem share_back (X : Int) (b : ByteArray) : ∃ (p : ByteArray) (j : Int) (X' : Int) (b' : ByteArray) (k : Int), ((j = 0 ∧ k = 0 ∧ X' = X ∧ b' = b) ∨ (j = 1 ∧ k = 100 ∧ X' = 0 ∧ b' = ⟨#[]⟩)) ∧
    (∀ V : World, Consts V → Calls Tryd.prog 13 #[.agg #[.int .i64 X, .string b]] V fun e w' => e = .returned (.tuple #[.string p, .int .i64 j]) ∧ Below V.heap.size V w') ∧
    (∀ V : World, Consts V → MaxCell V → Calls Tryd.prog 14 #[.string p] V fun e w' => e = .returned (.tuple #[.agg #[.int .i64 X', .string b'], .int .i64 k]) ∧ Below V.heap.size V w') := by
  by_cases h : okX X b
  · obtain ⟨h1, h2, h3⟩ := h
    obtain ⟨n, rfl⟩ := Int.eq_ofNat_of_zero_le (a := X) (by omega)
    obtain ⟨p, hp⟩ : ∃ p : ByteArray, ⟨(putL sum3 (shareL (n : Int) b)).toArray⟩ = p := ⟨_, rfl⟩
    have hpl : p.data.toList = putL sum3 (shareL (n : Int) b) := by rw [← hp]
    have hbl : b.data.toList.length = b.size := by simp
    have hsl : (shareL (n : Int) b).length = 33 := by unfold shareL; rw [List.length_cons]; omega
    have hpz : p.size ≤ 1000 := aputR_small (l := shareL (n : Int) b) (t := p) (f := 0) (by unfold aputR; rw [if_pos (by omega), hpl])
    have hn8 : (UInt8.ofNat n).toNat = n := by rw [UInt8.toNat_ofNat']; omega
    refine ⟨p, 0, (n : Int), b, 0, .inl ⟨rfl, rfl, rfl, rfl⟩, fun V hV => putShare_yes (n : Int) b ⟨h1, h2, h3⟩ p hp V hV, fun V hV hM => ?_⟩
    have hg := getShare_yes p (by omega) (UInt8.ofNat n) b (by rw [hn8]; omega) h3 (by rw [hpl, get_put sum3 sum3_len (by omega)]; rfl) V hV hM
    rwa [hn8] at hg
  · exact ⟨⟨#[]⟩, 1, 0, ⟨#[]⟩, 100, .inr ⟨rfl, rfl, rfl, rfl⟩, fun V _ => putShare_no X b h V, fun V hV hM => getShare_err ⟨#[]⟩ (by decide) get_nil V hV hM⟩
set_option maxHeartbeats 8000000 in
theorem aback_yes (s w : ByteArray) (X : Int) (b : ByteArray) (hs : s.size ≤ 600) (hw : w.size ≤ 600) (hb : b.size ≤ 300) (W : World) (hK : Consts W) (hM : MaxCell W) :
    Calls Tryd.prog 4 #[.string s, .string w, .agg #[.int .i64 X, .string b]] W fun e w' => e = .returned (.bool true) ∧ Below W.heap.size W w' := by
  obtain ⟨l, hl⟩ : ∃ l : ByteArray, ⟨(letL s.data.toList).toArray⟩ = l := ⟨_, rfl⟩
  obtain ⟨t, f, ht⟩ := strOf (aputR s.data.toList)
  obtain ⟨u, g, hu⟩ := strOf (getR t.data.toList)
  obtain ⟨v, h, hv⟩ := strOf (getR w.data.toList)
  obtain ⟨z, i, hz⟩ := strOf (aputR v.data.toList)
  obtain ⟨p, j, X', b', k, hsh, HPS, HGS⟩ := share_back X b
  have hlz : l.size ≤ 1000 := by
    rw [← hl, size_mk, letL_length]
    unfold lenN
    have : s.data.toList.length = s.size := by simp
    omega
  have HL : Hid (∀ V : World, Calls Tryd.prog 9 #[.string s] V fun e w' => e = .returned (.string l) ∧ Below V.heap.size V w') := Lib.hid fun V => letters_any s (by omega) l hl V
  have HB : Hid (∀ V : World, Calls Tryd.prog 6 #[.string l] V fun e w' => e = .returned (.tuple #[.string s, .int .i64 0]) ∧ Below V.heap.size V w') := Lib.hid fun V => abytes_any l (by omega) s 0 (bytes_of_letters s l hl) V
  have HP : Hid (∀ V : World, Consts V → Calls Tryd.prog 11 #[.string s] V fun e w' => e = .returned (.tuple #[.string t, .int .i64 f]) ∧ Below V.heap.size V w') := Lib.hid fun V hV => aput_any s t f ht V hV
  have HG : Hid (∀ V : World, Consts V → MaxCell V → Calls Tryd.prog 12 #[.string t] V fun e w' => e = .returned (.tuple #[.string u, .int .i64 g]) ∧ Below V.heap.size V w') := Lib.hid fun V hV hM => get_any t (by have := aputR_small ht; omega) u g hu V hV hM
  have HV : Hid (∀ V : World, Consts V → MaxCell V → Calls Tryd.prog 12 #[.string w] V fun e w' => e = .returned (.tuple #[.string v, .int .i64 h]) ∧ Below V.heap.size V w') := Lib.hid fun V hV hM => get_any w (by omega) v h hv V hV hM
  have HZ : Hid (∀ V : World, Consts V → Calls Tryd.prog 11 #[.string v] V fun e w' => e = .returned (.tuple #[.string z, .int .i64 i]) ∧ Below V.heap.size V w') := Lib.hid fun V hV => aput_any v z i hz V hV
  have HPS := Lib.hid HPS
  have HGS := Lib.hid HGS
  have hf : (f = 0 ∧ (s.size : Int) ≤ 200 ∧ g = 0 ∧ u = s) ∨ (f = 2 ∧ ¬ (s.size : Int) ≤ 200) := by
    rcases put_then_get s t f ht with ⟨h1, h2, h3⟩ | ⟨h1, h2, _⟩
    · rw [h3] at hu
      obtain ⟨h4, h5⟩ : s.data.toList = u.data.toList ∧ (0 : Int) = g := by simpa using hu
      exact .inl ⟨h1, by omega, h5.symm, ByteArray.ext (Array.toList_inj.1 h4.symm)⟩
    · exact .inr ⟨h1, by omega⟩
  have hh : (h = 0 ∧ i = 0 ∧ z = w) ∨ h = 100 := by
    rcases get_then_put w v h hv with ⟨h1, h2⟩ | ⟨h1, _⟩
    · rw [h2] at hz
      obtain ⟨h4, h5⟩ : w.data.toList = z.data.toList ∧ (0 : Int) = i := by simpa using hz
      exact .inl ⟨h1, h5.symm, ByteArray.ext (Array.toList_inj.1 h4.symm)⟩
    · exact .inr h1
  have t1 : ¬ (600 : Int) < (s.size : Int) := by omega
  have t2 : ¬ (600 : Int) < (w.size : Int) := by omega
  have t3 : ¬ (300 : Int) < (b.size : Int) := by omega
  have hb0 := Below.alloc0 W (.cells #[.int .i64 X, .string b] 29)
  have hK0 := hK.keep hb0
  have hM0 := hM.keep hb0
  have hx0 := heap_alloc_new W (.cells #[.int .i64 X, .string b] 29)
  clear hl ht hu hv hz hlz hK hM
  rcases hf with ⟨rfl, h2, rfl, rfl⟩ | ⟨rfl, h2⟩ <;> rcases hh with ⟨rfl, rfl, rfl⟩ | rfl <;> rcases hsh with ⟨rfl, rfl, hX, hB⟩ | ⟨rfl, rfl, hX, hB⟩
  all_goals
    have HX := Lib.hid hX
    have HBB := Lib.hid hB
    clear hX hB
    go_enter Tryd.func4, Tryd.ntmps4
    go_wp2_with fail
    refine (HL.out _).mono ?_
    rintro e w1 ⟨rfl, hb1⟩
    replace hx0 := (hb1.block _ (Array.getElem?_eq_some_iff.1 hx0).1).trans hx0
    replace hb0 := hb0.next' hb1
    replace hK0 := hK0.keep hb1
    replace hM0 := hM0.keep hb1
    have c0 := cell_of_row w1 W.heap.size 0 _ _ _ hx0
    have c1 := cell_of_row w1 W.heap.size 1 _ _ _ hx0
    simp only [List.getElem?_toArray, List.getElem?_cons_zero, List.getElem?_cons_succ] at c0 c1
    clear hb1
    go_wp2_with fail
    refine (HB.out _).mono ?_
    rintro e w2 ⟨rfl, hb1⟩
    replace hx0 := (hb1.block _ (Array.getElem?_eq_some_iff.1 hx0).1).trans hx0
    replace hb0 := hb0.next' hb1
    replace hK0 := hK0.keep hb1
    replace hM0 := hM0.keep hb1
    have c0 := cell_of_row w2 W.heap.size 0 _ _ _ hx0
    have c1 := cell_of_row w2 W.heap.size 1 _ _ _ hx0
    simp only [List.getElem?_toArray, List.getElem?_cons_zero, List.getElem?_cons_succ] at c0 c1
    clear hb1
    go_wp2_with fail
    refine (HP.out _ hK0).mono ?_
    rintro e w3 ⟨rfl, hb1⟩
    replace hx0 := (hb1.block _ (Array.getElem?_eq_some_iff.1 hx0).1).trans hx0
    replace hb0 := hb0.next' hb1
    replace hK0 := hK0.keep hb1
    replace hM0 := hM0.keep hb1
    have c0 := cell_of_row w3 W.heap.size 0 _ _ _ hx0
    have c1 := cell_of_row w3 W.heap.size 1 _ _ _ hx0
    simp only [List.getElem?_toArray, List.getElem?_cons_zero, List.getElem?_cons_succ] at c0 c1
    clear hb1
    go_wp2_with fail
    refine (HG.out _ hK0 hM0).mono ?_
    rintro e w4 ⟨rfl, hb1⟩
    replace hx0 := (hb1.block _ (Array.getElem?_eq_some_iff.1 hx0).1).trans hx0
    replace hb0 := hb0.next' hb1
    replace hK0 := hK0.keep hb1
    replace hM0 := hM0.keep hb1
    have c0 := cell_of_row w4 W.heap.size 0 _ _ _ hx0
    have c1 := cell_of_row w4 W.heap.size 1 _ _ _ hx0
    simp only [List.getElem?_toArray, List.getElem?_cons_zero, List.getElem?_cons_succ] at c0 c1
    clear hb1
    go_wp2_with fail
    refine (HV.out _ hK0 hM0).mono ?_
    rintro e w5 ⟨rfl, hb1⟩
    replace hx0 := (hb1.block _ (Array.getElem?_eq_some_iff.1 hx0).1).trans hx0
    replace hb0 := hb0.next' hb1
    replace hK0 := hK0.keep hb1
    replace hM0 := hM0.keep hb1
    have c0 := cell_of_row w5 W.heap.size 0 _ _ _ hx0
    have c1 := cell_of_row w5 W.heap.size 1 _ _ _ hx0
    simp only [List.getElem?_toArray, List.getElem?_cons_zero, List.getElem?_cons_succ] at c0 c1
    clear hb1
    go_wp2_with fail
    refine (HZ.out _ hK0).mono ?_
    rintro e w6 ⟨rfl, hb1⟩
    replace hx0 := (hb1.block _ (Array.getElem?_eq_some_iff.1 hx0).1).trans hx0
    replace hb0 := hb0.next' hb1
    replace hK0 := hK0.keep hb1
    replace hM0 := hM0.keep hb1
    have c0 := cell_of_row w6 W.heap.size 0 _ _ _ hx0
    have c1 := cell_of_row w6 W.heap.size 1 _ _ _ hx0
    simp only [List.getElem?_toArray, List.getElem?_cons_zero, List.getElem?_cons_succ] at c0 c1
    clear hb1
    go_wp2_with fail
    refine (HPS.out _ hK0).mono ?_
    rintro e w7 ⟨rfl, hb1⟩
    replace hx0 := (hb1.block _ (Array.getElem?_eq_some_iff.1 hx0).1).trans hx0
    replace hb0 := hb0.next' hb1
    replace hK0 := hK0.keep hb1
    replace hM0 := hM0.keep hb1
    have c0 := cell_of_row w7 W.heap.size 0 _ _ _ hx0
    have c1 := cell_of_row w7 W.heap.size 1 _ _ _ hx0
    simp only [List.getElem?_toArray, List.getElem?_cons_zero, List.getElem?_cons_succ] at c0 c1
    clear hb1
    go_wp2_with fail
    refine (HGS.out _ hK0 hM0).mono ?_
    rintro e w8 ⟨rfl, hb1⟩
    replace hx0 := (hb1.block _ (Array.getElem?_eq_some_iff.1 hx0).1).trans hx0
    replace hb0 := hb0.next' hb1
    replace hK0 := hK0.keep hb1
    replace hM0 := hM0.keep hb1
    have c0 := cell_of_row w8 W.heap.size 0 _ _ _ hx0
    have c1 := cell_of_row w8 W.heap.size 1 _ _ _ hx0
    simp only [List.getElem?_toArray, List.getElem?_cons_zero, List.getElem?_cons_succ] at c0 c1
    clear hb1
    have hy0 := heap_alloc_new w8 (.cells #[.int .i64 X', .string b'] 29)
    have hba := Below.alloc0 w8 (.cells #[.int .i64 X', .string b'] 29)
    replace hx0 := (hba.block _ (Array.getElem?_eq_some_iff.1 hx0).1).trans hx0
    replace hb0 := hb0.next' hba
    replace hK0 := hK0.keep hba
    replace hM0 := hM0.keep hba
    clear hba c0 c1
    go_wp2_with fail
    refine (arms_any _ hK0 hM0).mono ?_
    rintro e w9 ⟨rfl, hb1⟩
    replace hx0 := (hb1.block _ (Array.getElem?_eq_some_iff.1 hx0).1).trans hx0
    replace hy0 := (hb1.block _ (Array.getElem?_eq_some_iff.1 hy0).1).trans hy0
    replace hb0 := hb0.next' hb1
    have c0 := cell_of_row w9 W.heap.size 0 _ _ _ hx0
    have c1 := cell_of_row w9 W.heap.size 1 _ _ _ hx0
    have q0 := cell_of_row w9 w8.heap.size 0 _ _ _ hy0
    have q1 := cell_of_row w9 w8.heap.size 1 _ _ _ hy0
    simp only [List.getElem?_toArray, List.getElem?_cons_zero, List.getElem?_cons_succ] at c0 c1 q0 q1
    rw [HX.out] at q0
    rw [HBB.out] at q1
    clear hb1 hx0 hy0
    go_wp2
    go_ret
    exact ⟨ret_bool (by simp [h2]), hb0⟩
theorem aback_any (s w : ByteArray) (X : Int) (b : ByteArray) (W : World) (hK : Consts W) (hM : MaxCell W) :
    Calls Tryd.prog 4 #[.string s, .string w, .agg #[.int .i64 X, .string b]] W fun e w' => e = .returned (.bool true) ∧ Below W.heap.size W w' := by
  by_cases hs : s.size ≤ 600
  · by_cases hw : w.size ≤ 600
    · by_cases hb : b.size ≤ 300
      · exact aback_yes s w X b hs hw hb W hK hM
      · have h1 : ¬ (600 : Int) < (s.size : Int) := by omega
        have h2 : ¬ (600 : Int) < (w.size : Int) := by omega
        have h3 : (300 : Int) < (b.size : Int) := by omega
        go_enter Tryd.func4, Tryd.ntmps4
        go_wp2
        go_ret
        exact ⟨rfl, Below.alloc0 _ _⟩
    · have h1 : ¬ (600 : Int) < (s.size : Int) := by omega
      have h2 : (600 : Int) < (w.size : Int) := by omega
      go_enter Tryd.func4, Tryd.ntmps4
      go_wp2
      go_ret
      exact ⟨rfl, Below.alloc0 _ _⟩
  · have h1 : (600 : Int) < (s.size : Int) := by omega
    go_enter Tryd.func4, Tryd.ntmps4
    go_wp2
    go_ret
    exact ⟨rfl, Below.alloc0 _ _⟩
end Go.Proofs.YtmmkhlianijagaaDoor
