/-
  keyholelaw09.ShareSums: the walk.
-/
import Derived.Test.YtljckcegcfidoaaShw
import Derived.Test.YtljckcegcfidoaaBytx
namespace Go.Proofs.Ytljckcegcfidoaa
open Go.RowKit Go.Kx
set_option maxRecDepth 20000

/-! ### mathematics -/
def xorS (a b : ByteArray) : ByteArray := ⟨(List.zipWith (fun x y : UInt8 => x ^^^ y) a.data.toList b.data.toList).toArray⟩
theorem xorS_size {a b : ByteArray} (h : a.size = b.size) : (xorS a b).size = a.size := by
  rw [xorS, size_mk, List.length_zipWith]
  have e1 : a.data.toList.length = a.size := by simp
  have e2 : b.data.toList.length = b.size := by simp
  omega
theorem gOf_xorS {a b : ByteArray} (h : a.size = b.size) (q : Nat) : gOf (xorS a b) q = gOf a q + gOf b q := by
  have e1 : a.data.toList.length = a.size := by simp
  have e2 : b.data.toList.length = b.size := by simp
  apply Gf.G.ext'
  show ((List.zipWith (fun x y : UInt8 => x ^^^ y) a.data.toList b.data.toList).getD q 0).toNat = (a.data.toList.getD q 0).toNat ^^^ (b.data.toList.getD q 0).toNat
  by_cases hq : q < a.size
  · simp only [List.getD, List.getElem?_zipWith]
    rw [List.getElem?_eq_getElem (by omega), List.getElem?_eq_getElem (by omega)]
    simp
  · simp only [List.getD, List.getElem?_zipWith]
    rw [List.getElem?_eq_none (by omega), List.getElem?_eq_none (by omega)]
    rfl
theorem gOf_append (s a : ByteArray) (q : Nat) : gOf (s ++ a) q = if q < s.size then gOf s q else gOf a (q - s.size) := by
  have e1 : s.data.toList.length = s.size := by simp
  unfold gOf
  apply Gf.G.ext'
  by_cases hq : q < s.size
  · rw [if_pos hq]
    simp only [ByteArray.data_append, Array.toList_append, List.getD]
    rw [List.getElem?_append_left (by omega)]
  · rw [if_neg hq]
    simp only [ByteArray.data_append, Array.toList_append, List.getD]
    rw [List.getElem?_append_right (by omega), e1]
theorem ev_range_add (f g : Nat → Gf.G) (x : Gf.G) : ∀ k, Gf.ev ((List.range k).map fun p => f p + g p) x = Gf.ev ((List.range k).map f) x + Gf.ev ((List.range k).map g) x
  | 0 => (Gf.G.add_zero 0).symm
  | k + 1 => by
    rw [List.range_succ, List.map_append, List.map_append, List.map_append, List.map_singleton, List.map_singleton, List.map_singleton, ev_snoc, ev_snoc, ev_snoc, ev_range_add f g x k]
    simp only [List.length_map, List.length_range]
    rw [Gf.G.add_mul]
    ac_rfl
theorem shY_add {s t a b : ByteArray} (h1 : s.size = t.size) (h2 : a.size = b.size) (k i j : Nat) : shY (xorS s t ++ xorS a b) k i j = shY (s ++ a) k i j + shY (t ++ b) k i j := by
  unfold shY polG
  rw [← ev_range_add]
  congr 1
  refine List.map_congr_left fun p _ => ?_
  rw [gOf_append, gOf_append, gOf_append, xorS_size h1, gOf_xorS h1, gOf_xorS h2, h1]
  split <;> rfl
theorem xorS_txt (R S : Nat → Gf.G) : xorS (txt R) (txt S) = txt fun j => R j + S j := by
  have h : (txt R).size = (txt S).size := by rw [txt_size, txt_size]
  refine gOf_ext (by rw [xorS_size h, txt_size]) (txt_size _) fun j hj => ?_
  rw [gOf_xorS h, gOf_txt R hj, gOf_txt S hj, gOf_txt _ hj]
theorem bytes_v (a b : ByteArray) (z : Nat) (hz : z ≤ 5000) (ha : a.size = z) (hb : b.size = z) (w : World) :
    Calls Try.prog 22 #[.string a, .string b] w fun e w' => e = .returned (.string (xorS a b)) ∧ Below w.heap.size w w' := by
  have e1 : a.data.toList.length = a.size := by simp
  have e2 : b.data.toList.length = b.size := by simp
  refine rbytes_all a b z hz ha hb (List.zipWith (fun x y : UInt8 => x ^^^ y) a.data.toList b.data.toList) (by rw [List.length_zipWith]; omega) (fun j h1 h2 => ?_) w
  refine ⟨a[j] ^^^ b[j], ?_, by simp⟩
  rw [List.getElem?_zipWith, List.getElem?_eq_getElem (by omega), List.getElem?_eq_getElem (by omega)]
  rfl

/-! ### the walk -/
set_option maxHeartbeats 4000000 in
theorem sums_yes (s t : ByteArray) (n k : Int) (a b : ByteArray) (w : World) :
    Calls Try.prog 8 #[.string s, .string t, .int .i64 n, .int .i64 k, .string a, .string b] w fun e w' => e = .returned (.bool true) ∧ Below w.heap.size w w' := by
  by_cases c0 : (100 : Int) < (s.size : Int)
  · go_enter Try.func8, Try.ntmps8
    go_wp2
    go_ret
    exact ⟨rfl, Below.refl _ _⟩
  by_cases c1 : (100 : Int) < (t.size : Int)
  · go_enter Try.func8, Try.ntmps8
    go_wp2
    go_ret
    exact ⟨rfl, Below.refl _ _⟩
  by_cases c2 : (300 : Int) < (a.size : Int)
  · go_enter Try.func8, Try.ntmps8
    go_wp2
    go_ret
    exact ⟨rfl, Below.refl _ _⟩
  by_cases c3 : (300 : Int) < (b.size : Int)
  · go_enter Try.func8, Try.ntmps8
    go_wp2
    go_ret
    exact ⟨rfl, Below.refl _ _⟩
  by_cases c4 : (12 : Int) < n ∧ n ≤ 255
  · obtain ⟨c5, c6⟩ := c4
    go_enter Try.func8, Try.ntmps8
    go_wp2
    go_ret
    exact ⟨rfl, Below.refl _ _⟩
  have HC4 := Lib.hid c4
  clear c4
  by_cases c7 : (12 : Int) < n
  · have c8 : ¬ n ≤ 255 := fun h => HC4.out ⟨c7, h⟩
    have h1 : ¬ okS s n k a := fun h => c8 h.2.2.1
    have h2 : ¬ okS t n k b := fun h => c8 h.2.2.1
    have HS1 := Lib.hid (fun V => split_no s n k a h1 V)
    have HS2 := Lib.hid (fun V => split_no t n k b h2 V)
    clear h1 h2
    go_enter Try.func8, Try.ntmps8
    go_wp2_with fail
    refine (HS1.out _).mono ?_
    rintro e w ⟨rfl, rfl⟩
    unfold shEnd
    go_wp2_with fail
    refine (HS2.out _).mono ?_
    rintro e w ⟨rfl, rfl⟩
    unfold shEnd
    go_wp2_with fail
    refine (shares_any _).mono ?_
    rintro e w9 ⟨rfl, hb9⟩
    go_wp2
    go_ret
    exact ⟨rfl, hb9⟩
  by_cases h1 : okS s n k a
  rotate_left
  · have HS1 := Lib.hid (fun V => split_no s n k a h1 V)
    clear h1
    by_cases h2 : okS t n k b
    · obtain ⟨n, k, rfl, rfl, p1, p2, p3, p4, p5, p6⟩ := okS_nat h2
      have HS2 := Lib.hid (fun V => split_yes t n k b p5 p1 p2 p3 p4 p6 V)
      clear h2 p6
      go_enter Try.func8, Try.ntmps8
      go_wp2_with fail
      refine (HS1.out _).mono ?_
      rintro e w ⟨rfl, rfl⟩
      unfold shEnd
      go_wp2_with fail
      refine (HS2.out _).mono ?_
      rintro e w2 ⟨⟨A2, cA2, rfl, hs2⟩, hb2⟩
      unfold shEnd
      go_wp2_with fail
      refine (shares_any _).mono ?_
      rintro e w9 ⟨rfl, hb9⟩
      go_wp2
      go_ret
      exact ⟨rfl, hb2.next' hb9⟩
    · have HS2 := Lib.hid (fun V => split_no t n k b h2 V)
      clear h2
      go_enter Try.func8, Try.ntmps8
      go_wp2_with fail
      refine (HS1.out _).mono ?_
      rintro e w ⟨rfl, rfl⟩
      unfold shEnd
      go_wp2_with fail
      refine (HS2.out _).mono ?_
      rintro e w ⟨rfl, rfl⟩
      unfold shEnd
      go_wp2_with fail
      refine (shares_any _).mono ?_
      rintro e w9 ⟨rfl, hb9⟩
      go_wp2
      go_ret
      exact ⟨rfl, hb9⟩
  obtain ⟨n, k, rfl, rfl, p1, p2, p3, p4, p5, p6⟩ := okS_nat h1
  have HS1 := Lib.hid (fun V => split_yes s n k a p5 p1 p2 p3 p4 p6 V)
  clear h1
  by_cases h2 : okS t n k b
  rotate_left
  · have HS2 := Lib.hid (fun V => split_no t n k b h2 V)
    clear h2 p6
    go_enter Try.func8, Try.ntmps8
    go_wp2_with fail
    refine (HS1.out _).mono ?_
    rintro e w1 ⟨⟨A1, cA1, rfl, hs1⟩, hb1⟩
    unfold shEnd
    go_wp2_with fail
    refine (HS2.out _).mono ?_
    rintro e w1 ⟨rfl, rfl⟩
    unfold shEnd
    go_wp2_with fail
    refine (shares_any _).mono ?_
    rintro e w9 ⟨rfl, hb9⟩
    go_wp2
    go_ret
    exact ⟨rfl, hb1.next' hb9⟩
  have q5 : t.size = 32 := h2.1
  have q6 : b.size = 32 * (k - 1) := by have := h2.2.2.2.2.2; omega
  have HS2 := Lib.hid (fun V => split_yes t n k b q5 p1 p2 p3 p4 q6 V)
  have hst : s.size = t.size := by rw [p5, q5]
  have hab : a.size = b.size := by rw [p6, q6]
  have HS3 := Lib.hid (fun V => split_yes (xorS s t) n k (xorS a b) (by rw [xorS_size hst, p5]) p1 p2 p3 p4 (by rw [xorS_size hab, p6]) V)
  have HB1 := Lib.hid (fun V => bytes_v s t 32 (by decide) p5 q5 V)
  have HB2 := Lib.hid (fun V => bytes_v a b (32 * (k - 1)) (by omega) p6 q6 V)
  have HX : Hid (∀ i, i < n → ∃ x y r, (splL (s ++ a) n k).getD i sh0 = ((i : Int) + 1, x) ∧ (splL (t ++ b) n k).getD i sh0 = ((i : Int) + 1, y) ∧ (splL (xorS s t ++ xorS a b) n k).getD i sh0 = ((i : Int) + 1, r) ∧
      ∀ V, Calls Try.prog 22 #[.string x, .string y] V fun e w' => e = .returned (.string r) ∧ Below V.heap.size V w') := Lib.hid (fun i hi => by
    refine ⟨_, _, _, splL_at _ _ _ _ hi, splL_at _ _ _ _ hi, splL_at _ _ _ _ hi, fun V => ?_⟩
    have := bytes_v (txt (shY (s ++ a) k i)) (txt (shY (t ++ b) k i)) 32 (by decide) (txt_size _) (txt_size _) V
    rw [xorS_txt, ← txt_congr (fun j _ => shY_add hst hab k i j)] at this
    exact this)
  have HL1 := Lib.hid (splL_length (s ++ a) n k)
  have HL2 := Lib.hid (splL_length (t ++ b) n k)
  have HL3 := Lib.hid (splL_length (xorS s t ++ xorS a b) n k)
  generalize splL (s ++ a) n k = L1 at *
  generalize splL (t ++ b) n k = L2 at *
  generalize splL (xorS s t ++ xorS a b) n k = L3 at *
  generalize xorS s t = st at *
  generalize xorS a b = ab at *
  clear h2 p6 q6 hst hab p5 q5
  go_enter Try.func8, Try.ntmps8
  go_wp2_with fail
  refine (HS1.out _).mono ?_
  rintro e w1 ⟨⟨A1, cA1, rfl, hs1⟩, hb⟩
  unfold shEnd
  go_wp2_with fail
  refine (HS2.out _).mono ?_
  rintro e w2 ⟨⟨A2, cA2, rfl, hs2⟩, hb2⟩
  unfold shEnd
  replace hs1 := hs1.keep hb2
  replace hb := hb.next' hb2
  clear hb2
  go_wp2_with fail
  refine (HB1.out _).mono ?_
  rintro e w3 ⟨rfl, hb3⟩
  replace hs1 := hs1.keep hb3
  replace hs2 := hs2.keep hb3
  replace hb := hb.next' hb3
  clear hb3
  go_wp2_with fail
  refine (HB2.out _).mono ?_
  rintro e w4 ⟨rfl, hb4⟩
  replace hs1 := hs1.keep hb4
  replace hs2 := hs2.keep hb4
  replace hb := hb.next' hb4
  clear hb4
  go_wp2_with fail
  refine (HS3.out _).mono ?_
  rintro e w5 ⟨⟨A3, cA3, rfl, hs3⟩, hb5⟩
  unfold shEnd
  replace hs1 := hs1.keep hb5
  replace hs2 := hs2.keep hb5
  replace hb := hb.next' hb5
  clear hb5
  go_wp2
  go_loopw [19] (fun i wr => ∃ k : Nat, k ≤ n ∧ i = .int .i64 (k : Int) ∧ Sl wr A1 (shV L1) ∧ Sl wr A2 (shV L2) ∧ Sl wr A3 (shV L3) ∧ Below w.heap.size w wr) (fun i _ => n - (intOf i).toNat)
  case atStart => exact ⟨0, by omega, rfl, hs1, hs2, hs3, hb⟩
  case round =>
    clear hs1 hs2 hs3 hb
    obtain ⟨i, hi, rfl, hs1, hs2, hs3, hb⟩ := hrel
    by_cases hlt : i < n
    · obtain ⟨x, y, r, e1, e2, e3, HBX⟩ := HX.out i hlt
      have HBY := Lib.hid HBX
      obtain ⟨b1, o1, rfl, hx1, hy1⟩ := sl_sh hs1 (k := i) (by rw [HL1.out]; exact hlt)
      obtain ⟨b2, o2, rfl, _, hy2⟩ := sl_sh hs2 (k := i) (by rw [HL2.out]; exact hlt)
      obtain ⟨b3, o3, rfl, hx3, hy3⟩ := sl_sh hs3 (k := i) (by rw [HL3.out]; exact hlt)
      rw [e1] at hx1 hy1
      rw [e2] at hy2
      rw [e3] at hx3 hy3
      dsimp only at hx1 hy1 hy2 hx3 hy3
      clear e1 e2 e3 HBX
      go_wp2
      refine Uptot.begin_ [] (fun V : World => V.cell? ⟨b1, o1 + i * 2, none⟩ = some (.int .i64 ((i : Int) + 1)) ∧ V.cell? ⟨b1, o1 + i * 2 + 1, none⟩ = some (.string x) ∧ V.cell? ⟨b2, o2 + i * 2 + 1, none⟩ = some (.string y) ∧ V.cell? ⟨b3, o3 + i * 2, none⟩ = some (.int .i64 ((i : Int) + 1)) ∧ V.cell? ⟨b3, o3 + i * 2 + 1, none⟩ = some (.string r)) (fun _ : World => True) (by kernel_rfl) ?_
      have hKS : Hid (∀ V, Below wr.heap.size wr V → (V.cell? ⟨b1, o1 + i * 2, none⟩ = some (.int .i64 ((i : Int) + 1)) ∧ V.cell? ⟨b1, o1 + i * 2 + 1, none⟩ = some (.string x) ∧ V.cell? ⟨b2, o2 + i * 2 + 1, none⟩ = some (.string y) ∧ V.cell? ⟨b3, o3 + i * 2, none⟩ = some (.int .i64 ((i : Int) + 1)) ∧ V.cell? ⟨b3, o3 + i * 2 + 1, none⟩ = some (.string r)) ∧ True) := Lib.hid fun V hV =>
        ⟨⟨(hV.cell (p := ⟨b1, o1 + i * 2, none⟩) (block_lt_of_cell hx1)).trans hx1, (hV.cell (p := ⟨b1, o1 + i * 2 + 1, none⟩) (block_lt_of_cell hy1)).trans hy1, (hV.cell (p := ⟨b2, o2 + i * 2 + 1, none⟩) (block_lt_of_cell hy2)).trans hy2, (hV.cell (p := ⟨b3, o3 + i * 2, none⟩) (block_lt_of_cell hx3)).trans hx3, (hV.cell (p := ⟨b3, o3 + i * 2 + 1, none⟩) (block_lt_of_cell hy3)).trans hy3⟩, trivial⟩
      have hbV : Below wr.heap.size wr wr.drew := Below.drew0 wr
      have hST := hKS.out _ hbV
      clear hx1 hy1 hy2 hx3 hy3
      generalize wr.drew = V at *
      refine Uptot.takeS (i := 0) (v := ?_) rfl (by kernel_rfl) (by kernel_rfl) (by kernel_rfl) (by kernel_rfl) (fun _ _ _ h => h) (Or.inl ⟨by rfl, ?_⟩) hST ?_
      rotate_left 1
      · intro w9 hSw; (try dsimp only at hSw); obtain ⟨s1', s2', s3', s4', s5'⟩ := hSw; go_simp; (try with_reducible rfl)
      try simp only [Act.put, List.setIfInBounds_toArray, List.set_cons_zero, List.set_cons_succ]
      refine Uptot.takeS (i := 1) (v := ?_) rfl (by kernel_rfl) (by kernel_rfl) (by kernel_rfl) (by kernel_rfl) (fun _ _ _ h => h) (Or.inl ⟨by rfl, ?_⟩) hST ?_
      rotate_left 1
      · intro w9 hSw; (try dsimp only at hSw); obtain ⟨s1', s2', s3', s4', s5'⟩ := hSw; go_simp; (try with_reducible rfl)
      try simp only [Act.put, List.setIfInBounds_toArray, List.set_cons_zero, List.set_cons_succ]
      refine Uptot.takeS (i := 2) (v := ?_) rfl (by kernel_rfl) (by kernel_rfl) (by kernel_rfl) (by kernel_rfl) (fun _ _ _ h => h) (Or.inl ⟨by rfl, ?_⟩) hST ?_
      rotate_left 1
      · intro w9 hSw; (try dsimp only at hSw); obtain ⟨s1', s2', s3', s4', s5'⟩ := hSw; go_simp; (try with_reducible rfl)
      try simp only [Act.put, List.setIfInBounds_toArray, List.set_cons_zero, List.set_cons_succ]
      refine Uptot.takeS (i := 3) (v := ?_) rfl (by kernel_rfl) (by kernel_rfl) (by kernel_rfl) (by kernel_rfl) (fun _ _ _ h => h) (Or.inl ⟨by rfl, ?_⟩) hST ?_
      rotate_left 1
      · intro w9 hSw; (try dsimp only at hSw); obtain ⟨s1', s2', s3', s4', s5'⟩ := hSw; go_simp; (try with_reducible rfl)
      try simp only [Act.put, List.setIfInBounds_toArray, List.set_cons_zero, List.set_cons_succ]
      refine Uptot.takeS (i := 4) (v := ?_) rfl (by kernel_rfl) (by kernel_rfl) (by kernel_rfl) (by kernel_rfl) (fun _ _ _ h => h) (Or.inl ⟨by rfl, ?_⟩) hST ?_
      rotate_left 1
      · intro w9 hSw; (try dsimp only at hSw); obtain ⟨s1', s2', s3', s4', s5'⟩ := hSw; go_simp; (try with_reducible rfl)
      try simp only [Act.put, List.setIfInBounds_toArray, List.set_cons_zero, List.set_cons_succ]
      refine Uptot.takeS (i := 5) (v := ?_) rfl (by kernel_rfl) (by kernel_rfl) (by kernel_rfl) (by kernel_rfl) (fun _ _ _ h => h) (Or.inl ⟨by rfl, ?_⟩) hST ?_
      rotate_left 1
      · intro w9 hSw; (try dsimp only at hSw); obtain ⟨s1', s2', s3', s4', s5'⟩ := hSw; go_simp; (try with_reducible rfl)
      try simp only [Act.put, List.setIfInBounds_toArray, List.set_cons_zero, List.set_cons_succ]
      refine Uptot.takeS (i := 6) (v := ?_) rfl (by kernel_rfl) (by kernel_rfl) (by kernel_rfl) (by kernel_rfl) (fun _ _ _ h => h) (Or.inl ⟨by rfl, ?_⟩) hST ?_
      rotate_left 1
      · intro w9 hSw; (try dsimp only at hSw); obtain ⟨s1', s2', s3', s4', s5'⟩ := hSw; go_simp; (try with_reducible rfl)
      try simp only [Act.put, List.setIfInBounds_toArray, List.set_cons_zero, List.set_cons_succ]
      refine Uptot.takeS (i := 7) (v := ?_) rfl (by kernel_rfl) (by kernel_rfl) (by kernel_rfl) (by kernel_rfl) (fun _ _ _ h => h) (Or.inl ⟨by rfl, ?_⟩) hST ?_
      rotate_left 1
      · intro w9 hSw; (try dsimp only at hSw); obtain ⟨s1', s2', s3', s4', s5'⟩ := hSw; go_simp; (try with_reducible rfl)
      try simp only [Act.put, List.setIfInBounds_toArray, List.set_cons_zero, List.set_cons_succ]
      refine Uptot.takeS (i := 8) (v := ?_) rfl (by kernel_rfl) (by kernel_rfl) (by kernel_rfl) (by kernel_rfl) (fun _ _ _ h => h) (Or.inl ⟨by rfl, ?_⟩) hST ?_
      rotate_left 1
      · intro w9 hSw; (try dsimp only at hSw); obtain ⟨s1', s2', s3', s4', s5'⟩ := hSw; go_simp; (try with_reducible rfl)
      try simp only [Act.put, List.setIfInBounds_toArray, List.set_cons_zero, List.set_cons_succ]
      refine Uptot.takeS (i := 9) (v := ?_) rfl (by kernel_rfl) (by kernel_rfl) (by kernel_rfl) (by kernel_rfl) (fun _ _ _ h => h) (Or.inl ⟨by rfl, ?_⟩) hST ?_
      rotate_left 1
      · intro w9 hSw; (try dsimp only at hSw); obtain ⟨s1', s2', s3', s4', s5'⟩ := hSw; go_simp; (try with_reducible rfl)
      try simp only [Act.put, List.setIfInBounds_toArray, List.set_cons_zero, List.set_cons_succ]
      refine Uptot.takeS (i := 10) (v := ?_) rfl (by kernel_rfl) (by kernel_rfl) (by kernel_rfl) (by kernel_rfl) (fun _ _ _ h => h) (Or.inl ⟨by rfl, ?_⟩) hST ?_
      rotate_left 1
      · intro w9 hSw; (try dsimp only at hSw); obtain ⟨s1', s2', s3', s4', s5'⟩ := hSw; go_simp; (try with_reducible rfl)
      try simp only [Act.put, List.setIfInBounds_toArray, List.set_cons_zero, List.set_cons_succ]
      refine Uptot.takeS (i := 11) (v := ?_) rfl (by kernel_rfl) (by kernel_rfl) (by kernel_rfl) (by kernel_rfl) (fun _ _ _ h => h) (Or.inl ⟨by rfl, ?_⟩) hST ?_
      rotate_left 1
      · intro w9 hSw; (try dsimp only at hSw); obtain ⟨s1', s2', s3', s4', s5'⟩ := hSw; go_simp; (try with_reducible rfl)
      try simp only [Act.put, List.setIfInBounds_toArray, List.set_cons_zero, List.set_cons_succ]
      refine Uptot.takeS (i := 12) (v := ?_) rfl (by kernel_rfl) (by kernel_rfl) (by kernel_rfl) (by kernel_rfl) (fun _ _ _ h => h) (Or.inl ⟨by rfl, ?_⟩) hST ?_
      rotate_left 1
      · intro w9 hSw; (try dsimp only at hSw); obtain ⟨s1', s2', s3', s4', s5'⟩ := hSw; go_simp; (try with_reducible rfl)
      try simp only [Act.put, List.setIfInBounds_toArray, List.set_cons_zero, List.set_cons_succ]
      refine Uptot.takeS (i := 13) (v := ?_) rfl (by kernel_rfl) (by kernel_rfl) (by kernel_rfl) (by kernel_rfl) (fun _ _ _ h => h) (Or.inl ⟨by rfl, ?_⟩) hST ?_
      rotate_left 1
      · intro w9 hSw; (try dsimp only at hSw); obtain ⟨s1', s2', s3', s4', s5'⟩ := hSw; go_simp; (try with_reducible rfl)
      try simp only [Act.put, List.setIfInBounds_toArray, List.set_cons_zero, List.set_cons_succ]
      refine Uptot.takeS (i := 14) (v := ?_) rfl (by kernel_rfl) (by kernel_rfl) (by kernel_rfl) (by kernel_rfl) (fun _ _ _ h => h) (Or.inl ⟨by rfl, ?_⟩) hST ?_
      rotate_left 1
      · intro w9 hSw; (try dsimp only at hSw); obtain ⟨s1', s2', s3', s4', s5'⟩ := hSw; go_simp; (try with_reducible rfl)
      try simp only [Act.put, List.setIfInBounds_toArray, List.set_cons_zero, List.set_cons_succ]
      refine Uptot.takeS (i := 15) (v := ?_) rfl (by kernel_rfl) (by kernel_rfl) (by kernel_rfl) (by kernel_rfl) (fun _ _ _ h => h) (Or.inl ⟨by rfl, ?_⟩) hST ?_
      rotate_left 1
      · intro w9 hSw; (try dsimp only at hSw); obtain ⟨s1', s2', s3', s4', s5'⟩ := hSw; go_simp; (try with_reducible rfl)
      try simp only [Act.put, List.setIfInBounds_toArray, List.set_cons_zero, List.set_cons_succ]
      refine Uptot.takeS (i := 16) (v := ?_) rfl (by kernel_rfl) (by kernel_rfl) (by kernel_rfl) (by kernel_rfl) (fun _ _ _ h => h) (Or.inl ⟨by rfl, ?_⟩) hST ?_
      rotate_left 1
      · intro w9 hSw; (try dsimp only at hSw); obtain ⟨s1', s2', s3', s4', s5'⟩ := hSw; go_simp; (try with_reducible rfl)
      try simp only [Act.put, List.setIfInBounds_toArray, List.set_cons_zero, List.set_cons_succ]
      refine Uptot.takeS (i := 17) (v := ?_) rfl (by kernel_rfl) (by kernel_rfl) (by kernel_rfl) (by kernel_rfl) (fun _ _ _ h => h) (Or.inl ⟨by rfl, ?_⟩) hST ?_
      rotate_left 1
      · intro w9 hSw; (try dsimp only at hSw); obtain ⟨s1', s2', s3', s4', s5'⟩ := hSw; go_simp; (try with_reducible rfl)
      try simp only [Act.put, List.setIfInBounds_toArray, List.set_cons_zero, List.set_cons_succ]
      refine Uptot.takeS (i := 18) (v := ?_) rfl (by kernel_rfl) (by kernel_rfl) (by kernel_rfl) (by kernel_rfl) (fun _ _ _ h => h) (Or.inl ⟨by rfl, ?_⟩) hST ?_
      rotate_left 1
      · intro w9 hSw; (try dsimp only at hSw); obtain ⟨s1', s2', s3', s4', s5'⟩ := hSw; go_simp; (try with_reducible rfl)
      try simp only [Act.put, List.setIfInBounds_toArray, List.set_cons_zero, List.set_cons_succ]
      refine Uptot.takeS (i := 19) (v := ?_) rfl (by kernel_rfl) (by kernel_rfl) (by kernel_rfl) (by kernel_rfl) (fun _ _ _ h => h) (Or.inl ⟨by rfl, ?_⟩) hST ?_
      rotate_left 1
      · intro w9 hSw; (try dsimp only at hSw); obtain ⟨s1', s2', s3', s4', s5'⟩ := hSw; go_simp; (try with_reducible rfl)
      try simp only [Act.put, List.setIfInBounds_toArray, List.set_cons_zero, List.set_cons_succ]
      refine Uptot.takeS (i := 20) (v := ?_) rfl (by kernel_rfl) (by kernel_rfl) (by kernel_rfl) (by kernel_rfl) (fun _ _ _ h => h) (Or.inl ⟨by rfl, ?_⟩) hST ?_
      rotate_left 1
      · intro w9 hSw; (try dsimp only at hSw); obtain ⟨s1', s2', s3', s4', s5'⟩ := hSw; go_simp; (try with_reducible rfl)
      try simp only [Act.put, List.setIfInBounds_toArray, List.set_cons_zero, List.set_cons_succ]
      refine Uptot.takeS (i := 21) (v := ?_) rfl (by kernel_rfl) (by kernel_rfl) (by kernel_rfl) (by kernel_rfl) (fun _ _ _ h => h) (Or.inl ⟨by rfl, ?_⟩) hST ?_
      rotate_left 1
      · intro w9 hSw; (try dsimp only at hSw); obtain ⟨s1', s2', s3', s4', s5'⟩ := hSw; go_simp; (try with_reducible rfl)
      try simp only [Act.put, List.setIfInBounds_toArray, List.set_cons_zero, List.set_cons_succ]
      refine Uptot.takeS (i := 22) (v := ?_) rfl (by kernel_rfl) (by kernel_rfl) (by kernel_rfl) (by kernel_rfl) (fun _ _ _ h => h) (Or.inl ⟨by rfl, ?_⟩) hST ?_
      rotate_left 1
      · intro w9 hSw; (try dsimp only at hSw); obtain ⟨s1', s2', s3', s4', s5'⟩ := hSw; go_simp; (try with_reducible rfl)
      try simp only [Act.put, List.setIfInBounds_toArray, List.set_cons_zero, List.set_cons_succ]
      refine Uptot.takeS (i := 23) (v := ?_) rfl (by kernel_rfl) (by kernel_rfl) (by kernel_rfl) (by kernel_rfl) (fun _ _ _ h => h) (Or.inl ⟨by rfl, ?_⟩) hST ?_
      rotate_left 1
      · intro w9 hSw; (try dsimp only at hSw); obtain ⟨s1', s2', s3', s4', s5'⟩ := hSw; go_simp; (try with_reducible rfl)
      try simp only [Act.put, List.setIfInBounds_toArray, List.set_cons_zero, List.set_cons_succ]
      refine Uptot.takeS (i := 24) (v := ?_) rfl (by kernel_rfl) (by kernel_rfl) (by kernel_rfl) (by kernel_rfl) (fun _ _ _ h => h) (Or.inl ⟨by rfl, ?_⟩) hST ?_
      rotate_left 1
      · intro w9 hSw; (try dsimp only at hSw); obtain ⟨s1', s2', s3', s4', s5'⟩ := hSw; go_simp; (try with_reducible rfl)
      try simp only [Act.put, List.setIfInBounds_toArray, List.set_cons_zero, List.set_cons_succ]
      refine Uptot.takeS (i := 25) (v := ?_) rfl (by kernel_rfl) (by kernel_rfl) (by kernel_rfl) (by kernel_rfl) (fun _ _ _ h => h) (Or.inl ⟨by rfl, ?_⟩) hST ?_
      rotate_left 1
      · intro w9 hSw; (try dsimp only at hSw); obtain ⟨s1', s2', s3', s4', s5'⟩ := hSw; go_simp; (try with_reducible rfl)
      try simp only [Act.put, List.setIfInBounds_toArray, List.set_cons_zero, List.set_cons_succ]
      refine Uptot.takeS (i := 26) (v := ?_) rfl (by kernel_rfl) (by kernel_rfl) (by kernel_rfl) (by kernel_rfl) (fun _ _ _ h => h) (Or.inl ⟨by rfl, ?_⟩) hST ?_
      rotate_left 1
      · intro w9 hSw; (try dsimp only at hSw); obtain ⟨s1', s2', s3', s4', s5'⟩ := hSw; go_simp; (try with_reducible rfl)
      try simp only [Act.put, List.setIfInBounds_toArray, List.set_cons_zero, List.set_cons_succ]
      refine Uptot.one (i := 27) rfl (by kernel_rfl) (fun K hK9 => ?_)
      go_simp
      go_at_call 22
      refine (HBY.out _).mono ?_
      rintro e' V9 ⟨rfl, hb9⟩
      replace hbV := hbV.next hb9
      replace hST := hKS.out _ hbV
      refine hK9.out _ _ (Cond.ahead hST) ?_
      clear hK9 K hb9
      try simp only [Act.put, List.setIfInBounds_toArray, List.set_cons_zero, List.set_cons_succ]
      refine Uptot.takeS (i := 28) (v := ?_) rfl (by kernel_rfl) (by kernel_rfl) (by kernel_rfl) (by kernel_rfl) (fun _ _ _ h => h) (Or.inl ⟨by rfl, ?_⟩) hST ?_
      rotate_left 1
      · intro w9 hSw; (try dsimp only at hSw); obtain ⟨s1', s2', s3', s4', s5'⟩ := hSw; go_simp; (try with_reducible rfl)
      try simp only [Act.put, List.setIfInBounds_toArray, List.set_cons_zero, List.set_cons_succ]
      refine Uptot.takeS (i := 29) (v := ?_) rfl (by kernel_rfl) (by kernel_rfl) (by kernel_rfl) (by kernel_rfl) (fun _ _ _ h => h) (Or.inl ⟨by rfl, ?_⟩) hST ?_
      rotate_left 1
      · intro w9 hSw; (try dsimp only at hSw); obtain ⟨s1', s2', s3', s4', s5'⟩ := hSw; go_simp; (try with_reducible rfl)
      try simp only [Act.put, List.setIfInBounds_toArray, List.set_cons_zero, List.set_cons_succ]
      refine Uptot.done (by kernel_rfl) ?_ _
      go_wp2
      go_roundw
      case rel => exact ⟨i + 1, by omega, by go_num, hs1.keep hbV, hs2.keep hbV, hs3.keep hbV, hb.next' hbV⟩
      case measure => simp [intOf]; omega
    · obtain rfl : i = n := by omega
      go_wp2_with fail
      refine (shares_any _).mono ?_
      rintro e w9 ⟨rfl, hb9⟩
      go_wp2
      go_ret
      exact ⟨rfl, hb.next' hb9⟩
end Go.Proofs.Ytljckcegcfidoaa
