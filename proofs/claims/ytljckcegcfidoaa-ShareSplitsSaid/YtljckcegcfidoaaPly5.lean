/-
  poly: the contracts of weight's closure and of weight.
-/
import Derived.Test.YtljckcegcfidoaaPly4
import Derived.Test.YtljckcegcfidoaaUptot
import Derived.Test.YtljckcegcfidoaaStil
namespace Go.Proofs.Ytljckcegcfidoaa
open Go.RowKit Go.Kx
set_option maxRecDepth 20000

/-- What weight's closure needs. -/
def WtBox (w : World) (B g : Nat) (xs : List Int) (i : Nat) (x : Int) (A : Option Addr) (c : Nat) : Prop :=
  Fld w g ∧ w.cell? ⟨B, 0, none⟩ = some (.pointer (some ⟨g, 0, none⟩)) ∧ w.cell? ⟨B + 1, 0, none⟩ = some (.slice A xs.length c) ∧ w.cell? ⟨B + 1 + 1, 0, none⟩ = some (.int .i64 i) ∧ w.cell? ⟨B + 1 + 1 + 1, 0, none⟩ = some (.int .i64 x) ∧ Sl w A (intsI xs) ∧ B + 1 + 1 + 1 < w.heap.size
theorem WtBox.keep {w w' : World} {B g : Nat} {xs : List Int} {i : Nat} {x : Int} {A : Option Addr} {c : Nat} (h : WtBox w B g xs i x A c) (hb : Below w.heap.size w w') : WtBox w' B g xs i x A c := by
  obtain ⟨h0, h1, h2, h3, h4, h5, h6⟩ := h
  exact ⟨h0.keep hb, (hb.cell (p := ⟨B, 0, none⟩) (show B < _ by omega)).trans h1, (hb.cell (p := ⟨B + 1, 0, none⟩) (show B + 1 < _ by omega)).trans h2, (hb.cell (p := ⟨B + 1 + 1, 0, none⟩) (show B + 1 + 1 < _ by omega)).trans h3, (hb.cell (p := ⟨B + 1 + 1 + 1, 0, none⟩) h6).trans h4, h5.keep hb, Nat.lt_of_lt_of_le h6 hb.size⟩
/-- A round of weight's fold. -/
def qstep (x xi : Int) (p : Int × Int) (d : Int) : Int × Int := (((mulA p.1 ((addA x d).1 : Nat)).1 : Nat), ((mulA p.2 ((addA xi d).1 : Nat)).1 : Nat))
def qround (xs : List Int) (i : Nat) (x : Int) (p : Int × Int) (k : Nat) (d : Int) : Int × Int := if k = i then p else qstep x (xs.getD i 0) p d
set_option maxHeartbeats 4000000 in
theorem weightStep_any (B g : Nat) (xs : List Int) (i : Nat) (x : Int) (A : Option Addr) (c : Nat) (hi : i < xs.length) (p : Int × Int) (k : Nat) (d : Int) (w : World) (h : WtBox w B g xs i x A c) :
    Calls Try.prog 74 #[.agg (quo p), .int .i64 k, .int .i64 d, .pointer (some ⟨B + 1 + 1, 0, none⟩), .pointer (some ⟨B, 0, none⟩), .pointer (some ⟨B + 1 + 1 + 1, 0, none⟩), .pointer (some ⟨B + 1, 0, none⟩)] w
      fun e w' => e = .returned (.agg (quo (qround xs i x p k d))) ∧ Below w.heap.size w w' := by
  obtain ⟨o, u⟩ := p
  have hb0 : Below w.heap.size w ((w.alloc (.cells (quo (o, u)) 97)).alloc (.cells (quo (0, 0)) 97)) := (Below.alloc0 _ _).al _
  have hbx := h.keep hb0
  have hq0 : Quo ((w.alloc (.cells (quo (o, u)) 97)).alloc (.cells (quo (0, 0)) 97)) w.heap.size (o, u) := (Quo.new w (o, u)).keep' (Below.alloc0 _ _)
  have hq1 : Quo ((w.alloc (.cells (quo (o, u)) 97)).alloc (.cells (quo (0, 0)) 97)) (w.heap.size + 1) (0, 0) := by
    have := Quo.new (w.alloc (.cells (quo (o, u)) 97)) (0, 0)
    rw [World.size_alloc] at this
    exact this
  have hc0 := hq0.cells.1
  have hc1 := hq0.cells.2
  obtain ⟨hf, hbf, hbs, hbi, hbxx, hsl, hlt⟩ := hbx
  by_cases hki : k = i
  · have hr : qround xs i x (o, u) k d = (o, u) := if_pos hki
    rw [hr]
    subst hki
    have hq2 := hq1.set (o, u)
    have hb2 := hb0.setRow (g := w.heap.size + 1) (by omega) (quo (o, u))
    unfold quo at hb0 hc0 hc1 hbf hbs hbi hbxx hq1
    show Calls _ _ #[.agg #[.int .i64 o, .int .i64 u], _, _, _, _, _, _] _ _
    go_enter Try.func74, Try.ntmps74
    go_wp2_with (refine wpList_store_row rfl _ _ _ rfl (w.heap.size + 1) (quo (o, u)) rfl rfl _ _ hq1 quo_info rfl (quo_all _) ?_)
    exact bodyPost_ret (v := .agg (quo (o, u))) (results_cell_row rfl _ _ (w.heap.size + 1) _ _ _ _ rfl hq2 Try.underlying97 rfl quo_info) rfl ⟨rfl, hb2⟩
  · obtain ⟨⟨ro, ru⟩, hr⟩ : ∃ r, qround xs i x (o, u) k d = r := ⟨_, rfl⟩
    rw [hr]
    rw [qround, if_neg hki, qstep] at hr
    obtain ⟨hro, hru⟩ := Prod.mk.inj hr
    clear hr
    obtain ⟨b, off, rfl, hcx⟩ := sl_int h.2.2.2.2.2.1 hi
    have hbl := block_lt_of_cell hcx
    have hBl := h.2.2.2.2.2.2
    replace hcx := (hb0.cell (p := ⟨b, off + i, none⟩) hbl).trans hcx
    generalize xs.getD i 0 = xi at *
    dsimp only at hro hru hc0 hc1
    have hte : ((k : Int) == (i : Int)) = false := by simp; omega
    have HRO := Lib.hid hro
    have HRU := Lib.hid hru
    clear hro hru hki hsl h
    obtain ⟨s1, hs1⟩ : ∃ s, (addA x d).1 = s := ⟨_, rfl⟩
    obtain ⟨s2, hs2⟩ : ∃ s, (addA xi d).1 = s := ⟨_, rfl⟩
    rw [hs1] at HRO
    rw [hs2] at HRU
    have HS1 := Lib.hid hs1
    have HS2 := Lib.hid hs2
    clear hs1 hs2
    unfold quo at hb0 hc0 hc1 hbf hbs hbi hbxx hcx hf hlt hq0 hq1
    show Calls _ _ #[.agg #[.int .i64 o, .int .i64 u], _, _, _, _, _, _] _ _
    go_enter Try.func74, Try.ntmps74
    go_wp2
    generalize World.alloc (World.alloc w _) _ = W at *
    refine Uptot.begin_ [] (fun V : World => V.cell? ⟨B, 0, none⟩ = some (.pointer (some ⟨g, 0, none⟩)) ∧ V.cell? ⟨w.heap.size, 0, none⟩ = some (.int .i64 o) ∧ V.cell? ⟨w.heap.size, 1, none⟩ = some (.int .i64 u) ∧ V.cell? ⟨B + 1 + 1 + 1, 0, none⟩ = some (.int .i64 x) ∧ V.cell? ⟨B + 1, 0, none⟩ = some (.slice (some ⟨b, off, none⟩) xs.length c) ∧ V.cell? ⟨B + 1 + 1, 0, none⟩ = some (.int .i64 i) ∧ V.cell? ⟨b, off + i, none⟩ = some (.int .i64 xi)) (fun _ : World => True) (by kernel_rfl) ?_
    have hKS : Hid (∀ V, Below (w.heap.size + 1) W V → (V.cell? ⟨B, 0, none⟩ = some (.pointer (some ⟨g, 0, none⟩)) ∧ V.cell? ⟨w.heap.size, 0, none⟩ = some (.int .i64 o) ∧ V.cell? ⟨w.heap.size, 1, none⟩ = some (.int .i64 u) ∧ V.cell? ⟨B + 1 + 1 + 1, 0, none⟩ = some (.int .i64 x) ∧ V.cell? ⟨B + 1, 0, none⟩ = some (.slice (some ⟨b, off, none⟩) xs.length c) ∧ V.cell? ⟨B + 1 + 1, 0, none⟩ = some (.int .i64 i) ∧ V.cell? ⟨b, off + i, none⟩ = some (.int .i64 xi)) ∧ True) := Lib.hid fun V hV =>
      ⟨⟨(hV.cell (p := ⟨B, 0, none⟩) (show B < _ by omega)).trans hbf, (hV.cell (p := ⟨w.heap.size, 0, none⟩) (show w.heap.size < _ by omega)).trans hc0, (hV.cell (p := ⟨w.heap.size, 1, none⟩) (show w.heap.size < _ by omega)).trans hc1, (hV.cell (p := ⟨B + 1 + 1 + 1, 0, none⟩) (show B + 1 + 1 + 1 < _ by omega)).trans hbxx,
        (hV.cell (p := ⟨B + 1, 0, none⟩) (show B + 1 < _ by omega)).trans hbs, (hV.cell (p := ⟨B + 1 + 1, 0, none⟩) (show B + 1 + 1 < _ by omega)).trans hbi, (hV.cell (p := ⟨b, off + i, none⟩) (show b < _ by omega)).trans hcx⟩, trivial⟩
    have hbV : Below W.heap.size W W.drew := Below.drew0 W
    have hle : Hid (w.heap.size + 1 < W.heap.size) := Lib.hid (Array.getElem?_eq_some_iff.1 hq1).1
    have hST := hKS.out _ (hbV.mono (Nat.le_of_lt hle.out))
    clear hbf hc0 hc1 hbxx hbs hbi hcx hlt
    generalize W.drew = V at *
    refine Uptot.takeS (i := 0) (v := ?_) rfl (by kernel_rfl) (by kernel_rfl) (by kernel_rfl) (by kernel_rfl) (fun _ _ _ h => h) (Or.inl ⟨by rfl, ?_⟩) hST ?_
    rotate_left 1
    · intro w9 hSw; (try dsimp only at hSw); obtain ⟨s1', s2', s3', s4', s5', s6', s7'⟩ := hSw; go_simp; (try with_reducible rfl)
    try simp only [Act.put, List.setIfInBounds_toArray, List.set_cons_zero, List.set_cons_succ]
    refine Uptot.takeS (i := 1) (v := ?_) rfl (by kernel_rfl) (by kernel_rfl) (by kernel_rfl) (by kernel_rfl) (fun _ _ _ h => h) (Or.inl ⟨by rfl, ?_⟩) hST ?_
    rotate_left 1
    · intro w9 hSw; (try dsimp only at hSw); obtain ⟨s1', s2', s3', s4', s5', s6', s7'⟩ := hSw; go_simp; (try with_reducible rfl)
    try simp only [Act.put, List.setIfInBounds_toArray, List.set_cons_zero, List.set_cons_succ]
    refine Uptot.takeS (i := 2) (v := ?_) rfl (by kernel_rfl) (by kernel_rfl) (by kernel_rfl) (by kernel_rfl) (fun _ _ _ h => h) (Or.inl ⟨by rfl, ?_⟩) hST ?_
    rotate_left 1
    · intro w9 hSw; (try dsimp only at hSw); obtain ⟨s1', s2', s3', s4', s5', s6', s7'⟩ := hSw; go_simp; (try with_reducible rfl)
    try simp only [Act.put, List.setIfInBounds_toArray, List.set_cons_zero, List.set_cons_succ]
    refine Uptot.takeS (i := 3) (v := ?_) rfl (by kernel_rfl) (by kernel_rfl) (by kernel_rfl) (by kernel_rfl) (fun _ _ _ h => h) (Or.inl ⟨by rfl, ?_⟩) hST ?_
    rotate_left 1
    · intro w9 hSw; (try dsimp only at hSw); obtain ⟨s1', s2', s3', s4', s5', s6', s7'⟩ := hSw; go_simp; (try with_reducible rfl)
    try simp only [Act.put, List.setIfInBounds_toArray, List.set_cons_zero, List.set_cons_succ]
    refine Uptot.takeS (i := 4) (v := ?_) rfl (by kernel_rfl) (by kernel_rfl) (by kernel_rfl) (by kernel_rfl) (fun _ _ _ h => h) (Or.inl ⟨by rfl, ?_⟩) hST ?_
    rotate_left 1
    · intro w9 hSw; (try dsimp only at hSw); obtain ⟨s1', s2', s3', s4', s5', s6', s7'⟩ := hSw; go_simp; (try with_reducible rfl)
    try simp only [Act.put, List.setIfInBounds_toArray, List.set_cons_zero, List.set_cons_succ]
    refine Uptot.takeS (i := 7) (v := ?_) rfl (by kernel_rfl) (by kernel_rfl) (by kernel_rfl) (by kernel_rfl) (fun _ _ _ h => h) (Or.inl ⟨by rfl, ?_⟩) hST ?_
    rotate_left 1
    · intro w9 hSw; (try dsimp only at hSw); obtain ⟨s1', s2', s3', s4', s5', s6', s7'⟩ := hSw; go_simp; (try with_reducible rfl)
    try simp only [Act.put, List.setIfInBounds_toArray, List.set_cons_zero, List.set_cons_succ]
    refine Uptot.takeS (i := 8) (v := ?_) rfl (by kernel_rfl) (by kernel_rfl) (by kernel_rfl) (by kernel_rfl) (fun _ _ _ h => h) (Or.inl ⟨by rfl, ?_⟩) hST ?_
    rotate_left 1
    · intro w9 hSw; (try dsimp only at hSw); obtain ⟨s1', s2', s3', s4', s5', s6', s7'⟩ := hSw; go_simp; (try with_reducible rfl)
    try simp only [Act.put, List.setIfInBounds_toArray, List.set_cons_zero, List.set_cons_succ]
    refine Uptot.takeS (i := 9) (v := ?_) rfl (by kernel_rfl) (by kernel_rfl) (by kernel_rfl) (by kernel_rfl) (fun _ _ _ h => h) (Or.inl ⟨by rfl, ?_⟩) hST ?_
    rotate_left 1
    · intro w9 hSw; (try dsimp only at hSw); obtain ⟨s1', s2', s3', s4', s5', s6', s7'⟩ := hSw; go_simp; (try with_reducible rfl)
    try simp only [Act.put, List.setIfInBounds_toArray, List.set_cons_zero, List.set_cons_succ]
    refine Uptot.takeS (i := 10) (v := ?_) rfl (by kernel_rfl) (by kernel_rfl) (by kernel_rfl) (by kernel_rfl) (fun _ _ _ h => h) (Or.inl ⟨by rfl, ?_⟩) hST ?_
    rotate_left 1
    · intro w9 hSw; (try dsimp only at hSw); obtain ⟨s1', s2', s3', s4', s5', s6', s7'⟩ := hSw; go_simp; (try with_reducible rfl)
    try simp only [Act.put, List.setIfInBounds_toArray, List.set_cons_zero, List.set_cons_succ]
    refine Uptot.takeS (i := 11) (v := ?_) rfl (by kernel_rfl) (by kernel_rfl) (by kernel_rfl) (by kernel_rfl) (fun _ _ _ h => h) (Or.inl ⟨by rfl, ?_⟩) hST ?_
    rotate_left 1
    · intro w9 hSw; (try dsimp only at hSw); obtain ⟨s1', s2', s3', s4', s5', s6', s7'⟩ := hSw; go_simp; (try with_reducible rfl)
    try simp only [Act.put, List.setIfInBounds_toArray, List.set_cons_zero, List.set_cons_succ]
    refine Uptot.takeS (i := 12) (v := ?_) rfl (by kernel_rfl) (by kernel_rfl) (by kernel_rfl) (by kernel_rfl) (fun _ _ _ h => h) (Or.inl ⟨by rfl, ?_⟩) hST ?_
    rotate_left 1
    · intro w9 hSw; (try dsimp only at hSw); obtain ⟨s1', s2', s3', s4', s5', s6', s7'⟩ := hSw; go_simp; (try with_reducible rfl)
    try simp only [Act.put, List.setIfInBounds_toArray, List.set_cons_zero, List.set_cons_succ]
    refine Uptot.takeS (i := 13) (v := ?_) rfl (by kernel_rfl) (by kernel_rfl) (by kernel_rfl) (by kernel_rfl) (fun _ _ _ h => h) (Or.inl ⟨by rfl, ?_⟩) hST ?_
    rotate_left 1
    · intro w9 hSw; (try dsimp only at hSw); obtain ⟨s1', s2', s3', s4', s5', s6', s7'⟩ := hSw; go_simp; (try with_reducible rfl)
    try simp only [Act.put, List.setIfInBounds_toArray, List.set_cons_zero, List.set_cons_succ]
    refine Uptot.takeS (i := 14) (v := ?_) rfl (by kernel_rfl) (by kernel_rfl) (by kernel_rfl) (by kernel_rfl) (fun _ _ _ h => h) (Or.inl ⟨by rfl, ?_⟩) hST ?_
    rotate_left 1
    · intro w9 hSw; (try dsimp only at hSw); obtain ⟨s1', s2', s3', s4', s5', s6', s7'⟩ := hSw; go_simp; (try with_reducible rfl)
    try simp only [Act.put, List.setIfInBounds_toArray, List.set_cons_zero, List.set_cons_succ]
    refine Uptot.one (i := 5) rfl (by kernel_rfl) (fun K hK9 => ?_)
    go_simp
    go_at_call 55
    refine (pplus_any _ _ _).mono ?_
    rw [HS1.out]
    rintro e' V9 ⟨rfl, rfl⟩
    refine hK9.out _ _ (Cond.ahead hST) ?_
    clear hK9 K
    try simp only [Act.put, List.setIfInBounds_toArray, List.set_cons_zero, List.set_cons_succ]
    refine Uptot.one (i := 6) rfl (by kernel_rfl) (fun K hK9 => ?_)
    go_simp
    go_at_call 56
    refine (ptimes_any g _ _ _ (hf.keep hbV)).mono ?_
    rw [HRO.out]
    rintro e' V9 ⟨rfl, m9, rfl⟩
    replace hbV := hbV.next (Below.drewN0 _ m9)
    replace hST := hKS.out _ (hbV.mono (Nat.le_of_lt hle.out))
    refine hK9.out _ _ (Cond.ahead hST) ?_
    clear hK9 K
    generalize World.drewN _ m9 = V at *
    try simp only [Act.put, List.setIfInBounds_toArray, List.set_cons_zero, List.set_cons_succ]
    refine Uptot.one (i := 15) rfl (by kernel_rfl) (fun K hK9 => ?_)
    go_simp
    go_at_call 55
    refine (pplus_any _ _ _).mono ?_
    rw [HS2.out]
    rintro e' V9 ⟨rfl, rfl⟩
    refine hK9.out _ _ (Cond.ahead hST) ?_
    clear hK9 K
    try simp only [Act.put, List.setIfInBounds_toArray, List.set_cons_zero, List.set_cons_succ]
    refine Uptot.one (i := 16) rfl (by kernel_rfl) (fun K hK9 => ?_)
    go_simp
    go_at_call 56
    refine (ptimes_any g _ _ _ (hf.keep hbV)).mono ?_
    rw [HRU.out]
    rintro e' V9 ⟨rfl, m9, rfl⟩
    replace hbV := hbV.next (Below.drewN0 _ m9)
    replace hST := hKS.out _ (hbV.mono (Nat.le_of_lt hle.out))
    refine hK9.out _ _ (Cond.ahead hST) ?_
    clear hK9 K
    generalize World.drewN _ m9 = V at *
    try simp only [Act.put, List.setIfInBounds_toArray, List.set_cons_zero, List.set_cons_succ]
    refine Uptot.one (i := 17) rfl (by kernel_rfl) (fun K hK9 => ?_)
    go_simp
    refine hK9.out _ _ (Cond.ahead hST) ?_
    clear hK9 K
    try simp only [Act.put, List.setIfInBounds_toArray, List.set_cons_zero, List.set_cons_succ]
    refine Uptot.one (i := 18) rfl (by kernel_rfl) (fun K hK9 => ?_)
    rw [wanted_plain rfl, if_pos rfl]
    refine wp_store_row _ _ _ rfl (w.heap.size + 1) (quo (ro, ru)) rfl rfl _ _ (hq1.keep hbV hle.out) quo_info rfl (quo_all _) ?_
    have hbE := (hbV.mono (Nat.le_of_lt hle.out)).setRow (g := w.heap.size + 1) (Nat.le_refl _) (quo (ro, ru))
    refine hK9.out _ _ (Cond.ahead (hKS.out _ hbE)) ?_
    clear hK9 K
    try simp only [Act.put]
    refine Uptot.done (by kernel_rfl) ?_ _
    have hqE := (hq1.keep hbV hle.out).set (ro, ru)
    go_wp2
    exact bodyPost_ret (v := .agg (quo (ro, ru))) (results_cell_row rfl _ _ (w.heap.size + 1) _ _ _ _ rfl hqE Try.underlying97 rfl quo_info) rfl ⟨rfl, (hb0.next' hbV (by omega)).setRow (by omega) _⟩
end Go.Proofs.Ytljckcegcfidoaa
