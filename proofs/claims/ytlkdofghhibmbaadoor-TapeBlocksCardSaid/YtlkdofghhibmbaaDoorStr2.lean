/-
  stream: the contract of turned.
-/
import Derived.Test.YtlkdofghhibmbaaDoorStr1
import Derived.Test.YtlkdofghhibmbaaDoorUptot
import Derived.Deep.MidRow
import Derived.Deep.RegionHeld3
import Derived.Deep.DeepCutAuto
import Derived.Deep.CutBlock
namespace Go.Proofs.YtlkdofghhibmbaaDoor
open Go.RowKit Go.Kx
set_option maxRecDepth 20000

def sv (l : List Nat) : Array Value := rowA .i64 16 (fun j => l.getD j 0)
def placeV : List Value := placeL.flatten.map fun x : Nat => Value.int .i64 (x : Int)
def Places (w : World) : Prop := w.rangeAt 0 0 placeV
theorem Places.keep {w w' : World} (h : Places w) (hb : Below w.heap.size w w') : Places w' := by
  intro j v hv
  have hc := h j v hv
  exact (hb.cell (p := ⟨0, 0 + j, none⟩) (block_lt_of_cell hc)).trans hc
theorem place_index (k : Nat) (hk : k < 8) (V : World) : (Instr.index 113 (.agg placeV.toArray) (.int .i64 (k : Int))).run Tryd.prog V = .ok (.agg #[.int .i64 (placeAt k 0 : Nat), .int .i64 (placeAt k 1 : Nat), .int .i64 (placeAt k 2 : Nat), .int .i64 (placeAt k 3 : Nat)]) V := by
  rcases (by omega : k = 0 ∨ k = 1 ∨ k = 2 ∨ k = 3 ∨ k = 4 ∨ k = 5 ∨ k = 6 ∨ k = 7) with rfl | rfl | rfl | rfl | rfl | rfl | rfl | rfl <;> kernel_rfl
theorem sv_size (l : List Nat) : (sv l).size = 16 := rowA_size _ _ _
theorem sv_info : (Tryd.prog.info? 57).map (·.size) = some 16 := by kernel_rfl
theorem place_info : (Tryd.prog.info? 113).map (·.size) = some placeV.length := by kernel_rfl
theorem getD_set (l : List Nat) (i j x : Nat) (hi : i < l.length) : (l.set i x).getD j 0 = if j = i then x else l.getD j 0 := by
  simp only [List.getD_eq_getElem?_getD, List.getElem?_set]
  by_cases h : j = i
  · subst h
    rw [if_pos rfl, if_pos rfl, if_pos hi]
    rfl
  · rw [if_neg (Ne.symm h), if_neg h]
theorem sv_of_row {w : World} {g : Nat} {l : List Nat} (h : w.rowIs g 57 16 (fun j => .int .i64 (l.getD j 0 : Nat))) : w.heap[g]? = some (.cells (sv l) 57 (0, 0)) := by
  obtain ⟨c, h1, _, h3⟩ := rowIs_block h
  rw [h1, h3]
  rfl
theorem row16_set {w : World} {g : Nat} {l : List Nat} (h : w.rowIs g 57 16 (fun j => .int .i64 (l.getD j 0 : Nat))) (hl : l.length = 16) (i x : Nat) (hi : i < 16) :
    (w.setCell ⟨g, i, none⟩ (.int .i64 (x : Nat))).rowIs g 57 16 (fun j => .int .i64 ((l.set i x).getD j 0 : Nat)) :=
  (h.set i _).congr fun j _ => by
    rw [getD_set _ _ _ _ (by omega)]
    split <;> rfl
theorem row16_put4 {w : World} {g : Nat} {l : List Nat} (h : w.rowIs g 57 16 (fun j => .int .i64 (l.getD j 0 : Nat))) (hl : l.length = 16) (p q r s : Nat) (hp : p < 16) (hq : q < 16) (hr : r < 16) (hs : s < 16) (t : W4) :
    ((((w.setCell ⟨g, p, none⟩ (.int .i64 (t.a : Nat))).setCell ⟨g, q, none⟩ (.int .i64 (t.b : Nat))).setCell ⟨g, r, none⟩ (.int .i64 (t.c : Nat))).setCell ⟨g, s, none⟩ (.int .i64 (t.d : Nat))).rowIs g 57 16 (fun j => .int .i64 ((put4 l p q r s t).getD j 0 : Nat)) :=
  row16_set (row16_set (row16_set (row16_set h hl p t.a hp) (by simpa using hl) q t.b hq) (by simpa using hl) r t.c hr) (by simpa using hl) s t.d hs
abbrev Four (w : World) (G : Nat) (p q r s : Nat) : Prop := w.cell? ⟨G, 0, none⟩ = some (.int .i64 p) ∧ w.cell? ⟨G, 1, none⟩ = some (.int .i64 q) ∧ w.cell? ⟨G, 2, none⟩ = some (.int .i64 r) ∧ w.cell? ⟨G, 3, none⟩ = some (.int .i64 s)
theorem Four.new (w : World) (t : TypeId) (p q r s : Nat) : Four (w.alloc (.cells #[.int .i64 (p : Nat), .int .i64 (q : Nat), .int .i64 (r : Nat), .int .i64 (s : Nat)] t)) w.heap.size p q r s :=
  have h := fun j => cell_of_row (w.alloc (.cells #[.int .i64 (p : Nat), .int .i64 (q : Nat), .int .i64 (r : Nat), .int .i64 (s : Nat)] t)) w.heap.size j _ t (0, 0) (heap_alloc_new w _)
  ⟨h 0, h 1, h 2, h 3⟩
theorem cells_keep {w w' : World} {g p q r s : Nat} {x y z u : Value} (h : w.cell? ⟨g, p, none⟩ = some x ∧ w.cell? ⟨g, q, none⟩ = some y ∧ w.cell? ⟨g, r, none⟩ = some z ∧ w.cell? ⟨g, s, none⟩ = some u) (hg : g < w.heap.size) (hb : Below w.heap.size w w') :
    w'.cell? ⟨g, p, none⟩ = some x ∧ w'.cell? ⟨g, q, none⟩ = some y ∧ w'.cell? ⟨g, r, none⟩ = some z ∧ w'.cell? ⟨g, s, none⟩ = some u :=
  ⟨(hb.cell (p := ⟨g, p, none⟩) hg).trans h.1, (hb.cell (p := ⟨g, q, none⟩) hg).trans h.2.1, (hb.cell (p := ⟨g, r, none⟩) hg).trans h.2.2.1, (hb.cell (p := ⟨g, s, none⟩) hg).trans h.2.2.2⟩
theorem cells_set {w : World} {g p q r s B j : Nat} {x y z u v : Value} (h : w.cell? ⟨g, p, none⟩ = some x ∧ w.cell? ⟨g, q, none⟩ = some y ∧ w.cell? ⟨g, r, none⟩ = some z ∧ w.cell? ⟨g, s, none⟩ = some u) (hne : g ≠ B) :
    (w.setCell ⟨B, j, none⟩ v).cell? ⟨g, p, none⟩ = some x ∧ (w.setCell ⟨B, j, none⟩ v).cell? ⟨g, q, none⟩ = some y ∧ (w.setCell ⟨B, j, none⟩ v).cell? ⟨g, r, none⟩ = some z ∧ (w.setCell ⟨B, j, none⟩ v).cell? ⟨g, s, none⟩ = some u := by
  have e : ∀ o, (w.setCell ⟨B, j, none⟩ v).cell? ⟨g, o, none⟩ = w.cell? ⟨g, o, none⟩ := fun o => World.cell?_setCell_other _ _ _ _ (by rintro h; exact hne (congrArg Addr.block h).symm)
  rw [e, e, e, e]
  exact h

set_option maxRecDepth 100000 in
set_option maxHeartbeats 1000000 in
theorem turned_any (l : List Nat) (hl : okL l) (d : Array Value) (hd : d = sv l) (w : World) (hK : Places w) :
    Calls Tryd.prog 49 #[.agg d] w fun e w' => e = .returned (.agg (sv (turnL l))) ∧ Below w.heap.size w w' := by
  have s16 : d.size = 16 := by rw [hd, sv_size]
  have hr0 := World.rowIs_alloc w d 57 (fun j => .int .i64 (l.getD j 0 : Nat)) (fun j hj => by rw [hd]; exact rowA_at _ _ _ _ (by omega))
  rw [s16] at hr0
  have HR0 := Lib.hid hr0
  have HD := Lib.hid hd
  clear hr0 hd
  obtain ⟨cK, hcK⟩ : ∃ c, c = placeV := ⟨_, rfl⟩
  have hlK : (Tryd.prog.info? 113).map (·.size) = some cK.length := by rw [hcK]; exact place_info
  have hgK : w.rangeAt 0 0 cK := by rw [hcK]; exact hK
  have HIX : Hid (∀ (k : Nat), k < 8 → ∀ V, (Instr.index 113 (.agg cK.toArray) (.int .i64 (k : Int))).run Tryd.prog V = .ok (.agg #[.int .i64 (placeAt k 0 : Nat), .int .i64 (placeAt k 1 : Nat), .int .i64 (placeAt k 2 : Nat), .int .i64 (placeAt k 3 : Nat)]) V) :=
    Lib.hid (by rw [hcK]; exact place_index)
  have hgK2 : ∀ o1 o2, ((w.alloc o1).alloc o2).rangeAt 0 0 cK := fun o1 o2 => World.rangeAt_alloc (World.rangeAt_alloc hgK o1) o2
  clear hcK hK
  go_enter Tryd.func49, Tryd.ntmps49
  go_wp2_with (refine wpList_load_mid rfl _ _ rfl 0 0 rfl cK _ (hgK2 _ _) Tryd.underlying113 rfl hlK ?_)
  have hr0 := HR0.out.alloc (.cells (rowA .i64 16 fun _ => 0) 57)
  have hr1 := rowIs_new (w := w.alloc (.cells d 57)) (t := 57) (n := 16) (z := .int .i64 0) (c := rowA .i64 16 fun _ => 0) rfl
  rw [World.size_alloc] at hr1
  have hbw := ((Below.refl w.heap.size w).alloc (Nat.le_refl _) (.cells d 57)).alloc (by simp) (.cells (rowA .i64 16 fun _ => 0) 57)
  clear hlK hgK hgK2 HR0
  go_loopw [4, 6] (fun _ i wr => ∃ k : Nat, k ≤ 8 ∧ i = .int .i64 k ∧ wr.rowIs w.heap.size 57 16 (fun j => .int .i64 ((turnN l k).getD j 0 : Nat)) ∧ wr.rowIs (w.heap.size + 1) 57 16 (fun _ => .int .i64 0) ∧ Below w.heap.size w wr) (fun _ i _ => 8 - (intOf i).toNat)
  case atStart => exact ⟨0, by omega, rfl, hr0, hr1, hbw⟩
  case round =>
    clear hr0 hr1 hbw
    obtain ⟨k, hk, rfl, hr0, hr1, hb⟩ := hrel
    have hok := okL_turnN hl k
    by_cases hlt : k < 8
    · have hix := HIX.out k hlt
      have HS := Lib.hid (show turnN l (k + 1) = stepT (turnN l k) (placeAt k 0) (placeAt k 1) (placeAt k 2) (placeAt k 3) from rfl)
      have lp := placeAt_lt k 0 hlt (by omega)
      have lq := placeAt_lt k 1 hlt (by omega)
      have lr := placeAt_lt k 2 hlt (by omega)
      have ls := placeAt_lt k 3 hlt (by omega)
      generalize placeAt k 0 = p at *
      generalize placeAt k 1 = q at *
      generalize placeAt k 2 = r at *
      generalize placeAt k 3 = s at *
      generalize turnN l k = m at *
      have lx := okL_at hok p
      have ly := okL_at hok q
      have lz := okL_at hok r
      have lu := okL_at hok s
      have HS2 : Hid (turnN l (k + 1) = put4 m p q r s (turnW (m.getD p 0) (m.getD q 0) (m.getD r 0) (m.getD s 0))) := Lib.hid HS.out
      clear HS
      generalize ex : m.getD p 0 = x at *
      generalize ey : m.getD q 0 = y at *
      generalize ez : m.getD r 0 = z at *
      generalize eu : m.getD s 0 = u at *
      generalize ht : turnW x y z u = t at *
      have HT : Hid (∀ V : World, Calls Tryd.prog 70 #[.int .i64 x, .int .i64 y, .int .i64 z, .int .i64 u] V fun e w' => e = .returned (.tuple #[.int .i64 t.a, .int .i64 t.b, .int .i64 t.c, .int .i64 t.d, .bool true]) ∧ Below V.heap.size V w') :=
        Lib.hid fun V => turn_any x y z u lx ly lz lu t ht V
      have HOK := Lib.hid hok.1
      have HE := Lib.hid (And.intro ex (And.intro ey (And.intro ez eu)))
      clear ht lx ly lz lu hok ex ey ez eu
      have p0 : (0 : Int) ≤ (p : Int) := by omega
      have q0 : (0 : Int) ≤ (q : Int) := by omega
      have r0 : (0 : Int) ≤ (r : Int) := by omega
      have s0 : (0 : Int) ≤ (s : Int) := by omega
      have p1 : (p : Int) < 16 := by omega
      have q1 : (q : Int) < 16 := by omega
      have r1 : (r : Int) < 16 := by omega
      have s1 : (s : Int) < 16 := by omega
      go_wp2_with fail
      have hr0V := hr0.alloc (.cells #[.int .i64 (p : Nat), .int .i64 (q : Nat), .int .i64 (r : Nat), .int .i64 (s : Nat)] 112)
      have hr1V := hr1.alloc (.cells #[.int .i64 (p : Nat), .int .i64 (q : Nat), .int .i64 (r : Nat), .int .i64 (s : Nat)] 112)
      have hbV := hb.alloc hb.size (.cells #[.int .i64 (p : Nat), .int .i64 (q : Nat), .int .i64 (r : Nat), .int .i64 (s : Nat)] 112)
      have hG := Four.new wr 112 p q r s
      have hGl : wr.heap.size < (wr.alloc (.cells #[.int .i64 (p : Nat), .int .i64 (q : Nat), .int .i64 (r : Nat), .int .i64 (s : Nat)] 112)).heap.size := by simp
      have hne : wr.heap.size ≠ w.heap.size := by have := hr1.lt; omega
      clear hr0 hr1 hb hix
      generalize wr.heap.size = G at *
      generalize wr.alloc _ = V at *
      have cp := hr0V.cell (i := p) lp
      have cq := hr0V.cell (i := q) lq
      have cr := hr0V.cell (i := r) lr
      have cs := hr0V.cell (i := s) ls
      rw [HE.out.1] at cp
      rw [HE.out.2.1] at cq
      rw [HE.out.2.2.1] at cr
      rw [HE.out.2.2.2] at cs
      have hST : Four V.drew G p q r s ∧ (V.drew.cell? ⟨w.heap.size, p, none⟩ = some (.int .i64 x) ∧ V.drew.cell? ⟨w.heap.size, q, none⟩ = some (.int .i64 y) ∧ V.drew.cell? ⟨w.heap.size, r, none⟩ = some (.int .i64 z) ∧ V.drew.cell? ⟨w.heap.size, s, none⟩ = some (.int .i64 u)) := ⟨hG, cp, cq, cr, cs⟩
      clear cp cq cr cs hG
      have hr0D := hr0V.drew
      have hr1D := hr1V.drew
      have hbD := hbV.drew
      have hGD : G < V.drew.heap.size := hGl
      refine Uptot.begin_ [32, 34, 36, 38] (fun w' : World => w'.cell? ⟨G, 0, none⟩ = some (.int .i64 p) ∧ w'.cell? ⟨G, 1, none⟩ = some (.int .i64 q) ∧ w'.cell? ⟨G, 2, none⟩ = some (.int .i64 r) ∧ w'.cell? ⟨G, 3, none⟩ = some (.int .i64 s))
        (fun w' : World => w'.cell? ⟨w.heap.size, p, none⟩ = some (.int .i64 x) ∧ w'.cell? ⟨w.heap.size, q, none⟩ = some (.int .i64 y) ∧ w'.cell? ⟨w.heap.size, r, none⟩ = some (.int .i64 z) ∧ w'.cell? ⟨w.heap.size, s, none⟩ = some (.int .i64 u)) (by kernel_rfl) ?_
      clear hr0V hr1V hbV hGl
      generalize V.drew = V2 at *
      refine Uptot.takeS (i := 0) (v := ?_) rfl (by kernel_rfl) (by kernel_rfl) (by kernel_rfl) (by kernel_rfl) (fun _ _ _ h => h) (Or.inl ⟨by rfl, ?_⟩) hST ?_
      rotate_left 1
      · intro w9 hSw; (try dsimp only at hSw); go_simp; (try with_reducible rfl)
      try simp only [Act.put, List.setIfInBounds_toArray, List.set_cons_zero, List.set_cons_succ]
      refine Uptot.takeS (i := 2) (v := ?_) rfl (by kernel_rfl) (by kernel_rfl) (by kernel_rfl) (by kernel_rfl) (fun _ _ _ h => h) (Or.inl ⟨by rfl, ?_⟩) hST ?_
      rotate_left 1
      · intro w9 hSw; (try dsimp only at hSw); go_simp; (try with_reducible rfl)
      try simp only [Act.put, List.setIfInBounds_toArray, List.set_cons_zero, List.set_cons_succ]
      refine Uptot.takeS (i := 4) (v := ?_) rfl (by kernel_rfl) (by kernel_rfl) (by kernel_rfl) (by kernel_rfl) (fun _ _ _ h => h) (Or.inl ⟨by rfl, ?_⟩) hST ?_
      rotate_left 1
      · intro w9 hSw; (try dsimp only at hSw); go_simp; (try with_reducible rfl)
      try simp only [Act.put, List.setIfInBounds_toArray, List.set_cons_zero, List.set_cons_succ]
      refine Uptot.takeS (i := 6) (v := ?_) rfl (by kernel_rfl) (by kernel_rfl) (by kernel_rfl) (by kernel_rfl) (fun _ _ _ h => h) (Or.inl ⟨by rfl, ?_⟩) hST ?_
      rotate_left 1
      · intro w9 hSw; (try dsimp only at hSw); go_simp; (try with_reducible rfl)
      try simp only [Act.put, List.setIfInBounds_toArray, List.set_cons_zero, List.set_cons_succ]
      refine Uptot.takeS (i := 8) (v := ?_) rfl (by kernel_rfl) (by kernel_rfl) (by kernel_rfl) (by kernel_rfl) (fun _ _ _ h => h) (Or.inl ⟨by rfl, ?_⟩) hST ?_
      rotate_left 1
      · intro w9 hSw; (try dsimp only at hSw); go_simp; (try with_reducible rfl)
      try simp only [Act.put, List.setIfInBounds_toArray, List.set_cons_zero, List.set_cons_succ]
      refine Uptot.takeS (i := 12) (v := ?_) rfl (by kernel_rfl) (by kernel_rfl) (by kernel_rfl) (by kernel_rfl) (fun _ _ _ h => h) (Or.inl ⟨by rfl, ?_⟩) hST ?_
      rotate_left 1
      · intro w9 hSw; (try dsimp only at hSw); go_simp; (try with_reducible rfl)
      try simp only [Act.put, List.setIfInBounds_toArray, List.set_cons_zero, List.set_cons_succ]
      refine Uptot.takeS (i := 16) (v := ?_) rfl (by kernel_rfl) (by kernel_rfl) (by kernel_rfl) (by kernel_rfl) (fun _ _ _ h => h) (Or.inl ⟨by rfl, ?_⟩) hST ?_
      rotate_left 1
      · intro w9 hSw; (try dsimp only at hSw); go_simp; (try with_reducible rfl)
      try simp only [Act.put, List.setIfInBounds_toArray, List.set_cons_zero, List.set_cons_succ]
      refine Uptot.takeS (i := 20) (v := ?_) rfl (by kernel_rfl) (by kernel_rfl) (by kernel_rfl) (by kernel_rfl) (fun _ _ _ h => h) (Or.inl ⟨by rfl, ?_⟩) hST ?_
      rotate_left 1
      · intro w9 hSw; (try dsimp only at hSw); go_simp; (try with_reducible rfl)
      try simp only [Act.put, List.setIfInBounds_toArray, List.set_cons_zero, List.set_cons_succ]
      refine Uptot.takeS (i := 1) (v := ?_) rfl (by kernel_rfl) (by kernel_rfl) (by kernel_rfl) (by kernel_rfl) (fun _ _ _ h => h) (Or.inl ⟨by rfl, ?_⟩) hST ?_
      rotate_left 1
      · intro w9 hSw; (try dsimp only at hSw); go_simp; (try with_reducible rfl)
      try simp only [Act.put, List.setIfInBounds_toArray, List.set_cons_zero, List.set_cons_succ]
      refine Uptot.takeS (i := 3) (v := ?_) rfl (by kernel_rfl) (by kernel_rfl) (by kernel_rfl) (by kernel_rfl) (fun _ _ _ h => h) (Or.inl ⟨by rfl, ?_⟩) hST ?_
      rotate_left 1
      · intro w9 hSw; (try dsimp only at hSw); go_simp; (try with_reducible rfl)
      try simp only [Act.put, List.setIfInBounds_toArray, List.set_cons_zero, List.set_cons_succ]
      refine Uptot.takeS (i := 5) (v := ?_) rfl (by kernel_rfl) (by kernel_rfl) (by kernel_rfl) (by kernel_rfl) (fun _ _ _ h => h) (Or.inl ⟨by rfl, ?_⟩) hST ?_
      rotate_left 1
      · intro w9 hSw; (try dsimp only at hSw); go_simp; (try with_reducible rfl)
      try simp only [Act.put, List.setIfInBounds_toArray, List.set_cons_zero, List.set_cons_succ]
      refine Uptot.takeS (i := 7) (v := ?_) rfl (by kernel_rfl) (by kernel_rfl) (by kernel_rfl) (by kernel_rfl) (fun _ _ _ h => h) (Or.inl ⟨by rfl, ?_⟩) hST ?_
      rotate_left 1
      · intro w9 hSw; (try dsimp only at hSw); go_simp; (try with_reducible rfl)
      try simp only [Act.put, List.setIfInBounds_toArray, List.set_cons_zero, List.set_cons_succ]
      refine Uptot.takeS (i := 9) (v := ?_) rfl (by kernel_rfl) (by kernel_rfl) (by kernel_rfl) (by kernel_rfl) (fun _ _ _ h => h) (Or.inl ⟨by rfl, ?_⟩) hST ?_
      rotate_left 1
      · intro w9 hSw; (try dsimp only at hSw); go_simp; (try with_reducible rfl)
      try simp only [Act.put, List.setIfInBounds_toArray, List.set_cons_zero, List.set_cons_succ]
      refine Uptot.takeS (i := 13) (v := ?_) rfl (by kernel_rfl) (by kernel_rfl) (by kernel_rfl) (by kernel_rfl) (fun _ _ _ h => h) (Or.inl ⟨by rfl, ?_⟩) hST ?_
      rotate_left 1
      · intro w9 hSw; (try dsimp only at hSw); go_simp; (try with_reducible rfl)
      try simp only [Act.put, List.setIfInBounds_toArray, List.set_cons_zero, List.set_cons_succ]
      refine Uptot.takeS (i := 17) (v := ?_) rfl (by kernel_rfl) (by kernel_rfl) (by kernel_rfl) (by kernel_rfl) (fun _ _ _ h => h) (Or.inl ⟨by rfl, ?_⟩) hST ?_
      rotate_left 1
      · intro w9 hSw; (try dsimp only at hSw); go_simp; (try with_reducible rfl)
      try simp only [Act.put, List.setIfInBounds_toArray, List.set_cons_zero, List.set_cons_succ]
      refine Uptot.takeS (i := 21) (v := ?_) rfl (by kernel_rfl) (by kernel_rfl) (by kernel_rfl) (by kernel_rfl) (fun _ _ _ h => h) (Or.inl ⟨by rfl, ?_⟩) hST ?_
      rotate_left 1
      · intro w9 hSw; (try dsimp only at hSw); go_simp; (try with_reducible rfl)
      try simp only [Act.put, List.setIfInBounds_toArray, List.set_cons_zero, List.set_cons_succ]
      refine Uptot.takeS (i := 10) (v := ?_) rfl (by kernel_rfl) (by kernel_rfl) (by kernel_rfl) (by kernel_rfl) (fun _ _ _ h => h) (Or.inl ⟨by rfl, ?_⟩) hST ?_
      rotate_left 1
      · intro w9 hSw; (try dsimp only at hSw); go_simp; (try with_reducible rfl)
      try simp only [Act.put, List.setIfInBounds_toArray, List.set_cons_zero, List.set_cons_succ]
      refine Uptot.takeS (i := 14) (v := ?_) rfl (by kernel_rfl) (by kernel_rfl) (by kernel_rfl) (by kernel_rfl) (fun _ _ _ h => h) (Or.inl ⟨by rfl, ?_⟩) hST ?_
      rotate_left 1
      · intro w9 hSw; (try dsimp only at hSw); go_simp; (try with_reducible rfl)
      try simp only [Act.put, List.setIfInBounds_toArray, List.set_cons_zero, List.set_cons_succ]
      refine Uptot.takeS (i := 18) (v := ?_) rfl (by kernel_rfl) (by kernel_rfl) (by kernel_rfl) (by kernel_rfl) (fun _ _ _ h => h) (Or.inl ⟨by rfl, ?_⟩) hST ?_
      rotate_left 1
      · intro w9 hSw; (try dsimp only at hSw); go_simp; (try with_reducible rfl)
      try simp only [Act.put, List.setIfInBounds_toArray, List.set_cons_zero, List.set_cons_succ]
      refine Uptot.takeS (i := 22) (v := ?_) rfl (by kernel_rfl) (by kernel_rfl) (by kernel_rfl) (by kernel_rfl) (fun _ _ _ h => h) (Or.inl ⟨by rfl, ?_⟩) hST ?_
      rotate_left 1
      · intro w9 hSw; (try dsimp only at hSw); go_simp; (try with_reducible rfl)
      try simp only [Act.put, List.setIfInBounds_toArray, List.set_cons_zero, List.set_cons_succ]
      refine Uptot.take (i := 11) (v := ?_) rfl (by kernel_rfl) (by kernel_rfl) (by kernel_rfl) (by kernel_rfl) (fun _ _ _ h => h) (Or.inl ⟨by rfl, ?_⟩) hST ?_
      rotate_left 1
      · intro w9 hSw; (try dsimp only at hSw); go_simp; (try with_reducible rfl)
      try simp only [Act.put, List.setIfInBounds_toArray, List.set_cons_zero, List.set_cons_succ]
      refine Uptot.take (i := 15) (v := ?_) rfl (by kernel_rfl) (by kernel_rfl) (by kernel_rfl) (by kernel_rfl) (fun _ _ _ h => h) (Or.inl ⟨by rfl, ?_⟩) hST ?_
      rotate_left 1
      · intro w9 hSw; (try dsimp only at hSw); go_simp; (try with_reducible rfl)
      try simp only [Act.put, List.setIfInBounds_toArray, List.set_cons_zero, List.set_cons_succ]
      refine Uptot.take (i := 19) (v := ?_) rfl (by kernel_rfl) (by kernel_rfl) (by kernel_rfl) (by kernel_rfl) (fun _ _ _ h => h) (Or.inl ⟨by rfl, ?_⟩) hST ?_
      rotate_left 1
      · intro w9 hSw; (try dsimp only at hSw); go_simp; (try with_reducible rfl)
      try simp only [Act.put, List.setIfInBounds_toArray, List.set_cons_zero, List.set_cons_succ]
      refine Uptot.take (i := 23) (v := ?_) rfl (by kernel_rfl) (by kernel_rfl) (by kernel_rfl) (by kernel_rfl) (fun _ _ _ h => h) (Or.inl ⟨by rfl, ?_⟩) hST ?_
      rotate_left 1
      · intro w9 hSw; (try dsimp only at hSw); go_simp; (try with_reducible rfl)
      try simp only [Act.put, List.setIfInBounds_toArray, List.set_cons_zero, List.set_cons_succ]
      refine Uptot.one (i := 24) rfl (by kernel_rfl) (fun K hK => ?_)
      go_simp
      go_at_call 70
      refine (HT.out _).mono ?_
      rintro e' w2 ⟨rfl, hb2⟩
      have hlt0 := hr0D.lt
      have hST2 := And.intro (cells_keep hST.1 hGD hb2) (cells_keep hST.2 hlt0 hb2)
      have hr02 := rowIs_keep hr0D hb2
      have hr12 := rowIs_keep hr1D hb2
      have hbw2 := hbD.next' hb2
      have df := hr02.frozen
      refine hK.out _ _ (Cond.ahead hST2) ?_
      clear hK K hST hr0D hr1D hbD hb2
      try simp only [Act.put, List.setIfInBounds_toArray, List.set_cons_zero, List.set_cons_succ]
      refine Uptot.takeS (i := 25) (v := ?_) rfl (by kernel_rfl) (by kernel_rfl) (by kernel_rfl) (by kernel_rfl) (fun _ _ _ h => h) (Or.inl ⟨by rfl, ?_⟩) hST2 ?_
      rotate_left 1
      · intro w9 hSw; (try dsimp only at hSw); go_simp; (try with_reducible rfl)
      try simp only [Act.put, List.setIfInBounds_toArray, List.set_cons_zero, List.set_cons_succ]
      refine Uptot.takeS (i := 26) (v := ?_) rfl (by kernel_rfl) (by kernel_rfl) (by kernel_rfl) (by kernel_rfl) (fun _ _ _ h => h) (Or.inl ⟨by rfl, ?_⟩) hST2 ?_
      rotate_left 1
      · intro w9 hSw; (try dsimp only at hSw); go_simp; (try with_reducible rfl)
      try simp only [Act.put, List.setIfInBounds_toArray, List.set_cons_zero, List.set_cons_succ]
      refine Uptot.takeS (i := 27) (v := ?_) rfl (by kernel_rfl) (by kernel_rfl) (by kernel_rfl) (by kernel_rfl) (fun _ _ _ h => h) (Or.inl ⟨by rfl, ?_⟩) hST2 ?_
      rotate_left 1
      · intro w9 hSw; (try dsimp only at hSw); go_simp; (try with_reducible rfl)
      try simp only [Act.put, List.setIfInBounds_toArray, List.set_cons_zero, List.set_cons_succ]
      refine Uptot.takeS (i := 28) (v := ?_) rfl (by kernel_rfl) (by kernel_rfl) (by kernel_rfl) (by kernel_rfl) (fun _ _ _ h => h) (Or.inl ⟨by rfl, ?_⟩) hST2 ?_
      rotate_left 1
      · intro w9 hSw; (try dsimp only at hSw); go_simp; (try with_reducible rfl)
      try simp only [Act.put, List.setIfInBounds_toArray, List.set_cons_zero, List.set_cons_succ]
      refine Uptot.takeS (i := 29) (v := ?_) rfl (by kernel_rfl) (by kernel_rfl) (by kernel_rfl) (by kernel_rfl) (fun _ _ _ h => h) (Or.inl ⟨by rfl, ?_⟩) hST2 ?_
      rotate_left 1
      · intro w9 hSw; (try dsimp only at hSw); go_simp; (try with_reducible rfl)
      try simp only [Act.put, List.setIfInBounds_toArray, List.set_cons_zero, List.set_cons_succ]
      refine Uptot.takeS (i := 30) (v := ?_) rfl (by kernel_rfl) (by kernel_rfl) (by kernel_rfl) (by kernel_rfl) (fun _ _ _ h => h) (Or.inl ⟨by rfl, ?_⟩) hST2 ?_
      rotate_left 1
      · intro w9 hSw; (try dsimp only at hSw); go_simp; (try with_reducible rfl)
      try simp only [Act.put, List.setIfInBounds_toArray, List.set_cons_zero, List.set_cons_succ]
      refine Uptot.takeS (i := 31) (v := ?_) rfl (by kernel_rfl) (by kernel_rfl) (by kernel_rfl) (by kernel_rfl) (fun _ _ _ h => h) (Or.inl ⟨by rfl, ?_⟩) hST2 ?_
      rotate_left 1
      · intro w9 hSw; (try dsimp only at hSw); go_simp; (try with_reducible rfl)
      try simp only [Act.put, List.setIfInBounds_toArray, List.set_cons_zero, List.set_cons_succ]
      have hS2 := hST2.1
      have hl2 := HOK.out
      clear hST2 df
      refine Uptot.one (i := 32) rfl (by kernel_rfl) (fun K hK => ?_)
      have cc := hr02.cell (i := p) lp
      have df := hr02.frozen p
      go_simp
      refine hK.out _ _ (Cond.behind (cells_set hS2 hne) (by kernel_rfl)) ?_
      clear hK K cc df
      try simp only [Act.put, List.setIfInBounds_toArray, List.set_cons_zero, List.set_cons_succ]
      have hr03 := row16_set hr02 hl2 p t.a lp
      have hr13 := hr12.setOther (a := ⟨w.heap.size, p, none⟩) (by simp) (.int .i64 (t.a : Nat))
      have hbw3 := hbw2.setCell (p := ⟨w.heap.size, p, none⟩) (Nat.le_refl _) (.int .i64 (t.a : Nat))
      have hS3 := cells_set (B := w.heap.size) (j := p) (v := .int .i64 (t.a : Nat)) hS2 hne
      have hl3 : (m.set p t.a).length = 16 := by rw [List.length_set]; exact hl2
      clear hr02 hr12 hbw2 hS2 hl2
      generalize w2.setCell _ _ = w3 at *
      refine Uptot.one (i := 33) rfl (by kernel_rfl) (fun K hK => ?_)
      go_simp
      refine hK.out _ _ (Cond.behind hS3 (by kernel_rfl)) ?_
      clear hK K
      try simp only [Act.put, List.setIfInBounds_toArray, List.set_cons_zero, List.set_cons_succ]
      refine Uptot.one (i := 34) rfl (by kernel_rfl) (fun K hK => ?_)
      have cc := hr03.cell (i := q) lq
      have df := hr03.frozen q
      go_simp
      refine hK.out _ _ (Cond.behind (cells_set hS3 hne) (by kernel_rfl)) ?_
      clear hK K cc df
      try simp only [Act.put, List.setIfInBounds_toArray, List.set_cons_zero, List.set_cons_succ]
      have hr04 := row16_set hr03 hl3 q t.b lq
      have hr14 := hr13.setOther (a := ⟨w.heap.size, q, none⟩) (by simp) (.int .i64 (t.b : Nat))
      have hbw4 := hbw3.setCell (p := ⟨w.heap.size, q, none⟩) (Nat.le_refl _) (.int .i64 (t.b : Nat))
      have hS4 := cells_set (B := w.heap.size) (j := q) (v := .int .i64 (t.b : Nat)) hS3 hne
      have hl4 : ((m.set p t.a).set q t.b).length = 16 := by rw [List.length_set]; exact hl3
      clear hr03 hr13 hbw3 hS3 hl3
      generalize w3.setCell _ _ = w4 at *
      refine Uptot.one (i := 35) rfl (by kernel_rfl) (fun K hK => ?_)
      go_simp
      refine hK.out _ _ (Cond.behind hS4 (by kernel_rfl)) ?_
      clear hK K
      try simp only [Act.put, List.setIfInBounds_toArray, List.set_cons_zero, List.set_cons_succ]
      refine Uptot.one (i := 36) rfl (by kernel_rfl) (fun K hK => ?_)
      have cc := hr04.cell (i := r) lr
      have df := hr04.frozen r
      go_simp
      refine hK.out _ _ (Cond.behind (cells_set hS4 hne) (by kernel_rfl)) ?_
      clear hK K cc df
      try simp only [Act.put, List.setIfInBounds_toArray, List.set_cons_zero, List.set_cons_succ]
      have hr05 := row16_set hr04 hl4 r t.c lr
      have hr15 := hr14.setOther (a := ⟨w.heap.size, r, none⟩) (by simp) (.int .i64 (t.c : Nat))
      have hbw5 := hbw4.setCell (p := ⟨w.heap.size, r, none⟩) (Nat.le_refl _) (.int .i64 (t.c : Nat))
      have hS5 := cells_set (B := w.heap.size) (j := r) (v := .int .i64 (t.c : Nat)) hS4 hne
      have hl5 : (((m.set p t.a).set q t.b).set r t.c).length = 16 := by rw [List.length_set]; exact hl4
      clear hr04 hr14 hbw4 hS4 hl4
      generalize w4.setCell _ _ = w5 at *
      refine Uptot.one (i := 37) rfl (by kernel_rfl) (fun K hK => ?_)
      go_simp
      refine hK.out _ _ (Cond.behind hS5 (by kernel_rfl)) ?_
      clear hK K
      try simp only [Act.put, List.setIfInBounds_toArray, List.set_cons_zero, List.set_cons_succ]
      refine Uptot.one (i := 38) rfl (by kernel_rfl) (fun K hK => ?_)
      have cc := hr05.cell (i := s) ls
      have df := hr05.frozen s
      go_simp
      refine hK.out _ _ (Cond.behind (cells_set hS5 hne) (by kernel_rfl)) ?_
      clear hK K cc df
      try simp only [Act.put, List.setIfInBounds_toArray, List.set_cons_zero, List.set_cons_succ]
      have hr06 := row16_set hr05 hl5 s t.d ls
      have hr16 := hr15.setOther (a := ⟨w.heap.size, s, none⟩) (by simp) (.int .i64 (t.d : Nat))
      have hbw6 := hbw5.setCell (p := ⟨w.heap.size, s, none⟩) (Nat.le_refl _) (.int .i64 (t.d : Nat))
      have hS6 := cells_set (B := w.heap.size) (j := s) (v := .int .i64 (t.d : Nat)) hS5 hne
      have hl6 : ((((m.set p t.a).set q t.b).set r t.c).set s t.d).length = 16 := by rw [List.length_set]; exact hl5
      clear hr05 hr15 hbw5 hS5 hl5
      generalize w5.setCell _ _ = w6 at *
      refine Uptot.done (by kernel_rfl) ?_ _
      go_wp2
      go_roundw
      case rel => exact ⟨k + 1, by omega, by go_num, by rw [HS2.out]; exact hr06, hr16, hbw6⟩
      case measure => simp [intOf]; omega
    · obtain rfl : k = 8 := by omega
      have hinf : (Tryd.prog.info? 57).map (·.size) = some (sv (turnN l 8)).size := by rw [sv_size]; exact sv_info
      have h1 := sv_of_row hr0
      obtain ⟨c0, h2, hcs0, _⟩ := rowIs_block hr1
      have hold : c0.size = (sv (turnN l 8)).size := by rw [sv_size]; exact hcs0
      have hall : (sv (turnN l 8)).all (·.oneCell') = true := all_one_ints (k := .i64) (g := fun j => ((turnN l 8).getD j 0 : Nat)) (n := 16) rfl
      obtain ⟨dd, hdd⟩ : ∃ x, x = sv (turnN l 8) := ⟨_, rfl⟩
      rw [← hdd] at hinf h1 hold hall
      have HDD := Lib.hid hdd
      clear hdd
      go_wp2_with (first
        | (refine wpList_load_row rfl _ _ rfl w.heap.size rfl _ _ _ _ h1 Tryd.underlying57 rfl hinf ?_)
        | (refine wpList_store_row rfl _ _ _ rfl (w.heap.size + 1) _ rfl rfl _ _ h2 hinf hold hall ?_))
      refine bodyPost_ret (v := .agg dd) (results_cell_row rfl _ _ (w.heap.size + 1) _ _ _ _ rfl (setRow_heap _ _ _ _ _ _ h2) Tryd.underlying57 rfl hinf) rfl ⟨by rw [HDD.out]; rfl, hb.setRow (by omega) _⟩
end Go.Proofs.YtlkdofghhibmbaaDoor
