/-
  share: the contract of apart.
-/
import Derived.Test.YtljckcegcfidoaaShr4
import Derived.Test.YtljckcegcfidoaaInfo
import Derived.Test.YtljckcegcfidoaaUptot
import Derived.Test.YtljckcegcfidoaaStil
import Derived.Test.YtljckcegcfidoaaShr3
import Derived.Deep.Cut
namespace Go.Proofs.Ytljckcegcfidoaa
open Go.RowKit Go.Kx
set_option maxRecDepth 20000

/-- The X while they are filled. -/
def xsF (l : List Sh) (k j : Nat) : Value := .int .i64 (if j < k then (l.getD j sh0).1 else 0)
theorem xsF_set (l : List Sh) (k j : Nat) : (if j = k then Value.int .i64 (l.getD k sh0).1 else xsF l k j) = xsF l (k + 1) j := by
  unfold xsF
  by_cases h : j = k
  · subst h; simp
  · rw [if_neg h]
    by_cases h2 : j < k
    · rw [if_pos h2, if_pos (by omega)]
    · rw [if_neg h2, if_neg (by omega)]
theorem xsF_sl {l : List Sh} {w : World} {N : Nat} {t : TypeId} (h : w.rowIs N t l.length (xsF l l.length)) : Sl w (some ⟨N, 0, none⟩) (intsI (xsL l)) := by
  refine .inr ⟨N, 0, rfl, h.lt, fun j u hu => ?_⟩
  obtain ⟨x, hx, rfl⟩ := intsI_at hu
  have hj : j < l.length := by
    have := (List.getElem?_eq_some_iff.1 hx).1
    rwa [xsL_length] at this
  rw [Nat.zero_add, h.cell hj, xsF, if_pos hj]
  have := xsL_at l hj
  rw [List.getD, hx] at this
  rw [← this]
  rfl
/-- n rows in a block of their own. -/
def Rws (w : World) (M n : Nat) (F : Nat → Nat → Gf.G) : Prop := w.rowIs M 52 (n * 32) (fun q => .int .u8 ((F (q / 32) (q % 32)).v : Nat))
theorem Rws.keep {w w' : World} {M n : Nat} {F : Nat → Nat → Gf.G} (h : Rws w M n F) (hb : Below w.heap.size w w') : Rws w' M n F := rowIs_keep h hb
theorem Rws.lt {w : World} {M n : Nat} {F : Nat → Nat → Gf.G} (h : Rws w M n F) : M < w.heap.size := World.rowIs.lt h
theorem Rws.range {w : World} {M n : Nat} {F : Nat → Nat → Gf.G} (h : Rws w M n F) {i : Nat} (hi : i < n) : w.rangeAt M (i * 32) (rowV (F i)).toList := by
  intro j v hv
  have hj : j < 32 := by
    have := (List.getElem?_eq_some_iff.1 hv).1
    simpa [rowV_size] using this
  rw [Array.getElem?_toList, rowV_at _ hj] at hv
  rw [World.rowIs.cell h (i := i * 32 + j) (by omega)]
  show some (Value.int .u8 ((F ((i * 32 + j) / 32) ((i * 32 + j) % 32)).v : Nat)) = some v
  rw [show (i * 32 + j) / 32 = i by omega, show (i * 32 + j) % 32 = j by omega]
  exact hv
theorem Rws.there {w : World} {M n : Nat} {F : Nat → Nat → Gf.G} (h : Rws w M n F) {i : Nat} (hi : i < n) (d : Array Value) (hd : d.size = 32) : w.there M (i * 32) d.size := fun j hj => by
  rw [hd] at hj
  exact ⟨by rw [World.rowIs.cell h (i := i * 32 + j) (by omega)]; rfl, World.rowIs.frozen h _⟩
/-- One of the rows anew. -/
def putR (F : Nat → Nat → Gf.G) (i : Nat) (R : Nat → Gf.G) (i' j : Nat) : Gf.G := if i' = i then R j else F i' j
theorem Rws.put {w : World} {M n : Nat} {F : Nat → Nat → Gf.G} (h : Rws w M n F) (i : Nat) (R : Nat → Gf.G) : Rws (w.setCells M (i * 32) (rowV R).toList) M n (putR F i R) := by
  have h2 := Go.rowIs_setCells (rowV R).toList (i * 32) w _ h
  refine World.rowIs.congr h2 fun q _ => ?_
  have hl : (rowV R).toList.length = 32 := by simp [rowV_size]
  rw [hl]
  unfold putR
  by_cases hq : i * 32 ≤ q ∧ q < i * 32 + 32
  · rw [if_pos hq, if_pos (by omega), Array.getElem?_toList, rowV_at R (by omega)]
    show Value.int .u8 ((R (q - i * 32)).v : Nat) = _
    rw [show q % 32 = q - i * 32 by omega]
  · rw [if_neg hq, if_neg (by omega)]
theorem Rws.congr {w : World} {M n : Nat} {F G : Nat → Nat → Gf.G} (h : Rws w M n F) (e : ∀ i j, i < n → j < 32 → F i j = G i j) : Rws w M n G :=
  World.rowIs.congr h fun q hq => by rw [e _ _ (by omega) (by omega)]
theorem Rws.setOther {w : World} {M n : Nat} {F : Nat → Nat → Gf.G} (h : Rws w M n F) {N : Nat} (hne : M ≠ N) (o : Nat) (v : Value) : Rws (w.setCell ⟨N, o, none⟩ v) M n F := World.rowIs.setOther h (by exact hne) v
theorem made_rows0 (n : Nat) (w : World) : Rws (w.alloc (.cells (madeCells zero32 (n * 32)) 52)) w.heap.size n (fun _ _ => 0) :=
  World.rowIs.congr (made_rows (fun _ _ => 0) n w) fun q _ => by rw [fillF_zero]; rfl
/-- The rows while they are filled. -/
def apG (l : List Sh) (k i j : Nat) : Gf.G := if i < k then gOf (l.getD i sh0).2 j else 0
theorem apG_put (l : List Sh) (k i j : Nat) : putR (apG l k) k (gOf (l.getD k sh0).2) i j = apG l (k + 1) i j := by
  unfold putR apG
  by_cases h : i = k
  · subst h; simp
  · rw [if_neg h]
    by_cases h2 : i < k
    · rw [if_pos h2, if_pos (by omega)]
    · rw [if_neg h2, if_neg (by omega)]
/-- Bytes of the shares. -/
def bsG (l : List Sh) (i j : Nat) : Gf.G := gOf (l.getD i sh0).2 j
theorem made_xs (l : List Sh) (w : World) : (w.alloc (.cells (madeCells #[.int .i64 0] l.length) 3)).rowIs w.heap.size 3 l.length (xsF l 0) :=
  (World.rowIs_made w (.int .i64 0) l.length 3).congr fun j _ => by simp [xsF]
theorem made_ap (l : List Sh) (w : World) : Rws (w.alloc (.cells (madeCells zero32 (l.length * 32)) 52)) w.heap.size l.length (apG l 0) :=
  (made_rows0 l.length w).congr fun i j _ _ => by simp [apG]
theorem apart_ways (l : List Sh) (w V : World) (a b : Nat) (h : (a = w.heap.size ∧ b = w.heap.size + 1 ∧ V = ((w.alloc (.cells (madeCells #[.int .i64 0] l.length) 3)).alloc (.cells (madeCells zero32 (l.length * 32)) 52)).drew) ∨
    (a = w.heap.size + 1 ∧ b = w.heap.size ∧ V = ((w.alloc (.cells (madeCells zero32 (l.length * 32)) 52)).alloc (.cells (madeCells #[.int .i64 0] l.length) 3)).drew)) :
    ∃ N M, Value.slice (some ⟨a, 0, none⟩) l.length l.length = .slice (some ⟨N, 0, none⟩) l.length l.length ∧ Value.slice (some ⟨b, 0, none⟩) l.length l.length = .slice (some ⟨M, 0, none⟩) l.length l.length ∧ N ≠ M ∧ w.heap.size ≤ N ∧ w.heap.size ≤ M ∧ V.rowIs N 3 l.length (xsF l 0) ∧ Rws V M l.length (apG l 0) ∧ Below w.heap.size w V := by
  rcases h with ⟨rfl, rfl, rfl⟩ | ⟨rfl, rfl, rfl⟩
  · refine ⟨_, _, rfl, rfl, by omega, by omega, by omega, World.rowIs.drew (rowIs_keep (made_xs l w) (Below.alloc0 _ _)), World.rowIs.drew ?_, ((Below.alloc0 _ _).al _).drew⟩
    have := made_ap l (w.alloc (.cells (madeCells #[.int .i64 0] l.length) 3))
    rwa [World.size_alloc] at this
  · refine ⟨_, _, rfl, rfl, by omega, by omega, by omega, World.rowIs.drew ?_, World.rowIs.drew (rowIs_keep (made_ap l w) (Below.alloc0 _ _)), ((Below.alloc0 _ _).al _).drew⟩
    have := made_xs l (w.alloc (.cells (madeCells zero32 (l.length * 32)) 52))
    rwa [World.size_alloc] at this

set_option maxHeartbeats 4000000 in
theorem apart_any (l : List Sh) (h0 : 1 ≤ l.length) (h2 : l.length ≤ 255) (hall : allSh l = true) (A : Option Addr) (c : Nat) (w : World) (hs : Sl w A (shV l)) :
    Calls Try.prog 33 #[.slice A l.length c] w fun e w' => (∃ N M, e = .returned (.tuple #[.slice (some ⟨N, 0, none⟩) l.length l.length, .slice (some ⟨M, 0, none⟩) l.length l.length]) ∧
      N ≠ M ∧ w.heap.size ≤ N ∧ w.heap.size ≤ M ∧ Sl w' (some ⟨N, 0, none⟩) (intsI (xsL l)) ∧ Rws w' M l.length (bsG l)) ∧ Below w.heap.size w w' := by
  have hmk := run_make_row' (P := Try.prog) 48 3 (.int .i64 0) 8 Try.underlying48 int_info rfl .i64 .i64 l.length (by omega) (by omega)
  have hmk2 := run_make_rows l.length h2
  have hst : ∀ a : Addr, A = some a → a.block < w.heap.size := fun a e => by
    rcases hs with h | ⟨b, off, rfl, hlt, _⟩
    · have := shV_length l
      rw [h] at this
      simp at this
      omega
    · cases e; exact hlt
  go_enter Try.func33, Try.ntmps33
  go_wp2
  go_cut [4, 5] from 8 (fun a b wx => ∃ N M, a = .slice (some ⟨N, 0, none⟩) l.length l.length ∧ b = .slice (some ⟨M, 0, none⟩) l.length l.length ∧ N ≠ M ∧ w.heap.size ≤ N ∧ w.heap.size ≤ M ∧ wx.rowIs N 3 l.length (xsF l 0) ∧ Rws wx M l.length (apG l 0) ∧ Below w.heap.size w wx)
  case first =>
    go_region_with fail
    all_goals (go_wp2_with fail; go_meet)
    all_goals first
      | exact apart_ways l w _ _ _ (.inl ⟨rfl, rfl, rfl⟩)
      | exact apart_ways l w _ _ _ (.inr ⟨rfl, rfl, rfl⟩)
  case rest =>
    obtain ⟨N, M, rfl, rfl, hNM, hN, hM, hr1, hr2, hb⟩ := hcut
    go_wp2
    go_loopw [16] (fun i wr => ∃ k : Nat, k ≤ l.length ∧ i = .int .i64 (k : Int) ∧ wr.rowIs N 3 l.length (xsF l k) ∧ Rws wr M l.length (apG l k) ∧ Below w.heap.size w wr) (fun i _ => l.length - (intOf i).toNat)
    case atStart => exact ⟨0, by omega, rfl, hr1, hr2, hb⟩
    case round =>
      clear hr1 hr2 hb
      obtain ⟨k, hk, rfl, hr1, hr2, hb⟩ := hrel
      by_cases hlt : k < l.length
      · obtain ⟨b, off, rfl, hx, hy⟩ := sl_sh (hs.keep hb) hlt
        have hy32 := (okSh_of (allSh_at hall hlt)).2
        have HX := Lib.hid (fun j => xsF_set l k j)
        have HR := Lib.hid (fun i j => apG_put l k i j)
        have HOK := Lib.hid (fun V => rowOf_any _ hy32 V)
        generalize (l.getD k sh0).1 = x at *
        generalize (l.getD k sh0).2 = y at *
        obtain ⟨d, hd⟩ : ∃ d, rowV (gOf y) = d := ⟨_, rfl⟩
        have hds : d.size = 32 := by rw [← hd, rowV_size]
        have hdi := row_info' (gOf y)
        have hda := rowV_one (gOf y)
        have hput := fun {V : World} (h : Rws V M l.length (apG l k)) => h.put k (gOf y)
        rw [hd] at HOK hdi hda
        have HDD := Lib.hid hd
        have HDS := Lib.hid hds
        clear hd hds hy32
        have hbA := hb.al (.cells #[.int .i64 x, .string y] 39)
        have hkA := Below.alloc0 wr (.cells #[.int .i64 x, .string y] 39)
        have hr1A := rowIs_keep hr1 hkA
        have hr2A := hr2.keep hkA
        have hcx : (wr.alloc (.cells #[.int .i64 x, .string y] 39)).cell? ⟨wr.heap.size, 0, none⟩ = some (.int .i64 x) := (cell_of_row _ _ _ _ _ _ (heap_alloc_new wr _)).trans rfl
        have hcy : (wr.alloc (.cells #[.int .i64 x, .string y] 39)).cell? ⟨wr.heap.size, 1, none⟩ = some (.string y) := (cell_of_row _ _ _ _ _ _ (heap_alloc_new wr _)).trans rfl
        have hNP : N < wr.heap.size := hr1.lt
        have hMP : M < wr.heap.size := hr2.lt
        go_wp2
        clear hr1 hr2 hb hkA hx hy hput
        generalize World.alloc wr _ = W at *
        generalize wr.heap.size = P at *
        refine Uptot.begin_ [] (fun V : World => V.cell? ⟨P, 0, none⟩ = some (.int .i64 x) ∧ V.cell? ⟨P, 1, none⟩ = some (.string y)) (fun _ : World => True) (by kernel_rfl) ?_
        have hbV : Below W.heap.size W W.drew := Below.drew0 W
        have hST : (W.drew.cell? ⟨P, 0, none⟩ = some (.int .i64 x) ∧ W.drew.cell? ⟨P, 1, none⟩ = some (.string y)) ∧ True := ⟨⟨hcx, hcy⟩, trivial⟩
        generalize W.drew = V at *
        refine Uptot.takeS (i := 0) (v := ?_) rfl (by kernel_rfl) (by kernel_rfl) (by kernel_rfl) (by kernel_rfl) (fun _ _ _ h => h) (Or.inl ⟨by rfl, ?_⟩) hST ?_
        rotate_left 1
        · intro w9 hSw; (try dsimp only at hSw); obtain ⟨s1', s2'⟩ := hSw; go_simp; (try with_reducible rfl)
        try simp only [Act.put, List.setIfInBounds_toArray, List.set_cons_zero, List.set_cons_succ]
        refine Uptot.takeS (i := 1) (v := ?_) rfl (by kernel_rfl) (by kernel_rfl) (by kernel_rfl) (by kernel_rfl) (fun _ _ _ h => h) (Or.inl ⟨by rfl, ?_⟩) hST ?_
        rotate_left 1
        · intro w9 hSw; (try dsimp only at hSw); obtain ⟨s1', s2'⟩ := hSw; go_simp; (try with_reducible rfl)
        try simp only [Act.put, List.setIfInBounds_toArray, List.set_cons_zero, List.set_cons_succ]
        refine Uptot.takeS (i := 2) (v := ?_) rfl (by kernel_rfl) (by kernel_rfl) (by kernel_rfl) (by kernel_rfl) (fun _ _ _ h => h) (Or.inl ⟨by rfl, ?_⟩) hST ?_
        rotate_left 1
        · intro w9 hSw; (try dsimp only at hSw); obtain ⟨s1', s2'⟩ := hSw; go_simp; (try with_reducible rfl)
        try simp only [Act.put, List.setIfInBounds_toArray, List.set_cons_zero, List.set_cons_succ]
        refine Uptot.takeS (i := 3) (v := ?_) rfl (by kernel_rfl) (by kernel_rfl) (by kernel_rfl) (by kernel_rfl) (fun _ _ _ h => h) (Or.inl ⟨by rfl, ?_⟩) hST ?_
        rotate_left 1
        · intro w9 hSw; (try dsimp only at hSw); obtain ⟨s1', s2'⟩ := hSw; go_simp; (try with_reducible rfl)
        try simp only [Act.put, List.setIfInBounds_toArray, List.set_cons_zero, List.set_cons_succ]
        refine Uptot.takeS (i := 4) (v := ?_) rfl (by kernel_rfl) (by kernel_rfl) (by kernel_rfl) (by kernel_rfl) (fun _ _ _ h => h) (Or.inl ⟨by rfl, ?_⟩) hST ?_
        rotate_left 1
        · intro w9 hSw; (try dsimp only at hSw); obtain ⟨s1', s2'⟩ := hSw; go_simp; (try with_reducible rfl)
        try simp only [Act.put, List.setIfInBounds_toArray, List.set_cons_zero, List.set_cons_succ]
        refine Uptot.takeS (i := 5) (v := ?_) rfl (by kernel_rfl) (by kernel_rfl) (by kernel_rfl) (by kernel_rfl) (fun _ _ _ h => h) (Or.inl ⟨by rfl, ?_⟩) hST ?_
        rotate_left 1
        · intro w9 hSw; (try dsimp only at hSw); obtain ⟨s1', s2'⟩ := hSw; go_simp; (try with_reducible rfl)
        try simp only [Act.put, List.setIfInBounds_toArray, List.set_cons_zero, List.set_cons_succ]
        refine Uptot.takeS (i := 6) (v := ?_) rfl (by kernel_rfl) (by kernel_rfl) (by kernel_rfl) (by kernel_rfl) (fun _ _ _ h => h) (Or.inl ⟨by rfl, ?_⟩) hST ?_
        rotate_left 1
        · intro w9 hSw; (try dsimp only at hSw); obtain ⟨s1', s2'⟩ := hSw; go_simp; (try with_reducible rfl)
        try simp only [Act.put, List.setIfInBounds_toArray, List.set_cons_zero, List.set_cons_succ]
        refine Uptot.takeS (i := 7) (v := ?_) rfl (by kernel_rfl) (by kernel_rfl) (by kernel_rfl) (by kernel_rfl) (fun _ _ _ h => h) (Or.inl ⟨by rfl, ?_⟩) hST ?_
        rotate_left 1
        · intro w9 hSw; (try dsimp only at hSw); obtain ⟨s1', s2'⟩ := hSw; go_simp; (try with_reducible rfl)
        try simp only [Act.put, List.setIfInBounds_toArray, List.set_cons_zero, List.set_cons_succ]
        refine Uptot.one (i := 8) rfl (by kernel_rfl) (fun K hK9 => ?_)
        go_simp
        go_at_call 41
        refine (HOK.out _).mono ?_
        rintro e' V9 ⟨rfl, hb9⟩
        replace hST : (V9.cell? ⟨P, 0, none⟩ = some (.int .i64 x) ∧ V9.cell? ⟨P, 1, none⟩ = some (.string y)) ∧ True := ⟨⟨(hb9.cell (p := ⟨P, 0, none⟩) (block_lt_of_cell hST.1.1)).trans hST.1.1, (hb9.cell (p := ⟨P, 1, none⟩) (block_lt_of_cell hST.1.2)).trans hST.1.2⟩, trivial⟩
        replace hbV := hbV.next hb9
        refine hK9.out _ _ (Cond.ahead hST) ?_
        clear hK9 K hb9
        try simp only [Act.put, List.setIfInBounds_toArray, List.set_cons_zero, List.set_cons_succ]
        refine Uptot.one (i := 9) rfl (by kernel_rfl) (fun K hK9 => ?_)
        go_simp
        refine hK9.out _ _ (Cond.ahead hST) ?_
        clear hK9 K
        try simp only [Act.put, List.setIfInBounds_toArray, List.set_cons_zero, List.set_cons_succ]
        replace hr1A := rowIs_keep hr1A hbV
        replace hr2A := hr2A.keep hbV
        replace hbA := hbA.next' hbV
        clear hbV
        have hl1 := hr1A.cell (i := k) hlt
        have hf1 := hr1A.frozen k
        generalize xsF l k k = c1 at hl1
        refine Uptot.one (i := 10) rfl (by kernel_rfl) (fun K hK9 => ?_)
        go_simp
        replace hr1A := (hr1A.set k (.int .i64 x)).congr fun j _ => HX.out j
        replace hr2A := hr2A.setOther (N := N) (by omega) k (.int .i64 x)
        replace hbA := hbA.setCell (p := ⟨N, k, none⟩) (by exact hN) (.int .i64 x)
        replace hST : ((V9.setCell ⟨N, k, none⟩ (.int .i64 x)).cell? ⟨P, 0, none⟩ = some (.int .i64 x) ∧ (V9.setCell ⟨N, k, none⟩ (.int .i64 x)).cell? ⟨P, 1, none⟩ = some (.string y)) ∧ True := ⟨⟨(World.cell?_setCell_other _ _ _ _ (by intro e; have := congrArg Addr.block e; dsimp only at this; omega)).trans hST.1.1, (World.cell?_setCell_other _ _ _ _ (by intro e; have := congrArg Addr.block e; dsimp only at this; omega)).trans hST.1.2⟩, trivial⟩
        refine hK9.out _ _ (Cond.ahead hST) ?_
        clear hK9 K hl1 hf1
        generalize World.setCell _ _ _ = V at *
        try simp only [Act.put, List.setIfInBounds_toArray, List.set_cons_zero, List.set_cons_succ]
        refine Uptot.one (i := 11) rfl (by kernel_rfl) (fun K hK9 => ?_)
        go_simp
        refine hK9.out _ _ (Cond.ahead hST) ?_
        clear hK9 K
        try simp only [Act.put, List.setIfInBounds_toArray, List.set_cons_zero, List.set_cons_succ]
        refine Uptot.one (i := 12) rfl (by kernel_rfl) (fun K hK9 => ?_)
        rw [wanted_plain rfl, if_pos rfl]
        refine wp_store_mid _ _ _ rfl M (k * 32) d rfl rfl (hr2A.there hlt d HDS.out) hdi hda ?_
        replace hr2A : Rws (V.setCells M (k * 32) d.toList) M l.length (apG l (k + 1)) := by
          have h := hr2A.put k (gOf y)
          rw [HDD.out] at h
          exact h.congr fun i j _ _ => HR.out i j
        replace hr1A := Go.rowIs_setCells_other (t := 3) (n := l.length) (f := xsF l (k + 1)) (by omega : N ≠ M) d.toList (k * 32) V hr1A
        replace hbA := Go.below_setCells hM d.toList (k * 32) V hbA
        replace hST : ((V.setCells M (k * 32) d.toList).cell? ⟨P, 0, none⟩ = some (.int .i64 x) ∧ (V.setCells M (k * 32) d.toList).cell? ⟨P, 1, none⟩ = some (.string y)) ∧ True := ⟨⟨(World.cell?_setCells_out _ _ _ _ _ (by intro e; dsimp only at e; omega)).trans hST.1.1, (World.cell?_setCells_out _ _ _ _ _ (by intro e; dsimp only at e; omega)).trans hST.1.2⟩, trivial⟩
        refine hK9.out _ _ (Cond.ahead hST) ?_
        clear hK9 K
        try simp only [Act.put]
        refine Uptot.done (by kernel_rfl) ?_ _
        generalize World.setCells _ _ _ _ = V5 at *
        go_wp2
        go_roundw
        case rel => exact ⟨k + 1, by omega, by go_num, hr1A, hr2A, hbA⟩
        case measure => simp [intOf]; omega
      · obtain rfl : k = l.length := by omega
        have hsx := xsF_sl hr1
        have hrw : Rws wr M l.length (bsG l) := hr2.congr fun i j hi _ => if_pos hi
        go_wp2
        go_ret2
        exact ⟨⟨N, M, rfl, hNM, hN, hM, hsx, hrw⟩, hb⟩
end Go.Proofs.Ytljckcegcfidoaa
