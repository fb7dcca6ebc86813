/-
  stream: the contract of bytes.
-/
import Derived.Test.YtlkdofghhibmbaaDoorStr2
import Derived.Test.YtlkdofghhibmbaaDoorDig4
namespace Go.Proofs.YtlkdofghhibmbaaDoor
open Go.RowKit Go.Kx
set_option maxRecDepth 20000

theorem row_of_heap {w : World} {g : Nat} {l : List Nat} (h : w.heap[g]? = some (.cells (sv l) 57 (0, 0))) : w.rowIs g 57 16 (fun j => .int .i64 (l.getD j 0 : Nat)) :=
  ⟨sv l, h, sv_size l, fun i hi => rowA_at .i64 16 (fun j => l.getD j 0) i hi⟩
def zero16 : Array Value := #[.int .i64 0, .int .i64 0, .int .i64 0, .int .i64 0, .int .i64 0, .int .i64 0, .int .i64 0, .int .i64 0, .int .i64 0, .int .i64 0, .int .i64 0, .int .i64 0, .int .i64 0, .int .i64 0, .int .i64 0, .int .i64 0]
theorem cell_alloc_lt {w : World} {o : Obj} {g j : Nat} (h : g < w.heap.size) : (w.alloc o).cell? ⟨g, j, none⟩ = w.cell? ⟨g, j, none⟩ := World.cell?_of_block (a := ⟨g, j, none⟩) (Below.heap_alloc w o g h)
def sumAt (r l : List Nat) (k j : Nat) : Nat := if j < k then (r.getD j 0 + l.getD j 0) % 4294967296 else r.getD j 0
theorem sumAt_same (r l : List Nat) (k : Nat) : sumAt r l k k = r.getD k 0 := if_neg (by omega)
theorem sumAt_zero (r l : List Nat) (j : Nat) : sumAt r l 0 j = r.getD j 0 := if_neg (by omega)
theorem sumAt_set (r l : List Nat) (k j : Nat) : (if j = k then (r.getD k 0 + l.getD k 0) % 4294967296 else sumAt r l k j) = sumAt r l (k + 1) j := by
  unfold sumAt
  by_cases h : j = k
  · subst h; simp
  · rw [if_neg h]
    by_cases h2 : j < k
    · rw [if_pos h2, if_pos (by omega)]
    · rw [if_neg h2, if_neg (by omega)]
theorem sum_ints (r l : List Nat) : ints (sumRow r l) = (List.range 16).map fun j => Value.int .i64 (sumAt r l 16 j : Nat) := by
  unfold ints sumRow
  rw [List.map_map]
  refine List.map_congr_left fun j hj => ?_
  rw [sumAt, if_pos (by simpa using hj)]
  rfl
theorem join_v (A : Option Addr) (c : Nat) (xs : List Nat) (n : Nat) (hn : xs.length = n) (h : Bool) (out : ByteArray) (ho : ⟨(joinL h xs).toArray⟩ = out) (w : World) (hm : n ≤ 100000) (hs : Sl w A (ints xs)) (hok : ∀ x ∈ xs, x < 4294967296) :
    Calls Tryd.prog 32 #[.slice A n c, .bool h] w fun e w' => e = .returned (.tuple #[.string out, .bool true]) ∧ Below w.heap.size w w' := by
  subst hn ho
  exact join_any A c xs h w hm hs hok
set_option maxRecDepth 100000 in
set_option maxHeartbeats 1000000 in
theorem bytes_any (l : List Nat) (hl : okL l) (d : Array Value) (hd : d = sv l) (out : ByteArray) (hout : ⟨(bytesL l).toArray⟩ = out) (w : World) (hK : Places w) :
    Calls Tryd.prog 27 #[.agg d] w fun e w' => e = .returned (.string out) ∧ Below w.heap.size w w' := by
  have s16 : d.size = 16 := by rw [hd, sv_size]
  have hinfd : (Tryd.prog.info? 57).map (·.size) = some d.size := by rw [s16]; exact sv_info
  have hall : d.all (·.oneCell') = true := by rw [hd]; exact all_one_ints (k := .i64) (g := fun j => (l.getD j 0 : Nat)) (n := 16) rfl
  have h0 := heap_alloc_new w (.cells d 57)
  have h2 := heap_alloc_new (w.alloc (.cells d 57)) (.cells zero16 57)
  rw [World.size_alloc] at h2
  have hold : zero16.size = d.size := by rw [s16]; rfl
  have hr0 : (((w.alloc (.cells d 57)).alloc (.cells zero16 57)).setRow (w.heap.size + 1) d).rowIs w.heap.size 57 16 (fun j => .int .i64 (l.getD j 0 : Nat)) :=
    row_of_heap (by rw [setRow_other _ _ _ _ (by omega), Below.heap_alloc _ _ _ (by simp), ← hd]; exact h0)
  have hr1 : (((w.alloc (.cells d 57)).alloc (.cells zero16 57)).setRow (w.heap.size + 1) d).rowIs (w.heap.size + 1) 57 16 (fun j => .int .i64 ((roundN l 0).getD j 0 : Nat)) :=
    row_of_heap (by rw [show roundN l 0 = l from rfl, ← hd]; exact setRow_heap _ _ _ _ _ _ h2)
  have hbw := (((Below.refl w.heap.size w).alloc (Nat.le_refl _) (.cells d 57)).alloc (by simp) (.cells zero16 57)).setRow (g := w.heap.size + 1) (by omega) d
  unfold zero16 at h2 hold hr0 hr1 hbw
  have HOUT := Lib.hid hout
  have HD := Lib.hid hd
  clear hout hd
  go_enter Tryd.func27, Tryd.ntmps27
  go_wp2_with (first
    | (refine wpList_load_row rfl _ _ rfl w.heap.size rfl _ _ _ _ h0 Tryd.underlying57 rfl hinfd ?_)
    | (refine wpList_store_row rfl _ _ _ rfl (w.heap.size + 1) _ rfl rfl _ _ h2 hinfd hold hall ?_))
  clear h0 h2 hold hall hinfd
  generalize World.setRow _ _ _ = W0 at *
  go_loopw [8] (fun i wr => ∃ k : Nat, k ≤ 10 ∧ i = .int .i64 k ∧ wr.rowIs w.heap.size 57 16 (fun j => .int .i64 (l.getD j 0 : Nat)) ∧ wr.rowIs (w.heap.size + 1) 57 16 (fun j => .int .i64 ((roundN l k).getD j 0 : Nat)) ∧ Below w.heap.size w wr) (fun i _ => 10 - (intOf i).toNat)
  case atStart => exact ⟨0, by omega, rfl, hr0, hr1, hbw⟩
  case round =>
    clear hr0 hr1 hbw
    obtain ⟨k, hk, rfl, hr0, hr1, hb⟩ := hrel
    by_cases hlt : k < 10
    · have h1 := sv_of_row hr1
      obtain ⟨dk, hdk⟩ : ∃ x, x = sv (roundN l k) := ⟨_, rfl⟩
      obtain ⟨dn, hdn⟩ : ∃ x, x = sv (roundN l (k + 1)) := ⟨_, rfl⟩
      have HT : Hid (∀ V : World, Places V → Calls Tryd.prog 49 #[.agg dk] V fun e w' => e = .returned (.agg dn) ∧ Below V.heap.size V w') :=
        Lib.hid fun V hV => by rw [hdn]; exact turned_any (roundN l k) (okL_roundN hl k) dk hdk V hV
      rw [← hdk] at h1
      have hinfk : (Tryd.prog.info? 57).map (·.size) = some dk.size := by rw [hdk, sv_size]; exact sv_info
      have hinfn : (Tryd.prog.info? 57).map (·.size) = some dn.size := by rw [hdn, sv_size]; exact sv_info
      have holdn : dk.size = dn.size := by rw [hdk, hdn, sv_size, sv_size]
      have halln : dn.all (·.oneCell') = true := by rw [hdn]; exact all_one_ints (k := .i64) (g := fun j => ((roundN l (k + 1)).getD j 0 : Nat)) (n := 16) rfl
      have HDN := Lib.hid hdn
      have hl1 := hr1.lt
      clear hdk hdn
      go_wp2_with (first
        | (refine wpList_load_row rfl _ _ rfl (w.heap.size + 1) rfl _ _ _ _ h1 Tryd.underlying57 rfl hinfk ?_))
      refine (HT.out _ (hK.keep hb)).mono ?_
      rintro e w2 ⟨rfl, hb2⟩
      have h3 := (hb2.block _ hl1).trans h1
      have hr02 := rowIs_keep hr0 hb2
      have hbn := hb.next' hb2
      have hr12 : (w2.setRow (w.heap.size + 1) dn).rowIs (w.heap.size + 1) 57 16 (fun j => .int .i64 ((roundN l (k + 1)).getD j 0 : Nat)) :=
        row_of_heap (by rw [← HDN.out]; exact setRow_heap _ _ _ _ _ _ h3)
      have hr03 : (w2.setRow (w.heap.size + 1) dn).rowIs w.heap.size 57 16 (fun j => .int .i64 (l.getD j 0 : Nat)) := hr02.of_block (setRow_other _ _ _ _ (by omega))
      have hbm := hbn.setRow (g := w.heap.size + 1) (by omega) dn
      clear hr0 hr1 hb hb2 hr02 hbn h1
      go_wp2_with (refine wpList_store_row rfl _ _ _ rfl (w.heap.size + 1) _ rfl rfl _ _ h3 hinfn holdn halln ?_)
      go_roundw
      case rel => exact ⟨k + 1, by omega, by go_num, hr03, hr12, hbm⟩
      case measure => simp [intOf]; omega
    · obtain rfl : k = 10 := by omega
      clear hlt hk
      have hok := okL_roundN hl 10
      have HB : Hid (⟨(joinL false (sumRow (roundN l 10) l)).toArray⟩ = out) := Lib.hid HOUT.out
      clear HOUT
      generalize roundN l 10 = r at *
      rw [show ((10 : Nat) : Int) = 10 from rfl]
      go_wp2
      go_loopw [4, 13] (fun _ i wr => ∃ k : Nat, k ≤ 16 ∧ i = .int .i64 k ∧ wr.rowIs w.heap.size 57 16 (fun j => .int .i64 (l.getD j 0 : Nat)) ∧ wr.rowIs (w.heap.size + 1) 57 16 (fun j => .int .i64 (sumAt r l k j : Nat)) ∧ Below w.heap.size w wr) (fun _ i _ => 16 - (intOf i).toNat)
      case atStart => exact ⟨0, by omega, rfl, hr0, hr1.congr fun j _ => by rw [sumAt_zero], hb⟩
      case round =>
        clear hr0 hr1 hb
        obtain ⟨k, hk, rfl, hr0, hr1, hb⟩ := hrel
        by_cases hlt : k < 16
        · have hr0D := hr0.drew
          have hr1D := hr1.drew
          have hbD := hb.drew
          have lx := okL_at hok k
          have ly := okL_at hl k
          have c1 := hr1D.cell (i := k) hlt
          have c0 := hr0D.cell (i := k) hlt
          rw [sumAt_same] at c1
          have HSET := Lib.hid (sumAt_set r l k)
          have HA : Hid (addL [r.getD k 0, l.getD k 0] = (r.getD k 0 + l.getD k 0) % 4294967296) := Lib.hid (by simp [addL])
          generalize r.getD k 0 = x at *
          generalize l.getD k 0 = y at *
          generalize (x + y) % 4294967296 = z at *
          have hST : True ∧ _ := And.intro trivial (And.intro c1 c0)
          have hl0 := hr0D.lt
          have hl1 := hr1D.lt
          have k0 : (0 : Int) ≤ (k : Int) := by omega
          have k1 : (k : Int) < 16 := by omega
          clear c0 c1 hr0 hr1 hb
          go_wp2_with fail
          refine Uptot.begin_ [13] (fun _ : World => True) (fun w' : World => w'.cell? ⟨w.heap.size + 1, k, none⟩ = some (.int .i64 x) ∧ w'.cell? ⟨w.heap.size, k, none⟩ = some (.int .i64 y)) (by kernel_rfl) ?_
          generalize wr.drew = V2 at *
          refine Uptot.takeS (i := 0) (v := ?_) rfl (by kernel_rfl) (by kernel_rfl) (by kernel_rfl) (by kernel_rfl) (fun _ _ _ h => h) (Or.inl ⟨by rfl, ?_⟩) hST ?_
          rotate_left 1
          · intro w9 hSw; (try dsimp only at hSw); go_simp; (try with_reducible rfl)
          try simp only [Act.put, List.setIfInBounds_toArray, List.set_cons_zero, List.set_cons_succ]
          refine Uptot.takeS (i := 1) (v := ?_) rfl (by kernel_rfl) (by kernel_rfl) (by kernel_rfl) (by kernel_rfl) (fun _ _ _ h => h) (Or.inl ⟨by rfl, ?_⟩) hST ?_
          rotate_left 1
          · intro w9 hSw; (try dsimp only at hSw); go_simp; (try with_reducible rfl)
          try simp only [Act.put, List.setIfInBounds_toArray, List.set_cons_zero, List.set_cons_succ]
          refine Uptot.takeS (i := 4) (v := ?_) rfl (by kernel_rfl) (by kernel_rfl) (by kernel_rfl) (by kernel_rfl) (fun _ _ _ h => h) (Or.inl ⟨by rfl, ?_⟩) hST ?_
          rotate_left 1
          · intro w9 hSw; (try dsimp only at hSw); go_simp; (try with_reducible rfl)
          try simp only [Act.put, List.setIfInBounds_toArray, List.set_cons_zero, List.set_cons_succ]
          refine Uptot.takeS (i := 2) (v := ?_) rfl (by kernel_rfl) (by kernel_rfl) (by kernel_rfl) (by kernel_rfl) (fun _ _ _ h => h) (Or.inl ⟨by rfl, ?_⟩) hST ?_
          rotate_left 1
          · intro w9 hSw; (try dsimp only at hSw); go_simp; (try with_reducible rfl)
          try simp only [Act.put, List.setIfInBounds_toArray, List.set_cons_zero, List.set_cons_succ]
          refine Uptot.takeS (i := 5) (v := ?_) rfl (by kernel_rfl) (by kernel_rfl) (by kernel_rfl) (by kernel_rfl) (fun _ _ _ h => h) (Or.inl ⟨by rfl, ?_⟩) hST ?_
          rotate_left 1
          · intro w9 hSw; (try dsimp only at hSw); go_simp; (try with_reducible rfl)
          try simp only [Act.put, List.setIfInBounds_toArray, List.set_cons_zero, List.set_cons_succ]
          refine Uptot.take (i := 3) (v := ?_) rfl (by kernel_rfl) (by kernel_rfl) (by kernel_rfl) (by kernel_rfl) (fun _ _ _ h => h) (Or.inl ⟨by rfl, ?_⟩) hST ?_
          rotate_left 1
          · intro w9 hSw; (try dsimp only at hSw); go_simp; (try with_reducible rfl)
          try simp only [Act.put, List.setIfInBounds_toArray, List.set_cons_zero, List.set_cons_succ]
          refine Uptot.take (i := 6) (v := ?_) rfl (by kernel_rfl) (by kernel_rfl) (by kernel_rfl) (by kernel_rfl) (fun _ _ _ h => h) (Or.inl ⟨by rfl, ?_⟩) hST ?_
          rotate_left 1
          · intro w9 hSw; (try dsimp only at hSw); go_simp; (try with_reducible rfl)
          try simp only [Act.put, List.setIfInBounds_toArray, List.set_cons_zero, List.set_cons_succ]
          refine Uptot.one (i := 7) rfl (by kernel_rfl) (fun K hK => ?_)
          go_simp
          have hST2 : True ∧ _ := And.intro trivial (And.intro ((cell_alloc_lt (o := .cells #[.int .i64 (x : Nat), .int .i64 (y : Nat)] 3) hl1).trans hST.2.1) ((cell_alloc_lt (o := .cells #[.int .i64 (x : Nat), .int .i64 (y : Nat)] 3) hl0).trans hST.2.2))
          refine hK.out _ _ (Cond.ahead hST2) ?_
          clear hK K
          try simp only [Act.put, List.setIfInBounds_toArray, List.set_cons_zero, List.set_cons_succ]
          refine Uptot.one (i := 8) rfl (by kernel_rfl) (fun K hK => ?_)
          go_simp
          go_at_call 50
          refine (add_any (some ⟨V2.heap.size, 0, none⟩) 2 [x, y] _ (by simp) (Sl.new _ _ _) (by simp; omega)).mono ?_
          rintro e' w2 ⟨rfl, rfl⟩
          rw [HA.out]
          refine hK.out _ _ (Cond.ahead hST2) ?_
          clear hK K hST
          refine Uptot.takeS (i := 9) (v := ?_) rfl (by kernel_rfl) (by kernel_rfl) (by kernel_rfl) (by kernel_rfl) (fun _ _ _ h => h) (Or.inl ⟨by rfl, ?_⟩) hST2 ?_
          rotate_left 1
          · intro w9 hSw; (try dsimp only at hSw); go_simp; (try with_reducible rfl)
          try simp only [Act.put, List.setIfInBounds_toArray, List.set_cons_zero, List.set_cons_succ]
          refine Uptot.takeS (i := 10) (v := ?_) rfl (by kernel_rfl) (by kernel_rfl) (by kernel_rfl) (by kernel_rfl) (fun _ _ _ h => h) (Or.inl ⟨by rfl, ?_⟩) hST2 ?_
          rotate_left 1
          · intro w9 hSw; (try dsimp only at hSw); go_simp; (try with_reducible rfl)
          try simp only [Act.put, List.setIfInBounds_toArray, List.set_cons_zero, List.set_cons_succ]
          refine Uptot.takeS (i := 11) (v := ?_) rfl (by kernel_rfl) (by kernel_rfl) (by kernel_rfl) (by kernel_rfl) (fun _ _ _ h => h) (Or.inl ⟨by rfl, ?_⟩) hST2 ?_
          rotate_left 1
          · intro w9 hSw; (try dsimp only at hSw); go_simp; (try with_reducible rfl)
          try simp only [Act.put, List.setIfInBounds_toArray, List.set_cons_zero, List.set_cons_succ]
          refine Uptot.one (i := 12) rfl (by kernel_rfl) (fun K hK => ?_)
          go_simp
          refine hK.out _ _ (Cond.ahead hST2) ?_
          clear hK K
          try simp only [Act.put, List.setIfInBounds_toArray, List.set_cons_zero, List.set_cons_succ]
          have df := hr1D.frozen k
          have cc := hST2.2.1
          refine Uptot.one (i := 13) rfl (by kernel_rfl) (fun K hK => ?_)
          go_simp
          refine hK.out _ _ (Cond.behind trivial (by kernel_rfl)) ?_
          clear hK K
          try simp only [Act.put, List.setIfInBounds_toArray, List.set_cons_zero, List.set_cons_succ]
          refine Uptot.done (by kernel_rfl) ?_ _
          go_wp2
          go_roundw
          case rel =>
            refine ⟨k + 1, by omega, by go_num, (hr0D.setOther (a := ⟨w.heap.size + 1, k, none⟩) (by simp) _).alloc _, ((hr1D.set k _).alloc _).congr fun j _ => ?_, (hbD.setCell (p := ⟨w.heap.size + 1, k, none⟩) (by simp) _).al _⟩
            rw [← HSET.out j]
            split <;> rfl
          case measure => simp [intOf]; omega
        · obtain rfl : k = 16 := by omega
          have hs := Sl_of_row hr1
          rw [← sum_ints] at hs
          have HJ : Hid (∀ V : World, Sl V (some ⟨w.heap.size + 1, 0, none⟩) (ints (sumRow r l)) → Calls Tryd.prog 32 #[.slice (some ⟨w.heap.size + 1, 0, none⟩) 16 16, .bool false] V fun e w' => e = .returned (.tuple #[.string out, .bool true]) ∧ Below V.heap.size V w') :=
            Lib.hid fun V hV => join_v _ 16 (sumRow r l) 16 (okL_sum r l).1 false out HB.out V (by omega) hV (okL_sum r l).2
          have HSL := Lib.hid hs
          clear hs hr0 hr1 hlt hk
          go_wp2_with fail
          refine (HJ.out _ HSL.out).mono ?_
          rintro e w2 ⟨rfl, hb2⟩
          go_wp2
          go_ret
          exact ⟨rfl, hb.next' hb2⟩
end Go.Proofs.YtlkdofghhibmbaaDoor
