/-
  stream: the contract of start.
-/
import Derived.Test.YtlkdofghhibmbaaDoorStr3
import Derived.Laws.CopyRow
namespace Go.Proofs.YtlkdofghhibmbaaDoor
open Go.RowKit Go.Kx
set_option maxRecDepth 20000

theorem sv_ints {l : List Nat} (h : l.length = 16) : (sv l).toList = ints l := by
  unfold sv rowA ints
  apply List.ext_getElem?
  intro i
  simp only [List.getElem?_map]
  rcases Nat.lt_or_ge i 16 with hi | hi
  · rw [List.getElem?_range hi, List.getElem?_eq_getElem (show i < l.length by omega)]
    simp [List.getD_eq_getElem?_getD, List.getElem?_eq_getElem (show i < l.length by omega)]
  · rw [List.getElem?_eq_none (by simp; omega), List.getElem?_eq_none (by omega)]
    rfl
theorem ints_take (l : List Nat) (n : Nat) : (ints l).take n = ints (l.take n) := by simp [ints, List.map_take]
theorem ints_drop (l : List Nat) (n : Nat) : (ints l).drop n = ints (l.drop n) := by simp [ints, List.map_drop]
theorem ints_app (a b : List Nat) : ints a ++ ints b = ints (a ++ b) := by simp [ints]
theorem copy_state {L xs : List Nat} {o : Nat} (hL : L.length = 16) (hfit : o + xs.length ≤ 16) : ((sv L).toList.take o ++ ints xs ++ (sv L).toList.drop (o + xs.length)).toArray = sv (L.take o ++ xs ++ L.drop (o + xs.length)) := by
  apply Array.toList_inj.1
  rw [sv_ints hL, sv_ints (by simp; omega), ints_take, ints_drop, ints_app, ints_app]
/-- copy(state[o:], xs). -/
theorem copy_run {L xs M : List Nat} {o g b m n : Nat} (hL : L.length = 16) (hn : xs.length = n) (hm : o + m = 16) (hnm : n ≤ m) (hM : L.take o ++ xs ++ L.drop (o + n) = M) (V : World) (hg : V.heap[g]? = some (.cells (sv L) 57 (0, 0))) (hs : Sl V (some ⟨b, 0, none⟩) (ints xs)) (h0 : 0 < n) :
    (Builtin.copy_ #[71, 71] 3 #[.slice (some ⟨g, o, none⟩) m m, .slice (some ⟨b, 0, none⟩) n n]).run Tryd.prog V = .ok (goInt n) (V.setRow g (sv M)) := by
  have hl : (ints xs).length = n := by simp [ints, hn]
  have hc : ∀ j v, (ints xs)[j]? = some v → V.cell? ((⟨b, 0, none⟩ : Addr).add j) = some v := fun j v hv => by
    rw [Addr.add_mid]
    rcases hs with h | ⟨b', off, e, _, hc⟩
    · rw [h] at hl; simp at hl; omega
    · obtain ⟨rfl, rfl⟩ : b = b' ∧ 0 = off := by simpa using e
      exact hc j v hv
  rw [run_copy_row Tryd.prog V _ _ _ 3 g o m m ⟨b, 0, none⟩ n n (sv L) 57 (ints xs) Tryd.underlying71 (by kernel_rfl) hg (by rw [hl]; exact (Nat.min_eq_left hnm).symm) hc (by rw [hl, sv_size]; omega) (fun v hv => by
    obtain ⟨x, _, rfl⟩ := List.mem_map.1 hv
    rfl), hl, show o + n = o + xs.length by rw [hn], copy_state hL (by omega), ← hM, hn]
theorem start_list (xs ys : List Nat) (hx : xs.length = 8) (hy : ys.length = 3) (n : Nat) :
    (((([1634760805, 857760878, 2036477234, 1797285236, 0, 0, 0, 0, 0, 0, 0, 0, 0, 0, 0, 0] : List Nat).take 4 ++ xs ++ ([1634760805, 857760878, 2036477234, 1797285236, 0, 0, 0, 0, 0, 0, 0, 0, 0, 0, 0, 0] : List Nat).drop (4 + 8)).set 12 n).take 13 ++ ys ++
      ((([1634760805, 857760878, 2036477234, 1797285236, 0, 0, 0, 0, 0, 0, 0, 0, 0, 0, 0, 0] : List Nat).take 4 ++ xs ++ ([1634760805, 857760878, 2036477234, 1797285236, 0, 0, 0, 0, 0, 0, 0, 0, 0, 0, 0, 0] : List Nat).drop (4 + 8)).set 12 n).drop (13 + 3)) =
      [1634760805, 857760878, 2036477234, 1797285236] ++ xs ++ [n] ++ ys := by
  match xs, hx, ys, hy with
  | [_, _, _, _, _, _, _, _], _, [_, _, _], _ => rfl
theorem heap_lt {w : World} {g : Nat} {o : Obj} (h : w.heap[g]? = some o) : g < w.heap.size := (Array.getElem?_eq_some_iff.1 h).1
def init16 : Array Value := #[.int .i64 1634760805, .int .i64 857760878, .int .i64 2036477234, .int .i64 1797285236, .int .i64 0, .int .i64 0, .int .i64 0, .int .i64 0, .int .i64 0, .int .i64 0, .int .i64 0, .int .i64 0, .int .i64 0, .int .i64 0, .int .i64 0, .int .i64 0]
theorem init16_eq : init16 = sv [1634760805, 857760878, 2036477234, 1797285236, 0, 0, 0, 0, 0, 0, 0, 0, 0, 0, 0, 0] := rfl
theorem cut_v (s : ByteArray) (h : Bool) (xs : List Nat) (hx : cutL h s = xs) (n : Nat) (hn : xs.length = n) (w : World) (hs : s.size ≤ 1000000) (h4 : s.size % 4 = 0) :
    Calls Tryd.prog 48 #[.string s, .bool h] w fun e w' => ∃ b, e = .returned (.tuple #[.slice (some ⟨b, 0, none⟩) n n, .bool true]) ∧ w.heap.size ≤ b ∧ Sl w' (some ⟨b, 0, none⟩) (ints xs) ∧ Below w.heap.size w w' := by
  subst hx hn
  exact cut_new s h w hs h4
set_option maxRecDepth 100000 in
set_option maxHeartbeats 1000000 in
theorem start_yes (key nonce : ByteArray) (n : Nat) (hk : key.size = 32) (hn : nonce.size = 12) (hw : n < 4294967296) (d : Array Value) (hd : sv (startL key nonce n) = d) (w : World) :
    Calls Tryd.prog 26 #[.string key, .string nonce, .int .i64 n] w fun e w' => e = .returned (.tuple #[.agg d, .bool true]) ∧ Below w.heap.size w w' := by
  obtain ⟨xs, hxs⟩ : ∃ xs, cutL false key = xs := ⟨_, rfl⟩
  obtain ⟨ys, hys⟩ : ∃ ys, cutL false nonce = ys := ⟨_, rfl⟩
  have hx8 : xs.length = 8 := by rw [← hxs, cutL_length, hk]
  have hy3 : ys.length = 3 := by rw [← hys, cutL_length, hn]
  have HD : Hid (sv ([1634760805, 857760878, 2036477234, 1797285236] ++ xs ++ [n] ++ ys) = d) := Lib.hid (by rw [← hd, ← hxs, ← hys]; rfl)
  have HCK : Hid (∀ V : World, Calls Tryd.prog 48 #[.string key, .bool false] V fun e w' => ∃ b, e = .returned (.tuple #[.slice (some ⟨b, 0, none⟩) 8 8, .bool true]) ∧ V.heap.size ≤ b ∧ Sl w' (some ⟨b, 0, none⟩) (ints xs) ∧ Below V.heap.size V w') :=
    Lib.hid fun V => cut_v key false xs hxs 8 hx8 V (by omega) (by omega)
  have HCN : Hid (∀ V : World, Calls Tryd.prog 48 #[.string nonce, .bool false] V fun e w' => ∃ b, e = .returned (.tuple #[.slice (some ⟨b, 0, none⟩) 3 3, .bool true]) ∧ V.heap.size ≤ b ∧ Sl w' (some ⟨b, 0, none⟩) (ints ys) ∧ Below V.heap.size V w') :=
    Lib.hid fun V => cut_v nonce false ys hys 3 hy3 V (by omega) (by omega)
  have HX8 := Lib.hid hx8
  have HY3 := Lib.hid hy3
  have HOK : Hid (okW (n : Int) = true) := Lib.hid (okW_t (by omega) (by omega))
  have hi : ∀ l, (Tryd.prog.info? 57).map (·.size) = some (sv l).size := fun l => by rw [sv_size]; exact sv_info
  clear hd hxs hys hx8 hy3
  go_enter Tryd.func26, Tryd.ntmps26
  go_wp2_with fail
  refine (is_one n _ _ _ (by simp)).mono ?_
  rintro e w1 ⟨rfl, rfl⟩
  rw [HOK.out]
  go_wp2_with fail
  obtain ⟨W, hW⟩ : ∃ W, W = ((w.alloc (.cells zero16 57)).alloc (.cells #[.int .i64 (n : Nat)] 3)).alloc (.cells init16 57) := ⟨_, rfl⟩
  have hz : W.heap[w.heap.size]? = some (.cells zero16 57 (0, 0)) := by
    rw [hW, Below.heap_alloc _ _ _ (by simp; omega), Below.heap_alloc _ _ _ (by simp)]
    exact heap_alloc_new w _
  have hg : W.heap[w.heap.size + 1 + 1]? = some (.cells init16 57 (0, 0)) := by
    rw [hW]
    have h := heap_alloc_new ((w.alloc (.cells zero16 57)).alloc (.cells #[.int .i64 (n : Nat)] 3)) (.cells init16 57)
    rw [World.size_alloc, World.size_alloc] at h
    exact h
  rw [init16_eq] at hg
  have hb : Below w.heap.size w W := by
    rw [hW]
    exact (((Below.refl w.heap.size w).al _).al _).al _
  have hsz : W.heap.size = w.heap.size + 1 + 1 + 1 := by rw [hW]; simp
  unfold zero16 init16 at hW
  rw [← hW]
  clear hW
  obtain ⟨L0, hL0⟩ : ∃ L, L = [1634760805, 857760878, 2036477234, 1797285236, 0, 0, 0, 0, 0, 0, 0, 0, 0, 0, 0, 0] := ⟨_, rfl⟩
  obtain ⟨L1, hL1⟩ : ∃ L, L0.take 4 ++ xs ++ L0.drop (4 + 8) = L := ⟨_, rfl⟩
  obtain ⟨L3, hL3⟩ : ∃ L, (L1.set 12 n).take 13 ++ ys ++ (L1.set 12 n).drop (13 + 3) = L := ⟨_, rfl⟩
  have hl0 : L0.length = 16 := by rw [hL0]; rfl
  have hl1 : L1.length = 16 := by rw [← hL1]; simp [hl0, HX8.out]
  have hl2 : (L1.set 12 n).length = 16 := by rw [List.length_set]; exact hl1
  have HE : Hid (sv L3 = d) := Lib.hid (by rw [← HD.out, ← start_list xs ys HX8.out HY3.out n, ← hL3, ← hL1, hL0])
  rw [← hL0] at hg
  have HL1 := Lib.hid hL1
  have HL3 := Lib.hid hL3
  have HLS := Lib.hid (And.intro hl0 (And.intro hl1 hl2))
  clear hL0 hL1 hL3 hl0 hl1 hl2 HD
  generalize hgg : w.heap.size + 1 + 1 = g at *
  have hgw : w.heap.size < g := by omega
  have hne : w.heap.size ≠ g := by omega
  have hgl : g < W.heap.size := by omega
  clear hgg hsz
  refine (HCK.out _).mono ?_
  rintro e w2 ⟨b2, rfl, hbb, hs2, hb2⟩
  have hg2 := (hb2.block _ hgl).trans hg
  have hz2 := (hb2.block _ (heap_lt hz)).trans hz
  have hbw2 := hb.next' hb2
  have hc2 := copy_run (o := 4) (m := 12) HLS.out.1 HX8.out rfl (by omega) HL1.out w2 hg2 hs2 (by omega)
  have hr3 : (w2.setRow g (sv L1)).rowIs g 57 16 (fun j => .int .i64 (L1.getD j 0 : Nat)) := row_of_heap (setRow_heap _ _ _ _ _ _ hg2)
  have hr4 := row16_set hr3 HLS.out.2.1 12 n (by omega)
  have c12 := hr3.cell (i := 12) (by omega)
  have d12 := hr3.frozen 12
  have hg4 := sv_of_row hr4
  have hz4 : ((w2.setRow g (sv L1)).setCell ⟨g, 12, none⟩ (.int .i64 (n : Nat))).heap[w.heap.size]? = some (.cells zero16 57 (0, 0)) := by
    rw [heap_setCell_other _ _ _ _ hne, setRow_other _ _ _ _ hne]
    exact hz2
  have hb4 : Below w.heap.size w ((w2.setRow g (sv L1)).setCell ⟨g, 12, none⟩ (.int .i64 (n : Nat))) := (hbw2.setRow (g := g) (by omega) _).setCell (p := ⟨g, 12, none⟩) (by simp; omega) _
  have hgl4 := heap_lt hg4
  clear hg hz hb hb2 hr3 hr4 hg2 hz2 hbw2 hs2 hgl
  go_wp2_with fail
  clear c12 d12 hc2
  generalize (w2.setRow g (sv L1)).setCell ⟨g, 12, none⟩ (.int .i64 (n : Nat)) = W4 at *
  refine (HCN.out _).mono ?_
  rintro e w5 ⟨b5, rfl, hbb5, hs5, hb5⟩
  have hg5 := (hb5.block _ hgl4).trans hg4
  have hz5 := (hb5.block _ (heap_lt hz4)).trans hz4
  have hbw5 := hb4.next' hb5
  have hc5 := copy_run (o := 13) (m := 3) HLS.out.2.2 HY3.out rfl (by omega) HL3.out w5 hg5 hs5 (by omega)
  rw [HE.out] at hc5
  have hds : d.size = 16 := by rw [← HE.out]; exact sv_size _
  have hinf : (Tryd.prog.info? 57).map (·.size) = some d.size := by rw [hds]; exact sv_info
  have hg6 : (w5.setRow g d).heap[g]? = some (.cells d 57 (0, 0)) := setRow_heap _ _ _ _ _ _ hg5
  have hz6 : (w5.setRow g d).heap[w.heap.size]? = some (.cells zero16 57 (0, 0)) := by rw [setRow_other _ _ _ _ hne]; exact hz5
  have hold : zero16.size = d.size := by rw [hds]; rfl
  have hall : d.all (·.oneCell') = true := by rw [← HE.out]; exact all_one_ints (k := .i64) (g := fun j => (L3.getD j 0 : Nat)) (n := 16) rfl
  have hb6 := hbw5.setRow (g := g) (by omega) d
  clear hg4 hz4 hb4 hb5 hg5 hz5 hbw5 hs5 hgl4
  go_wp2_with (first
    | (refine wpList_load_row rfl _ _ rfl g rfl _ _ _ _ hg6 Tryd.underlying57 rfl hinf ?_)
    | (refine wpList_store_row rfl _ _ _ rfl w.heap.size _ rfl rfl _ _ hz6 hinf hold hall ?_))
  refine bodyPost_ret (v := .tuple #[.agg d, .bool true]) (results_cell_slot rfl _ _ w.heap.size _ _ _ _ rfl (setRow_heap _ _ _ _ _ _ hz6) Tryd.underlying57 rfl hinf _ rfl) rfl ⟨rfl, hb6.setRow (Nat.le_refl _) _⟩
end Go.Proofs.YtlkdofghhibmbaaDoor
