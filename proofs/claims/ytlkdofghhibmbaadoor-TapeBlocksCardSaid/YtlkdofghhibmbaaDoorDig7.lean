/-
  digest: the contracts of Start and Sum.
-/
import Derived.Test.YtlkdofghhibmbaaDoorDig6
namespace Go.Proofs.YtlkdofghhibmbaaDoor
open Go.RowKit Go.Kx Go.Shelf
set_option maxRecDepth 20000
attribute [local go_sem] Oper.semAt_some

theorem start_any (w : World) : Calls Tryd.prog 29 #[] w fun e w' => e = .returned st0.v ∧ Below w.heap.size w w' := by
  go_enter Tryd.func29, Tryd.ntmps29
  go_wp2
  have hinf : (Tryd.prog.info? 63).map (·.size) = some (i64s st0).size := row8_size
  refine bodyPost_ret (v := st0.v) (results_cell_row rfl _ _ w.heap.size _ (i64s st0) _ _ rfl (by exact World.alloc_heap_new w _) Tryd.underlying63 rfl hinf) rfl ⟨rfl, Below.alloc0 _ _⟩

theorem pad_mod (n : Nat) : (n + (padL n).length) % 64 = 0 := by
  simp only [padL, List.length_cons, List.length_append, List.length_replicate, joinL_length, List.length_nil]
  omega
theorem pad_le (n : Nat) : (padL n).length ≤ 72 ∧ 9 ≤ (padL n).length := by
  simp only [padL, List.length_cons, List.length_append, List.length_replicate, joinL_length, List.length_nil]
  omega
def foldS (xs : List ByteArray) : St := xs.foldl (fun s b => stepL s b.data.toList) st0
theorem foldS_snoc (xs : List ByteArray) (x : ByteArray) : foldS (xs ++ [x]) = stepL (foldS xs) x.data.toList := by simp [foldS]
theorem st0_ok : st0.ok := by unfold St.ok; decide
theorem foldS_ok (xs : List ByteArray) : (foldS xs).ok := by
  rcases List.eq_nil_or_concat xs with rfl | ⟨ys, y, rfl⟩
  · exact st0_ok
  · rw [List.concat_eq_append, foldS_snoc]; exact stepL_ok _ _
theorem foldS_chunks (l : List UInt8) : foldS (chunksB l) = (chunks l).foldl stepL st0 := by
  unfold foldS chunksB chunks
  rw [List.foldl_map, List.foldl_map]
  rfl

set_option maxHeartbeats 2000000 in
theorem sum_any (s : ByteArray) (hs : s.size ≤ 1000000000) (w : World) (hK : Consts w) :
    Calls Tryd.prog 14 #[.string s] w fun e w' => e = .returned (.string ⟨(sumL s.data.toList).toArray⟩) ∧ Below w.heap.size w w' := by
  refine (callsIn_wide (n := 3)).1 ?_
  refine callsIn_of_wp_marks Tryd.func14 rfl trivial ?_ rfl
  simp only [Tryd.ntmps14, List.size_toArray, List.length_cons, List.length_nil, Nat.reduceAdd, Nat.reduceSub, Array.replicate_succ, Array.replicate_zero, List.push_toArray, List.append_toArray, List.nil_append, List.cons_append]
  obtain ⟨p, hp⟩ : ∃ p : ByteArray, p = ⟨(padL s.size).toArray⟩ := ⟨_, rfl⟩
  have hpad : ∀ V : World, Calls Tryd.prog 28 #[.int .i64 (s.size : Int)] V fun e w' => e = .returned (.tuple #[.string p, .bool true]) ∧ Below V.heap.size V w' := by rw [hp]; exact fun V => pad_yes s.size hs V
  have hpl : p.data.toList = padL s.size := by rw [hp]
  have hps : p.size ≤ 1000 := by have := (pad_le s.size).1; rw [hp, size_mk]; omega
  have hpm : (s.data.toList ++ p.data.toList).length % 64 = 0 := by rw [hpl, List.length_append]; exact pad_mod s.size
  have HPAD := Lib.hid hpad
  have HPL := Lib.hid hpl
  have HPM := Lib.hid hpm
  clear hp hpad hpl hpm
  gi_wp2_with (first
    | (refine ⟨trivial, ?_⟩; gi_at_call 28; refine (callsIn_wide.2 (HPAD.out w)).mono ?_; rintro e w1 ⟨rfl, hb1⟩)
    | (refine ⟨trivial, ?_⟩; gi_at_call 29; refine (callsIn_wide.2 (start_any _)).mono ?_; rintro e w2 ⟨rfl, hb2⟩; unfold St.v)
    | (refine ⟨trivial, ?_⟩; gi_at_call 30; refine (callsIn_wide.2 (blocks_any s p _)).mono ?_; rintro e w3 ⟨rfl, rfl⟩))
  have hbw : Below w.heap.size w w2 := hb1.next hb2
  have hs1 := hb1.size
  have hs2 := hb2.size
  clear hb1 hb2
  have hW : Below w.heap.size w (((w2.alloc (.cells (i64s st0) 63)).alloc (.cells #[.string s] 9)).alloc (.cells #[.string p] 9)) :=
    ((hbw.alloc (by omega) _).alloc (by simp; omega) _).alloc (by simp; omega) _
  have hr : (((w2.alloc (.cells (i64s st0) 63)).alloc (.cells #[.string s] 9)).alloc (.cells #[.string p] 9)).rowIs w2.heap.size 63 8 (fun j => .int .i64 ((foldS []).at j : Nat)) :=
    ((World.rowIs_alloc w2 (i64s st0) 63 (fun j => .int .i64 (st0.at j : Nat)) (fun j hj => rowA_at .i64 8 st0.at j hj)).alloc _).alloc _
  have hc1 : (((w2.alloc (.cells (i64s st0) 63)).alloc (.cells #[.string s] 9)).alloc (.cells #[.string p] 9)).cell? ⟨w2.heap.size + 1, 0, none⟩ = some (.string s) := by go_simp
  have hf1 : (((w2.alloc (.cells (i64s st0) 63)).alloc (.cells #[.string s] 9)).alloc (.cells #[.string p] 9)).frozen? ⟨w2.heap.size + 1, 0, none⟩ = false := by go_simp
  have hc2 : (((w2.alloc (.cells (i64s st0) 63)).alloc (.cells #[.string s] 9)).alloc (.cells #[.string p] 9)).cell? ⟨w2.heap.size + 1 + 1, 0, none⟩ = some (.string p) := by go_simp
  have hsz : (((w2.alloc (.cells (i64s st0) 63)).alloc (.cells #[.string s] 9)).alloc (.cells #[.string p] 9)).heap.size = w2.heap.size + 1 + 1 + 1 := by simp
  unfold i64s at hW hr hc1 hf1 hc2 hsz
  generalize (((w2.alloc _).alloc _).alloc _) = W at *
  generalize w2.heap.size = N at *
  obtain ⟨L, hL⟩ : ∃ L, L = s.data.toList ++ p.data.toList := ⟨_, rfl⟩
  refine wpIn_range_cell (xs := chunksB (s.data.toList ++ p.data.toList)) rfl (by omega) (gf := 51) (lb := #[.pointer (some ⟨N + 1, 0, none⟩), .pointer (some ⟨N + 1 + 1, 0, none⟩)]) rfl trivial
    (enters_of Tryd.func51 (by kernel_rfl) rfl) (B := N + 1) (encs := fun x => #[.string x]) (by omega) (fun k hk => by omega) (blocks1_in Fence.wide 2 trivial rfl (by omega) (N + 1) (N + 1 + 1) s p W hc1 hf1 hc2 (by omega) hps HPM.out) (fun _ => rfl)
    (fun pre V => V.rowIs N 63 8 (fun j => .int .i64 ((foldS pre).at j : Nat)) ∧ Below w.heap.size w V ∧ N + 1 + 1 < V.heap.size)
    (fun pre A v h => ⟨h.1.setOther (by simp) v, h.2.1.setCell (p := ⟨N + 1, 0, none⟩) (by simp; omega) v, by simpa using h.2.2⟩)
    (fun pre A A' h hb => ⟨h.1.of_block (hb.block _ (by omega)), h.2.1.trans (hb.mono (by omega)), Nat.lt_of_lt_of_le h.2.2 hb.size⟩) ⟨hr, hW, by omega⟩
    (fun x => { tmps := #[.string s, undef, .string ⟨#[]⟩, .string p, .bool true, .pointer (some ⟨N, 0, none⟩), .string x, undef, undef, .tuple #[.string p, .bool true], .string s, .int .i64 s.size, .tuple #[.string p, .bool true], .string p, .bool true, .bool true, .bool false,
      .agg #[.int .i64 st0.a, .int .i64 st0.b, .int .i64 st0.c, .int .i64 st0.d, .int .i64 st0.e, .int .i64 st0.f, .int .i64 st0.g, .int .i64 st0.h], .string s, .string p,
      .func (.func 51) #[] #[.pointer (some ⟨N + 1, 0, none⟩), .pointer (some ⟨N + 1 + 1, 0, none⟩)], .string x, undef, undef, undef, undef, undef, undef, undef, undef, undef, undef, undef, undef], defers := [] }) ?assign ?body ?done
  case assign =>
    intro l x V K hKx
    gi_wp2
    exact hKx
  case body =>
    rintro l pre x V hpx ⟨hrv, hbv, hsv⟩
    have hx := chunksB_size _ _ _ hpx
    have hok := foldS_ok pre
    have HN := Lib.hid (foldS_snoc pre x)
    have hcons : Consts V := hK.keep hbv
    have hNV := hrv.lt
    have HSV := Lib.hid hsv
    clear hsv
    generalize foldS (pre ++ [x]) = S' at *
    generalize foldS pre = S at *
    obtain ⟨c0, c1, c2, c3, c4, c5, c6, c7⟩ := row8_i64 hrv
    gi_wp2_with (refine ⟨trivial, ?_⟩; gi_at_call 31; refine (CallsIn.inRound l (callsIn_wide.2 (step_lit S hok x hx S' HN.out.symm V hcons))).mono ?_; rintro e V2 ⟨rfl, hb2⟩; clear c0 c1 c2 c3 c4 c5 c6 c7; have hr2 := rowIs_keep hrv hb2; obtain ⟨d0, d1, d2, d3, d4, d5, d6, d7⟩ := row8_i64 hr2; have df := hr2.frozen)
    have hsv := HSV.out
    refine ⟨(others_of_below hb2).trans ((((((((KeepsOthers.setCell _ _ _).trans (KeepsOthers.setCell _ _ _)).trans (KeepsOthers.setCell _ _ _)).trans (KeepsOthers.setCell _ _ _)).trans (KeepsOthers.setCell _ _ _)).trans (KeepsOthers.setCell _ _ _)).trans (KeepsOthers.setCell _ _ _)).trans (KeepsOthers.setCell _ _ _)),
      ⟨(heap8_set (k := N + 1) (by omega) _ _ _ _ _ _ _ _).trans (hb2.block (N + 1) (by omega)), (heap8_set (k := N + 1 + 1) (by omega) _ _ _ _ _ _ _ _).trans (hb2.block (N + 1 + 1) (by omega))⟩, row8_seti hr2 S', below8_set (hbv.next' hb2) (by omega) _ _ _ _ _ _ _ _, ?_⟩
    have h1 := hb2.size
    have h2 := HSV.out
    omega
  case done =>
    rintro D V hD ⟨hrv, hbv, hsv⟩ hKd
    have hok := foldS_ok (chunksB (s.data.toList ++ p.data.toList))
    have hsl : Sl V (some ⟨N, 0, none⟩) (ints (foldS (chunksB (s.data.toList ++ p.data.toList))).l) := Sl_of_row hrv
    have HR := Lib.hid (show sumL s.data.toList = joinL true (foldS (chunksB (s.data.toList ++ p.data.toList))).l by
      rw [sumL, foldS_chunks, HPL.out]; rfl)
    generalize foldS (chunksB (s.data.toList ++ p.data.toList)) = S at *
    have hDV := (Array.getElem?_eq_some_iff.1 hKd).1
    gi_wp2_with (refine ⟨trivial, ?_⟩; gi_at_call 32; refine (callsIn_wide.2 (join_any (some ⟨N, 0, none⟩) 8 S.l true V (by simp [St.l]) hsl (St.l_lt hok))).mono ?_; rintro e V3 ⟨rfl, hb3⟩)
    have hK3 := (hb3.block D hDV).trans hKd
    refine ⟨by simp, .inl ⟨_, _, rfl, run_takeDeferred hK3, ?_⟩⟩
    have hbd : Below w.heap.size w (V3.putObj D (.deferred none)) := (hbv.next' hb3).trans ((Below.refl w.heap.size V3).grown (grownBy_putObj' V3 D _) (by have := hbv.size; have := hb3.size; omega) (fun k e => by cases e; omega))
    exact ⟨_, results_tmp rfl _ _ _, by rw [HR.out]; rfl, hbd⟩
end Go.Proofs.YtlkdofghhibmbaaDoor
