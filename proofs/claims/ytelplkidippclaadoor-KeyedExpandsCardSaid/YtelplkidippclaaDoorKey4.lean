/-
  keyed: the contracts of Expand and Derive.
-/
import Derived.Test.YtelplkidippclaaDoorKey3
import Derived.RangeFuncBox
import Derived.RangeFuncFrom
namespace Go.Proofs.YtelplkidippclaaDoor
open Go.RowKit Go.Kx Go.Shelf
set_option maxRecDepth 20000
attribute [local go_sem] Oper.semAt_some

theorem expand_no (key info : ByteArray) (n : Int) (hn : n < 1 ∨ 8160 < n) (w : World) :
    Calls Tryd.prog 14 #[.string key, .string info, .int .i64 n] w fun e w' => e = .returned (.tuple #[.string ⟨#[]⟩, .int .i64 1]) ∧ Below w.heap.size w w' := by
  by_cases h : n < 1
  · go_enter Tryd.func14, Tryd.ntmps14
    go_wp2
    go_ret2
    exact ⟨rfl, Below.alloc0 _ _⟩
  · have h2 : 8160 < n := by omega
    go_enter Tryd.func14, Tryd.ntmps14
    go_wp2
    go_ret2
    exact ⟨rfl, Below.alloc0 _ _⟩
theorem run_slice_to {P : Program} {t : TypeId} (h : P.underlying t = some .string) (s : ByteArray) (hi : Int) (h0 : 0 ≤ hi) (h2 : hi ≤ (s.size : Int)) (V : World) :
    (Instr.slice t (.string s) none (some (.int .i64 hi)) none).run P V = .ok (.string (s.extract 0 hi.toNat)) V := by
  obtain ⟨m, rfl⟩ := Int.eq_ofNat_of_zero_le h0
  have e1 : (Instr.sliceBound (.int .i64 (m : Int)) s.size .sliceAlen).run P V = .ok m V := by
    simp only [Instr.sliceBound, asIntOf, Sem.run_bind, Sem.run_pure, Result.andThen_ok, if_pos (show 0 ≤ (m : Int) ∧ (m : Int) ≤ (s.size : Int) by omega), Int.toNat_natCast]
  simp only [Instr.slice, Instr.sliceBounds, Sem.run_bind, run_underlying h, Result.andThen_ok, Option.isSome_none, Bool.false_eq_true, if_false, Sem.run_pure, e1, Int.toNat_natCast]
theorem KpB_t {b1 b2 : Nat} {A B C : World} (h : KpB b1 b2 A B) (k : KpB b1 b2 B C) : KpB b1 b2 A C := fun q hq => (k q hq).trans (h q hq)
theorem KpB_b {b1 b2 : Nat} {w : World} (h1 : b1 < w.heap.size) (h2 : b2 < w.heap.size) (_ : 0 < w.heap.size) (W : World) (l : Nat) (o o' : Obj) (hl : w.heap.size ≤ l) (_ : W.heap[l]? = some o) (_ : o.isCells = false) (_ : o.isWalk = false) : KpB b1 b2 W (W.putObj l o') :=
  fun k hk => World.putObj_heap_other (by rcases hk with rfl | rfl | rfl <;> omega)
theorem KpB_set {b1 b2 : Nat} (W : World) (a : Addr) (v : Value) (h1 : b1 ≠ a.block) (h2 : b2 ≠ a.block) (h3 : 0 ≠ a.block) : KpB b1 b2 W (W.setCell a v) :=
  fun k hk => Below.heap_setCell W a v k (by rcases hk with rfl | rfl | rfl <;> assumption)
set_option maxHeartbeats 2000000 in
theorem expand_yes (key info : ByteArray) (n : Nat) (h1 : 1 ≤ n) (h2 : n ≤ 8160) (hk : key.size ≤ 100000000) (hi : info.size ≤ 1000000) (r : ByteArray) (hr : ⟨(expL key.data.toList info.data.toList n).toArray⟩ = r) (w : World) (hK : Consts w) :
    Calls Tryd.prog 14 #[.string key, .string info, .int .i64 n] w fun e w' => e = .returned (.tuple #[.string r, .int .i64 0]) ∧ Below w.heap.size w w' := by
  refine (callsIn_wide (n := 3)).1 ?_
  refine callsIn_of_wp_marks Tryd.func14 rfl trivial ?_ rfl
  simp only [Tryd.ntmps14, List.size_toArray, List.length_cons, List.length_nil, Nat.reduceAdd, Nat.reduceSub, Array.replicate_succ, Array.replicate_zero, List.push_toArray, List.append_toArray, List.nil_append, List.cons_append]
  obtain ⟨l, hl⟩ : ∃ l, blkL key.data.toList = l := ⟨_, rfl⟩
  obtain ⟨d, hd⟩ : ∃ d, kvA l = d := ⟨_, rfl⟩
  have HL : Hid (l.length = 64) := Lib.hid (by rw [← hl, blkL_length])
  have HB : Hid (∀ V : World, Consts V → Calls Tryd.prog 24 #[.string key] V fun e w' => e = .returned (.agg d) ∧ Below V.heap.size V w') := Lib.hid (fun V hV => by rw [← hd, ← hl]; exact blockOf_any key (by omega) V hV)
  have HR : Hid (∀ i, i ≤ 255 → n ≤ 32 * i → (⟨((madeB l info.data.toList i).take n).toArray⟩ : ByteArray) = r) := Lib.hid (fun i hi hn => by rw [← hr, ← hl, expL_of _ _ i n hi hn])
  have HD := Lib.hid hd
  clear hl hd hr
  have hmf : ∀ (fn : Fn) (first cap : Array Value) (w : World), (Instr.makeFunc fn first cap).run Tryd.prog w = .ok (.func fn first cap) w := fun _ _ _ _ => rfl
  have t1 : ¬ (n : Int) < 1 := by omega
  have t2 : ¬ 8160 < (n : Int) := by omega
  have hc0 : Consts ((w.alloc (.cells #[.int .i64 n] 3)).alloc (.cells #[.string ⟨#[]⟩] 9)) := hK.keep (((Below.alloc0 _ _)).al _)
  gi_wp2_with (first
    | (refine ⟨trivial, ?_⟩; gi_at_call 24; refine (callsIn_wide.2 (HB.out _ hc0)).mono ?_; rintro e w1 ⟨rfl, hb1⟩)
    | (refine ⟨trivial, ?_⟩; gi_at_call 27; refine (callsIn_wide.2 (parts_any d info _)).mono ?_; rintro e w3 ⟨rfl, rfl⟩))
  have hbw : Below w.heap.size w w1 := ((Below.alloc0 w _).al _).next' hb1 (by simp)
  have hsz1 : w.heap.size + 1 < w1.heap.size := by have := hb1.size; simp at this; omega
  have cn : w1.cell? ⟨w.heap.size, 0, none⟩ = some (.int .i64 n) := (hb1.cell (p := ⟨w.heap.size, 0, none⟩) (by simp; omega)).trans (by go_simp)
  have cm : w1.cell? ⟨w.heap.size + 1, 0, none⟩ = some (.string ⟨#[]⟩) := (hb1.cell (p := ⟨w.heap.size + 1, 0, none⟩) (by simp)).trans (by go_simp)
  have fm : w1.frozen? ⟨w.heap.size + 1, 0, none⟩ = false := (hb1.frozen (p := ⟨w.heap.size + 1, 0, none⟩) (by simp)).trans (by go_simp)
  have hlt := hK.lt
  have hK1 := hK.keep hbw
  clear hb1 hc0
  obtain ⟨N, hN⟩ : ∃ N, N = w.heap.size := ⟨_, rfl⟩
  obtain ⟨M, hM⟩ : ∃ M, M = w1.heap.size := ⟨_, rfl⟩
  rw [← hN] at cn cm fm hsz1 hbw hlt ⊢
  rw [← hM] at hsz1 ⊢
  have hbV : Below M w1 ((w1.alloc (.cells #[.func (.func 25) #[.agg d] #[]] 39)).alloc (.cells #[.string info] 9)) := by rw [hM]; exact (Below.alloc0 w1 _).al _
  have hVs : ((w1.alloc (.cells #[.func (.func 25) #[.agg d] #[]] 39)).alloc (.cells #[.string info] 9)).heap.size = M + 1 + 1 := by simp [hM]
  have q1 : ((w1.alloc (.cells #[.func (.func 25) #[.agg d] #[]] 39)).alloc (.cells #[.string info] 9)).cell? ⟨M, 0, none⟩ = some (.func (.func 25) #[.agg d] #[]) := by rw [hM]; go_simp
  have q2 : ((w1.alloc (.cells #[.func (.func 25) #[.agg d] #[]] 39)).alloc (.cells #[.string info] 9)).cell? ⟨M + 1, 0, none⟩ = some (.string info) := by rw [hM]; go_simp
  generalize ((w1.alloc _).alloc _) = V at *
  have vn := (hbV.cell (p := ⟨N, 0, none⟩) (by show N < M; omega)).trans cn
  have vm := (hbV.cell (p := ⟨N + 1, 0, none⟩) (by show N + 1 < M; omega)).trans cm
  have vf := (hbV.frozen (p := ⟨N + 1, 0, none⟩) (by show N + 1 < M; omega)).trans fm
  have hbv : Below N w V := hbw.trans (hbV.mono (by omega))
  have hKV : Consts V := hK1.keep (by rw [← hM]; exact hbV)
  have HN := Lib.hid hN
  have HM := Lib.hid hM
  have hltN : M + 1 + 1 = V.heap.size := hVs.symm
  clear cn cm fm hbw hbV hK1 hN hM hVs
  refine wpIn_rangeFunc_ownF rfl (by omega) (gf := 38) (lb := #[.pointer (some ⟨M, 0, none⟩), .pointer (some ⟨M + 1, 0, none⟩)]) rfl trivial
    (enters_of Tryd.func38 (by kernel_rfl) rfl) (parts1_in 2 (by omega) M (M + 1) l HL.out d HD.out info hi V hKV q1 q2) KpB_t (KpB_b (by omega) (by omega) (by omega)) (Below.refl _ _) (fun _ => rfl)
    (fun pre W => (W.cell? ⟨N, 0, none⟩ = some (.int .i64 n) ∧ W.cell? ⟨N + 1, 0, none⟩ = some (.string ⟨(catP pre).toArray⟩) ∧ W.frozen? ⟨N + 1, 0, none⟩ = false ∧ (pre.length ≠ 0 → 32 * pre.length < n)) ∧ Below N w W)
    (fun c pre W => (W.cell? ⟨N, 0, none⟩ = some (.int .i64 n) ∧ W.cell? ⟨N + 1, 0, none⟩ = some (.string ⟨(catP pre).toArray⟩) ∧ c = .exit 0 ∧ n ≤ 32 * pre.length) ∧ Below N w W)
    (OwnFrom.and (Own.from (fun s A B row hs hg hr => ⟨cell_kept hs.1 hg hr, cell_kept hs.2.1 hg hr, (frozen_kept hs.2.1 hg hr).trans hs.2.2.1, hs.2.2.2⟩) _) (ownFrom_below (Nat.le_of_eq HN.out) (by omega)))
    (fun c => OwnFrom.and (Own.from (fun s A B row hs hg hr => ⟨cell_kept hs.1 hg hr, cell_kept hs.2.1 hg hr, hs.2.2⟩) _) (ownFrom_below (Nat.le_of_eq HN.out) (by omega)))
    ⟨⟨vn, vm, vf, fun h => (h rfl).elim⟩, hbv⟩
    (fun x => { tmps := #[.string key, .string info, .int .i64 n, undef, undef, .pointer (some ⟨N, 0, none⟩), .string ⟨#[]⟩, .int .i64 0, .pointer (some ⟨N + 1, 0, none⟩), .string x.1, .int .i64 n, .bool false, .bool false, .int .i64 n, .bool false, .bool false,
      .string key, .agg d, .func (.func 25) #[.agg d] #[], .string info, .func (.func 38) #[] #[.pointer (some ⟨M, 0, none⟩), .pointer (some ⟨M + 1, 0, none⟩)],
      .string x.1, undef, undef, undef, undef, undef, undef, undef, undef, undef, undef], defers := [] }) ?assign ?body ?done ?stop
  case assign =>
    intro q x W K hKx
    gi_wp2
    exact hKx
  case body =>
    rintro q pre x W ⟨⟨en, em, ef, hp⟩, hbW⟩ hlen
    obtain ⟨t, ht⟩ : ∃ t : ByteArray, (⟨(catP pre).toArray⟩ : ByteArray) = t := ⟨_, rfl⟩
    obtain ⟨u, hu⟩ : ∃ u : ByteArray, (⟨(catP (pre ++ [x])).toArray⟩ : ByteArray) = u := ⟨_, rfl⟩
    have hts : t.size = 32 * pre.length := by rw [← ht, size_mk, catP_length]
    have hus : u.size = 32 * (pre.length + 1) := by rw [← hu, size_mk, catP_length, List.length_append]; rfl
    have hx := x.2
    have hadd : ∀ V : World, (Op.stringOp .add t x.1).run Tryd.prog V = .ok (.string u) V := fun V => by
      rw [run_string_add_sum V t x.1 (by omega), ← hu, catP_snoc, ← ht]
      exact congrArg (fun b => Result.ok (Value.string b) V) (by apply ByteArray.ext; simp)
    rw [ht] at em
    clear hltN q1 q2 vn vm vf hbv hKV
    have HUS := Lib.hid hus
    have HU := Lib.hid hu
    have hul : (pre ++ [x]).length = pre.length + 1 := by simp
    generalize hpx : pre ++ [x] = px at *
    clear hts hus hx ht hu hpx hp
    by_cases hle : n ≤ u.size
    · have hle' : (n : Int) ≤ (u.size : Int) := by omega
      gi_wp2
      exact ⟨KeepsOthers.setCell _ _ _, ⟨(World.cell?_setCell_other _ _ _ _ (by simp)).trans en, by rw [HU.out]; exact World.cell?_setCell_same' _ _ _ (by rw [em]; rfl), rfl, by rw [hul, ← HUS.out]; exact hle⟩, hbW.setCell (p := ⟨N + 1, 0, none⟩) (by show N ≤ N + 1; omega) _⟩
    · have hle' : ¬ (n : Int) ≤ (u.size : Int) := by omega
      gi_wp2
      exact ⟨KeepsOthers.setCell _ _ _, KpB_set W _ _ (by show M ≠ N + 1; omega) (by show M + 1 ≠ N + 1; omega) (by show _ ≠ N + 1; omega), ⟨(World.cell?_setCell_other _ _ _ _ (by simp)).trans en, by rw [HU.out]; exact World.cell?_setCell_same' _ _ _ (by rw [em]; rfl), by rw [World.frozen?_setCell]; exact ef, fun _ => by rw [hul, ← HUS.out]; omega⟩, hbW.setCell (p := ⟨N + 1, 0, none⟩) (by show N ≤ N + 1; omega) _⟩
  case done =>
    rintro D xs W hD rfl ⟨⟨en, em, ef, hp⟩, hbW⟩ hKd
    rw [parts32_length] at hp
    exact absurd (hp (by omega)) (by omega)
  case stop =>
    rintro D c pre W hD hpre ⟨⟨en, em, rfl, hle⟩, hbW⟩ hKd
    obtain ⟨hp1, hp2⟩ := parts32_of_prefix _ _ _ _ hpre
    have hcat : catP pre = madeB l info.data.toList pre.length := (congrArg catP hp1).trans (catP_parts _ _ _)
    obtain ⟨m, hm⟩ : ∃ m : ByteArray, (⟨(catP pre).toArray⟩ : ByteArray) = m := ⟨_, rfl⟩
    have hms : m.size = 32 * pre.length := by rw [← hm, size_mk, catP_length]
    have hsl : ∀ V : World, (Instr.slice 9 (.string m) none (some (.int .i64 (n : Int))) none).run Tryd.prog V = .ok (.string r) V := fun V => by
      rw [run_slice_to Tryd.underlying9 m n (by omega) (by omega), Int.toNat_natCast, ← HR.out pre.length hp2 hle, ← hm, hcat]
      exact congrArg (fun b => Result.ok (Value.string b) V) (by apply ByteArray.ext; apply Array.toList_inj.1; rw [Lib.extract_data]; simp)
    rw [hm] at em
    have hbd := hbW.trans (belowK_b (n₀ := N) (w := V) (by omega) W D _ (.deferred none) hD hKd rfl rfl)
    rw [HN.out] at hbd
    clear hm hms hcat hp1 hp2 hpre hle
    gi_wp2
    refine ⟨by simp, .inl ⟨_, _, rfl, run_takeDeferred hKd, ?_⟩⟩
    exact ⟨_, results_tmp2 rfl _ _ _, rfl, hbd⟩
theorem derive_yes (key salt info : ByteArray) (n : Nat) (h1 : 1 ≤ n) (h2 : n ≤ 8160) (hk : key.size ≤ 100000000) (hs : salt.size ≤ 100000000) (hi : info.size ≤ 1000000) (x : ByteArray) (hx : ⟨(macL salt.data.toList key.data.toList).toArray⟩ = x) (r : ByteArray) (hr : ⟨(expL x.data.toList info.data.toList n).toArray⟩ = r) (w : World) (hK : Consts w) :
    Calls Tryd.prog 16 #[.string key, .string salt, .string info, .int .i64 n] w fun e w' => e = .returned (.tuple #[.string r, .int .i64 0]) ∧ Below w.heap.size w w' := by
  have hxs : x.size ≤ 100000000 := by rw [← hx, size_mk, macL_length]; omega
  have HX := Lib.hid hx
  have HR := Lib.hid hr
  clear hx hr
  go_enter Tryd.func16, Tryd.ntmps16
  go_wp2_with fail
  refine (Extract_any salt key hs hk x HX.out _ hK).mono ?_
  rintro e w1 ⟨rfl, hb1⟩
  go_wp2_with fail
  refine (expand_yes x info n h1 h2 hxs hi r HR.out _ (hK.keep hb1)).mono ?_
  rintro e w2 ⟨rfl, hb2⟩
  go_wp2
  go_ret2
  exact ⟨rfl, hb1.next hb2⟩
theorem derive_no (key salt info : ByteArray) (n : Int) (hn : n < 1 ∨ 8160 < n) (hk : key.size ≤ 100000000) (hs : salt.size ≤ 100000000) (w : World) (hK : Consts w) :
    Calls Tryd.prog 16 #[.string key, .string salt, .string info, .int .i64 n] w fun e w' => e = .returned (.tuple #[.string ⟨#[]⟩, .int .i64 1]) ∧ Below w.heap.size w w' := by
  obtain ⟨x, hx⟩ : ∃ x : ByteArray, ⟨(macL salt.data.toList key.data.toList).toArray⟩ = x := ⟨_, rfl⟩
  have HX := Lib.hid hx
  clear hx
  go_enter Tryd.func16, Tryd.ntmps16
  go_wp2_with fail
  refine (Extract_any salt key hs hk x HX.out _ hK).mono ?_
  rintro e w1 ⟨rfl, hb1⟩
  go_wp2_with fail
  refine (expand_no x info n hn _).mono ?_
  rintro e w2 ⟨rfl, hb2⟩
  go_wp2
  go_ret2
  exact ⟨rfl, hb1.next hb2⟩
end Go.Proofs.YtelplkidippclaaDoor
