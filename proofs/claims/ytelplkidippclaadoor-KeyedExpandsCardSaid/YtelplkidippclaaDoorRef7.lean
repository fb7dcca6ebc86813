/-
  keyholeref02.spread: the contract.
-/
import Derived.Test.YtelplkidippclaaDoorRef5
import Derived.Deep.RegionLaw
namespace Go.Proofs.YtelplkidippclaaDoor
open Go.RowKit Go.Kx
set_option maxRecDepth 20000

theorem rback_v (x n : Nat) (m : Int) (hm : m = (n : Int)) (hx : x < 4294967296) (hn : n ≤ 32) (y : Nat) (hy : bk x n = y) (w : World) :
    Calls Tryd.prog 52 #[.int .i64 x, .int .i64 m] w fun e w' => e = .returned (.int .i64 (y : Nat)) ∧ w' = w := by
  subst hy; exact rback_any x n m hm hx hn w
theorem fall_v (x n : Nat) (m : Int) (hm : m = (n : Int)) (hx : x < 4294967296) (hn : n ≤ 32) (y : Nat) (hy : x / 2 ^ n = y) (w : World) :
    Calls Tryd.prog 65 #[.int .i64 x, .int .i64 m] w fun e w' => e = .returned (.int .i64 (y : Nat)) ∧ w' = w := by
  subst hy; exact fall_any x n m hm hx hn w
theorem three_v (a b c : Nat) (ha : a < 4294967296) (hb : b < 4294967296) (hc : c < 4294967296) (y : Nat) (hy : (a ^^^ b) ^^^ c = y) (w : World) :
    Calls Tryd.prog 50 #[.int .i64 a, .int .i64 b, .int .i64 c] w fun e w' => e = .returned (.int .i64 (y : Nat)) ∧ w' = w := by
  subst hy; exact three_any a b c ha hb hc w
theorem both_v (a b : Nat) (ha : a < 4294967296) (hb : b < 4294967296) (y : Nat) (hy : a &&& b = y) (w : World) :
    Calls Tryd.prog 49 #[.int .i64 a, .int .i64 b] w fun e w' => e = .returned (.int .i64 (y : Nat)) ∧ w' = w := by
  subst hy; exact both_any a b ha hb w
theorem unlike_v (a b : Nat) (ha : a < 4294967296) (hb : b < 4294967296) (y : Nat) (hy : a ^^^ b = y) (w : World) :
    Calls Tryd.prog 37 #[.int .i64 a, .int .i64 b] w fun e w' => e = .returned (.int .i64 (y : Nat)) ∧ w' = w := by
  subst hy; exact unlike_any a b ha hb w
theorem radd_v (n : Nat) (c : Nat) (xs : List Nat) (l : Nat) (hl : l = xs.length) (w : World) (hm : xs.length ≤ 1000) (hx : ∀ x ∈ xs, x < 4294967296) (hs : Sl w (some ⟨n, 0, none⟩) (ints xs)) (y : Nat) (hy : addL xs = y) :
    Calls Tryd.prog 51 #[.slice (some ⟨n, 0, none⟩) l c] w fun e w' => e = .returned (.int .i64 (y : Nat)) ∧ w' = w := by
  subst hy; subst hl; exact radd_any _ c xs w (by omega) hx hs
theorem addL4 (a b c d : Nat) : addL [a, b, c, d] = (a + b + c + d) % 4294967296 := by simp [addL]
theorem own_cell {w : World} {base g n c : Nat} {e : TypeId} {xs : List Value} (h : w.ownsRow base e 1 (.slice (some ⟨g, 0, none⟩) n c) n xs) {j : Nat} {u : Value} (hu : xs[j]? = some u) : w.cell? ⟨g, j, none⟩ = some u := by
  have := h.cells (g := g) rfl j u hu
  rw [← this]
  congr 1
  unfold Addr.add
  split <;> simp_all
theorem Sl_drew {w : World} {A : Option Addr} {vs : List Value} (h : Sl w A vs) : Sl w.drew A vs := h
def rowL (W : Nat → Nat) (n : Nat) : List Nat := (List.range n).map W
theorem rowL_length (W : Nat → Nat) (n : Nat) : (rowL W n).length = n := by simp [rowL]
theorem rowL_get (W : Nat → Nat) (n j : Nat) (h : j < n) : (ints (rowL W n))[j]? = some (.int .i64 (W j : Nat)) := by simp [rowL, ints, h]
theorem rowL_snoc (W : Nat → Nat) (n : Nat) : ints (rowL W n) ++ [Value.int .i64 (W n : Nat)] = ints (rowL W (n + 1)) := by simp [rowL, ints, List.range_succ]
set_option maxHeartbeats 4000000 in
theorem spread_gen (W : Nat → Nat) (s : ByteArray) (w : World) (hs : s.size = 64) (hcut : cutL true s = rowL W 16) (hWl : ∀ j, W j < 4294967296)
    (hWn : ∀ i, 16 ≤ i → i < 64 → W i = (W (i - 16) + sg0 (W (i - 15)) + W (i - 7) + sg1 (W (i - 2))) % 4294967296) :
    Calls Tryd.prog 47 #[.string s] w fun e w' => ∃ g c, e = .returned (.slice (some ⟨g, 0, none⟩) 64 c) ∧ Sl w' (some ⟨g, 0, none⟩) (ints (rowL W 64)) ∧ Below w.heap.size w w' := by
  obtain ⟨i0, hi, hz0, hz1, hz2⟩ := info_parts int_info
  have HWL := Lib.hid hWl
  have HWN := Lib.hid hWn
  have HC := Lib.hid hcut
  clear hcut hWl hWn
  go_enter Tryd.func47, Tryd.ntmps47
  go_wp2_with fail
  refine (rcut_any s true _ (by omega) (by omega)).mono ?_
  rintro e w1 ⟨v, rfl, hown, hb⟩
  rw [HC.out, rowL_length] at hown
  obtain ⟨g, c, rfl, _⟩ := hown.form (by omega)
  go_wp2_with fail
  go_loopw [3, 5, 6, 7, 8, 9] (fun v i _ _ _ _ wr => ∃ k g c : Nat, 16 ≤ k ∧ k ≤ 64 ∧ i = .int .i64 k ∧ v = .slice (some ⟨g, 0, none⟩) k c ∧ wr.ownsRow w.heap.size 3 1 v k (ints (rowL W k)) ∧ Below w.heap.size w wr) (fun _ i _ _ _ _ _ => 64 - (intOf i).toNat)
  case atStart => exact ⟨16, g, c, by omega, by omega, rfl, rfl, hown, hb⟩
  case round =>
    clear hown hb
    obtain ⟨k, g, c, hk1, hk2, rfl, rfl, hown, hb⟩ := hrel
    by_cases hl : k < 64
    · have c16 := own_cell hown (rowL_get W k (k - 16) (by omega))
      have c15 := own_cell hown (rowL_get W k (k - 15) (by omega))
      have c7 := own_cell hown (rowL_get W k (k - 7) (by omega))
      have c2 := own_cell hown (rowL_get W k (k - 2) (by omega))
      have l16 := HWL.out (k - 16)
      have l15 := HWL.out (k - 15)
      have l7 := HWL.out (k - 7)
      have l2 := HWL.out (k - 2)
      have hlk := HWL.out k
      have HSN := Lib.hid (rowL_snoc W k)
      have HN := Lib.hid (HWN.out k hk1 hl)
      generalize rowL W k = ws at *
      generalize W (k - 15) = p at *
      generalize W (k - 2) = q at *
      generalize W (k - 16) = x at *
      generalize W (k - 7) = y at *
      generalize W k = wk at *
      have w16 : IntKind.i64.wrap ((k : Int) - 16) = (k : Int) - 16 := IntWalk.i64_in _ (by omega)
      have w15 : IntKind.i64.wrap ((k : Int) - 15) = (k : Int) - 15 := IntWalk.i64_in _ (by omega)
      have w7 : IntKind.i64.wrap ((k : Int) - 7) = (k : Int) - 7 := IntWalk.i64_in _ (by omega)
      have w2 : IntKind.i64.wrap ((k : Int) - 2) = (k : Int) - 2 := IntWalk.i64_in _ (by omega)
      have n16 : ((k : Int) - 16).toNat = k - 16 := by omega
      have n15 : ((k : Int) - 15).toNat = k - 15 := by omega
      have n7 : ((k : Int) - 7).toNat = k - 7 := by omega
      have n2 : ((k : Int) - 2).toNat = k - 2 := by omega
      have p16 : 0 ≤ (k : Int) - 16 := by omega
      have p15 : 0 ≤ (k : Int) - 15 := by omega
      have p7 : 0 ≤ (k : Int) - 7 := by omega
      have p2 : 0 ≤ (k : Int) - 2 := by omega
      have q16 : (16 : Int) ≤ (k : Int) := by omega
      have q7 : (7 : Int) ≤ (k : Int) := by omega
      have b16 : (k : Int) - 16 < (k : Int) := by omega
      have b15 : (k : Int) - 15 < (k : Int) := by omega
      have b7 : (k : Int) - 7 < (k : Int) := by omega
      have b2 : (k : Int) - 2 < (k : Int) := by omega
      obtain ⟨pa, hpa⟩ : ∃ a, bk p 7 = a := ⟨_, rfl⟩
      obtain ⟨pb, hpb⟩ : ∃ a, bk p 18 = a := ⟨_, rfl⟩
      obtain ⟨pc, hpc⟩ : ∃ a, p / 2 ^ 3 = a := ⟨_, rfl⟩
      obtain ⟨qa, hqa⟩ : ∃ a, bk q 17 = a := ⟨_, rfl⟩
      obtain ⟨qb, hqb⟩ : ∃ a, bk q 19 = a := ⟨_, rfl⟩
      obtain ⟨qc, hqc⟩ : ∃ a, q / 2 ^ 10 = a := ⟨_, rfl⟩
      have lpa : pa < 4294967296 := hpa ▸ bk_lt _ _ l15
      have lpb : pb < 4294967296 := hpb ▸ bk_lt _ _ l15
      have lpc : pc < 4294967296 := by omega
      have lqa : qa < 4294967296 := hqa ▸ bk_lt _ _ l2
      have lqb : qb < 4294967296 := hqb ▸ bk_lt _ _ l2
      have lqc : qc < 4294967296 := by omega
      obtain ⟨sp, hsp⟩ : ∃ a, sg0 p = a := ⟨_, rfl⟩
      obtain ⟨sq, hsq⟩ : ∃ a, sg1 q = a := ⟨_, rfl⟩
      have lsp : sp < 4294967296 := hsp ▸ sg0_lt _ l15
      have lsq : sq < 4294967296 := hsq ▸ sg1_lt _ l2
      have HSP : Hid ((pa ^^^ pb) ^^^ pc = sp) := Lib.hid (by rw [← hsp, ← hpa, ← hpb, ← hpc]; rfl)
      have HSQ : Hid ((qa ^^^ qb) ^^^ qc = sq) := Lib.hid (by rw [← hsq, ← hqa, ← hqb, ← hqc]; rfl)
      have HK : Hid (addL [x, sp, y, sq] = wk) := Lib.hid (by rw [addL4, HN.out, hsp, hsq])
      have HLT : Hid (∀ z ∈ [x, sp, y, sq], z < 4294967296) := Lib.hid (by simp; omega)
      have HPA := Lib.hid hpa
      have HPB := Lib.hid hpb
      have HPC := Lib.hid hpc
      have HQA := Lib.hid hqa
      have HQB := Lib.hid hqb
      have HQC := Lib.hid hqc
      clear hpa hpb hpc hqa hqb hqc hsp hsq HN
      go_wp2_with fail
      refine (rback_v p 7 7 rfl l15 (by omega) pa HPA.out _).mono ?_
      rintro e w' ⟨rfl, rfl⟩
      go_wp2_with fail
      refine (rback_v p 18 18 rfl l15 (by omega) pb HPB.out _).mono ?_
      rintro e w' ⟨rfl, rfl⟩
      go_wp2_with fail
      refine (fall_v p 3 3 rfl l15 (by omega) pc HPC.out _).mono ?_
      rintro e w' ⟨rfl, rfl⟩
      go_wp2_with fail
      refine (three_v pa pb pc lpa lpb lpc sp HSP.out _).mono ?_
      rintro e w' ⟨rfl, rfl⟩
      go_wp2_with fail
      refine (rback_v q 17 17 rfl l2 (by omega) qa HQA.out _).mono ?_
      rintro e w' ⟨rfl, rfl⟩
      go_wp2_with fail
      refine (rback_v q 19 19 rfl l2 (by omega) qb HQB.out _).mono ?_
      rintro e w' ⟨rfl, rfl⟩
      go_wp2_with fail
      refine (fall_v q 10 10 rfl l2 (by omega) qc HQC.out _).mono ?_
      rintro e w' ⟨rfl, rfl⟩
      go_wp2_with fail
      refine (three_v qa qb qc lqa lqb lqc sq HSQ.out _).mono ?_
      rintro e w' ⟨rfl, rfl⟩
      go_wp2_with fail
      have hsz := hb.size
      go_region_law (first
        | (refine step_append_lies _ (by rfl) _ _ _ (by rfl) w.heap.size 3 i0 _ 1 8 Tryd.underlying54 hi hz0 hz1 hz2 rfl (by omega) (.slice (some ⟨g, 0, none⟩) k c) k (ints ws) (by rfl) ((hown.alloc _).alloc _).drew ⟨w'.heap.size + 1, 0, none⟩ 1 1 [.int .i64 (wk : Int)] (by rfl) (by rfl) (by intro j u hj; match j, hj with | 0, hj => (simp at hj; subst hj; simp [Addr.add])) (by simp [Value.oneCell']) (by omega) (by unfold maxLen; omega) (by omega) (by simp; omega) (w'.heap.size + 2) (by simp) ?_; intro gg cap w2 hown2 hgrow hat hlt)
        | (go_simp; go_at_call 51; refine (radd_v _ _ [x, sp, y, sq] _ rfl _ (by simp) HLT.out (Sl_drew (Sl.new' rfl)) wk HK.out).mono ?_; rintro e w'' ⟨rfl, rfl⟩))
      all_goals have hb2 := own_below (((hown.alloc _).alloc _).drew) (((hb.al _).al _).drew) hgrow
      all_goals rw [HSN.out] at hown2
      all_goals clear hown hb hgrow hat hlt c16 c15 c7 c2
      all_goals go_wp2
      all_goals go_roundw
      all_goals first
        | exact ⟨k + 1, gg, cap, by omega, by omega, by go_num, rfl, hown2, hb2⟩
        | (simp [intOf]; omega)
    · obtain rfl : k = 64 := by omega
      obtain ⟨A, c', e, hsl⟩ := own_sl hown
      obtain ⟨rfl, rfl⟩ : some ⟨g, 0, none⟩ = A ∧ c = c' := by simpa using e
      clear e
      go_wp2
      go_ret
      exact ⟨_, _, rfl, hsl, hb⟩
theorem rowL_of (xs : List Nat) (W : Nat → Nat) (n : Nat) (hl : xs.length = n) (h : ∀ j, j < n → W j = xs.getD j 0) : xs = rowL W n := by
  apply List.ext_getElem?
  intro j
  by_cases hj : j < n
  · simp only [rowL, List.getElem?_map, List.getElem?_range hj, Option.map_some, h j hj, List.getD_eq_getElem?_getD]
    rw [List.getElem?_eq_getElem (by omega)]; rfl
  · rw [List.getElem?_eq_none (by omega), List.getElem?_eq_none (by rw [rowL_length]; omega)]
theorem spread_any (s : ByteArray) (w : World) (hs : s.size = 64) :
    Calls Tryd.prog 47 #[.string s] w fun e w' => ∃ g c, e = .returned (.slice (some ⟨g, 0, none⟩) 64 c) ∧ Sl w' (some ⟨g, 0, none⟩) (ints (rowL (fun j => (blkW s.data.toList).getD j 0) 64)) ∧ Below w.heap.size w w' :=
  spread_gen (fun j => (blkW s.data.toList).getD j 0) s w hs (rowL_of _ _ 16 (by rw [cutL_length, hs]) (blkW_old s hs)) (blkW_lt s) (fun i h1 h2 => by have := blkW_next s hs i h1 h2; unfold schedF at this; exact this)
end Go.Proofs.YtelplkidippclaaDoor
