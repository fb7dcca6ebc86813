/-
  Merged by program: TRo, TTh, Dig3, Shelf, Dig5, Dig6, Dig7, Tqd, Post, Opent, Laidv, LaidDig, Reach.
-/
import Derived.Test.YtgcohoonhklkbaaDoorM4
import Derived.Laws.OwnMore
import Derived.Test.YtgcohoonhklkbaaDoorM2
import Derived.Deep.RegionHeld3
import Derived.Deep.DeepCutAuto
import Derived.Deep.CutBlock
import Derived.Shelf.Strings.Repeat
import Derived.Test.YtgcohoonhklkbaaDoorProg
import Derived.Test.YtgcohoonhklkbaaDoorM1
import Derived.Test.YtgcohoonhklkbaaDoorM3
import Derived.Shelf.Abstract
import Derived.Shelf.RegionOpen
import Derived.OwnWalkIn
import Derived.TacticsInMore
import Derived.LoopNIn
import Derived.LoopIn
import Derived.Lib.SlBytesRow
import Derived.Lib.IndexBytes
import Derived.WalkKit
import Derived.ProofKit
import Derived.OpenShut
import Derived.Carry
import Derived.ChangeMaps5
import Derived.ChangeSlices
import Derived.Test.YtgcohoonhklkbaaDoorChecked
import Derived.SliceStrings
import Derived.LaidMore
import Derived.Stop.Joined
import Derived.Test.YtgcohoonhklkbaaDoorRows

/-
  TreeRoots: the law's walk over the program's words.
-/
namespace Go.Proofs.YtgcohoonhklkbaaDoor
open Go.RowKit Go.Kx Go.Trm
set_option maxRecDepth 20000

set_option maxHeartbeats 4000000 in
theorem roots_walk {N : Nat} (HT : TreeW N) (hN : 1000 ≤ N) (HS : RSum) (l : List ByteArray) (i : Int) (a b : ByteArray) (A : Option Addr) (c : Nat) (ha0 : a.size ≤ 9223372036854775807) (hb0 : b.size ≤ 9223372036854775807)
    (hz : l.length ≤ 9223372036854775807) (hzs : ∀ s ∈ l, s.size ≤ 9223372036854775807) (W : World) (hA : Sl W A (strsV l)) (hK : Consts W) :
    Calls Tryd.prog 3 #[.slice A l.length c, .int .i64 i, .string a, .string b] W fun e W' => e = .returned (.bool true) ∧ Below W.heap.size W W' := by
  have hbig := rbig_any l hz hzs A c W hA
  by_cases b1 : bigN l
  · clear hA hzs
    generalize l.length = x at *
    go_enter Tryd.func3, Tryd.ntmps3
    go_wp2_with fail
    refine hbig.mono ?_
    rintro e W ⟨h, rfl⟩
    rcases h with ⟨-, rfl⟩ | ⟨h4, -⟩
    rotate_left
    · exact absurd b1 h4
    go_wp2
    go_ret
    exact ⟨rfl, Below.refl _ _⟩
  by_cases h2 : 300 < a.size ∨ 300 < b.size
  · clear hA hzs
    generalize l.length = x at *
    rcases (by omega : 300 < a.size ∨ (¬ 300 < a.size ∧ 300 < b.size)) with h3 | h3
    all_goals
      first
        | have t1 : (300 : Int) < (a.size : Int) := by omega
        | (have t1 : ¬ (300 : Int) < (a.size : Int) := by omega
           have t2 : (300 : Int) < (b.size : Int) := by omega)
      clear h2 h3
      go_enter Tryd.func3, Tryd.ntmps3
      go_wp2_with fail
      refine hbig.mono ?_
      rintro e W ⟨h, rfl⟩
      rcases h with ⟨h4, -⟩ | ⟨-, rfl⟩
      · exact absurd h4 b1
      go_wp2
      go_ret
      exact ⟨rfl, Below.refl _ _⟩
  have t1 : ¬ (300 : Int) < (a.size : Int) := by omega
  have t2 : ¬ (300 : Int) < (b.size : Int) := by omega
  obtain ⟨l1, l2⟩ := not_big b1
  have ls : ∀ s ∈ l, s.size ≤ 1000 := fun s hs => by have := l2 s hs; omega
  have lsN : ∀ s ∈ l, s.size ≤ N := fun s hs => by have := l2 s hs; omega
  obtain ⟨r, k, hr⟩ : ∃ r k, rootR l = (r, k) := ⟨_, _, rfl⟩
  obtain ⟨ps, kk, hp⟩ : ∃ ps kk, pathR l i = (ps, kk) := ⟨_, _, rfl⟩
  obtain ⟨da, hda⟩ : ∃ d : ByteArray, leafL sumL a.data.toList = d.data.toList := ⟨toB (leafL sumL a.data.toList), (toB_list _).symm⟩
  obtain ⟨dn, hdn⟩ : ∃ d : ByteArray, nodeL sumL a.data.toList b.data.toList = d.data.toList := ⟨toB (nodeL sumL a.data.toList b.data.toList), (toB_list _).symm⟩
  have hpl : ps.length ≤ 1200 := by
    unfold pathR at hp
    split at hp
    · next h =>
      obtain ⟨⟨d, hd10, hd⟩, h3, h4⟩ := h
      rw [hd, Nat.log2_two_pow] at hp
      rw [← (Prod.mk.inj hp).1, List.length_map, pathL_length]
      omega
    · rw [← (Prod.mk.inj hp).1]; exact Nat.zero_le _
  have O1 := own_texts l (by omega) A c W hA
  have R1 := Lib.hid (HT.root l A c r k (by omega) lsN hr)
  have R2 := Lib.hid fun A0 c0 => rroot_any HS l A0 c0 (by omega) ls r k hr
  have R3 := Lib.hid (HT.path l A c i ps kk (by omega) lsN hp)
  have R4 := Lib.hid fun A0 c0 => rpath_any HS l A0 c0 (by omega) ls i ps kk hp
  have R5 := Lib.hid (HT.leaf a da (by omega) hda)
  have R6 := Lib.hid (rleaf_any HS a da (by omega) hda)
  have R7 := Lib.hid (HT.node a b dn (by omega) (by omega) hdn)
  have R8 := Lib.hid (rnode_any HS a b dn (by omega) (by omega) hdn)
  have R9 := Lib.hid fun V => roots_true HT (by omega) V
  have RT := Lib.hid fun (A1 A2 : Option Addr) (c1 c2 : Nat) V => texts_any A1 A2 c1 c2 ps ps V (by omega) true (by simp)
  have RU := Lib.hid fun (A1 A2 : Option Addr) (c1 c2 : Nat) V => texts_any A1 A2 c1 c2 l l V (by omega) true (by simp)
  have HA := Lib.hid hA
  have B1 := Lib.hid b1
  clear hr hp hda hdn l2 ls lsN b1 h2 hzs hA HT HS
  generalize l.length = x at *
  obtain ⟨n, hn⟩ : ∃ n, ps.length = n := ⟨_, rfl⟩
  have HN := Lib.hid hn
  rw [hn] at hpl
  clear hn
  go_enter Tryd.func3, Tryd.ntmps3
  go_wp2_with fail
  refine hbig.mono ?_
  rintro e W ⟨h, rfl⟩
  rcases h with ⟨h4, -⟩ | ⟨-, rfl⟩
  · exact absurd h4 B1.out
  clear hbig
  go_wp2_with fail
  refine O1.mono ?_
  rintro e w1 ⟨v0, rfl, hown0, hb1⟩
  obtain ⟨A0, c0, rfl, hS0⟩ := own_sl hown0
  clear O1 hown0
  go_wp2_with fail
  refine (R1.out _ (hK.keep hb1) (HA.out.keep hb1)).mono ?_
  rintro e w2 ⟨rfl, hq⟩
  have hb2 := hb1.next hq
  replace hS0 := hS0.keep hq
  clear hb1 hq
  go_wp2_with fail
  refine (R2.out A0 c0 _ hS0).mono ?_
  rintro e w3 ⟨rfl, hq⟩
  have hb3 := hb2.next hq
  replace hS0 := hS0.keep hq
  clear hb2 hq
  go_wp2_with fail
  refine (R3.out _ (hK.keep hb3) (HA.out.keep hb3)).mono ?_
  rintro e w4 ⟨v, rfl, hown, hP4⟩
  rw [HN.out] at hown
  obtain ⟨A1, c1, rfl, hS1⟩ := own_sl hown
  have hS0' := hS0.keep hP4
  go_wp2_with fail
  refine (R4.out A0 c0 _ hS0').mono ?_
  rintro e w5 ⟨v, rfl, hown2, hq⟩
  rw [HN.out] at hown2
  obtain ⟨A2, c2, rfl, hS2⟩ := own_sl hown2
  have hP5 := hP4.next hq
  have hown5 := own_keep hown hq
  replace hS1 := hS1.keep hq
  clear hown2 hP4 hown hq hS0'
  have htx := RT.out A1 A2 c1 c2 _ hS1 hS2
  rw [HN.out] at htx
  go_wp2_with fail
  refine htx.mono ?_
  rintro e w6 ⟨rfl, q6, rfl⟩
  have hq := Below.drewN0 w5 q6
  have hP6 := hP5.next hq
  have hown6 := own_keep hown5 hq
  clear htx hS1 hS2 hP5 hown5 hq
  generalize w5.drewN q6 = w6 at *
  go_wp2_with fail
  refine (R5.out _ (hK.keep (hb3.next hP6))).mono ?_
  rintro e w7 ⟨rfl, hq⟩
  have hP7 := hP6.next hq
  have hown7 := own_keep hown6 hq
  clear hP6 hown6 hq
  go_wp2_with fail
  refine (R6.out _).mono ?_
  rintro e w8 ⟨rfl, hq⟩
  have hP8 := hP7.next hq
  have hown8 := own_keep hown7 hq
  clear hP7 hown7 hq
  go_wp2_with fail
  refine (R7.out _ (hK.keep (hb3.next hP8))).mono ?_
  rintro e w9 ⟨rfl, hq⟩
  have hP9 := hP8.next hq
  have hown9 := own_keep hown8 hq
  clear hP8 hown8 hq
  go_wp2_with fail
  refine (R8.out _).mono ?_
  rintro e w10 ⟨rfl, hq⟩
  have hP := hP9.next hq
  have hown := own_keep hown9 hq
  clear hP9 hown9 hq
  go_wp2
  go_loopw [19] (fun kv wr => ∃ (k : Nat) (xs : List Value), kv = .int .i64 (k : Int) ∧ k ≤ n ∧ wr.ownsRow w3.heap.size 9 1 (.slice A1 n c1) n xs ∧ Below w3.heap.size w3 wr) (fun kv _ => n - (intOf kv).toNat)
  case atStart => exact ⟨0, _, rfl, Nat.zero_le _, hown, hP⟩
  case round =>
    clear hown hP
    obtain ⟨k, xs, rfl, hk, hown, hP⟩ := hrel
    by_cases hlt : k < n
    · obtain ⟨g, c', e, hg, hl, hc⟩ := own_vals hown (by omega)
      obtain ⟨rfl, rfl⟩ : A1 = some ⟨g, 0, none⟩ ∧ c1 = c' := by simpa using e
      obtain ⟨u, hcell⟩ : ∃ u, wr.cell? ⟨g, k, none⟩ = some u := ⟨_, hc k _ (List.getElem?_eq_getElem (by omega))⟩
      have hfro := World.ownsRow.frozenAt hown k
      obtain ⟨hown2, hgrow⟩ := World.ownsRow.stored hown k (.string ⟨#[115, 109, 117, 100, 103, 101]⟩)
      have hP2 := own_below hown hP (w1 := wr.setCell ⟨g, k, none⟩ (.string ⟨#[115, 109, 117, 100, 103, 101]⟩)) hgrow
      clear hc hl e hown hP hgrow hg
      go_wp2
      go_roundw
      case rel => exact ⟨k + 1, _, by go_num, by omega, hown2, hP2⟩
      case measure => simp [intOf]; omega
    · obtain rfl : k = n := by omega
      have hb := hb3.next hP
      go_wp2_with fail
      refine (R9.out _ (hK.keep hb)).mono ?_
      rintro e w11 ⟨rfl, hq⟩
      have hbb := hb.next hq
      have hS := (hS0.keep hP).keep hq
      clear hq hown hP hb hS0
      go_wp2_with fail
      refine (RU.out A A0 c c0 _ (HA.out.keep hbb) hS).mono ?_
      rintro e w12 ⟨rfl, q, rfl⟩
      go_wp2
      go_ret
      exact ⟨rfl, hbb.next (Below.drewN0 _ _)⟩
end Go.Proofs.YtgcohoonhklkbaaDoor

/-
  TreeTold: the law's walk over the program's words, rows of texts of any size.
-/
namespace Go.Proofs.YtgcohoonhklkbaaDoor
open Go.RowKit Go.Kx Go.Trm
set_option maxRecDepth 20000

theorem pairs_leH : ∀ (r : List Txt), ∀ x ∈ pairsL sumH r, x.length ≤ 32
  | [], x, h => by cases h
  | [_], x, h => by cases h
  | a :: b :: r, x, h => by
    rw [pairsL] at h
    rcases List.mem_cons.1 h with rfl | h
    · exact sumH_le _
    · exact pairs_leH r x h
theorem rows_leH (l : List Txt) : ∀ k, ∀ x ∈ rowL sumH l k, x.length ≤ 32
  | 0, x, h => by
    obtain ⟨y, -, rfl⟩ := List.mem_map.1 h
    exact sumH_le _
  | k + 1, x, h => pairs_leH _ x h
theorem path_leH (l : List Txt) (i d : Nat) : ∀ p ∈ pathL sumH l i d, p.length ≤ 32 := fun p hp => by
  obtain ⟨q, -, rfl⟩ := List.mem_map.1 hp
  rw [List.getD]
  cases h : (rowL sumH l q)[partN (i / 2 ^ q)]? with
  | none => simp
  | some x => exact rows_leH l q x (List.mem_of_getElem? h)
theorem ways_leH {N : Nat} (hN : 65 ≤ N) : ∀ (ps : List Txt) (i : Nat) (x : Txt), x.length ≤ N → (∀ p ∈ ps, p.length ≤ 32) → ∀ k, ((waysL sumH i x ps).getD k []).length ≤ N
  | [], _, x, hx, _, 0 => hx
  | [], _, x, hx, _, k + 1 => by simp [waysL]
  | p :: ps, i, x, hx, hp, 0 => hx
  | p :: ps, i, x, hx, hp, k + 1 => by
    rw [waysL, List.getD_cons_succ]
    refine ways_leH hN ps (i / 2) (stepW sumH i x p) ?_ (fun q hq => hp q (List.mem_cons_of_mem _ hq)) k
    have h1 := hp p List.mem_cons_self
    have h2 := sumH_le x
    unfold stepW ofNodeL
    split <;> simp only [List.length_cons, List.length_append] <;> omega
theorem step_injH {i : Nat} {x y p q : Txt} (hp : p.length ≤ 32) (hy : (sumH y).length = 32) (hq : q.length = 32) (h : stepW sumH i x p = stepW sumH i y q) : sumH x = sumH y := by
  have hx := sumH_le x
  have hl := congrArg List.length h
  unfold stepW at h hl
  split at h
  · rename_i h2
    rw [if_pos h2, if_pos h2] at hl
    simp only [ofNodeL, List.length_cons, List.length_append] at hl
    exact (ofNode_inj (by omega) h).1
  · rename_i h2
    rw [if_neg h2, if_neg h2] at hl
    simp only [ofNodeL, List.length_cons, List.length_append] at hl
    exact (ofNode_inj (by omega) h).2
theorem pathH_len {l : List ByteArray} {d n : Nat} {ps : List ByteArray} (hd : l.length = 2 ^ d) (h : d ≤ 10) (hn : n < l.length) (hp : pathH l (n : Int) = (ps, 0)) : ps.length = d := by
  rw [pathH_yes hd h hn] at hp
  rw [← (Prod.mk.inj hp).1, List.length_map, pathL_length]
/-- What Trace shows where the text that is checked is another. -/
theorem trcH_shows {l : List ByteArray} {n d : Nat} {s : ByteArray} {path : List ByteArray} (h : trcHok l n d s path) (hs : s.size ≤ 300) (hl : ∀ t ∈ l, t.size ≤ 140737488351232) :
    ∃ x y, trcH l (n : Int) s path = some (x, y) ∧ x ≠ y ∧ sumH x = sumH y ∧ x.length ≤ 140737488355328 ∧ y.length ≤ 140737488355328 := by
  have hA := trcH_yes h
  obtain ⟨hd, hd10, hn, hp, hne, hok, hc⟩ := h
  have hx : (txtsL l).getD n [] = l[n].data.toList := txtsL_get l hn
  have hxl : ((txtsL l).getD n []).length ≤ 140737488351232 := by
    rw [hx]
    have := hl _ (List.getElem_mem hn)
    simpa using this
  have hxy : (wayA l n d).getD 0 [] ≠ (wayB n s path).getD 0 [] := fun e => by
    rw [wayA, wayB, waysL_zero, waysL_zero] at e
    have e2 := ofLeaf_inj e
    rw [hx] at e2
    apply hne
    rw [List.getElem?_eq_getElem hn]
    exact congrArg some (ByteArray.ext (Array.toList_inj.1 e2))
  obtain ⟨k, hk, h1, h2, h3⟩ := lastDiff_some (wayA l n d) (wayB n s path) (d + 1) ⟨0, by omega, hxy⟩
  have ha : ∀ k, ((wayA l n d).getD k []).length ≤ 140737488355328 := fun k => ways_leH (by omega) _ _ _ (by simp only [ofLeafL, List.length_cons]; omega) (path_leH _ _ _) k
  have hsl : (ofLeafL s.data.toList).length ≤ 1000 := by
    have : s.data.toList.length = s.size := by simp
    simp only [ofLeafL, List.length_cons]
    omega
  have hb : ∀ k, ((wayB n s path).getD k []).length ≤ 1000 := fun k => ways_leH (by omega) _ _ _ hsl (ok_le hok) k
  rw [h1] at hA
  refine ⟨_, _, hA, h2, ?_, ha k, Nat.le_trans (hb k) (by omega)⟩
  have hl' : (txtsL l).length = 2 ^ d := by rw [txtsL_length]; exact hd
  by_cases hkd : k = d
  · subst hkd
    rw [climbL_last, txtsL_length, hp] at hc
    have h4 := ways_row sumH (txtsL l) hl' n (by omega) k (Nat.le_refl _)
    rw [Nat.div_eq_of_lt (by omega : n < 2 ^ k)] at h4
    rw [wayA, h4, wayB, hc]
    rfl
  · have e := h3 (k + 1) (by omega) (by omega)
    rw [wayA, wayB, waysL_get sumH _ _ _ k (by rw [pathL_length]; omega), waysL_get sumH _ _ _ k (by rw [txtsL_length]; omega)] at e
    refine step_injH ?_ (sumH_len (Nat.le_trans (hb k) (by omega))) ?_ e
    · rw [List.getD, List.getElem?_eq_getElem (by rw [pathL_length]; omega)]
      exact path_leH _ _ _ _ (List.getElem_mem _)
    · rw [txtsL_get path (by omega)]
      have := hok.2.2.2 _ (List.getElem_mem (show k < path.length by omega))
      simpa using this
set_option maxHeartbeats 4000000 in
theorem told_walkH (HD : DSumH) (l : List ByteArray) (i : Int) (s : ByteArray) (path : List ByteArray) (A B : Option Addr) (c c' : Nat) (hs0 : s.size ≤ 9223372036854775807)
    (hzl : l.length ≤ 9223372036854775807) (hzsl : ∀ s ∈ l, s.size ≤ 140737488351232) (hz : path.length ≤ 9223372036854775807) (hzs : ∀ s ∈ path, s.size ≤ 9223372036854775807)
    (W : World) (hA : Sl W A (strsV l)) (hB : Sl W B (strsV path)) (hK : Consts W) :
    Calls Tryd.prog 6 #[.slice A l.length c, .int .i64 i, .string s, .slice B path.length c'] W fun e W' => e = .returned (.bool true) ∧ Below W.heap.size W W' := by
  have hbl := rbig_any l hzl (fun s hs => by have := hzsl s hs; omega) A c W hA
  have hbp := rbig_any path hz hzs B c' W hB
  have R9 := Lib.hid fun V => roots_true (treeW_paid HD) (by omega) V
  have hb := Below.refl W.heap.size W
  by_cases b0 : 64 < l.length
  · have t0 : (64 : Int) < (l.length : Int) := by omega
    clear hbl hbp hA hB hzsl hzs
    generalize l.length = x at *
    generalize path.length = z at *
    go_enter Tryd.func6, Tryd.ntmps6
    go_wp2_with fail
    refine (R9.out _ (hK.keep hb)).mono ?_
    rintro e w9 ⟨rfl, hq⟩
    go_wp2
    go_ret
    exact ⟨rfl, hb.next hq⟩
  have t0 : ¬ (64 : Int) < (l.length : Int) := by omega
  by_cases b1 : bigN l ∧ l.length ≤ 16
  · have t1 : (l.length : Int) ≤ 16 := by omega
    have B1 := Lib.hid b1.1
    clear b1 hbp hA hB hzsl hzs
    generalize l.length = x at *
    generalize path.length = z at *
    go_enter Tryd.func6, Tryd.ntmps6
    go_wp2_with fail
    refine hbl.mono ?_
    rintro e W ⟨h, rfl⟩
    rcases h with ⟨-, rfl⟩ | ⟨h4, -⟩
    rotate_left
    · exact absurd B1.out h4
    go_wp2_with fail
    refine (R9.out _ (hK.keep hb)).mono ?_
    rintro e w9 ⟨rfl, hq⟩
    go_wp2
    go_ret
    exact ⟨rfl, hb.next hq⟩
  have B1 : Hid ((bigN l ∧ ¬ l.length ≤ 16) ∨ ¬ bigN l) := Lib.hid (by
    by_cases h : bigN l
    · exact .inl ⟨h, fun h2 => b1 ⟨h, h2⟩⟩
    · exact .inr h)
  clear b1
  have ht1 : Hid (bigN l → ¬ (l.length : Int) ≤ 16) := Lib.hid fun h h2 => by
    rcases B1.out with h3 | h3
    · exact h3.2 (by omega)
    · exact h3 h
  by_cases b2 : bigN path
  · have B2 := Lib.hid b2
    clear b2 hA hB hzsl hzs B1
    generalize l.length = x at *
    generalize path.length = z at *
    go_enter Tryd.func6, Tryd.ntmps6
    go_wp2_with fail
    refine hbl.mono ?_
    rintro e W ⟨h, rfl⟩
    rcases h with ⟨h4, rfl⟩ | ⟨h4, rfl⟩
    all_goals
      (try have t1 := ht1.out h4)
      clear h4
      go_wp2_with fail
      refine hbp.mono ?_
      rintro e W ⟨h, rfl⟩
      rcases h with ⟨-, rfl⟩ | ⟨h4, -⟩
      rotate_left
      · exact absurd B2.out h4
      go_wp2_with fail
      refine (R9.out _ (hK.keep hb)).mono ?_
      rintro e w9 ⟨rfl, hq⟩
      go_wp2
      go_ret
      exact ⟨rfl, hb.next hq⟩
  have B2 := Lib.hid b2
  obtain ⟨p1, -⟩ := not_big b2
  by_cases b3 : 300 < s.size
  · have t3 : (300 : Int) < (s.size : Int) := by omega
    clear b2 b3 hA hB hzsl hzs B1
    generalize l.length = x at *
    generalize path.length = z at *
    go_enter Tryd.func6, Tryd.ntmps6
    go_wp2_with fail
    refine hbl.mono ?_
    rintro e W ⟨h, rfl⟩
    rcases h with ⟨h4, rfl⟩ | ⟨h4, rfl⟩
    all_goals
      (try have t1 := ht1.out h4)
      clear h4
      go_wp2_with fail
      refine hbp.mono ?_
      rintro e W ⟨h, rfl⟩
      rcases h with ⟨h4, -⟩ | ⟨-, rfl⟩
      · exact absurd h4 B2.out
      go_wp2_with fail
      refine (R9.out _ (hK.keep hb)).mono ?_
      rintro e w9 ⟨rfl, hq⟩
      go_wp2
      go_ret
      exact ⟨rfl, hb.next hq⟩
  have t3 : ¬ (300 : Int) < (s.size : Int) := by omega
  obtain ⟨r, k, hr⟩ : ∃ r k, rootH l = (r, k) := ⟨_, _, rfl⟩
  obtain ⟨ps, kk, hps⟩ : ∃ ps kk, pathH l i = (ps, kk) := ⟨_, _, rfl⟩
  have R1 := Lib.hid (troot_any HD l A c (by omega) hzsl r k hr)
  have R2 := Lib.hid (tpath_any HD l A c (by omega) hzsl i ps kk hps)
  have hk : k = 0 ∨ k = 1 := by
    unfold rootH at hr
    split at hr
    · exact .inl (Prod.mk.inj hr).2.symm
    · exact .inr (Prod.mk.inj hr).2.symm
  have HAh := Lib.hid hA
  have HBh := Lib.hid hB
  by_cases b4 : mayN l.length ∧ 0 ≤ i ∧ i < l.length
  rotate_left
  · rw [pathH_no b4] at hps
    obtain rfl := (Prod.mk.inj hps).1
    obtain rfl := (Prod.mk.inj hps).2
    clear b2 b3 b4 hA hB hzsl hzs B1 hr hps
    generalize l.length = x at *
    generalize path.length = z at *
    rcases hk with rfl | rfl
    all_goals
      go_enter Tryd.func6, Tryd.ntmps6
      go_wp2_with fail
      refine hbl.mono ?_
      rintro e W ⟨h, rfl⟩
      rcases h with ⟨h4, rfl⟩ | ⟨h4, rfl⟩
      all_goals
        (try have t1 := ht1.out h4)
        clear h4
        go_wp2_with fail
        refine hbp.mono ?_
        rintro e W ⟨h, rfl⟩
        rcases h with ⟨h4, -⟩ | ⟨-, rfl⟩
        · exact absurd h4 B2.out
        go_wp2_with fail
        refine (R1.out _ hK HAh.out).mono ?_
        rintro e w1 ⟨rfl, hb1⟩
        go_wp2_with fail
        refine (R2.out _ (hK.keep hb1) (HAh.out.keep hb1)).mono ?_
        rintro e w2 ⟨v, rfl, hown, hq⟩
        obtain ⟨A1, c1, rfl, -⟩ := own_sl hown
        replace hb := hb1.next hq
        clear hq hown hb1
        go_wp2_with fail
        refine (R9.out _ (hK.keep hb)).mono ?_
        rintro e w9 ⟨rfl, hq⟩
        go_wp2
        go_ret
        exact ⟨rfl, hb.next hq⟩
  obtain ⟨⟨d, hd10, hd⟩, hi0, hil⟩ := b4
  obtain ⟨n, rfl⟩ := Int.eq_ofNat_of_zero_le hi0
  have hnl : n < l.length := by omega
  obtain rfl : k = 0 := by rw [rootH_yes hd hd10] at hr; exact (Prod.mk.inj hr).2.symm
  have hrr : toB (rootL sumH (txtsL l) d) = r := by rw [rootH_yes hd hd10] at hr; exact (Prod.mk.inj hr).1
  obtain rfl : kk = 0 := by rw [pathH_yes hd hd10 hnl] at hps; exact (Prod.mk.inj hps).2.symm
  have HPL := Lib.hid (pathH_len hd hd10 hnl hps)
  obtain ⟨t, kc, hck⟩ : ∃ t k, climbH (n : Int) s path = (t, k) := ⟨_, _, rfl⟩
  obtain ⟨bb, hbb⟩ : ∃ bb : Bool, bb = (decide (kc = 0) && decide (t = r)) := ⟨_, rfl⟩
  have R3 := Lib.hid (tcheck_any HD r (n : Int) s (by omega) path B c' (by omega) t kc hck bb hbb)
  have R4 := Lib.hid fun x y => ttrace_any HD l (by omega) hzsl (n : Int) s (by omega) path (by omega) A B c c' (some (x, y))
  obtain ⟨p, hp⟩ : ∃ p, l[n] = p := ⟨_, rfl⟩
  have hln : l[n]? = some p := by rw [List.getElem?_eq_getElem hnl, hp]
  have hbbT : Hid (bb = true → path.length = d → p ≠ s → trcHok l n d s path) := Lib.hid fun h1 h2 h3 => by
    rw [hbb, Bool.and_eq_true, decide_eq_true_eq, decide_eq_true_eq] at h1
    have h4 : wayOk (n : Int) path := Classical.byContradiction fun h5 => by
      rw [climbH_no h5] at hck
      have := (Prod.mk.inj hck).2
      omega
    rw [climbH_yes h4, Int.toNat_natCast] at hck
    refine ⟨hd, hd10, hnl, h2, by rw [hln]; exact fun h => h3 (Option.some.inj h), h4, ?_⟩
    have h5 := (Prod.mk.inj hck).1
    rw [h1.2, ← hrr] at h5
    exact toB_inj h5
  obtain ⟨b5, off5, rfl, -⟩ := sl_strV hA hnl
  have HCELL : Hid (∀ V, Below W.heap.size W V → V.cell? ⟨b5, off5 + n, none⟩ = some (.string p)) := Lib.hid fun V hV => by
    obtain ⟨b', off', hAe, hc⟩ := sl_strV (hA.keep hV) hnl
    obtain ⟨rfl, rfl⟩ : b' = b5 ∧ off' = off5 := by simpa using hAe.symm
    rw [hp] at hc
    exact hc
  have ti : ¬ (n : Int) < 0 := by omega
  have tn : ¬ (l.length : Int) ≤ (n : Int) := by omega
  have hnI : (n : Int) < (l.length : Int) := by omega
  have hn9 : n < 2048 := by have : 2 ^ d ≤ 2 ^ 10 := Nat.pow_le_pow_right (by omega) hd10; omega
  by_cases b5' : d = path.length
  rotate_left
  · have hne : ((d : Int) != (path.length : Int)) = true := by rw [bne_iff_ne]; omega
    clear b2 b3 b5' hA hB hzsl hzs B1 hr hps hil hi0 hd hrr hck hbb hp hln R3 R4 hbbT HCELL hnI hnl tn
    generalize l.length = x at *
    generalize path.length = z at *
    go_enter Tryd.func6, Tryd.ntmps6
    go_wp2_with fail
    refine hbl.mono ?_
    rintro e W ⟨h, rfl⟩
    rcases h with ⟨h4, rfl⟩ | ⟨h4, rfl⟩
    all_goals
      (try have t1 := ht1.out h4)
      clear h4
      go_wp2_with fail
      refine hbp.mono ?_
      rintro e W ⟨h, rfl⟩
      rcases h with ⟨h4, -⟩ | ⟨-, rfl⟩
      · exact absurd h4 B2.out
      go_wp2_with fail
      refine (R1.out _ hK HAh.out).mono ?_
      rintro e w1 ⟨rfl, hb1⟩
      go_wp2_with fail
      refine (R2.out _ (hK.keep hb1) (HAh.out.keep hb1)).mono ?_
      rintro e w2 ⟨v, rfl, hown, hq⟩
      rw [HPL.out] at hown
      obtain ⟨A1, c1, rfl, -⟩ := own_sl hown
      replace hb := hb1.next hq
      clear hq hown hb1
      go_wp2_with fail
      refine (R9.out _ (hK.keep hb)).mono ?_
      rintro e w9 ⟨rfl, hq⟩
      go_wp2
      go_ret
      exact ⟨rfl, hb.next hq⟩
  have HDP := Lib.hid b5'
  have hne : ((d : Int) != (path.length : Int)) = false := by simp [b5']
  cases bb with
  | false =>
    clear b2 b3 b5' hA hB hzsl hzs B1 hr hps hil hi0 hd hrr hck hbb hp hln R4 hbbT HCELL hnl
    generalize l.length = x at *
    generalize path.length = z at *
    go_enter Tryd.func6, Tryd.ntmps6
    go_wp2_with fail
    refine hbl.mono ?_
    rintro e W ⟨h, rfl⟩
    rcases h with ⟨h4, rfl⟩ | ⟨h4, rfl⟩
    all_goals
      (try have t1 := ht1.out h4)
      clear h4
      go_wp2_with fail
      refine hbp.mono ?_
      rintro e W ⟨h, rfl⟩
      rcases h with ⟨h4, -⟩ | ⟨-, rfl⟩
      · exact absurd h4 B2.out
      go_wp2_with fail
      refine (R1.out _ hK HAh.out).mono ?_
      rintro e w1 ⟨rfl, hb1⟩
      go_wp2_with fail
      refine (R2.out _ (hK.keep hb1) (HAh.out.keep hb1)).mono ?_
      rintro e w2 ⟨v, rfl, hown, hq⟩
      rw [HPL.out] at hown
      obtain ⟨A1, c1, rfl, -⟩ := own_sl hown
      replace hb := hb1.next hq
      clear hq hown hb1
      go_wp2_with fail
      refine (R3.out _ (hK.keep hb) (HBh.out.keep hb)).mono ?_
      rintro e w3 ⟨rfl, hq⟩
      replace hb := hb.next hq
      clear hq
      go_wp2_with fail
      refine (R9.out _ (hK.keep hb)).mono ?_
      rintro e w9 ⟨rfl, hq⟩
      go_wp2
      go_ret
      exact ⟨rfl, hb.next hq⟩
  | true =>
    by_cases hps2 : p = s
    · have hse : (s.toList == p.toList) = true := by rw [str_eq, decide_eq_true hps2.symm]
      clear b2 b3 b5' hA hB hzsl hzs B1 hr hps hil hi0 hd hrr hck hbb hp hln R4 hbbT hnl hps2
      generalize l.length = x at *
      generalize path.length = z at *
      go_enter Tryd.func6, Tryd.ntmps6
      go_wp2_with fail
      refine hbl.mono ?_
      rintro e W ⟨h, rfl⟩
      rcases h with ⟨h4, rfl⟩ | ⟨h4, rfl⟩
      all_goals
        (try have t1 := ht1.out h4)
        clear h4
        go_wp2_with fail
        refine hbp.mono ?_
        rintro e W ⟨h, rfl⟩
        rcases h with ⟨h4, -⟩ | ⟨-, rfl⟩
        · exact absurd h4 B2.out
        go_wp2_with fail
        refine (R1.out _ hK HAh.out).mono ?_
        rintro e w1 ⟨rfl, hb1⟩
        go_wp2_with fail
        refine (R2.out _ (hK.keep hb1) (HAh.out.keep hb1)).mono ?_
        rintro e w2 ⟨v, rfl, hown, hq⟩
        rw [HPL.out] at hown
        obtain ⟨A1, c1, rfl, -⟩ := own_sl hown
        replace hb := hb1.next hq
        clear hq hown hb1
        go_wp2_with fail
        refine (R3.out _ (hK.keep hb) (HBh.out.keep hb)).mono ?_
        rintro e w3 ⟨rfl, hq⟩
        replace hb := hb.next hq
        clear hq
        have hcell := HCELL.out _ hb
        go_wp2_with fail
        refine (R9.out _ (hK.keep hb)).mono ?_
        rintro e w9 ⟨rfl, hq⟩
        go_wp2
        go_ret
        exact ⟨rfl, hb.next hq⟩
    · have hse : (s.toList == p.toList) = false := by rw [str_eq, decide_eq_false fun h => hps2 h.symm]
      obtain ⟨tx, ty, htr, hxy, hsum, hx1, hy1⟩ := trcH_shows (hbbT.out rfl b5'.symm hps2) (by omega) hzsl
      have R5 := Lib.hid (R4.out tx ty htr)
      obtain ⟨dd, hdd⟩ : ∃ dd : ByteArray, sumH tx = dd.data.toList := ⟨toB (sumH tx), (toB_list _).symm⟩
      obtain ⟨X, hX⟩ : ∃ X, toB tx = X := ⟨_, rfl⟩
      obtain ⟨Y, hY⟩ : ∃ Y, toB ty = Y := ⟨_, rfl⟩
      have R6 := Lib.hid (HD X dd (by rw [← hX, toB_size]; exact hx1) (by rw [← hX, toB_list, hdd]))
      have R7 := Lib.hid (HD Y dd (by rw [← hY, toB_size]; exact hy1) (by rw [← hY, toB_list, ← hsum, hdd]))
      have hXY : (X.toList == Y.toList) = false := by
        rw [str_eq, decide_eq_false]
        rw [← hX, ← hY]
        exact fun h => hxy (toB_inj h)
      have hR5 := R5.out
      simp only [outV, hX, hY] at hR5
      have R8 := Lib.hid hR5
      clear b2 b3 b5' hA hB hzsl hzs B1 hr hps hil hi0 hd hrr hck hbb hp hln R4 R5 hR5 hbbT hnl hps2 htr hxy hsum hx1 hy1 hdd hX hY
      generalize l.length = x at *
      generalize path.length = z at *
      go_enter Tryd.func6, Tryd.ntmps6
      go_wp2_with fail
      refine hbl.mono ?_
      rintro e W ⟨h, rfl⟩
      rcases h with ⟨h4, rfl⟩ | ⟨h4, rfl⟩
      all_goals
        (try have t1 := ht1.out h4)
        clear h4
        go_wp2_with fail
        refine hbp.mono ?_
        rintro e W ⟨h, rfl⟩
        rcases h with ⟨h4, -⟩ | ⟨-, rfl⟩
        · exact absurd h4 B2.out
        go_wp2_with fail
        refine (R1.out _ hK HAh.out).mono ?_
        rintro e w1 ⟨rfl, hb1⟩
        go_wp2_with fail
        refine (R2.out _ (hK.keep hb1) (HAh.out.keep hb1)).mono ?_
        rintro e w2 ⟨v, rfl, hown, hq⟩
        rw [HPL.out] at hown
        obtain ⟨A1, c1, rfl, -⟩ := own_sl hown
        replace hb := hb1.next hq
        clear hq hown hb1
        go_wp2_with fail
        refine (R3.out _ (hK.keep hb) (HBh.out.keep hb)).mono ?_
        rintro e w3 ⟨rfl, hq⟩
        replace hb := hb.next hq
        clear hq
        have hcell := HCELL.out _ hb
        go_wp2_with fail
        refine (R8.out _ (hK.keep hb) (HAh.out.keep hb) (HBh.out.keep hb)).mono ?_
        rintro e w4 ⟨rfl, hq⟩
        replace hb := hb.next hq
        clear hq hcell
        go_wp2_with fail
        refine (R9.out _ (hK.keep hb)).mono ?_
        rintro e w5 ⟨rfl, hq⟩
        replace hb := hb.next hq
        clear hq
        go_wp2_with fail
        refine (R6.out _ (hK.keep hb)).mono ?_
        rintro e w6 ⟨rfl, hq⟩
        replace hb := hb.next hq
        clear hq
        go_wp2_with fail
        refine (R7.out _ (hK.keep hb)).mono ?_
        rintro e w7 ⟨rfl, hq⟩
        go_wp2
        go_ret
        exact ⟨rfl, hb.next hq⟩
end Go.Proofs.YtgcohoonhklkbaaDoor

/-
  digest: the contract of Step.
-/
namespace Go.Proofs.YtgcohoonhklkbaaDoor
open Go.RowKit Go.Kx
set_option maxRecDepth 20000

def i64s (s : St) : Array Value := #[.int .i64 s.a, .int .i64 s.b, .int .i64 s.c, .int .i64 s.d, .int .i64 s.e, .int .i64 s.f, .int .i64 s.g, .int .i64 s.h]
theorem row8 {w : World} {g : Nat} {t : TypeId} {z : Value} (h : w.rowIs g t 8 (fun _ => z)) : w.cell? ⟨g, 0, none⟩ = some z ∧ w.cell? ⟨g, 1, none⟩ = some z ∧ w.cell? ⟨g, 2, none⟩ = some z ∧ w.cell? ⟨g, 3, none⟩ = some z ∧
    w.cell? ⟨g, 4, none⟩ = some z ∧ w.cell? ⟨g, 5, none⟩ = some z ∧ w.cell? ⟨g, 6, none⟩ = some z ∧ w.cell? ⟨g, 7, none⟩ = some z ∧ ∀ o, w.frozen? ⟨g, o, none⟩ = false :=
  ⟨h.cell (by omega), h.cell (by omega), h.cell (by omega), h.cell (by omega), h.cell (by omega), h.cell (by omega), h.cell (by omega), h.cell (by omega), h.frozen⟩
theorem row8_zero {w : World} {t : TypeId} {z : Value} : (w.alloc (.cells #[z, z, z, z, z, z, z, z] t)).rowIs w.heap.size t 8 (fun _ => z) := rowIs_new rfl
theorem row8_new {w : World} {t : TypeId} (m : St) : (w.alloc (.cells #[.int .u32 m.a, .int .u32 m.b, .int .u32 m.c, .int .u32 m.d, .int .u32 m.e, .int .u32 m.f, .int .u32 m.g, .int .u32 m.h] t)).rowIs w.heap.size t 8 (fun j => .int .u32 (m.at j : Nat)) :=
  World.rowIs_alloc w (rowA .u32 8 m.at) t (fun j => .int .u32 (m.at j : Nat)) (fun j hj => rowA_at .u32 8 m.at j (by simpa [rowA_size] using hj))
theorem at8 (m : St) (j : Nat) (hj : j < 8) : (if j = 7 then Value.int .u32 m.h else if j = 6 then Value.int .u32 m.g else if j = 5 then Value.int .u32 m.f else if j = 4 then Value.int .u32 m.e else if j = 3 then Value.int .u32 m.d else if j = 2 then Value.int .u32 m.c else
    if j = 1 then Value.int .u32 m.b else Value.int .u32 m.a) = Value.int .u32 (m.at j : Nat) := by
  rcases (by omega : j = 0 ∨ j = 1 ∨ j = 2 ∨ j = 3 ∨ j = 4 ∨ j = 5 ∨ j = 6 ∨ j = 7) with rfl | rfl | rfl | rfl | rfl | rfl | rfl | rfl <;> rfl
theorem row8_set {w : World} {g : Nat} {t : TypeId} {f : Nat → Value} (h : w.rowIs g t 8 f) (m : St) :
    ((((((((w.setCell ⟨g, 0, none⟩ (.int .u32 m.a)).setCell ⟨g, 1, none⟩ (.int .u32 m.b)).setCell ⟨g, 2, none⟩ (.int .u32 m.c)).setCell ⟨g, 3, none⟩ (.int .u32 m.d)).setCell ⟨g, 4, none⟩ (.int .u32 m.e)).setCell ⟨g, 5, none⟩ (.int .u32 m.f)).setCell ⟨g, 6, none⟩ (.int .u32 m.g)).setCell ⟨g, 7, none⟩ (.int .u32 m.h)).rowIs g t 8 (fun j => .int .u32 (m.at j : Nat)) := by
  refine ((((((((h.set 0 _).set 1 _).set 2 _).set 3 _).set 4 _).set 5 _).set 6 _).set 7 _).congr fun j hj => ?_
  rw [← at8 m j hj]
  rcases (by omega : j = 0 ∨ j = 1 ∨ j = 2 ∨ j = 3 ∨ j = 4 ∨ j = 5 ∨ j = 6 ∨ j = 7) with rfl | rfl | rfl | rfl | rfl | rfl | rfl | rfl <;> rfl
theorem below8_set {B : Nat} {w0 w : World} {g : Nat} (h : Below B w0 w) (hg : B ≤ g) (v0 v1 v2 v3 v4 v5 v6 v7 : Value) :
    Below B w0 ((((((((w.setCell ⟨g, 0, none⟩ v0).setCell ⟨g, 1, none⟩ v1).setCell ⟨g, 2, none⟩ v2).setCell ⟨g, 3, none⟩ v3).setCell ⟨g, 4, none⟩ v4).setCell ⟨g, 5, none⟩ v5).setCell ⟨g, 6, none⟩ v6).setCell ⟨g, 7, none⟩ v7) :=
  (((((((h.setCell hg _).setCell hg _).setCell hg _).setCell hg _).setCell hg _).setCell hg _).setCell hg _).setCell hg _
theorem add_at (s m : St) (k : Nat) (h : k < 8) : (s.add m).at k = (s.at k + m.at k) % 4294967296 := by
  rcases (by omega : k = 0 ∨ k = 1 ∨ k = 2 ∨ k = 3 ∨ k = 4 ∨ k = 5 ∨ k = 6 ∨ k = 7) with rfl | rfl | rfl | rfl | rfl | rfl | rfl | rfl <;> rfl
theorem addL_pair (x y : Nat) : addL [x, y] = (x + y) % 4294967296 := by simp [addL]
theorem Sl2 {w : World} {n : Nat} {x y : Value} (h0 : w.cell? ⟨n, 0, none⟩ = some x) (h1 : w.cell? ⟨n, 1, none⟩ = some y) : Sl w (some ⟨n, 0, none⟩) [x, y] := by
  refine .inr ⟨n, 0, rfl, block_lt_of_cell h0, fun j u hu => ?_⟩
  match j, hu with
  | 0, hu => simp at hu; subst hu; exact h0
  | 1, hu => simp at hu; subst hu; exact h1
theorem add_two (n x y : Nat) (hx : x < 4294967296) (hy : y < 4294967296) (w : World) (h0 : w.cell? ⟨n, 0, none⟩ = some (.int .i64 x)) (h1 : w.cell? ⟨n, 1, none⟩ = some (.int .i64 y)) :
    Calls Tryd.prog 63 #[.slice (some ⟨n, 0, none⟩) 2 2] w fun e w' => e = .returned (.tuple #[.int .i64 ((x + y) % 4294967296 : Nat), .bool true]) ∧ w = w' := by
  have h := add_any (some ⟨n, 0, none⟩) 2 [x, y] w (by simp) (Sl2 h0 h1) (by simp; omega)
  rw [addL_pair] at h
  exact h
theorem u32_i64 {x : Nat} (h : x < 4294967296) : IntKind.i64.wrap (x : Int) = (x : Int) := wrapNat (by omega)
theorem row8_size : (Tryd.prog.info? 59).map (·.size) = some 8 := by kernel_rfl
theorem St.l_lt {s : St} (h : s.ok) : ∀ x ∈ s.l, x < 4294967296 := by
  obtain ⟨ha, hb, hc, hd, he, hf, hg, hh⟩ := h
  intro x hx
  simp only [St.l, List.mem_cons, List.not_mem_nil, or_false] at hx
  rcases hx with rfl | rfl | rfl | rfl | rfl | rfl | rfl | rfl <;> assumption
set_option maxRecDepth 100000 in
set_option maxHeartbeats 8000000 in
theorem step_yes (s : St) (hs : s.ok) (blk : ByteArray) (hb : blk.size = 64) (w : World) (hK : Consts w) :
   Calls Tryd.prog 49 #[s.v, .string blk] w fun e w' => e = .returned (.tuple #[(stepL s blk.data.toList).v, .bool true]) ∧ Below w.heap.size w w' := by
  have hsl := Sl.new w 59 (i64s s)
  have hsl2 : Sl (w.alloc (.cells (i64s s) 59)) (some ⟨w.heap.size, 0, none⟩) (ints s.l) := hsl
  have HSL := Lib.hid (hsl2.keep (Below.alloc0 _ (.cells (rowA .i64 8 fun _ => 0) 59)))
  clear hsl hsl2
  unfold i64s at HSL
  have hll := St.l_lt hs
  have HLL := Lib.hid hll
  clear hll
  unfold St.v
  go_enter Tryd.func49, Tryd.ntmps49
  go_wp2_with fail
  refine (is_nats (some ⟨w.heap.size, 0, none⟩) 8 s.l _ (by simp [St.l]) HSL.out HLL.out).mono ?_
  rintro e w1 ⟨rfl, rfl⟩
  go_upto_region 3 with fail
  have hr1 := rowIs_new (w := w.alloc (.cells (i64s s) 59)) (t := 59) (n := 8) (z := .int .i64 0) (c := rowA .i64 8 fun _ => 0) rfl
  have hr0 := (World.rowIs_alloc w (i64s s) 59 (fun j => .int .i64 (s.at j : Nat)) (fun j hj => rowA_at .i64 8 s.at j hj)).alloc (.cells (rowA .i64 8 fun _ => 0) 59)
  have hbw := ((Below.refl w.heap.size w).alloc (Nat.le_refl _) (.cells (i64s s) 59)).alloc (by simp) (.cells (rowA .i64 8 fun _ => 0) 59)
  have hKW := hK.keep hbw
  have hsz : ((w.alloc (.cells (i64s s) 59)).alloc (.cells (rowA .i64 8 fun _ => 0) 59)).heap.size = w.heap.size + 1 + 1 := by simp
  rw [show (i64s s).size = 8 from rfl] at hr0
  rw [World.size_alloc] at hr1
  unfold i64s at hr1 hr0 hbw hKW hsz
  clear HSL hK
  generalize (w.alloc _).alloc _ = W at *
  have c0 := hr0.cell (i := 0) (by omega)
  have c1 := hr0.cell (i := 1) (by omega)
  have c2 := hr0.cell (i := 2) (by omega)
  have c3 := hr0.cell (i := 3) (by omega)
  have c4 := hr0.cell (i := 4) (by omega)
  have c5 := hr0.cell (i := 5) (by omega)
  have c6 := hr0.cell (i := 6) (by omega)
  have c7 := hr0.cell (i := 7) (by omega)
  simp only [St.at, St.l, List.getD_cons_zero, List.getD_cons_succ] at c0 c1 c2 c3 c4 c5 c6 c7
  have hlt : w.heap.size < W.heap.size := by omega
  have HSZ := Lib.hid hsz
  clear hsz
  obtain ⟨Wf, hWf⟩ : ∃ f, f = fun j => (blkW blk.data.toList).getD j 0 := ⟨_, rfl⟩
  have hsch : ∀ V : World, Calls Tryd.prog 62 #[.string blk] V fun e w' => e = .returned (.agg (rowA .u32 64 Wf)) ∧ Below V.heap.size V w' := by rw [hWf]; exact fun V => sched_any blk V hb
  have hWl : ∀ j, Wf j < 4294967296 := by rw [hWf]; exact blkW_lt blk
  obtain ⟨m, hm⟩ : ∃ m, mixN Wf s 64 = m := ⟨_, rfl⟩
  have HSCH := Lib.hid hsch
  have HWL := Lib.hid hWl
  have HWF := Lib.hid hWf
  clear hsch hWl hWf
  have HM := Lib.hid hm
  clear hm
  go_cut [6] (fun b wx => ∃ g : Nat, b = .pointer (some ⟨g, 0, none⟩) ∧ W.heap.size ≤ g ∧ wx.rowIs g 74 8 (fun j => .int .u32 (m.at j : Nat)) ∧ Below W.heap.size W wx)
  case first =>
    go_region_with (first
      | (go_at_call 62; refine (HSCH.out _).mono ?_; rintro e w1 ⟨rfl, hb1⟩; obtain ⟨hc1, hf1⟩ := bcell hb1; have hz1 := hb1.size; (try simp only [World.size_drew] at hc1 hf1 hz1); (try simp only [World.size_alloc] at hc1 hf1 hz1); (try simp only [World.size_drew] at hc1 hf1 hz1); (try have hz3 : W.heap.size < w1.heap.size := by omega); have hz5 : w.heap.size < w1.heap.size := (by omega))
      | (go_at_call 61; refine (mix_lit s hs Wf HWL.out m HM.out _ ?_).mono ?_; (exact hKW.keep (by first | exact (Below.drew0 _).next hb1 | exact ((Below.drew0 _).al _).next' hb1 | exact ((Below.drew0 _).next hb1).al _ | exact ((Below.alloc0 _ _).drew).next' hb1)); rintro e w2 ⟨rfl, hb2⟩; obtain ⟨hc2, hf2⟩ := bcell hb2; have hz2 := hb2.size; (try simp only [World.size_drew] at hc2 hf2 hz2); (try simp only [World.size_alloc] at hc2 hf2 hz2); (try simp only [World.size_drew] at hc2 hf2 hz2); (try have hz4 : W.heap.size < w2.heap.size := by omega)))
    all_goals (go_wp2_with fail; go_meet)
    all_goals have hB1 : Below W.heap.size W w1 := (by first | (with_reducible exact (Below.drew0 _).next hb1) | (with_reducible exact ((Below.alloc0 _ _).drew).next' hb1 (Nat.le_refl _)))
    all_goals have hB2 : Below W.heap.size W w2 := (by first | (with_reducible exact hB1.next hb2) | (with_reducible exact (hB1.al _).next' hb2 (Nat.le_refl _)))
    all_goals have hs1 := hB1.size
    all_goals have hs2 := hB2.size
    all_goals clear hc1 hf1 hc2 hf2
    all_goals refine ⟨_, rfl, ?_, ?_, ?_⟩
    all_goals first
      | omega
      | (with_reducible exact row8_new m)
      | (with_reducible exact hB2.al _)
      | (with_reducible exact row8_set (rowIs_keep row8_zero hb2) m)
      | (with_reducible exact row8_set (rowIs_keep (rowIs_keep (World.rowIs.drew row8_zero) hb1) hb2) m)
      | (with_reducible refine below8_set hB2 ?_ _ _ _ _ _ _ _ _; omega)
  case rest =>
    obtain ⟨g, rfl, hg, hrg, hbg⟩ := hcut
    have hr0' := rowIs_keep hr0 hbg
    have hr1' := rowIs_keep hr1 hbg
    have hbw' := hbw.next' hbg
    have hszc := hbg.size
    have hgl := hrg.lt
    have hsz := HSZ.out
    have hrn := rowIs_new (w := wc) (t := 59) (n := 8) (z := .int .i64 0) rfl
    have hr0n := hr0'.alloc (.cells (List.replicate 8 (Value.int .i64 0)).toArray 59)
    have hr1n := hr1'.alloc (.cells (List.replicate 8 (Value.int .i64 0)).toArray 59)
    have hrgn := hrg.alloc (.cells (List.replicate 8 (Value.int .i64 0)).toArray 59)
    have hbn := hbw'.alloc (by omega) (.cells (List.replicate 8 (Value.int .i64 0)).toArray 59)
    have hml : ∀ j, m.at j < 4294967296 := by rw [← HM.out]; exact St.at_lt (mixN_ok Wf hs 64)
    have hsl := St.at_lt hs
    have HML := Lib.hid hml
    have HSL := Lib.hid hsl
    have n1 : w.heap.size < wc.heap.size := by omega
    have n2 : w.heap.size + 1 < wc.heap.size := by omega
    have n3 : w.heap.size + 1 < g := by omega
    clear hr0' hr1' hrg hbw' hml hsl HWL HSCH hr0 hr1 hbw hKW c0 c1 c2 c3 c4 c5 c6 c7 hlt HLL hbg hg hszc HSZ hsz
    go_wp2_with fail
    have hNs : wc.heap.size < (wc.alloc (.cells (List.replicate 8 (Value.int .i64 0)).toArray 59)).heap.size := by simp
    generalize wc.heap.size = N at *
    go_loopw [8, 22] (fun _ i wr => ∃ k : Nat, k ≤ 8 ∧ i = .int .i64 k ∧ wr.rowIs w.heap.size 59 8 (fun j => .int .i64 (s.at j : Nat)) ∧ wr.rowIs (w.heap.size + 1) 59 8 (fun _ => .int .i64 0) ∧
      wr.rowIs g 74 8 (fun j => .int .u32 (m.at j : Nat)) ∧ wr.rowIs N 59 8 (fun j => .int .i64 (rowW (s.add m).at k j : Nat)) ∧ Below w.heap.size w wr ∧ N < wr.heap.size) (fun _ i _ => 8 - (intOf i).toNat)
    case atStart => exact ⟨0, by omega, rfl, hr0n, hr1n, hrgn, hrn, hbn, hNs⟩
    case round =>
      clear hr0n hr1n hrgn hrn hbn hNs
      obtain ⟨k, hk, rfl, q0, q1, qg, qn, qb, qs⟩ := hrel
      by_cases hl : k < 8
      · have d0 := q0.cell (i := k) hl
        have dg := qg.cell (i := k) hl
        have dn := qn.cell (i := k) hl
        have df := qn.frozen k
        have hxl := HSL.out k
        have hyl := HML.out k
        have HSET := Lib.hid (rowW_set (s.add m).at k)
        have HADD := Lib.hid (add_at s m k hl)
        generalize s.at k = x at *
        generalize m.at k = y at *
        generalize rowW (s.add m).at k k = z at *
        have hyw := u32_i64 hyl
        have m1 : ¬ w.heap.size = N := by omega
        have m2 : ¬ g = N := by omega
        have m3 : ¬ N = w.heap.size := by omega
        have m4 : ¬ N = g := by omega
        go_wp2
        go_region_held3 (fun w' => w'.cell? ⟨w.heap.size, k, none⟩ = some (.int .i64 x) ∧ w'.cell? ⟨g, k, none⟩ = some (.int .u32 y)) (go_keep)
          (first | (go_at_call 63; refine (add_two _ x y hxl hyl _ ?_ ?_).mono ?_; (simp); (simp); rintro e w' ⟨rfl, rfl⟩))
        go_wp2
        go_roundw
        case rel =>
          refine ⟨k + 1, by omega, by go_num, ((q0.setOther (by simpa using m1) _).alloc _).drew, ((q1.setOther (by simp; omega) _).alloc _).drew, ((qg.setOther (by simpa using m2) _).alloc _).drew, ?_,
            ((qb.setCell (p := ⟨N, k, none⟩) (by simp; omega) _).alloc (by simp; omega) _).drew, by simp; omega⟩
          refine (((qn.set k _).alloc _).drew).congr fun j _ => ?_
          rw [← HSET.out j, HADD.out]
          by_cases hjk : j = k
          · rw [if_pos hjk, if_pos hjk]; rfl
          · rw [if_neg hjk, if_neg hjk]
        case measure => simp [intOf]; omega
      · obtain rfl : k = 8 := by omega
        obtain ⟨c, h7, hcs, hc⟩ := rowIs_block qn
        obtain ⟨c0, h4, hcs0, hc0⟩ := rowIs_block q1
        have hinf : (Tryd.prog.info? 59).map (·.size) = some c.size := by rw [hcs]; exact row8_size
        have hold : c0.size = c.size := by rw [hcs, hcs0]
        have hall := all_one_ints hc
        have HC := Lib.hid hc
        clear hc hc0 hcs0 hcs
        go_wp2_with (first
          | (refine wpList_load_row rfl _ _ rfl N rfl _ _ _ _ h7 Tryd.underlying59 rfl hinf ?_)
          | (refine wpList_store_row rfl _ _ _ rfl (w.heap.size + 1) _ rfl rfl _ _ h4 hinf hold hall ?_))
        refine bodyPost_ret (v := .tuple #[.agg c, .bool true]) (results_cell_slot rfl _ _ (w.heap.size + 1) _ _ _ _ rfl (setRow_heap _ _ _ _ _ _ h4) Tryd.underlying59 rfl hinf _ rfl) rfl ⟨?_, qb.setRow (by omega) _⟩
        have he : c = rowA .i64 8 (s.add m).at := by
          rw [HC.out, rowA]
          refine congrArg List.toArray (List.map_congr_left fun j hj => ?_)
          rw [rowW_in _ (by simpa using hj)]
        rw [he, ← St.v_row, show stepL s blk.data.toList = s.add m by rw [stepL, ← HM.out, HWF.out]]
        rfl
theorem step_lit (s : St) (hs : s.ok) (blk : ByteArray) (hb : blk.size = 64) (t : St) (ht : stepL s blk.data.toList = t) (w : World) (hK : Consts w) :
   Calls Tryd.prog 49 #[.agg #[.int .i64 s.a, .int .i64 s.b, .int .i64 s.c, .int .i64 s.d, .int .i64 s.e, .int .i64 s.f, .int .i64 s.g, .int .i64 s.h], .string blk] w fun e w' =>
     e = .returned (.tuple #[.agg #[.int .i64 t.a, .int .i64 t.b, .int .i64 t.c, .int .i64 t.d, .int .i64 t.e, .int .i64 t.f, .int .i64 t.g, .int .i64 t.h], .bool true]) ∧ Below w.heap.size w w' := by
  subst ht
  exact step_yes s hs blk hb w hK
theorem row8_i64 {w : World} {g : Nat} {t : TypeId} {s : St} (h : w.rowIs g t 8 (fun j => .int .i64 (s.at j : Nat))) : w.cell? ⟨g, 0, none⟩ = some (.int .i64 s.a) ∧ w.cell? ⟨g, 1, none⟩ = some (.int .i64 s.b) ∧ w.cell? ⟨g, 2, none⟩ = some (.int .i64 s.c) ∧ w.cell? ⟨g, 3, none⟩ = some (.int .i64 s.d) ∧
    w.cell? ⟨g, 4, none⟩ = some (.int .i64 s.e) ∧ w.cell? ⟨g, 5, none⟩ = some (.int .i64 s.f) ∧ w.cell? ⟨g, 6, none⟩ = some (.int .i64 s.g) ∧ w.cell? ⟨g, 7, none⟩ = some (.int .i64 s.h) :=
  ⟨h.cell (by omega), h.cell (by omega), h.cell (by omega), h.cell (by omega), h.cell (by omega), h.cell (by omega), h.cell (by omega), h.cell (by omega)⟩
theorem at8i (m : St) (j : Nat) (hj : j < 8) : (if j = 7 then Value.int .i64 m.h else if j = 6 then Value.int .i64 m.g else if j = 5 then Value.int .i64 m.f else if j = 4 then Value.int .i64 m.e else if j = 3 then Value.int .i64 m.d else if j = 2 then Value.int .i64 m.c else
    if j = 1 then Value.int .i64 m.b else Value.int .i64 m.a) = Value.int .i64 (m.at j : Nat) := by
  rcases (by omega : j = 0 ∨ j = 1 ∨ j = 2 ∨ j = 3 ∨ j = 4 ∨ j = 5 ∨ j = 6 ∨ j = 7) with rfl | rfl | rfl | rfl | rfl | rfl | rfl | rfl <;> rfl
theorem row8_seti {w : World} {g : Nat} {t : TypeId} {f : Nat → Value} (h : w.rowIs g t 8 f) (m : St) :
    ((((((((w.setCell ⟨g, 0, none⟩ (.int .i64 m.a)).setCell ⟨g, 1, none⟩ (.int .i64 m.b)).setCell ⟨g, 2, none⟩ (.int .i64 m.c)).setCell ⟨g, 3, none⟩ (.int .i64 m.d)).setCell ⟨g, 4, none⟩ (.int .i64 m.e)).setCell ⟨g, 5, none⟩ (.int .i64 m.f)).setCell ⟨g, 6, none⟩ (.int .i64 m.g)).setCell ⟨g, 7, none⟩ (.int .i64 m.h)).rowIs g t 8 (fun j => .int .i64 (m.at j : Nat)) := by
  refine ((((((((h.set 0 _).set 1 _).set 2 _).set 3 _).set 4 _).set 5 _).set 6 _).set 7 _).congr fun j hj => ?_
  rw [← at8i m j hj]
  rcases (by omega : j = 0 ∨ j = 1 ∨ j = 2 ∨ j = 3 ∨ j = 4 ∨ j = 5 ∨ j = 6 ∨ j = 7) with rfl | rfl | rfl | rfl | rfl | rfl | rfl | rfl <;> rfl
theorem heap8_set {w : World} {g k : Nat} (h : k ≠ g) (v0 v1 v2 v3 v4 v5 v6 v7 : Value) :
    ((((((((w.setCell ⟨g, 0, none⟩ v0).setCell ⟨g, 1, none⟩ v1).setCell ⟨g, 2, none⟩ v2).setCell ⟨g, 3, none⟩ v3).setCell ⟨g, 4, none⟩ v4).setCell ⟨g, 5, none⟩ v5).setCell ⟨g, 6, none⟩ v6).setCell ⟨g, 7, none⟩ v7).heap[k]? = w.heap[k]? := by
  rw [heap_setCell_other _ _ _ _ h, heap_setCell_other _ _ _ _ h, heap_setCell_other _ _ _ _ h, heap_setCell_other _ _ _ _ h, heap_setCell_other _ _ _ _ h, heap_setCell_other _ _ _ _ h, heap_setCell_other _ _ _ _ h, heap_setCell_other _ _ _ _ h]
end Go.Proofs.YtgcohoonhklkbaaDoor

/-
  The contracts of the library that this program calls, laid at its numbers (in plain words, by the tool of the shelf).
-/
namespace Go.Proofs
open Go.Shelf
def Tryd.lays105_ren : Go.Shelf.Ren := ⟨fun | 105 => 58 | 212 => 75 | 99 => 76 | 165 => 77 | 166 => 78 | 170 => 79 | 169 => 80 | 263 => 89 | 264 => 90 | 206 => 91 | 240 => 92 | 241 => 93 | 276 => 96 | 277 => 97 | n => n, fun | 9 => 9 | 3 => 3 | 4 => 4 | 20 => 20 | 0 => 0 | 46 => 83 | 109 => 93 | 5 => 5 | 72 => 98 | 76 => 101 | 51 => 73 | 146 => 108 | 53 => 110 | 148 => 111 | 70 => 96 | 37 => 82 | 75 => 100 | 127 => 113 | 164 => 115 | 80 => 46 | n => n, fun | n => n⟩
theorem Tryd.lays105 : Go.Proofs.Lays.n105 Tryd.prog Tryd.lays105_ren := {
  mixed := by kernel_rfl
  f99 := Tryd.func76.trans (congrArg some (by kernel_rfl))
  f105 := Tryd.func58.trans (congrArg some (by kernel_rfl))
  f165 := Tryd.func77.trans (congrArg some (by kernel_rfl))
  f166 := Tryd.func78.trans (congrArg some (by kernel_rfl))
  f169 := Tryd.func80.trans (congrArg some (by kernel_rfl))
  f170 := Tryd.func79.trans (congrArg some (by kernel_rfl))
  f206 := Tryd.func91.trans (congrArg some (by kernel_rfl))
  f212 := Tryd.func75.trans (congrArg some (by kernel_rfl))
  f240 := Tryd.func92.trans (congrArg some (by kernel_rfl))
  f241 := Tryd.func93.trans (congrArg some (by kernel_rfl))
  f263 := Tryd.func89.trans (congrArg some (by kernel_rfl))
  f264 := Tryd.func90.trans (congrArg some (by kernel_rfl))
  f276 := Tryd.func96.trans (congrArg some (by kernel_rfl))
  f277 := Tryd.func97.trans (congrArg some (by kernel_rfl))
  t0 := Tryd.underlying0
  a0 := Tryd.isAgg0
  z0 := Tryd.sizeOf0
  v0 := Tryd.zeroValue0
  t3 := Tryd.underlying3
  a3 := Tryd.isAgg3
  z3 := Tryd.sizeOf3
  v3 := Tryd.zeroValue3
  t4 := Tryd.underlying4
  a4 := Tryd.isAgg4
  z4 := Tryd.sizeOf4
  v4 := Tryd.zeroValue4
  t5 := Tryd.underlying5
  a5 := Tryd.isAgg5
  z5 := Tryd.sizeOf5
  v5 := Tryd.zeroValue5
  t9 := Tryd.underlying9
  a9 := Tryd.isAgg9
  z9 := Tryd.sizeOf9
  v9 := Tryd.zeroValue9
  t20 := Tryd.underlying20
  a20 := Tryd.isAgg20
  z20 := Tryd.sizeOf20
  v20 := Tryd.zeroValue20
  t37 := Tryd.underlying82
  a37 := Tryd.isAgg82
  z37 := Tryd.sizeOf82
  v37 := Tryd.zeroValue82
  t46 := Tryd.underlying83
  a46 := Tryd.isAgg83
  z46 := Tryd.sizeOf83
  v46 := Tryd.zeroValue83
  t51 := Tryd.underlying73
  a51 := Tryd.isAgg73
  z51 := Tryd.sizeOf73
  v51 := Tryd.zeroValue73
  t53 := Tryd.underlying110
  a53 := Tryd.isAgg110
  z53 := Tryd.sizeOf110
  v53 := Tryd.zeroValue110
  t70 := Tryd.underlying96
  a70 := Tryd.isAgg96
  z70 := Tryd.sizeOf96
  v70 := Tryd.zeroValue96
  t72 := Tryd.underlying98
  a72 := Tryd.isAgg98
  z72 := Tryd.sizeOf98
  v72 := Tryd.zeroValue98
  t75 := Tryd.underlying100
  a75 := Tryd.isAgg100
  z75 := Tryd.sizeOf100
  v75 := Tryd.zeroValue100
  t76 := Tryd.underlying101
  a76 := Tryd.isAgg101
  z76 := Tryd.sizeOf101
  v76 := Tryd.zeroValue101
  t109 := Tryd.underlying93
  a109 := Tryd.isAgg93
  z109 := Tryd.sizeOf93
  v109 := Tryd.zeroValue93
  t127 := Tryd.underlying113
  a127 := Tryd.isAgg113
  z127 := Tryd.sizeOf113
  v127 := Tryd.zeroValue113
  t146 := Tryd.underlying108
  a146 := Tryd.isAgg108
  z146 := Tryd.sizeOf108
  v146 := Tryd.zeroValue108
  t148 := Tryd.underlying111
  a148 := Tryd.isAgg111
  z148 := Tryd.sizeOf111
  v148 := Tryd.zeroValue111
  t164 := Tryd.underlying115
  a164 := Tryd.isAgg115
  z164 := Tryd.sizeOf115
  v164 := Tryd.zeroValue115 }
theorem Tryd.Builder_Extra_105 : Builder.Extra Tryd.prog Tryd.lays105_ren := {
  sizeBuilder := by kernel_rfl
  liesBuilder := by kernel_rfl
  t5 := Tryd.underlying5
  a5 := Tryd.isAgg5
  z5 := Tryd.sizeOf5
  v5 := Tryd.zeroValue5
  infoByte := by kernel_rfl
  cellsByte := by kernel_rfl
  sizeByte := by kernel_rfl
  neB5 := by decide }
open Go.RowKit Go.Lib in
theorem Tryd.strings_Repeat_main (s : ByteArray) (c : Nat) (w : World) (hc2 : 2 ≤ c) (hc : c ≤ 9223372036854775807) (hlen : s.size * c ≤ 140737488355328) (h0 : 0 < s.size) :
    Calls Tryd.prog 58 #[.string s, .int .i64 c] w fun e w' => e = .returned (.string ⟨(Lib.repeatL s.data.toList c).toArray⟩) ∧ Below w.heap.size w w' := Any.strings_Repeat_main Tryd.lays105 Tryd.Builder_Extra_105 s c w hc2 hc hlen h0
open Go.RowKit Go.Lib in
theorem Tryd.strings_Repeat (s : ByteArray) (c : Nat) (w : World) (hc : c ≤ 9223372036854775807) (hlen : s.size * c ≤ 140737488355328) :
    Calls Tryd.prog 58 #[.string s, .int .i64 c] w fun e w' => e = .returned (.string ⟨(Lib.repeatL s.data.toList c).toArray⟩) ∧ Below w.heap.size w w' := Any.strings_Repeat Tryd.lays105 Tryd.Builder_Extra_105 s c w hc hlen
end Go.Proofs

/-
  digest: the contract of Pad.
-/
namespace Go.Proofs.YtgcohoonhklkbaaDoor
open Go.RowKit Go.Kx
set_option maxRecDepth 20000

theorem repeat0 (z : Nat) : Lib.repeatL [0] z = List.replicate z 0 := by
  induction z with
  | zero => rfl
  | succ z ih => rw [Lib.repeatL, ih]; rfl
theorem pad_no (n : Int) (hn : n < 0 ∨ 1000000000 < n) (w : World) :
    Calls Tryd.prog 46 #[.int .i64 n] w fun e w' => e = .returned (.tuple #[.string ⟨#[]⟩, .bool false]) ∧ w = w' := by
  by_cases h : n < 0
  · go_enter Tryd.func46, Tryd.ntmps46
    go_wp2
    go_ret2
    exact ⟨rfl, rfl⟩
  · have h2 : 1000000000 < n := by omega
    go_enter Tryd.func46, Tryd.ntmps46
    go_wp2
    go_ret2
    exact ⟨rfl, rfl⟩

set_option maxHeartbeats 1000000 in
theorem pad_yes (n : Nat) (hn : n ≤ 1000000000) (w : World) :
    Calls Tryd.prog 46 #[.int .i64 n] w fun e w' => e = .returned (.tuple #[.string ⟨(padL n).toArray⟩, .bool true]) ∧ Below w.heap.size w w' := by
  have h1 : ¬ (n : Int) < 0 := by omega
  have h2 : ¬ 1000000000 < (n : Int) := by omega
  have e1 : (8 * (n : Int)) / 4294967296 = ((8 * n / 4294967296 : Nat) : Int) := by omega
  have e2 : (8 * (n : Int)) % 4294967296 = ((8 * n % 4294967296 : Nat) : Int) := by omega
  have hl := joinL_length true [8 * n / 4294967296, 8 * n % 4294967296]
  have hx : ∀ x ∈ [8 * n / 4294967296, 8 * n % 4294967296], x < 4294967296 := by simp; omega
  have HP := Lib.hid (show padL n = 128 :: (List.replicate ((64 - (n + 9) % 64) % 64) 0 ++ joinL true [8 * n / 4294967296, 8 * n % 4294967296]) from rfl)
  generalize 8 * n / 4294967296 = a at *
  generalize 8 * n % 4294967296 = b at *
  go_enter Tryd.func46, Tryd.ntmps46
  go_wp2_with fail
  refine (join_any _ _ [a, b] true _ (by simp) (Sl.new _ _ _) hx).mono ?_
  rintro e w1 ⟨rfl, hb1⟩
  go_wp2_with fail
  have e3 : (-(((n : Int) + 1 + 8) % 64) % 64) = (((64 - (n + 9) % 64) % 64 : Nat) : Int) := by omega
  have hz : (64 - (n + 9) % 64) % 64 < 64 := Nat.mod_lt _ (by omega)
  rw [e3]
  clear e3
  generalize (64 - (n + 9) % 64) % 64 = z at *
  have hrep := repeat0 z
  have hA : ∀ W : World, (Op.stringOp .add ⟨#[128]⟩ ⟨(List.replicate z 0).toArray⟩).run Tryd.prog W = .ok (.string ⟨(128 :: List.replicate z 0).toArray⟩) W := fun W => str_add [128] _ (by simp; omega) W
  have hB : ∀ W : World, (Op.stringOp .add ⟨(128 :: List.replicate z 0).toArray⟩ ⟨(joinL true [a, b]).toArray⟩).run Tryd.prog W = .ok (.string ⟨(padL n).toArray⟩) W := fun W => by
    rw [HP.out]
    exact str_add (128 :: List.replicate z 0) _ (by rw [hl]; simp; omega) W
  refine (Tryd.strings_Repeat ⟨#[0]⟩ z _ (by omega) (by simp [ByteArray.size]; omega)).mono ?_
  rintro e w2 ⟨rfl, hb2⟩
  rw [show (ByteArray.mk #[0]).data.toList = [0] from rfl, hrep]
  clear hrep
  generalize hq : (128 :: List.replicate z (0 : UInt8)).toArray = q at *
  clear hq
  generalize (List.replicate z (0 : UInt8)).toArray = r at *
  generalize hpad : (padL n).toArray = pd at *
  have HPD := Lib.hid hpad
  clear hpad
  go_wp2
  go_ret2
  exact ⟨by rw [HPD.out]; rfl, (Below.alloc0 _ _).next (hb1.next hb2)⟩
end Go.Proofs.YtgcohoonhklkbaaDoor

/-
  digest: the contracts of blocks (a text's blocks, one behind the other) and of Sum.
-/
namespace Go.Proofs.YtgcohoonhklkbaaDoor
open Go.RowKit Go.Kx Go.Shelf
set_option maxRecDepth 20000
attribute [local go_sem] Oper.semAt_some

theorem blocks_any (s p : ByteArray) (w : World) :
    Calls Tryd.prog 48 #[.string s, .string p] w fun e w' => e = .returned (.func (.func 59) #[] #[.pointer (some ⟨w.heap.size, 0, none⟩), .pointer (some ⟨w.heap.size + 1, 0, none⟩)]) ∧
      (w.alloc (.cells #[.string s] 9)).alloc (.cells #[.string p] 9) = w' := by
  go_enter Tryd.func48, Tryd.ntmps48
  go_wp2
  go_ret
  exact ⟨rfl, rfl⟩

def chunkB (l : List UInt8) (k : Nat) : ByteArray := ⟨(chunkAt l k).toArray⟩
def chunksB (l : List UInt8) : List ByteArray := (List.range (l.length / 64)).map (chunkB l)
theorem chunksB_take (l : List UInt8) (k : Nat) (h : k < l.length / 64) : (chunksB l).take k ++ [chunkB l k] = (chunksB l).take (k + 1) := by
  rw [List.take_add_one, chunksB, List.getElem?_map, List.getElem?_range h]; rfl
theorem chunksB_all (l : List UInt8) (k : Nat) (h : l.length / 64 ≤ k) : (chunksB l).take k = chunksB l := List.take_of_length_le (by simp [chunksB]; omega)
theorem chunksB_size (l : List UInt8) (pre : List ByteArray) (x : ByteArray) (h : pre ++ [x] <+: chunksB l) : x.size = 64 := by
  have hm : x ∈ chunksB l := h.subset (by simp)
  obtain ⟨k, hk, rfl⟩ := List.mem_map.1 hm
  rw [chunkB, size_mk, chunkAt, List.length_take, List.length_drop]
  have := List.mem_range.1 hk
  omega
def strAt (w : World) (b : Nat) : Nat := match w.cell? ⟨b, 0, none⟩ with | some (.string t) => t.size | _ => 0
theorem strAt_eq {w : World} {b : Nat} {t : ByteArray} (h : w.cell? ⟨b, 0, none⟩ = some (.string t)) : strAt w b = t.size := by simp [strAt, h]

set_option maxHeartbeats 1000000 in
theorem blocks1_in (F : Fence) (n : Nat) (hf : F.fn 59) (hro : F.round = none) (hn : 1 ≤ n) (b1 b2 : Nat) (s p : ByteArray) (w : World) (h1 : w.cell? ⟨b1, 0, none⟩ = some (.string s)) (h1f : w.frozen? ⟨b1, 0, none⟩ = false)
    (h2 : w.cell? ⟨b2, 0, none⟩ = some (.string p)) (hne : b1 ≠ b2) (hp : p.size ≤ 1000) (hm : (s.data.toList ++ p.data.toList).length % 64 = 0) :
    SeqCell F n Tryd.prog 59 #[.pointer (some ⟨b1, 0, none⟩), .pointer (some ⟨b2, 0, none⟩)] (fun x : ByteArray => #[.string x]) b1 (fun k => k = b1 ∨ k = b2) (chunksB (s.data.toList ++ p.data.toList)) w := by
  intro l J W hW hJ hY h0
  have k1 := block_lt_of_cell h1
  have k2 := block_lt_of_cell h2
  have c1 := (hW.cell (p := ⟨b1, 0, none⟩) k1).trans h1
  have c2 := (hW.cell (p := ⟨b2, 0, none⟩) k2).trans h2
  have f1 := (hW.frozen (p := ⟨b1, 0, none⟩) k1).trans h1f
  refine callsIn_of_wp Tryd.func59 rfl hf ?_ hro
  simp only [Tryd.ntmps59, List.size_toArray, List.length_cons, List.length_nil, Nat.reduceAdd, Nat.reduceSub, Array.replicate_succ, Array.replicate_zero, List.push_toArray, List.append_toArray, List.nil_append, List.cons_append]
  gi_wp2
  gi_loopw [5] (fun _ wr => ∃ (k : Nat) (t : ByteArray), 64 * k ≤ s.data.toList.length ∧ wr.cell? ⟨b1, 0, none⟩ = some (.string t) ∧ t.data.toList = s.data.toList.drop (64 * k) ∧ wr.frozen? ⟨b1, 0, none⟩ = false ∧ wr.cell? ⟨b2, 0, none⟩ = some (.string p) ∧
      J ((chunksB (s.data.toList ++ p.data.toList)).take k) wr) (fun _ wr => strAt wr b1)
  case atStart => exact ⟨0, s, by omega, c1, by simp, f1, c2, by simpa using h0⟩
  case round =>
    obtain ⟨k, t, hk, ht, htl, hf1, ht2, hJk⟩ := hrel
    have hts : t.size = s.data.toList.length - 64 * k := by rw [show t.size = t.data.toList.length by simp, htl, List.length_drop]
    by_cases hl : 64 ≤ t.size
    · have hx : t.extract 0 64 = chunkB (s.data.toList ++ p.data.toList) k := by
        apply ByteArray.ext
        apply Array.toList_inj.1
        rw [Lib.extract_data]
        simp only [List.drop_zero, Nat.sub_zero, chunkB, chunkAt, htl]
        rw [List.drop_append_of_le_length hk, List.take_append_of_le_length (by rw [List.length_drop]; omega)]
      have hpre : (chunksB (s.data.toList ++ p.data.toList)).take k ++ [t.extract 0 64] = (chunksB (s.data.toList ++ p.data.toList)).take (k + 1) := by
        rw [hx]
        exact chunksB_take _ k (by rw [List.length_append]; omega)
      have HPRE := Lib.hid hpre
      have HTL := Lib.hid htl
      have HTS := Lib.hid hts
      clear hx htl hts hpre
      obtain ⟨fn, tmps, assign, body, hy, hR⟩ := hY _ (t.extract 0 64) wr (HPRE.out ▸ List.take_prefix _ _) hJk
      gi_wp2
      refine hR.mono ?_
      rintro e W' ⟨rfl, hJ', hk'⟩
      have b1l := block_lt_of_cell ht
      have b2l := block_lt_of_cell ht2
      have ht' : W'.cell? ⟨b1, 0, none⟩ = some (.string t) := (cell_of_heap (hk' b1 (.inl rfl)) 0).trans ht
      have hf' : W'.frozen? ⟨b1, 0, none⟩ = false := (frozen_of_heap (hk' b1 (.inl rfl)) 0).trans hf1
      have ht2' : W'.cell? ⟨b2, 0, none⟩ = some (.string p) := (cell_of_heap (hk' b2 (.inr rfl)) 0).trans ht2
      have HT := Lib.hid (strAt_eq ht)
      clear hy hR ht hf1 ht2
      gi_wp2
      go_roundw
      case rel =>
        have htl := HTL.out
        have hts := HTS.out
        rw [HPRE.out] at hJ'
        refine ⟨k + 1, t.extract 64 t.size, by omega, World.cell?_setCell_same' _ _ _ (by rw [ht']; rfl), ?_, by rw [World.frozen?_setCell]; exact hf', ?_, hJ _ _ _ hJ'⟩
        · rw [Lib.extract_to_end, htl, List.drop_drop]; rfl
        · rw [World.cell?_setCell_other _ _ _ _ (by simp)]; exact ht2'
      case measure =>
        rw [strAt_eq (t := t.extract 64 t.size) (World.cell?_setCell_same' _ _ _ (by rw [ht']; rfl)), HT.out]
        simp; omega
    · have hadd : ∀ V : World, (Op.stringOp .add t p).run Tryd.prog V = .ok (.string (t ++ p)) V := fun V => run_string_add_sum V t p (by omega)
      have hl' : ¬ (64 : Int) ≤ (t.size : Int) := by omega
      have htp : (t ++ p).data.toList = (s.data.toList ++ p.data.toList).drop (64 * k) := by
        rw [show (t ++ p).data.toList = t.data.toList ++ p.data.toList by simp, htl, List.drop_append_of_le_length hk]
      have HTP := Lib.hid htp
      clear htl hts htp
      have hk2 : 64 * k ≤ (s.data.toList ++ p.data.toList).length := by rw [List.length_append]; omega
      clear hk
      generalize hL : (s.data.toList ++ p.data.toList) = L at *
      have HL := Lib.hid hL
      clear hL
      gi_wp2
      clear hadd
      gi_loopw [4] (fun v wr => ∃ (j : Nat) (r : ByteArray), v = .string r ∧ 64 * j ≤ L.length ∧ r.data.toList = L.drop (64 * j) ∧ J ((chunksB L).take j) wr) (fun v _ => match v with | .string r => r.size | _ => 0)
      case atStart => exact ⟨k, t ++ p, rfl, hk2, HTP.out, hJk⟩
      case round =>
        obtain ⟨j, r, rfl, hj, hrl, hJj⟩ := hrel
        have hrs : r.size = L.length - 64 * j := by rw [show r.size = r.data.toList.length by simp, hrl, List.length_drop]
        by_cases h0 : 64 * j = L.length
        · have he : r.toList.isEmpty = true := by rw [Lib.toList_data, hrl, h0, List.drop_length]; rfl
          have hall := chunksB_all L j (by omega)
          rw [hall] at hJj
          clear hrl hrs h0
          gi_wp2
          go_end0
          exact ⟨⟨_, rfl⟩, by rw [HL.out]; exact hJj⟩
        · have he : r.toList.isEmpty = false := by
            rw [Lib.toList_data, hrl, List.isEmpty_eq_false_iff]
            intro e
            have := congrArg List.length e
            rw [List.length_drop, List.length_nil] at this
            omega
          have h64 : 64 ≤ r.size := by omega
          have hx : r.extract 0 64 = chunkB L j := by
            apply ByteArray.ext
            apply Array.toList_inj.1
            rw [Lib.extract_data]
            simp only [List.drop_zero, Nat.sub_zero, chunkB, chunkAt, hrl]
          have hpre : (chunksB L).take j ++ [r.extract 0 64] = (chunksB L).take (j + 1) := by
            rw [hx]
            exact chunksB_take _ j (by omega)
          have HPRE := Lib.hid hpre
          have HRL := Lib.hid hrl
          have HRS := Lib.hid hrs
          clear hrl hrs hx hpre
          obtain ⟨fn, tmps, assign, body, hy, hR⟩ := hY _ (r.extract 0 64) wr (HPRE.out ▸ List.take_prefix _ _) hJj
          gi_wp2
          refine hR.mono ?_
          rintro e W' ⟨rfl, hJ', hk'⟩
          clear hy hR
          rw [HPRE.out] at hJ'
          gi_wp2
          go_roundw
          case rel => exact ⟨j + 1, r.extract 64 r.size, rfl, by have := HRS.out; omega, by rw [Lib.extract_to_end, HRL.out, List.drop_drop]; rfl, hJ'⟩
          case measure => simp; omega
end Go.Proofs.YtgcohoonhklkbaaDoor

/-
  digest: the contracts of Start and Sum.
-/
namespace Go.Proofs.YtgcohoonhklkbaaDoor
open Go.RowKit Go.Kx Go.Shelf
set_option maxRecDepth 20000
attribute [local go_sem] Oper.semAt_some

theorem start_any (w : World) : Calls Tryd.prog 47 #[] w fun e w' => e = .returned st0.v ∧ Below w.heap.size w w' := by
  go_enter Tryd.func47, Tryd.ntmps47
  go_wp2
  have hinf : (Tryd.prog.info? 59).map (·.size) = some (i64s st0).size := row8_size
  refine bodyPost_ret (v := st0.v) (results_cell_row rfl _ _ w.heap.size _ (i64s st0) _ _ rfl (by exact World.alloc_heap_new w _) Tryd.underlying59 rfl hinf) rfl ⟨rfl, Below.alloc0 _ _⟩

theorem pad_mod (n : Nat) : (n + (padL n).length) % 64 = 0 := by
  simp only [padL, List.length_cons, List.length_append, List.length_replicate, joinL_length, List.length_nil]
  omega
theorem pad_le (n : Nat) : (padL n).length ≤ 72 ∧ 9 ≤ (padL n).length := by
  simp only [padL, List.length_cons, List.length_append, List.length_replicate, joinL_length, List.length_nil]
  omega
def foldS (xs : List ByteArray) : St := xs.foldl (fun s b => stepL s b.data.toList) st0
theorem foldS_snoc (xs : List ByteArray) (x : ByteArray) : foldS (xs ++ [x]) = stepL (foldS xs) x.data.toList := by simp [foldS]
theorem st0_ok : st0.ok := by unfold St.ok; decide
theorem foldS_ok (xs : List ByteArray) : (foldS xs).ok := by
  rcases List.eq_nil_or_concat xs with rfl | ⟨ys, y, rfl⟩
  · exact st0_ok
  · rw [List.concat_eq_append, foldS_snoc]; exact stepL_ok _ _
theorem foldS_chunks (l : List UInt8) : foldS (chunksB l) = (chunks l).foldl stepL st0 := by
  unfold foldS chunksB chunks
  rw [List.foldl_map, List.foldl_map]
  rfl

set_option maxHeartbeats 2000000 in
theorem sum_any (s : ByteArray) (hs : s.size ≤ 1000000000) (w : World) (hK : Consts w) :
    Calls Tryd.prog 27 #[.string s] w fun e w' => e = .returned (.string ⟨(sumL s.data.toList).toArray⟩) ∧ Below w.heap.size w w' := by
  refine (callsIn_wide (n := 3)).1 ?_
  refine callsIn_of_wp_marks Tryd.func27 rfl trivial ?_ rfl
  simp only [Tryd.ntmps27, List.size_toArray, List.length_cons, List.length_nil, Nat.reduceAdd, Nat.reduceSub, Array.replicate_succ, Array.replicate_zero, List.push_toArray, List.append_toArray, List.nil_append, List.cons_append]
  obtain ⟨p, hp⟩ : ∃ p : ByteArray, p = ⟨(padL s.size).toArray⟩ := ⟨_, rfl⟩
  have hpad : ∀ V : World, Calls Tryd.prog 46 #[.int .i64 (s.size : Int)] V fun e w' => e = .returned (.tuple #[.string p, .bool true]) ∧ Below V.heap.size V w' := by rw [hp]; exact fun V => pad_yes s.size hs V
  have hpl : p.data.toList = padL s.size := by rw [hp]
  have hps : p.size ≤ 1000 := by have := (pad_le s.size).1; rw [hp, size_mk]; omega
  have hpm : (s.data.toList ++ p.data.toList).length % 64 = 0 := by rw [hpl, List.length_append]; exact pad_mod s.size
  have HPAD := Lib.hid hpad
  have HPL := Lib.hid hpl
  have HPM := Lib.hid hpm
  clear hp hpad hpl hpm
  gi_wp2_with (first
    | (refine ⟨trivial, ?_⟩; gi_at_call 46; refine (callsIn_wide.2 (HPAD.out w)).mono ?_; rintro e w1 ⟨rfl, hb1⟩)
    | (refine ⟨trivial, ?_⟩; gi_at_call 47; refine (callsIn_wide.2 (start_any _)).mono ?_; rintro e w2 ⟨rfl, hb2⟩; unfold St.v)
    | (refine ⟨trivial, ?_⟩; gi_at_call 48; refine (callsIn_wide.2 (blocks_any s p _)).mono ?_; rintro e w3 ⟨rfl, rfl⟩))
  have hbw : Below w.heap.size w w2 := hb1.next hb2
  have hs1 := hb1.size
  have hs2 := hb2.size
  clear hb1 hb2
  have hW : Below w.heap.size w (((w2.alloc (.cells (i64s st0) 59)).alloc (.cells #[.string s] 9)).alloc (.cells #[.string p] 9)) :=
    ((hbw.alloc (by omega) _).alloc (by simp; omega) _).alloc (by simp; omega) _
  have hr : (((w2.alloc (.cells (i64s st0) 59)).alloc (.cells #[.string s] 9)).alloc (.cells #[.string p] 9)).rowIs w2.heap.size 59 8 (fun j => .int .i64 ((foldS []).at j : Nat)) :=
    ((World.rowIs_alloc w2 (i64s st0) 59 (fun j => .int .i64 (st0.at j : Nat)) (fun j hj => rowA_at .i64 8 st0.at j hj)).alloc _).alloc _
  have hc1 : (((w2.alloc (.cells (i64s st0) 59)).alloc (.cells #[.string s] 9)).alloc (.cells #[.string p] 9)).cell? ⟨w2.heap.size + 1, 0, none⟩ = some (.string s) := by go_simp
  have hf1 : (((w2.alloc (.cells (i64s st0) 59)).alloc (.cells #[.string s] 9)).alloc (.cells #[.string p] 9)).frozen? ⟨w2.heap.size + 1, 0, none⟩ = false := by go_simp
  have hc2 : (((w2.alloc (.cells (i64s st0) 59)).alloc (.cells #[.string s] 9)).alloc (.cells #[.string p] 9)).cell? ⟨w2.heap.size + 1 + 1, 0, none⟩ = some (.string p) := by go_simp
  have hsz : (((w2.alloc (.cells (i64s st0) 59)).alloc (.cells #[.string s] 9)).alloc (.cells #[.string p] 9)).heap.size = w2.heap.size + 1 + 1 + 1 := by simp
  unfold i64s at hW hr hc1 hf1 hc2 hsz
  generalize (((w2.alloc _).alloc _).alloc _) = W at *
  generalize w2.heap.size = N at *
  obtain ⟨L, hL⟩ : ∃ L, L = s.data.toList ++ p.data.toList := ⟨_, rfl⟩
  refine wpIn_range_cell (xs := chunksB (s.data.toList ++ p.data.toList)) rfl (by omega) (gf := 59) (lb := #[.pointer (some ⟨N + 1, 0, none⟩), .pointer (some ⟨N + 1 + 1, 0, none⟩)]) rfl trivial
    (enters_of Tryd.func59 (by kernel_rfl) rfl) (B := N + 1) (encs := fun x => #[.string x]) (by omega) (fun k hk => by omega) (blocks1_in Fence.wide 2 trivial rfl (by omega) (N + 1) (N + 1 + 1) s p W hc1 hf1 hc2 (by omega) hps HPM.out) (fun _ => rfl)
    (fun pre V => V.rowIs N 59 8 (fun j => .int .i64 ((foldS pre).at j : Nat)) ∧ Below w.heap.size w V ∧ N + 1 + 1 < V.heap.size)
    (fun pre A v h => ⟨h.1.setOther (by simp) v, h.2.1.setCell (p := ⟨N + 1, 0, none⟩) (by simp; omega) v, by simpa using h.2.2⟩)
    (fun pre A A' h hb => ⟨h.1.of_block (hb.block _ (by omega)), h.2.1.trans (hb.mono (by omega)), Nat.lt_of_lt_of_le h.2.2 hb.size⟩) ⟨hr, hW, by omega⟩
    (fun x => { tmps := #[.string s, undef, .string ⟨#[]⟩, .string p, .bool true, .pointer (some ⟨N, 0, none⟩), .string x, undef, undef, .tuple #[.string p, .bool true], .string s, .int .i64 s.size, .tuple #[.string p, .bool true], .string p, .bool true, .bool true, .bool false,
      .agg #[.int .i64 st0.a, .int .i64 st0.b, .int .i64 st0.c, .int .i64 st0.d, .int .i64 st0.e, .int .i64 st0.f, .int .i64 st0.g, .int .i64 st0.h], .string s, .string p,
      .func (.func 59) #[] #[.pointer (some ⟨N + 1, 0, none⟩), .pointer (some ⟨N + 1 + 1, 0, none⟩)], .string x, undef, undef, undef, undef, undef, undef, undef, undef, undef, undef, undef, undef], defers := [] }) ?assign ?body ?done
  case assign =>
    intro l x V K hKx
    gi_wp2
    exact hKx
  case body =>
    rintro l pre x V hpx ⟨hrv, hbv, hsv⟩
    have hx := chunksB_size _ _ _ hpx
    have hok := foldS_ok pre
    have HN := Lib.hid (foldS_snoc pre x)
    have hcons : Consts V := hK.keep hbv
    have hNV := hrv.lt
    have HSV := Lib.hid hsv
    clear hsv
    generalize foldS (pre ++ [x]) = S' at *
    generalize foldS pre = S at *
    obtain ⟨c0, c1, c2, c3, c4, c5, c6, c7⟩ := row8_i64 hrv
    gi_wp2_with (refine ⟨trivial, ?_⟩; gi_at_call 49; refine (CallsIn.inRound l (callsIn_wide.2 (step_lit S hok x hx S' HN.out.symm V hcons))).mono ?_; rintro e V2 ⟨rfl, hb2⟩; clear c0 c1 c2 c3 c4 c5 c6 c7; have hr2 := rowIs_keep hrv hb2; obtain ⟨d0, d1, d2, d3, d4, d5, d6, d7⟩ := row8_i64 hr2; have df := hr2.frozen)
    have hsv := HSV.out
    refine ⟨(others_of_below hb2).trans ((((((((KeepsOthers.setCell _ _ _).trans (KeepsOthers.setCell _ _ _)).trans (KeepsOthers.setCell _ _ _)).trans (KeepsOthers.setCell _ _ _)).trans (KeepsOthers.setCell _ _ _)).trans (KeepsOthers.setCell _ _ _)).trans (KeepsOthers.setCell _ _ _)).trans (KeepsOthers.setCell _ _ _)),
      ⟨(heap8_set (k := N + 1) (by omega) _ _ _ _ _ _ _ _).trans (hb2.block (N + 1) (by omega)), (heap8_set (k := N + 1 + 1) (by omega) _ _ _ _ _ _ _ _).trans (hb2.block (N + 1 + 1) (by omega))⟩, row8_seti hr2 S', below8_set (hbv.next' hb2) (by omega) _ _ _ _ _ _ _ _, ?_⟩
    have h1 := hb2.size
    have h2 := HSV.out
    omega
  case done =>
    rintro D V hD ⟨hrv, hbv, hsv⟩ hKd
    have hok := foldS_ok (chunksB (s.data.toList ++ p.data.toList))
    have hsl : Sl V (some ⟨N, 0, none⟩) (ints (foldS (chunksB (s.data.toList ++ p.data.toList))).l) := Sl_of_row hrv
    have HR := Lib.hid (show sumL s.data.toList = joinL true (foldS (chunksB (s.data.toList ++ p.data.toList))).l by
      rw [sumL, foldS_chunks, HPL.out]; rfl)
    generalize foldS (chunksB (s.data.toList ++ p.data.toList)) = S at *
    have hDV := (Array.getElem?_eq_some_iff.1 hKd).1
    gi_wp2_with (refine ⟨trivial, ?_⟩; gi_at_call 50; refine (callsIn_wide.2 (join_any (some ⟨N, 0, none⟩) 8 S.l true V (by simp [St.l]) hsl (St.l_lt hok))).mono ?_; rintro e V3 ⟨rfl, hb3⟩)
    have hK3 := (hb3.block D hDV).trans hKd
    refine ⟨by simp, .inl ⟨_, _, rfl, run_takeDeferred hK3, ?_⟩⟩
    have hbd : Below w.heap.size w (V3.putObj D (.deferred none)) := (hbv.next' hb3).trans ((Below.refl w.heap.size V3).grown (grownBy_putObj' V3 D _) (by have := hbv.size; have := hb3.size; omega) (fun k e => by cases e; omega))
    exact ⟨_, results_tmp rfl _ _ _, by rw [HR.out]; rfl, hbd⟩
end Go.Proofs.YtgcohoonhklkbaaDoor

/-
  digest.Sum of any text, as tree's contracts want it.
-/
namespace Go.Proofs.YtgcohoonhklkbaaDoor
open Go.RowKit Go.Kx Go.Trm
set_option maxRecDepth 20000

theorem sum_no (s : ByteArray) (hs : 1000000000 < s.size) (w : World) :
    Calls Tryd.prog 27 #[.string s] w fun e w' => e = .returned (.string ⟨#[]⟩) ∧ w = w' := by
  have hpad := pad_no (s.size : Int) (.inr (by omega)) w
  go_enter Tryd.func27, Tryd.ntmps27
  go_wp2_with fail
  refine hpad.mono ?_
  rintro e w1 ⟨rfl, rfl⟩
  go_wp2
  go_ret
  exact ⟨rfl, rfl⟩
theorem dsumH_paid : DSumH := fun s d _ hd w hK => by
  by_cases h : s.size ≤ 1000000000
  · have h1 := sum_any s h w hK
    rw [sumH_short (by simpa using h)] at hd
    rw [hd, mk_list] at h1
    exact h1
  · have hz : d = ⟨#[]⟩ := by
      unfold sumH at hd
      rw [if_neg (by simpa using h)] at hd
      exact ByteArray.ext (Array.toList_inj.1 hd.symm)
    subst hz
    exact (sum_no s (by omega) w).mono fun e w' ⟨he, hw⟩ => ⟨he, hw ▸ Below.refl _ _⟩
end Go.Proofs.YtgcohoonhklkbaaDoor

/-
  The last step of a law's row, over any program, any number and any types of arguments: the law told true, and below the heap's old size nothing has turned.
-/
namespace Go.Kx
open Go.RowKit Go.ChangeShapes

section
variable {H : Type} {enc : TypeId × Value → H} {P : Program}
theorem trod_again (hl : laidOutB P = true) {W W' : World} (hb : Below W.heap.size W W') : ∀ {ts : List TypeId} {vs : List Value} {ds : List (DataW H)} {ps : List MemPlace},
    (∀ t ∈ ts, P.readableRec t = true ∧ t < P.types.size) → DataW.TrodAll enc P W 0 (fun _ => true) true ts vs ds ps → (∀ x ∈ ps, x.block < W.heap.size) →
    DataW.TrodAll enc P W' 0 (fun b => decide (b < W.heap.size)) true ts vs ds ps := by
  intro ts
  induction ts with
  | nil =>
    intro vs ds ps _ h _
    obtain ⟨rfl, rfl, rfl⟩ := trodAll_nil h
    exact trodAll_mk0
  | cons t ts ih =>
    intro vs ds ps ht h hlt
    obtain ⟨v, vs', d, ds', p, q, rfl, rfl, rfl, h0, h1⟩ := trodAll_cons h
    have hlt0 : ∀ x ∈ p, x.block < W.heap.size := fun x hx => hlt x (List.mem_append_left _ hx)
    have hlt1 : ∀ x ∈ q, x.block < W.heap.size := fun x hx => hlt x (List.mem_append_right _ hx)
    have ht0 := ht t List.mem_cons_self
    exact trodAll_cons_mk (Below.trod hl ht0.1 ht0.2 h0 hb hlt0) (ih (fun t' h' => ht t' (List.mem_cons_of_mem _ h')) h1 hlt1)

/-- A law's row: it told true; what came in reads as it did. -/
theorem law_post {s : ChangeSpec} {f : Func} {apart handsOn : Bool} {W W' : World} {args : Array Value} {ds gs : List (DataW H)} {before : List MemPlace} {B : TypeId}
    (hl : laidOutB P = true) (hts : f.params.toList.all (fun t => P.readableRec t && decide (t < P.types.size)) = true) (hrt : f.resultTypes = #[B]) (hB : P.underlying B = some .bool) (hvars : s.vars = [])
    (hW : DataW.Whole enc P f.params.toList s.vars apart W args.toList ds gs before)
    (hr : (s.fn H (ds ++ gs)).results = [.lit (.bool true)]) (ha : (s.fn H (ds ++ gs)).args = ds) (hv : (s.fn H (ds ++ gs)).vars = []) (hb : Below W.heap.size W W') :
    s.post enc P f apart true handsOn false W args (.bool true) W' := by
  have hlt : ∀ x ∈ before, x.block < W.heap.size := fun x hx => hW.lt x hx
  have hW0 := hW
  obtain ⟨p, q, hA, hV, rfl, _, _⟩ := hW
  rw [hvars] at hV
  obtain ⟨rfl, rfl⟩ := trodVars_none hV
  have hts' : ∀ t ∈ f.params.toList, P.readableRec t = true ∧ t < P.types.size := by
    intro t ht
    have := List.all_eq_true.1 hts t ht
    simpa using this
  have hnew := trod_again hl hb hts' hA (fun x hx => hlt x (List.mem_append_left _ hx))
  refine ⟨ds, [], _, [], p, [], hW0, ?_, by rw [ha]; exact hnew, by rw [hvars, hv]; rfl, hb.frame _ |> World.keptBut_mono (fun x hx => ⟨hx, Or.inr (Or.inl (by simpa using hx))⟩), fun h => by cases h⟩
  rw [hr, hrt]
  exact trodAll_cons_mk (p' := []) (shut_bool hB true) trodAll_mk0
end
end Go.Kx

/-
  A []string argument opened: a slice that reads as a list.
-/
namespace Go.Proofs.YtgcohoonhklkbaaDoor
open Go.RowKit Go.Kx
set_option maxRecDepth 20000
open Go.ChangeShapes Go.WideShapes Go.ChangeAt

theorem str_cells : Tryd.prog.cellsOf 9 = 1 := by kernel_rfl
theorem open_strl {H : Type} {enc : TypeId × Value → H} {W : World} {base : Nat} {v : Value} {d : DataW H} {p : List MemPlace} (hv : Value.okWide Tryd.prog W .any base 22 v) (h : DataW.Trod enc Tryd.prog W 0 (fun _ => true) true 22 v d p)
    (hlt : ∀ x ∈ p, x.block < W.heap.size) : ∃ (A : Option Addr) (l : List ByteArray) (c : Nat), v = .slice A l.length c ∧ (l.length ≤ 9223372036854775807 ∧ ∀ s ∈ l, s.size ≤ 9223372036854775807) ∧ Sl W A (strsV l) := by
  obtain ⟨a0, len, cap, rfl⟩ := okWide_slice Tryd.underlying22 hv
  obtain ⟨fuel, hf⟩ := h
  rcases open_strings Tryd.underlying22 Tryd.underlying9 str_cells hf with ⟨hcs, hx⟩ | ⟨a, len', cap', zs, hcs, _, hl, hm, hz, hx, hcell, hwz⟩
  · simp [Value.cells] at hcs
    obtain ⟨rfl, rfl, rfl⟩ := hcs
    exact ⟨none, [], 0, rfl, ⟨by simp, fun s hs => by cases hs⟩, Sl.nil _ _⟩
  · simp [Value.cells] at hcs
    obtain ⟨rfl, rfl, rfl⟩ := hcs
    simp only [Prod.mk.injEq] at hx
    obtain ⟨rfl, rfl⟩ := hx
    simp only [if_true] at hz
    unfold maxLen at hm hwz
    have hlen : (zs.take len).length = len := by rw [List.length_take]; omega
    refine ⟨some a, zs.take len, cap, by rw [hlen], ⟨by omega, fun s hs => by have := hwz s (List.mem_of_mem_take hs); omega⟩, ?_⟩
    by_cases hl0 : len = 0
    · subst hl0
      exact .inl rfl
    · obtain ⟨b, off, spot⟩ := a
      have hspot : spot = none := by simpa [Addr.add] using World.cell?_spot (hcell 0 (by omega))
      subst hspot
      refine .inr ⟨b, off, rfl, hlt (.cell b off) (MemPlace.mem_row.2 ⟨0, by omega, by simp⟩), fun j u hu => ?_⟩
      rw [strsV, List.getElem?_map, Option.map_eq_some_iff] at hu
      obtain ⟨y, hy, rfl⟩ := hu
      have hj : j < len := by
        have := (List.getElem?_eq_some_iff.1 hy).1
        omega
      rw [List.getElem?_take, if_pos hj] at hy
      have h2 := hcell j (by omega)
      rw [add_plain] at h2
      rw [h2, List.getD, hy]
      rfl
theorem weights_strs {H : Type} {P : Program} {e : TypeId} : ∀ {l : List ByteArray} {s : ByteArray}, s ∈ l → s.data.toList.length ∈ DataW.weightsAll P e (strs l : List (DataW H))
  | [], _, h => by cases h
  | a :: l, s, h => by
    rw [strs, List.map_cons, DataW.weightsAll, DataW.weights]
    rcases List.mem_cons.1 h with rfl | h
    · simp
    · exact List.mem_append_right _ (weights_strs h)
/-- The same, with the row's reach: no text is longer than any machine's memory. -/
theorem open_strlr {H : Type} {enc : TypeId × Value → H} {W : World} {base : Nat} {v : Value} {d : DataW H} {p : List MemPlace} (hv : Value.okWide Tryd.prog W .any base 22 v) (h : DataW.Trod enc Tryd.prog W 0 (fun _ => true) true 22 v d p)
    (hlt : ∀ x ∈ p, x.block < W.heap.size) (hw : (DataW.weights Tryd.prog 22 d).all (· ≤ reachBytes) = true) : ∃ (A : Option Addr) (l : List ByteArray) (c : Nat), v = .slice A l.length c ∧ (l.length ≤ 9223372036854775807 ∧ ∀ s ∈ l, s.size ≤ 9223372036854775807) ∧ (∀ s ∈ l, s.size ≤ 140737488351232) ∧ Sl W A (strsV l) := by
  have h' := h
  obtain ⟨a0, len, cap, rfl⟩ := okWide_slice Tryd.underlying22 hv
  obtain ⟨fuel, hf⟩ := h
  rcases open_strings Tryd.underlying22 Tryd.underlying9 str_cells hf with ⟨hcs, hx⟩ | ⟨a, len', cap', zs, hcs, _, hl, hm, hz, hx, hcell, hwz⟩
  · simp [Value.cells] at hcs
    obtain ⟨rfl, rfl, rfl⟩ := hcs
    exact ⟨none, [], 0, rfl, ⟨by simp, fun s hs => by cases hs⟩, fun s hs => (by cases hs), Sl.nil _ _⟩
  · obtain ⟨A, l, c, e, hb, hs⟩ := open_strl hv h' hlt
    simp [Value.cells] at hcs
    obtain ⟨rfl, rfl, rfl⟩ := hcs
    simp only [Prod.mk.injEq] at hx
    obtain ⟨rfl, rfl⟩ := hx
    simp only [if_true] at hz
    obtain ⟨rfl, rfl, rfl⟩ := Value.slice.inj e
    have hlz : zs.take l.length = l := by
      refine List.ext_getElem? fun j => ?_
      by_cases hj : j < l.length
      · obtain ⟨b, off, ea, hc⟩ := sl_strV hs hj
        obtain rfl := Option.some.inj ea
        have h2 := hcell j (by omega)
        rw [add_plain] at h2
        rw [h2] at hc
        rw [List.getElem?_take, if_pos hj, List.getElem?_eq_getElem (by omega), List.getElem?_eq_getElem hj]
        have h3 : zs.getD j ByteArray.empty = l[j] := by simpa using hc
        rw [← h3, List.getD, List.getElem?_eq_getElem (by omega)]
        rfl
      · rw [List.getElem?_eq_none (by rw [List.length_take]; omega), List.getElem?_eq_none (by omega)]
    refine ⟨_, l, _, rfl, hb, fun s hs' => ?_, hs⟩
    rw [hlz] at hw
    simp only [DataW.weights, Tryd.underlying22, List.all_cons, List.all_append, Bool.and_eq_true] at hw
    have h1 := List.all_eq_true.1 hw.2.1 _ (weights_strs hs')
    have h2 : s.data.toList.length = s.size := by simp
    rw [decide_eq_true_eq, h2] at h1
    exact h1
end Go.Proofs.YtgcohoonhklkbaaDoor

/-
  Of several listed variables, what is said of one (any program).
-/
namespace Go.Kx
open Go.RowKit

theorem laidVars_at {P : Program} {w : World} : ∀ {L : List (String × DataW Unit)} {ps : List MemPlace}, DataW.LaidVars P w L ps → ∀ {n : String} {d : DataW Unit}, (n, d) ∈ L →
    ∃ g t cs fuel p, P.globalNamed n = some g ∧ (P.globals[g]?).map (·.type) = some t ∧ w.var? P n = some cs ∧ DataW.trod (fun _ => ()) P w 0 (fun _ => true) false fuel t cs.toList = some (d, p) := by
  intro L
  induction L with
  | nil => intro ps _ n d hm; cases hm
  | cons x r ih =>
    intro ps h n d hm
    obtain ⟨n0, d0⟩ := x
    obtain ⟨g, t, cs, fuel, p, q, hg, ht, hv, hd, hr, _⟩ := h
    rcases List.mem_cons.1 hm with e | hm
    · obtain ⟨rfl, rfl⟩ := Prod.mk.inj e
      exact ⟨g, t, cs, fuel, p, hg, ht, hv, hd⟩
    · exact ih hr hm
theorem laid_var {P : Program} {W : World} {L : List (String × DataW Unit)} (h : laidMetH P L W) (hp : (L.all fun x => x.2.handleName?.isNone) = true) {n : String} {d : DataW Unit} (hm : (n, d) ∈ L) :
    ∃ g t cs fuel p, P.globalNamed n = some g ∧ (P.globals[g]?).map (·.type) = some t ∧ W.var? P n = some cs ∧ DataW.trod (fun _ => ()) P W 0 (fun _ => true) false fuel t cs.toList = some (d, p) := by
  rw [MakeChecks.laidMetH_plain _ _ _ hp] at h
  obtain ⟨ps, hl, _⟩ := h
  exact laidVars_at hl hm
end Go.Kx

/-
  The 64 constants, where a row lists them: what the condition gives the walks.
-/
namespace Go.Proofs.YtgcohoonhklkbaaDoor
open Go.RowKit Go.Kx
open Go.ChangeShapes Go.WideShapes Go.ChangeAt

theorem gK : Tryd.prog.globalNamed "keyhole/digest.constants" = some 0 := by kernel_rfl
theorem tK : (Tryd.prog.globals[0]?).map (·.type) = some 76 := by kernel_rfl
theorem consts_of {W : World} {L : List (String × DataW Unit)} (h : laidMetH Tryd.prog L W) (hp : (L.all fun x => x.2.handleName?.isNone) = true) (hm : ("keyhole/digest.constants", Rows.laid_keyhole_digest_constants) ∈ L) : Consts W := by
  obtain ⟨g0, t0, cs0, f0, p0, hg0, ht0, hv0, hd0⟩ := laid_var h hp hm
  obtain rfl := Option.some.inj (gK.symm.trans hg0)
  obtain rfl := Option.some.inj (tK.symm.trans ht0)
  obtain ⟨xs, m1, rfl, hx1, hlen, hn3, hel⟩ := DataW.trod_array Tryd.underlying76 hd0
  have hL : xs.map (·.1) = shaK.map (fun x : Nat => (DataW.lit (.int .u32 (x : Int)) : DataW Unit)) := by
    have h1 := (Prod.mk.inj hx1).1
    exact (DataW.agg.inj (h1.symm.trans (show (Rows.laid_keyhole_digest_constants : DataW Unit) = .agg (shaK.map (fun x : Nat => (DataW.lit (.int .u32 (x : Int)) : DataW Unit))) from rfl)))
  have c1 : Tryd.prog.cellsOf 73 = 1 := by kernel_rfl
  intro j v hv
  rw [Nat.zero_add, World.var?_cell hg0 hv0 j]
  obtain ⟨n, hn, rfl⟩ : ∃ n, shaK[j]? = some n ∧ Value.int .u32 (n : Int) = v := by simpa using hv
  have hj : j < 64 := (List.getElem?_eq_some_iff.1 hn).1
  have he := hel j hj
  rw [c1, Nat.mul_one, List.getElem?_eq_getElem (by omega)] at he
  obtain ⟨k, e1, e2, _⟩ := DataW.trod_int Tryd.underlying73 he
  have h2 : (xs.map (·.1))[j]? = some (xs[j]'(by omega)).1 := by rw [List.getElem?_map, List.getElem?_eq_getElem (by omega)]; rfl
  rw [hL, List.getElem?_map, hn, e2] at h2
  have hk : (n : Int) = k := by simpa using h2
  subst hk
  have h3 : (List.take 1 (List.drop j cs0.toList))[0]? = some (.int .u32 (n : Int)) := by rw [e1]; rfl
  simpa [List.getElem?_take] using h3
end Go.Proofs.YtgcohoonhklkbaaDoor

/-
  What a row's premise on sizes says of a string that came in: it is no longer than any machine's memory (any program).
-/
namespace Go.Kx
open Go.RowKit

theorem reach_each {H : Type} {P : Program} : ∀ {ts : List TypeId} {ds : List (DataW H)}, (DataW.weightsEach P ts ds).all (· ≤ reachBytes) = true →
    ∀ {j : Nat} {t : TypeId} {s : List UInt8}, ts[j]? = some t → ds[j]? = some (.lit (.string s)) → s.length ≤ reachBytes := by
  intro ts
  induction ts with
  | nil => intro ds _ j t s ht; simp at ht
  | cons t0 ts ih =>
    intro ds h j t s ht hd
    cases ds with
    | nil => simp at hd
    | cons d ds =>
      simp only [DataW.weightsEach, List.all_append, Bool.and_eq_true] at h
      cases j with
      | zero =>
        obtain rfl : d = .lit (.string s) := by simpa using hd
        have h1 := h.1
        simp only [DataW.weights, List.all_cons, List.all_nil, Bool.and_true, decide_eq_true_eq] at h1
        exact h1
      | succ j => exact ih h.2 (j := j) (by simpa using ht) (by simpa using hd)
/-- What it says of any one of the arguments. -/
theorem reach_at {H : Type} {P : Program} : ∀ {ts : List TypeId} {ds : List (DataW H)}, (DataW.weightsEach P ts ds).all (· ≤ reachBytes) = true →
    ∀ {j : Nat} {t : TypeId} {d : DataW H}, ts[j]? = some t → ds[j]? = some d → (DataW.weights P t d).all (· ≤ reachBytes) = true := by
  intro ts
  induction ts with
  | nil => intro ds _ j t d ht; simp at ht
  | cons t0 ts ih =>
    intro ds h j t d ht hd
    cases ds with
    | nil => simp at hd
    | cons d0 ds =>
      simp only [DataW.weightsEach, List.all_append, Bool.and_eq_true] at h
      cases j with
      | zero =>
        obtain rfl : d0 = d := by simpa using hd
        obtain rfl : t0 = t := by simpa using ht
        exact h.1
      | succ j => exact ih h.2 (j := j) (by simpa using ht) (by simpa using hd)
theorem reach_size {s : ByteArray} (h : s.data.toList.length ≤ reachBytes) : s.size ≤ 140737488351232 := by
  have hs : s.data.toList.length = s.size := by simp
  rw [hs] at h
  exact h
end Go.Kx
