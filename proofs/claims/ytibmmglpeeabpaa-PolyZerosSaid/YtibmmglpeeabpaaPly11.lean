/-
  keyholelaw08.polys: the document's rows.
-/
import Derived.Test.YtibmmglpeeabpaaPly10
import Derived.Test.YtibmmglpeeabpaaOwnr
import Derived.Deep.AppendLies
namespace Go.Proofs.Ytibmmglpeeabpaa
open Go.RowKit Go.Kx
set_option maxRecDepth 20000

def ysP : List Int := [6, 5, 6]
theorem evalP (k : Nat) (hk : k < 3) : evalA [5, 2, 1] ((k + 1 : Nat) : Int) = ((ysP.getD k 0).toNat, true) := by
  rcases (by omega : k = 0 ∨ k = 1 ∨ k = 2) with rfl | rfl | rfl <;> decide +kernel
theorem ysP_snoc (k : Nat) (hk : k < 3) : intsI (ysP.take k) ++ [Value.int .i64 ((ysP.getD k 0).toNat : Int)] = intsI (ysP.take (k + 1)) := by
  rcases (by omega : k = 0 ∨ k = 1 ∨ k = 2) with rfl | rfl | rfl <;> rfl
theorem sl_lit {w : World} {n : Nat} {l : List Int} {t : TypeId} (hn : n = w.heap.size) : Sl (w.alloc (.cells (intsI l).toArray t)) (some ⟨n, 0, none⟩) (intsI l) := Sl.new' hn (by simp)
set_option maxHeartbeats 4000000 in
theorem polys_any (w : World) : Calls Try.prog 7 #[] w fun e w' => e = .returned (.bool true) ∧ Below w.heap.size w w' := by
  obtain ⟨i0, hi, hz0, hz1, hz2⟩ := info_parts int_info
  have a1 : Hid (evalA [5, 2, 1] 3 = (6, true)) := Lib.hid (by decide +kernel)
  have a2 : Hid (throughA [1, 2, 3] ysP 0 = (5, true)) := Lib.hid (by decide +kernel)
  have a3 : Hid (throughA [1, 1] [1, 1] 0 = (0, false)) := Lib.hid (by decide +kernel)
  have a4 : Hid (degA [1, 0, 0] 3 = 0) := Lib.hid (by decide +kernel)
  have HE := Lib.hid evalP
  have HY := Lib.hid ysP_snoc
  go_enter Try.func7, Try.ntmps7
  go_wp2_with fail
  refine (eval_any [5, 2, 1] 3 (some ⟨w.heap.size, 0, none⟩) 3 (by decide) _ (sl_lit rfl)).mono ?_
  rw [a1.out]
  rintro e w1 ⟨rfl, hb1⟩
  replace hb1 := (Below.alloc0 w _).next' hb1
  unfold two
  go_wp2
  go_loopw [3, 4] (fun v i wr => ∃ k : Nat, i = .int .i64 ((k : Int) + 1) ∧ k ≤ 3 ∧ wr.ownsRow w.heap.size 3 1 v k (intsI (ysP.take k)) ∧ Below w.heap.size w wr) (fun _ i _ => 4 - (intOf i).toNat)
  case atStart => exact ⟨0, rfl, by omega, World.ownsRow_nil _ _ _ _, hb1⟩
  case round =>
    clear hb1
    obtain ⟨k, rfl, hk, hown, hb⟩ := hrel
    by_cases hlt : k < 3
    · have hE := Lib.hid (HE.out k hlt)
      have hS := Lib.hid (HY.out k hlt)
      generalize (ysP.getD k 0).toNat = y at *
      go_wp2_with fail
      have hc := eval_any [5, 2, 1] ((k + 1 : Nat) : Int) (some ⟨wr.heap.size, 0, none⟩) 3 (by decide) _ (sl_lit (w := wr) (t := 3) rfl)
      rw [hE.out] at hc
      rw [show ((k + 1 : Nat) : Int) = (k : Int) + 1 by omega] at hc
      refine hc.mono ?_
      rintro e w2 ⟨rfl, hb2⟩
      replace hb2 := (Below.alloc0 wr _).next' hb2
      replace hown := own_keep hown hb2
      replace hb := hb.next' hb2
      clear hb2 hc
      unfold two
      go_wp2_with (first
        | (at_builtin; refine wpList_append_own _ rfl _ _ 22 rfl w.heap.size 3 i0 (.int .i64 0) 1 8 Try.underlying22 hi hz0 hz1 hz2 rfl (by decide) _ _ _ rfl (hown.alloc _) ⟨w2.heap.size, 0, none⟩ 1 1 [.int .i64 (y : Int)] rfl rfl ?c1 ?c2 ?c3 ?c4 ?c5 ?_)
        | go_in)
      case c1 =>
        intro j u hj
        match j, hj with
        | 0, hj => simp at hj; subst hj; simp [Addr.add]
      case c2 => intro u hu; simp at hu; subst hu; rfl
      case c3 => unfold maxLen; omega
      case c4 => omega
      case c5 => have h1 := hb.size; simp; omega
      · intro v' w3 hown' hgrow _
        have hb1 := own_below (hown.alloc _) (hb.al _) hgrow
        rw [hS.out] at hown'
        clear hown hgrow hb
        go_wp2
        go_roundw
        case rel => exact ⟨k + 1, by go_num, by omega, hown', hb1⟩
        case measure => simp [intOf]; omega
    · obtain rfl : k = 3 := by omega
      obtain ⟨A, c, rfl, hs⟩ := own_sl hown
      rw [show ysP.take 3 = ysP from rfl] at hs
      go_wp2_with fail
      refine (through_any [1, 2, 3] ysP 0 (some ⟨wr.heap.size, 0, none⟩) A 3 c (by decide) (by decide) _ (sl_lit rfl) (hs.keep (Below.alloc0 _ _))).mono ?_
      rw [a2.out]
      rintro e w2 ⟨rfl, hb2⟩
      replace hb := hb.next' ((Below.alloc0 wr _).next' hb2)
      clear hb2 hs hown
      unfold two
      go_wp2_with fail
      refine (through_any [1, 1] [1, 1] 0 (some ⟨w2.heap.size, 0, none⟩) (some ⟨w2.heap.size + 1, 0, none⟩) 2 2 (by decide) (by decide) _ ((sl_lit (l := [1, 1]) (t := 3) rfl).keep (Below.alloc0 _ _)) (sl_lit (by simp))).mono ?_
      rw [a3.out]
      rintro e w3 ⟨rfl, hb3⟩
      replace hb := hb.next' (((Below.alloc0 w2 _).al _).next' hb3)
      clear hb3
      unfold two
      go_wp2_with fail
      refine (degree_any [1, 0, 0] (some ⟨w3.heap.size, 0, none⟩) 3 (by decide) _ (sl_lit rfl)).mono ?_
      rw [show ([1, 0, 0] : List Int).length = 3 from rfl, a4.out]
      rintro e w4 ⟨rfl, rfl⟩
      replace hb := hb.next' (Below.alloc0 w3 (.cells (intsI [1, 0, 0]).toArray 3))
      go_wp2_with fail
      refine (degree_any [] none 0 (by decide) _ (Sl.nil _ _)).mono ?_
      rintro e w4 ⟨rfl, rfl⟩
      go_wp2
      go_ret
      exact ⟨rfl, hb⟩
end Go.Proofs.Ytibmmglpeeabpaa
