/-
  armour: the iterator over the letters' parts.
-/
import Derived.Test.YtmmkhlianijagaaDoorArmj
import Derived.Test.YtmmkhlianijagaaDoorAr2
import Derived.Test.YtmmkhlianijagaaDoorRange
import Derived.Test.YtmmkhlianijagaaDoorSlices
import Derived.Shelf.Abstract
import Derived.Shelf.RegionOpen
import Derived.OwnWalkIn
import Derived.TacticsInMore
import Derived.LoopNIn
import Derived.LoopIn
namespace Go.Proofs.YtmmkhlianijagaaDoor
open Go.RowKit Go.Kx Go.Shelf Go.Arm
set_option maxRecDepth 20000
attribute [local go_sem] Oper.semAt_some

def partB5 (s : List UInt8) (i : Nat) : ByteArray := ⟨(partC s i).toArray⟩
def partsB5 (s : List UInt8) (n : Nat) : List ByteArray := (List.range n).map (partB5 s)
theorem partsB5_succ (s : List UInt8) (k : Nat) : partsB5 s k ++ [partB5 s k] = partsB5 s (k + 1) := by simp [partsB5, List.range_succ]
theorem partsB5_length (s : List UInt8) (k : Nat) : (partsB5 s k).length = k := by simp [partsB5]
theorem partsB5_prefix (s : List UInt8) (i j : Nat) : partsB5 s i <+: partsB5 s (i + j) := by
  induction j with
  | zero => exact List.prefix_rfl
  | succ j ih => exact ih.trans ⟨[partB5 s (i + j)], partsB5_succ s (i + j)⟩
theorem partsB5_le (s : List UInt8) (i j : Nat) (h : i ≤ j) : partsB5 s i <+: partsB5 s j := by
  obtain ⟨m, rfl⟩ : ∃ m, j = i + m := ⟨j - i, by omega⟩
  exact partsB5_prefix s i m
theorem partsB5_lists (s : List UInt8) (n : Nat) : (partsB5 s n).map (·.data.toList) = partsC s n := by
  unfold partsB5 partsC
  rw [List.map_map]
  exact List.map_congr_left fun i _ => rfl
/-- How many parts so many letters have. -/
def partsN5 (n : Nat) : Nat := (n + 4) / 5

theorem aparts_any (s : ByteArray) (w : World) :
    Calls Tryd.prog 24 #[.string s] w fun e w' => e = .returned (.func (.func 31) #[] #[.pointer (some ⟨w.heap.size, 0, none⟩)]) ∧ w.alloc (.cells #[.string s] 9) = w' := by
  have hmf : ∀ (fn : Fn) (first cap : Array Value) (w : World), (Instr.makeFunc fn first cap).run Tryd.prog w = .ok (.func fn first cap) w := fun _ _ _ _ => rfl
  go_enter Tryd.func24, Tryd.ntmps24
  go_wp2
  go_ret
  exact ⟨rfl, rfl⟩
/-- What a round keeps: the block of the text. -/
def KpA1 (b1 : Nat) (A B : World) : Prop := B.heap[b1]? = A.heap[b1]?

set_option maxHeartbeats 1000000 in
theorem aparts1_in (n : Nat) (hn : 1 ≤ n) (b1 : Nat) (s : ByteArray) (hs : s.size ≤ 100000) (w : World) (h1 : w.cell? ⟨b1, 0, none⟩ = some (.string s)) :
    SeqStopsK Fence.wide n Tryd.prog 31 #[.pointer (some ⟨b1, 0, none⟩)] (fun x : ByteArray => #[.string x]) (KpA1 b1)
      (fun xs => xs = partsB5 s.data.toList (partsN5 s.size)) (fun pre => pre <+: partsB5 s.data.toList (partsN5 s.size)) (partsN5 s.size) w := by
  intro q J Jx W hW hJ hJx hY h0
  have c1 := (hW.cell (p := ⟨b1, 0, none⟩) (block_lt_of_cell h1)).trans h1
  have HN : Hid (∀ k, 5 * k < s.size → k < partsN5 s.size) := Lib.hid fun k hk => by unfold partsN5; omega
  have HE : Hid (∀ k, k ≤ partsN5 s.size → ¬ 5 * k < s.size → k = partsN5 s.size) := Lib.hid fun k hk h => by unfold partsN5 at *; omega
  have HB : Hid (5 * partsN5 s.size ≤ s.size + 4) := Lib.hid (by unfold partsN5; omega)
  generalize partsN5 s.size = M at *
  clear h1 hW
  refine callsIn_of_wp Tryd.func31 rfl trivial ?_ rfl
  simp only [Tryd.ntmps31, List.size_toArray, List.length_cons, List.length_nil, Nat.reduceAdd, Nat.reduceSub, Array.replicate_succ, Array.replicate_zero, List.push_toArray, List.append_toArray, List.nil_append, List.cons_append]
  gi_wp2
  gi_loopw [3] (fun i wr => ∃ k : Nat, k ≤ M ∧ i = .int .i64 (5 * (k : Int)) ∧ wr.cell? ⟨b1, 0, none⟩ = some (.string s) ∧ J (partsB5 s.data.toList k) wr) (fun i _ => 5 * M + 5 - (intOf i).toNat)
  case atStart => exact ⟨0, by omega, rfl, c1, h0⟩
  case round =>
    clear c1 h0
    obtain ⟨k, hk, rfl, c1, hJk⟩ := hrel
    have hMb := HB.out
    by_cases hlt : 5 * k < s.size
    · have hkM := HN.out k hlt
      have t1 : 5 * (k : Int) < (s.size : Int) := by omega
      obtain ⟨r, hr⟩ : ∃ r : ByteArray, partB5 s.data.toList k = r := ⟨_, rfl⟩
      have hext : s.extract (5 * k) (min (5 * k + 5) s.size) = r := by
        apply ByteArray.ext
        apply Array.toList_inj.1
        rw [str_ext, ← hr]
        show _ = List.take 5 (List.drop (5 * k) s.data.toList)
        by_cases h16 : 5 * k + 5 ≤ s.size
        · rw [Nat.min_eq_left h16, show 5 * k + 5 - 5 * k = 5 by omega]
        · rw [Nat.min_eq_right (by omega), List.take_of_length_le (by simp), List.take_of_length_le (by simp; omega)]
      have HPS : Hid (partsB5 s.data.toList k ++ [r] = partsB5 s.data.toList (k + 1)) := Lib.hid (by rw [← hr]; exact partsB5_succ _ _)
      have HLEN : Hid ((partsB5 s.data.toList k).length < M) := Lib.hid (by rw [partsB5_length]; exact hkM)
      have HLE : Hid (partsB5 s.data.toList (k + 1) <+: partsB5 s.data.toList M) := Lib.hid (partsB5_le _ _ _ hkM)
      clear hr
      generalize hps : partsB5 s.data.toList k = ps at *
      obtain ⟨fn, tmps, assign, body, hy, hR⟩ := hY ps r wr hJk HLEN.out
      by_cases h16 : 5 * k + 5 ≤ s.size
      · have t2 : 5 * (k : Int) + 5 ≤ (s.size : Int) := by omega
        have hsl : ∀ V : World, (Instr.slice 9 (.string s) (some (.int .i64 (5 * (k : Int)))) (some (.int .i64 (5 * (k : Int) + 5))) none).run Tryd.prog V = .ok (.string r) V := fun V => by
          rw [← hext, Nat.min_eq_left h16]
          exact str_mid Tryd.underlying9 s (5 * k) (5 * k + 5) (by omega) (by omega) V
        clear hext
        gi_wp2
        refine hR.mono ?_
        rintro e W' (⟨rfl, hJ', hk'⟩ | ⟨rfl, hJx'⟩)
        · have e1 : W'.cell? ⟨b1, 0, none⟩ = _ := (cell_of_heap hk' 0).trans c1
          clear hy hR hk'
          rw [HPS.out] at hJ'
          gi_wp2
          go_roundw
          case rel => exact ⟨k + 1, by omega, by go_num, e1, hJ'⟩
          case measure => simp [intOf]; omega
        · clear hy hR
          rw [HPS.out] at hJx'
          gi_wp2
          refine bodyPost_ret (results_none rfl _ _ _) rfl ?_
          exact ⟨⟨_, rfl⟩, .inr ⟨_, HLE.out, hJx'⟩⟩
      · have t2 : ¬ 5 * (k : Int) + 5 ≤ (s.size : Int) := by omega
        have hsl : ∀ V : World, (Instr.slice 9 (.string s) (some (.int .i64 (5 * (k : Int)))) (some (.int .i64 (s.size : Int))) none).run Tryd.prog V = .ok (.string r) V := fun V => by
          rw [← hext, Nat.min_eq_right (by omega)]
          exact str_mid Tryd.underlying9 s (5 * k) s.size (by omega) (by omega) V
        clear hext
        gi_wp2
        refine hR.mono ?_
        rintro e W' (⟨rfl, hJ', hk'⟩ | ⟨rfl, hJx'⟩)
        · have e1 : W'.cell? ⟨b1, 0, none⟩ = _ := (cell_of_heap hk' 0).trans c1
          clear hy hR hk'
          rw [HPS.out] at hJ'
          gi_wp2
          go_roundw
          case rel => exact ⟨k + 1, by omega, by go_num, e1, hJ'⟩
          case measure => simp [intOf]; omega
        · clear hy hR
          rw [HPS.out] at hJx'
          gi_wp2
          refine bodyPost_ret (results_none rfl _ _ _) rfl ?_
          exact ⟨⟨_, rfl⟩, .inr ⟨_, HLE.out, hJx'⟩⟩
    · obtain rfl := HE.out k hk hlt
      have t1 : ¬ 5 * (k : Int) < (s.size : Int) := by omega
      gi_wp2
      go_end0
      exact ⟨⟨_, rfl⟩, .inl hJk⟩
end Go.Proofs.YtmmkhlianijagaaDoor
