/-
  tag: the iterator over the parts of a text.
-/
import Derived.Test.YtapbjmeilhcmaaaDoorTag7
import Derived.Test.YtapbjmeilhcmaaaDoorRange
import Derived.Test.YtapbjmeilhcmaaaDoorSlices
import Derived.Shelf.Abstract
import Derived.Shelf.RegionOpen
import Derived.OwnWalkIn
import Derived.TacticsInMore
import Derived.LoopNIn
import Derived.LoopIn
namespace Go.Proofs.YtapbjmeilhcmaaaDoor
open Go.RowKit Go.Kx Go.Shelf
set_option maxRecDepth 20000
attribute [local go_sem] Oper.semAt_some

abbrev P16 := { x : ByteArray // x.size ≤ 16 }
def part16 (s : List UInt8) (i : Nat) : P16 := ⟨⟨(partL s i).toArray⟩, by rw [size_mk, partL, List.length_take]; omega⟩
def parts16 (s : List UInt8) (n : Nat) : List P16 := (List.range n).map (part16 s)
theorem parts16_succ (s : List UInt8) (k : Nat) : parts16 s k ++ [part16 s k] = parts16 s (k + 1) := by simp [parts16, List.range_succ]
theorem parts16_length (s : List UInt8) (k : Nat) : (parts16 s k).length = k := by simp [parts16]
theorem parts16_prefix (s : List UInt8) (i j : Nat) : parts16 s i <+: parts16 s (i + j) := by
  induction j with
  | zero => exact List.prefix_rfl
  | succ j ih => exact ih.trans ⟨[part16 s (i + j)], parts16_succ s (i + j)⟩
theorem parts16_le (s : List UInt8) (i j : Nat) (h : i ≤ j) : parts16 s i <+: parts16 s j := by
  obtain ⟨m, rfl⟩ : ∃ m, j = i + m := ⟨j - i, by omega⟩
  exact parts16_prefix s i m
def accP (r : Nat) (pre : List P16) : Nat := pre.foldl (fun a x => stepV a r x.1.data.toList) 0
theorem accP_snoc (r : Nat) (pre : List P16) (x : P16) : accP r (pre ++ [x]) = stepV (accP r pre) r x.1.data.toList := by simp [accP]
theorem accP_lt (r : Nat) (pre : List P16) : accP r pre < bigP := by
  rcases List.eq_nil_or_concat pre with rfl | ⟨p, x, rfl⟩
  · exact (by decide : 0 < bigP)
  · rw [List.concat_eq_append, accP_snoc]; exact stepV_lt _ _ _
theorem accP_parts (r : Nat) (s : List UInt8) (k : Nat) : accP r (parts16 s k) = accV r s k := by
  induction k with
  | zero => rfl
  | succ k ih => rw [← parts16_succ, accP_snoc, ih]; rfl

theorem parts_any (s : ByteArray) (w : World) :
    Calls Tryd.prog 22 #[.string s] w fun e w' => e = .returned (.func (.func 35) #[] #[.pointer (some ⟨w.heap.size, 0, none⟩)]) ∧ w.alloc (.cells #[.string s] 9) = w' := by
  have hmf : ∀ (fn : Fn) (first cap : Array Value) (w : World), (Instr.makeFunc fn first cap).run Tryd.prog w = .ok (.func fn first cap) w := fun _ _ _ _ => rfl
  go_enter Tryd.func22, Tryd.ntmps22
  go_wp2
  go_ret
  exact ⟨rfl, rfl⟩
def KpB1 (b1 : Nat) (A B : World) : Prop := B.heap[b1]? = A.heap[b1]?

set_option maxHeartbeats 1000000 in
theorem parts1_in (n : Nat) (hn : 1 ≤ n) (b1 : Nat) (s : ByteArray) (hs : s.size ≤ 8200) (w : World) (h1 : w.cell? ⟨b1, 0, none⟩ = some (.string s)) :
    SeqStopsK Fence.wide n Tryd.prog 35 #[.pointer (some ⟨b1, 0, none⟩)] (fun x : P16 => #[.string x.1]) (KpB1 b1)
      (fun xs => xs = parts16 s.data.toList (partsN s.size)) (fun pre => pre <+: parts16 s.data.toList (partsN s.size)) (partsN s.size) w := by
  intro q J Jx W hW hJ hJx hY h0
  have c1 := (hW.cell (p := ⟨b1, 0, none⟩) (block_lt_of_cell h1)).trans h1
  have HN : Hid (∀ k, 16 * k < s.size → k < partsN s.size) := Lib.hid fun k hk => by unfold partsN; omega
  have HE : Hid (∀ k, k ≤ partsN s.size → ¬ 16 * k < s.size → k = partsN s.size) := Lib.hid fun k hk h => by unfold partsN at *; omega
  have HB : Hid (16 * partsN s.size ≤ s.size + 15) := Lib.hid (by unfold partsN; omega)
  generalize partsN s.size = M at *
  clear h1 hW
  refine callsIn_of_wp Tryd.func35 rfl trivial ?_ rfl
  simp only [Tryd.ntmps35, List.size_toArray, List.length_cons, List.length_nil, Nat.reduceAdd, Nat.reduceSub, Array.replicate_succ, Array.replicate_zero, List.push_toArray, List.append_toArray, List.nil_append, List.cons_append]
  gi_wp2
  gi_loopw [3] (fun i wr => ∃ k : Nat, k ≤ M ∧ i = .int .i64 (16 * (k : Int)) ∧ wr.cell? ⟨b1, 0, none⟩ = some (.string s) ∧ J (parts16 s.data.toList k) wr) (fun i _ => 16 * M + 16 - (intOf i).toNat)
  case atStart => exact ⟨0, by omega, rfl, c1, h0⟩
  case round =>
    clear c1 h0
    obtain ⟨k, hk, rfl, c1, hJk⟩ := hrel
    have hMb := HB.out
    by_cases hlt : 16 * k < s.size
    · have hkM := HN.out k hlt
      have t1 : 16 * (k : Int) < (s.size : Int) := by omega
      obtain ⟨r, hr⟩ : ∃ r : P16, part16 s.data.toList k = r := ⟨_, rfl⟩
      have hext : s.extract (16 * k) (min (16 * k + 16) s.size) = r.1 := by
        apply ByteArray.ext
        apply Array.toList_inj.1
        rw [str_ext, ← hr]
        show _ = List.take 16 (List.drop (16 * k) s.data.toList)
        by_cases h16 : 16 * k + 16 ≤ s.size
        · rw [Nat.min_eq_left h16, show 16 * k + 16 - 16 * k = 16 by omega]
        · rw [Nat.min_eq_right (by omega), List.take_of_length_le (by simp), List.take_of_length_le (by simp; omega)]
      have HPS : Hid (parts16 s.data.toList k ++ [r] = parts16 s.data.toList (k + 1)) := Lib.hid (by rw [← hr]; exact parts16_succ _ _)
      have HLEN : Hid ((parts16 s.data.toList k).length < M) := Lib.hid (by rw [parts16_length]; exact hkM)
      have HLE : Hid (parts16 s.data.toList (k + 1) <+: parts16 s.data.toList M) := Lib.hid (parts16_le _ _ _ hkM)
      clear hr
      generalize hps : parts16 s.data.toList k = ps at *
      obtain ⟨fn, tmps, assign, body, hy, hR⟩ := hY ps r wr hJk HLEN.out
      by_cases h16 : 16 * k + 16 ≤ s.size
      · have t2 : 16 * (k : Int) + 16 ≤ (s.size : Int) := by omega
        have hsl : ∀ V : World, (Instr.slice 9 (.string s) (some (.int .i64 (16 * (k : Int)))) (some (.int .i64 (16 * (k : Int) + 16))) none).run Tryd.prog V = .ok (.string r.1) V := fun V => by
          rw [← hext, Nat.min_eq_left h16]
          exact str_mid Tryd.underlying9 s (16 * k) (16 * k + 16) (by omega) (by omega) V
        clear hext
        gi_wp2
        refine hR.mono ?_
        rintro e W' (⟨rfl, hJ', hk'⟩ | ⟨rfl, hJx'⟩)
        · have e1 : W'.cell? ⟨b1, 0, none⟩ = _ := (cell_of_heap hk' 0).trans c1
          clear hy hR hk'
          rw [HPS.out] at hJ'
          gi_wp2
          go_roundw
          case rel => exact ⟨k + 1, by omega, by go_num, e1, hJ'⟩
          case measure => simp [intOf]; omega
        · clear hy hR
          rw [HPS.out] at hJx'
          gi_wp2
          refine bodyPost_ret (results_none rfl _ _ _) rfl ?_
          exact ⟨⟨_, rfl⟩, .inr ⟨_, HLE.out, hJx'⟩⟩
      · have t2 : ¬ 16 * (k : Int) + 16 ≤ (s.size : Int) := by omega
        have hsl : ∀ V : World, (Instr.slice 9 (.string s) (some (.int .i64 (16 * (k : Int)))) (some (.int .i64 (s.size : Int))) none).run Tryd.prog V = .ok (.string r.1) V := fun V => by
          rw [← hext, Nat.min_eq_right (by omega)]
          exact str_mid Tryd.underlying9 s (16 * k) s.size (by omega) (by omega) V
        clear hext
        gi_wp2
        refine hR.mono ?_
        rintro e W' (⟨rfl, hJ', hk'⟩ | ⟨rfl, hJx'⟩)
        · have e1 : W'.cell? ⟨b1, 0, none⟩ = _ := (cell_of_heap hk' 0).trans c1
          clear hy hR hk'
          rw [HPS.out] at hJ'
          gi_wp2
          go_roundw
          case rel => exact ⟨k + 1, by omega, by go_num, e1, hJ'⟩
          case measure => simp [intOf]; omega
        · clear hy hR
          rw [HPS.out] at hJx'
          gi_wp2
          refine bodyPost_ret (results_none rfl _ _ _) rfl ?_
          exact ⟨⟨_, rfl⟩, .inr ⟨_, HLE.out, hJx'⟩⟩
    · obtain rfl := HE.out k hk hlt
      have t1 : ¬ 16 * (k : Int) < (s.size : Int) := by omega
      gi_wp2
      go_end0
      exact ⟨⟨_, rfl⟩, .inl hJk⟩
end Go.Proofs.YtapbjmeilhcmaaaDoor
