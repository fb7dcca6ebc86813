/-
  digest: the contracts of blocks (a text's blocks, one behind the other) and of Sum.
-/
import Derived.Test.YtlkdofghhibmbaaDoorDig3
import Derived.Test.YtlkdofghhibmbaaDoorDig5
import Derived.Test.YtlkdofghhibmbaaDoorRange
import Derived.Shelf.Abstract
import Derived.Shelf.RegionOpen
import Derived.OwnWalkIn
import Derived.TacticsInMore
import Derived.LoopNIn
import Derived.LoopIn
import Derived.Lib.SlBytesRow
import Derived.Lib.IndexBytes
namespace Go.Proofs.YtlkdofghhibmbaaDoor
open Go.RowKit Go.Kx Go.Shelf
set_option maxRecDepth 20000
attribute [local go_sem] Oper.semAt_some

theorem blocks_any (s p : ByteArray) (w : World) :
    Calls Tryd.prog 30 #[.string s, .string p] w fun e w' => e = .returned (.func (.func 51) #[] #[.pointer (some ⟨w.heap.size, 0, none⟩), .pointer (some ⟨w.heap.size + 1, 0, none⟩)]) ∧
      (w.alloc (.cells #[.string s] 9)).alloc (.cells #[.string p] 9) = w' := by
  go_enter Tryd.func30, Tryd.ntmps30
  go_wp2
  go_ret
  exact ⟨rfl, rfl⟩

def chunkB (l : List UInt8) (k : Nat) : ByteArray := ⟨(chunkAt l k).toArray⟩
def chunksB (l : List UInt8) : List ByteArray := (List.range (l.length / 64)).map (chunkB l)
theorem chunksB_take (l : List UInt8) (k : Nat) (h : k < l.length / 64) : (chunksB l).take k ++ [chunkB l k] = (chunksB l).take (k + 1) := by
  rw [List.take_add_one, chunksB, List.getElem?_map, List.getElem?_range h]; rfl
theorem chunksB_all (l : List UInt8) (k : Nat) (h : l.length / 64 ≤ k) : (chunksB l).take k = chunksB l := List.take_of_length_le (by simp [chunksB]; omega)
theorem chunksB_size (l : List UInt8) (pre : List ByteArray) (x : ByteArray) (h : pre ++ [x] <+: chunksB l) : x.size = 64 := by
  have hm : x ∈ chunksB l := h.subset (by simp)
  obtain ⟨k, hk, rfl⟩ := List.mem_map.1 hm
  rw [chunkB, size_mk, chunkAt, List.length_take, List.length_drop]
  have := List.mem_range.1 hk
  omega
def strAt (w : World) (b : Nat) : Nat := match w.cell? ⟨b, 0, none⟩ with | some (.string t) => t.size | _ => 0
theorem strAt_eq {w : World} {b : Nat} {t : ByteArray} (h : w.cell? ⟨b, 0, none⟩ = some (.string t)) : strAt w b = t.size := by simp [strAt, h]

set_option maxHeartbeats 1000000 in
theorem blocks1_in (F : Fence) (n : Nat) (hf : F.fn 51) (hro : F.round = none) (hn : 1 ≤ n) (b1 b2 : Nat) (s p : ByteArray) (w : World) (h1 : w.cell? ⟨b1, 0, none⟩ = some (.string s)) (h1f : w.frozen? ⟨b1, 0, none⟩ = false)
    (h2 : w.cell? ⟨b2, 0, none⟩ = some (.string p)) (hne : b1 ≠ b2) (hp : p.size ≤ 1000) (hm : (s.data.toList ++ p.data.toList).length % 64 = 0) :
    SeqCell F n Tryd.prog 51 #[.pointer (some ⟨b1, 0, none⟩), .pointer (some ⟨b2, 0, none⟩)] (fun x : ByteArray => #[.string x]) b1 (fun k => k = b1 ∨ k = b2) (chunksB (s.data.toList ++ p.data.toList)) w := by
  intro l J W hW hJ hY h0
  have k1 := block_lt_of_cell h1
  have k2 := block_lt_of_cell h2
  have c1 := (hW.cell (p := ⟨b1, 0, none⟩) k1).trans h1
  have c2 := (hW.cell (p := ⟨b2, 0, none⟩) k2).trans h2
  have f1 := (hW.frozen (p := ⟨b1, 0, none⟩) k1).trans h1f
  refine callsIn_of_wp Tryd.func51 rfl hf ?_ hro
  simp only [Tryd.ntmps51, List.size_toArray, List.length_cons, List.length_nil, Nat.reduceAdd, Nat.reduceSub, Array.replicate_succ, Array.replicate_zero, List.push_toArray, List.append_toArray, List.nil_append, List.cons_append]
  gi_wp2
  gi_loopw [5] (fun _ wr => ∃ (k : Nat) (t : ByteArray), 64 * k ≤ s.data.toList.length ∧ wr.cell? ⟨b1, 0, none⟩ = some (.string t) ∧ t.data.toList = s.data.toList.drop (64 * k) ∧ wr.frozen? ⟨b1, 0, none⟩ = false ∧ wr.cell? ⟨b2, 0, none⟩ = some (.string p) ∧
      J ((chunksB (s.data.toList ++ p.data.toList)).take k) wr) (fun _ wr => strAt wr b1)
  case atStart => exact ⟨0, s, by omega, c1, by simp, f1, c2, by simpa using h0⟩
  case round =>
    obtain ⟨k, t, hk, ht, htl, hf1, ht2, hJk⟩ := hrel
    have hts : t.size = s.data.toList.length - 64 * k := by rw [show t.size = t.data.toList.length by simp, htl, List.length_drop]
    by_cases hl : 64 ≤ t.size
    · have hx : t.extract 0 64 = chunkB (s.data.toList ++ p.data.toList) k := by
        apply ByteArray.ext
        apply Array.toList_inj.1
        rw [Lib.extract_data]
        simp only [List.drop_zero, Nat.sub_zero, chunkB, chunkAt, htl]
        rw [List.drop_append_of_le_length hk, List.take_append_of_le_length (by rw [List.length_drop]; omega)]
      have hpre : (chunksB (s.data.toList ++ p.data.toList)).take k ++ [t.extract 0 64] = (chunksB (s.data.toList ++ p.data.toList)).take (k + 1) := by
        rw [hx]
        exact chunksB_take _ k (by rw [List.length_append]; omega)
      have HPRE := Lib.hid hpre
      have HTL := Lib.hid htl
      have HTS := Lib.hid hts
      clear hx htl hts hpre
      obtain ⟨fn, tmps, assign, body, hy, hR⟩ := hY _ (t.extract 0 64) wr (HPRE.out ▸ List.take_prefix _ _) hJk
      gi_wp2
      refine hR.mono ?_
      rintro e W' ⟨rfl, hJ', hk'⟩
      have b1l := block_lt_of_cell ht
      have b2l := block_lt_of_cell ht2
      have ht' : W'.cell? ⟨b1, 0, none⟩ = some (.string t) := (cell_of_heap (hk' b1 (.inl rfl)) 0).trans ht
      have hf' : W'.frozen? ⟨b1, 0, none⟩ = false := (frozen_of_heap (hk' b1 (.inl rfl)) 0).trans hf1
      have ht2' : W'.cell? ⟨b2, 0, none⟩ = some (.string p) := (cell_of_heap (hk' b2 (.inr rfl)) 0).trans ht2
      have HT := Lib.hid (strAt_eq ht)
      clear hy hR ht hf1 ht2
      gi_wp2
      go_roundw
      case rel =>
        have htl := HTL.out
        have hts := HTS.out
        rw [HPRE.out] at hJ'
        refine ⟨k + 1, t.extract 64 t.size, by omega, World.cell?_setCell_same' _ _ _ (by rw [ht']; rfl), ?_, by rw [World.frozen?_setCell]; exact hf', ?_, hJ _ _ _ hJ'⟩
        · rw [Lib.extract_to_end, htl, List.drop_drop]; rfl
        · rw [World.cell?_setCell_other _ _ _ _ (by simp)]; exact ht2'
      case measure =>
        rw [strAt_eq (t := t.extract 64 t.size) (World.cell?_setCell_same' _ _ _ (by rw [ht']; rfl)), HT.out]
        simp; omega
    · have hadd : ∀ V : World, (Op.stringOp .add t p).run Tryd.prog V = .ok (.string (t ++ p)) V := fun V => run_string_add_sum V t p (by omega)
      have hl' : ¬ (64 : Int) ≤ (t.size : Int) := by omega
      have htp : (t ++ p).data.toList = (s.data.toList ++ p.data.toList).drop (64 * k) := by
        rw [show (t ++ p).data.toList = t.data.toList ++ p.data.toList by simp, htl, List.drop_append_of_le_length hk]
      have HTP := Lib.hid htp
      clear htl hts htp
      have hk2 : 64 * k ≤ (s.data.toList ++ p.data.toList).length := by rw [List.length_append]; omega
      clear hk
      generalize hL : (s.data.toList ++ p.data.toList) = L at *
      have HL := Lib.hid hL
      clear hL
      gi_wp2
      clear hadd
      gi_loopw [4] (fun v wr => ∃ (j : Nat) (r : ByteArray), v = .string r ∧ 64 * j ≤ L.length ∧ r.data.toList = L.drop (64 * j) ∧ J ((chunksB L).take j) wr) (fun v _ => match v with | .string r => r.size | _ => 0)
      case atStart => exact ⟨k, t ++ p, rfl, hk2, HTP.out, hJk⟩
      case round =>
        obtain ⟨j, r, rfl, hj, hrl, hJj⟩ := hrel
        have hrs : r.size = L.length - 64 * j := by rw [show r.size = r.data.toList.length by simp, hrl, List.length_drop]
        by_cases h0 : 64 * j = L.length
        · have he : r.toList.isEmpty = true := by rw [Lib.toList_data, hrl, h0, List.drop_length]; rfl
          have hall := chunksB_all L j (by omega)
          rw [hall] at hJj
          clear hrl hrs h0
          gi_wp2
          go_end0
          exact ⟨⟨_, rfl⟩, by rw [HL.out]; exact hJj⟩
        · have he : r.toList.isEmpty = false := by
            rw [Lib.toList_data, hrl, List.isEmpty_eq_false_iff]
            intro e
            have := congrArg List.length e
            rw [List.length_drop, List.length_nil] at this
            omega
          have h64 : 64 ≤ r.size := by omega
          have hx : r.extract 0 64 = chunkB L j := by
            apply ByteArray.ext
            apply Array.toList_inj.1
            rw [Lib.extract_data]
            simp only [List.drop_zero, Nat.sub_zero, chunkB, chunkAt, hrl]
          have hpre : (chunksB L).take j ++ [r.extract 0 64] = (chunksB L).take (j + 1) := by
            rw [hx]
            exact chunksB_take _ j (by omega)
          have HPRE := Lib.hid hpre
          have HRL := Lib.hid hrl
          have HRS := Lib.hid hrs
          clear hrl hrs hx hpre
          obtain ⟨fn, tmps, assign, body, hy, hR⟩ := hY _ (r.extract 0 64) wr (HPRE.out ▸ List.take_prefix _ _) hJj
          gi_wp2
          refine hR.mono ?_
          rintro e W' ⟨rfl, hJ', hk'⟩
          clear hy hR
          rw [HPRE.out] at hJ'
          gi_wp2
          go_roundw
          case rel => exact ⟨j + 1, r.extract 64 r.size, rfl, by have := HRS.out; omega, by rw [Lib.extract_to_end, HRL.out, List.drop_drop]; rfl, hJ'⟩
          case measure => simp; omega
end Go.Proofs.YtlkdofghhibmbaaDoor
