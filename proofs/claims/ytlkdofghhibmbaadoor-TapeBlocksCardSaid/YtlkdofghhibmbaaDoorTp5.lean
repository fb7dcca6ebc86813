/-
  tape: a made tape; the contract of New, what rest tells of such a tape.
-/
import Derived.Test.YtlkdofghhibmbaaDoorTp2
import Derived.Test.YtlkdofghhibmbaaDoorTab
import Derived.Test.YtlkdofghhibmbaaDoorStrB
import Derived.Test.YtlkdofghhibmbaaDoorDig7
import Derived.Test.YtlkdofghhibmbaaDoorShelf
import Derived.Deep.QuietTactic
import Derived.BigQuiet
import Derived.Lib.QuietBelow
namespace Go.Proofs.YtlkdofghhibmbaaDoor
open Go.RowKit Go.Kx
set_option maxRecDepth 20000

theorem repeat_00 (z : Nat) : Lib.repeatL [0] z = List.replicate z 0 := by
  induction z with
  | zero => rfl
  | succ z ih => rw [Lib.repeatL, ih]; rfl
theorem rep12_any (q : ByteArray) (hq : zeroB 12 = q) (w : World) :
    Calls Tryd.prog 18 #[.string ⟨#[0]⟩, .int .i64 12] w fun e w' => e = .returned (.string q) ∧ Below w.heap.size w w' := by
  have h := Tryd.strings_Repeat ⟨#[0]⟩ 12 w (by omega) (by simp [ByteArray.size])
  rw [show (ByteArray.mk #[0]).data.toList = [0] from rfl, repeat_00, show (⟨(List.replicate 12 0).toArray⟩ : ByteArray) = zeroB 12 from rfl, hq] at h
  exact h
/-- A made tape of a key, whose closure's boxes lie at K and Z. -/
def madeK (K Z : Nat) (key : ByteArray) : TK := ⟨madeL key, .func (.func 19) #[] #[.pointer (some ⟨K, 0, none⟩), .pointer (some ⟨Z, 0, none⟩)], [(K, key), (Z, zeroB 12)], [(0, placeV)]⟩
/-- What is left of a made tape's block. -/
theorem restL_made (key : ByteArray) {N : Nat} (hN : N < 65536) : restL (madeL key) N = (blkL key (N / 64)).drop (N % 64) := by
  apply List.ext_getElem?
  intro j
  rw [restL, List.getElem?_take, List.getElem?_drop, List.getElem?_drop]
  by_cases hj : j < 64 - N % 64
  · rw [if_pos hj, madeL_get key (by omega), madeAt, show (N + j) / 64 = N / 64 by omega, show (N + j) % 64 = N % 64 + j by omega, List.getD, List.getElem?_eq_getElem (by rw [blkL_length]; omega)]
    rfl
  · rw [if_neg hj, List.getElem?_eq_none (by rw [blkL_length]; omega)]
theorem zeroB_size (n : Nat) : (zeroB n).size = n := by
  rw [zeroB, size_mk, List.length_replicate]
theorem tnewcl_any (K Z : Nat) (key : ByteArray) (hk : key.size = 32) (i : Nat) (hi : i < 1024) (r : ByteArray) (hr : (⟨(blkL key i).toArray⟩ : ByteArray) = r) (w : World) (hP : Places w) (hK : w.cell? ⟨K, 0, none⟩ = some (.string key)) (hZ : w.cell? ⟨Z, 0, none⟩ = some (.string (zeroB 12))) :
    Calls Tryd.prog 19 #[.int .i64 (i : Int), .pointer (some ⟨K, 0, none⟩), .pointer (some ⟨Z, 0, none⟩)] w fun e w' => e = .returned (.string r) ∧ Below w.heap.size w w' := by
  have hblk := block_yes key (zeroB 12) i hk (zeroB_size 12) (by omega) r hr w hP
  generalize zeroB 12 = z at *
  clear hr
  go_enter Tryd.func19, Tryd.ntmps19
  go_wp2_with fail
  refine hblk.mono ?_
  rintro e w1 ⟨rfl, hb⟩
  go_wp2
  go_ret
  exact ⟨rfl, hb⟩
set_option maxHeartbeats 2000000 in
theorem tnew_any (seed key : ByteArray) (hs : seed.size ≤ 1000000000) (hk : sumL seed.data.toList = key.data.toList) (w : World) (hC : Consts w) (hP : Places w) :
    Calls Tryd.prog 8 #[.string seed] w fun e w' => ∃ T K Z, e = .returned (.pointer (some ⟨T, 0, none⟩)) ∧ w.heap.size ≤ T ∧ Tp w' T (madeK K Z key) 0 ∧ Below w.heap.size w w' := by
  have hmf : ∀ (fn : Fn) (first cap : Array Value) (w : World), (Instr.makeFunc fn first cap).run Tryd.prog w = .ok (.func fn first cap) w := fun _ _ _ _ => rfl
  have hsum := sum_any seed hs w hC
  have hkz : key.size = 32 := by
    have := congrArg List.length hk
    rw [show (sumL seed.data.toList).length = 32 by rw [sumL, joinL_length]; rfl] at this
    simpa using this.symm
  have hke : (⟨(sumL seed.data.toList).toArray⟩ : ByteArray) = key := by rw [hk]
  have hne : (key.toList == []) = false := by
    rw [Lib.toList_data, beq_eq_false_iff_ne]
    intro e
    have h2 : key.data.toList.length = key.size := by simp
    rw [e] at h2
    simp at h2
    omega
  rw [hke] at hsum
  clear hk hke
  go_enter Tryd.func8, Tryd.ntmps8
  go_wp2_with fail
  refine hsum.mono ?_
  rintro e w1 ⟨rfl, hb1⟩
  go_wp2_with fail
  obtain ⟨z, hz⟩ : ∃ z, zeroB 12 = z := ⟨_, rfl⟩
  refine (rep12_any z hz _).mono ?_
  rintro e w3 ⟨rfl, hb3⟩
  have hK0 := (hb3.block w1.heap.size (by simp)).trans (heap_alloc_new w1 (.cells #[.string key] 9))
  have hb4 := (Below.alloc0 w1 (.cells #[.string key] 9)).next' hb3
  have hK3 : w1.heap.size < w3.heap.size := (Array.getElem?_eq_some_iff.1 hK0).1
  clear hb3
  go_wp2
  go_ret
  refine ⟨w3.heap.size + 1, w1.heap.size, w3.heap.size, rfl, by have := hb1.size; omega, ⟨?_, ?_, Nat.zero_le _, ?_⟩, hb1.next' ((hb4.al _).al _)⟩
  · have h1 := heap_alloc_new (w3.alloc (.cells #[.string z] 9)) (.cells #[.int .i64 0, .int .i64 65536, .func (.func 19) #[] #[.pointer (some ⟨w1.heap.size, 0, none⟩), .pointer (some ⟨w3.heap.size, 0, none⟩)]] 48)
    rw [World.size_alloc] at h1
    have e : ((madeK w1.heap.size w3.heap.size key).bytes.length : Int) = 65536 := by
      obtain ⟨n, hn⟩ : ∃ n, (madeK w1.heap.size w3.heap.size key).bytes.length = n := ⟨_, rfl⟩
      have h : n = 65536 := by rw [← hn, madeK, madeL_length]
      rw [hn]
      omega
    rw [e]
    exact h1
  · intro p hp
    have hp2 : p = (w1.heap.size, key) ∨ p = (w3.heap.size, zeroB 12) := by simpa [madeK] using hp
    rcases hp2 with rfl | rfl
    · refine (Below.heap_alloc (w3.alloc (.cells #[.string z] 9)) _ w1.heap.size (by simp; omega)).trans ?_
      exact (Below.heap_alloc w3 _ w1.heap.size hK3).trans hK0
    · rw [hz]
      exact (Below.heap_alloc (w3.alloc (.cells #[.string z] 9)) _ w3.heap.size (by simp)).trans (heap_alloc_new w3 _)
  · intro p hp
    obtain rfl : p = (0, placeV) := by simpa [madeK] using hp
    have hP2 := hP.keep (hb1.next' ((hb4.al (.cells #[.string z] 9)).al (.cells #[.int .i64 0, .int .i64 65536, .func (.func 19) #[] #[.pointer (some ⟨w1.heap.size, 0, none⟩), .pointer (some ⟨w3.heap.size, 0, none⟩)]] 48)))
    have hlt := range_lt hP (by decide)
    exact ⟨by have := hb1.size; show _ ≠ w3.heap.size + 1; omega, by decide, hP2⟩
set_option maxHeartbeats 2000000 in
theorem newrest_any (K Z : Nat) (key : ByteArray) (hk : key.size = 32) (w : World) (T N : Nat) (hT : Tp w T (madeK K Z key) N) (hN : N < 65536) (b : ByteArray) (hb : (⟨(restL (madeL key) N).toArray⟩ : ByteArray) = b) :
    Calls Tryd.prog 36 #[.pointer (some ⟨T, 0, none⟩)] w fun e w' => e = .returned (.string b) ∧ Below w.heap.size w w' := by
  obtain ⟨c0, -, c2, -⟩ := hT.cells
  have hP : Places w := (hT.2.2.2 (0, placeV) (by simp [madeK])).2.2
  have hK := cell_of_row w K 0 _ _ _ (hT.2.1 (K, key) (by simp [madeK]))
  replace hK : w.cell? ⟨K, 0, none⟩ = some (.string key) := hK.trans rfl
  have hZ := cell_of_row w Z 0 _ _ _ (hT.2.1 (Z, zeroB 12) (by simp [madeK]))
  replace hZ : w.cell? ⟨Z, 0, none⟩ = some (.string (zeroB 12)) := hZ.trans rfl
  unfold madeK at c2
  have hl0 : ∀ d' os, (Go.Sort.grow (redrawn w d') os).cell? ⟨T, 0, none⟩ = some (.int .i64 (N : Int)) := cell_regrown c0
  have hl2 : ∀ d' os, (Go.Sort.grow (redrawn w d') os).cell? ⟨T, 2, none⟩ = some (.func (.func 19) #[] #[.pointer (some ⟨K, 0, none⟩), .pointer (some ⟨Z, 0, none⟩)]) := cell_regrown c2
  have hlK : ∀ d' os, (Go.Sort.grow (redrawn w d') os).cell? ⟨K, 0, none⟩ = some (.string key) := cell_regrown hK
  have hlZ : ∀ d' os, (Go.Sort.grow (redrawn w d') os).cell? ⟨Z, 0, none⟩ = some (.string (zeroB 12)) := cell_regrown hZ
  have hlP : ∀ d' os, Places (Go.Sort.grow (redrawn w d') os) := fun d' os => hP.keep (below_regrown w d' os)
  obtain ⟨q, hq⟩ : ∃ q, N / 64 = q := ⟨_, rfl⟩
  have hqI : (N : Int) / 64 = (q : Int) := by omega
  have hqd : (N : Int).tdiv 64 = (q : Int) := by rw [Int.tdiv_eq_ediv_of_nonneg (by omega)]; exact hqI
  have hwq : IntKind.i64.wrap (q : Int) = (q : Int) := IntWalk.i64_in _ (by omega)
  obtain ⟨m, hm⟩ : ∃ m, N % 64 = m := ⟨_, rfl⟩
  have hmI : (N : Int) % 64 = (m : Int) := by omega
  have hmt : (N : Int).tmod 64 = (m : Int) := by rw [Int.tmod_eq_emod_of_nonneg (by omega)]; exact hmI
  obtain ⟨r, hr⟩ : ∃ r : ByteArray, (⟨(blkL key q).toArray⟩ : ByteArray) = r := ⟨_, rfl⟩
  have hrz : r.size = 64 := by rw [← hr, size_mk, blkL_length]
  have hmr : (m : Int) ≤ (r.size : Int) := by omega
  have hmr2 : m ≤ r.size := by omega
  have hbe : r.extract m r.size = b := by
    rw [← hb]
    refine ByteArray.ext (Array.toList_inj.1 ?_)
    rw [str_ext, ← hr]
    show ((blkL key q).drop m).take _ = restL (madeL key) N
    rw [size_mk, blkL_length, restL_made key hN, hq, hm]
    exact List.take_of_length_le (by rw [List.length_drop, blkL_length]; omega)
  have hsl : ∀ V : World, (Instr.slice 9 (.string r) (some (.int .i64 (m : Int))) none none).run Tryd.prog V = .ok (.string b) V := fun V => by
    rw [← hbe]
    exact str_from Tryd.underlying9 r m hmr2 V
  have c1 : ∀ d' os, Calls Tryd.prog 19 #[.int .i64 (q : Int), .pointer (some ⟨K, 0, none⟩), .pointer (some ⟨Z, 0, none⟩)] (Go.Sort.grow (redrawn w d') os) fun e w'' => e = .returned (.string r) ∧ ∃ p : Regrown, w'' = Go.Sort.grow (redrawn w p.d) p.os :=
    fun d' os => Calls.regrown_of (tnewcl_any K Z key hk q (by omega) r hr _ (hlP d' os) (hlK d' os) (hlZ d' os))
  clear hT c0 c2 hK hZ hlK hlZ hb hbe hr hq hm hrz hqI hmI hlP
  go_enter Tryd.func36, Tryd.ntmps36
  go_wp2_with fail
  refine wp_region_quiet_below (by kernel_rfl) (by kernel_rfl) ?_
  repeat (quiet_step (with_reducible exact c1 _ _))
  refine wpQuiet_nil ?_
  intro _ hw'
  obtain ⟨⟨dq, osq⟩, hw''⟩ := hw'
  subst hw''
  have hq2 := below_regrown w dq osq
  clear hl0 hl2 c1
  generalize Go.Sort.grow (redrawn w dq) osq = w2 at *
  go_wp2
  go_ret
  exact ⟨rfl, hq2⟩
theorem madeK_len (K Z : Nat) (key : ByteArray) : (madeK K Z key).bytes.length = 65536 := by rw [madeK, madeL_length]
theorem madeK_bytes (K Z : Nat) (key : ByteArray) : (madeK K Z key).bytes = madeL key := by rw [madeK]
theorem madeK_ok (K Z : Nat) (key : ByteArray) (hk : key.size = 32) : TKok (madeK K Z key) :=
  ⟨by have := madeK_len K Z key; omega, ⟨_, _, _, rfl⟩, fun w T N hT hN b hb => newrest_any K Z key hk w T N hT (by have := madeK_len K Z key; omega) b (by rw [← madeK_bytes K Z key]; exact hb)⟩
end Go.Proofs.YtlkdofghhibmbaaDoor
