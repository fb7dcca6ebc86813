/-
  tape: the contract of Of; what rest tells of such a tape.
-/
import Derived.Test.YtlkdofghhibmbaaDoorTp2
import Derived.Deep.QuietTactic
import Derived.BigQuiet
import Derived.Lib.QuietBelow
namespace Go.Proofs.YtlkdofghhibmbaaDoor
open Go.RowKit Go.Kx
set_option maxRecDepth 20000

/-- A tape of s's bytes, whose closure's box lies at B. -/
def ofK (B : Nat) (s : ByteArray) : TK := ⟨s.data.toList, .func (.func 17) #[] #[.pointer (some ⟨B, 0, none⟩)], [(B, s)], []⟩
theorem ofK_len (B : Nat) (s : ByteArray) : (ofK B s).bytes.length = s.size := by simp [ofK]
theorem tofcl_any (B : Nat) (s : ByteArray) (hs : s.size ≤ 1000000000000) (i lo : Nat) (hlo : i * 64 = lo) (hi : lo ≤ s.size) (r : ByteArray) (hr : (⟨((s.data.toList.drop lo).take 64).toArray⟩ : ByteArray) = r) (w : World) (hB : w.cell? ⟨B, 0, none⟩ = some (.string s)) :
    Calls Tryd.prog 17 #[.int .i64 (i : Int), .pointer (some ⟨B, 0, none⟩)] w fun e w' => e = .returned (.string r) ∧ w' = w := by
  have hloI : (i : Int) * 64 = (lo : Int) := by omega
  have hlow : IntKind.i64.wrap (lo : Int) = (lo : Int) := IntWalk.i64_in _ (by omega)
  obtain ⟨z, hz⟩ : ∃ z, s.size - lo = z := ⟨_, rfl⟩
  obtain ⟨p, hp⟩ : ∃ p : ByteArray, s.extract lo s.size = p := ⟨_, rfl⟩
  have hpz : p.size = z := by rw [← hp, ByteArray.size_extract]; omega
  obtain ⟨m, hmz, hmin⟩ : ∃ m : Nat, m ≤ z ∧ min 64 (z : Int) = (m : Int) := ⟨min 64 z, by omega, by omega⟩
  have hq : p.extract 0 m = r := by
    rw [← hr]
    refine ByteArray.ext (Array.toList_inj.1 ?_)
    rw [str_ext, ← hp, str_ext, List.drop_zero, Nat.sub_zero, List.take_take, hz]
    show _ = (s.data.toList.drop lo).take 64
    have hl : (s.data.toList.drop lo).length = z := by rw [List.length_drop]; simp; omega
    rw [List.take_eq_take_iff, hl]
    omega
  have hlo2 : (lo : Int) ≤ (s.size : Int) := by omega
  clear hr hz hlo
  go_enter Tryd.func17, Tryd.ntmps17
  go_wp2
  go_ret
  exact ⟨rfl, rfl⟩
theorem of_any (s : ByteArray) (w : World) :
    Calls Tryd.prog 6 #[.string s] w fun e w' => e = .returned (.pointer (some ⟨w.heap.size + 1, 0, none⟩)) ∧ Tp w' (w.heap.size + 1) (ofK w.heap.size s) 0 ∧ Below w.heap.size w w' := by
  have hmf : ∀ (fn : Fn) (first cap : Array Value) (w : World), (Instr.makeFunc fn first cap).run Tryd.prog w = .ok (.func fn first cap) w := fun _ _ _ _ => rfl
  go_enter Tryd.func6, Tryd.ntmps6
  go_wp2
  go_ret
  have hb : Below w.heap.size w (w.alloc (.cells #[.string s] 9)) := Below.alloc0 w _
  refine ⟨rfl, ⟨?_, ?_, Nat.zero_le _, fun p hp => by simp [ofK] at hp⟩, hb.al _⟩
  · have h1 := heap_alloc_new (w.alloc (.cells #[.string s] 9)) (.cells #[.int .i64 0, .int .i64 (s.size : Int), .func (.func 17) #[] #[.pointer (some ⟨w.heap.size, 0, none⟩)]] 48)
    rw [World.size_alloc] at h1
    rw [ofK_len]
    exact h1
  · intro p hp
    obtain rfl : p = (w.heap.size, s) := by simpa [ofK] using hp
    exact (Below.heap_alloc (w.alloc (.cells #[.string s] 9)) _ w.heap.size (by simp)).trans (heap_alloc_new w _)
set_option maxHeartbeats 2000000 in
theorem ofrest_any (B : Nat) (s : ByteArray) (hs : s.size ≤ 1000000000000) (w : World) (T N : Nat) (hT : Tp w T (ofK B s) N) (hN : N < s.size) (b : ByteArray) (hb : (⟨(restL s.data.toList N).toArray⟩ : ByteArray) = b) :
    Calls Tryd.prog 36 #[.pointer (some ⟨T, 0, none⟩)] w fun e w' => e = .returned (.string b) ∧ Below w.heap.size w w' := by
  obtain ⟨c0, -, c2, -⟩ := hT.cells
  have hB := cell_of_row w B 0 _ _ _ (hT.2.1 (B, s) (by simp [ofK]))
  replace hB : w.cell? ⟨B, 0, none⟩ = some (.string s) := hB.trans rfl
  unfold ofK at c2
  have hl0 : ∀ d' os, (Go.Sort.grow (redrawn w d') os).cell? ⟨T, 0, none⟩ = some (.int .i64 (N : Int)) := cell_regrown c0
  have hl2 : ∀ d' os, (Go.Sort.grow (redrawn w d') os).cell? ⟨T, 2, none⟩ = some (.func (.func 17) #[] #[.pointer (some ⟨B, 0, none⟩)]) := cell_regrown c2
  have hlB : ∀ d' os, (Go.Sort.grow (redrawn w d') os).cell? ⟨B, 0, none⟩ = some (.string s) := cell_regrown hB
  obtain ⟨q, hq⟩ : ∃ q, N / 64 = q := ⟨_, rfl⟩
  have hqI : (N : Int) / 64 = (q : Int) := by omega
  have hqd : (N : Int).tdiv 64 = (q : Int) := by rw [Int.tdiv_eq_ediv_of_nonneg (by omega)]; exact hqI
  have hwq : IntKind.i64.wrap (q : Int) = (q : Int) := IntWalk.i64_in _ (by omega)
  obtain ⟨m, hm⟩ : ∃ m, N % 64 = m := ⟨_, rfl⟩
  have hmI : (N : Int) % 64 = (m : Int) := by omega
  have hmt : (N : Int).tmod 64 = (m : Int) := by rw [Int.tmod_eq_emod_of_nonneg (by omega)]; exact hmI
  obtain ⟨r, hr⟩ : ∃ r : ByteArray, (⟨((s.data.toList.drop (q * 64)).take 64).toArray⟩ : ByteArray) = r := ⟨_, rfl⟩
  have hrz : r.size = min 64 (s.size - q * 64) := by rw [← hr, size_mk, List.length_take, List.length_drop]; simp
  have hmr : (m : Int) ≤ (r.size : Int) := by omega
  have hmr2 : m ≤ r.size := by omega
  have hbe : r.extract m r.size = b := by
    rw [← hb]
    refine ByteArray.ext (Array.toList_inj.1 ?_)
    rw [str_ext, ← hr]
    show (((s.data.toList.drop (q * 64)).take 64).drop m).take _ = restL s.data.toList N
    rw [restL, List.drop_take, List.drop_drop, show q * 64 + m = N by omega, hm, List.take_take, List.take_eq_take_iff, List.length_drop, size_mk, List.length_take, List.length_drop]
    omega
  have hsl : ∀ V : World, (Instr.slice 9 (.string r) (some (.int .i64 (m : Int))) none none).run Tryd.prog V = .ok (.string b) V := fun V => by
    rw [← hbe]
    exact str_from Tryd.underlying9 r m hmr2 V
  have c1 : ∀ d' os, Calls Tryd.prog 17 #[.int .i64 (q : Int), .pointer (some ⟨B, 0, none⟩)] (Go.Sort.grow (redrawn w d') os) fun e w'' => e = .returned (.string r) ∧ ∃ p : Regrown, w'' = Go.Sort.grow (redrawn w p.d) p.os :=
    fun d' os => (tofcl_any B s hs q (q * 64) rfl (by omega) r hr _ (hlB d' os)).mono fun _ _ ⟨h1, h2⟩ => ⟨h1, ⟨⟨d', os⟩, h2⟩⟩
  clear hT c0 c2 hB hlB hb hbe hr hq hm hrz hqI hmI
  go_enter Tryd.func36, Tryd.ntmps36
  go_wp2_with fail
  refine wp_region_quiet_below (by kernel_rfl) (by kernel_rfl) ?_
  repeat (quiet_step (with_reducible exact c1 _ _))
  refine wpQuiet_nil ?_
  intro _ hw'
  obtain ⟨⟨dq, osq⟩, hw''⟩ := hw'
  subst hw''
  have hq2 := below_regrown w dq osq
  clear hl0 hl2 c1
  generalize Go.Sort.grow (redrawn w dq) osq = w2 at *
  go_wp2
  go_ret
  exact ⟨rfl, hq2⟩
theorem ofK_ok (B : Nat) (s : ByteArray) (hs : s.size ≤ 1000000000000) : TKok (ofK B s) :=
  ⟨by rw [ofK_len]; exact hs, ⟨_, _, _, rfl⟩, fun w T N hT hN b hb => ofrest_any B s hs w T N hT (by rw [ofK_len] at hN; exact hN) b hb⟩
end Go.Proofs.YtlkdofghhibmbaaDoor
