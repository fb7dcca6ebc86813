/-
  field: the contracts of the closure that multiplies a byte, of times, each and Bytes.
-/
import Derived.Test.YtljckcegcfidoaaFld2
import Derived.Test.YtljckcegcfidoaaCells
namespace Go.Proofs.Ytljckcegcfidoaa
open Go.RowKit Go.Kx
set_option maxRecDepth 20000

/-- A field's Mul as a value. -/
def mv (g : Nat) : Value := .func (.func 72) #[.pointer (some ⟨g, 0, none⟩)] #[]
/-- The closure whose boxes lie at N and behind it. -/
def clo (N : Nat) : Value := .func (.func 79) #[] #[.pointer (some ⟨N, 0, none⟩), .pointer (some ⟨N + 1, 0, none⟩)]
/-- What the closure needs. -/
def Turns (w : World) (g N a : Nat) : Prop := Fld w g ∧ w.cell? ⟨N, 0, none⟩ = some (mv g) ∧ w.cell? ⟨N + 1, 0, none⟩ = some (.int .i64 (a : Nat)) ∧ N + 1 < w.heap.size
theorem Turns.keep {w w' : World} {g N a : Nat} (h : Turns w g N a) (hb : Below w.heap.size w w') : Turns w' g N a :=
  ⟨h.1.keep hb, (hb.cell (p := ⟨N, 0, none⟩) (by have := h.2.2.2; show N < _; omega)).trans h.2.1, (hb.cell (p := ⟨N + 1, 0, none⟩) h.2.2.2).trans h.2.2.1, Nat.lt_of_lt_of_le h.2.2.2 hb.size⟩
theorem fturn_any (g N a x : Nat) (ha : a < 256) (hx : x < 256) (w : World) (h : Turns w g N a) :
    Calls Try.prog 79 #[.int .u8 x, .pointer (some ⟨N, 0, none⟩), .pointer (some ⟨N + 1, 0, none⟩)] w fun e w' => e = .returned (.int .u8 (Gf.mulG a x : Nat)) ∧ Below w.heap.size w w' := by
  obtain ⟨hf, h0, h1, _⟩ := h
  unfold mv at h0
  have hl := Gf.mulG_lt x ha
  have e1 : Hid (mulA (a : Nat) (x : Nat) = (Gf.mulG a x, true)) := Lib.hid (by simp [mulA, dig_of ha, dig_of hx])
  have wx : IntKind.i64.wrap (x : Int) = (x : Int) := wrapNat (by omega)
  generalize Gf.mulG a x = p at *
  have wp : IntKind.u8.wrap (p : Int) = (p : Int) := by simp only [IntKind.wrap, IntKind.bits, IntKind.signed]; simp; omega
  go_enter Try.func79, Try.ntmps79
  go_wp2_with fail
  refine (mul_any g _ _ _ hf).mono ?_
  rw [e1.out]
  rintro e w1 ⟨rfl, hb⟩
  unfold two
  go_wp2
  go_ret
  exact ⟨rfl, hb⟩
theorem turner_any (g a : Nat) (w : World) (hf : Fld w g) :
    Calls Try.prog 77 #[mv g, .int .i64 (a : Nat)] w fun e w' => e = .returned (clo w.heap.size) ∧ Turns w' g w.heap.size a ∧ Below w.heap.size w w' := by
  have hmf : ∀ (fn : Fn) (first cap : Array Value) (w : World), (Instr.makeFunc fn first cap).run Try.prog w = .ok (.func fn first cap) w := fun _ _ _ _ => rfl
  unfold mv clo
  go_enter Try.func77, Try.ntmps77
  go_wp2
  go_ret
  have hb : Below w.heap.size w ((w.alloc (.cells #[mv g] 81)).alloc (.cells #[.int .i64 (a : Nat)] 3)) := (Below.alloc0 w _).al _
  refine ⟨rfl, ⟨hf.keep hb, ?_, ?_, by simp⟩, hb⟩
  · have h1 : (w.alloc (.cells #[mv g] 81)).heap[w.heap.size]? = _ := heap_alloc_new w _
    have h2 := (Below.heap_alloc (w.alloc (.cells #[mv g] 81)) (.cells #[.int .i64 (a : Nat)] 3) w.heap.size (by simp)).trans h1
    exact (cell_of_row _ _ _ _ _ _ h2).trans rfl
  · have h1 := heap_alloc_new (w.alloc (.cells #[mv g] 81)) (.cells #[.int .i64 (a : Nat)] 3)
    rw [World.size_alloc] at h1
    exact (cell_of_row _ _ _ _ _ _ h1).trans rfl

/-! ### each -/
def prodL (a : Nat) (s : List UInt8) : List UInt8 := s.map fun x => UInt8.ofNat (Gf.mulG a x.toNat)
def proAt (a : Nat) (s : List UInt8) (k j : Nat) : Nat := if j < k then Gf.mulG a (s.getD j 0).toNat else (s.getD j 0).toNat
theorem proAt_same (a : Nat) (s : List UInt8) (k : Nat) : proAt a s k k = (s.getD k 0).toNat := if_neg (by omega)
theorem proAt_zero (a : Nat) (s : List UInt8) (j : Nat) : proAt a s 0 j = (s.getD j 0).toNat := if_neg (by omega)
theorem proAt_set (a : Nat) (s : List UInt8) (k j : Nat) : (if j = k then Gf.mulG a (s.getD k 0).toNat else proAt a s k j) = proAt a s (k + 1) j := by
  unfold proAt
  by_cases h : j = k
  · subst h; simp
  · rw [if_neg h]
    by_cases h2 : j < k
    · rw [if_pos h2, if_pos (by omega)]
    · rw [if_neg h2, if_neg (by omega)]
theorem pro_conv (a : Nat) (ha : a < 256) (s : ByteArray) (G c : Nat) (wr : World) (h : Cells wr G s.size (proAt a s.data.toList s.size)) :
    (convert 54 9 (.slice (some ⟨G, 0, none⟩) s.size c)).run Try.prog wr = .ok (.string ⟨(prodL a s.data.toList).toArray⟩) wr := by
  have hl : (prodL a s.data.toList).length = s.size := by simp [prodL]
  have hc := run_convert_bytes_back (P := Try.prog) wr 54 9 5 ⟨G, 0, none⟩ c (prodL a s.data.toList) Try.underlying54 Try.underlying5 Try.underlying9 (fun j hj => by
    have hj' : j < s.size := by rw [hl] at hj; exact hj
    rw [show (⟨G, 0, none⟩ : Addr).add j = ⟨G, j, none⟩ by unfold Addr.add; split <;> simp_all, (h.2 j hj').1, proAt, if_pos hj']
    have hm := Gf.mulG_lt (s.data.toList.getD j 0).toNat ha
    have hj2 : j < s.data.toList.length := by simpa using hj'
    have e : (prodL a s.data.toList)[j] = UInt8.ofNat (Gf.mulG a (s.data.toList.getD j 0).toNat) := by
      have h1 : (prodL a s.data.toList)[j] = UInt8.ofNat (Gf.mulG a (s.data.toList[j]).toNat) := by simp only [prodL, List.getElem_map]
      rw [h1, List.getD_eq_getElem?_getD, List.getElem?_eq_getElem hj2]
      rfl
    rw [e, UInt8.toNat_ofNat', Nat.mod_eq_of_lt hm])
  rwa [hl] at hc
set_option maxHeartbeats 1000000 in
theorem each_any (g N a : Nat) (ha : a < 256) (s : ByteArray) (hs : s.size ≤ 1000000) (r : ByteArray) (hr : ⟨(prodL a s.data.toList).toArray⟩ = r) (w : World) (ht : Turns w g N a) :
    Calls Try.prog 76 #[.string s, clo N] w fun e w' => e = .returned (.string r) ∧ Below w.heap.size w w' := by
  have hconv : ∀ V : World, (convert 9 54 (.string s)).run Try.prog V = .ok (.slice (some ⟨V.heap.size, 0, none⟩) s.size (grownCap V s.size 0 5)) (V.drew.alloc (.cells (bytesRow s (grownCap V s.size 0 5)) 5 ((bytesRow s (grownCap V s.size 0 5)).size, (bytesRow s (grownCap V s.size 0 5)).size + 1))) :=
    fun V => run_bytes_of_string V _ _ _ s Try.underlying9 Try.underlying54 Try.underlying5
  have HCV := Lib.hid hconv
  have HR := Lib.hid hr
  clear hconv hr
  unfold clo
  go_enter Try.func76, Try.ntmps76
  go_wp2_with fail
  have e1 := HCV.out w
  generalize grownCap w s.size 0 5 = c at e1
  have hcs := Cells.new w s 5 c
  have hb4 := (Below.drew0 w).al (.cells (bytesRow s c) 5 ((bytesRow s c).size, (bytesRow s c).size + 1))
  rw [e1]
  clear e1 HCV
  generalize World.alloc _ _ = W4 at *
  obtain ⟨F, hF⟩ : ∃ F, F = proAt a s.data.toList := ⟨_, rfl⟩
  have HSET : Hid (∀ k j, (if j = k then Gf.mulG a (s.data.toList.getD k 0).toNat else F k j) = F (k + 1) j) := Lib.hid (by rw [hF]; exact proAt_set _ _)
  have HSAME : Hid (∀ k, F k k = (s.data.toList.getD k 0).toNat) := Lib.hid (by rw [hF]; exact proAt_same _ _)
  have hcs0 : Cells W4 w.heap.size s.size (F 0) := by
    rw [hF]
    have e : (fun j => (s.data.toList.getD j 0).toNat) = proAt a s.data.toList 0 := funext fun j => (proAt_zero _ _ _).symm
    rw [← e]
    exact hcs
  have HEND : Hid (∀ wr, Cells wr w.heap.size s.size (F s.size) → (convert 54 9 (.slice (some ⟨w.heap.size, 0, none⟩) s.size c)).run Try.prog wr = .ok (.string r) wr) := Lib.hid (by
    intro wr h
    rw [hF] at h
    rw [pro_conv a ha _ _ _ _ h, HR.out])
  have HF := Lib.hid hF
  clear hF hcs HR
  go_wp2
  go_loopw [12] (fun v wr => ∃ k : Nat, v = .int .i64 k ∧ k ≤ s.size ∧ Cells wr w.heap.size s.size (F k) ∧ Below w.heap.size w wr) (fun v _ => s.size - (intOf v).toNat)
  case atStart => exact ⟨0, rfl, by omega, hcs0, hb4⟩
  case round =>
    clear hcs0 hb4
    obtain ⟨k, rfl, hk, hcs, hb⟩ := hrel
    have htw := ht.keep hb
    by_cases hlt : k < s.size
    · have hload := (hcs.2 k hlt).1
      have hsame := HSAME.out k
      have hfz := (hcs.2 k hlt).2
      have hbx : (s.data.toList.getD k 0).toNat < 256 := UInt8.toNat_lt _
      have hset := Lib.hid (HSET.out k)
      rw [hsame] at hload
      generalize (s.data.toList.getD k 0).toNat = x at *
      have HSM := Lib.hid hsame
      clear hsame
      go_wp2_with fail
      refine (fturn_any g N a x ha hbx _ htw).mono ?_
      rintro e w2 ⟨rfl, hb2⟩
      replace hcs := hcs.keep hb2
      replace hb := hb.next' hb2
      have hload2 := (hcs.2 k hlt).1
      have hfz2 := (hcs.2 k hlt).2
      clear hload hfz htw hb2
      generalize F k k = y0 at hload2
      generalize Gf.mulG a x = p at *
      go_wp2
      go_roundw
      case rel => exact ⟨k + 1, by go_num, by omega, hcs.set hlt p hset.out, hb.setCell (p := ⟨w.heap.size, k, none⟩) (by simp) _⟩
      case measure => simp [intOf]; omega
    · obtain rfl : k = s.size := by omega
      have e1 := HEND.out wr hcs
      go_wp2
      go_ret
      exact ⟨rfl, hb⟩

/-! ### Bytes -/
def bytesA (a : Int) (s : ByteArray) : ByteArray × Bool := if dig a = true then (⟨(prodL a.toNat s.data.toList).toArray⟩, true) else (⟨#[]⟩, false)
def strB (r : ByteArray × Bool) : Ending := .returned (.tuple #[.string r.1, .bool r.2])
theorem fbytes_none (a : Int) (s : ByteArray) (w : World) : Calls Try.prog 68 #[.pointer none, .int .i64 a, .string s] w fun e w' => e = strB (⟨#[]⟩, false) ∧ w' = w := by
  go_enter Try.func68, Try.ntmps68
  go_wp2
  go_ret2
  exact ⟨rfl, rfl⟩
theorem fbytes_any (g : Nat) (a : Int) (s : ByteArray) (hs : s.size ≤ 1000000) (w : World) (hf : Fld w g) : Calls Try.prog 68 #[.pointer (some ⟨g, 0, none⟩), .int .i64 a, .string s] w fun e w' => e = strB (bytesA a s) ∧ Below w.heap.size w w' := by
  cases ha : dig a with
  | false =>
    have hr : bytesA a s = (⟨#[]⟩, false) := by simp [bytesA, ha]
    rw [hr]
    go_enter Try.func68, Try.ntmps68
    go_wp2_with fail
    refine (isDigit_any _ _).mono ?_
    rintro e w1 ⟨rfl, rfl⟩
    go_wp2
    go_ret2
    exact ⟨rfl, Below.refl _ _⟩
  | true =>
    have hr : bytesA a s = (⟨(prodL a.toNat s.data.toList).toArray⟩, true) := by simp [bytesA, ha]
    rw [hr]
    obtain ⟨m, rfl, hm⟩ := dig_nat ha
    obtain ⟨r, hr⟩ : ∃ r : ByteArray, ⟨(prodL m s.data.toList).toArray⟩ = r := ⟨_, rfl⟩
    have HR := Lib.hid hr
    show Calls _ _ _ _ fun e w' => e = strB (⟨(prodL m s.data.toList).toArray⟩, true) ∧ _
    rw [hr]
    clear hr
    have hmf : ∀ (fn : Fn) (first cap : Array Value) (w : World), (Instr.makeFunc fn first cap).run Try.prog w = .ok (.func fn first cap) w := fun _ _ _ _ => rfl
    go_enter Try.func68, Try.ntmps68
    go_wp2_with fail
    refine (isDigit_any _ _).mono ?_
    rintro e w1 ⟨rfl, rfl⟩
    go_wp2_with fail
    refine (turner_any g m _ hf).mono ?_
    rintro e w2 ⟨rfl, ht, hb⟩
    generalize hN : w1.heap.size = N at ht ⊢
    go_wp2_with fail
    refine (each_any g N m hm s hs r HR.out _ ht).mono ?_
    rintro e w3 ⟨rfl, hb3⟩
    subst hN
    go_wp2
    go_ret2
    exact ⟨rfl, hb.next' hb3⟩
end Go.Proofs.Ytljckcegcfidoaa
