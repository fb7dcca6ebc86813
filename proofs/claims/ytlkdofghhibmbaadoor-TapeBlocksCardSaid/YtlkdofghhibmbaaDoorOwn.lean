/-
  Slices that a walk appends to: what they read as.
-/
import Derived.Test.YtlkdofghhibmbaaDoorOwnr
namespace Go.Proofs.YtlkdofghhibmbaaDoor
open Go.RowKit Go.Kx
set_option maxRecDepth 20000

theorem octet_info : (Tryd.prog.info? 5).map (fun i => (i.zero, i.size, i.bytes)) = some (some (.int .u8 0), 1, 1) := by kernel_rfl
def byts (l : List UInt8) : List Value := l.map (fun b : UInt8 => Value.int .u8 (b.toNat : Int))
theorem byts_snoc (l : List UInt8) (b : UInt8) : byts l ++ [Value.int .u8 (b.toNat : Int)] = byts (l ++ [b]) := by simp [byts]
theorem take_snocB {l : List UInt8} {k : Nat} {x : UInt8} (h : l[k]? = some x) : l.take k ++ [x] = l.take (k + 1) := by rw [List.take_add_one, h]; rfl
theorem own_str {w : World} {B0 : Nat} {v : Value} {l : List UInt8} (h : w.ownsRow B0 5 1 v l.length (byts l)) :
    ∃ A c, v = .slice A l.length c ∧ (0 < l.length → (convert 72 9 v).run Tryd.prog w = .ok (.string ⟨l.toArray⟩) w) := by
  obtain ⟨A, c, rfl, hs⟩ := own_sl h
  refine ⟨A, c, rfl, fun h0 => ?_⟩
  rcases hs with hs | ⟨b, off, rfl, _, hc⟩
  · have : l = [] := by simpa [byts] using hs
    subst this
    simp at h0
  · refine run_convert_bytes_back (P := Tryd.prog) w 72 9 5 ⟨b, off, none⟩ c l Tryd.underlying72 Tryd.underlying5 Tryd.underlying9 (fun j hj => ?_)
    rw [show (⟨b, off, none⟩ : Addr).add j = ⟨b, off + j, none⟩ by unfold Addr.add; split <;> simp_all]
    rw [hc j (.int .u8 (l[j].toNat : Int)) (by simp [byts, hj])]
theorem own_strs {w : World} {B0 : Nat} {v : Value} {l : List UInt8} (h : w.ownsRow B0 5 1 v l.length (byts l)) :
    ∃ A c, v = .slice A l.length c ∧ (convert 72 9 v).run Tryd.prog w = .ok (.string ⟨l.toArray⟩) w := by
  obtain ⟨A, c, rfl, hc⟩ := own_str h
  refine ⟨A, c, rfl, ?_⟩
  rcases Nat.eq_zero_or_pos l.length with h0 | h0
  · obtain rfl : l = [] := List.eq_nil_of_length_eq_zero h0
    show (convert 72 9 (.slice A 0 c)).run Tryd.prog w = _
    rw [run_convert_bytes_string w 72 9 5 A 0 c Tryd.underlying72 Tryd.underlying5 Tryd.underlying9]
    cases A <;> simp [Conv.bytesToString, loadCells] <;> rfl
  · exact hc h0
end Go.Proofs.YtlkdofghhibmbaaDoor
