/-
  seal, as plain mathematics over lists of bytes: what is told, the key of the tag, the tag; what is sealed and opened, and what follows of it.
-/
import Derived.Test.YtapbjmeilhcmaaaDoorStm
import Derived.Test.YtapbjmeilhcmaaaDoorTgm
namespace Go.Proofs.YtapbjmeilhcmaaaDoor
open Go.RowKit Go.Kx

def pad16 (l : List UInt8) : List UInt8 := l ++ List.replicate ((16 - l.length % 16) % 16) 0
theorem pad16_length (l : List UInt8) : (pad16 l).length = l.length + (16 - l.length % 16) % 16 := by simp [pad16]
theorem pad16_le (l : List UInt8) {n : Nat} (h : l.length ≤ 16 * n) : (pad16 l).length ≤ 16 * n := by rw [pad16_length]; omega
theorem pad16_same (l : List UInt8) (h : l.length % 16 = 0) : pad16 l = l := by simp [pad16, h]
def pads16 : List (List UInt8) → List UInt8
  | [] => []
  | l :: r => pad16 l ++ pads16 r
theorem pads16_append (a b : List (List UInt8)) : pads16 (a ++ b) = pads16 a ++ pads16 b := by
  induction a with
  | nil => rfl
  | cons l r ih => simp [pads16, ih]
def cntL (n : Nat) : List UInt8 := (List.range 8).map fun i => UInt8.ofNat (digitV n i)
theorem cntL_length (n : Nat) : (cntL n).length = 8 := by simp [cntL]
theorem cntL_at (n i : Nat) (h : i < 8) : ((cntL n).getD i 0).toNat = digitV n i := by
  have := digitV_lt n i
  simp [cntL, List.getD_eq_getElem?_getD, h]
  omega
def toldL (b h : List UInt8) : List UInt8 := pads16 [b, h, cntL b.length ++ cntL h.length]
theorem toldL_le (b h : List UInt8) (hb : b.length ≤ 4000) (hh : h.length ≤ 4000) : (toldL b h).length ≤ 8016 := by
  have h1 := pad16_le b (n := 250) (by omega)
  have h2 := pad16_le h (n := 250) (by omega)
  have h3 := pad16_le (cntL b.length ++ cntL h.length) (n := 1) (by simp [cntL_length])
  simp only [toldL, pads16, List.length_append, List.length_nil] at *
  omega
/-- The key of a tag. -/
def onceL (key nonce : ByteArray) : List UInt8 := (bytesL (startL key nonce 0)).take 32
theorem onceL_length (key nonce : ByteArray) : (onceL key nonce).length = 32 := by simp [onceL, bytesL_length]
def markL (key nonce : ByteArray) (b h : List UInt8) : List UInt8 := lowL (tagV (onceL key nonce) (toldL b h))
theorem markL_length (key nonce : ByteArray) (b h : List UInt8) : (markL key nonce b h).length = 16 := lowL_length _
def hiddenL (key nonce : ByteArray) (s : List UInt8) : List UInt8 := hideL (ksB key nonce) 1 s
theorem hiddenL_length (key nonce : ByteArray) (s : List UInt8) : (hiddenL key nonce s).length = s.length := hideL_length _ _ _
theorem hiddenL_back (key nonce : ByteArray) (s : List UInt8) : hiddenL key nonce (hiddenL key nonce s) = s := hideL_back _ _ _
def sealL (key nonce : ByteArray) (b s : List UInt8) : List UInt8 := hiddenL key nonce s ++ markL key nonce b (hiddenL key nonce s)
theorem sealL_length (key nonce : ByteArray) (b s : List UInt8) : (sealL key nonce b s).length = s.length + 16 := by
  simp [sealL, hiddenL_length, markL_length]
/-- Is this what was sealed: does its end fit? -/
def fitsL (key nonce : ByteArray) (b x : List UInt8) : Bool := x.drop (x.length - 16) == markL key nonce b (x.take (x.length - 16))
theorem seal_head (key nonce : ByteArray) (b s : List UInt8) : (sealL key nonce b s).take ((sealL key nonce b s).length - 16) = hiddenL key nonce s := by
  rw [sealL_length, Nat.add_sub_cancel, sealL, List.take_left' (hiddenL_length _ _ _)]
theorem seal_tail (key nonce : ByteArray) (b s : List UInt8) : (sealL key nonce b s).drop ((sealL key nonce b s).length - 16) = markL key nonce b (hiddenL key nonce s) := by
  rw [sealL_length, Nat.add_sub_cancel, sealL, List.drop_left' (hiddenL_length _ _ _)]
theorem seal_fits (key nonce : ByteArray) (b s : List UInt8) : fitsL key nonce b (sealL key nonce b s) = true := by
  rw [fitsL, seal_head, seal_tail]
  exact beq_self_eq_true _
theorem open_seal (key nonce : ByteArray) (b s : List UInt8) : hiddenL key nonce ((sealL key nonce b s).take ((sealL key nonce b s).length - 16)) = s := by
  rw [seal_head, hiddenL_back]
theorem seal_open (key nonce : ByteArray) (b x : List UInt8) (h : fitsL key nonce b x = true) : sealL key nonce b (hiddenL key nonce (x.take (x.length - 16))) = x := by
  have h2 := eq_of_beq h
  rw [sealL, hiddenL_back, ← h2, List.take_append_drop]
/-- With another last byte it does not fit. -/
theorem turned_fits (key nonce : ByteArray) (b s : List UInt8) (x : List UInt8) (c d : UInt8) (h : sealL key nonce b s = x ++ [d]) (hcd : d ≠ c) : fitsL key nonce b (x ++ [c]) = false := by
  have hx : x.length = s.length + 15 := by
    have := congrArg List.length h
    rw [sealL_length] at this
    simp at this
    omega
  have hl : (x ++ [c]).length - 16 = s.length := by simp [hx]
  have hl2 : (x ++ [d]).length - 16 = s.length := by simp [hx]
  have hh := seal_head key nonce b s
  have ht := seal_tail key nonce b s
  rw [h, hl2, List.take_append_of_le_length (by omega)] at hh
  rw [h, hl2, List.drop_append_of_le_length (by omega)] at ht
  rw [fitsL, hl, List.take_append_of_le_length (by omega), List.drop_append_of_le_length (by omega), hh, ← ht]
  rw [beq_eq_false_iff_ne]
  intro e
  have := List.append_cancel_left e
  simp at this
  exact hcd this.symm
/-! ### the document's rows -/
def keyE : ByteArray := ⟨(List.replicate 32 1).toArray⟩
def nonceE : ByteArray := ⟨(List.replicate 12 2).toArray⟩
theorem example_else : fitsL keyE nonceE [121] (sealL keyE nonceE [120] [97, 98, 99]) = false := by decide +kernel
end Go.Proofs.YtapbjmeilhcmaaaDoor
