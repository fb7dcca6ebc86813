/-
  tape: the bytes of a made tape (mathematics).
-/
import Derived.Test.YtlkdofghhibmbaaDoorStm
import Derived.Test.YtlkdofghhibmbaaDoorTam
namespace Go.Proofs.YtlkdofghhibmbaaDoor
open Go.RowKit Go.Kx
set_option maxRecDepth 20000

/-! ### a tape's bytes -/
/-- The block i of a key, as bytes. -/
def blkL (key : ByteArray) (i : Nat) : List UInt8 := bytesL (startL key (zeroB 12) i)
theorem blkL_length (key : ByteArray) (i : Nat) : (blkL key i).length = 64 := bytesL_length _
/-- The byte j of a made tape. -/
def madeAt (key : ByteArray) (j : Nat) : UInt8 := (blkL key (j / 64)).getD (j % 64) 0
def madeL (key : ByteArray) : List UInt8 := (List.range 65536).map (madeAt key)
theorem madeL_length (key : ByteArray) : (madeL key).length = 65536 := by rw [madeL, List.length_map, List.length_range]
theorem madeL_get (key : ByteArray) {j : Nat} (h : j < 65536) : (madeL key)[j]? = some (madeAt key j) := by
  rw [madeL, List.getElem?_map, List.getElem?_range h]
  rfl
/-- The bytes of a tape. -/
def tapeL (key : ByteArray) (made : Bool) (s : ByteArray) : List UInt8 := if made = true then madeL key else s.data.toList
end Go.Proofs.YtlkdofghhibmbaaDoor
