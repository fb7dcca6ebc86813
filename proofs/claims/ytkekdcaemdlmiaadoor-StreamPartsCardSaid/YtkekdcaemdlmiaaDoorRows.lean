/-
  NARROWER THAN 'FOR EVERY INPUT', by the rows' own cells (each row's printed sentence says how): StreamBack: laid · StreamParts: laid · StreamUnlike: laid.
  DERIVED. THE GIVEN ROWS OF THIS SEAT. 3 by the template 'for every input the law returns true; each argument reads behind the call as it read before'; 0 by the template 'total and deterministic' (their statements: YtkekdcaemdlmiaaDoorTotals.lean).
  GIVEN WITH THE SEED: the statements are not yours to turn. If you find one false, say at which input.
  Laid BY PROGRAM, IN A SANDBOX (cutbox-rows.mjs): the forced cells as the released guide's own fill.sh prints them over the translation 9b3217007763cb9d… (all of the seat's roots in one cut). By AI agents, Wed Nov 11 2026. No macro, syntax, notation, axiom, sorry.
-/
import Derived.Test.YtkekdcaemdlmiaaDoorChecked
import GoSem.Claim
import GoSem.ClaimJoined
import GoSem.ClaimMapViews
import Derived.JoinedTies
import Derived.KernelRfl
namespace Go.Proofs.YtkekdcaemdlmiaaDoor
/- THE CELL 'sum', in the pinned program and in every row, IS THE sha256 OF THE DUMP (.gsa) THAT YtkekdcaemdlmiaaDoorProg.lean LOADS. Nothing in Lean hashes anything: it is a label: what it is worth is what the hold of that sum in a sandbox is worth. -/
noncomputable def Tryd.pinned : Pinned := { name := "ytkekdcaemdlmiaadoor", sum := "9b3217007763cb9db94ecc62f1ab3fa8990111a4ed1cb3759157b98ac461a12a", checked := Tryd.checked }
namespace Rows
def none {H : Type} : Left H := { results := [], args := [] }

/- WHAT THE LISTED PACKAGE-LEVEL VARIABLES READ AS WHEN THE CALL BEGINS. Each datum BY PROGRAM (the guide's laid-datum.mjs) off the statement by which the dump's own 'gosem.cut.vars' lays the variable. In a bare row this is a premise. The card (YtkekdcaemdlmiaaDoorCards.lean) ties it to the program's text. -/
def laid_keyhole_stream_places {H : Type} : DataW H := .agg [.agg [.lit (.int .i64 0), .lit (.int .i64 4), .lit (.int .i64 8), .lit (.int .i64 12)], .agg [.lit (.int .i64 1), .lit (.int .i64 5), .lit (.int .i64 9), .lit (.int .i64 13)], .agg [.lit (.int .i64 2), .lit (.int .i64 6), .lit (.int .i64 10), .lit (.int .i64 14)], .agg [.lit (.int .i64 3), .lit (.int .i64 7), .lit (.int .i64 11), .lit (.int .i64 15)], .agg [.lit (.int .i64 0), .lit (.int .i64 5), .lit (.int .i64 10), .lit (.int .i64 15)], .agg [.lit (.int .i64 1), .lit (.int .i64 6), .lit (.int .i64 11), .lit (.int .i64 12)], .agg [.lit (.int .i64 2), .lit (.int .i64 7), .lit (.int .i64 8), .lit (.int .i64 13)], .agg [.lit (.int .i64 3), .lit (.int .i64 4), .lit (.int .i64 9), .lit (.int .i64 14)]]

/-- 'keyholelaw04.StreamBack': WHATEVER THE INPUT: true; the input reads as it did. -/
def streamBackSpec : ChangeSpec := { name := "streamBack", fn := fun _ => fun
  | [d1, d2, d3, d4] => { results := [.lit (.bool true)], args := [d1, d2, d3, d4] }
  | _ => none }
def streamBackRow : OpenClaim := { program := "ytkekdcaemdlmiaadoor", sum := "9b3217007763cb9db94ecc62f1ab3fa8990111a4ed1cb3759157b98ac461a12a", func := "keyhole/keyholelaw04.StreamBack", spec := "streamBack", unfollowed := true, recurses := true, named := ["keyhole/stream.places"], apart := false, laid := [("keyhole/stream.places", laid_keyhole_stream_places)] }
def StreamBackSaid : Prop := streamBackRow.holds Tryd.pinned (OpenSpec.ofChange streamBackSpec)

/-- ITS FALSE NEIGHBOUR: 'it returns false'. Refute it at one input. -/
def streamBackWrong : ChangeSpec := { name := "streamBack", fn := fun _ => fun
  | [d1, d2, d3, d4] => { results := [.lit (.bool false)], args := [d1, d2, d3, d4] }
  | _ => none }
def StreamBackWrongFalsely : Prop := streamBackRow.holds Tryd.pinned (OpenSpec.ofChange streamBackWrong)

/-- 'keyholelaw04.StreamParts': WHATEVER THE INPUT: true; the input reads as it did. -/
def streamPartsSpec : ChangeSpec := { name := "streamParts", fn := fun _ => fun
  | [d1, d2, d3, d4, d5] => { results := [.lit (.bool true)], args := [d1, d2, d3, d4, d5] }
  | _ => none }
def streamPartsRow : OpenClaim := { program := "ytkekdcaemdlmiaadoor", sum := "9b3217007763cb9db94ecc62f1ab3fa8990111a4ed1cb3759157b98ac461a12a", func := "keyhole/keyholelaw04.StreamParts", spec := "streamParts", unfollowed := true, recurses := true, named := ["keyhole/stream.places"], apart := false, laid := [("keyhole/stream.places", laid_keyhole_stream_places)] }
def StreamPartsSaid : Prop := streamPartsRow.holds Tryd.pinned (OpenSpec.ofChange streamPartsSpec)

/-- ITS FALSE NEIGHBOUR: 'it returns false'. Refute it at one input. -/
def streamPartsWrong : ChangeSpec := { name := "streamParts", fn := fun _ => fun
  | [d1, d2, d3, d4, d5] => { results := [.lit (.bool false)], args := [d1, d2, d3, d4, d5] }
  | _ => none }
def StreamPartsWrongFalsely : Prop := streamPartsRow.holds Tryd.pinned (OpenSpec.ofChange streamPartsWrong)

/-- 'keyholelaw04.StreamUnlike': WHATEVER THE INPUT: true; the input reads as it did. -/
def streamUnlikeSpec : ChangeSpec := { name := "streamUnlike", fn := fun _ => fun
  | [d1, d2, d3, d4, d5] => { results := [.lit (.bool true)], args := [d1, d2, d3, d4, d5] }
  | _ => none }
def streamUnlikeRow : OpenClaim := { program := "ytkekdcaemdlmiaadoor", sum := "9b3217007763cb9db94ecc62f1ab3fa8990111a4ed1cb3759157b98ac461a12a", func := "keyhole/keyholelaw04.StreamUnlike", spec := "streamUnlike", unfollowed := true, recurses := true, named := ["keyhole/stream.places"], apart := false, laid := [("keyhole/stream.places", laid_keyhole_stream_places)] }
def StreamUnlikeSaid : Prop := streamUnlikeRow.holds Tryd.pinned (OpenSpec.ofChange streamUnlikeSpec)

/-- ITS FALSE NEIGHBOUR: 'it returns false'. Refute it at one input. -/
def streamUnlikeWrong : ChangeSpec := { name := "streamUnlike", fn := fun _ => fun
  | [d1, d2, d3, d4, d5] => { results := [.lit (.bool false)], args := [d1, d2, d3, d4, d5] }
  | _ => none }
def StreamUnlikeWrongFalsely : Prop := streamUnlikeRow.holds Tryd.pinned (OpenSpec.ofChange streamUnlikeWrong)

/- THE SECOND FORM. 'bulk': how many values and letters a reading holds, each counted each time it is reached (what is shared counts as often as it is met; a slice's spare places count too). A statement '..UptoSaid' is the law's where the arguments, and the package variables that the reading takes, are together of bulk at most 1048576: NARROWER than '..Said'. Prove '..Said' where nothing that the law and all that it calls make is longer than what came in: it says more and counts as full. Else prove '..UptoSaid'. A law counts once. -/
mutual
def uptoBulk {H : Type} : DataW H → Nat
  | .lit (.string bytes) => bytes.length + 1
  | .lit _ => 1
  | .nil => 1
  | .ptr d => uptoBulk d + 1
  | .slice elems spare => uptoBulkAll elems + uptoBulkAll spare + 1
  | .agg parts => uptoBulkAll parts + 1
  | .iface _ d => uptoBulk d + 1
  | .map entries => uptoBulkEntries entries + 1
  | .held _ => 1
def uptoBulkAll {H : Type} : List (DataW H) → Nat
  | [] => 0
  | d :: r => uptoBulk d + uptoBulkAll r
def uptoBulkEntries {H : Type} : List (Lit × DataW H) → Nat
  | [] => 0
  | x :: r => uptoBulkEntry x + uptoBulkEntries r
def uptoBulkEntry {H : Type} : Lit × DataW H → Nat
  | (.string bytes, d) => bytes.length + uptoBulk d + 1
  | (_, d) => uptoBulk d + 1
 end
def uptoSmall : (H : Type) → List (DataW H) → Bool := fun _ ds => decide (uptoBulkAll ds ≤ 1048576)
def OpenSpec.upto (s : _root_.Go.ChangeSpec) : _root_.Go.OpenSpec := { _root_.Go.OpenSpec.ofChange s with cond := some uptoSmall }

/-- 'keyholelaw04.StreamBack', WHERE WHAT IT READS IS OF BULK AT MOST 1048576: true; the input reads as it did. -/
def streamBackUptoRow : OpenClaim := { program := "ytkekdcaemdlmiaadoor", sum := "9b3217007763cb9db94ecc62f1ab3fa8990111a4ed1cb3759157b98ac461a12a", func := "keyhole/keyholelaw04.StreamBack", spec := "streamBack", unfollowed := true, recurses := true, named := ["keyhole/stream.places"], apart := false, laid := [("keyhole/stream.places", laid_keyhole_stream_places)], narrowed := true }
def StreamBackUptoSaid : Prop := streamBackUptoRow.holds Tryd.pinned (OpenSpec.upto streamBackSpec)

/-- 'keyholelaw04.StreamParts', WHERE WHAT IT READS IS OF BULK AT MOST 1048576: true; the input reads as it did. -/
def streamPartsUptoRow : OpenClaim := { program := "ytkekdcaemdlmiaadoor", sum := "9b3217007763cb9db94ecc62f1ab3fa8990111a4ed1cb3759157b98ac461a12a", func := "keyhole/keyholelaw04.StreamParts", spec := "streamParts", unfollowed := true, recurses := true, named := ["keyhole/stream.places"], apart := false, laid := [("keyhole/stream.places", laid_keyhole_stream_places)], narrowed := true }
def StreamPartsUptoSaid : Prop := streamPartsUptoRow.holds Tryd.pinned (OpenSpec.upto streamPartsSpec)

/-- 'keyholelaw04.StreamUnlike', WHERE WHAT IT READS IS OF BULK AT MOST 1048576: true; the input reads as it did. -/
def streamUnlikeUptoRow : OpenClaim := { program := "ytkekdcaemdlmiaadoor", sum := "9b3217007763cb9db94ecc62f1ab3fa8990111a4ed1cb3759157b98ac461a12a", func := "keyhole/keyholelaw04.StreamUnlike", spec := "streamUnlike", unfollowed := true, recurses := true, named := ["keyhole/stream.places"], apart := false, laid := [("keyhole/stream.places", laid_keyhole_stream_places)], narrowed := true }
def StreamUnlikeUptoSaid : Prop := streamUnlikeUptoRow.holds Tryd.pinned (OpenSpec.upto streamUnlikeSpec)

end Rows
end Go.Proofs.YtkekdcaemdlmiaaDoor
