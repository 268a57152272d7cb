/-
  No cell of these rows narrows 'for every input' (looked for: loops, veiled, ifaces, maps, wideKeys, modest, calm, conditions, laid).
  DERIVED. THE GIVEN ROWS OF THIS SEAT. 7 by the template 'for every input the law returns true; each argument reads behind the call as it read before'; 0 by the template 'total and deterministic' (their statements: YtocdmnkmepplcaaTotals.lean).
  GIVEN WITH THE SEED: the statements are not yours to turn. If you find one false, say at which input.
  Laid BY PROGRAM, IN A SANDBOX (cutbox-rows.mjs): the forced cells as the released guide's own fill.sh prints them over the translation f2a02aaaf7328996… (all of the seat's roots in one cut). By AI agents, Wed Nov 11 2026. No macro, syntax, notation, axiom, sorry.
-/
import Derived.Test.YtocdmnkmepplcaaChecked
import GoSem.Claim
import GoSem.ClaimJoined
import GoSem.ClaimMapViews
import Derived.JoinedTies
import Derived.KernelRfl
namespace Go.Proofs.Ytocdmnkmepplcaa
/- THE CELL 'sum', in the pinned program and in every row, IS THE sha256 OF THE DUMP (.gsa) THAT YtocdmnkmepplcaaProg.lean LOADS. Nothing in Lean hashes anything: it is a label: what it is worth is what the hold of that sum in a sandbox is worth. -/
noncomputable def Try.pinned : Pinned := { name := "ytocdmnkmepplcaa", sum := "f2a02aaaf7328996d655f30c5cee3c953c32eceb8dd903756751cf08f9c8797b", checked := Try.checked }
namespace Rows
def none {H : Type} : Left H := { results := [], args := [] }

/-- 'riverbanklaw10.KeyNumbers': WHATEVER THE INPUT: true; the input reads as it did. -/
def keyNumbersSpec : ChangeSpec := { name := "keyNumbers", fn := fun _ => fun
  | [d1, d2, d3] => { results := [.lit (.bool true)], args := [d1, d2, d3] }
  | _ => none }
def keyNumbersRow : OpenClaim := { program := "ytocdmnkmepplcaa", sum := "f2a02aaaf7328996d655f30c5cee3c953c32eceb8dd903756751cf08f9c8797b", func := "riverbank/riverbanklaw10.KeyNumbers", spec := "keyNumbers", inPlace := ["internal/bytealg.IndexByteString"], unfollowed := true, recurses := true, apart := false }
def KeyNumbersSaid : Prop := keyNumbersRow.holds Try.pinned (OpenSpec.ofChange keyNumbersSpec)

/-- ITS FALSE NEIGHBOUR: 'it returns false'. Refute it at one input. -/
def keyNumbersWrong : ChangeSpec := { name := "keyNumbers", fn := fun _ => fun
  | [d1, d2, d3] => { results := [.lit (.bool false)], args := [d1, d2, d3] }
  | _ => none }
def KeyNumbersWrongFalsely : Prop := keyNumbersRow.holds Try.pinned (OpenSpec.ofChange keyNumbersWrong)

/-- 'riverbanklaw10.KeyOf': WHATEVER THE INPUT: true; the input reads as it did. -/
def keyOfSpec : ChangeSpec := { name := "keyOf", fn := fun _ => fun
  | [d] => { results := [.lit (.bool true)], args := [d] }
  | _ => none }
def keyOfRow : OpenClaim := { program := "ytocdmnkmepplcaa", sum := "f2a02aaaf7328996d655f30c5cee3c953c32eceb8dd903756751cf08f9c8797b", func := "riverbank/riverbanklaw10.KeyOf", spec := "keyOf", inPlace := ["internal/bytealg.IndexByteString"], unfollowed := true, recurses := true, apart := false }
def KeyOfSaid : Prop := keyOfRow.holds Try.pinned (OpenSpec.ofChange keyOfSpec)

/-- ITS FALSE NEIGHBOUR: 'it returns false'. Refute it at one input. -/
def keyOfWrong : ChangeSpec := { name := "keyOf", fn := fun _ => fun
  | [d] => { results := [.lit (.bool false)], args := [d] }
  | _ => none }
def KeyOfWrongFalsely : Prop := keyOfRow.holds Try.pinned (OpenSpec.ofChange keyOfWrong)

/-- 'riverbanklaw10.KeyMoved': WHATEVER THE INPUT: true; the input reads as it did. -/
def keyMovedSpec : ChangeSpec := { name := "keyMoved", fn := fun _ => fun
  | [d] => { results := [.lit (.bool true)], args := [d] }
  | _ => none }
def keyMovedRow : OpenClaim := { program := "ytocdmnkmepplcaa", sum := "f2a02aaaf7328996d655f30c5cee3c953c32eceb8dd903756751cf08f9c8797b", func := "riverbank/riverbanklaw10.KeyMoved", spec := "keyMoved", inPlace := ["internal/bytealg.IndexByteString"], unfollowed := true, recurses := true, apart := false }
def KeyMovedSaid : Prop := keyMovedRow.holds Try.pinned (OpenSpec.ofChange keyMovedSpec)

/-- ITS FALSE NEIGHBOUR: 'it returns false'. Refute it at one input. -/
def keyMovedWrong : ChangeSpec := { name := "keyMoved", fn := fun _ => fun
  | [d] => { results := [.lit (.bool false)], args := [d] }
  | _ => none }
def KeyMovedWrongFalsely : Prop := keyMovedRow.holds Try.pinned (OpenSpec.ofChange keyMovedWrong)

/-- 'riverbanklaw10.KeyFollows': WHATEVER THE INPUT: true; the input reads as it did. -/
def keyFollowsSpec : ChangeSpec := { name := "keyFollows", fn := fun _ => fun
  | [d] => { results := [.lit (.bool true)], args := [d] }
  | _ => none }
def keyFollowsRow : OpenClaim := { program := "ytocdmnkmepplcaa", sum := "f2a02aaaf7328996d655f30c5cee3c953c32eceb8dd903756751cf08f9c8797b", func := "riverbank/riverbanklaw10.KeyFollows", spec := "keyFollows", inPlace := ["internal/bytealg.IndexByteString"], unfollowed := true, recurses := true, apart := false }
def KeyFollowsSaid : Prop := keyFollowsRow.holds Try.pinned (OpenSpec.ofChange keyFollowsSpec)

/-- ITS FALSE NEIGHBOUR: 'it returns false'. Refute it at one input. -/
def keyFollowsWrong : ChangeSpec := { name := "keyFollows", fn := fun _ => fun
  | [d] => { results := [.lit (.bool false)], args := [d] }
  | _ => none }
def KeyFollowsWrongFalsely : Prop := keyFollowsRow.holds Try.pinned (OpenSpec.ofChange keyFollowsWrong)

/-- 'riverbanklaw10.KeyApart': WHATEVER THE INPUT: true; the input reads as it did. -/
def keyApartSpec : ChangeSpec := { name := "keyApart", fn := fun _ => fun
  | [d] => { results := [.lit (.bool true)], args := [d] }
  | _ => none }
def keyApartRow : OpenClaim := { program := "ytocdmnkmepplcaa", sum := "f2a02aaaf7328996d655f30c5cee3c953c32eceb8dd903756751cf08f9c8797b", func := "riverbank/riverbanklaw10.KeyApart", spec := "keyApart", inPlace := ["internal/bytealg.IndexByteString"], unfollowed := true, recurses := true, apart := false }
def KeyApartSaid : Prop := keyApartRow.holds Try.pinned (OpenSpec.ofChange keyApartSpec)

/-- ITS FALSE NEIGHBOUR: 'it returns false'. Refute it at one input. -/
def keyApartWrong : ChangeSpec := { name := "keyApart", fn := fun _ => fun
  | [d] => { results := [.lit (.bool false)], args := [d] }
  | _ => none }
def KeyApartWrongFalsely : Prop := keyApartRow.holds Try.pinned (OpenSpec.ofChange keyApartWrong)

/-- 'riverbanklaw10.KeySides': WHATEVER THE INPUT: true; the input reads as it did. -/
def keySidesSpec : ChangeSpec := { name := "keySides", fn := fun _ => fun
  | [d1, d2, d3] => { results := [.lit (.bool true)], args := [d1, d2, d3] }
  | _ => none }
def keySidesRow : OpenClaim := { program := "ytocdmnkmepplcaa", sum := "f2a02aaaf7328996d655f30c5cee3c953c32eceb8dd903756751cf08f9c8797b", func := "riverbank/riverbanklaw10.KeySides", spec := "keySides", inPlace := ["internal/bytealg.IndexByteString"], unfollowed := true, recurses := true, apart := false }
def KeySidesSaid : Prop := keySidesRow.holds Try.pinned (OpenSpec.ofChange keySidesSpec)

/-- ITS FALSE NEIGHBOUR: 'it returns false'. Refute it at one input. -/
def keySidesWrong : ChangeSpec := { name := "keySides", fn := fun _ => fun
  | [d1, d2, d3] => { results := [.lit (.bool false)], args := [d1, d2, d3] }
  | _ => none }
def KeySidesWrongFalsely : Prop := keySidesRow.holds Try.pinned (OpenSpec.ofChange keySidesWrong)

/-- 'riverbanklaw10.KeyPiece': WHATEVER THE INPUT: true; the input reads as it did. -/
def keyPieceSpec : ChangeSpec := { name := "keyPiece", fn := fun _ => fun
  | [d1, d2, d3] => { results := [.lit (.bool true)], args := [d1, d2, d3] }
  | _ => none }
def keyPieceRow : OpenClaim := { program := "ytocdmnkmepplcaa", sum := "f2a02aaaf7328996d655f30c5cee3c953c32eceb8dd903756751cf08f9c8797b", func := "riverbank/riverbanklaw10.KeyPiece", spec := "keyPiece", inPlace := ["internal/bytealg.IndexByteString"], unfollowed := true, recurses := true, apart := false }
def KeyPieceSaid : Prop := keyPieceRow.holds Try.pinned (OpenSpec.ofChange keyPieceSpec)

/-- ITS FALSE NEIGHBOUR: 'it returns false'. Refute it at one input. -/
def keyPieceWrong : ChangeSpec := { name := "keyPiece", fn := fun _ => fun
  | [d1, d2, d3] => { results := [.lit (.bool false)], args := [d1, d2, d3] }
  | _ => none }
def KeyPieceWrongFalsely : Prop := keyPieceRow.holds Try.pinned (OpenSpec.ofChange keyPieceWrong)

/- THE SECOND FORM. 'bulk': how many values and letters a reading holds, each counted each time it is reached (what is shared counts as often as it is met; a slice's spare places count too). A statement '..UptoSaid' is the law's where the arguments, and the package variables that the reading takes, are together of bulk at most 1048576: NARROWER than '..Said'. Prove '..Said' where nothing that the law and all that it calls make is longer than what came in: it says more and counts as full. Else prove '..UptoSaid'. A law counts once. -/
mutual
def uptoBulk {H : Type} : DataW H → Nat
  | .lit (.string bytes) => bytes.length + 1
  | .lit _ => 1
  | .nil => 1
  | .ptr d => uptoBulk d + 1
  | .slice elems spare => uptoBulkAll elems + uptoBulkAll spare + 1
  | .agg parts => uptoBulkAll parts + 1
  | .iface _ d => uptoBulk d + 1
  | .map entries => uptoBulkEntries entries + 1
  | .held _ => 1
def uptoBulkAll {H : Type} : List (DataW H) → Nat
  | [] => 0
  | d :: r => uptoBulk d + uptoBulkAll r
def uptoBulkEntries {H : Type} : List (Lit × DataW H) → Nat
  | [] => 0
  | x :: r => uptoBulkEntry x + uptoBulkEntries r
def uptoBulkEntry {H : Type} : Lit × DataW H → Nat
  | (.string bytes, d) => bytes.length + uptoBulk d + 1
  | (_, d) => uptoBulk d + 1
 end
def uptoSmall : (H : Type) → List (DataW H) → Bool := fun _ ds => decide (uptoBulkAll ds ≤ 1048576)
def OpenSpec.upto (s : _root_.Go.ChangeSpec) : _root_.Go.OpenSpec := { _root_.Go.OpenSpec.ofChange s with cond := some uptoSmall }

/-- 'riverbanklaw10.KeyNumbers', WHERE WHAT IT READS IS OF BULK AT MOST 1048576: true; the input reads as it did. -/
def keyNumbersUptoRow : OpenClaim := { program := "ytocdmnkmepplcaa", sum := "f2a02aaaf7328996d655f30c5cee3c953c32eceb8dd903756751cf08f9c8797b", func := "riverbank/riverbanklaw10.KeyNumbers", spec := "keyNumbers", inPlace := ["internal/bytealg.IndexByteString"], unfollowed := true, recurses := true, apart := false, narrowed := true }
def KeyNumbersUptoSaid : Prop := keyNumbersUptoRow.holds Try.pinned (OpenSpec.upto keyNumbersSpec)

/-- 'riverbanklaw10.KeyOf', WHERE WHAT IT READS IS OF BULK AT MOST 1048576: true; the input reads as it did. -/
def keyOfUptoRow : OpenClaim := { program := "ytocdmnkmepplcaa", sum := "f2a02aaaf7328996d655f30c5cee3c953c32eceb8dd903756751cf08f9c8797b", func := "riverbank/riverbanklaw10.KeyOf", spec := "keyOf", inPlace := ["internal/bytealg.IndexByteString"], unfollowed := true, recurses := true, apart := false, narrowed := true }
def KeyOfUptoSaid : Prop := keyOfUptoRow.holds Try.pinned (OpenSpec.upto keyOfSpec)

/-- 'riverbanklaw10.KeyMoved', WHERE WHAT IT READS IS OF BULK AT MOST 1048576: true; the input reads as it did. -/
def keyMovedUptoRow : OpenClaim := { program := "ytocdmnkmepplcaa", sum := "f2a02aaaf7328996d655f30c5cee3c953c32eceb8dd903756751cf08f9c8797b", func := "riverbank/riverbanklaw10.KeyMoved", spec := "keyMoved", inPlace := ["internal/bytealg.IndexByteString"], unfollowed := true, recurses := true, apart := false, narrowed := true }
def KeyMovedUptoSaid : Prop := keyMovedUptoRow.holds Try.pinned (OpenSpec.upto keyMovedSpec)

/-- 'riverbanklaw10.KeyFollows', WHERE WHAT IT READS IS OF BULK AT MOST 1048576: true; the input reads as it did. -/
def keyFollowsUptoRow : OpenClaim := { program := "ytocdmnkmepplcaa", sum := "f2a02aaaf7328996d655f30c5cee3c953c32eceb8dd903756751cf08f9c8797b", func := "riverbank/riverbanklaw10.KeyFollows", spec := "keyFollows", inPlace := ["internal/bytealg.IndexByteString"], unfollowed := true, recurses := true, apart := false, narrowed := true }
def KeyFollowsUptoSaid : Prop := keyFollowsUptoRow.holds Try.pinned (OpenSpec.upto keyFollowsSpec)

/-- 'riverbanklaw10.KeyApart', WHERE WHAT IT READS IS OF BULK AT MOST 1048576: true; the input reads as it did. -/
def keyApartUptoRow : OpenClaim := { program := "ytocdmnkmepplcaa", sum := "f2a02aaaf7328996d655f30c5cee3c953c32eceb8dd903756751cf08f9c8797b", func := "riverbank/riverbanklaw10.KeyApart", spec := "keyApart", inPlace := ["internal/bytealg.IndexByteString"], unfollowed := true, recurses := true, apart := false, narrowed := true }
def KeyApartUptoSaid : Prop := keyApartUptoRow.holds Try.pinned (OpenSpec.upto keyApartSpec)

/-- 'riverbanklaw10.KeySides', WHERE WHAT IT READS IS OF BULK AT MOST 1048576: true; the input reads as it did. -/
def keySidesUptoRow : OpenClaim := { program := "ytocdmnkmepplcaa", sum := "f2a02aaaf7328996d655f30c5cee3c953c32eceb8dd903756751cf08f9c8797b", func := "riverbank/riverbanklaw10.KeySides", spec := "keySides", inPlace := ["internal/bytealg.IndexByteString"], unfollowed := true, recurses := true, apart := false, narrowed := true }
def KeySidesUptoSaid : Prop := keySidesUptoRow.holds Try.pinned (OpenSpec.upto keySidesSpec)

/-- 'riverbanklaw10.KeyPiece', WHERE WHAT IT READS IS OF BULK AT MOST 1048576: true; the input reads as it did. -/
def keyPieceUptoRow : OpenClaim := { program := "ytocdmnkmepplcaa", sum := "f2a02aaaf7328996d655f30c5cee3c953c32eceb8dd903756751cf08f9c8797b", func := "riverbank/riverbanklaw10.KeyPiece", spec := "keyPiece", inPlace := ["internal/bytealg.IndexByteString"], unfollowed := true, recurses := true, apart := false, narrowed := true }
def KeyPieceUptoSaid : Prop := keyPieceUptoRow.holds Try.pinned (OpenSpec.upto keyPieceSpec)

end Rows
end Go.Proofs.Ytocdmnkmepplcaa
