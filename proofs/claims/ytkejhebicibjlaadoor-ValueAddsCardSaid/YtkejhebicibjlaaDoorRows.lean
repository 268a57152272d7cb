/-
  NARROWER THAN 'FOR EVERY INPUT', by the rows' own cells (each row's printed sentence says how): ValuePieces: laid · ValueOf: laid · ValueFollows: laid · ValueTurn: laid · ValueAdds: laid · ValueLeast: laid.
  DERIVED. THE GIVEN ROWS OF THIS SEAT. 6 by the template 'for every input the law returns true; each argument reads behind the call as it read before'; 0 by the template 'total and deterministic' (their statements: YtkejhebicibjlaaDoorTotals.lean).
  GIVEN WITH THE SEED: the statements are not yours to turn. If you find one false, say at which input.
  Laid BY PROGRAM, IN A SANDBOX (cutbox-rows.mjs): the forced cells as the released guide's own fill.sh prints them over the translation 9961c8f10f34310e… (all of the seat's roots in one cut). By AI agents, Wed Nov 11 2026. No macro, syntax, notation, axiom, sorry.
-/
import Derived.Test.YtkejhebicibjlaaDoorChecked
import GoSem.Claim
import GoSem.ClaimJoined
import GoSem.ClaimMapViews
import Derived.JoinedTies
import Derived.KernelRfl
namespace Go.Proofs.YtkejhebicibjlaaDoor
/- THE CELL 'sum', in the pinned program and in every row, IS THE sha256 OF THE DUMP (.gsa) THAT YtkejhebicibjlaaDoorProg.lean LOADS. Nothing in Lean hashes anything: it is a label: what it is worth is what the hold of that sum in a sandbox is worth. -/
noncomputable def Tryd.pinned : Pinned := { name := "ytkejhebicibjlaadoor", sum := "9961c8f10f34310e726504b9a85da17636a5208df3aeb5e792549129e2843d62", checked := Tryd.checked }
namespace Rows
def none {H : Type} : Left H := { results := [], args := [] }

/- WHAT THE LISTED PACKAGE-LEVEL VARIABLES READ AS WHEN THE CALL BEGINS. Each datum BY PROGRAM (the guide's laid-datum.mjs) off the statement by which the dump's own 'gosem.cut.vars' lays the variable. In a bare row this is a premise. The card (YtkejhebicibjlaaDoorCards.lean) ties it to the program's text. -/
def laid_math_bits_deBruijn64tab {H : Type} : DataW H := .agg [.lit (.int .u8 0), .lit (.int .u8 1), .lit (.int .u8 56), .lit (.int .u8 2), .lit (.int .u8 57), .lit (.int .u8 49), .lit (.int .u8 28), .lit (.int .u8 3), .lit (.int .u8 61), .lit (.int .u8 58), .lit (.int .u8 42), .lit (.int .u8 50), .lit (.int .u8 38), .lit (.int .u8 29), .lit (.int .u8 17), .lit (.int .u8 4), .lit (.int .u8 62), .lit (.int .u8 47), .lit (.int .u8 59), .lit (.int .u8 36), .lit (.int .u8 45), .lit (.int .u8 43), .lit (.int .u8 51), .lit (.int .u8 22), .lit (.int .u8 53), .lit (.int .u8 39), .lit (.int .u8 33), .lit (.int .u8 30), .lit (.int .u8 24), .lit (.int .u8 18), .lit (.int .u8 12), .lit (.int .u8 5), .lit (.int .u8 63), .lit (.int .u8 55), .lit (.int .u8 48), .lit (.int .u8 27), .lit (.int .u8 60), .lit (.int .u8 41), .lit (.int .u8 37), .lit (.int .u8 16), .lit (.int .u8 46), .lit (.int .u8 35), .lit (.int .u8 44), .lit (.int .u8 21), .lit (.int .u8 52), .lit (.int .u8 32), .lit (.int .u8 23), .lit (.int .u8 11), .lit (.int .u8 54), .lit (.int .u8 26), .lit (.int .u8 40), .lit (.int .u8 15), .lit (.int .u8 34), .lit (.int .u8 20), .lit (.int .u8 31), .lit (.int .u8 10), .lit (.int .u8 25), .lit (.int .u8 14), .lit (.int .u8 19), .lit (.int .u8 9), .lit (.int .u8 13), .lit (.int .u8 8), .lit (.int .u8 7), .lit (.int .u8 6)]

/-- 'riverbanklaw14.ValuePieces': WHATEVER THE INPUT: true; the input reads as it did. -/
def valuePiecesSpec : ChangeSpec := { name := "valuePieces", fn := fun _ => fun
  | [d1, d2] => { results := [.lit (.bool true)], args := [d1, d2] }
  | _ => none }
def valuePiecesRow : OpenClaim := { program := "ytkejhebicibjlaadoor", sum := "9961c8f10f34310e726504b9a85da17636a5208df3aeb5e792549129e2843d62", func := "riverbank/riverbanklaw14.ValuePieces", spec := "valuePieces", inPlace := ["internal/bytealg.IndexByteString"], unfollowed := true, recurses := true, named := ["math/bits.deBruijn64tab"], apart := false, laid := [("math/bits.deBruijn64tab", laid_math_bits_deBruijn64tab)] }
def ValuePiecesSaid : Prop := valuePiecesRow.holds Tryd.pinned (OpenSpec.ofChange valuePiecesSpec)

/-- ITS FALSE NEIGHBOUR: 'it returns false'. Refute it at one input. -/
def valuePiecesWrong : ChangeSpec := { name := "valuePieces", fn := fun _ => fun
  | [d1, d2] => { results := [.lit (.bool false)], args := [d1, d2] }
  | _ => none }
def ValuePiecesWrongFalsely : Prop := valuePiecesRow.holds Tryd.pinned (OpenSpec.ofChange valuePiecesWrong)

/-- 'riverbanklaw14.ValueOf': WHATEVER THE INPUT: true; the input reads as it did. -/
def valueOfSpec : ChangeSpec := { name := "valueOf", fn := fun _ => fun
  | [d] => { results := [.lit (.bool true)], args := [d] }
  | _ => none }
def valueOfRow : OpenClaim := { program := "ytkejhebicibjlaadoor", sum := "9961c8f10f34310e726504b9a85da17636a5208df3aeb5e792549129e2843d62", func := "riverbank/riverbanklaw14.ValueOf", spec := "valueOf", inPlace := ["internal/bytealg.IndexByteString"], unfollowed := true, recurses := true, named := ["math/bits.deBruijn64tab"], apart := false, laid := [("math/bits.deBruijn64tab", laid_math_bits_deBruijn64tab)] }
def ValueOfSaid : Prop := valueOfRow.holds Tryd.pinned (OpenSpec.ofChange valueOfSpec)

/-- ITS FALSE NEIGHBOUR: 'it returns false'. Refute it at one input. -/
def valueOfWrong : ChangeSpec := { name := "valueOf", fn := fun _ => fun
  | [d] => { results := [.lit (.bool false)], args := [d] }
  | _ => none }
def ValueOfWrongFalsely : Prop := valueOfRow.holds Tryd.pinned (OpenSpec.ofChange valueOfWrong)

/-- 'riverbanklaw14.ValueFollows': WHATEVER THE INPUT: true; the input reads as it did. -/
def valueFollowsSpec : ChangeSpec := { name := "valueFollows", fn := fun _ => fun
  | [d] => { results := [.lit (.bool true)], args := [d] }
  | _ => none }
def valueFollowsRow : OpenClaim := { program := "ytkejhebicibjlaadoor", sum := "9961c8f10f34310e726504b9a85da17636a5208df3aeb5e792549129e2843d62", func := "riverbank/riverbanklaw14.ValueFollows", spec := "valueFollows", inPlace := ["internal/bytealg.IndexByteString"], unfollowed := true, recurses := true, named := ["math/bits.deBruijn64tab"], apart := false, laid := [("math/bits.deBruijn64tab", laid_math_bits_deBruijn64tab)] }
def ValueFollowsSaid : Prop := valueFollowsRow.holds Tryd.pinned (OpenSpec.ofChange valueFollowsSpec)

/-- ITS FALSE NEIGHBOUR: 'it returns false'. Refute it at one input. -/
def valueFollowsWrong : ChangeSpec := { name := "valueFollows", fn := fun _ => fun
  | [d] => { results := [.lit (.bool false)], args := [d] }
  | _ => none }
def ValueFollowsWrongFalsely : Prop := valueFollowsRow.holds Tryd.pinned (OpenSpec.ofChange valueFollowsWrong)

/-- 'riverbanklaw14.ValueTurn': WHATEVER THE INPUT: true; the input reads as it did. -/
def valueTurnSpec : ChangeSpec := { name := "valueTurn", fn := fun _ => fun
  | [d] => { results := [.lit (.bool true)], args := [d] }
  | _ => none }
def valueTurnRow : OpenClaim := { program := "ytkejhebicibjlaadoor", sum := "9961c8f10f34310e726504b9a85da17636a5208df3aeb5e792549129e2843d62", func := "riverbank/riverbanklaw14.ValueTurn", spec := "valueTurn", inPlace := ["internal/bytealg.IndexByteString"], unfollowed := true, recurses := true, named := ["math/bits.deBruijn64tab"], apart := false, laid := [("math/bits.deBruijn64tab", laid_math_bits_deBruijn64tab)] }
def ValueTurnSaid : Prop := valueTurnRow.holds Tryd.pinned (OpenSpec.ofChange valueTurnSpec)

/-- ITS FALSE NEIGHBOUR: 'it returns false'. Refute it at one input. -/
def valueTurnWrong : ChangeSpec := { name := "valueTurn", fn := fun _ => fun
  | [d] => { results := [.lit (.bool false)], args := [d] }
  | _ => none }
def ValueTurnWrongFalsely : Prop := valueTurnRow.holds Tryd.pinned (OpenSpec.ofChange valueTurnWrong)

/-- 'riverbanklaw14.ValueAdds': WHATEVER THE INPUT: true; the input reads as it did. -/
def valueAddsSpec : ChangeSpec := { name := "valueAdds", fn := fun _ => fun
  | [d1, d2, d3] => { results := [.lit (.bool true)], args := [d1, d2, d3] }
  | _ => none }
def valueAddsRow : OpenClaim := { program := "ytkejhebicibjlaadoor", sum := "9961c8f10f34310e726504b9a85da17636a5208df3aeb5e792549129e2843d62", func := "riverbank/riverbanklaw14.ValueAdds", spec := "valueAdds", inPlace := ["internal/bytealg.IndexByteString"], unfollowed := true, recurses := true, named := ["math/bits.deBruijn64tab"], apart := false, laid := [("math/bits.deBruijn64tab", laid_math_bits_deBruijn64tab)] }
def ValueAddsSaid : Prop := valueAddsRow.holds Tryd.pinned (OpenSpec.ofChange valueAddsSpec)

/-- ITS FALSE NEIGHBOUR: 'it returns false'. Refute it at one input. -/
def valueAddsWrong : ChangeSpec := { name := "valueAdds", fn := fun _ => fun
  | [d1, d2, d3] => { results := [.lit (.bool false)], args := [d1, d2, d3] }
  | _ => none }
def ValueAddsWrongFalsely : Prop := valueAddsRow.holds Tryd.pinned (OpenSpec.ofChange valueAddsWrong)

/-- 'riverbanklaw14.ValueLeast': WHATEVER THE INPUT: true; the input reads as it did. -/
def valueLeastSpec : ChangeSpec := { name := "valueLeast", fn := fun _ => fun
  | [d1, d2] => { results := [.lit (.bool true)], args := [d1, d2] }
  | _ => none }
def valueLeastRow : OpenClaim := { program := "ytkejhebicibjlaadoor", sum := "9961c8f10f34310e726504b9a85da17636a5208df3aeb5e792549129e2843d62", func := "riverbank/riverbanklaw14.ValueLeast", spec := "valueLeast", inPlace := ["internal/bytealg.IndexByteString"], unfollowed := true, recurses := true, named := ["math/bits.deBruijn64tab"], apart := false, laid := [("math/bits.deBruijn64tab", laid_math_bits_deBruijn64tab)] }
def ValueLeastSaid : Prop := valueLeastRow.holds Tryd.pinned (OpenSpec.ofChange valueLeastSpec)

/-- ITS FALSE NEIGHBOUR: 'it returns false'. Refute it at one input. -/
def valueLeastWrong : ChangeSpec := { name := "valueLeast", fn := fun _ => fun
  | [d1, d2] => { results := [.lit (.bool false)], args := [d1, d2] }
  | _ => none }
def ValueLeastWrongFalsely : Prop := valueLeastRow.holds Tryd.pinned (OpenSpec.ofChange valueLeastWrong)

/- THE SECOND FORM. 'bulk': how many values and letters a reading holds, each counted each time it is reached (what is shared counts as often as it is met; a slice's spare places count too). A statement '..UptoSaid' is the law's where the arguments, and the package variables that the reading takes, are together of bulk at most 1048576: NARROWER than '..Said'. Prove '..Said' where nothing that the law and all that it calls make is longer than what came in: it says more and counts as full. Else prove '..UptoSaid'. A law counts once. -/
mutual
def uptoBulk {H : Type} : DataW H → Nat
  | .lit (.string bytes) => bytes.length + 1
  | .lit _ => 1
  | .nil => 1
  | .ptr d => uptoBulk d + 1
  | .slice elems spare => uptoBulkAll elems + uptoBulkAll spare + 1
  | .agg parts => uptoBulkAll parts + 1
  | .iface _ d => uptoBulk d + 1
  | .map entries => uptoBulkEntries entries + 1
  | .held _ => 1
def uptoBulkAll {H : Type} : List (DataW H) → Nat
  | [] => 0
  | d :: r => uptoBulk d + uptoBulkAll r
def uptoBulkEntries {H : Type} : List (Lit × DataW H) → Nat
  | [] => 0
  | x :: r => uptoBulkEntry x + uptoBulkEntries r
def uptoBulkEntry {H : Type} : Lit × DataW H → Nat
  | (.string bytes, d) => bytes.length + uptoBulk d + 1
  | (_, d) => uptoBulk d + 1
 end
def uptoSmall : (H : Type) → List (DataW H) → Bool := fun _ ds => decide (uptoBulkAll ds ≤ 1048576)
def OpenSpec.upto (s : _root_.Go.ChangeSpec) : _root_.Go.OpenSpec := { _root_.Go.OpenSpec.ofChange s with cond := some uptoSmall }

/-- 'riverbanklaw14.ValuePieces', WHERE WHAT IT READS IS OF BULK AT MOST 1048576: true; the input reads as it did. -/
def valuePiecesUptoRow : OpenClaim := { program := "ytkejhebicibjlaadoor", sum := "9961c8f10f34310e726504b9a85da17636a5208df3aeb5e792549129e2843d62", func := "riverbank/riverbanklaw14.ValuePieces", spec := "valuePieces", inPlace := ["internal/bytealg.IndexByteString"], unfollowed := true, recurses := true, named := ["math/bits.deBruijn64tab"], apart := false, laid := [("math/bits.deBruijn64tab", laid_math_bits_deBruijn64tab)], narrowed := true }
def ValuePiecesUptoSaid : Prop := valuePiecesUptoRow.holds Tryd.pinned (OpenSpec.upto valuePiecesSpec)

/-- 'riverbanklaw14.ValueOf', WHERE WHAT IT READS IS OF BULK AT MOST 1048576: true; the input reads as it did. -/
def valueOfUptoRow : OpenClaim := { program := "ytkejhebicibjlaadoor", sum := "9961c8f10f34310e726504b9a85da17636a5208df3aeb5e792549129e2843d62", func := "riverbank/riverbanklaw14.ValueOf", spec := "valueOf", inPlace := ["internal/bytealg.IndexByteString"], unfollowed := true, recurses := true, named := ["math/bits.deBruijn64tab"], apart := false, laid := [("math/bits.deBruijn64tab", laid_math_bits_deBruijn64tab)], narrowed := true }
def ValueOfUptoSaid : Prop := valueOfUptoRow.holds Tryd.pinned (OpenSpec.upto valueOfSpec)

/-- 'riverbanklaw14.ValueFollows', WHERE WHAT IT READS IS OF BULK AT MOST 1048576: true; the input reads as it did. -/
def valueFollowsUptoRow : OpenClaim := { program := "ytkejhebicibjlaadoor", sum := "9961c8f10f34310e726504b9a85da17636a5208df3aeb5e792549129e2843d62", func := "riverbank/riverbanklaw14.ValueFollows", spec := "valueFollows", inPlace := ["internal/bytealg.IndexByteString"], unfollowed := true, recurses := true, named := ["math/bits.deBruijn64tab"], apart := false, laid := [("math/bits.deBruijn64tab", laid_math_bits_deBruijn64tab)], narrowed := true }
def ValueFollowsUptoSaid : Prop := valueFollowsUptoRow.holds Tryd.pinned (OpenSpec.upto valueFollowsSpec)

/-- 'riverbanklaw14.ValueTurn', WHERE WHAT IT READS IS OF BULK AT MOST 1048576: true; the input reads as it did. -/
def valueTurnUptoRow : OpenClaim := { program := "ytkejhebicibjlaadoor", sum := "9961c8f10f34310e726504b9a85da17636a5208df3aeb5e792549129e2843d62", func := "riverbank/riverbanklaw14.ValueTurn", spec := "valueTurn", inPlace := ["internal/bytealg.IndexByteString"], unfollowed := true, recurses := true, named := ["math/bits.deBruijn64tab"], apart := false, laid := [("math/bits.deBruijn64tab", laid_math_bits_deBruijn64tab)], narrowed := true }
def ValueTurnUptoSaid : Prop := valueTurnUptoRow.holds Tryd.pinned (OpenSpec.upto valueTurnSpec)

/-- 'riverbanklaw14.ValueAdds', WHERE WHAT IT READS IS OF BULK AT MOST 1048576: true; the input reads as it did. -/
def valueAddsUptoRow : OpenClaim := { program := "ytkejhebicibjlaadoor", sum := "9961c8f10f34310e726504b9a85da17636a5208df3aeb5e792549129e2843d62", func := "riverbank/riverbanklaw14.ValueAdds", spec := "valueAdds", inPlace := ["internal/bytealg.IndexByteString"], unfollowed := true, recurses := true, named := ["math/bits.deBruijn64tab"], apart := false, laid := [("math/bits.deBruijn64tab", laid_math_bits_deBruijn64tab)], narrowed := true }
def ValueAddsUptoSaid : Prop := valueAddsUptoRow.holds Tryd.pinned (OpenSpec.upto valueAddsSpec)

/-- 'riverbanklaw14.ValueLeast', WHERE WHAT IT READS IS OF BULK AT MOST 1048576: true; the input reads as it did. -/
def valueLeastUptoRow : OpenClaim := { program := "ytkejhebicibjlaadoor", sum := "9961c8f10f34310e726504b9a85da17636a5208df3aeb5e792549129e2843d62", func := "riverbank/riverbanklaw14.ValueLeast", spec := "valueLeast", inPlace := ["internal/bytealg.IndexByteString"], unfollowed := true, recurses := true, named := ["math/bits.deBruijn64tab"], apart := false, laid := [("math/bits.deBruijn64tab", laid_math_bits_deBruijn64tab)], narrowed := true }
def ValueLeastUptoSaid : Prop := valueLeastUptoRow.holds Tryd.pinned (OpenSpec.upto valueLeastSpec)

end Rows
end Go.Proofs.YtkejhebicibjlaaDoor
