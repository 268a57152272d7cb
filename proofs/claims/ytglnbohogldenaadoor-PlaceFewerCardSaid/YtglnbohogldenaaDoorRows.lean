/-
  NARROWER THAN 'FOR EVERY INPUT', by the rows' own cells (each row's printed sentence says how): PlaceMays: laid · PlaceChecks: laid · PlaceTurn: laid · PlaceInside: laid · PlaceFewer: laid · PlaceMore: laid.
  DERIVED. THE GIVEN ROWS OF THIS SEAT. 6 by the template 'for every input the law returns true; each argument reads behind the call as it read before'; 0 by the template 'total and deterministic' (their statements: YtglnbohogldenaaDoorTotals.lean).
  GIVEN WITH THE SEED: the statements are not yours to turn. If you find one false, say at which input.
  Laid BY PROGRAM, IN A SANDBOX (cutbox-rows.mjs): the forced cells as the released guide's own fill.sh prints them over the translation 9e374d2d1397a5e9… (all of the seat's roots in one cut). By AI agents, Wed Nov 11 2026. No macro, syntax, notation, axiom, sorry.
-/
import Derived.Test.YtglnbohogldenaaDoorChecked
import GoSem.Claim
import GoSem.ClaimJoined
import GoSem.ClaimMapViews
import Derived.JoinedTies
import Derived.KernelRfl
namespace Go.Proofs.YtglnbohogldenaaDoor
/- THE CELL 'sum', in the pinned program and in every row, IS THE sha256 OF THE DUMP (.gsa) THAT YtglnbohogldenaaDoorProg.lean LOADS. Nothing in Lean hashes anything: it is a label: what it is worth is what the hold of that sum in a sandbox is worth. -/
noncomputable def Tryd.pinned : Pinned := { name := "ytglnbohogldenaadoor", sum := "9e374d2d1397a5e98fb2d17219a1f958ceff8609bbcedb5d10ba0aee5ec76c31", checked := Tryd.checked }
namespace Rows
def none {H : Type} : Left H := { results := [], args := [] }

/- WHAT THE LISTED PACKAGE-LEVEL VARIABLES READ AS WHEN THE CALL BEGINS. Each datum BY PROGRAM (the guide's laid-datum.mjs) off the statement by which the dump's own 'gosem.cut.vars' lays the variable. In a bare row this is a premise. The card (YtglnbohogldenaaDoorCards.lean) ties it to the program's text. -/
def laid_math_bits_deBruijn64tab {H : Type} : DataW H := .agg [.lit (.int .u8 0), .lit (.int .u8 1), .lit (.int .u8 56), .lit (.int .u8 2), .lit (.int .u8 57), .lit (.int .u8 49), .lit (.int .u8 28), .lit (.int .u8 3), .lit (.int .u8 61), .lit (.int .u8 58), .lit (.int .u8 42), .lit (.int .u8 50), .lit (.int .u8 38), .lit (.int .u8 29), .lit (.int .u8 17), .lit (.int .u8 4), .lit (.int .u8 62), .lit (.int .u8 47), .lit (.int .u8 59), .lit (.int .u8 36), .lit (.int .u8 45), .lit (.int .u8 43), .lit (.int .u8 51), .lit (.int .u8 22), .lit (.int .u8 53), .lit (.int .u8 39), .lit (.int .u8 33), .lit (.int .u8 30), .lit (.int .u8 24), .lit (.int .u8 18), .lit (.int .u8 12), .lit (.int .u8 5), .lit (.int .u8 63), .lit (.int .u8 55), .lit (.int .u8 48), .lit (.int .u8 27), .lit (.int .u8 60), .lit (.int .u8 41), .lit (.int .u8 37), .lit (.int .u8 16), .lit (.int .u8 46), .lit (.int .u8 35), .lit (.int .u8 44), .lit (.int .u8 21), .lit (.int .u8 52), .lit (.int .u8 32), .lit (.int .u8 23), .lit (.int .u8 11), .lit (.int .u8 54), .lit (.int .u8 26), .lit (.int .u8 40), .lit (.int .u8 15), .lit (.int .u8 34), .lit (.int .u8 20), .lit (.int .u8 31), .lit (.int .u8 10), .lit (.int .u8 25), .lit (.int .u8 14), .lit (.int .u8 19), .lit (.int .u8 9), .lit (.int .u8 13), .lit (.int .u8 8), .lit (.int .u8 7), .lit (.int .u8 6)]

/-- 'riverbanklaw03.PlaceMays': WHATEVER THE INPUT: true; the input reads as it did. -/
def placeMaysSpec : ChangeSpec := { name := "placeMays", fn := fun _ => fun
  | [d1, d2, d3] => { results := [.lit (.bool true)], args := [d1, d2, d3] }
  | _ => none }
def placeMaysRow : OpenClaim := { program := "ytglnbohogldenaadoor", sum := "9e374d2d1397a5e98fb2d17219a1f958ceff8609bbcedb5d10ba0aee5ec76c31", func := "riverbank/riverbanklaw03.PlaceMays", spec := "placeMays", inPlace := ["internal/bytealg.IndexByteString"], unfollowed := true, recurses := true, named := ["math/bits.deBruijn64tab"], apart := false, laid := [("math/bits.deBruijn64tab", laid_math_bits_deBruijn64tab)] }
def PlaceMaysSaid : Prop := placeMaysRow.holds Tryd.pinned (OpenSpec.ofChange placeMaysSpec)

/-- ITS FALSE NEIGHBOUR: 'it returns false'. Refute it at one input. -/
def placeMaysWrong : ChangeSpec := { name := "placeMays", fn := fun _ => fun
  | [d1, d2, d3] => { results := [.lit (.bool false)], args := [d1, d2, d3] }
  | _ => none }
def PlaceMaysWrongFalsely : Prop := placeMaysRow.holds Tryd.pinned (OpenSpec.ofChange placeMaysWrong)

/-- 'riverbanklaw03.PlaceChecks': WHATEVER THE INPUT: true; the input reads as it did. -/
def placeChecksSpec : ChangeSpec := { name := "placeChecks", fn := fun _ => fun
  | [d] => { results := [.lit (.bool true)], args := [d] }
  | _ => none }
def placeChecksRow : OpenClaim := { program := "ytglnbohogldenaadoor", sum := "9e374d2d1397a5e98fb2d17219a1f958ceff8609bbcedb5d10ba0aee5ec76c31", func := "riverbank/riverbanklaw03.PlaceChecks", spec := "placeChecks", inPlace := ["internal/bytealg.IndexByteString"], unfollowed := true, recurses := true, named := ["math/bits.deBruijn64tab"], apart := false, laid := [("math/bits.deBruijn64tab", laid_math_bits_deBruijn64tab)] }
def PlaceChecksSaid : Prop := placeChecksRow.holds Tryd.pinned (OpenSpec.ofChange placeChecksSpec)

/-- ITS FALSE NEIGHBOUR: 'it returns false'. Refute it at one input. -/
def placeChecksWrong : ChangeSpec := { name := "placeChecks", fn := fun _ => fun
  | [d] => { results := [.lit (.bool false)], args := [d] }
  | _ => none }
def PlaceChecksWrongFalsely : Prop := placeChecksRow.holds Tryd.pinned (OpenSpec.ofChange placeChecksWrong)

/-- 'riverbanklaw03.PlaceTurn': WHATEVER THE INPUT: true; the input reads as it did. -/
def placeTurnSpec : ChangeSpec := { name := "placeTurn", fn := fun _ => fun
  | [d1, d2] => { results := [.lit (.bool true)], args := [d1, d2] }
  | _ => none }
def placeTurnRow : OpenClaim := { program := "ytglnbohogldenaadoor", sum := "9e374d2d1397a5e98fb2d17219a1f958ceff8609bbcedb5d10ba0aee5ec76c31", func := "riverbank/riverbanklaw03.PlaceTurn", spec := "placeTurn", inPlace := ["internal/bytealg.IndexByteString"], unfollowed := true, recurses := true, named := ["math/bits.deBruijn64tab"], apart := false, laid := [("math/bits.deBruijn64tab", laid_math_bits_deBruijn64tab)] }
def PlaceTurnSaid : Prop := placeTurnRow.holds Tryd.pinned (OpenSpec.ofChange placeTurnSpec)

/-- ITS FALSE NEIGHBOUR: 'it returns false'. Refute it at one input. -/
def placeTurnWrong : ChangeSpec := { name := "placeTurn", fn := fun _ => fun
  | [d1, d2] => { results := [.lit (.bool false)], args := [d1, d2] }
  | _ => none }
def PlaceTurnWrongFalsely : Prop := placeTurnRow.holds Tryd.pinned (OpenSpec.ofChange placeTurnWrong)

/-- 'riverbanklaw03.PlaceInside': WHATEVER THE INPUT: true; the input reads as it did. -/
def placeInsideSpec : ChangeSpec := { name := "placeInside", fn := fun _ => fun
  | [d1, d2] => { results := [.lit (.bool true)], args := [d1, d2] }
  | _ => none }
def placeInsideRow : OpenClaim := { program := "ytglnbohogldenaadoor", sum := "9e374d2d1397a5e98fb2d17219a1f958ceff8609bbcedb5d10ba0aee5ec76c31", func := "riverbank/riverbanklaw03.PlaceInside", spec := "placeInside", inPlace := ["internal/bytealg.IndexByteString"], unfollowed := true, recurses := true, named := ["math/bits.deBruijn64tab"], apart := false, laid := [("math/bits.deBruijn64tab", laid_math_bits_deBruijn64tab)] }
def PlaceInsideSaid : Prop := placeInsideRow.holds Tryd.pinned (OpenSpec.ofChange placeInsideSpec)

/-- ITS FALSE NEIGHBOUR: 'it returns false'. Refute it at one input. -/
def placeInsideWrong : ChangeSpec := { name := "placeInside", fn := fun _ => fun
  | [d1, d2] => { results := [.lit (.bool false)], args := [d1, d2] }
  | _ => none }
def PlaceInsideWrongFalsely : Prop := placeInsideRow.holds Tryd.pinned (OpenSpec.ofChange placeInsideWrong)

/-- 'riverbanklaw03.PlaceFewer': WHATEVER THE INPUT: true; the input reads as it did. -/
def placeFewerSpec : ChangeSpec := { name := "placeFewer", fn := fun _ => fun
  | [d1, d2] => { results := [.lit (.bool true)], args := [d1, d2] }
  | _ => none }
def placeFewerRow : OpenClaim := { program := "ytglnbohogldenaadoor", sum := "9e374d2d1397a5e98fb2d17219a1f958ceff8609bbcedb5d10ba0aee5ec76c31", func := "riverbank/riverbanklaw03.PlaceFewer", spec := "placeFewer", inPlace := ["internal/bytealg.IndexByteString"], unfollowed := true, recurses := true, named := ["math/bits.deBruijn64tab"], apart := false, laid := [("math/bits.deBruijn64tab", laid_math_bits_deBruijn64tab)] }
def PlaceFewerSaid : Prop := placeFewerRow.holds Tryd.pinned (OpenSpec.ofChange placeFewerSpec)

/-- ITS FALSE NEIGHBOUR: 'it returns false'. Refute it at one input. -/
def placeFewerWrong : ChangeSpec := { name := "placeFewer", fn := fun _ => fun
  | [d1, d2] => { results := [.lit (.bool false)], args := [d1, d2] }
  | _ => none }
def PlaceFewerWrongFalsely : Prop := placeFewerRow.holds Tryd.pinned (OpenSpec.ofChange placeFewerWrong)

/-- 'riverbanklaw03.PlaceMore': WHATEVER THE INPUT: true; the input reads as it did. -/
def placeMoreSpec : ChangeSpec := { name := "placeMore", fn := fun _ => fun
  | [d1, d2, d3] => { results := [.lit (.bool true)], args := [d1, d2, d3] }
  | _ => none }
def placeMoreRow : OpenClaim := { program := "ytglnbohogldenaadoor", sum := "9e374d2d1397a5e98fb2d17219a1f958ceff8609bbcedb5d10ba0aee5ec76c31", func := "riverbank/riverbanklaw03.PlaceMore", spec := "placeMore", inPlace := ["internal/bytealg.IndexByteString"], unfollowed := true, recurses := true, named := ["math/bits.deBruijn64tab"], apart := false, laid := [("math/bits.deBruijn64tab", laid_math_bits_deBruijn64tab)] }
def PlaceMoreSaid : Prop := placeMoreRow.holds Tryd.pinned (OpenSpec.ofChange placeMoreSpec)

/-- ITS FALSE NEIGHBOUR: 'it returns false'. Refute it at one input. -/
def placeMoreWrong : ChangeSpec := { name := "placeMore", fn := fun _ => fun
  | [d1, d2, d3] => { results := [.lit (.bool false)], args := [d1, d2, d3] }
  | _ => none }
def PlaceMoreWrongFalsely : Prop := placeMoreRow.holds Tryd.pinned (OpenSpec.ofChange placeMoreWrong)

/- THE SECOND FORM. 'bulk': how many values and letters a reading holds, each counted each time it is reached (what is shared counts as often as it is met; a slice's spare places count too). A statement '..UptoSaid' is the law's where the arguments, and the package variables that the reading takes, are together of bulk at most 1048576: NARROWER than '..Said'. Prove '..Said' where nothing that the law and all that it calls make is longer than what came in: it says more and counts as full. Else prove '..UptoSaid'. A law counts once. -/
mutual
def uptoBulk {H : Type} : DataW H → Nat
  | .lit (.string bytes) => bytes.length + 1
  | .lit _ => 1
  | .nil => 1
  | .ptr d => uptoBulk d + 1
  | .slice elems spare => uptoBulkAll elems + uptoBulkAll spare + 1
  | .agg parts => uptoBulkAll parts + 1
  | .iface _ d => uptoBulk d + 1
  | .map entries => uptoBulkEntries entries + 1
  | .held _ => 1
def uptoBulkAll {H : Type} : List (DataW H) → Nat
  | [] => 0
  | d :: r => uptoBulk d + uptoBulkAll r
def uptoBulkEntries {H : Type} : List (Lit × DataW H) → Nat
  | [] => 0
  | x :: r => uptoBulkEntry x + uptoBulkEntries r
def uptoBulkEntry {H : Type} : Lit × DataW H → Nat
  | (.string bytes, d) => bytes.length + uptoBulk d + 1
  | (_, d) => uptoBulk d + 1
 end
def uptoSmall : (H : Type) → List (DataW H) → Bool := fun _ ds => decide (uptoBulkAll ds ≤ 1048576)
def OpenSpec.upto (s : _root_.Go.ChangeSpec) : _root_.Go.OpenSpec := { _root_.Go.OpenSpec.ofChange s with cond := some uptoSmall }

/-- 'riverbanklaw03.PlaceMays', WHERE WHAT IT READS IS OF BULK AT MOST 1048576: true; the input reads as it did. -/
def placeMaysUptoRow : OpenClaim := { program := "ytglnbohogldenaadoor", sum := "9e374d2d1397a5e98fb2d17219a1f958ceff8609bbcedb5d10ba0aee5ec76c31", func := "riverbank/riverbanklaw03.PlaceMays", spec := "placeMays", inPlace := ["internal/bytealg.IndexByteString"], unfollowed := true, recurses := true, named := ["math/bits.deBruijn64tab"], apart := false, laid := [("math/bits.deBruijn64tab", laid_math_bits_deBruijn64tab)], narrowed := true }
def PlaceMaysUptoSaid : Prop := placeMaysUptoRow.holds Tryd.pinned (OpenSpec.upto placeMaysSpec)

/-- 'riverbanklaw03.PlaceChecks', WHERE WHAT IT READS IS OF BULK AT MOST 1048576: true; the input reads as it did. -/
def placeChecksUptoRow : OpenClaim := { program := "ytglnbohogldenaadoor", sum := "9e374d2d1397a5e98fb2d17219a1f958ceff8609bbcedb5d10ba0aee5ec76c31", func := "riverbank/riverbanklaw03.PlaceChecks", spec := "placeChecks", inPlace := ["internal/bytealg.IndexByteString"], unfollowed := true, recurses := true, named := ["math/bits.deBruijn64tab"], apart := false, laid := [("math/bits.deBruijn64tab", laid_math_bits_deBruijn64tab)], narrowed := true }
def PlaceChecksUptoSaid : Prop := placeChecksUptoRow.holds Tryd.pinned (OpenSpec.upto placeChecksSpec)

/-- 'riverbanklaw03.PlaceTurn', WHERE WHAT IT READS IS OF BULK AT MOST 1048576: true; the input reads as it did. -/
def placeTurnUptoRow : OpenClaim := { program := "ytglnbohogldenaadoor", sum := "9e374d2d1397a5e98fb2d17219a1f958ceff8609bbcedb5d10ba0aee5ec76c31", func := "riverbank/riverbanklaw03.PlaceTurn", spec := "placeTurn", inPlace := ["internal/bytealg.IndexByteString"], unfollowed := true, recurses := true, named := ["math/bits.deBruijn64tab"], apart := false, laid := [("math/bits.deBruijn64tab", laid_math_bits_deBruijn64tab)], narrowed := true }
def PlaceTurnUptoSaid : Prop := placeTurnUptoRow.holds Tryd.pinned (OpenSpec.upto placeTurnSpec)

/-- 'riverbanklaw03.PlaceInside', WHERE WHAT IT READS IS OF BULK AT MOST 1048576: true; the input reads as it did. -/
def placeInsideUptoRow : OpenClaim := { program := "ytglnbohogldenaadoor", sum := "9e374d2d1397a5e98fb2d17219a1f958ceff8609bbcedb5d10ba0aee5ec76c31", func := "riverbank/riverbanklaw03.PlaceInside", spec := "placeInside", inPlace := ["internal/bytealg.IndexByteString"], unfollowed := true, recurses := true, named := ["math/bits.deBruijn64tab"], apart := false, laid := [("math/bits.deBruijn64tab", laid_math_bits_deBruijn64tab)], narrowed := true }
def PlaceInsideUptoSaid : Prop := placeInsideUptoRow.holds Tryd.pinned (OpenSpec.upto placeInsideSpec)

/-- 'riverbanklaw03.PlaceFewer', WHERE WHAT IT READS IS OF BULK AT MOST 1048576: true; the input reads as it did. -/
def placeFewerUptoRow : OpenClaim := { program := "ytglnbohogldenaadoor", sum := "9e374d2d1397a5e98fb2d17219a1f958ceff8609bbcedb5d10ba0aee5ec76c31", func := "riverbank/riverbanklaw03.PlaceFewer", spec := "placeFewer", inPlace := ["internal/bytealg.IndexByteString"], unfollowed := true, recurses := true, named := ["math/bits.deBruijn64tab"], apart := false, laid := [("math/bits.deBruijn64tab", laid_math_bits_deBruijn64tab)], narrowed := true }
def PlaceFewerUptoSaid : Prop := placeFewerUptoRow.holds Tryd.pinned (OpenSpec.upto placeFewerSpec)

/-- 'riverbanklaw03.PlaceMore', WHERE WHAT IT READS IS OF BULK AT MOST 1048576: true; the input reads as it did. -/
def placeMoreUptoRow : OpenClaim := { program := "ytglnbohogldenaadoor", sum := "9e374d2d1397a5e98fb2d17219a1f958ceff8609bbcedb5d10ba0aee5ec76c31", func := "riverbank/riverbanklaw03.PlaceMore", spec := "placeMore", inPlace := ["internal/bytealg.IndexByteString"], unfollowed := true, recurses := true, named := ["math/bits.deBruijn64tab"], apart := false, laid := [("math/bits.deBruijn64tab", laid_math_bits_deBruijn64tab)], narrowed := true }
def PlaceMoreUptoSaid : Prop := placeMoreUptoRow.holds Tryd.pinned (OpenSpec.upto placeMoreSpec)

end Rows
end Go.Proofs.YtglnbohogldenaaDoor
