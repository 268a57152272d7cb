/-
  NARROWER THAN 'FOR EVERY INPUT', by the rows' own cells (each row's printed sentence says how): PseudoMoves: laid · PseudoApplies: laid · PseudoRight: laid · PseudoTurn: laid · PseudoSide: laid · PseudoCaptures: laid · CheckAttacks: laid · CheckWell: laid · CheckTakes: laid · CheckTurn: laid · CheckBetween: laid · CheckWhere: laid · CheckRight: laid.
  DERIVED. THE GIVEN ROWS OF THIS SEAT. 13 by the template 'for every input the law returns true; each argument reads behind the call as it read before'; 0 by the template 'total and deterministic' (their statements: YtbfkkedcjodceaaDoorTotals.lean).
  GIVEN WITH THE SEED: the statements are not yours to turn. If you find one false, say at which input.
  Laid BY PROGRAM, IN A SANDBOX (cutbox-rows.mjs): the forced cells as the released guide's own fill.sh prints them over the translation 0f9ea6762a994845… (all of the seat's roots in one cut). By AI agents, Wed Nov 11 2026. No macro, syntax, notation, axiom, sorry.
-/
import Derived.Test.YtbfkkedcjodceaaDoorChecked
import GoSem.Claim
import GoSem.ClaimJoined
import GoSem.ClaimMapViews
import Derived.JoinedTies
import Derived.KernelRfl
namespace Go.Proofs.YtbfkkedcjodceaaDoor
/- THE CELL 'sum', in the pinned program and in every row, IS THE sha256 OF THE DUMP (.gsa) THAT YtbfkkedcjodceaaDoorProg.lean LOADS. Nothing in Lean hashes anything: it is a label: what it is worth is what the hold of that sum in a sandbox is worth. -/
noncomputable def Tryd.pinned : Pinned := { name := "ytbfkkedcjodceaadoor", sum := "0f9ea6762a9948450b925d657e994744b91ab8f44a408784448da5ae41b67129", checked := Tryd.checked }
namespace Rows
def none {H : Type} : Left H := { results := [], args := [] }

/- WHAT THE LISTED PACKAGE-LEVEL VARIABLES READ AS WHEN THE CALL BEGINS. Each datum BY PROGRAM (the guide's laid-datum.mjs) off the statement by which the dump's own 'gosem.cut.vars' lays the variable. In a bare row this is a premise. The card (YtbfkkedcjodceaaDoorCards.lean) ties it to the program's text. -/
def laid_math_bits_deBruijn64tab {H : Type} : DataW H := .agg [.lit (.int .u8 0), .lit (.int .u8 1), .lit (.int .u8 56), .lit (.int .u8 2), .lit (.int .u8 57), .lit (.int .u8 49), .lit (.int .u8 28), .lit (.int .u8 3), .lit (.int .u8 61), .lit (.int .u8 58), .lit (.int .u8 42), .lit (.int .u8 50), .lit (.int .u8 38), .lit (.int .u8 29), .lit (.int .u8 17), .lit (.int .u8 4), .lit (.int .u8 62), .lit (.int .u8 47), .lit (.int .u8 59), .lit (.int .u8 36), .lit (.int .u8 45), .lit (.int .u8 43), .lit (.int .u8 51), .lit (.int .u8 22), .lit (.int .u8 53), .lit (.int .u8 39), .lit (.int .u8 33), .lit (.int .u8 30), .lit (.int .u8 24), .lit (.int .u8 18), .lit (.int .u8 12), .lit (.int .u8 5), .lit (.int .u8 63), .lit (.int .u8 55), .lit (.int .u8 48), .lit (.int .u8 27), .lit (.int .u8 60), .lit (.int .u8 41), .lit (.int .u8 37), .lit (.int .u8 16), .lit (.int .u8 46), .lit (.int .u8 35), .lit (.int .u8 44), .lit (.int .u8 21), .lit (.int .u8 52), .lit (.int .u8 32), .lit (.int .u8 23), .lit (.int .u8 11), .lit (.int .u8 54), .lit (.int .u8 26), .lit (.int .u8 40), .lit (.int .u8 15), .lit (.int .u8 34), .lit (.int .u8 20), .lit (.int .u8 31), .lit (.int .u8 10), .lit (.int .u8 25), .lit (.int .u8 14), .lit (.int .u8 19), .lit (.int .u8 9), .lit (.int .u8 13), .lit (.int .u8 8), .lit (.int .u8 7), .lit (.int .u8 6)]

/-- 'riverbanklaw06.PseudoMoves': WHATEVER THE INPUT: true; the input reads as it did. -/
def pseudoMovesSpec : ChangeSpec := { name := "pseudoMoves", fn := fun _ => fun
  | [d] => { results := [.lit (.bool true)], args := [d] }
  | _ => none }
def pseudoMovesRow : OpenClaim := { program := "ytbfkkedcjodceaadoor", sum := "0f9ea6762a9948450b925d657e994744b91ab8f44a408784448da5ae41b67129", func := "riverbank/riverbanklaw06.PseudoMoves", spec := "pseudoMoves", inPlace := ["internal/bytealg.IndexByteString"], unfollowed := true, recurses := true, named := ["math/bits.deBruijn64tab"], apart := false, laid := [("math/bits.deBruijn64tab", laid_math_bits_deBruijn64tab)] }
def PseudoMovesSaid : Prop := pseudoMovesRow.holds Tryd.pinned (OpenSpec.ofChange pseudoMovesSpec)

/-- ITS FALSE NEIGHBOUR: 'it returns false'. Refute it at one input. -/
def pseudoMovesWrong : ChangeSpec := { name := "pseudoMoves", fn := fun _ => fun
  | [d] => { results := [.lit (.bool false)], args := [d] }
  | _ => none }
def PseudoMovesWrongFalsely : Prop := pseudoMovesRow.holds Tryd.pinned (OpenSpec.ofChange pseudoMovesWrong)

/-- 'riverbanklaw06.PseudoApplies': WHATEVER THE INPUT: true; the input reads as it did. -/
def pseudoAppliesSpec : ChangeSpec := { name := "pseudoApplies", fn := fun _ => fun
  | [d1, d2] => { results := [.lit (.bool true)], args := [d1, d2] }
  | _ => none }
def pseudoAppliesRow : OpenClaim := { program := "ytbfkkedcjodceaadoor", sum := "0f9ea6762a9948450b925d657e994744b91ab8f44a408784448da5ae41b67129", func := "riverbank/riverbanklaw06.PseudoApplies", spec := "pseudoApplies", inPlace := ["internal/bytealg.IndexByteString"], unfollowed := true, recurses := true, named := ["math/bits.deBruijn64tab"], apart := false, laid := [("math/bits.deBruijn64tab", laid_math_bits_deBruijn64tab)] }
def PseudoAppliesSaid : Prop := pseudoAppliesRow.holds Tryd.pinned (OpenSpec.ofChange pseudoAppliesSpec)

/-- ITS FALSE NEIGHBOUR: 'it returns false'. Refute it at one input. -/
def pseudoAppliesWrong : ChangeSpec := { name := "pseudoApplies", fn := fun _ => fun
  | [d1, d2] => { results := [.lit (.bool false)], args := [d1, d2] }
  | _ => none }
def PseudoAppliesWrongFalsely : Prop := pseudoAppliesRow.holds Tryd.pinned (OpenSpec.ofChange pseudoAppliesWrong)

/-- 'riverbanklaw06.PseudoRight': WHATEVER THE INPUT: true; the input reads as it did. -/
def pseudoRightSpec : ChangeSpec := { name := "pseudoRight", fn := fun _ => fun
  | [d] => { results := [.lit (.bool true)], args := [d] }
  | _ => none }
def pseudoRightRow : OpenClaim := { program := "ytbfkkedcjodceaadoor", sum := "0f9ea6762a9948450b925d657e994744b91ab8f44a408784448da5ae41b67129", func := "riverbank/riverbanklaw06.PseudoRight", spec := "pseudoRight", inPlace := ["internal/bytealg.IndexByteString"], unfollowed := true, recurses := true, named := ["math/bits.deBruijn64tab"], apart := false, laid := [("math/bits.deBruijn64tab", laid_math_bits_deBruijn64tab)] }
def PseudoRightSaid : Prop := pseudoRightRow.holds Tryd.pinned (OpenSpec.ofChange pseudoRightSpec)

/-- ITS FALSE NEIGHBOUR: 'it returns false'. Refute it at one input. -/
def pseudoRightWrong : ChangeSpec := { name := "pseudoRight", fn := fun _ => fun
  | [d] => { results := [.lit (.bool false)], args := [d] }
  | _ => none }
def PseudoRightWrongFalsely : Prop := pseudoRightRow.holds Tryd.pinned (OpenSpec.ofChange pseudoRightWrong)

/-- 'riverbanklaw06.PseudoTurn': WHATEVER THE INPUT: true; the input reads as it did. -/
def pseudoTurnSpec : ChangeSpec := { name := "pseudoTurn", fn := fun _ => fun
  | [d] => { results := [.lit (.bool true)], args := [d] }
  | _ => none }
def pseudoTurnRow : OpenClaim := { program := "ytbfkkedcjodceaadoor", sum := "0f9ea6762a9948450b925d657e994744b91ab8f44a408784448da5ae41b67129", func := "riverbank/riverbanklaw06.PseudoTurn", spec := "pseudoTurn", inPlace := ["internal/bytealg.IndexByteString"], unfollowed := true, recurses := true, named := ["math/bits.deBruijn64tab"], apart := false, laid := [("math/bits.deBruijn64tab", laid_math_bits_deBruijn64tab)] }
def PseudoTurnSaid : Prop := pseudoTurnRow.holds Tryd.pinned (OpenSpec.ofChange pseudoTurnSpec)

/-- ITS FALSE NEIGHBOUR: 'it returns false'. Refute it at one input. -/
def pseudoTurnWrong : ChangeSpec := { name := "pseudoTurn", fn := fun _ => fun
  | [d] => { results := [.lit (.bool false)], args := [d] }
  | _ => none }
def PseudoTurnWrongFalsely : Prop := pseudoTurnRow.holds Tryd.pinned (OpenSpec.ofChange pseudoTurnWrong)

/-- 'riverbanklaw06.PseudoSide': WHATEVER THE INPUT: true; the input reads as it did. -/
def pseudoSideSpec : ChangeSpec := { name := "pseudoSide", fn := fun _ => fun
  | [d] => { results := [.lit (.bool true)], args := [d] }
  | _ => none }
def pseudoSideRow : OpenClaim := { program := "ytbfkkedcjodceaadoor", sum := "0f9ea6762a9948450b925d657e994744b91ab8f44a408784448da5ae41b67129", func := "riverbank/riverbanklaw06.PseudoSide", spec := "pseudoSide", inPlace := ["internal/bytealg.IndexByteString"], unfollowed := true, recurses := true, named := ["math/bits.deBruijn64tab"], apart := false, laid := [("math/bits.deBruijn64tab", laid_math_bits_deBruijn64tab)] }
def PseudoSideSaid : Prop := pseudoSideRow.holds Tryd.pinned (OpenSpec.ofChange pseudoSideSpec)

/-- ITS FALSE NEIGHBOUR: 'it returns false'. Refute it at one input. -/
def pseudoSideWrong : ChangeSpec := { name := "pseudoSide", fn := fun _ => fun
  | [d] => { results := [.lit (.bool false)], args := [d] }
  | _ => none }
def PseudoSideWrongFalsely : Prop := pseudoSideRow.holds Tryd.pinned (OpenSpec.ofChange pseudoSideWrong)

/-- 'riverbanklaw06.PseudoCaptures': WHATEVER THE INPUT: true; the input reads as it did. -/
def pseudoCapturesSpec : ChangeSpec := { name := "pseudoCaptures", fn := fun _ => fun
  | [d] => { results := [.lit (.bool true)], args := [d] }
  | _ => none }
def pseudoCapturesRow : OpenClaim := { program := "ytbfkkedcjodceaadoor", sum := "0f9ea6762a9948450b925d657e994744b91ab8f44a408784448da5ae41b67129", func := "riverbank/riverbanklaw06.PseudoCaptures", spec := "pseudoCaptures", inPlace := ["internal/bytealg.IndexByteString"], unfollowed := true, recurses := true, named := ["math/bits.deBruijn64tab"], apart := false, laid := [("math/bits.deBruijn64tab", laid_math_bits_deBruijn64tab)] }
def PseudoCapturesSaid : Prop := pseudoCapturesRow.holds Tryd.pinned (OpenSpec.ofChange pseudoCapturesSpec)

/-- ITS FALSE NEIGHBOUR: 'it returns false'. Refute it at one input. -/
def pseudoCapturesWrong : ChangeSpec := { name := "pseudoCaptures", fn := fun _ => fun
  | [d] => { results := [.lit (.bool false)], args := [d] }
  | _ => none }
def PseudoCapturesWrongFalsely : Prop := pseudoCapturesRow.holds Tryd.pinned (OpenSpec.ofChange pseudoCapturesWrong)

/-- 'riverbanklaw07.CheckAttacks': WHATEVER THE INPUT: true; the input reads as it did. -/
def checkAttacksSpec : ChangeSpec := { name := "checkAttacks", fn := fun _ => fun
  | [d1, d2, d3] => { results := [.lit (.bool true)], args := [d1, d2, d3] }
  | _ => none }
def checkAttacksRow : OpenClaim := { program := "ytbfkkedcjodceaadoor", sum := "0f9ea6762a9948450b925d657e994744b91ab8f44a408784448da5ae41b67129", func := "riverbank/riverbanklaw07.CheckAttacks", spec := "checkAttacks", inPlace := ["internal/bytealg.IndexByteString"], unfollowed := true, recurses := true, named := ["math/bits.deBruijn64tab"], apart := false, laid := [("math/bits.deBruijn64tab", laid_math_bits_deBruijn64tab)] }
def CheckAttacksSaid : Prop := checkAttacksRow.holds Tryd.pinned (OpenSpec.ofChange checkAttacksSpec)

/-- ITS FALSE NEIGHBOUR: 'it returns false'. Refute it at one input. -/
def checkAttacksWrong : ChangeSpec := { name := "checkAttacks", fn := fun _ => fun
  | [d1, d2, d3] => { results := [.lit (.bool false)], args := [d1, d2, d3] }
  | _ => none }
def CheckAttacksWrongFalsely : Prop := checkAttacksRow.holds Tryd.pinned (OpenSpec.ofChange checkAttacksWrong)

/-- 'riverbanklaw07.CheckWell': WHATEVER THE INPUT: true; the input reads as it did. -/
def checkWellSpec : ChangeSpec := { name := "checkWell", fn := fun _ => fun
  | [d] => { results := [.lit (.bool true)], args := [d] }
  | _ => none }
def checkWellRow : OpenClaim := { program := "ytbfkkedcjodceaadoor", sum := "0f9ea6762a9948450b925d657e994744b91ab8f44a408784448da5ae41b67129", func := "riverbank/riverbanklaw07.CheckWell", spec := "checkWell", inPlace := ["internal/bytealg.IndexByteString"], unfollowed := true, recurses := true, named := ["math/bits.deBruijn64tab"], apart := false, laid := [("math/bits.deBruijn64tab", laid_math_bits_deBruijn64tab)] }
def CheckWellSaid : Prop := checkWellRow.holds Tryd.pinned (OpenSpec.ofChange checkWellSpec)

/-- ITS FALSE NEIGHBOUR: 'it returns false'. Refute it at one input. -/
def checkWellWrong : ChangeSpec := { name := "checkWell", fn := fun _ => fun
  | [d] => { results := [.lit (.bool false)], args := [d] }
  | _ => none }
def CheckWellWrongFalsely : Prop := checkWellRow.holds Tryd.pinned (OpenSpec.ofChange checkWellWrong)

/-- 'riverbanklaw07.CheckTakes': WHATEVER THE INPUT: true; the input reads as it did. -/
def checkTakesSpec : ChangeSpec := { name := "checkTakes", fn := fun _ => fun
  | [d1, d2] => { results := [.lit (.bool true)], args := [d1, d2] }
  | _ => none }
def checkTakesRow : OpenClaim := { program := "ytbfkkedcjodceaadoor", sum := "0f9ea6762a9948450b925d657e994744b91ab8f44a408784448da5ae41b67129", func := "riverbank/riverbanklaw07.CheckTakes", spec := "checkTakes", inPlace := ["internal/bytealg.IndexByteString"], unfollowed := true, recurses := true, named := ["math/bits.deBruijn64tab"], apart := false, laid := [("math/bits.deBruijn64tab", laid_math_bits_deBruijn64tab)] }
def CheckTakesSaid : Prop := checkTakesRow.holds Tryd.pinned (OpenSpec.ofChange checkTakesSpec)

/-- ITS FALSE NEIGHBOUR: 'it returns false'. Refute it at one input. -/
def checkTakesWrong : ChangeSpec := { name := "checkTakes", fn := fun _ => fun
  | [d1, d2] => { results := [.lit (.bool false)], args := [d1, d2] }
  | _ => none }
def CheckTakesWrongFalsely : Prop := checkTakesRow.holds Tryd.pinned (OpenSpec.ofChange checkTakesWrong)

/-- 'riverbanklaw07.CheckTurn': WHATEVER THE INPUT: true; the input reads as it did. -/
def checkTurnSpec : ChangeSpec := { name := "checkTurn", fn := fun _ => fun
  | [d1, d2] => { results := [.lit (.bool true)], args := [d1, d2] }
  | _ => none }
def checkTurnRow : OpenClaim := { program := "ytbfkkedcjodceaadoor", sum := "0f9ea6762a9948450b925d657e994744b91ab8f44a408784448da5ae41b67129", func := "riverbank/riverbanklaw07.CheckTurn", spec := "checkTurn", inPlace := ["internal/bytealg.IndexByteString"], unfollowed := true, recurses := true, named := ["math/bits.deBruijn64tab"], apart := false, laid := [("math/bits.deBruijn64tab", laid_math_bits_deBruijn64tab)] }
def CheckTurnSaid : Prop := checkTurnRow.holds Tryd.pinned (OpenSpec.ofChange checkTurnSpec)

/-- ITS FALSE NEIGHBOUR: 'it returns false'. Refute it at one input. -/
def checkTurnWrong : ChangeSpec := { name := "checkTurn", fn := fun _ => fun
  | [d1, d2] => { results := [.lit (.bool false)], args := [d1, d2] }
  | _ => none }
def CheckTurnWrongFalsely : Prop := checkTurnRow.holds Tryd.pinned (OpenSpec.ofChange checkTurnWrong)

/-- 'riverbanklaw07.CheckBetween': WHATEVER THE INPUT: true; the input reads as it did. -/
def checkBetweenSpec : ChangeSpec := { name := "checkBetween", fn := fun _ => fun
  | [d1, d2, d3] => { results := [.lit (.bool true)], args := [d1, d2, d3] }
  | _ => none }
def checkBetweenRow : OpenClaim := { program := "ytbfkkedcjodceaadoor", sum := "0f9ea6762a9948450b925d657e994744b91ab8f44a408784448da5ae41b67129", func := "riverbank/riverbanklaw07.CheckBetween", spec := "checkBetween", inPlace := ["internal/bytealg.IndexByteString"], unfollowed := true, recurses := true, named := ["math/bits.deBruijn64tab"], apart := false, laid := [("math/bits.deBruijn64tab", laid_math_bits_deBruijn64tab)] }
def CheckBetweenSaid : Prop := checkBetweenRow.holds Tryd.pinned (OpenSpec.ofChange checkBetweenSpec)

/-- ITS FALSE NEIGHBOUR: 'it returns false'. Refute it at one input. -/
def checkBetweenWrong : ChangeSpec := { name := "checkBetween", fn := fun _ => fun
  | [d1, d2, d3] => { results := [.lit (.bool false)], args := [d1, d2, d3] }
  | _ => none }
def CheckBetweenWrongFalsely : Prop := checkBetweenRow.holds Tryd.pinned (OpenSpec.ofChange checkBetweenWrong)

/-- 'riverbanklaw07.CheckWhere': WHATEVER THE INPUT: true; the input reads as it did. -/
def checkWhereSpec : ChangeSpec := { name := "checkWhere", fn := fun _ => fun
  | [d1, d2, d3] => { results := [.lit (.bool true)], args := [d1, d2, d3] }
  | _ => none }
def checkWhereRow : OpenClaim := { program := "ytbfkkedcjodceaadoor", sum := "0f9ea6762a9948450b925d657e994744b91ab8f44a408784448da5ae41b67129", func := "riverbank/riverbanklaw07.CheckWhere", spec := "checkWhere", inPlace := ["internal/bytealg.IndexByteString"], unfollowed := true, recurses := true, named := ["math/bits.deBruijn64tab"], apart := false, laid := [("math/bits.deBruijn64tab", laid_math_bits_deBruijn64tab)] }
def CheckWhereSaid : Prop := checkWhereRow.holds Tryd.pinned (OpenSpec.ofChange checkWhereSpec)

/-- ITS FALSE NEIGHBOUR: 'it returns false'. Refute it at one input. -/
def checkWhereWrong : ChangeSpec := { name := "checkWhere", fn := fun _ => fun
  | [d1, d2, d3] => { results := [.lit (.bool false)], args := [d1, d2, d3] }
  | _ => none }
def CheckWhereWrongFalsely : Prop := checkWhereRow.holds Tryd.pinned (OpenSpec.ofChange checkWhereWrong)

/-- 'riverbanklaw07.CheckRight': WHATEVER THE INPUT: true; the input reads as it did. -/
def checkRightSpec : ChangeSpec := { name := "checkRight", fn := fun _ => fun
  | [d] => { results := [.lit (.bool true)], args := [d] }
  | _ => none }
def checkRightRow : OpenClaim := { program := "ytbfkkedcjodceaadoor", sum := "0f9ea6762a9948450b925d657e994744b91ab8f44a408784448da5ae41b67129", func := "riverbank/riverbanklaw07.CheckRight", spec := "checkRight", inPlace := ["internal/bytealg.IndexByteString"], unfollowed := true, recurses := true, named := ["math/bits.deBruijn64tab"], apart := false, laid := [("math/bits.deBruijn64tab", laid_math_bits_deBruijn64tab)] }
def CheckRightSaid : Prop := checkRightRow.holds Tryd.pinned (OpenSpec.ofChange checkRightSpec)

/-- ITS FALSE NEIGHBOUR: 'it returns false'. Refute it at one input. -/
def checkRightWrong : ChangeSpec := { name := "checkRight", fn := fun _ => fun
  | [d] => { results := [.lit (.bool false)], args := [d] }
  | _ => none }
def CheckRightWrongFalsely : Prop := checkRightRow.holds Tryd.pinned (OpenSpec.ofChange checkRightWrong)

/- THE SECOND FORM. 'bulk': how many values and letters a reading holds, each counted each time it is reached (what is shared counts as often as it is met; a slice's spare places count too). A statement '..UptoSaid' is the law's where the arguments, and the package variables that the reading takes, are together of bulk at most 1048576: NARROWER than '..Said'. Prove '..Said' where nothing that the law and all that it calls make is longer than what came in: it says more and counts as full. Else prove '..UptoSaid'. A law counts once. -/
mutual
def uptoBulk {H : Type} : DataW H → Nat
  | .lit (.string bytes) => bytes.length + 1
  | .lit _ => 1
  | .nil => 1
  | .ptr d => uptoBulk d + 1
  | .slice elems spare => uptoBulkAll elems + uptoBulkAll spare + 1
  | .agg parts => uptoBulkAll parts + 1
  | .iface _ d => uptoBulk d + 1
  | .map entries => uptoBulkEntries entries + 1
  | .held _ => 1
def uptoBulkAll {H : Type} : List (DataW H) → Nat
  | [] => 0
  | d :: r => uptoBulk d + uptoBulkAll r
def uptoBulkEntries {H : Type} : List (Lit × DataW H) → Nat
  | [] => 0
  | x :: r => uptoBulkEntry x + uptoBulkEntries r
def uptoBulkEntry {H : Type} : Lit × DataW H → Nat
  | (.string bytes, d) => bytes.length + uptoBulk d + 1
  | (_, d) => uptoBulk d + 1
 end
def uptoSmall : (H : Type) → List (DataW H) → Bool := fun _ ds => decide (uptoBulkAll ds ≤ 1048576)
def OpenSpec.upto (s : _root_.Go.ChangeSpec) : _root_.Go.OpenSpec := { _root_.Go.OpenSpec.ofChange s with cond := some uptoSmall }

/-- 'riverbanklaw06.PseudoMoves', WHERE WHAT IT READS IS OF BULK AT MOST 1048576: true; the input reads as it did. -/
def pseudoMovesUptoRow : OpenClaim := { program := "ytbfkkedcjodceaadoor", sum := "0f9ea6762a9948450b925d657e994744b91ab8f44a408784448da5ae41b67129", func := "riverbank/riverbanklaw06.PseudoMoves", spec := "pseudoMoves", inPlace := ["internal/bytealg.IndexByteString"], unfollowed := true, recurses := true, named := ["math/bits.deBruijn64tab"], apart := false, laid := [("math/bits.deBruijn64tab", laid_math_bits_deBruijn64tab)], narrowed := true }
def PseudoMovesUptoSaid : Prop := pseudoMovesUptoRow.holds Tryd.pinned (OpenSpec.upto pseudoMovesSpec)

/-- 'riverbanklaw06.PseudoApplies', WHERE WHAT IT READS IS OF BULK AT MOST 1048576: true; the input reads as it did. -/
def pseudoAppliesUptoRow : OpenClaim := { program := "ytbfkkedcjodceaadoor", sum := "0f9ea6762a9948450b925d657e994744b91ab8f44a408784448da5ae41b67129", func := "riverbank/riverbanklaw06.PseudoApplies", spec := "pseudoApplies", inPlace := ["internal/bytealg.IndexByteString"], unfollowed := true, recurses := true, named := ["math/bits.deBruijn64tab"], apart := false, laid := [("math/bits.deBruijn64tab", laid_math_bits_deBruijn64tab)], narrowed := true }
def PseudoAppliesUptoSaid : Prop := pseudoAppliesUptoRow.holds Tryd.pinned (OpenSpec.upto pseudoAppliesSpec)

/-- 'riverbanklaw06.PseudoRight', WHERE WHAT IT READS IS OF BULK AT MOST 1048576: true; the input reads as it did. -/
def pseudoRightUptoRow : OpenClaim := { program := "ytbfkkedcjodceaadoor", sum := "0f9ea6762a9948450b925d657e994744b91ab8f44a408784448da5ae41b67129", func := "riverbank/riverbanklaw06.PseudoRight", spec := "pseudoRight", inPlace := ["internal/bytealg.IndexByteString"], unfollowed := true, recurses := true, named := ["math/bits.deBruijn64tab"], apart := false, laid := [("math/bits.deBruijn64tab", laid_math_bits_deBruijn64tab)], narrowed := true }
def PseudoRightUptoSaid : Prop := pseudoRightUptoRow.holds Tryd.pinned (OpenSpec.upto pseudoRightSpec)

/-- 'riverbanklaw06.PseudoTurn', WHERE WHAT IT READS IS OF BULK AT MOST 1048576: true; the input reads as it did. -/
def pseudoTurnUptoRow : OpenClaim := { program := "ytbfkkedcjodceaadoor", sum := "0f9ea6762a9948450b925d657e994744b91ab8f44a408784448da5ae41b67129", func := "riverbank/riverbanklaw06.PseudoTurn", spec := "pseudoTurn", inPlace := ["internal/bytealg.IndexByteString"], unfollowed := true, recurses := true, named := ["math/bits.deBruijn64tab"], apart := false, laid := [("math/bits.deBruijn64tab", laid_math_bits_deBruijn64tab)], narrowed := true }
def PseudoTurnUptoSaid : Prop := pseudoTurnUptoRow.holds Tryd.pinned (OpenSpec.upto pseudoTurnSpec)

/-- 'riverbanklaw06.PseudoSide', WHERE WHAT IT READS IS OF BULK AT MOST 1048576: true; the input reads as it did. -/
def pseudoSideUptoRow : OpenClaim := { program := "ytbfkkedcjodceaadoor", sum := "0f9ea6762a9948450b925d657e994744b91ab8f44a408784448da5ae41b67129", func := "riverbank/riverbanklaw06.PseudoSide", spec := "pseudoSide", inPlace := ["internal/bytealg.IndexByteString"], unfollowed := true, recurses := true, named := ["math/bits.deBruijn64tab"], apart := false, laid := [("math/bits.deBruijn64tab", laid_math_bits_deBruijn64tab)], narrowed := true }
def PseudoSideUptoSaid : Prop := pseudoSideUptoRow.holds Tryd.pinned (OpenSpec.upto pseudoSideSpec)

/-- 'riverbanklaw06.PseudoCaptures', WHERE WHAT IT READS IS OF BULK AT MOST 1048576: true; the input reads as it did. -/
def pseudoCapturesUptoRow : OpenClaim := { program := "ytbfkkedcjodceaadoor", sum := "0f9ea6762a9948450b925d657e994744b91ab8f44a408784448da5ae41b67129", func := "riverbank/riverbanklaw06.PseudoCaptures", spec := "pseudoCaptures", inPlace := ["internal/bytealg.IndexByteString"], unfollowed := true, recurses := true, named := ["math/bits.deBruijn64tab"], apart := false, laid := [("math/bits.deBruijn64tab", laid_math_bits_deBruijn64tab)], narrowed := true }
def PseudoCapturesUptoSaid : Prop := pseudoCapturesUptoRow.holds Tryd.pinned (OpenSpec.upto pseudoCapturesSpec)

/-- 'riverbanklaw07.CheckAttacks', WHERE WHAT IT READS IS OF BULK AT MOST 1048576: true; the input reads as it did. -/
def checkAttacksUptoRow : OpenClaim := { program := "ytbfkkedcjodceaadoor", sum := "0f9ea6762a9948450b925d657e994744b91ab8f44a408784448da5ae41b67129", func := "riverbank/riverbanklaw07.CheckAttacks", spec := "checkAttacks", inPlace := ["internal/bytealg.IndexByteString"], unfollowed := true, recurses := true, named := ["math/bits.deBruijn64tab"], apart := false, laid := [("math/bits.deBruijn64tab", laid_math_bits_deBruijn64tab)], narrowed := true }
def CheckAttacksUptoSaid : Prop := checkAttacksUptoRow.holds Tryd.pinned (OpenSpec.upto checkAttacksSpec)

/-- 'riverbanklaw07.CheckWell', WHERE WHAT IT READS IS OF BULK AT MOST 1048576: true; the input reads as it did. -/
def checkWellUptoRow : OpenClaim := { program := "ytbfkkedcjodceaadoor", sum := "0f9ea6762a9948450b925d657e994744b91ab8f44a408784448da5ae41b67129", func := "riverbank/riverbanklaw07.CheckWell", spec := "checkWell", inPlace := ["internal/bytealg.IndexByteString"], unfollowed := true, recurses := true, named := ["math/bits.deBruijn64tab"], apart := false, laid := [("math/bits.deBruijn64tab", laid_math_bits_deBruijn64tab)], narrowed := true }
def CheckWellUptoSaid : Prop := checkWellUptoRow.holds Tryd.pinned (OpenSpec.upto checkWellSpec)

/-- 'riverbanklaw07.CheckTakes', WHERE WHAT IT READS IS OF BULK AT MOST 1048576: true; the input reads as it did. -/
def checkTakesUptoRow : OpenClaim := { program := "ytbfkkedcjodceaadoor", sum := "0f9ea6762a9948450b925d657e994744b91ab8f44a408784448da5ae41b67129", func := "riverbank/riverbanklaw07.CheckTakes", spec := "checkTakes", inPlace := ["internal/bytealg.IndexByteString"], unfollowed := true, recurses := true, named := ["math/bits.deBruijn64tab"], apart := false, laid := [("math/bits.deBruijn64tab", laid_math_bits_deBruijn64tab)], narrowed := true }
def CheckTakesUptoSaid : Prop := checkTakesUptoRow.holds Tryd.pinned (OpenSpec.upto checkTakesSpec)

/-- 'riverbanklaw07.CheckTurn', WHERE WHAT IT READS IS OF BULK AT MOST 1048576: true; the input reads as it did. -/
def checkTurnUptoRow : OpenClaim := { program := "ytbfkkedcjodceaadoor", sum := "0f9ea6762a9948450b925d657e994744b91ab8f44a408784448da5ae41b67129", func := "riverbank/riverbanklaw07.CheckTurn", spec := "checkTurn", inPlace := ["internal/bytealg.IndexByteString"], unfollowed := true, recurses := true, named := ["math/bits.deBruijn64tab"], apart := false, laid := [("math/bits.deBruijn64tab", laid_math_bits_deBruijn64tab)], narrowed := true }
def CheckTurnUptoSaid : Prop := checkTurnUptoRow.holds Tryd.pinned (OpenSpec.upto checkTurnSpec)

/-- 'riverbanklaw07.CheckBetween', WHERE WHAT IT READS IS OF BULK AT MOST 1048576: true; the input reads as it did. -/
def checkBetweenUptoRow : OpenClaim := { program := "ytbfkkedcjodceaadoor", sum := "0f9ea6762a9948450b925d657e994744b91ab8f44a408784448da5ae41b67129", func := "riverbank/riverbanklaw07.CheckBetween", spec := "checkBetween", inPlace := ["internal/bytealg.IndexByteString"], unfollowed := true, recurses := true, named := ["math/bits.deBruijn64tab"], apart := false, laid := [("math/bits.deBruijn64tab", laid_math_bits_deBruijn64tab)], narrowed := true }
def CheckBetweenUptoSaid : Prop := checkBetweenUptoRow.holds Tryd.pinned (OpenSpec.upto checkBetweenSpec)

/-- 'riverbanklaw07.CheckWhere', WHERE WHAT IT READS IS OF BULK AT MOST 1048576: true; the input reads as it did. -/
def checkWhereUptoRow : OpenClaim := { program := "ytbfkkedcjodceaadoor", sum := "0f9ea6762a9948450b925d657e994744b91ab8f44a408784448da5ae41b67129", func := "riverbank/riverbanklaw07.CheckWhere", spec := "checkWhere", inPlace := ["internal/bytealg.IndexByteString"], unfollowed := true, recurses := true, named := ["math/bits.deBruijn64tab"], apart := false, laid := [("math/bits.deBruijn64tab", laid_math_bits_deBruijn64tab)], narrowed := true }
def CheckWhereUptoSaid : Prop := checkWhereUptoRow.holds Tryd.pinned (OpenSpec.upto checkWhereSpec)

/-- 'riverbanklaw07.CheckRight', WHERE WHAT IT READS IS OF BULK AT MOST 1048576: true; the input reads as it did. -/
def checkRightUptoRow : OpenClaim := { program := "ytbfkkedcjodceaadoor", sum := "0f9ea6762a9948450b925d657e994744b91ab8f44a408784448da5ae41b67129", func := "riverbank/riverbanklaw07.CheckRight", spec := "checkRight", inPlace := ["internal/bytealg.IndexByteString"], unfollowed := true, recurses := true, named := ["math/bits.deBruijn64tab"], apart := false, laid := [("math/bits.deBruijn64tab", laid_math_bits_deBruijn64tab)], narrowed := true }
def CheckRightUptoSaid : Prop := checkRightUptoRow.holds Tryd.pinned (OpenSpec.upto checkRightSpec)

end Rows
end Go.Proofs.YtbfkkedcjodceaaDoor
