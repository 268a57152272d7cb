/-
  NARROWER THAN 'FOR EVERY INPUT', by the rows' own cells (each row's printed sentence says how): GuardTells: laid · GuardMoves: laid · GuardAgain: laid · ChaseTells: laid · ChasePlies: laid · ChaseTakes: laid · ChaseTurn: laid · ChaseCheck: laid.
  DERIVED. THE GIVEN ROWS OF THIS SEAT. 8 by the template 'for every input the law returns true; each argument reads behind the call as it read before'; 0 by the template 'total and deterministic' (their statements: YtnpenlmlggpemaaGreatDoorTotals.lean).
  GIVEN WITH THE SEED: the statements are not yours to turn. If you find one false, say at which input.
  Laid BY PROGRAM, IN A SANDBOX (cutbox-rows.mjs): the forced cells as the released guide's own fill.sh prints them over the translation 8b967223a616bf10… (all of the seat's roots in one cut). By AI agents, Wed Nov 11 2026. No macro, syntax, notation, axiom, sorry.
-/
import Derived.Test.YtnpenlmlggpemaaGreatDoorChecked
import GoSem.Claim
import GoSem.ClaimJoined
import GoSem.ClaimMapViews
import Derived.JoinedTies
import Derived.KernelRfl
namespace Go.Proofs.YtnpenlmlggpemaaGreatDoor
/- THE CELL 'sum', in the pinned program and in every row, IS THE sha256 OF THE DUMP (.gsa) THAT YtnpenlmlggpemaaGreatDoorProg.lean LOADS. Nothing in Lean hashes anything: it is a label: what it is worth is what the hold of that sum in a sandbox is worth. -/
noncomputable def Tryz.pinned : Pinned := { name := "ytnpenlmlggpemaagreatdoor", sum := "8b967223a616bf102487314a5242217188635632cb1a8961bf51d44271e4fc79", checked := Tryz.checked }
namespace Rows
def none {H : Type} : Left H := { results := [], args := [] }

/- WHAT THE LISTED PACKAGE-LEVEL VARIABLES READ AS WHEN THE CALL BEGINS. Each datum BY PROGRAM (the guide's laid-datum.mjs) off the statement by which the dump's own 'gosem.cut.vars' lays the variable. In a bare row this is a premise. The card (YtnpenlmlggpemaaGreatDoorCards.lean) ties it to the program's text. -/
def laid_math_bits_deBruijn64tab {H : Type} : DataW H := .agg [.lit (.int .u8 0), .lit (.int .u8 1), .lit (.int .u8 56), .lit (.int .u8 2), .lit (.int .u8 57), .lit (.int .u8 49), .lit (.int .u8 28), .lit (.int .u8 3), .lit (.int .u8 61), .lit (.int .u8 58), .lit (.int .u8 42), .lit (.int .u8 50), .lit (.int .u8 38), .lit (.int .u8 29), .lit (.int .u8 17), .lit (.int .u8 4), .lit (.int .u8 62), .lit (.int .u8 47), .lit (.int .u8 59), .lit (.int .u8 36), .lit (.int .u8 45), .lit (.int .u8 43), .lit (.int .u8 51), .lit (.int .u8 22), .lit (.int .u8 53), .lit (.int .u8 39), .lit (.int .u8 33), .lit (.int .u8 30), .lit (.int .u8 24), .lit (.int .u8 18), .lit (.int .u8 12), .lit (.int .u8 5), .lit (.int .u8 63), .lit (.int .u8 55), .lit (.int .u8 48), .lit (.int .u8 27), .lit (.int .u8 60), .lit (.int .u8 41), .lit (.int .u8 37), .lit (.int .u8 16), .lit (.int .u8 46), .lit (.int .u8 35), .lit (.int .u8 44), .lit (.int .u8 21), .lit (.int .u8 52), .lit (.int .u8 32), .lit (.int .u8 23), .lit (.int .u8 11), .lit (.int .u8 54), .lit (.int .u8 26), .lit (.int .u8 40), .lit (.int .u8 15), .lit (.int .u8 34), .lit (.int .u8 20), .lit (.int .u8 31), .lit (.int .u8 10), .lit (.int .u8 25), .lit (.int .u8 14), .lit (.int .u8 19), .lit (.int .u8 9), .lit (.int .u8 13), .lit (.int .u8 8), .lit (.int .u8 7), .lit (.int .u8 6)]

/-- 'riverbanklaw15.GuardTells': WHATEVER THE INPUT: true; the input reads as it did. -/
def guardTellsSpec : ChangeSpec := { name := "guardTells", fn := fun _ => fun
  | [d1, d2, d3] => { results := [.lit (.bool true)], args := [d1, d2, d3] }
  | _ => none }
def guardTellsRow : OpenClaim := { program := "ytnpenlmlggpemaagreatdoor", sum := "8b967223a616bf102487314a5242217188635632cb1a8961bf51d44271e4fc79", func := "riverbank/riverbanklaw15.GuardTells", spec := "guardTells", inPlace := ["internal/bytealg.IndexByteString"], unfollowed := true, recurses := true, named := ["math/bits.deBruijn64tab"], apart := false, laid := [("math/bits.deBruijn64tab", laid_math_bits_deBruijn64tab)] }
def GuardTellsSaid : Prop := guardTellsRow.holds Tryz.pinned (OpenSpec.ofChange guardTellsSpec)

/-- ITS FALSE NEIGHBOUR: 'it returns false'. Refute it at one input. -/
def guardTellsWrong : ChangeSpec := { name := "guardTells", fn := fun _ => fun
  | [d1, d2, d3] => { results := [.lit (.bool false)], args := [d1, d2, d3] }
  | _ => none }
def GuardTellsWrongFalsely : Prop := guardTellsRow.holds Tryz.pinned (OpenSpec.ofChange guardTellsWrong)

/-- 'riverbanklaw15.GuardMoves': WHATEVER THE INPUT: true; the input reads as it did. -/
def guardMovesSpec : ChangeSpec := { name := "guardMoves", fn := fun _ => fun
  | [d1, d2] => { results := [.lit (.bool true)], args := [d1, d2] }
  | _ => none }
def guardMovesRow : OpenClaim := { program := "ytnpenlmlggpemaagreatdoor", sum := "8b967223a616bf102487314a5242217188635632cb1a8961bf51d44271e4fc79", func := "riverbank/riverbanklaw15.GuardMoves", spec := "guardMoves", inPlace := ["internal/bytealg.IndexByteString"], unfollowed := true, recurses := true, named := ["math/bits.deBruijn64tab"], apart := false, laid := [("math/bits.deBruijn64tab", laid_math_bits_deBruijn64tab)] }
def GuardMovesSaid : Prop := guardMovesRow.holds Tryz.pinned (OpenSpec.ofChange guardMovesSpec)

/-- ITS FALSE NEIGHBOUR: 'it returns false'. Refute it at one input. -/
def guardMovesWrong : ChangeSpec := { name := "guardMoves", fn := fun _ => fun
  | [d1, d2] => { results := [.lit (.bool false)], args := [d1, d2] }
  | _ => none }
def GuardMovesWrongFalsely : Prop := guardMovesRow.holds Tryz.pinned (OpenSpec.ofChange guardMovesWrong)

/-- 'riverbanklaw15.GuardAgain': WHATEVER THE INPUT: true; the input reads as it did. -/
def guardAgainSpec : ChangeSpec := { name := "guardAgain", fn := fun _ => fun
  | [d] => { results := [.lit (.bool true)], args := [d] }
  | _ => none }
def guardAgainRow : OpenClaim := { program := "ytnpenlmlggpemaagreatdoor", sum := "8b967223a616bf102487314a5242217188635632cb1a8961bf51d44271e4fc79", func := "riverbank/riverbanklaw15.GuardAgain", spec := "guardAgain", inPlace := ["internal/bytealg.IndexByteString"], unfollowed := true, recurses := true, named := ["math/bits.deBruijn64tab"], apart := false, laid := [("math/bits.deBruijn64tab", laid_math_bits_deBruijn64tab)] }
def GuardAgainSaid : Prop := guardAgainRow.holds Tryz.pinned (OpenSpec.ofChange guardAgainSpec)

/-- ITS FALSE NEIGHBOUR: 'it returns false'. Refute it at one input. -/
def guardAgainWrong : ChangeSpec := { name := "guardAgain", fn := fun _ => fun
  | [d] => { results := [.lit (.bool false)], args := [d] }
  | _ => none }
def GuardAgainWrongFalsely : Prop := guardAgainRow.holds Tryz.pinned (OpenSpec.ofChange guardAgainWrong)

/-- 'riverbanklaw16.ChaseTells': WHATEVER THE INPUT: true; the input reads as it did. -/
def chaseTellsSpec : ChangeSpec := { name := "chaseTells", fn := fun _ => fun
  | [d1, d2, d3] => { results := [.lit (.bool true)], args := [d1, d2, d3] }
  | _ => none }
def chaseTellsRow : OpenClaim := { program := "ytnpenlmlggpemaagreatdoor", sum := "8b967223a616bf102487314a5242217188635632cb1a8961bf51d44271e4fc79", func := "riverbank/riverbanklaw16.ChaseTells", spec := "chaseTells", inPlace := ["internal/bytealg.IndexByteString"], unfollowed := true, recurses := true, named := ["math/bits.deBruijn64tab"], apart := false, laid := [("math/bits.deBruijn64tab", laid_math_bits_deBruijn64tab)] }
def ChaseTellsSaid : Prop := chaseTellsRow.holds Tryz.pinned (OpenSpec.ofChange chaseTellsSpec)

/-- ITS FALSE NEIGHBOUR: 'it returns false'. Refute it at one input. -/
def chaseTellsWrong : ChangeSpec := { name := "chaseTells", fn := fun _ => fun
  | [d1, d2, d3] => { results := [.lit (.bool false)], args := [d1, d2, d3] }
  | _ => none }
def ChaseTellsWrongFalsely : Prop := chaseTellsRow.holds Tryz.pinned (OpenSpec.ofChange chaseTellsWrong)

/-- 'riverbanklaw16.ChasePlies': WHATEVER THE INPUT: true; the input reads as it did. -/
def chasePliesSpec : ChangeSpec := { name := "chasePlies", fn := fun _ => fun
  | [d] => { results := [.lit (.bool true)], args := [d] }
  | _ => none }
def chasePliesRow : OpenClaim := { program := "ytnpenlmlggpemaagreatdoor", sum := "8b967223a616bf102487314a5242217188635632cb1a8961bf51d44271e4fc79", func := "riverbank/riverbanklaw16.ChasePlies", spec := "chasePlies", inPlace := ["internal/bytealg.IndexByteString"], unfollowed := true, recurses := true, named := ["math/bits.deBruijn64tab"], apart := false, laid := [("math/bits.deBruijn64tab", laid_math_bits_deBruijn64tab)] }
def ChasePliesSaid : Prop := chasePliesRow.holds Tryz.pinned (OpenSpec.ofChange chasePliesSpec)

/-- ITS FALSE NEIGHBOUR: 'it returns false'. Refute it at one input. -/
def chasePliesWrong : ChangeSpec := { name := "chasePlies", fn := fun _ => fun
  | [d] => { results := [.lit (.bool false)], args := [d] }
  | _ => none }
def ChasePliesWrongFalsely : Prop := chasePliesRow.holds Tryz.pinned (OpenSpec.ofChange chasePliesWrong)

/-- 'riverbanklaw16.ChaseTakes': WHATEVER THE INPUT: true; the input reads as it did. -/
def chaseTakesSpec : ChangeSpec := { name := "chaseTakes", fn := fun _ => fun
  | [d1, d2] => { results := [.lit (.bool true)], args := [d1, d2] }
  | _ => none }
def chaseTakesRow : OpenClaim := { program := "ytnpenlmlggpemaagreatdoor", sum := "8b967223a616bf102487314a5242217188635632cb1a8961bf51d44271e4fc79", func := "riverbank/riverbanklaw16.ChaseTakes", spec := "chaseTakes", inPlace := ["internal/bytealg.IndexByteString"], unfollowed := true, recurses := true, named := ["math/bits.deBruijn64tab"], apart := false, laid := [("math/bits.deBruijn64tab", laid_math_bits_deBruijn64tab)] }
def ChaseTakesSaid : Prop := chaseTakesRow.holds Tryz.pinned (OpenSpec.ofChange chaseTakesSpec)

/-- ITS FALSE NEIGHBOUR: 'it returns false'. Refute it at one input. -/
def chaseTakesWrong : ChangeSpec := { name := "chaseTakes", fn := fun _ => fun
  | [d1, d2] => { results := [.lit (.bool false)], args := [d1, d2] }
  | _ => none }
def ChaseTakesWrongFalsely : Prop := chaseTakesRow.holds Tryz.pinned (OpenSpec.ofChange chaseTakesWrong)

/-- 'riverbanklaw16.ChaseTurn': WHATEVER THE INPUT: true; the input reads as it did. -/
def chaseTurnSpec : ChangeSpec := { name := "chaseTurn", fn := fun _ => fun
  | [d] => { results := [.lit (.bool true)], args := [d] }
  | _ => none }
def chaseTurnRow : OpenClaim := { program := "ytnpenlmlggpemaagreatdoor", sum := "8b967223a616bf102487314a5242217188635632cb1a8961bf51d44271e4fc79", func := "riverbank/riverbanklaw16.ChaseTurn", spec := "chaseTurn", inPlace := ["internal/bytealg.IndexByteString"], unfollowed := true, recurses := true, named := ["math/bits.deBruijn64tab"], apart := false, laid := [("math/bits.deBruijn64tab", laid_math_bits_deBruijn64tab)] }
def ChaseTurnSaid : Prop := chaseTurnRow.holds Tryz.pinned (OpenSpec.ofChange chaseTurnSpec)

/-- ITS FALSE NEIGHBOUR: 'it returns false'. Refute it at one input. -/
def chaseTurnWrong : ChangeSpec := { name := "chaseTurn", fn := fun _ => fun
  | [d] => { results := [.lit (.bool false)], args := [d] }
  | _ => none }
def ChaseTurnWrongFalsely : Prop := chaseTurnRow.holds Tryz.pinned (OpenSpec.ofChange chaseTurnWrong)

/-- 'riverbanklaw16.ChaseCheck': WHATEVER THE INPUT: true; the input reads as it did. -/
def chaseCheckSpec : ChangeSpec := { name := "chaseCheck", fn := fun _ => fun
  | [d] => { results := [.lit (.bool true)], args := [d] }
  | _ => none }
def chaseCheckRow : OpenClaim := { program := "ytnpenlmlggpemaagreatdoor", sum := "8b967223a616bf102487314a5242217188635632cb1a8961bf51d44271e4fc79", func := "riverbank/riverbanklaw16.ChaseCheck", spec := "chaseCheck", inPlace := ["internal/bytealg.IndexByteString"], unfollowed := true, recurses := true, named := ["math/bits.deBruijn64tab"], apart := false, laid := [("math/bits.deBruijn64tab", laid_math_bits_deBruijn64tab)] }
def ChaseCheckSaid : Prop := chaseCheckRow.holds Tryz.pinned (OpenSpec.ofChange chaseCheckSpec)

/-- ITS FALSE NEIGHBOUR: 'it returns false'. Refute it at one input. -/
def chaseCheckWrong : ChangeSpec := { name := "chaseCheck", fn := fun _ => fun
  | [d] => { results := [.lit (.bool false)], args := [d] }
  | _ => none }
def ChaseCheckWrongFalsely : Prop := chaseCheckRow.holds Tryz.pinned (OpenSpec.ofChange chaseCheckWrong)

/- THE SECOND FORM. 'bulk': how many values and letters a reading holds, each counted each time it is reached (what is shared counts as often as it is met; a slice's spare places count too). A statement '..UptoSaid' is the law's where the arguments, and the package variables that the reading takes, are together of bulk at most 1048576: NARROWER than '..Said'. Prove '..Said' where nothing that the law and all that it calls make is longer than what came in: it says more and counts as full. Else prove '..UptoSaid'. A law counts once. -/
mutual
def uptoBulk {H : Type} : DataW H → Nat
  | .lit (.string bytes) => bytes.length + 1
  | .lit _ => 1
  | .nil => 1
  | .ptr d => uptoBulk d + 1
  | .slice elems spare => uptoBulkAll elems + uptoBulkAll spare + 1
  | .agg parts => uptoBulkAll parts + 1
  | .iface _ d => uptoBulk d + 1
  | .map entries => uptoBulkEntries entries + 1
  | .held _ => 1
def uptoBulkAll {H : Type} : List (DataW H) → Nat
  | [] => 0
  | d :: r => uptoBulk d + uptoBulkAll r
def uptoBulkEntries {H : Type} : List (Lit × DataW H) → Nat
  | [] => 0
  | x :: r => uptoBulkEntry x + uptoBulkEntries r
def uptoBulkEntry {H : Type} : Lit × DataW H → Nat
  | (.string bytes, d) => bytes.length + uptoBulk d + 1
  | (_, d) => uptoBulk d + 1
 end
def uptoSmall : (H : Type) → List (DataW H) → Bool := fun _ ds => decide (uptoBulkAll ds ≤ 1048576)
def OpenSpec.upto (s : _root_.Go.ChangeSpec) : _root_.Go.OpenSpec := { _root_.Go.OpenSpec.ofChange s with cond := some uptoSmall }

/-- 'riverbanklaw15.GuardTells', WHERE WHAT IT READS IS OF BULK AT MOST 1048576: true; the input reads as it did. -/
def guardTellsUptoRow : OpenClaim := { program := "ytnpenlmlggpemaagreatdoor", sum := "8b967223a616bf102487314a5242217188635632cb1a8961bf51d44271e4fc79", func := "riverbank/riverbanklaw15.GuardTells", spec := "guardTells", inPlace := ["internal/bytealg.IndexByteString"], unfollowed := true, recurses := true, named := ["math/bits.deBruijn64tab"], apart := false, laid := [("math/bits.deBruijn64tab", laid_math_bits_deBruijn64tab)], narrowed := true }
def GuardTellsUptoSaid : Prop := guardTellsUptoRow.holds Tryz.pinned (OpenSpec.upto guardTellsSpec)

/-- 'riverbanklaw15.GuardMoves', WHERE WHAT IT READS IS OF BULK AT MOST 1048576: true; the input reads as it did. -/
def guardMovesUptoRow : OpenClaim := { program := "ytnpenlmlggpemaagreatdoor", sum := "8b967223a616bf102487314a5242217188635632cb1a8961bf51d44271e4fc79", func := "riverbank/riverbanklaw15.GuardMoves", spec := "guardMoves", inPlace := ["internal/bytealg.IndexByteString"], unfollowed := true, recurses := true, named := ["math/bits.deBruijn64tab"], apart := false, laid := [("math/bits.deBruijn64tab", laid_math_bits_deBruijn64tab)], narrowed := true }
def GuardMovesUptoSaid : Prop := guardMovesUptoRow.holds Tryz.pinned (OpenSpec.upto guardMovesSpec)

/-- 'riverbanklaw15.GuardAgain', WHERE WHAT IT READS IS OF BULK AT MOST 1048576: true; the input reads as it did. -/
def guardAgainUptoRow : OpenClaim := { program := "ytnpenlmlggpemaagreatdoor", sum := "8b967223a616bf102487314a5242217188635632cb1a8961bf51d44271e4fc79", func := "riverbank/riverbanklaw15.GuardAgain", spec := "guardAgain", inPlace := ["internal/bytealg.IndexByteString"], unfollowed := true, recurses := true, named := ["math/bits.deBruijn64tab"], apart := false, laid := [("math/bits.deBruijn64tab", laid_math_bits_deBruijn64tab)], narrowed := true }
def GuardAgainUptoSaid : Prop := guardAgainUptoRow.holds Tryz.pinned (OpenSpec.upto guardAgainSpec)

/-- 'riverbanklaw16.ChaseTells', WHERE WHAT IT READS IS OF BULK AT MOST 1048576: true; the input reads as it did. -/
def chaseTellsUptoRow : OpenClaim := { program := "ytnpenlmlggpemaagreatdoor", sum := "8b967223a616bf102487314a5242217188635632cb1a8961bf51d44271e4fc79", func := "riverbank/riverbanklaw16.ChaseTells", spec := "chaseTells", inPlace := ["internal/bytealg.IndexByteString"], unfollowed := true, recurses := true, named := ["math/bits.deBruijn64tab"], apart := false, laid := [("math/bits.deBruijn64tab", laid_math_bits_deBruijn64tab)], narrowed := true }
def ChaseTellsUptoSaid : Prop := chaseTellsUptoRow.holds Tryz.pinned (OpenSpec.upto chaseTellsSpec)

/-- 'riverbanklaw16.ChasePlies', WHERE WHAT IT READS IS OF BULK AT MOST 1048576: true; the input reads as it did. -/
def chasePliesUptoRow : OpenClaim := { program := "ytnpenlmlggpemaagreatdoor", sum := "8b967223a616bf102487314a5242217188635632cb1a8961bf51d44271e4fc79", func := "riverbank/riverbanklaw16.ChasePlies", spec := "chasePlies", inPlace := ["internal/bytealg.IndexByteString"], unfollowed := true, recurses := true, named := ["math/bits.deBruijn64tab"], apart := false, laid := [("math/bits.deBruijn64tab", laid_math_bits_deBruijn64tab)], narrowed := true }
def ChasePliesUptoSaid : Prop := chasePliesUptoRow.holds Tryz.pinned (OpenSpec.upto chasePliesSpec)

/-- 'riverbanklaw16.ChaseTakes', WHERE WHAT IT READS IS OF BULK AT MOST 1048576: true; the input reads as it did. -/
def chaseTakesUptoRow : OpenClaim := { program := "ytnpenlmlggpemaagreatdoor", sum := "8b967223a616bf102487314a5242217188635632cb1a8961bf51d44271e4fc79", func := "riverbank/riverbanklaw16.ChaseTakes", spec := "chaseTakes", inPlace := ["internal/bytealg.IndexByteString"], unfollowed := true, recurses := true, named := ["math/bits.deBruijn64tab"], apart := false, laid := [("math/bits.deBruijn64tab", laid_math_bits_deBruijn64tab)], narrowed := true }
def ChaseTakesUptoSaid : Prop := chaseTakesUptoRow.holds Tryz.pinned (OpenSpec.upto chaseTakesSpec)

/-- 'riverbanklaw16.ChaseTurn', WHERE WHAT IT READS IS OF BULK AT MOST 1048576: true; the input reads as it did. -/
def chaseTurnUptoRow : OpenClaim := { program := "ytnpenlmlggpemaagreatdoor", sum := "8b967223a616bf102487314a5242217188635632cb1a8961bf51d44271e4fc79", func := "riverbank/riverbanklaw16.ChaseTurn", spec := "chaseTurn", inPlace := ["internal/bytealg.IndexByteString"], unfollowed := true, recurses := true, named := ["math/bits.deBruijn64tab"], apart := false, laid := [("math/bits.deBruijn64tab", laid_math_bits_deBruijn64tab)], narrowed := true }
def ChaseTurnUptoSaid : Prop := chaseTurnUptoRow.holds Tryz.pinned (OpenSpec.upto chaseTurnSpec)

/-- 'riverbanklaw16.ChaseCheck', WHERE WHAT IT READS IS OF BULK AT MOST 1048576: true; the input reads as it did. -/
def chaseCheckUptoRow : OpenClaim := { program := "ytnpenlmlggpemaagreatdoor", sum := "8b967223a616bf102487314a5242217188635632cb1a8961bf51d44271e4fc79", func := "riverbank/riverbanklaw16.ChaseCheck", spec := "chaseCheck", inPlace := ["internal/bytealg.IndexByteString"], unfollowed := true, recurses := true, named := ["math/bits.deBruijn64tab"], apart := false, laid := [("math/bits.deBruijn64tab", laid_math_bits_deBruijn64tab)], narrowed := true }
def ChaseCheckUptoSaid : Prop := chaseCheckUptoRow.holds Tryz.pinned (OpenSpec.upto chaseCheckSpec)

end Rows
end Go.Proofs.YtnpenlmlggpemaaGreatDoor
