/-
  NARROWER THAN 'FOR EVERY INPUT', by the rows' own cells (each row's printed sentence says how): ChaseTakes: laid · ChaseTurn: laid · CycleTells: laid · CycleTurn: laid · CycleBack: laid · CycleFirst: laid · CycleOther: laid · JudgePlays: laid · JudgeTable: laid · JudgeEnds: laid · JudgeTurn: laid · JudgeAhead: laid.
  DERIVED. THE GIVEN ROWS OF THIS SEAT. 12 by the template 'for every input the law returns true; each argument reads behind the call as it read before'; 0 by the template 'total and deterministic' (their statements: YtnkbilikkbaeeaaGreatDoorTotals.lean).
  GIVEN WITH THE SEED: the statements are not yours to turn. If you find one false, say at which input.
  Laid BY PROGRAM, IN A SANDBOX (cutbox-rows.mjs): the forced cells as the released guide's own fill.sh prints them over the translation 46776052f5d29269… (all of the seat's roots in one cut). By AI agents, Wed Nov 11 2026. No macro, syntax, notation, axiom, sorry.
-/
import Derived.Test.YtnkbilikkbaeeaaGreatDoorChecked
import GoSem.Claim
import GoSem.ClaimJoined
import GoSem.ClaimMapViews
import Derived.JoinedTies
import Derived.KernelRfl
namespace Go.Proofs.YtnkbilikkbaeeaaGreatDoor
/- THE CELL 'sum', in the pinned program and in every row, IS THE sha256 OF THE DUMP (.gsa) THAT YtnkbilikkbaeeaaGreatDoorProg.lean LOADS. Nothing in Lean hashes anything: it is a label: what it is worth is what the hold of that sum in a sandbox is worth. -/
noncomputable def Tryz.pinned : Pinned := { name := "ytnkbilikkbaeeaagreatdoor", sum := "46776052f5d29269a0d5d7f660b6102c95e0f9c8a82cff2b1b717096de67e164", checked := Tryz.checked }
namespace Rows
def none {H : Type} : Left H := { results := [], args := [] }

/- WHAT THE LISTED PACKAGE-LEVEL VARIABLES READ AS WHEN THE CALL BEGINS. Each datum BY PROGRAM (the guide's laid-datum.mjs) off the statement by which the dump's own 'gosem.cut.vars' lays the variable. In a bare row this is a premise. The card (YtnkbilikkbaeeaaGreatDoorCards.lean) ties it to the program's text. -/
def laid_math_bits_deBruijn64tab {H : Type} : DataW H := .agg [.lit (.int .u8 0), .lit (.int .u8 1), .lit (.int .u8 56), .lit (.int .u8 2), .lit (.int .u8 57), .lit (.int .u8 49), .lit (.int .u8 28), .lit (.int .u8 3), .lit (.int .u8 61), .lit (.int .u8 58), .lit (.int .u8 42), .lit (.int .u8 50), .lit (.int .u8 38), .lit (.int .u8 29), .lit (.int .u8 17), .lit (.int .u8 4), .lit (.int .u8 62), .lit (.int .u8 47), .lit (.int .u8 59), .lit (.int .u8 36), .lit (.int .u8 45), .lit (.int .u8 43), .lit (.int .u8 51), .lit (.int .u8 22), .lit (.int .u8 53), .lit (.int .u8 39), .lit (.int .u8 33), .lit (.int .u8 30), .lit (.int .u8 24), .lit (.int .u8 18), .lit (.int .u8 12), .lit (.int .u8 5), .lit (.int .u8 63), .lit (.int .u8 55), .lit (.int .u8 48), .lit (.int .u8 27), .lit (.int .u8 60), .lit (.int .u8 41), .lit (.int .u8 37), .lit (.int .u8 16), .lit (.int .u8 46), .lit (.int .u8 35), .lit (.int .u8 44), .lit (.int .u8 21), .lit (.int .u8 52), .lit (.int .u8 32), .lit (.int .u8 23), .lit (.int .u8 11), .lit (.int .u8 54), .lit (.int .u8 26), .lit (.int .u8 40), .lit (.int .u8 15), .lit (.int .u8 34), .lit (.int .u8 20), .lit (.int .u8 31), .lit (.int .u8 10), .lit (.int .u8 25), .lit (.int .u8 14), .lit (.int .u8 19), .lit (.int .u8 9), .lit (.int .u8 13), .lit (.int .u8 8), .lit (.int .u8 7), .lit (.int .u8 6)]

/-- 'riverbanklaw16.ChaseTakes': WHATEVER THE INPUT: true; the input reads as it did. -/
def chaseTakesSpec : ChangeSpec := { name := "chaseTakes", fn := fun _ => fun
  | [d1, d2] => { results := [.lit (.bool true)], args := [d1, d2] }
  | _ => none }
def chaseTakesRow : OpenClaim := { program := "ytnkbilikkbaeeaagreatdoor", sum := "46776052f5d29269a0d5d7f660b6102c95e0f9c8a82cff2b1b717096de67e164", func := "riverbank/riverbanklaw16.ChaseTakes", spec := "chaseTakes", inPlace := ["internal/bytealg.IndexByteString"], unfollowed := true, recurses := true, named := ["math/bits.deBruijn64tab"], apart := false, laid := [("math/bits.deBruijn64tab", laid_math_bits_deBruijn64tab)] }
def ChaseTakesSaid : Prop := chaseTakesRow.holds Tryz.pinned (OpenSpec.ofChange chaseTakesSpec)

/-- ITS FALSE NEIGHBOUR: 'it returns false'. Refute it at one input. -/
def chaseTakesWrong : ChangeSpec := { name := "chaseTakes", fn := fun _ => fun
  | [d1, d2] => { results := [.lit (.bool false)], args := [d1, d2] }
  | _ => none }
def ChaseTakesWrongFalsely : Prop := chaseTakesRow.holds Tryz.pinned (OpenSpec.ofChange chaseTakesWrong)

/-- 'riverbanklaw16.ChaseTurn': WHATEVER THE INPUT: true; the input reads as it did. -/
def chaseTurnSpec : ChangeSpec := { name := "chaseTurn", fn := fun _ => fun
  | [d] => { results := [.lit (.bool true)], args := [d] }
  | _ => none }
def chaseTurnRow : OpenClaim := { program := "ytnkbilikkbaeeaagreatdoor", sum := "46776052f5d29269a0d5d7f660b6102c95e0f9c8a82cff2b1b717096de67e164", func := "riverbank/riverbanklaw16.ChaseTurn", spec := "chaseTurn", inPlace := ["internal/bytealg.IndexByteString"], unfollowed := true, recurses := true, named := ["math/bits.deBruijn64tab"], apart := false, laid := [("math/bits.deBruijn64tab", laid_math_bits_deBruijn64tab)] }
def ChaseTurnSaid : Prop := chaseTurnRow.holds Tryz.pinned (OpenSpec.ofChange chaseTurnSpec)

/-- ITS FALSE NEIGHBOUR: 'it returns false'. Refute it at one input. -/
def chaseTurnWrong : ChangeSpec := { name := "chaseTurn", fn := fun _ => fun
  | [d] => { results := [.lit (.bool false)], args := [d] }
  | _ => none }
def ChaseTurnWrongFalsely : Prop := chaseTurnRow.holds Tryz.pinned (OpenSpec.ofChange chaseTurnWrong)

/-- 'riverbanklaw17.CycleTells': WHATEVER THE INPUT: true; the input reads as it did. -/
def cycleTellsSpec : ChangeSpec := { name := "cycleTells", fn := fun _ => fun
  | [d1, d2, d3] => { results := [.lit (.bool true)], args := [d1, d2, d3] }
  | _ => none }
def cycleTellsRow : OpenClaim := { program := "ytnkbilikkbaeeaagreatdoor", sum := "46776052f5d29269a0d5d7f660b6102c95e0f9c8a82cff2b1b717096de67e164", func := "riverbank/riverbanklaw17.CycleTells", spec := "cycleTells", inPlace := ["internal/bytealg.IndexByteString"], unfollowed := true, recurses := true, named := ["math/bits.deBruijn64tab"], apart := false, laid := [("math/bits.deBruijn64tab", laid_math_bits_deBruijn64tab)] }
def CycleTellsSaid : Prop := cycleTellsRow.holds Tryz.pinned (OpenSpec.ofChange cycleTellsSpec)

/-- ITS FALSE NEIGHBOUR: 'it returns false'. Refute it at one input. -/
def cycleTellsWrong : ChangeSpec := { name := "cycleTells", fn := fun _ => fun
  | [d1, d2, d3] => { results := [.lit (.bool false)], args := [d1, d2, d3] }
  | _ => none }
def CycleTellsWrongFalsely : Prop := cycleTellsRow.holds Tryz.pinned (OpenSpec.ofChange cycleTellsWrong)

/-- 'riverbanklaw17.CycleTurn': WHATEVER THE INPUT: true; the input reads as it did. -/
def cycleTurnSpec : ChangeSpec := { name := "cycleTurn", fn := fun _ => fun
  | [d1, d2] => { results := [.lit (.bool true)], args := [d1, d2] }
  | _ => none }
def cycleTurnRow : OpenClaim := { program := "ytnkbilikkbaeeaagreatdoor", sum := "46776052f5d29269a0d5d7f660b6102c95e0f9c8a82cff2b1b717096de67e164", func := "riverbank/riverbanklaw17.CycleTurn", spec := "cycleTurn", inPlace := ["internal/bytealg.IndexByteString"], unfollowed := true, recurses := true, named := ["math/bits.deBruijn64tab"], apart := false, laid := [("math/bits.deBruijn64tab", laid_math_bits_deBruijn64tab)] }
def CycleTurnSaid : Prop := cycleTurnRow.holds Tryz.pinned (OpenSpec.ofChange cycleTurnSpec)

/-- ITS FALSE NEIGHBOUR: 'it returns false'. Refute it at one input. -/
def cycleTurnWrong : ChangeSpec := { name := "cycleTurn", fn := fun _ => fun
  | [d1, d2] => { results := [.lit (.bool false)], args := [d1, d2] }
  | _ => none }
def CycleTurnWrongFalsely : Prop := cycleTurnRow.holds Tryz.pinned (OpenSpec.ofChange cycleTurnWrong)

/-- 'riverbanklaw17.CycleBack': WHATEVER THE INPUT: true; the input reads as it did. -/
def cycleBackSpec : ChangeSpec := { name := "cycleBack", fn := fun _ => fun
  | [d1, d2] => { results := [.lit (.bool true)], args := [d1, d2] }
  | _ => none }
def cycleBackRow : OpenClaim := { program := "ytnkbilikkbaeeaagreatdoor", sum := "46776052f5d29269a0d5d7f660b6102c95e0f9c8a82cff2b1b717096de67e164", func := "riverbank/riverbanklaw17.CycleBack", spec := "cycleBack", inPlace := ["internal/bytealg.IndexByteString"], unfollowed := true, recurses := true, named := ["math/bits.deBruijn64tab"], apart := false, laid := [("math/bits.deBruijn64tab", laid_math_bits_deBruijn64tab)] }
def CycleBackSaid : Prop := cycleBackRow.holds Tryz.pinned (OpenSpec.ofChange cycleBackSpec)

/-- ITS FALSE NEIGHBOUR: 'it returns false'. Refute it at one input. -/
def cycleBackWrong : ChangeSpec := { name := "cycleBack", fn := fun _ => fun
  | [d1, d2] => { results := [.lit (.bool false)], args := [d1, d2] }
  | _ => none }
def CycleBackWrongFalsely : Prop := cycleBackRow.holds Tryz.pinned (OpenSpec.ofChange cycleBackWrong)

/-- 'riverbanklaw17.CycleFirst': WHATEVER THE INPUT: true; the input reads as it did. -/
def cycleFirstSpec : ChangeSpec := { name := "cycleFirst", fn := fun _ => fun
  | [d] => { results := [.lit (.bool true)], args := [d] }
  | _ => none }
def cycleFirstRow : OpenClaim := { program := "ytnkbilikkbaeeaagreatdoor", sum := "46776052f5d29269a0d5d7f660b6102c95e0f9c8a82cff2b1b717096de67e164", func := "riverbank/riverbanklaw17.CycleFirst", spec := "cycleFirst", inPlace := ["internal/bytealg.IndexByteString"], unfollowed := true, recurses := true, named := ["math/bits.deBruijn64tab"], apart := false, laid := [("math/bits.deBruijn64tab", laid_math_bits_deBruijn64tab)] }
def CycleFirstSaid : Prop := cycleFirstRow.holds Tryz.pinned (OpenSpec.ofChange cycleFirstSpec)

/-- ITS FALSE NEIGHBOUR: 'it returns false'. Refute it at one input. -/
def cycleFirstWrong : ChangeSpec := { name := "cycleFirst", fn := fun _ => fun
  | [d] => { results := [.lit (.bool false)], args := [d] }
  | _ => none }
def CycleFirstWrongFalsely : Prop := cycleFirstRow.holds Tryz.pinned (OpenSpec.ofChange cycleFirstWrong)

/-- 'riverbanklaw17.CycleOther': WHATEVER THE INPUT: true; the input reads as it did. -/
def cycleOtherSpec : ChangeSpec := { name := "cycleOther", fn := fun _ => fun
  | [d1, d2, d3] => { results := [.lit (.bool true)], args := [d1, d2, d3] }
  | _ => none }
def cycleOtherRow : OpenClaim := { program := "ytnkbilikkbaeeaagreatdoor", sum := "46776052f5d29269a0d5d7f660b6102c95e0f9c8a82cff2b1b717096de67e164", func := "riverbank/riverbanklaw17.CycleOther", spec := "cycleOther", inPlace := ["internal/bytealg.IndexByteString"], unfollowed := true, recurses := true, named := ["math/bits.deBruijn64tab"], apart := false, laid := [("math/bits.deBruijn64tab", laid_math_bits_deBruijn64tab)] }
def CycleOtherSaid : Prop := cycleOtherRow.holds Tryz.pinned (OpenSpec.ofChange cycleOtherSpec)

/-- ITS FALSE NEIGHBOUR: 'it returns false'. Refute it at one input. -/
def cycleOtherWrong : ChangeSpec := { name := "cycleOther", fn := fun _ => fun
  | [d1, d2, d3] => { results := [.lit (.bool false)], args := [d1, d2, d3] }
  | _ => none }
def CycleOtherWrongFalsely : Prop := cycleOtherRow.holds Tryz.pinned (OpenSpec.ofChange cycleOtherWrong)

/-- 'riverbanklaw18.JudgePlays': WHATEVER THE INPUT: true; the input reads as it did. -/
def judgePlaysSpec : ChangeSpec := { name := "judgePlays", fn := fun _ => fun
  | [d1, d2] => { results := [.lit (.bool true)], args := [d1, d2] }
  | _ => none }
def judgePlaysRow : OpenClaim := { program := "ytnkbilikkbaeeaagreatdoor", sum := "46776052f5d29269a0d5d7f660b6102c95e0f9c8a82cff2b1b717096de67e164", func := "riverbank/riverbanklaw18.JudgePlays", spec := "judgePlays", inPlace := ["internal/bytealg.IndexByteString"], unfollowed := true, recurses := true, named := ["math/bits.deBruijn64tab"], apart := false, laid := [("math/bits.deBruijn64tab", laid_math_bits_deBruijn64tab)] }
def JudgePlaysSaid : Prop := judgePlaysRow.holds Tryz.pinned (OpenSpec.ofChange judgePlaysSpec)

/-- ITS FALSE NEIGHBOUR: 'it returns false'. Refute it at one input. -/
def judgePlaysWrong : ChangeSpec := { name := "judgePlays", fn := fun _ => fun
  | [d1, d2] => { results := [.lit (.bool false)], args := [d1, d2] }
  | _ => none }
def JudgePlaysWrongFalsely : Prop := judgePlaysRow.holds Tryz.pinned (OpenSpec.ofChange judgePlaysWrong)

/-- 'riverbanklaw18.JudgeTable': WHATEVER THE INPUT: true; the input reads as it did. -/
def judgeTableSpec : ChangeSpec := { name := "judgeTable", fn := fun _ => fun
  | [d1, d2] => { results := [.lit (.bool true)], args := [d1, d2] }
  | _ => none }
def judgeTableRow : OpenClaim := { program := "ytnkbilikkbaeeaagreatdoor", sum := "46776052f5d29269a0d5d7f660b6102c95e0f9c8a82cff2b1b717096de67e164", func := "riverbank/riverbanklaw18.JudgeTable", spec := "judgeTable", inPlace := ["internal/bytealg.IndexByteString"], unfollowed := true, recurses := true, named := ["math/bits.deBruijn64tab"], apart := false, laid := [("math/bits.deBruijn64tab", laid_math_bits_deBruijn64tab)] }
def JudgeTableSaid : Prop := judgeTableRow.holds Tryz.pinned (OpenSpec.ofChange judgeTableSpec)

/-- ITS FALSE NEIGHBOUR: 'it returns false'. Refute it at one input. -/
def judgeTableWrong : ChangeSpec := { name := "judgeTable", fn := fun _ => fun
  | [d1, d2] => { results := [.lit (.bool false)], args := [d1, d2] }
  | _ => none }
def JudgeTableWrongFalsely : Prop := judgeTableRow.holds Tryz.pinned (OpenSpec.ofChange judgeTableWrong)

/-- 'riverbanklaw18.JudgeEnds': WHATEVER THE INPUT: true; the input reads as it did. -/
def judgeEndsSpec : ChangeSpec := { name := "judgeEnds", fn := fun _ => fun
  | [d1, d2, d3] => { results := [.lit (.bool true)], args := [d1, d2, d3] }
  | _ => none }
def judgeEndsRow : OpenClaim := { program := "ytnkbilikkbaeeaagreatdoor", sum := "46776052f5d29269a0d5d7f660b6102c95e0f9c8a82cff2b1b717096de67e164", func := "riverbank/riverbanklaw18.JudgeEnds", spec := "judgeEnds", inPlace := ["internal/bytealg.IndexByteString"], unfollowed := true, recurses := true, named := ["math/bits.deBruijn64tab"], apart := false, laid := [("math/bits.deBruijn64tab", laid_math_bits_deBruijn64tab)] }
def JudgeEndsSaid : Prop := judgeEndsRow.holds Tryz.pinned (OpenSpec.ofChange judgeEndsSpec)

/-- ITS FALSE NEIGHBOUR: 'it returns false'. Refute it at one input. -/
def judgeEndsWrong : ChangeSpec := { name := "judgeEnds", fn := fun _ => fun
  | [d1, d2, d3] => { results := [.lit (.bool false)], args := [d1, d2, d3] }
  | _ => none }
def JudgeEndsWrongFalsely : Prop := judgeEndsRow.holds Tryz.pinned (OpenSpec.ofChange judgeEndsWrong)

/-- 'riverbanklaw18.JudgeTurn': WHATEVER THE INPUT: true; the input reads as it did. -/
def judgeTurnSpec : ChangeSpec := { name := "judgeTurn", fn := fun _ => fun
  | [d1, d2] => { results := [.lit (.bool true)], args := [d1, d2] }
  | _ => none }
def judgeTurnRow : OpenClaim := { program := "ytnkbilikkbaeeaagreatdoor", sum := "46776052f5d29269a0d5d7f660b6102c95e0f9c8a82cff2b1b717096de67e164", func := "riverbank/riverbanklaw18.JudgeTurn", spec := "judgeTurn", inPlace := ["internal/bytealg.IndexByteString"], unfollowed := true, recurses := true, named := ["math/bits.deBruijn64tab"], apart := false, laid := [("math/bits.deBruijn64tab", laid_math_bits_deBruijn64tab)] }
def JudgeTurnSaid : Prop := judgeTurnRow.holds Tryz.pinned (OpenSpec.ofChange judgeTurnSpec)

/-- ITS FALSE NEIGHBOUR: 'it returns false'. Refute it at one input. -/
def judgeTurnWrong : ChangeSpec := { name := "judgeTurn", fn := fun _ => fun
  | [d1, d2] => { results := [.lit (.bool false)], args := [d1, d2] }
  | _ => none }
def JudgeTurnWrongFalsely : Prop := judgeTurnRow.holds Tryz.pinned (OpenSpec.ofChange judgeTurnWrong)

/-- 'riverbanklaw18.JudgeAhead': WHATEVER THE INPUT: true; the input reads as it did. -/
def judgeAheadSpec : ChangeSpec := { name := "judgeAhead", fn := fun _ => fun
  | [d1, d2, d3] => { results := [.lit (.bool true)], args := [d1, d2, d3] }
  | _ => none }
def judgeAheadRow : OpenClaim := { program := "ytnkbilikkbaeeaagreatdoor", sum := "46776052f5d29269a0d5d7f660b6102c95e0f9c8a82cff2b1b717096de67e164", func := "riverbank/riverbanklaw18.JudgeAhead", spec := "judgeAhead", inPlace := ["internal/bytealg.IndexByteString"], unfollowed := true, recurses := true, named := ["math/bits.deBruijn64tab"], apart := false, laid := [("math/bits.deBruijn64tab", laid_math_bits_deBruijn64tab)] }
def JudgeAheadSaid : Prop := judgeAheadRow.holds Tryz.pinned (OpenSpec.ofChange judgeAheadSpec)

/-- ITS FALSE NEIGHBOUR: 'it returns false'. Refute it at one input. -/
def judgeAheadWrong : ChangeSpec := { name := "judgeAhead", fn := fun _ => fun
  | [d1, d2, d3] => { results := [.lit (.bool false)], args := [d1, d2, d3] }
  | _ => none }
def JudgeAheadWrongFalsely : Prop := judgeAheadRow.holds Tryz.pinned (OpenSpec.ofChange judgeAheadWrong)

/- THE SECOND FORM. 'bulk': how many values and letters a reading holds, each counted each time it is reached (what is shared counts as often as it is met; a slice's spare places count too). A statement '..UptoSaid' is the law's where the arguments, and the package variables that the reading takes, are together of bulk at most 1048576: NARROWER than '..Said'. Prove '..Said' where nothing that the law and all that it calls make is longer than what came in: it says more and counts as full. Else prove '..UptoSaid'. A law counts once. -/
mutual
def uptoBulk {H : Type} : DataW H → Nat
  | .lit (.string bytes) => bytes.length + 1
  | .lit _ => 1
  | .nil => 1
  | .ptr d => uptoBulk d + 1
  | .slice elems spare => uptoBulkAll elems + uptoBulkAll spare + 1
  | .agg parts => uptoBulkAll parts + 1
  | .iface _ d => uptoBulk d + 1
  | .map entries => uptoBulkEntries entries + 1
  | .held _ => 1
def uptoBulkAll {H : Type} : List (DataW H) → Nat
  | [] => 0
  | d :: r => uptoBulk d + uptoBulkAll r
def uptoBulkEntries {H : Type} : List (Lit × DataW H) → Nat
  | [] => 0
  | x :: r => uptoBulkEntry x + uptoBulkEntries r
def uptoBulkEntry {H : Type} : Lit × DataW H → Nat
  | (.string bytes, d) => bytes.length + uptoBulk d + 1
  | (_, d) => uptoBulk d + 1
 end
def uptoSmall : (H : Type) → List (DataW H) → Bool := fun _ ds => decide (uptoBulkAll ds ≤ 1048576)
def OpenSpec.upto (s : _root_.Go.ChangeSpec) : _root_.Go.OpenSpec := { _root_.Go.OpenSpec.ofChange s with cond := some uptoSmall }

/-- 'riverbanklaw16.ChaseTakes', WHERE WHAT IT READS IS OF BULK AT MOST 1048576: true; the input reads as it did. -/
def chaseTakesUptoRow : OpenClaim := { program := "ytnkbilikkbaeeaagreatdoor", sum := "46776052f5d29269a0d5d7f660b6102c95e0f9c8a82cff2b1b717096de67e164", func := "riverbank/riverbanklaw16.ChaseTakes", spec := "chaseTakes", inPlace := ["internal/bytealg.IndexByteString"], unfollowed := true, recurses := true, named := ["math/bits.deBruijn64tab"], apart := false, laid := [("math/bits.deBruijn64tab", laid_math_bits_deBruijn64tab)], narrowed := true }
def ChaseTakesUptoSaid : Prop := chaseTakesUptoRow.holds Tryz.pinned (OpenSpec.upto chaseTakesSpec)

/-- 'riverbanklaw16.ChaseTurn', WHERE WHAT IT READS IS OF BULK AT MOST 1048576: true; the input reads as it did. -/
def chaseTurnUptoRow : OpenClaim := { program := "ytnkbilikkbaeeaagreatdoor", sum := "46776052f5d29269a0d5d7f660b6102c95e0f9c8a82cff2b1b717096de67e164", func := "riverbank/riverbanklaw16.ChaseTurn", spec := "chaseTurn", inPlace := ["internal/bytealg.IndexByteString"], unfollowed := true, recurses := true, named := ["math/bits.deBruijn64tab"], apart := false, laid := [("math/bits.deBruijn64tab", laid_math_bits_deBruijn64tab)], narrowed := true }
def ChaseTurnUptoSaid : Prop := chaseTurnUptoRow.holds Tryz.pinned (OpenSpec.upto chaseTurnSpec)

/-- 'riverbanklaw17.CycleTells', WHERE WHAT IT READS IS OF BULK AT MOST 1048576: true; the input reads as it did. -/
def cycleTellsUptoRow : OpenClaim := { program := "ytnkbilikkbaeeaagreatdoor", sum := "46776052f5d29269a0d5d7f660b6102c95e0f9c8a82cff2b1b717096de67e164", func := "riverbank/riverbanklaw17.CycleTells", spec := "cycleTells", inPlace := ["internal/bytealg.IndexByteString"], unfollowed := true, recurses := true, named := ["math/bits.deBruijn64tab"], apart := false, laid := [("math/bits.deBruijn64tab", laid_math_bits_deBruijn64tab)], narrowed := true }
def CycleTellsUptoSaid : Prop := cycleTellsUptoRow.holds Tryz.pinned (OpenSpec.upto cycleTellsSpec)

/-- 'riverbanklaw17.CycleTurn', WHERE WHAT IT READS IS OF BULK AT MOST 1048576: true; the input reads as it did. -/
def cycleTurnUptoRow : OpenClaim := { program := "ytnkbilikkbaeeaagreatdoor", sum := "46776052f5d29269a0d5d7f660b6102c95e0f9c8a82cff2b1b717096de67e164", func := "riverbank/riverbanklaw17.CycleTurn", spec := "cycleTurn", inPlace := ["internal/bytealg.IndexByteString"], unfollowed := true, recurses := true, named := ["math/bits.deBruijn64tab"], apart := false, laid := [("math/bits.deBruijn64tab", laid_math_bits_deBruijn64tab)], narrowed := true }
def CycleTurnUptoSaid : Prop := cycleTurnUptoRow.holds Tryz.pinned (OpenSpec.upto cycleTurnSpec)

/-- 'riverbanklaw17.CycleBack', WHERE WHAT IT READS IS OF BULK AT MOST 1048576: true; the input reads as it did. -/
def cycleBackUptoRow : OpenClaim := { program := "ytnkbilikkbaeeaagreatdoor", sum := "46776052f5d29269a0d5d7f660b6102c95e0f9c8a82cff2b1b717096de67e164", func := "riverbank/riverbanklaw17.CycleBack", spec := "cycleBack", inPlace := ["internal/bytealg.IndexByteString"], unfollowed := true, recurses := true, named := ["math/bits.deBruijn64tab"], apart := false, laid := [("math/bits.deBruijn64tab", laid_math_bits_deBruijn64tab)], narrowed := true }
def CycleBackUptoSaid : Prop := cycleBackUptoRow.holds Tryz.pinned (OpenSpec.upto cycleBackSpec)

/-- 'riverbanklaw17.CycleFirst', WHERE WHAT IT READS IS OF BULK AT MOST 1048576: true; the input reads as it did. -/
def cycleFirstUptoRow : OpenClaim := { program := "ytnkbilikkbaeeaagreatdoor", sum := "46776052f5d29269a0d5d7f660b6102c95e0f9c8a82cff2b1b717096de67e164", func := "riverbank/riverbanklaw17.CycleFirst", spec := "cycleFirst", inPlace := ["internal/bytealg.IndexByteString"], unfollowed := true, recurses := true, named := ["math/bits.deBruijn64tab"], apart := false, laid := [("math/bits.deBruijn64tab", laid_math_bits_deBruijn64tab)], narrowed := true }
def CycleFirstUptoSaid : Prop := cycleFirstUptoRow.holds Tryz.pinned (OpenSpec.upto cycleFirstSpec)

/-- 'riverbanklaw17.CycleOther', WHERE WHAT IT READS IS OF BULK AT MOST 1048576: true; the input reads as it did. -/
def cycleOtherUptoRow : OpenClaim := { program := "ytnkbilikkbaeeaagreatdoor", sum := "46776052f5d29269a0d5d7f660b6102c95e0f9c8a82cff2b1b717096de67e164", func := "riverbank/riverbanklaw17.CycleOther", spec := "cycleOther", inPlace := ["internal/bytealg.IndexByteString"], unfollowed := true, recurses := true, named := ["math/bits.deBruijn64tab"], apart := false, laid := [("math/bits.deBruijn64tab", laid_math_bits_deBruijn64tab)], narrowed := true }
def CycleOtherUptoSaid : Prop := cycleOtherUptoRow.holds Tryz.pinned (OpenSpec.upto cycleOtherSpec)

/-- 'riverbanklaw18.JudgePlays', WHERE WHAT IT READS IS OF BULK AT MOST 1048576: true; the input reads as it did. -/
def judgePlaysUptoRow : OpenClaim := { program := "ytnkbilikkbaeeaagreatdoor", sum := "46776052f5d29269a0d5d7f660b6102c95e0f9c8a82cff2b1b717096de67e164", func := "riverbank/riverbanklaw18.JudgePlays", spec := "judgePlays", inPlace := ["internal/bytealg.IndexByteString"], unfollowed := true, recurses := true, named := ["math/bits.deBruijn64tab"], apart := false, laid := [("math/bits.deBruijn64tab", laid_math_bits_deBruijn64tab)], narrowed := true }
def JudgePlaysUptoSaid : Prop := judgePlaysUptoRow.holds Tryz.pinned (OpenSpec.upto judgePlaysSpec)

/-- 'riverbanklaw18.JudgeTable', WHERE WHAT IT READS IS OF BULK AT MOST 1048576: true; the input reads as it did. -/
def judgeTableUptoRow : OpenClaim := { program := "ytnkbilikkbaeeaagreatdoor", sum := "46776052f5d29269a0d5d7f660b6102c95e0f9c8a82cff2b1b717096de67e164", func := "riverbank/riverbanklaw18.JudgeTable", spec := "judgeTable", inPlace := ["internal/bytealg.IndexByteString"], unfollowed := true, recurses := true, named := ["math/bits.deBruijn64tab"], apart := false, laid := [("math/bits.deBruijn64tab", laid_math_bits_deBruijn64tab)], narrowed := true }
def JudgeTableUptoSaid : Prop := judgeTableUptoRow.holds Tryz.pinned (OpenSpec.upto judgeTableSpec)

/-- 'riverbanklaw18.JudgeEnds', WHERE WHAT IT READS IS OF BULK AT MOST 1048576: true; the input reads as it did. -/
def judgeEndsUptoRow : OpenClaim := { program := "ytnkbilikkbaeeaagreatdoor", sum := "46776052f5d29269a0d5d7f660b6102c95e0f9c8a82cff2b1b717096de67e164", func := "riverbank/riverbanklaw18.JudgeEnds", spec := "judgeEnds", inPlace := ["internal/bytealg.IndexByteString"], unfollowed := true, recurses := true, named := ["math/bits.deBruijn64tab"], apart := false, laid := [("math/bits.deBruijn64tab", laid_math_bits_deBruijn64tab)], narrowed := true }
def JudgeEndsUptoSaid : Prop := judgeEndsUptoRow.holds Tryz.pinned (OpenSpec.upto judgeEndsSpec)

/-- 'riverbanklaw18.JudgeTurn', WHERE WHAT IT READS IS OF BULK AT MOST 1048576: true; the input reads as it did. -/
def judgeTurnUptoRow : OpenClaim := { program := "ytnkbilikkbaeeaagreatdoor", sum := "46776052f5d29269a0d5d7f660b6102c95e0f9c8a82cff2b1b717096de67e164", func := "riverbank/riverbanklaw18.JudgeTurn", spec := "judgeTurn", inPlace := ["internal/bytealg.IndexByteString"], unfollowed := true, recurses := true, named := ["math/bits.deBruijn64tab"], apart := false, laid := [("math/bits.deBruijn64tab", laid_math_bits_deBruijn64tab)], narrowed := true }
def JudgeTurnUptoSaid : Prop := judgeTurnUptoRow.holds Tryz.pinned (OpenSpec.upto judgeTurnSpec)

/-- 'riverbanklaw18.JudgeAhead', WHERE WHAT IT READS IS OF BULK AT MOST 1048576: true; the input reads as it did. -/
def judgeAheadUptoRow : OpenClaim := { program := "ytnkbilikkbaeeaagreatdoor", sum := "46776052f5d29269a0d5d7f660b6102c95e0f9c8a82cff2b1b717096de67e164", func := "riverbank/riverbanklaw18.JudgeAhead", spec := "judgeAhead", inPlace := ["internal/bytealg.IndexByteString"], unfollowed := true, recurses := true, named := ["math/bits.deBruijn64tab"], apart := false, laid := [("math/bits.deBruijn64tab", laid_math_bits_deBruijn64tab)], narrowed := true }
def JudgeAheadUptoSaid : Prop := judgeAheadUptoRow.holds Tryz.pinned (OpenSpec.upto judgeAheadSpec)

end Rows
end Go.Proofs.YtnkbilikkbaeeaaGreatDoor
