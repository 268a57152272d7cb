/-
  DERIVED. GIVEN WITH THE SEED: THE CARDS: each row of YtbfkkedcjodceaaDoorRows.lean that lists a variable, with what it lists TIED to the program's text (the seventh form; the later family's looks); each row that meets fmt, with fmt's text TOLD by the authors' own Lean function (tested against real Go, not proved from fmt's source: count such statements apart). THE CARD IS WHAT COUNTS. Prove the row's statement (the work); the ties are given (YtbfkkedcjodceaaDoorTie.lean); close each card by the builder's one call (the guide's Derived/Test/ToyasCard.lean, 'card_holds'). Laid BY PROGRAM, IN A SANDBOX (cutbox-door.mjs). By AI agents, Wed Nov 11 2026. No macro, syntax, notation, axiom, sorry.
-/
import Derived.Test.YtbfkkedcjodceaaDoorRows
import GoSem.ClaimSeven
namespace Go.Proofs.YtbfkkedcjodceaaDoor
namespace Rows

/-- THE TIED CARD OF 'riverbanklaw06.PseudoMoves'. -/
def pseudoMovesCard : Claim7 := { stood := { row := pseudoMovesRow, standIns := [], harness := (true, "2d8308da91e561f832b713574c10c50e8edb69d31d79fd183179e68f31e453c2"), looks := false }, kinds := [], alts := [], laidByText := true, laidKinds := [.data], laidTests := true, laidLooks := .later }
def PseudoMovesCardSaid : Prop := Claim7.holds Tryd.pinned (.plain (OpenSpec.ofChange pseudoMovesSpec)) pseudoMovesCard

/-- THE TIED CARD OF 'riverbanklaw06.PseudoApplies'. -/
def pseudoAppliesCard : Claim7 := { stood := { row := pseudoAppliesRow, standIns := [], harness := (true, "2d8308da91e561f832b713574c10c50e8edb69d31d79fd183179e68f31e453c2"), looks := false }, kinds := [], alts := [], laidByText := true, laidKinds := [.data], laidTests := true, laidLooks := .later }
def PseudoAppliesCardSaid : Prop := Claim7.holds Tryd.pinned (.plain (OpenSpec.ofChange pseudoAppliesSpec)) pseudoAppliesCard

/-- THE TIED CARD OF 'riverbanklaw06.PseudoRight'. -/
def pseudoRightCard : Claim7 := { stood := { row := pseudoRightRow, standIns := [], harness := (true, "2d8308da91e561f832b713574c10c50e8edb69d31d79fd183179e68f31e453c2"), looks := false }, kinds := [], alts := [], laidByText := true, laidKinds := [.data], laidTests := true, laidLooks := .later }
def PseudoRightCardSaid : Prop := Claim7.holds Tryd.pinned (.plain (OpenSpec.ofChange pseudoRightSpec)) pseudoRightCard

/-- THE TIED CARD OF 'riverbanklaw06.PseudoTurn'. -/
def pseudoTurnCard : Claim7 := { stood := { row := pseudoTurnRow, standIns := [], harness := (true, "2d8308da91e561f832b713574c10c50e8edb69d31d79fd183179e68f31e453c2"), looks := false }, kinds := [], alts := [], laidByText := true, laidKinds := [.data], laidTests := true, laidLooks := .later }
def PseudoTurnCardSaid : Prop := Claim7.holds Tryd.pinned (.plain (OpenSpec.ofChange pseudoTurnSpec)) pseudoTurnCard

/-- THE TIED CARD OF 'riverbanklaw06.PseudoSide'. -/
def pseudoSideCard : Claim7 := { stood := { row := pseudoSideRow, standIns := [], harness := (true, "2d8308da91e561f832b713574c10c50e8edb69d31d79fd183179e68f31e453c2"), looks := false }, kinds := [], alts := [], laidByText := true, laidKinds := [.data], laidTests := true, laidLooks := .later }
def PseudoSideCardSaid : Prop := Claim7.holds Tryd.pinned (.plain (OpenSpec.ofChange pseudoSideSpec)) pseudoSideCard

/-- THE TIED CARD OF 'riverbanklaw06.PseudoCaptures'. -/
def pseudoCapturesCard : Claim7 := { stood := { row := pseudoCapturesRow, standIns := [], harness := (true, "2d8308da91e561f832b713574c10c50e8edb69d31d79fd183179e68f31e453c2"), looks := false }, kinds := [], alts := [], laidByText := true, laidKinds := [.data], laidTests := true, laidLooks := .later }
def PseudoCapturesCardSaid : Prop := Claim7.holds Tryd.pinned (.plain (OpenSpec.ofChange pseudoCapturesSpec)) pseudoCapturesCard

/-- THE TIED CARD OF 'riverbanklaw07.CheckAttacks'. -/
def checkAttacksCard : Claim7 := { stood := { row := checkAttacksRow, standIns := [], harness := (true, "2d8308da91e561f832b713574c10c50e8edb69d31d79fd183179e68f31e453c2"), looks := false }, kinds := [], alts := [], laidByText := true, laidKinds := [.data], laidTests := true, laidLooks := .later }
def CheckAttacksCardSaid : Prop := Claim7.holds Tryd.pinned (.plain (OpenSpec.ofChange checkAttacksSpec)) checkAttacksCard

/-- THE TIED CARD OF 'riverbanklaw07.CheckWell'. -/
def checkWellCard : Claim7 := { stood := { row := checkWellRow, standIns := [], harness := (true, "2d8308da91e561f832b713574c10c50e8edb69d31d79fd183179e68f31e453c2"), looks := false }, kinds := [], alts := [], laidByText := true, laidKinds := [.data], laidTests := true, laidLooks := .later }
def CheckWellCardSaid : Prop := Claim7.holds Tryd.pinned (.plain (OpenSpec.ofChange checkWellSpec)) checkWellCard

/-- THE TIED CARD OF 'riverbanklaw07.CheckTakes'. -/
def checkTakesCard : Claim7 := { stood := { row := checkTakesRow, standIns := [], harness := (true, "2d8308da91e561f832b713574c10c50e8edb69d31d79fd183179e68f31e453c2"), looks := false }, kinds := [], alts := [], laidByText := true, laidKinds := [.data], laidTests := true, laidLooks := .later }
def CheckTakesCardSaid : Prop := Claim7.holds Tryd.pinned (.plain (OpenSpec.ofChange checkTakesSpec)) checkTakesCard

/-- THE TIED CARD OF 'riverbanklaw07.CheckTurn'. -/
def checkTurnCard : Claim7 := { stood := { row := checkTurnRow, standIns := [], harness := (true, "2d8308da91e561f832b713574c10c50e8edb69d31d79fd183179e68f31e453c2"), looks := false }, kinds := [], alts := [], laidByText := true, laidKinds := [.data], laidTests := true, laidLooks := .later }
def CheckTurnCardSaid : Prop := Claim7.holds Tryd.pinned (.plain (OpenSpec.ofChange checkTurnSpec)) checkTurnCard

/-- THE TIED CARD OF 'riverbanklaw07.CheckBetween'. -/
def checkBetweenCard : Claim7 := { stood := { row := checkBetweenRow, standIns := [], harness := (true, "2d8308da91e561f832b713574c10c50e8edb69d31d79fd183179e68f31e453c2"), looks := false }, kinds := [], alts := [], laidByText := true, laidKinds := [.data], laidTests := true, laidLooks := .later }
def CheckBetweenCardSaid : Prop := Claim7.holds Tryd.pinned (.plain (OpenSpec.ofChange checkBetweenSpec)) checkBetweenCard

/-- THE TIED CARD OF 'riverbanklaw07.CheckWhere'. -/
def checkWhereCard : Claim7 := { stood := { row := checkWhereRow, standIns := [], harness := (true, "2d8308da91e561f832b713574c10c50e8edb69d31d79fd183179e68f31e453c2"), looks := false }, kinds := [], alts := [], laidByText := true, laidKinds := [.data], laidTests := true, laidLooks := .later }
def CheckWhereCardSaid : Prop := Claim7.holds Tryd.pinned (.plain (OpenSpec.ofChange checkWhereSpec)) checkWhereCard

/-- THE TIED CARD OF 'riverbanklaw07.CheckRight'. -/
def checkRightCard : Claim7 := { stood := { row := checkRightRow, standIns := [], harness := (true, "2d8308da91e561f832b713574c10c50e8edb69d31d79fd183179e68f31e453c2"), looks := false }, kinds := [], alts := [], laidByText := true, laidKinds := [.data], laidTests := true, laidLooks := .later }
def CheckRightCardSaid : Prop := Claim7.holds Tryd.pinned (.plain (OpenSpec.ofChange checkRightSpec)) checkRightCard

/-- THE SECOND FORM's CARD OF 'riverbanklaw06.PseudoMoves'. -/
def pseudoMovesUptoCard : Claim7 := { stood := { row := pseudoMovesUptoRow, standIns := [], harness := (true, "2d8308da91e561f832b713574c10c50e8edb69d31d79fd183179e68f31e453c2"), looks := false }, kinds := [], alts := [], laidByText := true, laidKinds := [.data], laidTests := true, laidLooks := .later }
def PseudoMovesUptoCardSaid : Prop := Claim7.holds Tryd.pinned (.plain (OpenSpec.upto pseudoMovesSpec)) pseudoMovesUptoCard

/-- THE SECOND FORM's CARD OF 'riverbanklaw06.PseudoApplies'. -/
def pseudoAppliesUptoCard : Claim7 := { stood := { row := pseudoAppliesUptoRow, standIns := [], harness := (true, "2d8308da91e561f832b713574c10c50e8edb69d31d79fd183179e68f31e453c2"), looks := false }, kinds := [], alts := [], laidByText := true, laidKinds := [.data], laidTests := true, laidLooks := .later }
def PseudoAppliesUptoCardSaid : Prop := Claim7.holds Tryd.pinned (.plain (OpenSpec.upto pseudoAppliesSpec)) pseudoAppliesUptoCard

/-- THE SECOND FORM's CARD OF 'riverbanklaw06.PseudoRight'. -/
def pseudoRightUptoCard : Claim7 := { stood := { row := pseudoRightUptoRow, standIns := [], harness := (true, "2d8308da91e561f832b713574c10c50e8edb69d31d79fd183179e68f31e453c2"), looks := false }, kinds := [], alts := [], laidByText := true, laidKinds := [.data], laidTests := true, laidLooks := .later }
def PseudoRightUptoCardSaid : Prop := Claim7.holds Tryd.pinned (.plain (OpenSpec.upto pseudoRightSpec)) pseudoRightUptoCard

/-- THE SECOND FORM's CARD OF 'riverbanklaw06.PseudoTurn'. -/
def pseudoTurnUptoCard : Claim7 := { stood := { row := pseudoTurnUptoRow, standIns := [], harness := (true, "2d8308da91e561f832b713574c10c50e8edb69d31d79fd183179e68f31e453c2"), looks := false }, kinds := [], alts := [], laidByText := true, laidKinds := [.data], laidTests := true, laidLooks := .later }
def PseudoTurnUptoCardSaid : Prop := Claim7.holds Tryd.pinned (.plain (OpenSpec.upto pseudoTurnSpec)) pseudoTurnUptoCard

/-- THE SECOND FORM's CARD OF 'riverbanklaw06.PseudoSide'. -/
def pseudoSideUptoCard : Claim7 := { stood := { row := pseudoSideUptoRow, standIns := [], harness := (true, "2d8308da91e561f832b713574c10c50e8edb69d31d79fd183179e68f31e453c2"), looks := false }, kinds := [], alts := [], laidByText := true, laidKinds := [.data], laidTests := true, laidLooks := .later }
def PseudoSideUptoCardSaid : Prop := Claim7.holds Tryd.pinned (.plain (OpenSpec.upto pseudoSideSpec)) pseudoSideUptoCard

/-- THE SECOND FORM's CARD OF 'riverbanklaw06.PseudoCaptures'. -/
def pseudoCapturesUptoCard : Claim7 := { stood := { row := pseudoCapturesUptoRow, standIns := [], harness := (true, "2d8308da91e561f832b713574c10c50e8edb69d31d79fd183179e68f31e453c2"), looks := false }, kinds := [], alts := [], laidByText := true, laidKinds := [.data], laidTests := true, laidLooks := .later }
def PseudoCapturesUptoCardSaid : Prop := Claim7.holds Tryd.pinned (.plain (OpenSpec.upto pseudoCapturesSpec)) pseudoCapturesUptoCard

/-- THE SECOND FORM's CARD OF 'riverbanklaw07.CheckAttacks'. -/
def checkAttacksUptoCard : Claim7 := { stood := { row := checkAttacksUptoRow, standIns := [], harness := (true, "2d8308da91e561f832b713574c10c50e8edb69d31d79fd183179e68f31e453c2"), looks := false }, kinds := [], alts := [], laidByText := true, laidKinds := [.data], laidTests := true, laidLooks := .later }
def CheckAttacksUptoCardSaid : Prop := Claim7.holds Tryd.pinned (.plain (OpenSpec.upto checkAttacksSpec)) checkAttacksUptoCard

/-- THE SECOND FORM's CARD OF 'riverbanklaw07.CheckWell'. -/
def checkWellUptoCard : Claim7 := { stood := { row := checkWellUptoRow, standIns := [], harness := (true, "2d8308da91e561f832b713574c10c50e8edb69d31d79fd183179e68f31e453c2"), looks := false }, kinds := [], alts := [], laidByText := true, laidKinds := [.data], laidTests := true, laidLooks := .later }
def CheckWellUptoCardSaid : Prop := Claim7.holds Tryd.pinned (.plain (OpenSpec.upto checkWellSpec)) checkWellUptoCard

/-- THE SECOND FORM's CARD OF 'riverbanklaw07.CheckTakes'. -/
def checkTakesUptoCard : Claim7 := { stood := { row := checkTakesUptoRow, standIns := [], harness := (true, "2d8308da91e561f832b713574c10c50e8edb69d31d79fd183179e68f31e453c2"), looks := false }, kinds := [], alts := [], laidByText := true, laidKinds := [.data], laidTests := true, laidLooks := .later }
def CheckTakesUptoCardSaid : Prop := Claim7.holds Tryd.pinned (.plain (OpenSpec.upto checkTakesSpec)) checkTakesUptoCard

/-- THE SECOND FORM's CARD OF 'riverbanklaw07.CheckTurn'. -/
def checkTurnUptoCard : Claim7 := { stood := { row := checkTurnUptoRow, standIns := [], harness := (true, "2d8308da91e561f832b713574c10c50e8edb69d31d79fd183179e68f31e453c2"), looks := false }, kinds := [], alts := [], laidByText := true, laidKinds := [.data], laidTests := true, laidLooks := .later }
def CheckTurnUptoCardSaid : Prop := Claim7.holds Tryd.pinned (.plain (OpenSpec.upto checkTurnSpec)) checkTurnUptoCard

/-- THE SECOND FORM's CARD OF 'riverbanklaw07.CheckBetween'. -/
def checkBetweenUptoCard : Claim7 := { stood := { row := checkBetweenUptoRow, standIns := [], harness := (true, "2d8308da91e561f832b713574c10c50e8edb69d31d79fd183179e68f31e453c2"), looks := false }, kinds := [], alts := [], laidByText := true, laidKinds := [.data], laidTests := true, laidLooks := .later }
def CheckBetweenUptoCardSaid : Prop := Claim7.holds Tryd.pinned (.plain (OpenSpec.upto checkBetweenSpec)) checkBetweenUptoCard

/-- THE SECOND FORM's CARD OF 'riverbanklaw07.CheckWhere'. -/
def checkWhereUptoCard : Claim7 := { stood := { row := checkWhereUptoRow, standIns := [], harness := (true, "2d8308da91e561f832b713574c10c50e8edb69d31d79fd183179e68f31e453c2"), looks := false }, kinds := [], alts := [], laidByText := true, laidKinds := [.data], laidTests := true, laidLooks := .later }
def CheckWhereUptoCardSaid : Prop := Claim7.holds Tryd.pinned (.plain (OpenSpec.upto checkWhereSpec)) checkWhereUptoCard

/-- THE SECOND FORM's CARD OF 'riverbanklaw07.CheckRight'. -/
def checkRightUptoCard : Claim7 := { stood := { row := checkRightUptoRow, standIns := [], harness := (true, "2d8308da91e561f832b713574c10c50e8edb69d31d79fd183179e68f31e453c2"), looks := false }, kinds := [], alts := [], laidByText := true, laidKinds := [.data], laidTests := true, laidLooks := .later }
def CheckRightUptoCardSaid : Prop := Claim7.holds Tryd.pinned (.plain (OpenSpec.upto checkRightSpec)) checkRightUptoCard
end Rows
end Go.Proofs.YtbfkkedcjodceaaDoor
