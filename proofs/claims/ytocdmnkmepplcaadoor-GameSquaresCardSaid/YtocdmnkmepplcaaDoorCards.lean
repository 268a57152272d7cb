/-
  DERIVED. GIVEN WITH THE SEED: THE CARDS: each row of YtocdmnkmepplcaaDoorRows.lean that lists a variable, with what it lists TIED to the program's text (the seventh form; the later family's looks); each row that meets fmt, with fmt's text TOLD by the authors' own Lean function (tested against real Go, not proved from fmt's source: count such statements apart). THE CARD IS WHAT COUNTS. Prove the row's statement (the work); the ties are given (YtocdmnkmepplcaaDoorTie.lean); close each card by the builder's one call (the guide's Derived/Test/ToyasCard.lean, 'card_holds'). Laid BY PROGRAM, IN A SANDBOX (cutbox-door.mjs). By AI agents, Wed Nov 11 2026. No macro, syntax, notation, axiom, sorry.
-/
import Derived.Test.YtocdmnkmepplcaaDoorRows
import GoSem.ClaimSeven
namespace Go.Proofs.YtocdmnkmepplcaaDoor
namespace Rows

/-- THE TIED CARD OF 'riverbanklaw09.GameFull'. -/
def gameFullCard : Claim7 := { stood := { row := gameFullRow, standIns := [], harness := (true, "b3854fdb49c2dcbe56849852add72d5d5273293c60e06a81742e00a6fd7a0e99"), looks := false }, kinds := [], alts := [], laidByText := true, laidKinds := [.data], laidTests := true, laidLooks := .later }
def GameFullCardSaid : Prop := Claim7.holds Tryd.pinned (.plain (OpenSpec.ofChange gameFullSpec)) gameFullCard

/-- THE TIED CARD OF 'riverbanklaw09.GameHalf'. -/
def gameHalfCard : Claim7 := { stood := { row := gameHalfRow, standIns := [], harness := (true, "b3854fdb49c2dcbe56849852add72d5d5273293c60e06a81742e00a6fd7a0e99"), looks := false }, kinds := [], alts := [], laidByText := true, laidKinds := [.data], laidTests := true, laidLooks := .later }
def GameHalfCardSaid : Prop := Claim7.holds Tryd.pinned (.plain (OpenSpec.ofChange gameHalfSpec)) gameHalfCard

/-- THE TIED CARD OF 'riverbanklaw09.GameSquares'. -/
def gameSquaresCard : Claim7 := { stood := { row := gameSquaresRow, standIns := [], harness := (true, "b3854fdb49c2dcbe56849852add72d5d5273293c60e06a81742e00a6fd7a0e99"), looks := false }, kinds := [], alts := [], laidByText := true, laidKinds := [.data], laidTests := true, laidLooks := .later }
def GameSquaresCardSaid : Prop := Claim7.holds Tryd.pinned (.plain (OpenSpec.ofChange gameSquaresSpec)) gameSquaresCard

/-- THE SECOND FORM's CARD OF 'riverbanklaw09.GameFull'. -/
def gameFullUptoCard : Claim7 := { stood := { row := gameFullUptoRow, standIns := [], harness := (true, "b3854fdb49c2dcbe56849852add72d5d5273293c60e06a81742e00a6fd7a0e99"), looks := false }, kinds := [], alts := [], laidByText := true, laidKinds := [.data], laidTests := true, laidLooks := .later }
def GameFullUptoCardSaid : Prop := Claim7.holds Tryd.pinned (.plain (OpenSpec.upto gameFullSpec)) gameFullUptoCard

/-- THE SECOND FORM's CARD OF 'riverbanklaw09.GameHalf'. -/
def gameHalfUptoCard : Claim7 := { stood := { row := gameHalfUptoRow, standIns := [], harness := (true, "b3854fdb49c2dcbe56849852add72d5d5273293c60e06a81742e00a6fd7a0e99"), looks := false }, kinds := [], alts := [], laidByText := true, laidKinds := [.data], laidTests := true, laidLooks := .later }
def GameHalfUptoCardSaid : Prop := Claim7.holds Tryd.pinned (.plain (OpenSpec.upto gameHalfSpec)) gameHalfUptoCard

/-- THE SECOND FORM's CARD OF 'riverbanklaw09.GameSquares'. -/
def gameSquaresUptoCard : Claim7 := { stood := { row := gameSquaresUptoRow, standIns := [], harness := (true, "b3854fdb49c2dcbe56849852add72d5d5273293c60e06a81742e00a6fd7a0e99"), looks := false }, kinds := [], alts := [], laidByText := true, laidKinds := [.data], laidTests := true, laidLooks := .later }
def GameSquaresUptoCardSaid : Prop := Claim7.holds Tryd.pinned (.plain (OpenSpec.upto gameSquaresSpec)) gameSquaresUptoCard
end Rows
end Go.Proofs.YtocdmnkmepplcaaDoor
