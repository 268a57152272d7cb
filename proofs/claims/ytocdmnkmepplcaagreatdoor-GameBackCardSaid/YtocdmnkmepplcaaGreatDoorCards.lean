/-
  DERIVED. GIVEN WITH THE SEED: THE CARDS: each row of YtocdmnkmepplcaaGreatDoorRows.lean that lists a variable, with what it lists TIED to the program's text (the seventh form; the later family's looks); each row that meets fmt, with fmt's text TOLD by the authors' own Lean function (tested against real Go, not proved from fmt's source: count such statements apart). THE CARD IS WHAT COUNTS. Prove the row's statement (the work); the ties are given (YtocdmnkmepplcaaGreatDoorTie.lean); close each card by the builder's one call (the guide's Derived/Test/ToyasCard.lean, 'card_holds'). Laid BY PROGRAM, IN A SANDBOX (cutbox-door.mjs). By AI agents, Wed Nov 11 2026. No macro, syntax, notation, axiom, sorry.
-/
import Derived.Test.YtocdmnkmepplcaaGreatDoorRows
import GoSem.ClaimSeven
namespace Go.Proofs.YtocdmnkmepplcaaGreatDoor
namespace Rows

/-- THE TIED CARD OF 'riverbanklaw08.LegalMakes'. -/
def legalMakesCard : Claim7 := { stood := { row := legalMakesRow, standIns := [], harness := (true, "a1dfcf65aa1146c6a6c4f75a0f1ff4a67779123840fbc45469ce8229bb27f671"), looks := false }, kinds := [], alts := [], laidByText := true, laidKinds := [.data], laidTests := true, laidLooks := .later }
def LegalMakesCardSaid : Prop := Claim7.holds Tryz.pinned (.plain (OpenSpec.ofChange legalMakesSpec)) legalMakesCard

/-- THE TIED CARD OF 'riverbanklaw08.LegalRight'. -/
def legalRightCard : Claim7 := { stood := { row := legalRightRow, standIns := [], harness := (true, "a1dfcf65aa1146c6a6c4f75a0f1ff4a67779123840fbc45469ce8229bb27f671"), looks := false }, kinds := [], alts := [], laidByText := true, laidKinds := [.data], laidTests := true, laidLooks := .later }
def LegalRightCardSaid : Prop := Claim7.holds Tryz.pinned (.plain (OpenSpec.ofChange legalRightSpec)) legalRightCard

/-- THE TIED CARD OF 'riverbanklaw09.GamePlays'. -/
def gamePlaysCard : Claim7 := { stood := { row := gamePlaysRow, standIns := [], harness := (true, "a1dfcf65aa1146c6a6c4f75a0f1ff4a67779123840fbc45469ce8229bb27f671"), looks := false }, kinds := [], alts := [], laidByText := true, laidKinds := [.data], laidTests := true, laidLooks := .later }
def GamePlaysCardSaid : Prop := Claim7.holds Tryz.pinned (.plain (OpenSpec.ofChange gamePlaysSpec)) gamePlaysCard

/-- THE TIED CARD OF 'riverbanklaw09.GameBack'. -/
def gameBackCard : Claim7 := { stood := { row := gameBackRow, standIns := [], harness := (true, "a1dfcf65aa1146c6a6c4f75a0f1ff4a67779123840fbc45469ce8229bb27f671"), looks := false }, kinds := [], alts := [], laidByText := true, laidKinds := [.data], laidTests := true, laidLooks := .later }
def GameBackCardSaid : Prop := Claim7.holds Tryz.pinned (.plain (OpenSpec.ofChange gameBackSpec)) gameBackCard

/-- THE TIED CARD OF 'riverbanklaw09.GameNil'. -/
def gameNilCard : Claim7 := { stood := { row := gameNilRow, standIns := [], harness := (true, "a1dfcf65aa1146c6a6c4f75a0f1ff4a67779123840fbc45469ce8229bb27f671"), looks := false }, kinds := [], alts := [], laidByText := true, laidKinds := [.data], laidTests := true, laidLooks := .later }
def GameNilCardSaid : Prop := Claim7.holds Tryz.pinned (.plain (OpenSpec.ofChange gameNilSpec)) gameNilCard

/-- THE SECOND FORM's CARD OF 'riverbanklaw08.LegalMakes'. -/
def legalMakesUptoCard : Claim7 := { stood := { row := legalMakesUptoRow, standIns := [], harness := (true, "a1dfcf65aa1146c6a6c4f75a0f1ff4a67779123840fbc45469ce8229bb27f671"), looks := false }, kinds := [], alts := [], laidByText := true, laidKinds := [.data], laidTests := true, laidLooks := .later }
def LegalMakesUptoCardSaid : Prop := Claim7.holds Tryz.pinned (.plain (OpenSpec.upto legalMakesSpec)) legalMakesUptoCard

/-- THE SECOND FORM's CARD OF 'riverbanklaw08.LegalRight'. -/
def legalRightUptoCard : Claim7 := { stood := { row := legalRightUptoRow, standIns := [], harness := (true, "a1dfcf65aa1146c6a6c4f75a0f1ff4a67779123840fbc45469ce8229bb27f671"), looks := false }, kinds := [], alts := [], laidByText := true, laidKinds := [.data], laidTests := true, laidLooks := .later }
def LegalRightUptoCardSaid : Prop := Claim7.holds Tryz.pinned (.plain (OpenSpec.upto legalRightSpec)) legalRightUptoCard

/-- THE SECOND FORM's CARD OF 'riverbanklaw09.GamePlays'. -/
def gamePlaysUptoCard : Claim7 := { stood := { row := gamePlaysUptoRow, standIns := [], harness := (true, "a1dfcf65aa1146c6a6c4f75a0f1ff4a67779123840fbc45469ce8229bb27f671"), looks := false }, kinds := [], alts := [], laidByText := true, laidKinds := [.data], laidTests := true, laidLooks := .later }
def GamePlaysUptoCardSaid : Prop := Claim7.holds Tryz.pinned (.plain (OpenSpec.upto gamePlaysSpec)) gamePlaysUptoCard

/-- THE SECOND FORM's CARD OF 'riverbanklaw09.GameBack'. -/
def gameBackUptoCard : Claim7 := { stood := { row := gameBackUptoRow, standIns := [], harness := (true, "a1dfcf65aa1146c6a6c4f75a0f1ff4a67779123840fbc45469ce8229bb27f671"), looks := false }, kinds := [], alts := [], laidByText := true, laidKinds := [.data], laidTests := true, laidLooks := .later }
def GameBackUptoCardSaid : Prop := Claim7.holds Tryz.pinned (.plain (OpenSpec.upto gameBackSpec)) gameBackUptoCard

/-- THE SECOND FORM's CARD OF 'riverbanklaw09.GameNil'. -/
def gameNilUptoCard : Claim7 := { stood := { row := gameNilUptoRow, standIns := [], harness := (true, "a1dfcf65aa1146c6a6c4f75a0f1ff4a67779123840fbc45469ce8229bb27f671"), looks := false }, kinds := [], alts := [], laidByText := true, laidKinds := [.data], laidTests := true, laidLooks := .later }
def GameNilUptoCardSaid : Prop := Claim7.holds Tryz.pinned (.plain (OpenSpec.upto gameNilSpec)) gameNilUptoCard
end Rows
end Go.Proofs.YtocdmnkmepplcaaGreatDoor
