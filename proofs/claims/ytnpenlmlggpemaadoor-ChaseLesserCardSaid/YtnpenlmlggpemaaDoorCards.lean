/-
  DERIVED. GIVEN WITH THE SEED: THE CARDS: each row of YtnpenlmlggpemaaDoorRows.lean that lists a variable, with what it lists TIED to the program's text (the seventh form; the later family's looks); each row that meets fmt, with fmt's text TOLD by the authors' own Lean function (tested against real Go, not proved from fmt's source: count such statements apart). THE CARD IS WHAT COUNTS. Prove the row's statement (the work); the ties are given (YtnpenlmlggpemaaDoorTie.lean); close each card by the builder's one call (the guide's Derived/Test/ToyasCard.lean, 'card_holds'). Laid BY PROGRAM, IN A SANDBOX (cutbox-door.mjs). By AI agents, Wed Nov 11 2026. No macro, syntax, notation, axiom, sorry.
-/
import Derived.Test.YtnpenlmlggpemaaDoorRows
import GoSem.ClaimSeven
namespace Go.Proofs.YtnpenlmlggpemaaDoor
namespace Rows

/-- THE TIED CARD OF 'riverbanklaw15.GuardTurn'. -/
def guardTurnCard : Claim7 := { stood := { row := guardTurnRow, standIns := [], harness := (true, "400851a6aae96c2e196686ed9612e787fb346b3f65ef1239b6a092e9d0717286"), looks := false }, kinds := [], alts := [], laidByText := true, laidKinds := [.data], laidTests := true, laidLooks := .later }
def GuardTurnCardSaid : Prop := Claim7.holds Tryd.pinned (.plain (OpenSpec.ofChange guardTurnSpec)) guardTurnCard

/-- THE TIED CARD OF 'riverbanklaw15.GuardTakes'. -/
def guardTakesCard : Claim7 := { stood := { row := guardTakesRow, standIns := [], harness := (true, "400851a6aae96c2e196686ed9612e787fb346b3f65ef1239b6a092e9d0717286"), looks := false }, kinds := [], alts := [], laidByText := true, laidKinds := [.data], laidTests := true, laidLooks := .later }
def GuardTakesCardSaid : Prop := Claim7.holds Tryd.pinned (.plain (OpenSpec.ofChange guardTakesSpec)) guardTakesCard

/-- THE TIED CARD OF 'riverbanklaw15.GuardOther'. -/
def guardOtherCard : Claim7 := { stood := { row := guardOtherRow, standIns := [], harness := (true, "400851a6aae96c2e196686ed9612e787fb346b3f65ef1239b6a092e9d0717286"), looks := false }, kinds := [], alts := [], laidByText := true, laidKinds := [.data], laidTests := true, laidLooks := .later }
def GuardOtherCardSaid : Prop := Claim7.holds Tryd.pinned (.plain (OpenSpec.ofChange guardOtherSpec)) guardOtherCard

/-- THE TIED CARD OF 'riverbanklaw16.ChaseLesser'. -/
def chaseLesserCard : Claim7 := { stood := { row := chaseLesserRow, standIns := [], harness := (true, "400851a6aae96c2e196686ed9612e787fb346b3f65ef1239b6a092e9d0717286"), looks := false }, kinds := [], alts := [], laidByText := true, laidKinds := [.data], laidTests := true, laidLooks := .later }
def ChaseLesserCardSaid : Prop := Claim7.holds Tryd.pinned (.plain (OpenSpec.ofChange chaseLesserSpec)) chaseLesserCard

/-- THE SECOND FORM's CARD OF 'riverbanklaw15.GuardTurn'. -/
def guardTurnUptoCard : Claim7 := { stood := { row := guardTurnUptoRow, standIns := [], harness := (true, "400851a6aae96c2e196686ed9612e787fb346b3f65ef1239b6a092e9d0717286"), looks := false }, kinds := [], alts := [], laidByText := true, laidKinds := [.data], laidTests := true, laidLooks := .later }
def GuardTurnUptoCardSaid : Prop := Claim7.holds Tryd.pinned (.plain (OpenSpec.upto guardTurnSpec)) guardTurnUptoCard

/-- THE SECOND FORM's CARD OF 'riverbanklaw15.GuardTakes'. -/
def guardTakesUptoCard : Claim7 := { stood := { row := guardTakesUptoRow, standIns := [], harness := (true, "400851a6aae96c2e196686ed9612e787fb346b3f65ef1239b6a092e9d0717286"), looks := false }, kinds := [], alts := [], laidByText := true, laidKinds := [.data], laidTests := true, laidLooks := .later }
def GuardTakesUptoCardSaid : Prop := Claim7.holds Tryd.pinned (.plain (OpenSpec.upto guardTakesSpec)) guardTakesUptoCard

/-- THE SECOND FORM's CARD OF 'riverbanklaw15.GuardOther'. -/
def guardOtherUptoCard : Claim7 := { stood := { row := guardOtherUptoRow, standIns := [], harness := (true, "400851a6aae96c2e196686ed9612e787fb346b3f65ef1239b6a092e9d0717286"), looks := false }, kinds := [], alts := [], laidByText := true, laidKinds := [.data], laidTests := true, laidLooks := .later }
def GuardOtherUptoCardSaid : Prop := Claim7.holds Tryd.pinned (.plain (OpenSpec.upto guardOtherSpec)) guardOtherUptoCard

/-- THE SECOND FORM's CARD OF 'riverbanklaw16.ChaseLesser'. -/
def chaseLesserUptoCard : Claim7 := { stood := { row := chaseLesserUptoRow, standIns := [], harness := (true, "400851a6aae96c2e196686ed9612e787fb346b3f65ef1239b6a092e9d0717286"), looks := false }, kinds := [], alts := [], laidByText := true, laidKinds := [.data], laidTests := true, laidLooks := .later }
def ChaseLesserUptoCardSaid : Prop := Claim7.holds Tryd.pinned (.plain (OpenSpec.upto chaseLesserSpec)) chaseLesserUptoCard
end Rows
end Go.Proofs.YtnpenlmlggpemaaDoor
