/-
  DERIVED. GIVEN WITH THE SEED: THE CARDS: each row of YtnpenlmlggpemaaGreatDoorRows.lean that lists a variable, with what it lists TIED to the program's text (the seventh form; the later family's looks); each row that meets fmt, with fmt's text TOLD by the authors' own Lean function (tested against real Go, not proved from fmt's source: count such statements apart). THE CARD IS WHAT COUNTS. Prove the row's statement (the work); the ties are given (YtnpenlmlggpemaaGreatDoorTie.lean); close each card by the builder's one call (the guide's Derived/Test/ToyasCard.lean, 'card_holds'). Laid BY PROGRAM, IN A SANDBOX (cutbox-door.mjs). By AI agents, Wed Nov 11 2026. No macro, syntax, notation, axiom, sorry.
-/
import Derived.Test.YtnpenlmlggpemaaGreatDoorRows
import GoSem.ClaimSeven
namespace Go.Proofs.YtnpenlmlggpemaaGreatDoor
namespace Rows

/-- THE TIED CARD OF 'riverbanklaw15.GuardTells'. -/
def guardTellsCard : Claim7 := { stood := { row := guardTellsRow, standIns := [], harness := (true, "16eca0606d6fe60c428d630ecb68eb39218e7b3082c8c6f1ee60b5e55b86e40b"), looks := false }, kinds := [], alts := [], laidByText := true, laidKinds := [.data], laidTests := true, laidLooks := .later }
def GuardTellsCardSaid : Prop := Claim7.holds Tryz.pinned (.plain (OpenSpec.ofChange guardTellsSpec)) guardTellsCard

/-- THE TIED CARD OF 'riverbanklaw15.GuardMoves'. -/
def guardMovesCard : Claim7 := { stood := { row := guardMovesRow, standIns := [], harness := (true, "16eca0606d6fe60c428d630ecb68eb39218e7b3082c8c6f1ee60b5e55b86e40b"), looks := false }, kinds := [], alts := [], laidByText := true, laidKinds := [.data], laidTests := true, laidLooks := .later }
def GuardMovesCardSaid : Prop := Claim7.holds Tryz.pinned (.plain (OpenSpec.ofChange guardMovesSpec)) guardMovesCard

/-- THE TIED CARD OF 'riverbanklaw15.GuardAgain'. -/
def guardAgainCard : Claim7 := { stood := { row := guardAgainRow, standIns := [], harness := (true, "16eca0606d6fe60c428d630ecb68eb39218e7b3082c8c6f1ee60b5e55b86e40b"), looks := false }, kinds := [], alts := [], laidByText := true, laidKinds := [.data], laidTests := true, laidLooks := .later }
def GuardAgainCardSaid : Prop := Claim7.holds Tryz.pinned (.plain (OpenSpec.ofChange guardAgainSpec)) guardAgainCard

/-- THE TIED CARD OF 'riverbanklaw16.ChaseTells'. -/
def chaseTellsCard : Claim7 := { stood := { row := chaseTellsRow, standIns := [], harness := (true, "16eca0606d6fe60c428d630ecb68eb39218e7b3082c8c6f1ee60b5e55b86e40b"), looks := false }, kinds := [], alts := [], laidByText := true, laidKinds := [.data], laidTests := true, laidLooks := .later }
def ChaseTellsCardSaid : Prop := Claim7.holds Tryz.pinned (.plain (OpenSpec.ofChange chaseTellsSpec)) chaseTellsCard

/-- THE TIED CARD OF 'riverbanklaw16.ChasePlies'. -/
def chasePliesCard : Claim7 := { stood := { row := chasePliesRow, standIns := [], harness := (true, "16eca0606d6fe60c428d630ecb68eb39218e7b3082c8c6f1ee60b5e55b86e40b"), looks := false }, kinds := [], alts := [], laidByText := true, laidKinds := [.data], laidTests := true, laidLooks := .later }
def ChasePliesCardSaid : Prop := Claim7.holds Tryz.pinned (.plain (OpenSpec.ofChange chasePliesSpec)) chasePliesCard

/-- THE TIED CARD OF 'riverbanklaw16.ChaseTakes'. -/
def chaseTakesCard : Claim7 := { stood := { row := chaseTakesRow, standIns := [], harness := (true, "16eca0606d6fe60c428d630ecb68eb39218e7b3082c8c6f1ee60b5e55b86e40b"), looks := false }, kinds := [], alts := [], laidByText := true, laidKinds := [.data], laidTests := true, laidLooks := .later }
def ChaseTakesCardSaid : Prop := Claim7.holds Tryz.pinned (.plain (OpenSpec.ofChange chaseTakesSpec)) chaseTakesCard

/-- THE TIED CARD OF 'riverbanklaw16.ChaseTurn'. -/
def chaseTurnCard : Claim7 := { stood := { row := chaseTurnRow, standIns := [], harness := (true, "16eca0606d6fe60c428d630ecb68eb39218e7b3082c8c6f1ee60b5e55b86e40b"), looks := false }, kinds := [], alts := [], laidByText := true, laidKinds := [.data], laidTests := true, laidLooks := .later }
def ChaseTurnCardSaid : Prop := Claim7.holds Tryz.pinned (.plain (OpenSpec.ofChange chaseTurnSpec)) chaseTurnCard

/-- THE TIED CARD OF 'riverbanklaw16.ChaseCheck'. -/
def chaseCheckCard : Claim7 := { stood := { row := chaseCheckRow, standIns := [], harness := (true, "16eca0606d6fe60c428d630ecb68eb39218e7b3082c8c6f1ee60b5e55b86e40b"), looks := false }, kinds := [], alts := [], laidByText := true, laidKinds := [.data], laidTests := true, laidLooks := .later }
def ChaseCheckCardSaid : Prop := Claim7.holds Tryz.pinned (.plain (OpenSpec.ofChange chaseCheckSpec)) chaseCheckCard

/-- THE SECOND FORM's CARD OF 'riverbanklaw15.GuardTells'. -/
def guardTellsUptoCard : Claim7 := { stood := { row := guardTellsUptoRow, standIns := [], harness := (true, "16eca0606d6fe60c428d630ecb68eb39218e7b3082c8c6f1ee60b5e55b86e40b"), looks := false }, kinds := [], alts := [], laidByText := true, laidKinds := [.data], laidTests := true, laidLooks := .later }
def GuardTellsUptoCardSaid : Prop := Claim7.holds Tryz.pinned (.plain (OpenSpec.upto guardTellsSpec)) guardTellsUptoCard

/-- THE SECOND FORM's CARD OF 'riverbanklaw15.GuardMoves'. -/
def guardMovesUptoCard : Claim7 := { stood := { row := guardMovesUptoRow, standIns := [], harness := (true, "16eca0606d6fe60c428d630ecb68eb39218e7b3082c8c6f1ee60b5e55b86e40b"), looks := false }, kinds := [], alts := [], laidByText := true, laidKinds := [.data], laidTests := true, laidLooks := .later }
def GuardMovesUptoCardSaid : Prop := Claim7.holds Tryz.pinned (.plain (OpenSpec.upto guardMovesSpec)) guardMovesUptoCard

/-- THE SECOND FORM's CARD OF 'riverbanklaw15.GuardAgain'. -/
def guardAgainUptoCard : Claim7 := { stood := { row := guardAgainUptoRow, standIns := [], harness := (true, "16eca0606d6fe60c428d630ecb68eb39218e7b3082c8c6f1ee60b5e55b86e40b"), looks := false }, kinds := [], alts := [], laidByText := true, laidKinds := [.data], laidTests := true, laidLooks := .later }
def GuardAgainUptoCardSaid : Prop := Claim7.holds Tryz.pinned (.plain (OpenSpec.upto guardAgainSpec)) guardAgainUptoCard

/-- THE SECOND FORM's CARD OF 'riverbanklaw16.ChaseTells'. -/
def chaseTellsUptoCard : Claim7 := { stood := { row := chaseTellsUptoRow, standIns := [], harness := (true, "16eca0606d6fe60c428d630ecb68eb39218e7b3082c8c6f1ee60b5e55b86e40b"), looks := false }, kinds := [], alts := [], laidByText := true, laidKinds := [.data], laidTests := true, laidLooks := .later }
def ChaseTellsUptoCardSaid : Prop := Claim7.holds Tryz.pinned (.plain (OpenSpec.upto chaseTellsSpec)) chaseTellsUptoCard

/-- THE SECOND FORM's CARD OF 'riverbanklaw16.ChasePlies'. -/
def chasePliesUptoCard : Claim7 := { stood := { row := chasePliesUptoRow, standIns := [], harness := (true, "16eca0606d6fe60c428d630ecb68eb39218e7b3082c8c6f1ee60b5e55b86e40b"), looks := false }, kinds := [], alts := [], laidByText := true, laidKinds := [.data], laidTests := true, laidLooks := .later }
def ChasePliesUptoCardSaid : Prop := Claim7.holds Tryz.pinned (.plain (OpenSpec.upto chasePliesSpec)) chasePliesUptoCard

/-- THE SECOND FORM's CARD OF 'riverbanklaw16.ChaseTakes'. -/
def chaseTakesUptoCard : Claim7 := { stood := { row := chaseTakesUptoRow, standIns := [], harness := (true, "16eca0606d6fe60c428d630ecb68eb39218e7b3082c8c6f1ee60b5e55b86e40b"), looks := false }, kinds := [], alts := [], laidByText := true, laidKinds := [.data], laidTests := true, laidLooks := .later }
def ChaseTakesUptoCardSaid : Prop := Claim7.holds Tryz.pinned (.plain (OpenSpec.upto chaseTakesSpec)) chaseTakesUptoCard

/-- THE SECOND FORM's CARD OF 'riverbanklaw16.ChaseTurn'. -/
def chaseTurnUptoCard : Claim7 := { stood := { row := chaseTurnUptoRow, standIns := [], harness := (true, "16eca0606d6fe60c428d630ecb68eb39218e7b3082c8c6f1ee60b5e55b86e40b"), looks := false }, kinds := [], alts := [], laidByText := true, laidKinds := [.data], laidTests := true, laidLooks := .later }
def ChaseTurnUptoCardSaid : Prop := Claim7.holds Tryz.pinned (.plain (OpenSpec.upto chaseTurnSpec)) chaseTurnUptoCard

/-- THE SECOND FORM's CARD OF 'riverbanklaw16.ChaseCheck'. -/
def chaseCheckUptoCard : Claim7 := { stood := { row := chaseCheckUptoRow, standIns := [], harness := (true, "16eca0606d6fe60c428d630ecb68eb39218e7b3082c8c6f1ee60b5e55b86e40b"), looks := false }, kinds := [], alts := [], laidByText := true, laidKinds := [.data], laidTests := true, laidLooks := .later }
def ChaseCheckUptoCardSaid : Prop := Claim7.holds Tryz.pinned (.plain (OpenSpec.upto chaseCheckSpec)) chaseCheckUptoCard
end Rows
end Go.Proofs.YtnpenlmlggpemaaGreatDoor
