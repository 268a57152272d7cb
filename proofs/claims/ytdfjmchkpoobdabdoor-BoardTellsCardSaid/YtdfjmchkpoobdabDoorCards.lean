/-
  DERIVED. GIVEN WITH THE SEED: THE CARDS: each row of YtdfjmchkpoobdabDoorRows.lean that lists a variable, with what it lists TIED to the program's text (the seventh form; the later family's looks); each row that meets fmt, with fmt's text TOLD by the authors' own Lean function (tested against real Go, not proved from fmt's source: count such statements apart). THE CARD IS WHAT COUNTS. Prove the row's statement (the work); the ties are given (YtdfjmchkpoobdabDoorTie.lean); close each card by the builder's one call (the guide's Derived/Test/ToyasCard.lean, 'card_holds'). Laid BY PROGRAM, IN A SANDBOX (cutbox-door.mjs). By AI agents, Wed Nov 11 2026. No macro, syntax, notation, axiom, sorry.
-/
import Derived.Test.YtdfjmchkpoobdabDoorRows
import GoSem.ClaimSeven
namespace Go.Proofs.YtdfjmchkpoobdabDoor
namespace Rows

/-- THE TIED CARD OF 'riverbanklaw02.BoardTells'. -/
def boardTellsCard : Claim7 := { stood := { row := boardTellsRow, standIns := [], harness := (true, "807b251380a021e0020fd11f106a749a13f1218ef94cd9a6da4889008ba470e6"), looks := false }, kinds := [], alts := [], laidByText := true, laidKinds := [.data], laidTests := true, laidLooks := .later }
def BoardTellsCardSaid : Prop := Claim7.holds Tryd.pinned (.plain (OpenSpec.ofChange boardTellsSpec)) boardTellsCard

/-- THE TIED CARD OF 'riverbanklaw02.BoardWords'. -/
def boardWordsCard : Claim7 := { stood := { row := boardWordsRow, standIns := [], harness := (true, "807b251380a021e0020fd11f106a749a13f1218ef94cd9a6da4889008ba470e6"), looks := false }, kinds := [], alts := [], laidByText := true, laidKinds := [.data], laidTests := true, laidLooks := .later }
def BoardWordsCardSaid : Prop := Claim7.holds Tryd.pinned (.plain (OpenSpec.ofChange boardWordsSpec)) boardWordsCard

/-- THE TIED CARD OF 'riverbanklaw02.BoardTurn'. -/
def boardTurnCard : Claim7 := { stood := { row := boardTurnRow, standIns := [], harness := (true, "807b251380a021e0020fd11f106a749a13f1218ef94cd9a6da4889008ba470e6"), looks := false }, kinds := [], alts := [], laidByText := true, laidKinds := [.data], laidTests := true, laidLooks := .later }
def BoardTurnCardSaid : Prop := Claim7.holds Tryd.pinned (.plain (OpenSpec.ofChange boardTurnSpec)) boardTurnCard

/-- THE TIED CARD OF 'riverbanklaw02.BoardPut'. -/
def boardPutCard : Claim7 := { stood := { row := boardPutRow, standIns := [], harness := (true, "807b251380a021e0020fd11f106a749a13f1218ef94cd9a6da4889008ba470e6"), looks := false }, kinds := [], alts := [], laidByText := true, laidKinds := [.data], laidTests := true, laidLooks := .later }
def BoardPutCardSaid : Prop := Claim7.holds Tryd.pinned (.plain (OpenSpec.ofChange boardPutSpec)) boardPutCard

/-- THE TIED CARD OF 'riverbanklaw02.BoardCounts'. -/
def boardCountsCard : Claim7 := { stood := { row := boardCountsRow, standIns := [], harness := (true, "807b251380a021e0020fd11f106a749a13f1218ef94cd9a6da4889008ba470e6"), looks := false }, kinds := [], alts := [], laidByText := true, laidKinds := [.data], laidTests := true, laidLooks := .later }
def BoardCountsCardSaid : Prop := Claim7.holds Tryd.pinned (.plain (OpenSpec.ofChange boardCountsSpec)) boardCountsCard

/-- THE TIED CARD OF 'riverbanklaw02.BoardSquares'. -/
def boardSquaresCard : Claim7 := { stood := { row := boardSquaresRow, standIns := [], harness := (true, "807b251380a021e0020fd11f106a749a13f1218ef94cd9a6da4889008ba470e6"), looks := false }, kinds := [], alts := [], laidByText := true, laidKinds := [.data], laidTests := true, laidLooks := .later }
def BoardSquaresCardSaid : Prop := Claim7.holds Tryd.pinned (.plain (OpenSpec.ofChange boardSquaresSpec)) boardSquaresCard

/-- THE SECOND FORM's CARD OF 'riverbanklaw02.BoardTells'. -/
def boardTellsUptoCard : Claim7 := { stood := { row := boardTellsUptoRow, standIns := [], harness := (true, "807b251380a021e0020fd11f106a749a13f1218ef94cd9a6da4889008ba470e6"), looks := false }, kinds := [], alts := [], laidByText := true, laidKinds := [.data], laidTests := true, laidLooks := .later }
def BoardTellsUptoCardSaid : Prop := Claim7.holds Tryd.pinned (.plain (OpenSpec.upto boardTellsSpec)) boardTellsUptoCard

/-- THE SECOND FORM's CARD OF 'riverbanklaw02.BoardWords'. -/
def boardWordsUptoCard : Claim7 := { stood := { row := boardWordsUptoRow, standIns := [], harness := (true, "807b251380a021e0020fd11f106a749a13f1218ef94cd9a6da4889008ba470e6"), looks := false }, kinds := [], alts := [], laidByText := true, laidKinds := [.data], laidTests := true, laidLooks := .later }
def BoardWordsUptoCardSaid : Prop := Claim7.holds Tryd.pinned (.plain (OpenSpec.upto boardWordsSpec)) boardWordsUptoCard

/-- THE SECOND FORM's CARD OF 'riverbanklaw02.BoardTurn'. -/
def boardTurnUptoCard : Claim7 := { stood := { row := boardTurnUptoRow, standIns := [], harness := (true, "807b251380a021e0020fd11f106a749a13f1218ef94cd9a6da4889008ba470e6"), looks := false }, kinds := [], alts := [], laidByText := true, laidKinds := [.data], laidTests := true, laidLooks := .later }
def BoardTurnUptoCardSaid : Prop := Claim7.holds Tryd.pinned (.plain (OpenSpec.upto boardTurnSpec)) boardTurnUptoCard

/-- THE SECOND FORM's CARD OF 'riverbanklaw02.BoardPut'. -/
def boardPutUptoCard : Claim7 := { stood := { row := boardPutUptoRow, standIns := [], harness := (true, "807b251380a021e0020fd11f106a749a13f1218ef94cd9a6da4889008ba470e6"), looks := false }, kinds := [], alts := [], laidByText := true, laidKinds := [.data], laidTests := true, laidLooks := .later }
def BoardPutUptoCardSaid : Prop := Claim7.holds Tryd.pinned (.plain (OpenSpec.upto boardPutSpec)) boardPutUptoCard

/-- THE SECOND FORM's CARD OF 'riverbanklaw02.BoardCounts'. -/
def boardCountsUptoCard : Claim7 := { stood := { row := boardCountsUptoRow, standIns := [], harness := (true, "807b251380a021e0020fd11f106a749a13f1218ef94cd9a6da4889008ba470e6"), looks := false }, kinds := [], alts := [], laidByText := true, laidKinds := [.data], laidTests := true, laidLooks := .later }
def BoardCountsUptoCardSaid : Prop := Claim7.holds Tryd.pinned (.plain (OpenSpec.upto boardCountsSpec)) boardCountsUptoCard

/-- THE SECOND FORM's CARD OF 'riverbanklaw02.BoardSquares'. -/
def boardSquaresUptoCard : Claim7 := { stood := { row := boardSquaresUptoRow, standIns := [], harness := (true, "807b251380a021e0020fd11f106a749a13f1218ef94cd9a6da4889008ba470e6"), looks := false }, kinds := [], alts := [], laidByText := true, laidKinds := [.data], laidTests := true, laidLooks := .later }
def BoardSquaresUptoCardSaid : Prop := Claim7.holds Tryd.pinned (.plain (OpenSpec.upto boardSquaresSpec)) boardSquaresUptoCard
end Rows
end Go.Proofs.YtdfjmchkpoobdabDoor
