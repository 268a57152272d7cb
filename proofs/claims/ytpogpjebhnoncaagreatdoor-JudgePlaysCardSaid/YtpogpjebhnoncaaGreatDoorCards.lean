/-
  DERIVED. GIVEN WITH THE SEED: THE CARDS: each row of YtpogpjebhnoncaaGreatDoorRows.lean that lists a variable, with what it lists TIED to the program's text (the seventh form; the later family's looks); each row that meets fmt, with fmt's text TOLD by the authors' own Lean function (tested against real Go, not proved from fmt's source: count such statements apart). THE CARD IS WHAT COUNTS. Prove the row's statement (the work); the ties are given (YtpogpjebhnoncaaGreatDoorTie.lean); close each card by the builder's one call (the guide's Derived/Test/ToyasCard.lean, 'card_holds'). Laid BY PROGRAM, IN A SANDBOX (cutbox-door.mjs). By AI agents, Wed Nov 11 2026. No macro, syntax, notation, axiom, sorry.
-/
import Derived.Test.YtpogpjebhnoncaaGreatDoorRows
import GoSem.ClaimSeven
namespace Go.Proofs.YtpogpjebhnoncaaGreatDoor
namespace Rows

/-- THE TIED CARD OF 'riverbanklaw18.JudgePlays'. -/
def judgePlaysCard : Claim7 := { stood := { row := judgePlaysRow, standIns := [], harness := (true, "6dae32c118c8277aa27e69df514f4749e9bd7b90af265f14bbe85214529b4adf"), looks := false }, kinds := [], alts := [], laidByText := true, laidKinds := [.data], laidTests := true, laidLooks := .later }
def JudgePlaysCardSaid : Prop := Claim7.holds Tryz.pinned (.plain (OpenSpec.ofChange judgePlaysSpec)) judgePlaysCard

/-- THE TIED CARD OF 'riverbanklaw19.MatchScripts'. -/
def matchScriptsCard : Claim7 := { stood := { row := matchScriptsRow, standIns := [], harness := (true, "6dae32c118c8277aa27e69df514f4749e9bd7b90af265f14bbe85214529b4adf"), looks := false }, kinds := [], alts := [], laidByText := true, laidKinds := [.data], laidTests := true, laidLooks := .later }
def MatchScriptsCardSaid : Prop := Claim7.holds Tryz.pinned (.plain (OpenSpec.ofChange matchScriptsSpec)) matchScriptsCard

/-- THE TIED CARD OF 'riverbanklaw22.SearchScores'. -/
def searchScoresCard : Claim7 := { stood := { row := searchScoresRow, standIns := [], harness := (true, "6dae32c118c8277aa27e69df514f4749e9bd7b90af265f14bbe85214529b4adf"), looks := false }, kinds := [], alts := [], laidByText := true, laidKinds := [.data], laidTests := true, laidLooks := .later }
def SearchScoresCardSaid : Prop := Claim7.holds Tryz.pinned (.plain (OpenSpec.ofChange searchScoresSpec)) searchScoresCard

/-- THE TIED CARD OF 'riverbanklaw22.SearchBest'. -/
def searchBestCard : Claim7 := { stood := { row := searchBestRow, standIns := [], harness := (true, "6dae32c118c8277aa27e69df514f4749e9bd7b90af265f14bbe85214529b4adf"), looks := false }, kinds := [], alts := [], laidByText := true, laidKinds := [.data], laidTests := true, laidLooks := .later }
def SearchBestCardSaid : Prop := Claim7.holds Tryz.pinned (.plain (OpenSpec.ofChange searchBestSpec)) searchBestCard

/-- THE TIED CARD OF 'riverbanklaw22.SearchLimited'. -/
def searchLimitedCard : Claim7 := { stood := { row := searchLimitedRow, standIns := [], harness := (true, "6dae32c118c8277aa27e69df514f4749e9bd7b90af265f14bbe85214529b4adf"), looks := false }, kinds := [], alts := [], laidByText := true, laidKinds := [.data], laidTests := true, laidLooks := .later }
def SearchLimitedCardSaid : Prop := Claim7.holds Tryz.pinned (.plain (OpenSpec.ofChange searchLimitedSpec)) searchLimitedCard

/-- THE TIED CARD OF 'riverbanklaw22.SearchTurn'. -/
def searchTurnCard : Claim7 := { stood := { row := searchTurnRow, standIns := [], harness := (true, "6dae32c118c8277aa27e69df514f4749e9bd7b90af265f14bbe85214529b4adf"), looks := false }, kinds := [], alts := [], laidByText := true, laidKinds := [.data], laidTests := true, laidLooks := .later }
def SearchTurnCardSaid : Prop := Claim7.holds Tryz.pinned (.plain (OpenSpec.ofChange searchTurnSpec)) searchTurnCard

/-- THE SECOND FORM's CARD OF 'riverbanklaw18.JudgePlays'. -/
def judgePlaysUptoCard : Claim7 := { stood := { row := judgePlaysUptoRow, standIns := [], harness := (true, "6dae32c118c8277aa27e69df514f4749e9bd7b90af265f14bbe85214529b4adf"), looks := false }, kinds := [], alts := [], laidByText := true, laidKinds := [.data], laidTests := true, laidLooks := .later }
def JudgePlaysUptoCardSaid : Prop := Claim7.holds Tryz.pinned (.plain (OpenSpec.upto judgePlaysSpec)) judgePlaysUptoCard

/-- THE SECOND FORM's CARD OF 'riverbanklaw19.MatchScripts'. -/
def matchScriptsUptoCard : Claim7 := { stood := { row := matchScriptsUptoRow, standIns := [], harness := (true, "6dae32c118c8277aa27e69df514f4749e9bd7b90af265f14bbe85214529b4adf"), looks := false }, kinds := [], alts := [], laidByText := true, laidKinds := [.data], laidTests := true, laidLooks := .later }
def MatchScriptsUptoCardSaid : Prop := Claim7.holds Tryz.pinned (.plain (OpenSpec.upto matchScriptsSpec)) matchScriptsUptoCard

/-- THE SECOND FORM's CARD OF 'riverbanklaw22.SearchScores'. -/
def searchScoresUptoCard : Claim7 := { stood := { row := searchScoresUptoRow, standIns := [], harness := (true, "6dae32c118c8277aa27e69df514f4749e9bd7b90af265f14bbe85214529b4adf"), looks := false }, kinds := [], alts := [], laidByText := true, laidKinds := [.data], laidTests := true, laidLooks := .later }
def SearchScoresUptoCardSaid : Prop := Claim7.holds Tryz.pinned (.plain (OpenSpec.upto searchScoresSpec)) searchScoresUptoCard

/-- THE SECOND FORM's CARD OF 'riverbanklaw22.SearchBest'. -/
def searchBestUptoCard : Claim7 := { stood := { row := searchBestUptoRow, standIns := [], harness := (true, "6dae32c118c8277aa27e69df514f4749e9bd7b90af265f14bbe85214529b4adf"), looks := false }, kinds := [], alts := [], laidByText := true, laidKinds := [.data], laidTests := true, laidLooks := .later }
def SearchBestUptoCardSaid : Prop := Claim7.holds Tryz.pinned (.plain (OpenSpec.upto searchBestSpec)) searchBestUptoCard

/-- THE SECOND FORM's CARD OF 'riverbanklaw22.SearchLimited'. -/
def searchLimitedUptoCard : Claim7 := { stood := { row := searchLimitedUptoRow, standIns := [], harness := (true, "6dae32c118c8277aa27e69df514f4749e9bd7b90af265f14bbe85214529b4adf"), looks := false }, kinds := [], alts := [], laidByText := true, laidKinds := [.data], laidTests := true, laidLooks := .later }
def SearchLimitedUptoCardSaid : Prop := Claim7.holds Tryz.pinned (.plain (OpenSpec.upto searchLimitedSpec)) searchLimitedUptoCard

/-- THE SECOND FORM's CARD OF 'riverbanklaw22.SearchTurn'. -/
def searchTurnUptoCard : Claim7 := { stood := { row := searchTurnUptoRow, standIns := [], harness := (true, "6dae32c118c8277aa27e69df514f4749e9bd7b90af265f14bbe85214529b4adf"), looks := false }, kinds := [], alts := [], laidByText := true, laidKinds := [.data], laidTests := true, laidLooks := .later }
def SearchTurnUptoCardSaid : Prop := Claim7.holds Tryz.pinned (.plain (OpenSpec.upto searchTurnSpec)) searchTurnUptoCard
end Rows
end Go.Proofs.YtpogpjebhnoncaaGreatDoor
