/-
  DERIVED. GIVEN WITH THE SEED: THE CARDS: each row of YtbdgbihdhbjljaaGreatDoorRows.lean that lists a variable, with what it lists TIED to the program's text (the seventh form; the later family's looks); each row that meets fmt, with fmt's text TOLD by the authors' own Lean function (tested against real Go, not proved from fmt's source: count such statements apart). THE CARD IS WHAT COUNTS. Prove the row's statement (the work); the ties are given (YtbdgbihdhbjljaaGreatDoorTie.lean); close each card by the builder's one call (the guide's Derived/Test/ToyasCard.lean, 'card_holds'). Laid BY PROGRAM, IN A SANDBOX (cutbox-door.mjs). By AI agents, Wed Nov 11 2026. No macro, syntax, notation, axiom, sorry.
-/
import Derived.Test.YtbdgbihdhbjljaaGreatDoorRows
import GoSem.ClaimSeven
namespace Go.Proofs.YtbdgbihdhbjljaaGreatDoor
namespace Rows

/-- THE TIED CARD OF 'riverbanklaw18.JudgePlays'. -/
def judgePlaysCard : Claim7 := { stood := { row := judgePlaysRow, standIns := [], harness := (true, "0302db25943ae2e256ee979c0953ea5374052d2377c2855189640c60c4f0f996"), looks := false }, kinds := [], alts := [], laidByText := true, laidKinds := [.data], laidTests := true, laidLooks := .later }
def JudgePlaysCardSaid : Prop := Claim7.holds Tryz.pinned (.plain (OpenSpec.ofChange judgePlaysSpec)) judgePlaysCard

/-- THE TIED CARD OF 'riverbanklaw19.MatchScripts'. -/
def matchScriptsCard : Claim7 := { stood := { row := matchScriptsRow, standIns := [], harness := (true, "0302db25943ae2e256ee979c0953ea5374052d2377c2855189640c60c4f0f996"), looks := false }, kinds := [], alts := [], laidByText := true, laidKinds := [.data], laidTests := true, laidLooks := .later }
def MatchScriptsCardSaid : Prop := Claim7.holds Tryz.pinned (.plain (OpenSpec.ofChange matchScriptsSpec)) matchScriptsCard

/-- THE TIED CARD OF 'riverbanklaw19.MatchBans'. -/
def matchBansCard : Claim7 := { stood := { row := matchBansRow, standIns := [], harness := (true, "0302db25943ae2e256ee979c0953ea5374052d2377c2855189640c60c4f0f996"), looks := false }, kinds := [], alts := [], laidByText := true, laidKinds := [.data], laidTests := true, laidLooks := .later }
def MatchBansCardSaid : Prop := Claim7.holds Tryz.pinned (.plain (OpenSpec.ofChange matchBansSpec)) matchBansCard

/-- THE TIED CARD OF 'riverbanklaw19.MatchRefused'. -/
def matchRefusedCard : Claim7 := { stood := { row := matchRefusedRow, standIns := [], harness := (true, "0302db25943ae2e256ee979c0953ea5374052d2377c2855189640c60c4f0f996"), looks := false }, kinds := [], alts := [], laidByText := true, laidKinds := [.data], laidTests := true, laidLooks := .later }
def MatchRefusedCardSaid : Prop := Claim7.holds Tryz.pinned (.plain (OpenSpec.ofChange matchRefusedSpec)) matchRefusedCard

/-- THE TIED CARD OF 'riverbanklaw19.MatchSet'. -/
def matchSetCard : Claim7 := { stood := { row := matchSetRow, standIns := [], harness := (true, "0302db25943ae2e256ee979c0953ea5374052d2377c2855189640c60c4f0f996"), looks := false }, kinds := [], alts := [], laidByText := true, laidKinds := [.data], laidTests := true, laidLooks := .later }
def MatchSetCardSaid : Prop := Claim7.holds Tryz.pinned (.plain (OpenSpec.ofChange matchSetSpec)) matchSetCard

/-- THE TIED CARD OF 'riverbanklaw19.MatchAll'. -/
def matchAllCard : Claim7 := { stood := { row := matchAllRow, standIns := [], harness := (true, "0302db25943ae2e256ee979c0953ea5374052d2377c2855189640c60c4f0f996"), looks := false }, kinds := [], alts := [], laidByText := true, laidKinds := [.data], laidTests := true, laidLooks := .later }
def MatchAllCardSaid : Prop := Claim7.holds Tryz.pinned (.plain (OpenSpec.ofChange matchAllSpec)) matchAllCard

/-- THE TIED CARD OF 'riverbanklaw21.QuietOf'. -/
def quietOfCard : Claim7 := { stood := { row := quietOfRow, standIns := [], harness := (true, "0302db25943ae2e256ee979c0953ea5374052d2377c2855189640c60c4f0f996"), looks := false }, kinds := [], alts := [], laidByText := true, laidKinds := [.data], laidTests := true, laidLooks := .later }
def QuietOfCardSaid : Prop := Claim7.holds Tryz.pinned (.plain (OpenSpec.ofChange quietOfSpec)) quietOfCard

/-- THE TIED CARD OF 'riverbanklaw21.QuietTurn'. -/
def quietTurnCard : Claim7 := { stood := { row := quietTurnRow, standIns := [], harness := (true, "0302db25943ae2e256ee979c0953ea5374052d2377c2855189640c60c4f0f996"), looks := false }, kinds := [], alts := [], laidByText := true, laidKinds := [.data], laidTests := true, laidLooks := .later }
def QuietTurnCardSaid : Prop := Claim7.holds Tryz.pinned (.plain (OpenSpec.ofChange quietTurnSpec)) quietTurnCard

/-- THE TIED CARD OF 'riverbanklaw21.QuietWindow'. -/
def quietWindowCard : Claim7 := { stood := { row := quietWindowRow, standIns := [], harness := (true, "0302db25943ae2e256ee979c0953ea5374052d2377c2855189640c60c4f0f996"), looks := false }, kinds := [], alts := [], laidByText := true, laidKinds := [.data], laidTests := true, laidLooks := .later }
def QuietWindowCardSaid : Prop := Claim7.holds Tryz.pinned (.plain (OpenSpec.ofChange quietWindowSpec)) quietWindowCard

/-- THE SECOND FORM's CARD OF 'riverbanklaw18.JudgePlays'. -/
def judgePlaysUptoCard : Claim7 := { stood := { row := judgePlaysUptoRow, standIns := [], harness := (true, "0302db25943ae2e256ee979c0953ea5374052d2377c2855189640c60c4f0f996"), looks := false }, kinds := [], alts := [], laidByText := true, laidKinds := [.data], laidTests := true, laidLooks := .later }
def JudgePlaysUptoCardSaid : Prop := Claim7.holds Tryz.pinned (.plain (OpenSpec.upto judgePlaysSpec)) judgePlaysUptoCard

/-- THE SECOND FORM's CARD OF 'riverbanklaw19.MatchScripts'. -/
def matchScriptsUptoCard : Claim7 := { stood := { row := matchScriptsUptoRow, standIns := [], harness := (true, "0302db25943ae2e256ee979c0953ea5374052d2377c2855189640c60c4f0f996"), looks := false }, kinds := [], alts := [], laidByText := true, laidKinds := [.data], laidTests := true, laidLooks := .later }
def MatchScriptsUptoCardSaid : Prop := Claim7.holds Tryz.pinned (.plain (OpenSpec.upto matchScriptsSpec)) matchScriptsUptoCard

/-- THE SECOND FORM's CARD OF 'riverbanklaw19.MatchBans'. -/
def matchBansUptoCard : Claim7 := { stood := { row := matchBansUptoRow, standIns := [], harness := (true, "0302db25943ae2e256ee979c0953ea5374052d2377c2855189640c60c4f0f996"), looks := false }, kinds := [], alts := [], laidByText := true, laidKinds := [.data], laidTests := true, laidLooks := .later }
def MatchBansUptoCardSaid : Prop := Claim7.holds Tryz.pinned (.plain (OpenSpec.upto matchBansSpec)) matchBansUptoCard

/-- THE SECOND FORM's CARD OF 'riverbanklaw19.MatchRefused'. -/
def matchRefusedUptoCard : Claim7 := { stood := { row := matchRefusedUptoRow, standIns := [], harness := (true, "0302db25943ae2e256ee979c0953ea5374052d2377c2855189640c60c4f0f996"), looks := false }, kinds := [], alts := [], laidByText := true, laidKinds := [.data], laidTests := true, laidLooks := .later }
def MatchRefusedUptoCardSaid : Prop := Claim7.holds Tryz.pinned (.plain (OpenSpec.upto matchRefusedSpec)) matchRefusedUptoCard

/-- THE SECOND FORM's CARD OF 'riverbanklaw19.MatchSet'. -/
def matchSetUptoCard : Claim7 := { stood := { row := matchSetUptoRow, standIns := [], harness := (true, "0302db25943ae2e256ee979c0953ea5374052d2377c2855189640c60c4f0f996"), looks := false }, kinds := [], alts := [], laidByText := true, laidKinds := [.data], laidTests := true, laidLooks := .later }
def MatchSetUptoCardSaid : Prop := Claim7.holds Tryz.pinned (.plain (OpenSpec.upto matchSetSpec)) matchSetUptoCard

/-- THE SECOND FORM's CARD OF 'riverbanklaw19.MatchAll'. -/
def matchAllUptoCard : Claim7 := { stood := { row := matchAllUptoRow, standIns := [], harness := (true, "0302db25943ae2e256ee979c0953ea5374052d2377c2855189640c60c4f0f996"), looks := false }, kinds := [], alts := [], laidByText := true, laidKinds := [.data], laidTests := true, laidLooks := .later }
def MatchAllUptoCardSaid : Prop := Claim7.holds Tryz.pinned (.plain (OpenSpec.upto matchAllSpec)) matchAllUptoCard

/-- THE SECOND FORM's CARD OF 'riverbanklaw21.QuietOf'. -/
def quietOfUptoCard : Claim7 := { stood := { row := quietOfUptoRow, standIns := [], harness := (true, "0302db25943ae2e256ee979c0953ea5374052d2377c2855189640c60c4f0f996"), looks := false }, kinds := [], alts := [], laidByText := true, laidKinds := [.data], laidTests := true, laidLooks := .later }
def QuietOfUptoCardSaid : Prop := Claim7.holds Tryz.pinned (.plain (OpenSpec.upto quietOfSpec)) quietOfUptoCard

/-- THE SECOND FORM's CARD OF 'riverbanklaw21.QuietTurn'. -/
def quietTurnUptoCard : Claim7 := { stood := { row := quietTurnUptoRow, standIns := [], harness := (true, "0302db25943ae2e256ee979c0953ea5374052d2377c2855189640c60c4f0f996"), looks := false }, kinds := [], alts := [], laidByText := true, laidKinds := [.data], laidTests := true, laidLooks := .later }
def QuietTurnUptoCardSaid : Prop := Claim7.holds Tryz.pinned (.plain (OpenSpec.upto quietTurnSpec)) quietTurnUptoCard

/-- THE SECOND FORM's CARD OF 'riverbanklaw21.QuietWindow'. -/
def quietWindowUptoCard : Claim7 := { stood := { row := quietWindowUptoRow, standIns := [], harness := (true, "0302db25943ae2e256ee979c0953ea5374052d2377c2855189640c60c4f0f996"), looks := false }, kinds := [], alts := [], laidByText := true, laidKinds := [.data], laidTests := true, laidLooks := .later }
def QuietWindowUptoCardSaid : Prop := Claim7.holds Tryz.pinned (.plain (OpenSpec.upto quietWindowSpec)) quietWindowUptoCard
end Rows
end Go.Proofs.YtbdgbihdhbjljaaGreatDoor
