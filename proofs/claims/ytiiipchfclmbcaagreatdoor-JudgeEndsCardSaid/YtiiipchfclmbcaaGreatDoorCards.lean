/-
  DERIVED. GIVEN WITH THE SEED: THE CARDS: each row of YtiiipchfclmbcaaGreatDoorRows.lean that lists a variable, with what it lists TIED to the program's text (the seventh form; the later family's looks); each row that meets fmt, with fmt's text TOLD by the authors' own Lean function (tested against real Go, not proved from fmt's source: count such statements apart). THE CARD IS WHAT COUNTS. Prove the row's statement (the work); the ties are given (YtiiipchfclmbcaaGreatDoorTie.lean); close each card by the builder's one call (the guide's Derived/Test/ToyasCard.lean, 'card_holds'). Laid BY PROGRAM, IN A SANDBOX (cutbox-door.mjs). By AI agents, Wed Nov 11 2026. No macro, syntax, notation, axiom, sorry.
-/
import Derived.Test.YtiiipchfclmbcaaGreatDoorRows
import GoSem.ClaimSeven
namespace Go.Proofs.YtiiipchfclmbcaaGreatDoor
namespace Rows

/-- THE TIED CARD OF 'riverbanklaw18.JudgePlays'. -/
def judgePlaysCard : Claim7 := { stood := { row := judgePlaysRow, standIns := [], harness := (true, "a3c81ecedcebaeca92d56a148229ff00e0f05389f262294a730ca0369f6bdc23"), looks := false }, kinds := [], alts := [], laidByText := true, laidKinds := [.data], laidTests := true, laidLooks := .later }
def JudgePlaysCardSaid : Prop := Claim7.holds Tryz.pinned (.plain (OpenSpec.ofChange judgePlaysSpec)) judgePlaysCard

/-- THE TIED CARD OF 'riverbanklaw18.JudgeTable'. -/
def judgeTableCard : Claim7 := { stood := { row := judgeTableRow, standIns := [], harness := (true, "a3c81ecedcebaeca92d56a148229ff00e0f05389f262294a730ca0369f6bdc23"), looks := false }, kinds := [], alts := [], laidByText := true, laidKinds := [.data], laidTests := true, laidLooks := .later }
def JudgeTableCardSaid : Prop := Claim7.holds Tryz.pinned (.plain (OpenSpec.ofChange judgeTableSpec)) judgeTableCard

/-- THE TIED CARD OF 'riverbanklaw18.JudgeEnds'. -/
def judgeEndsCard : Claim7 := { stood := { row := judgeEndsRow, standIns := [], harness := (true, "a3c81ecedcebaeca92d56a148229ff00e0f05389f262294a730ca0369f6bdc23"), looks := false }, kinds := [], alts := [], laidByText := true, laidKinds := [.data], laidTests := true, laidLooks := .later }
def JudgeEndsCardSaid : Prop := Claim7.holds Tryz.pinned (.plain (OpenSpec.ofChange judgeEndsSpec)) judgeEndsCard

/-- THE TIED CARD OF 'riverbanklaw18.JudgeTurn'. -/
def judgeTurnCard : Claim7 := { stood := { row := judgeTurnRow, standIns := [], harness := (true, "a3c81ecedcebaeca92d56a148229ff00e0f05389f262294a730ca0369f6bdc23"), looks := false }, kinds := [], alts := [], laidByText := true, laidKinds := [.data], laidTests := true, laidLooks := .later }
def JudgeTurnCardSaid : Prop := Claim7.holds Tryz.pinned (.plain (OpenSpec.ofChange judgeTurnSpec)) judgeTurnCard

/-- THE TIED CARD OF 'riverbanklaw18.JudgeAhead'. -/
def judgeAheadCard : Claim7 := { stood := { row := judgeAheadRow, standIns := [], harness := (true, "a3c81ecedcebaeca92d56a148229ff00e0f05389f262294a730ca0369f6bdc23"), looks := false }, kinds := [], alts := [], laidByText := true, laidKinds := [.data], laidTests := true, laidLooks := .later }
def JudgeAheadCardSaid : Prop := Claim7.holds Tryz.pinned (.plain (OpenSpec.ofChange judgeAheadSpec)) judgeAheadCard

/-- THE TIED CARD OF 'riverbanklaw19.MatchScripts'. -/
def matchScriptsCard : Claim7 := { stood := { row := matchScriptsRow, standIns := [], harness := (true, "a3c81ecedcebaeca92d56a148229ff00e0f05389f262294a730ca0369f6bdc23"), looks := false }, kinds := [], alts := [], laidByText := true, laidKinds := [.data], laidTests := true, laidLooks := .later }
def MatchScriptsCardSaid : Prop := Claim7.holds Tryz.pinned (.plain (OpenSpec.ofChange matchScriptsSpec)) matchScriptsCard

/-- THE TIED CARD OF 'riverbanklaw19.MatchBans'. -/
def matchBansCard : Claim7 := { stood := { row := matchBansRow, standIns := [], harness := (true, "a3c81ecedcebaeca92d56a148229ff00e0f05389f262294a730ca0369f6bdc23"), looks := false }, kinds := [], alts := [], laidByText := true, laidKinds := [.data], laidTests := true, laidLooks := .later }
def MatchBansCardSaid : Prop := Claim7.holds Tryz.pinned (.plain (OpenSpec.ofChange matchBansSpec)) matchBansCard

/-- THE TIED CARD OF 'riverbanklaw19.MatchRefused'. -/
def matchRefusedCard : Claim7 := { stood := { row := matchRefusedRow, standIns := [], harness := (true, "a3c81ecedcebaeca92d56a148229ff00e0f05389f262294a730ca0369f6bdc23"), looks := false }, kinds := [], alts := [], laidByText := true, laidKinds := [.data], laidTests := true, laidLooks := .later }
def MatchRefusedCardSaid : Prop := Claim7.holds Tryz.pinned (.plain (OpenSpec.ofChange matchRefusedSpec)) matchRefusedCard

/-- THE TIED CARD OF 'riverbanklaw19.MatchSet'. -/
def matchSetCard : Claim7 := { stood := { row := matchSetRow, standIns := [], harness := (true, "a3c81ecedcebaeca92d56a148229ff00e0f05389f262294a730ca0369f6bdc23"), looks := false }, kinds := [], alts := [], laidByText := true, laidKinds := [.data], laidTests := true, laidLooks := .later }
def MatchSetCardSaid : Prop := Claim7.holds Tryz.pinned (.plain (OpenSpec.ofChange matchSetSpec)) matchSetCard

/-- THE TIED CARD OF 'riverbanklaw19.MatchAll'. -/
def matchAllCard : Claim7 := { stood := { row := matchAllRow, standIns := [], harness := (true, "a3c81ecedcebaeca92d56a148229ff00e0f05389f262294a730ca0369f6bdc23"), looks := false }, kinds := [], alts := [], laidByText := true, laidKinds := [.data], laidTests := true, laidLooks := .later }
def MatchAllCardSaid : Prop := Claim7.holds Tryz.pinned (.plain (OpenSpec.ofChange matchAllSpec)) matchAllCard

/-- THE SECOND FORM's CARD OF 'riverbanklaw18.JudgePlays'. -/
def judgePlaysUptoCard : Claim7 := { stood := { row := judgePlaysUptoRow, standIns := [], harness := (true, "a3c81ecedcebaeca92d56a148229ff00e0f05389f262294a730ca0369f6bdc23"), looks := false }, kinds := [], alts := [], laidByText := true, laidKinds := [.data], laidTests := true, laidLooks := .later }
def JudgePlaysUptoCardSaid : Prop := Claim7.holds Tryz.pinned (.plain (OpenSpec.upto judgePlaysSpec)) judgePlaysUptoCard

/-- THE SECOND FORM's CARD OF 'riverbanklaw18.JudgeTable'. -/
def judgeTableUptoCard : Claim7 := { stood := { row := judgeTableUptoRow, standIns := [], harness := (true, "a3c81ecedcebaeca92d56a148229ff00e0f05389f262294a730ca0369f6bdc23"), looks := false }, kinds := [], alts := [], laidByText := true, laidKinds := [.data], laidTests := true, laidLooks := .later }
def JudgeTableUptoCardSaid : Prop := Claim7.holds Tryz.pinned (.plain (OpenSpec.upto judgeTableSpec)) judgeTableUptoCard

/-- THE SECOND FORM's CARD OF 'riverbanklaw18.JudgeEnds'. -/
def judgeEndsUptoCard : Claim7 := { stood := { row := judgeEndsUptoRow, standIns := [], harness := (true, "a3c81ecedcebaeca92d56a148229ff00e0f05389f262294a730ca0369f6bdc23"), looks := false }, kinds := [], alts := [], laidByText := true, laidKinds := [.data], laidTests := true, laidLooks := .later }
def JudgeEndsUptoCardSaid : Prop := Claim7.holds Tryz.pinned (.plain (OpenSpec.upto judgeEndsSpec)) judgeEndsUptoCard

/-- THE SECOND FORM's CARD OF 'riverbanklaw18.JudgeTurn'. -/
def judgeTurnUptoCard : Claim7 := { stood := { row := judgeTurnUptoRow, standIns := [], harness := (true, "a3c81ecedcebaeca92d56a148229ff00e0f05389f262294a730ca0369f6bdc23"), looks := false }, kinds := [], alts := [], laidByText := true, laidKinds := [.data], laidTests := true, laidLooks := .later }
def JudgeTurnUptoCardSaid : Prop := Claim7.holds Tryz.pinned (.plain (OpenSpec.upto judgeTurnSpec)) judgeTurnUptoCard

/-- THE SECOND FORM's CARD OF 'riverbanklaw18.JudgeAhead'. -/
def judgeAheadUptoCard : Claim7 := { stood := { row := judgeAheadUptoRow, standIns := [], harness := (true, "a3c81ecedcebaeca92d56a148229ff00e0f05389f262294a730ca0369f6bdc23"), looks := false }, kinds := [], alts := [], laidByText := true, laidKinds := [.data], laidTests := true, laidLooks := .later }
def JudgeAheadUptoCardSaid : Prop := Claim7.holds Tryz.pinned (.plain (OpenSpec.upto judgeAheadSpec)) judgeAheadUptoCard

/-- THE SECOND FORM's CARD OF 'riverbanklaw19.MatchScripts'. -/
def matchScriptsUptoCard : Claim7 := { stood := { row := matchScriptsUptoRow, standIns := [], harness := (true, "a3c81ecedcebaeca92d56a148229ff00e0f05389f262294a730ca0369f6bdc23"), looks := false }, kinds := [], alts := [], laidByText := true, laidKinds := [.data], laidTests := true, laidLooks := .later }
def MatchScriptsUptoCardSaid : Prop := Claim7.holds Tryz.pinned (.plain (OpenSpec.upto matchScriptsSpec)) matchScriptsUptoCard

/-- THE SECOND FORM's CARD OF 'riverbanklaw19.MatchBans'. -/
def matchBansUptoCard : Claim7 := { stood := { row := matchBansUptoRow, standIns := [], harness := (true, "a3c81ecedcebaeca92d56a148229ff00e0f05389f262294a730ca0369f6bdc23"), looks := false }, kinds := [], alts := [], laidByText := true, laidKinds := [.data], laidTests := true, laidLooks := .later }
def MatchBansUptoCardSaid : Prop := Claim7.holds Tryz.pinned (.plain (OpenSpec.upto matchBansSpec)) matchBansUptoCard

/-- THE SECOND FORM's CARD OF 'riverbanklaw19.MatchRefused'. -/
def matchRefusedUptoCard : Claim7 := { stood := { row := matchRefusedUptoRow, standIns := [], harness := (true, "a3c81ecedcebaeca92d56a148229ff00e0f05389f262294a730ca0369f6bdc23"), looks := false }, kinds := [], alts := [], laidByText := true, laidKinds := [.data], laidTests := true, laidLooks := .later }
def MatchRefusedUptoCardSaid : Prop := Claim7.holds Tryz.pinned (.plain (OpenSpec.upto matchRefusedSpec)) matchRefusedUptoCard

/-- THE SECOND FORM's CARD OF 'riverbanklaw19.MatchSet'. -/
def matchSetUptoCard : Claim7 := { stood := { row := matchSetUptoRow, standIns := [], harness := (true, "a3c81ecedcebaeca92d56a148229ff00e0f05389f262294a730ca0369f6bdc23"), looks := false }, kinds := [], alts := [], laidByText := true, laidKinds := [.data], laidTests := true, laidLooks := .later }
def MatchSetUptoCardSaid : Prop := Claim7.holds Tryz.pinned (.plain (OpenSpec.upto matchSetSpec)) matchSetUptoCard

/-- THE SECOND FORM's CARD OF 'riverbanklaw19.MatchAll'. -/
def matchAllUptoCard : Claim7 := { stood := { row := matchAllUptoRow, standIns := [], harness := (true, "a3c81ecedcebaeca92d56a148229ff00e0f05389f262294a730ca0369f6bdc23"), looks := false }, kinds := [], alts := [], laidByText := true, laidKinds := [.data], laidTests := true, laidLooks := .later }
def MatchAllUptoCardSaid : Prop := Claim7.holds Tryz.pinned (.plain (OpenSpec.upto matchAllSpec)) matchAllUptoCard
end Rows
end Go.Proofs.YtiiipchfclmbcaaGreatDoor
