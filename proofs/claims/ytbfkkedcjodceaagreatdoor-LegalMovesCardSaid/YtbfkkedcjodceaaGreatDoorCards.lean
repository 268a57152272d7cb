/-
  DERIVED. GIVEN WITH THE SEED: THE CARDS: each row of YtbfkkedcjodceaaGreatDoorRows.lean that lists a variable, with what it lists TIED to the program's text (the seventh form; the later family's looks); each row that meets fmt, with fmt's text TOLD by the authors' own Lean function (tested against real Go, not proved from fmt's source: count such statements apart). THE CARD IS WHAT COUNTS. Prove the row's statement (the work); the ties are given (YtbfkkedcjodceaaGreatDoorTie.lean); close each card by the builder's one call (the guide's Derived/Test/ToyasCard.lean, 'card_holds'). Laid BY PROGRAM, IN A SANDBOX (cutbox-door.mjs). By AI agents, Wed Nov 11 2026. No macro, syntax, notation, axiom, sorry.
-/
import Derived.Test.YtbfkkedcjodceaaGreatDoorRows
import GoSem.ClaimSeven
namespace Go.Proofs.YtbfkkedcjodceaaGreatDoor
namespace Rows

/-- THE TIED CARD OF 'riverbanklaw08.LegalMoves'. -/
def legalMovesCard : Claim7 := { stood := { row := legalMovesRow, standIns := [], harness := (true, "70516fa4dda1179a31454ad902992469a4040f89e560a735638e99b30268bd2d"), looks := false }, kinds := [], alts := [], laidByText := true, laidKinds := [.data], laidTests := true, laidLooks := .later }
def LegalMovesCardSaid : Prop := Claim7.holds Tryz.pinned (.plain (OpenSpec.ofChange legalMovesSpec)) legalMovesCard

/-- THE TIED CARD OF 'riverbanklaw08.LegalMakes'. -/
def legalMakesCard : Claim7 := { stood := { row := legalMakesRow, standIns := [], harness := (true, "70516fa4dda1179a31454ad902992469a4040f89e560a735638e99b30268bd2d"), looks := false }, kinds := [], alts := [], laidByText := true, laidKinds := [.data], laidTests := true, laidLooks := .later }
def LegalMakesCardSaid : Prop := Claim7.holds Tryz.pinned (.plain (OpenSpec.ofChange legalMakesSpec)) legalMakesCard

/-- THE TIED CARD OF 'riverbanklaw08.LegalRight'. -/
def legalRightCard : Claim7 := { stood := { row := legalRightRow, standIns := [], harness := (true, "70516fa4dda1179a31454ad902992469a4040f89e560a735638e99b30268bd2d"), looks := false }, kinds := [], alts := [], laidByText := true, laidKinds := [.data], laidTests := true, laidLooks := .later }
def LegalRightCardSaid : Prop := Claim7.holds Tryz.pinned (.plain (OpenSpec.ofChange legalRightSpec)) legalRightCard

/-- THE TIED CARD OF 'riverbanklaw08.LegalTurn'. -/
def legalTurnCard : Claim7 := { stood := { row := legalTurnRow, standIns := [], harness := (true, "70516fa4dda1179a31454ad902992469a4040f89e560a735638e99b30268bd2d"), looks := false }, kinds := [], alts := [], laidByText := true, laidKinds := [.data], laidTests := true, laidLooks := .later }
def LegalTurnCardSaid : Prop := Claim7.holds Tryz.pinned (.plain (OpenSpec.ofChange legalTurnSpec)) legalTurnCard

/-- THE TIED CARD OF 'riverbanklaw08.LegalEnds'. -/
def legalEndsCard : Claim7 := { stood := { row := legalEndsRow, standIns := [], harness := (true, "70516fa4dda1179a31454ad902992469a4040f89e560a735638e99b30268bd2d"), looks := false }, kinds := [], alts := [], laidByText := true, laidKinds := [.data], laidTests := true, laidLooks := .later }
def LegalEndsCardSaid : Prop := Claim7.holds Tryz.pinned (.plain (OpenSpec.ofChange legalEndsSpec)) legalEndsCard

/-- THE TIED CARD OF 'riverbanklaw08.LegalClock'. -/
def legalClockCard : Claim7 := { stood := { row := legalClockRow, standIns := [], harness := (true, "70516fa4dda1179a31454ad902992469a4040f89e560a735638e99b30268bd2d"), looks := false }, kinds := [], alts := [], laidByText := true, laidKinds := [.data], laidTests := true, laidLooks := .later }
def LegalClockCardSaid : Prop := Claim7.holds Tryz.pinned (.plain (OpenSpec.ofChange legalClockSpec)) legalClockCard

/-- THE TIED CARD OF 'riverbanklaw08.LegalBlock'. -/
def legalBlockCard : Claim7 := { stood := { row := legalBlockRow, standIns := [], harness := (true, "70516fa4dda1179a31454ad902992469a4040f89e560a735638e99b30268bd2d"), looks := false }, kinds := [], alts := [], laidByText := true, laidKinds := [.data], laidTests := true, laidLooks := .later }
def LegalBlockCardSaid : Prop := Claim7.holds Tryz.pinned (.plain (OpenSpec.ofChange legalBlockSpec)) legalBlockCard

/-- THE SECOND FORM's CARD OF 'riverbanklaw08.LegalMoves'. -/
def legalMovesUptoCard : Claim7 := { stood := { row := legalMovesUptoRow, standIns := [], harness := (true, "70516fa4dda1179a31454ad902992469a4040f89e560a735638e99b30268bd2d"), looks := false }, kinds := [], alts := [], laidByText := true, laidKinds := [.data], laidTests := true, laidLooks := .later }
def LegalMovesUptoCardSaid : Prop := Claim7.holds Tryz.pinned (.plain (OpenSpec.upto legalMovesSpec)) legalMovesUptoCard

/-- THE SECOND FORM's CARD OF 'riverbanklaw08.LegalMakes'. -/
def legalMakesUptoCard : Claim7 := { stood := { row := legalMakesUptoRow, standIns := [], harness := (true, "70516fa4dda1179a31454ad902992469a4040f89e560a735638e99b30268bd2d"), looks := false }, kinds := [], alts := [], laidByText := true, laidKinds := [.data], laidTests := true, laidLooks := .later }
def LegalMakesUptoCardSaid : Prop := Claim7.holds Tryz.pinned (.plain (OpenSpec.upto legalMakesSpec)) legalMakesUptoCard

/-- THE SECOND FORM's CARD OF 'riverbanklaw08.LegalRight'. -/
def legalRightUptoCard : Claim7 := { stood := { row := legalRightUptoRow, standIns := [], harness := (true, "70516fa4dda1179a31454ad902992469a4040f89e560a735638e99b30268bd2d"), looks := false }, kinds := [], alts := [], laidByText := true, laidKinds := [.data], laidTests := true, laidLooks := .later }
def LegalRightUptoCardSaid : Prop := Claim7.holds Tryz.pinned (.plain (OpenSpec.upto legalRightSpec)) legalRightUptoCard

/-- THE SECOND FORM's CARD OF 'riverbanklaw08.LegalTurn'. -/
def legalTurnUptoCard : Claim7 := { stood := { row := legalTurnUptoRow, standIns := [], harness := (true, "70516fa4dda1179a31454ad902992469a4040f89e560a735638e99b30268bd2d"), looks := false }, kinds := [], alts := [], laidByText := true, laidKinds := [.data], laidTests := true, laidLooks := .later }
def LegalTurnUptoCardSaid : Prop := Claim7.holds Tryz.pinned (.plain (OpenSpec.upto legalTurnSpec)) legalTurnUptoCard

/-- THE SECOND FORM's CARD OF 'riverbanklaw08.LegalEnds'. -/
def legalEndsUptoCard : Claim7 := { stood := { row := legalEndsUptoRow, standIns := [], harness := (true, "70516fa4dda1179a31454ad902992469a4040f89e560a735638e99b30268bd2d"), looks := false }, kinds := [], alts := [], laidByText := true, laidKinds := [.data], laidTests := true, laidLooks := .later }
def LegalEndsUptoCardSaid : Prop := Claim7.holds Tryz.pinned (.plain (OpenSpec.upto legalEndsSpec)) legalEndsUptoCard

/-- THE SECOND FORM's CARD OF 'riverbanklaw08.LegalClock'. -/
def legalClockUptoCard : Claim7 := { stood := { row := legalClockUptoRow, standIns := [], harness := (true, "70516fa4dda1179a31454ad902992469a4040f89e560a735638e99b30268bd2d"), looks := false }, kinds := [], alts := [], laidByText := true, laidKinds := [.data], laidTests := true, laidLooks := .later }
def LegalClockUptoCardSaid : Prop := Claim7.holds Tryz.pinned (.plain (OpenSpec.upto legalClockSpec)) legalClockUptoCard

/-- THE SECOND FORM's CARD OF 'riverbanklaw08.LegalBlock'. -/
def legalBlockUptoCard : Claim7 := { stood := { row := legalBlockUptoRow, standIns := [], harness := (true, "70516fa4dda1179a31454ad902992469a4040f89e560a735638e99b30268bd2d"), looks := false }, kinds := [], alts := [], laidByText := true, laidKinds := [.data], laidTests := true, laidLooks := .later }
def LegalBlockUptoCardSaid : Prop := Claim7.holds Tryz.pinned (.plain (OpenSpec.upto legalBlockSpec)) legalBlockUptoCard
end Rows
end Go.Proofs.YtbfkkedcjodceaaGreatDoor
