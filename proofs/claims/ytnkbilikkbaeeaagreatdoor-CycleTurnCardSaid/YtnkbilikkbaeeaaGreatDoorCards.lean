/-
  DERIVED. GIVEN WITH THE SEED: THE CARDS: each row of YtnkbilikkbaeeaaGreatDoorRows.lean that lists a variable, with what it lists TIED to the program's text (the seventh form; the later family's looks); each row that meets fmt, with fmt's text TOLD by the authors' own Lean function (tested against real Go, not proved from fmt's source: count such statements apart). THE CARD IS WHAT COUNTS. Prove the row's statement (the work); the ties are given (YtnkbilikkbaeeaaGreatDoorTie.lean); close each card by the builder's one call (the guide's Derived/Test/ToyasCard.lean, 'card_holds'). Laid BY PROGRAM, IN A SANDBOX (cutbox-door.mjs). By AI agents, Wed Nov 11 2026. No macro, syntax, notation, axiom, sorry.
-/
import Derived.Test.YtnkbilikkbaeeaaGreatDoorRows
import GoSem.ClaimSeven
namespace Go.Proofs.YtnkbilikkbaeeaaGreatDoor
namespace Rows

/-- THE TIED CARD OF 'riverbanklaw16.ChaseTakes'. -/
def chaseTakesCard : Claim7 := { stood := { row := chaseTakesRow, standIns := [], harness := (true, "260e14df02eac019f3185969b3c430e86e29346a72b6e9207fb7ee93ed36839a"), looks := false }, kinds := [], alts := [], laidByText := true, laidKinds := [.data], laidTests := true, laidLooks := .later }
def ChaseTakesCardSaid : Prop := Claim7.holds Tryz.pinned (.plain (OpenSpec.ofChange chaseTakesSpec)) chaseTakesCard

/-- THE TIED CARD OF 'riverbanklaw16.ChaseTurn'. -/
def chaseTurnCard : Claim7 := { stood := { row := chaseTurnRow, standIns := [], harness := (true, "260e14df02eac019f3185969b3c430e86e29346a72b6e9207fb7ee93ed36839a"), looks := false }, kinds := [], alts := [], laidByText := true, laidKinds := [.data], laidTests := true, laidLooks := .later }
def ChaseTurnCardSaid : Prop := Claim7.holds Tryz.pinned (.plain (OpenSpec.ofChange chaseTurnSpec)) chaseTurnCard

/-- THE TIED CARD OF 'riverbanklaw17.CycleTells'. -/
def cycleTellsCard : Claim7 := { stood := { row := cycleTellsRow, standIns := [], harness := (true, "260e14df02eac019f3185969b3c430e86e29346a72b6e9207fb7ee93ed36839a"), looks := false }, kinds := [], alts := [], laidByText := true, laidKinds := [.data], laidTests := true, laidLooks := .later }
def CycleTellsCardSaid : Prop := Claim7.holds Tryz.pinned (.plain (OpenSpec.ofChange cycleTellsSpec)) cycleTellsCard

/-- THE TIED CARD OF 'riverbanklaw17.CycleTurn'. -/
def cycleTurnCard : Claim7 := { stood := { row := cycleTurnRow, standIns := [], harness := (true, "260e14df02eac019f3185969b3c430e86e29346a72b6e9207fb7ee93ed36839a"), looks := false }, kinds := [], alts := [], laidByText := true, laidKinds := [.data], laidTests := true, laidLooks := .later }
def CycleTurnCardSaid : Prop := Claim7.holds Tryz.pinned (.plain (OpenSpec.ofChange cycleTurnSpec)) cycleTurnCard

/-- THE TIED CARD OF 'riverbanklaw17.CycleBack'. -/
def cycleBackCard : Claim7 := { stood := { row := cycleBackRow, standIns := [], harness := (true, "260e14df02eac019f3185969b3c430e86e29346a72b6e9207fb7ee93ed36839a"), looks := false }, kinds := [], alts := [], laidByText := true, laidKinds := [.data], laidTests := true, laidLooks := .later }
def CycleBackCardSaid : Prop := Claim7.holds Tryz.pinned (.plain (OpenSpec.ofChange cycleBackSpec)) cycleBackCard

/-- THE TIED CARD OF 'riverbanklaw17.CycleFirst'. -/
def cycleFirstCard : Claim7 := { stood := { row := cycleFirstRow, standIns := [], harness := (true, "260e14df02eac019f3185969b3c430e86e29346a72b6e9207fb7ee93ed36839a"), looks := false }, kinds := [], alts := [], laidByText := true, laidKinds := [.data], laidTests := true, laidLooks := .later }
def CycleFirstCardSaid : Prop := Claim7.holds Tryz.pinned (.plain (OpenSpec.ofChange cycleFirstSpec)) cycleFirstCard

/-- THE TIED CARD OF 'riverbanklaw17.CycleOther'. -/
def cycleOtherCard : Claim7 := { stood := { row := cycleOtherRow, standIns := [], harness := (true, "260e14df02eac019f3185969b3c430e86e29346a72b6e9207fb7ee93ed36839a"), looks := false }, kinds := [], alts := [], laidByText := true, laidKinds := [.data], laidTests := true, laidLooks := .later }
def CycleOtherCardSaid : Prop := Claim7.holds Tryz.pinned (.plain (OpenSpec.ofChange cycleOtherSpec)) cycleOtherCard

/-- THE TIED CARD OF 'riverbanklaw18.JudgePlays'. -/
def judgePlaysCard : Claim7 := { stood := { row := judgePlaysRow, standIns := [], harness := (true, "260e14df02eac019f3185969b3c430e86e29346a72b6e9207fb7ee93ed36839a"), looks := false }, kinds := [], alts := [], laidByText := true, laidKinds := [.data], laidTests := true, laidLooks := .later }
def JudgePlaysCardSaid : Prop := Claim7.holds Tryz.pinned (.plain (OpenSpec.ofChange judgePlaysSpec)) judgePlaysCard

/-- THE TIED CARD OF 'riverbanklaw18.JudgeTable'. -/
def judgeTableCard : Claim7 := { stood := { row := judgeTableRow, standIns := [], harness := (true, "260e14df02eac019f3185969b3c430e86e29346a72b6e9207fb7ee93ed36839a"), looks := false }, kinds := [], alts := [], laidByText := true, laidKinds := [.data], laidTests := true, laidLooks := .later }
def JudgeTableCardSaid : Prop := Claim7.holds Tryz.pinned (.plain (OpenSpec.ofChange judgeTableSpec)) judgeTableCard

/-- THE TIED CARD OF 'riverbanklaw18.JudgeEnds'. -/
def judgeEndsCard : Claim7 := { stood := { row := judgeEndsRow, standIns := [], harness := (true, "260e14df02eac019f3185969b3c430e86e29346a72b6e9207fb7ee93ed36839a"), looks := false }, kinds := [], alts := [], laidByText := true, laidKinds := [.data], laidTests := true, laidLooks := .later }
def JudgeEndsCardSaid : Prop := Claim7.holds Tryz.pinned (.plain (OpenSpec.ofChange judgeEndsSpec)) judgeEndsCard

/-- THE TIED CARD OF 'riverbanklaw18.JudgeTurn'. -/
def judgeTurnCard : Claim7 := { stood := { row := judgeTurnRow, standIns := [], harness := (true, "260e14df02eac019f3185969b3c430e86e29346a72b6e9207fb7ee93ed36839a"), looks := false }, kinds := [], alts := [], laidByText := true, laidKinds := [.data], laidTests := true, laidLooks := .later }
def JudgeTurnCardSaid : Prop := Claim7.holds Tryz.pinned (.plain (OpenSpec.ofChange judgeTurnSpec)) judgeTurnCard

/-- THE TIED CARD OF 'riverbanklaw18.JudgeAhead'. -/
def judgeAheadCard : Claim7 := { stood := { row := judgeAheadRow, standIns := [], harness := (true, "260e14df02eac019f3185969b3c430e86e29346a72b6e9207fb7ee93ed36839a"), looks := false }, kinds := [], alts := [], laidByText := true, laidKinds := [.data], laidTests := true, laidLooks := .later }
def JudgeAheadCardSaid : Prop := Claim7.holds Tryz.pinned (.plain (OpenSpec.ofChange judgeAheadSpec)) judgeAheadCard

/-- THE SECOND FORM's CARD OF 'riverbanklaw16.ChaseTakes'. -/
def chaseTakesUptoCard : Claim7 := { stood := { row := chaseTakesUptoRow, standIns := [], harness := (true, "260e14df02eac019f3185969b3c430e86e29346a72b6e9207fb7ee93ed36839a"), looks := false }, kinds := [], alts := [], laidByText := true, laidKinds := [.data], laidTests := true, laidLooks := .later }
def ChaseTakesUptoCardSaid : Prop := Claim7.holds Tryz.pinned (.plain (OpenSpec.upto chaseTakesSpec)) chaseTakesUptoCard

/-- THE SECOND FORM's CARD OF 'riverbanklaw16.ChaseTurn'. -/
def chaseTurnUptoCard : Claim7 := { stood := { row := chaseTurnUptoRow, standIns := [], harness := (true, "260e14df02eac019f3185969b3c430e86e29346a72b6e9207fb7ee93ed36839a"), looks := false }, kinds := [], alts := [], laidByText := true, laidKinds := [.data], laidTests := true, laidLooks := .later }
def ChaseTurnUptoCardSaid : Prop := Claim7.holds Tryz.pinned (.plain (OpenSpec.upto chaseTurnSpec)) chaseTurnUptoCard

/-- THE SECOND FORM's CARD OF 'riverbanklaw17.CycleTells'. -/
def cycleTellsUptoCard : Claim7 := { stood := { row := cycleTellsUptoRow, standIns := [], harness := (true, "260e14df02eac019f3185969b3c430e86e29346a72b6e9207fb7ee93ed36839a"), looks := false }, kinds := [], alts := [], laidByText := true, laidKinds := [.data], laidTests := true, laidLooks := .later }
def CycleTellsUptoCardSaid : Prop := Claim7.holds Tryz.pinned (.plain (OpenSpec.upto cycleTellsSpec)) cycleTellsUptoCard

/-- THE SECOND FORM's CARD OF 'riverbanklaw17.CycleTurn'. -/
def cycleTurnUptoCard : Claim7 := { stood := { row := cycleTurnUptoRow, standIns := [], harness := (true, "260e14df02eac019f3185969b3c430e86e29346a72b6e9207fb7ee93ed36839a"), looks := false }, kinds := [], alts := [], laidByText := true, laidKinds := [.data], laidTests := true, laidLooks := .later }
def CycleTurnUptoCardSaid : Prop := Claim7.holds Tryz.pinned (.plain (OpenSpec.upto cycleTurnSpec)) cycleTurnUptoCard

/-- THE SECOND FORM's CARD OF 'riverbanklaw17.CycleBack'. -/
def cycleBackUptoCard : Claim7 := { stood := { row := cycleBackUptoRow, standIns := [], harness := (true, "260e14df02eac019f3185969b3c430e86e29346a72b6e9207fb7ee93ed36839a"), looks := false }, kinds := [], alts := [], laidByText := true, laidKinds := [.data], laidTests := true, laidLooks := .later }
def CycleBackUptoCardSaid : Prop := Claim7.holds Tryz.pinned (.plain (OpenSpec.upto cycleBackSpec)) cycleBackUptoCard

/-- THE SECOND FORM's CARD OF 'riverbanklaw17.CycleFirst'. -/
def cycleFirstUptoCard : Claim7 := { stood := { row := cycleFirstUptoRow, standIns := [], harness := (true, "260e14df02eac019f3185969b3c430e86e29346a72b6e9207fb7ee93ed36839a"), looks := false }, kinds := [], alts := [], laidByText := true, laidKinds := [.data], laidTests := true, laidLooks := .later }
def CycleFirstUptoCardSaid : Prop := Claim7.holds Tryz.pinned (.plain (OpenSpec.upto cycleFirstSpec)) cycleFirstUptoCard

/-- THE SECOND FORM's CARD OF 'riverbanklaw17.CycleOther'. -/
def cycleOtherUptoCard : Claim7 := { stood := { row := cycleOtherUptoRow, standIns := [], harness := (true, "260e14df02eac019f3185969b3c430e86e29346a72b6e9207fb7ee93ed36839a"), looks := false }, kinds := [], alts := [], laidByText := true, laidKinds := [.data], laidTests := true, laidLooks := .later }
def CycleOtherUptoCardSaid : Prop := Claim7.holds Tryz.pinned (.plain (OpenSpec.upto cycleOtherSpec)) cycleOtherUptoCard

/-- THE SECOND FORM's CARD OF 'riverbanklaw18.JudgePlays'. -/
def judgePlaysUptoCard : Claim7 := { stood := { row := judgePlaysUptoRow, standIns := [], harness := (true, "260e14df02eac019f3185969b3c430e86e29346a72b6e9207fb7ee93ed36839a"), looks := false }, kinds := [], alts := [], laidByText := true, laidKinds := [.data], laidTests := true, laidLooks := .later }
def JudgePlaysUptoCardSaid : Prop := Claim7.holds Tryz.pinned (.plain (OpenSpec.upto judgePlaysSpec)) judgePlaysUptoCard

/-- THE SECOND FORM's CARD OF 'riverbanklaw18.JudgeTable'. -/
def judgeTableUptoCard : Claim7 := { stood := { row := judgeTableUptoRow, standIns := [], harness := (true, "260e14df02eac019f3185969b3c430e86e29346a72b6e9207fb7ee93ed36839a"), looks := false }, kinds := [], alts := [], laidByText := true, laidKinds := [.data], laidTests := true, laidLooks := .later }
def JudgeTableUptoCardSaid : Prop := Claim7.holds Tryz.pinned (.plain (OpenSpec.upto judgeTableSpec)) judgeTableUptoCard

/-- THE SECOND FORM's CARD OF 'riverbanklaw18.JudgeEnds'. -/
def judgeEndsUptoCard : Claim7 := { stood := { row := judgeEndsUptoRow, standIns := [], harness := (true, "260e14df02eac019f3185969b3c430e86e29346a72b6e9207fb7ee93ed36839a"), looks := false }, kinds := [], alts := [], laidByText := true, laidKinds := [.data], laidTests := true, laidLooks := .later }
def JudgeEndsUptoCardSaid : Prop := Claim7.holds Tryz.pinned (.plain (OpenSpec.upto judgeEndsSpec)) judgeEndsUptoCard

/-- THE SECOND FORM's CARD OF 'riverbanklaw18.JudgeTurn'. -/
def judgeTurnUptoCard : Claim7 := { stood := { row := judgeTurnUptoRow, standIns := [], harness := (true, "260e14df02eac019f3185969b3c430e86e29346a72b6e9207fb7ee93ed36839a"), looks := false }, kinds := [], alts := [], laidByText := true, laidKinds := [.data], laidTests := true, laidLooks := .later }
def JudgeTurnUptoCardSaid : Prop := Claim7.holds Tryz.pinned (.plain (OpenSpec.upto judgeTurnSpec)) judgeTurnUptoCard

/-- THE SECOND FORM's CARD OF 'riverbanklaw18.JudgeAhead'. -/
def judgeAheadUptoCard : Claim7 := { stood := { row := judgeAheadUptoRow, standIns := [], harness := (true, "260e14df02eac019f3185969b3c430e86e29346a72b6e9207fb7ee93ed36839a"), looks := false }, kinds := [], alts := [], laidByText := true, laidKinds := [.data], laidTests := true, laidLooks := .later }
def JudgeAheadUptoCardSaid : Prop := Claim7.holds Tryz.pinned (.plain (OpenSpec.upto judgeAheadSpec)) judgeAheadUptoCard
end Rows
end Go.Proofs.YtnkbilikkbaeeaaGreatDoor
