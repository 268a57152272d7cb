/-
  DERIVED. GIVEN WITH THE SEED: THE CARDS: each row of YtdfjmchkpoobdaaDoorRows.lean that lists a variable, with what it lists TIED to the program's text (the seventh form; the later family's looks); each row that meets fmt, with fmt's text TOLD by the authors' own Lean function (tested against real Go, not proved from fmt's source: count such statements apart). THE CARD IS WHAT COUNTS. Prove the row's statement (the work); the ties are given (YtdfjmchkpoobdaaDoorTie.lean); close each card by the builder's one call (the guide's Derived/Test/ToyasCard.lean, 'card_holds'). Laid BY PROGRAM, IN A SANDBOX (cutbox-door.mjs). By AI agents, Wed Nov 11 2026. No macro, syntax, notation, axiom, sorry.
-/
import Derived.Test.YtdfjmchkpoobdaaDoorRows
import GoSem.ClaimSeven
namespace Go.Proofs.YtdfjmchkpoobdaaDoor
namespace Rows

/-- THE TIED CARD OF 'riverbanklaw01.BitsMix'. -/
def bitsMixCard : Claim7 := { stood := { row := bitsMixRow, standIns := [], harness := (true, "b80c1dc3ca905ea137639ac9b15ec7f40271cfb495cb4f98074d13c50ef1ce10"), looks := false }, kinds := [], alts := [], laidByText := true, laidKinds := [.data], laidTests := true, laidLooks := .later }
def BitsMixCardSaid : Prop := Claim7.holds Tryd.pinned (.plain (OpenSpec.ofChange bitsMixSpec)) bitsMixCard

/-- THE TIED CARD OF 'riverbanklaw01.BitsOne'. -/
def bitsOneCard : Claim7 := { stood := { row := bitsOneRow, standIns := [], harness := (true, "b80c1dc3ca905ea137639ac9b15ec7f40271cfb495cb4f98074d13c50ef1ce10"), looks := false }, kinds := [], alts := [], laidByText := true, laidKinds := [.data], laidTests := true, laidLooks := .later }
def BitsOneCardSaid : Prop := Claim7.holds Tryd.pinned (.plain (OpenSpec.ofChange bitsOneSpec)) bitsOneCard

/-- THE TIED CARD OF 'riverbanklaw01.BitsShift'. -/
def bitsShiftCard : Claim7 := { stood := { row := bitsShiftRow, standIns := [], harness := (true, "b80c1dc3ca905ea137639ac9b15ec7f40271cfb495cb4f98074d13c50ef1ce10"), looks := false }, kinds := [], alts := [], laidByText := true, laidKinds := [.data], laidTests := true, laidLooks := .later }
def BitsShiftCardSaid : Prop := Claim7.holds Tryd.pinned (.plain (OpenSpec.ofChange bitsShiftSpec)) bitsShiftCard

/-- THE TIED CARD OF 'riverbanklaw01.BitsBack'. -/
def bitsBackCard : Claim7 := { stood := { row := bitsBackRow, standIns := [], harness := (true, "b80c1dc3ca905ea137639ac9b15ec7f40271cfb495cb4f98074d13c50ef1ce10"), looks := false }, kinds := [], alts := [], laidByText := true, laidKinds := [.data], laidTests := true, laidLooks := .later }
def BitsBackCardSaid : Prop := Claim7.holds Tryd.pinned (.plain (OpenSpec.ofChange bitsBackSpec)) bitsBackCard

/-- THE TIED CARD OF 'riverbanklaw01.BitsLaws'. -/
def bitsLawsCard : Claim7 := { stood := { row := bitsLawsRow, standIns := [], harness := (true, "b80c1dc3ca905ea137639ac9b15ec7f40271cfb495cb4f98074d13c50ef1ce10"), looks := false }, kinds := [], alts := [], laidByText := true, laidKinds := [.data], laidTests := true, laidLooks := .later }
def BitsLawsCardSaid : Prop := Claim7.holds Tryd.pinned (.plain (OpenSpec.ofChange bitsLawsSpec)) bitsLawsCard

/-- THE TIED CARD OF 'riverbanklaw01.BitsSteps'. -/
def bitsStepsCard : Claim7 := { stood := { row := bitsStepsRow, standIns := [], harness := (true, "b80c1dc3ca905ea137639ac9b15ec7f40271cfb495cb4f98074d13c50ef1ce10"), looks := false }, kinds := [], alts := [], laidByText := true, laidKinds := [.data], laidTests := true, laidLooks := .later }
def BitsStepsCardSaid : Prop := Claim7.holds Tryd.pinned (.plain (OpenSpec.ofChange bitsStepsSpec)) bitsStepsCard

/-- THE TIED CARD OF 'riverbanklaw01.BitsEnds'. -/
def bitsEndsCard : Claim7 := { stood := { row := bitsEndsRow, standIns := [], harness := (true, "b80c1dc3ca905ea137639ac9b15ec7f40271cfb495cb4f98074d13c50ef1ce10"), looks := false }, kinds := [], alts := [], laidByText := true, laidKinds := [.data], laidTests := true, laidLooks := .later }
def BitsEndsCardSaid : Prop := Claim7.holds Tryd.pinned (.plain (OpenSpec.ofChange bitsEndsSpec)) bitsEndsCard

/-- THE SECOND FORM's CARD OF 'riverbanklaw01.BitsMix'. -/
def bitsMixUptoCard : Claim7 := { stood := { row := bitsMixUptoRow, standIns := [], harness := (true, "b80c1dc3ca905ea137639ac9b15ec7f40271cfb495cb4f98074d13c50ef1ce10"), looks := false }, kinds := [], alts := [], laidByText := true, laidKinds := [.data], laidTests := true, laidLooks := .later }
def BitsMixUptoCardSaid : Prop := Claim7.holds Tryd.pinned (.plain (OpenSpec.upto bitsMixSpec)) bitsMixUptoCard

/-- THE SECOND FORM's CARD OF 'riverbanklaw01.BitsOne'. -/
def bitsOneUptoCard : Claim7 := { stood := { row := bitsOneUptoRow, standIns := [], harness := (true, "b80c1dc3ca905ea137639ac9b15ec7f40271cfb495cb4f98074d13c50ef1ce10"), looks := false }, kinds := [], alts := [], laidByText := true, laidKinds := [.data], laidTests := true, laidLooks := .later }
def BitsOneUptoCardSaid : Prop := Claim7.holds Tryd.pinned (.plain (OpenSpec.upto bitsOneSpec)) bitsOneUptoCard

/-- THE SECOND FORM's CARD OF 'riverbanklaw01.BitsShift'. -/
def bitsShiftUptoCard : Claim7 := { stood := { row := bitsShiftUptoRow, standIns := [], harness := (true, "b80c1dc3ca905ea137639ac9b15ec7f40271cfb495cb4f98074d13c50ef1ce10"), looks := false }, kinds := [], alts := [], laidByText := true, laidKinds := [.data], laidTests := true, laidLooks := .later }
def BitsShiftUptoCardSaid : Prop := Claim7.holds Tryd.pinned (.plain (OpenSpec.upto bitsShiftSpec)) bitsShiftUptoCard

/-- THE SECOND FORM's CARD OF 'riverbanklaw01.BitsBack'. -/
def bitsBackUptoCard : Claim7 := { stood := { row := bitsBackUptoRow, standIns := [], harness := (true, "b80c1dc3ca905ea137639ac9b15ec7f40271cfb495cb4f98074d13c50ef1ce10"), looks := false }, kinds := [], alts := [], laidByText := true, laidKinds := [.data], laidTests := true, laidLooks := .later }
def BitsBackUptoCardSaid : Prop := Claim7.holds Tryd.pinned (.plain (OpenSpec.upto bitsBackSpec)) bitsBackUptoCard

/-- THE SECOND FORM's CARD OF 'riverbanklaw01.BitsLaws'. -/
def bitsLawsUptoCard : Claim7 := { stood := { row := bitsLawsUptoRow, standIns := [], harness := (true, "b80c1dc3ca905ea137639ac9b15ec7f40271cfb495cb4f98074d13c50ef1ce10"), looks := false }, kinds := [], alts := [], laidByText := true, laidKinds := [.data], laidTests := true, laidLooks := .later }
def BitsLawsUptoCardSaid : Prop := Claim7.holds Tryd.pinned (.plain (OpenSpec.upto bitsLawsSpec)) bitsLawsUptoCard

/-- THE SECOND FORM's CARD OF 'riverbanklaw01.BitsSteps'. -/
def bitsStepsUptoCard : Claim7 := { stood := { row := bitsStepsUptoRow, standIns := [], harness := (true, "b80c1dc3ca905ea137639ac9b15ec7f40271cfb495cb4f98074d13c50ef1ce10"), looks := false }, kinds := [], alts := [], laidByText := true, laidKinds := [.data], laidTests := true, laidLooks := .later }
def BitsStepsUptoCardSaid : Prop := Claim7.holds Tryd.pinned (.plain (OpenSpec.upto bitsStepsSpec)) bitsStepsUptoCard

/-- THE SECOND FORM's CARD OF 'riverbanklaw01.BitsEnds'. -/
def bitsEndsUptoCard : Claim7 := { stood := { row := bitsEndsUptoRow, standIns := [], harness := (true, "b80c1dc3ca905ea137639ac9b15ec7f40271cfb495cb4f98074d13c50ef1ce10"), looks := false }, kinds := [], alts := [], laidByText := true, laidKinds := [.data], laidTests := true, laidLooks := .later }
def BitsEndsUptoCardSaid : Prop := Claim7.holds Tryd.pinned (.plain (OpenSpec.upto bitsEndsSpec)) bitsEndsUptoCard
end Rows
end Go.Proofs.YtdfjmchkpoobdaaDoor
