/-
  DERIVED. GIVEN WITH THE SEED: THE CARDS: each row of YtkejhebicibjlaaDoorRows.lean that lists a variable, with what it lists TIED to the program's text (the seventh form; the later family's looks); each row that meets fmt, with fmt's text TOLD by the authors' own Lean function (tested against real Go, not proved from fmt's source: count such statements apart). THE CARD IS WHAT COUNTS. Prove the row's statement (the work); the ties are given (YtkejhebicibjlaaDoorTie.lean); close each card by the builder's one call (the guide's Derived/Test/ToyasCard.lean, 'card_holds'). Laid BY PROGRAM, IN A SANDBOX (cutbox-door.mjs). By AI agents, Wed Nov 11 2026. No macro, syntax, notation, axiom, sorry.
-/
import Derived.Test.YtkejhebicibjlaaDoorRows
import GoSem.ClaimSeven
namespace Go.Proofs.YtkejhebicibjlaaDoor
namespace Rows

/-- THE TIED CARD OF 'riverbanklaw14.ValuePieces'. -/
def valuePiecesCard : Claim7 := { stood := { row := valuePiecesRow, standIns := [], harness := (true, "cc9bacee41010226dc290c67ed92334512c8f2899f3973cd5dbd326bc49f8af3"), looks := false }, kinds := [], alts := [], laidByText := true, laidKinds := [.data], laidTests := true, laidLooks := .later }
def ValuePiecesCardSaid : Prop := Claim7.holds Tryd.pinned (.plain (OpenSpec.ofChange valuePiecesSpec)) valuePiecesCard

/-- THE TIED CARD OF 'riverbanklaw14.ValueOf'. -/
def valueOfCard : Claim7 := { stood := { row := valueOfRow, standIns := [], harness := (true, "cc9bacee41010226dc290c67ed92334512c8f2899f3973cd5dbd326bc49f8af3"), looks := false }, kinds := [], alts := [], laidByText := true, laidKinds := [.data], laidTests := true, laidLooks := .later }
def ValueOfCardSaid : Prop := Claim7.holds Tryd.pinned (.plain (OpenSpec.ofChange valueOfSpec)) valueOfCard

/-- THE TIED CARD OF 'riverbanklaw14.ValueFollows'. -/
def valueFollowsCard : Claim7 := { stood := { row := valueFollowsRow, standIns := [], harness := (true, "cc9bacee41010226dc290c67ed92334512c8f2899f3973cd5dbd326bc49f8af3"), looks := false }, kinds := [], alts := [], laidByText := true, laidKinds := [.data], laidTests := true, laidLooks := .later }
def ValueFollowsCardSaid : Prop := Claim7.holds Tryd.pinned (.plain (OpenSpec.ofChange valueFollowsSpec)) valueFollowsCard

/-- THE TIED CARD OF 'riverbanklaw14.ValueTurn'. -/
def valueTurnCard : Claim7 := { stood := { row := valueTurnRow, standIns := [], harness := (true, "cc9bacee41010226dc290c67ed92334512c8f2899f3973cd5dbd326bc49f8af3"), looks := false }, kinds := [], alts := [], laidByText := true, laidKinds := [.data], laidTests := true, laidLooks := .later }
def ValueTurnCardSaid : Prop := Claim7.holds Tryd.pinned (.plain (OpenSpec.ofChange valueTurnSpec)) valueTurnCard

/-- THE TIED CARD OF 'riverbanklaw14.ValueAdds'. -/
def valueAddsCard : Claim7 := { stood := { row := valueAddsRow, standIns := [], harness := (true, "cc9bacee41010226dc290c67ed92334512c8f2899f3973cd5dbd326bc49f8af3"), looks := false }, kinds := [], alts := [], laidByText := true, laidKinds := [.data], laidTests := true, laidLooks := .later }
def ValueAddsCardSaid : Prop := Claim7.holds Tryd.pinned (.plain (OpenSpec.ofChange valueAddsSpec)) valueAddsCard

/-- THE TIED CARD OF 'riverbanklaw14.ValueLeast'. -/
def valueLeastCard : Claim7 := { stood := { row := valueLeastRow, standIns := [], harness := (true, "cc9bacee41010226dc290c67ed92334512c8f2899f3973cd5dbd326bc49f8af3"), looks := false }, kinds := [], alts := [], laidByText := true, laidKinds := [.data], laidTests := true, laidLooks := .later }
def ValueLeastCardSaid : Prop := Claim7.holds Tryd.pinned (.plain (OpenSpec.ofChange valueLeastSpec)) valueLeastCard

/-- THE SECOND FORM's CARD OF 'riverbanklaw14.ValuePieces'. -/
def valuePiecesUptoCard : Claim7 := { stood := { row := valuePiecesUptoRow, standIns := [], harness := (true, "cc9bacee41010226dc290c67ed92334512c8f2899f3973cd5dbd326bc49f8af3"), looks := false }, kinds := [], alts := [], laidByText := true, laidKinds := [.data], laidTests := true, laidLooks := .later }
def ValuePiecesUptoCardSaid : Prop := Claim7.holds Tryd.pinned (.plain (OpenSpec.upto valuePiecesSpec)) valuePiecesUptoCard

/-- THE SECOND FORM's CARD OF 'riverbanklaw14.ValueOf'. -/
def valueOfUptoCard : Claim7 := { stood := { row := valueOfUptoRow, standIns := [], harness := (true, "cc9bacee41010226dc290c67ed92334512c8f2899f3973cd5dbd326bc49f8af3"), looks := false }, kinds := [], alts := [], laidByText := true, laidKinds := [.data], laidTests := true, laidLooks := .later }
def ValueOfUptoCardSaid : Prop := Claim7.holds Tryd.pinned (.plain (OpenSpec.upto valueOfSpec)) valueOfUptoCard

/-- THE SECOND FORM's CARD OF 'riverbanklaw14.ValueFollows'. -/
def valueFollowsUptoCard : Claim7 := { stood := { row := valueFollowsUptoRow, standIns := [], harness := (true, "cc9bacee41010226dc290c67ed92334512c8f2899f3973cd5dbd326bc49f8af3"), looks := false }, kinds := [], alts := [], laidByText := true, laidKinds := [.data], laidTests := true, laidLooks := .later }
def ValueFollowsUptoCardSaid : Prop := Claim7.holds Tryd.pinned (.plain (OpenSpec.upto valueFollowsSpec)) valueFollowsUptoCard

/-- THE SECOND FORM's CARD OF 'riverbanklaw14.ValueTurn'. -/
def valueTurnUptoCard : Claim7 := { stood := { row := valueTurnUptoRow, standIns := [], harness := (true, "cc9bacee41010226dc290c67ed92334512c8f2899f3973cd5dbd326bc49f8af3"), looks := false }, kinds := [], alts := [], laidByText := true, laidKinds := [.data], laidTests := true, laidLooks := .later }
def ValueTurnUptoCardSaid : Prop := Claim7.holds Tryd.pinned (.plain (OpenSpec.upto valueTurnSpec)) valueTurnUptoCard

/-- THE SECOND FORM's CARD OF 'riverbanklaw14.ValueAdds'. -/
def valueAddsUptoCard : Claim7 := { stood := { row := valueAddsUptoRow, standIns := [], harness := (true, "cc9bacee41010226dc290c67ed92334512c8f2899f3973cd5dbd326bc49f8af3"), looks := false }, kinds := [], alts := [], laidByText := true, laidKinds := [.data], laidTests := true, laidLooks := .later }
def ValueAddsUptoCardSaid : Prop := Claim7.holds Tryd.pinned (.plain (OpenSpec.upto valueAddsSpec)) valueAddsUptoCard

/-- THE SECOND FORM's CARD OF 'riverbanklaw14.ValueLeast'. -/
def valueLeastUptoCard : Claim7 := { stood := { row := valueLeastUptoRow, standIns := [], harness := (true, "cc9bacee41010226dc290c67ed92334512c8f2899f3973cd5dbd326bc49f8af3"), looks := false }, kinds := [], alts := [], laidByText := true, laidKinds := [.data], laidTests := true, laidLooks := .later }
def ValueLeastUptoCardSaid : Prop := Claim7.holds Tryd.pinned (.plain (OpenSpec.upto valueLeastSpec)) valueLeastUptoCard
end Rows
end Go.Proofs.YtkejhebicibjlaaDoor
