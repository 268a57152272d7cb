/-
  DERIVED. GIVEN WITH THE SEED: THE CARDS: each row of YtglnbohogldenaaDoorRows.lean that lists a variable, with what it lists TIED to the program's text (the seventh form; the later family's looks); each row that meets fmt, with fmt's text TOLD by the authors' own Lean function (tested against real Go, not proved from fmt's source: count such statements apart). THE CARD IS WHAT COUNTS. Prove the row's statement (the work); the ties are given (YtglnbohogldenaaDoorTie.lean); close each card by the builder's one call (the guide's Derived/Test/ToyasCard.lean, 'card_holds'). Laid BY PROGRAM, IN A SANDBOX (cutbox-door.mjs). By AI agents, Wed Nov 11 2026. No macro, syntax, notation, axiom, sorry.
-/
import Derived.Test.YtglnbohogldenaaDoorRows
import GoSem.ClaimSeven
namespace Go.Proofs.YtglnbohogldenaaDoor
namespace Rows

/-- THE TIED CARD OF 'riverbanklaw03.PlaceMays'. -/
def placeMaysCard : Claim7 := { stood := { row := placeMaysRow, standIns := [], harness := (true, "d76e45042f20fcf3be1e19de3e6ab1a472f0d6e0d7661482c6417ac292c63b39"), looks := false }, kinds := [], alts := [], laidByText := true, laidKinds := [.data], laidTests := true, laidLooks := .later }
def PlaceMaysCardSaid : Prop := Claim7.holds Tryd.pinned (.plain (OpenSpec.ofChange placeMaysSpec)) placeMaysCard

/-- THE TIED CARD OF 'riverbanklaw03.PlaceChecks'. -/
def placeChecksCard : Claim7 := { stood := { row := placeChecksRow, standIns := [], harness := (true, "d76e45042f20fcf3be1e19de3e6ab1a472f0d6e0d7661482c6417ac292c63b39"), looks := false }, kinds := [], alts := [], laidByText := true, laidKinds := [.data], laidTests := true, laidLooks := .later }
def PlaceChecksCardSaid : Prop := Claim7.holds Tryd.pinned (.plain (OpenSpec.ofChange placeChecksSpec)) placeChecksCard

/-- THE TIED CARD OF 'riverbanklaw03.PlaceTurn'. -/
def placeTurnCard : Claim7 := { stood := { row := placeTurnRow, standIns := [], harness := (true, "d76e45042f20fcf3be1e19de3e6ab1a472f0d6e0d7661482c6417ac292c63b39"), looks := false }, kinds := [], alts := [], laidByText := true, laidKinds := [.data], laidTests := true, laidLooks := .later }
def PlaceTurnCardSaid : Prop := Claim7.holds Tryd.pinned (.plain (OpenSpec.ofChange placeTurnSpec)) placeTurnCard

/-- THE TIED CARD OF 'riverbanklaw03.PlaceInside'. -/
def placeInsideCard : Claim7 := { stood := { row := placeInsideRow, standIns := [], harness := (true, "d76e45042f20fcf3be1e19de3e6ab1a472f0d6e0d7661482c6417ac292c63b39"), looks := false }, kinds := [], alts := [], laidByText := true, laidKinds := [.data], laidTests := true, laidLooks := .later }
def PlaceInsideCardSaid : Prop := Claim7.holds Tryd.pinned (.plain (OpenSpec.ofChange placeInsideSpec)) placeInsideCard

/-- THE TIED CARD OF 'riverbanklaw03.PlaceFewer'. -/
def placeFewerCard : Claim7 := { stood := { row := placeFewerRow, standIns := [], harness := (true, "d76e45042f20fcf3be1e19de3e6ab1a472f0d6e0d7661482c6417ac292c63b39"), looks := false }, kinds := [], alts := [], laidByText := true, laidKinds := [.data], laidTests := true, laidLooks := .later }
def PlaceFewerCardSaid : Prop := Claim7.holds Tryd.pinned (.plain (OpenSpec.ofChange placeFewerSpec)) placeFewerCard

/-- THE TIED CARD OF 'riverbanklaw03.PlaceMore'. -/
def placeMoreCard : Claim7 := { stood := { row := placeMoreRow, standIns := [], harness := (true, "d76e45042f20fcf3be1e19de3e6ab1a472f0d6e0d7661482c6417ac292c63b39"), looks := false }, kinds := [], alts := [], laidByText := true, laidKinds := [.data], laidTests := true, laidLooks := .later }
def PlaceMoreCardSaid : Prop := Claim7.holds Tryd.pinned (.plain (OpenSpec.ofChange placeMoreSpec)) placeMoreCard

/-- THE SECOND FORM's CARD OF 'riverbanklaw03.PlaceMays'. -/
def placeMaysUptoCard : Claim7 := { stood := { row := placeMaysUptoRow, standIns := [], harness := (true, "d76e45042f20fcf3be1e19de3e6ab1a472f0d6e0d7661482c6417ac292c63b39"), looks := false }, kinds := [], alts := [], laidByText := true, laidKinds := [.data], laidTests := true, laidLooks := .later }
def PlaceMaysUptoCardSaid : Prop := Claim7.holds Tryd.pinned (.plain (OpenSpec.upto placeMaysSpec)) placeMaysUptoCard

/-- THE SECOND FORM's CARD OF 'riverbanklaw03.PlaceChecks'. -/
def placeChecksUptoCard : Claim7 := { stood := { row := placeChecksUptoRow, standIns := [], harness := (true, "d76e45042f20fcf3be1e19de3e6ab1a472f0d6e0d7661482c6417ac292c63b39"), looks := false }, kinds := [], alts := [], laidByText := true, laidKinds := [.data], laidTests := true, laidLooks := .later }
def PlaceChecksUptoCardSaid : Prop := Claim7.holds Tryd.pinned (.plain (OpenSpec.upto placeChecksSpec)) placeChecksUptoCard

/-- THE SECOND FORM's CARD OF 'riverbanklaw03.PlaceTurn'. -/
def placeTurnUptoCard : Claim7 := { stood := { row := placeTurnUptoRow, standIns := [], harness := (true, "d76e45042f20fcf3be1e19de3e6ab1a472f0d6e0d7661482c6417ac292c63b39"), looks := false }, kinds := [], alts := [], laidByText := true, laidKinds := [.data], laidTests := true, laidLooks := .later }
def PlaceTurnUptoCardSaid : Prop := Claim7.holds Tryd.pinned (.plain (OpenSpec.upto placeTurnSpec)) placeTurnUptoCard

/-- THE SECOND FORM's CARD OF 'riverbanklaw03.PlaceInside'. -/
def placeInsideUptoCard : Claim7 := { stood := { row := placeInsideUptoRow, standIns := [], harness := (true, "d76e45042f20fcf3be1e19de3e6ab1a472f0d6e0d7661482c6417ac292c63b39"), looks := false }, kinds := [], alts := [], laidByText := true, laidKinds := [.data], laidTests := true, laidLooks := .later }
def PlaceInsideUptoCardSaid : Prop := Claim7.holds Tryd.pinned (.plain (OpenSpec.upto placeInsideSpec)) placeInsideUptoCard

/-- THE SECOND FORM's CARD OF 'riverbanklaw03.PlaceFewer'. -/
def placeFewerUptoCard : Claim7 := { stood := { row := placeFewerUptoRow, standIns := [], harness := (true, "d76e45042f20fcf3be1e19de3e6ab1a472f0d6e0d7661482c6417ac292c63b39"), looks := false }, kinds := [], alts := [], laidByText := true, laidKinds := [.data], laidTests := true, laidLooks := .later }
def PlaceFewerUptoCardSaid : Prop := Claim7.holds Tryd.pinned (.plain (OpenSpec.upto placeFewerSpec)) placeFewerUptoCard

/-- THE SECOND FORM's CARD OF 'riverbanklaw03.PlaceMore'. -/
def placeMoreUptoCard : Claim7 := { stood := { row := placeMoreUptoRow, standIns := [], harness := (true, "d76e45042f20fcf3be1e19de3e6ab1a472f0d6e0d7661482c6417ac292c63b39"), looks := false }, kinds := [], alts := [], laidByText := true, laidKinds := [.data], laidTests := true, laidLooks := .later }
def PlaceMoreUptoCardSaid : Prop := Claim7.holds Tryd.pinned (.plain (OpenSpec.upto placeMoreSpec)) placeMoreUptoCard
end Rows
end Go.Proofs.YtglnbohogldenaaDoor
