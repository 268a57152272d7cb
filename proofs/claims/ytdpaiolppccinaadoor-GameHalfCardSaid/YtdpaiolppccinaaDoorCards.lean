/-
  DERIVED. GIVEN WITH THE SEED: THE CARDS: each row of YtdpaiolppccinaaDoorRows.lean that lists a variable, with what it lists TIED to the program's text (the seventh form; the later family's looks); each row that meets fmt, with fmt's text TOLD by the authors' own Lean function (tested against real Go, not proved from fmt's source: count such statements apart). THE CARD IS WHAT COUNTS. Prove the row's statement (the work); the ties are given (YtdpaiolppccinaaDoorTie.lean); close each card by the builder's one call (the guide's Derived/Test/ToyasCard.lean, 'card_holds'). Laid BY PROGRAM, IN A SANDBOX (cutbox-door.mjs). By AI agents, Wed Nov 11 2026. No macro, syntax, notation, axiom, sorry.
-/
import Derived.Test.YtdpaiolppccinaaDoorRows
import GoSem.ClaimSeven
namespace Go.Proofs.YtdpaiolppccinaaDoor
namespace Rows

/-- THE TIED CARD OF 'riverbanklaw09.GameHalf'. -/
def gameHalfCard : Claim7 := { stood := { row := gameHalfRow, standIns := [], harness := (true, "80c057b5a55782a6deeecab813ea49144ce13fe6f5dae76d807538968ee926fb"), looks := false }, kinds := [], alts := [], laidByText := true, laidKinds := [.data], laidTests := true, laidLooks := .later }
def GameHalfCardSaid : Prop := Claim7.holds Tryd.pinned (.plain (OpenSpec.ofChange gameHalfSpec)) gameHalfCard

/-- THE SECOND FORM's CARD OF 'riverbanklaw09.GameHalf'. -/
def gameHalfUptoCard : Claim7 := { stood := { row := gameHalfUptoRow, standIns := [], harness := (true, "80c057b5a55782a6deeecab813ea49144ce13fe6f5dae76d807538968ee926fb"), looks := false }, kinds := [], alts := [], laidByText := true, laidKinds := [.data], laidTests := true, laidLooks := .later }
def GameHalfUptoCardSaid : Prop := Claim7.holds Tryd.pinned (.plain (OpenSpec.upto gameHalfSpec)) gameHalfUptoCard
end Rows
end Go.Proofs.YtdpaiolppccinaaDoor
