/-
  DERIVED. GIVEN WITH THE SEED: THE CARDS: each row of YtelngcfpnbeakaaGreatDoorRows.lean that lists a variable, with what it lists TIED to the program's text (the seventh form; the later family's looks); each row that meets fmt, with fmt's text TOLD by the authors' own Lean function (tested against real Go, not proved from fmt's source: count such statements apart). THE CARD IS WHAT COUNTS. Prove the row's statement (the work); the ties are given (YtelngcfpnbeakaaGreatDoorTie.lean); close each card by the builder's one call (the guide's Derived/Test/ToyasCard.lean, 'card_holds'). Laid BY PROGRAM, IN A SANDBOX (cutbox-door.mjs). By AI agents, Wed Nov 11 2026. No macro, syntax, notation, axiom, sorry.
-/
import Derived.Test.YtelngcfpnbeakaaGreatDoorRows
import GoSem.ClaimSeven
namespace Go.Proofs.YtelngcfpnbeakaaGreatDoor
namespace Rows

/-- THE TIED CARD OF 'riverbanklaw11.PerftCounts'. -/
def perftCountsCard : Claim7 := { stood := { row := perftCountsRow, standIns := [], harness := (true, "ffe14d26bf73c86c0e9290d515e5be98b97158558dadc205188f93469ba23946"), looks := false }, kinds := [], alts := [], laidByText := true, laidKinds := [.data], laidTests := true, laidLooks := .later }
def PerftCountsCardSaid : Prop := Claim7.holds Tryz.pinned (.plain (OpenSpec.ofChange perftCountsSpec)) perftCountsCard

/-- THE TIED CARD OF 'riverbanklaw11.PerftTurn'. -/
def perftTurnCard : Claim7 := { stood := { row := perftTurnRow, standIns := [], harness := (true, "ffe14d26bf73c86c0e9290d515e5be98b97158558dadc205188f93469ba23946"), looks := false }, kinds := [], alts := [], laidByText := true, laidKinds := [.data], laidTests := true, laidLooks := .later }
def PerftTurnCardSaid : Prop := Claim7.holds Tryz.pinned (.plain (OpenSpec.ofChange perftTurnSpec)) perftTurnCard

/-- THE SECOND FORM's CARD OF 'riverbanklaw11.PerftCounts'. -/
def perftCountsUptoCard : Claim7 := { stood := { row := perftCountsUptoRow, standIns := [], harness := (true, "ffe14d26bf73c86c0e9290d515e5be98b97158558dadc205188f93469ba23946"), looks := false }, kinds := [], alts := [], laidByText := true, laidKinds := [.data], laidTests := true, laidLooks := .later }
def PerftCountsUptoCardSaid : Prop := Claim7.holds Tryz.pinned (.plain (OpenSpec.upto perftCountsSpec)) perftCountsUptoCard

/-- THE SECOND FORM's CARD OF 'riverbanklaw11.PerftTurn'. -/
def perftTurnUptoCard : Claim7 := { stood := { row := perftTurnUptoRow, standIns := [], harness := (true, "ffe14d26bf73c86c0e9290d515e5be98b97158558dadc205188f93469ba23946"), looks := false }, kinds := [], alts := [], laidByText := true, laidKinds := [.data], laidTests := true, laidLooks := .later }
def PerftTurnUptoCardSaid : Prop := Claim7.holds Tryz.pinned (.plain (OpenSpec.upto perftTurnSpec)) perftTurnUptoCard
end Rows
end Go.Proofs.YtelngcfpnbeakaaGreatDoor
