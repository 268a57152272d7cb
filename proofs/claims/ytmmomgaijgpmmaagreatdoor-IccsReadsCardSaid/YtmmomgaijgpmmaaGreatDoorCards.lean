/-
  DERIVED. GIVEN WITH THE SEED: THE CARDS: each row of YtmmomgaijgpmmaaGreatDoorRows.lean that lists a variable, with what it lists TIED to the program's text (the seventh form; the later family's looks); each row that meets fmt, with fmt's text TOLD by the authors' own Lean function (tested against real Go, not proved from fmt's source: count such statements apart). THE CARD IS WHAT COUNTS. Prove the row's statement (the work); the ties are given (YtmmomgaijgpmmaaGreatDoorTie.lean); close each card by the builder's one call (the guide's Derived/Test/ToyasCard.lean, 'card_holds'). Laid BY PROGRAM, IN A SANDBOX (cutbox-door.mjs). By AI agents, Wed Nov 11 2026. No macro, syntax, notation, axiom, sorry.
-/
import Derived.Test.YtmmomgaijgpmmaaGreatDoorRows
import GoSem.ClaimSeven
namespace Go.Proofs.YtmmomgaijgpmmaaGreatDoor
namespace Rows

/-- THE TIED CARD OF 'riverbanklaw12.IccsReads'. -/
def iccsReadsCard : Claim7 := { stood := { row := iccsReadsRow, standIns := [], harness := (true, "2deddd3183c5ff79e2542392b33bf99f5e5b0a6f21751a8a33faf7db2350a954"), looks := true }, kinds := [], alts := [], laidByText := true, laidKinds := [.data, .data, .sentinel, .sentinel, .sentinel, .pinned], laidTests := true, laidLooks := .later }
def IccsReadsCardSaid : Prop := Claim7.holds Tryz.pinned (.plain (OpenSpec.ofChange iccsReadsSpec)) iccsReadsCard

/-- THE TIED CARD OF 'riverbanklaw12.IccsBack'. -/
def iccsBackCard : Claim7 := { stood := { row := iccsBackRow, standIns := [], harness := (true, "2deddd3183c5ff79e2542392b33bf99f5e5b0a6f21751a8a33faf7db2350a954"), looks := true }, kinds := [], alts := [], laidByText := true, laidKinds := [.data, .data, .sentinel, .sentinel, .sentinel, .pinned], laidTests := true, laidLooks := .later }
def IccsBackCardSaid : Prop := Claim7.holds Tryz.pinned (.plain (OpenSpec.ofChange iccsBackSpec)) iccsBackCard

/-- THE TIED CARD OF 'riverbanklaw12.IccsAgain'. -/
def iccsAgainCard : Claim7 := { stood := { row := iccsAgainRow, standIns := [], harness := (true, "2deddd3183c5ff79e2542392b33bf99f5e5b0a6f21751a8a33faf7db2350a954"), looks := true }, kinds := [], alts := [], laidByText := true, laidKinds := [.data, .data, .sentinel, .sentinel, .sentinel, .pinned], laidTests := true, laidLooks := .later }
def IccsAgainCardSaid : Prop := Claim7.holds Tryz.pinned (.plain (OpenSpec.ofChange iccsAgainSpec)) iccsAgainCard

/-- THE TIED CARD OF 'riverbanklaw12.IccsApart'. -/
def iccsApartCard : Claim7 := { stood := { row := iccsApartRow, standIns := [], harness := (true, "2deddd3183c5ff79e2542392b33bf99f5e5b0a6f21751a8a33faf7db2350a954"), looks := true }, kinds := [], alts := [], laidByText := true, laidKinds := [.data, .data, .sentinel, .sentinel, .sentinel, .pinned], laidTests := true, laidLooks := .later }
def IccsApartCardSaid : Prop := Claim7.holds Tryz.pinned (.plain (OpenSpec.ofChange iccsApartSpec)) iccsApartCard

/-- THE TIED CARD OF 'riverbanklaw12.IccsOn'. -/
def iccsOnCard : Claim7 := { stood := { row := iccsOnRow, standIns := [], harness := (true, "2deddd3183c5ff79e2542392b33bf99f5e5b0a6f21751a8a33faf7db2350a954"), looks := true }, kinds := [], alts := [], laidByText := true, laidKinds := [.data, .data, .sentinel, .sentinel, .sentinel, .pinned], laidTests := true, laidLooks := .later }
def IccsOnCardSaid : Prop := Claim7.holds Tryz.pinned (.plain (OpenSpec.ofChange iccsOnSpec)) iccsOnCard

/-- THE SECOND FORM's CARD OF 'riverbanklaw12.IccsReads'. -/
def iccsReadsUptoCard : Claim7 := { stood := { row := iccsReadsUptoRow, standIns := [], harness := (true, "2deddd3183c5ff79e2542392b33bf99f5e5b0a6f21751a8a33faf7db2350a954"), looks := true }, kinds := [], alts := [], laidByText := true, laidKinds := [.data, .data, .sentinel, .sentinel, .sentinel, .pinned], laidTests := true, laidLooks := .later }
def IccsReadsUptoCardSaid : Prop := Claim7.holds Tryz.pinned (.plain (OpenSpec.upto iccsReadsSpec)) iccsReadsUptoCard

/-- THE SECOND FORM's CARD OF 'riverbanklaw12.IccsBack'. -/
def iccsBackUptoCard : Claim7 := { stood := { row := iccsBackUptoRow, standIns := [], harness := (true, "2deddd3183c5ff79e2542392b33bf99f5e5b0a6f21751a8a33faf7db2350a954"), looks := true }, kinds := [], alts := [], laidByText := true, laidKinds := [.data, .data, .sentinel, .sentinel, .sentinel, .pinned], laidTests := true, laidLooks := .later }
def IccsBackUptoCardSaid : Prop := Claim7.holds Tryz.pinned (.plain (OpenSpec.upto iccsBackSpec)) iccsBackUptoCard

/-- THE SECOND FORM's CARD OF 'riverbanklaw12.IccsAgain'. -/
def iccsAgainUptoCard : Claim7 := { stood := { row := iccsAgainUptoRow, standIns := [], harness := (true, "2deddd3183c5ff79e2542392b33bf99f5e5b0a6f21751a8a33faf7db2350a954"), looks := true }, kinds := [], alts := [], laidByText := true, laidKinds := [.data, .data, .sentinel, .sentinel, .sentinel, .pinned], laidTests := true, laidLooks := .later }
def IccsAgainUptoCardSaid : Prop := Claim7.holds Tryz.pinned (.plain (OpenSpec.upto iccsAgainSpec)) iccsAgainUptoCard

/-- THE SECOND FORM's CARD OF 'riverbanklaw12.IccsApart'. -/
def iccsApartUptoCard : Claim7 := { stood := { row := iccsApartUptoRow, standIns := [], harness := (true, "2deddd3183c5ff79e2542392b33bf99f5e5b0a6f21751a8a33faf7db2350a954"), looks := true }, kinds := [], alts := [], laidByText := true, laidKinds := [.data, .data, .sentinel, .sentinel, .sentinel, .pinned], laidTests := true, laidLooks := .later }
def IccsApartUptoCardSaid : Prop := Claim7.holds Tryz.pinned (.plain (OpenSpec.upto iccsApartSpec)) iccsApartUptoCard

/-- THE SECOND FORM's CARD OF 'riverbanklaw12.IccsOn'. -/
def iccsOnUptoCard : Claim7 := { stood := { row := iccsOnUptoRow, standIns := [], harness := (true, "2deddd3183c5ff79e2542392b33bf99f5e5b0a6f21751a8a33faf7db2350a954"), looks := true }, kinds := [], alts := [], laidByText := true, laidKinds := [.data, .data, .sentinel, .sentinel, .sentinel, .pinned], laidTests := true, laidLooks := .later }
def IccsOnUptoCardSaid : Prop := Claim7.holds Tryz.pinned (.plain (OpenSpec.upto iccsOnSpec)) iccsOnUptoCard
end Rows
end Go.Proofs.YtmmomgaijgpmmaaGreatDoor
