/-
  NARROWER THAN 'FOR EVERY INPUT', by the rows' own cells (each row's printed sentence says how): IccsReads: laid · IccsBack: laid · IccsAgain: laid · IccsApart: laid · IccsOn: laid.
  DERIVED. THE GIVEN ROWS OF THIS SEAT. 5 by the template 'for every input the law returns true; each argument reads behind the call as it read before'; 0 by the template 'total and deterministic' (their statements: YtmmomgaijgpmmaaGreatDoorTotals.lean).
  GIVEN WITH THE SEED: the statements are not yours to turn. If you find one false, say at which input.
  Laid BY PROGRAM, IN A SANDBOX (cutbox-rows.mjs): the forced cells as the released guide's own fill.sh prints them over the translation 5243ec87e60410d9… (all of the seat's roots in one cut). By AI agents, Wed Nov 11 2026. No macro, syntax, notation, axiom, sorry.
-/
import Derived.Test.YtmmomgaijgpmmaaGreatDoorChecked
import GoSem.PinnedTables
import GoSem.Claim
import GoSem.ClaimJoined
import GoSem.ClaimMapViews
import Derived.JoinedTies
import Derived.KernelRfl
namespace Go.Proofs.YtmmomgaijgpmmaaGreatDoor
/- THE CELL 'sum', in the pinned program and in every row, IS THE sha256 OF THE DUMP (.gsa) THAT YtmmomgaijgpmmaaGreatDoorProg.lean LOADS. Nothing in Lean hashes anything: it is a label: what it is worth is what the hold of that sum in a sandbox is worth. -/
noncomputable def Tryz.pinned : Pinned := { name := "ytmmomgaijgpmmaagreatdoor", sum := "5243ec87e60410d9de766da05eafcd09e2d301741e7562eac6356d5f639b5bce", checked := Tryz.checked }
namespace Rows
def none {H : Type} : Left H := { results := [], args := [] }

/- WHAT THE LISTED PACKAGE-LEVEL VARIABLES READ AS WHEN THE CALL BEGINS. Each datum BY PROGRAM (the guide's laid-datum.mjs) off the statement by which the dump's own 'gosem.cut.vars' lays the variable. In a bare row this is a premise. The card (YtmmomgaijgpmmaaGreatDoorCards.lean) ties it to the program's text. -/
def laid_math_bits_deBruijn64tab {H : Type} : DataW H := .agg [.lit (.int .u8 0), .lit (.int .u8 1), .lit (.int .u8 56), .lit (.int .u8 2), .lit (.int .u8 57), .lit (.int .u8 49), .lit (.int .u8 28), .lit (.int .u8 3), .lit (.int .u8 61), .lit (.int .u8 58), .lit (.int .u8 42), .lit (.int .u8 50), .lit (.int .u8 38), .lit (.int .u8 29), .lit (.int .u8 17), .lit (.int .u8 4), .lit (.int .u8 62), .lit (.int .u8 47), .lit (.int .u8 59), .lit (.int .u8 36), .lit (.int .u8 45), .lit (.int .u8 43), .lit (.int .u8 51), .lit (.int .u8 22), .lit (.int .u8 53), .lit (.int .u8 39), .lit (.int .u8 33), .lit (.int .u8 30), .lit (.int .u8 24), .lit (.int .u8 18), .lit (.int .u8 12), .lit (.int .u8 5), .lit (.int .u8 63), .lit (.int .u8 55), .lit (.int .u8 48), .lit (.int .u8 27), .lit (.int .u8 60), .lit (.int .u8 41), .lit (.int .u8 37), .lit (.int .u8 16), .lit (.int .u8 46), .lit (.int .u8 35), .lit (.int .u8 44), .lit (.int .u8 21), .lit (.int .u8 52), .lit (.int .u8 32), .lit (.int .u8 23), .lit (.int .u8 11), .lit (.int .u8 54), .lit (.int .u8 26), .lit (.int .u8 40), .lit (.int .u8 15), .lit (.int .u8 34), .lit (.int .u8 20), .lit (.int .u8 31), .lit (.int .u8 10), .lit (.int .u8 25), .lit (.int .u8 14), .lit (.int .u8 19), .lit (.int .u8 9), .lit (.int .u8 13), .lit (.int .u8 8), .lit (.int .u8 7), .lit (.int .u8 6)]
def laid_unicode_utf8_acceptRanges {H : Type} : DataW H := .agg [.agg [.lit (.int .u8 128), .lit (.int .u8 191)], .agg [.lit (.int .u8 160), .lit (.int .u8 191)], .agg [.lit (.int .u8 128), .lit (.int .u8 159)], .agg [.lit (.int .u8 144), .lit (.int .u8 191)], .agg [.lit (.int .u8 128), .lit (.int .u8 143)], .agg [.lit (.int .u8 0), .lit (.int .u8 0)], .agg [.lit (.int .u8 0), .lit (.int .u8 0)], .agg [.lit (.int .u8 0), .lit (.int .u8 0)], .agg [.lit (.int .u8 0), .lit (.int .u8 0)], .agg [.lit (.int .u8 0), .lit (.int .u8 0)], .agg [.lit (.int .u8 0), .lit (.int .u8 0)], .agg [.lit (.int .u8 0), .lit (.int .u8 0)], .agg [.lit (.int .u8 0), .lit (.int .u8 0)], .agg [.lit (.int .u8 0), .lit (.int .u8 0)], .agg [.lit (.int .u8 0), .lit (.int .u8 0)], .agg [.lit (.int .u8 0), .lit (.int .u8 0)]]
def laid_riverbank_iccs_errForm {H : Type} : DataW H := .iface "*errors.errorString" (.ptr (.agg [.lit (.string [110, 111, 32, 109, 111, 118, 101, 39, 115, 32, 116, 101, 120, 116])]))
def laid_riverbank_iccs_errFull {H : Type} : DataW H := .iface "*errors.errorString" (.ptr (.agg [.lit (.string [111, 110, 101, 32, 109, 111, 118, 101, 32, 116, 111, 111, 32, 109, 97, 110, 121])]))
def laid_riverbank_iccs_errMove {H : Type} : DataW H := .iface "*errors.errorString" (.ptr (.agg [.lit (.string [109, 97, 121, 32, 110, 111, 116, 32, 98, 101, 32, 109, 97, 100, 101])]))
/-- One of Go's own tables, pinned by name: the form's constant. -/
def laid_unicode_utf8_first : DataW Unit := Go.Pinned.utf8First

/-- 'riverbanklaw12.IccsReads': WHATEVER THE INPUT: true; the input reads as it did. -/
def iccsReadsSpec : ChangeSpec := { name := "iccsReads", fn := fun _ => fun
  | [d1, d2] => { results := [.lit (.bool true)], args := [d1, d2] }
  | _ => none }
def iccsReadsRow : OpenClaim := { program := "ytmmomgaijgpmmaagreatdoor", sum := "5243ec87e60410d9de766da05eafcd09e2d301741e7562eac6356d5f639b5bce", func := "riverbank/riverbanklaw12.IccsReads", spec := "iccsReads", inPlace := ["internal/reflectlite.TypeOf", "internal/bytealg.IndexByteString", "internal/bytealg.IndexString", "internal/abi.NoEscape", "internal/bytealg.MakeNoZero"], unfollowed := true, recurses := true, named := ["riverbank/iccs.errForm", "riverbank/iccs.errFull", "riverbank/iccs.errMove", "math/bits.deBruijn64tab", "unicode/utf8.first", "unicode/utf8.acceptRanges", "internal/bytealg.MaxLen"], apart := false, laid := [("math/bits.deBruijn64tab", laid_math_bits_deBruijn64tab), ("unicode/utf8.acceptRanges", laid_unicode_utf8_acceptRanges), ("riverbank/iccs.errForm", laid_riverbank_iccs_errForm), ("riverbank/iccs.errFull", laid_riverbank_iccs_errFull), ("riverbank/iccs.errMove", laid_riverbank_iccs_errMove), ("unicode/utf8.first", laid_unicode_utf8_first)] }
def IccsReadsSaid : Prop := iccsReadsRow.holds Tryz.pinned (OpenSpec.ofChange iccsReadsSpec)

/-- ITS FALSE NEIGHBOUR: 'it returns false'. Refute it at one input. -/
def iccsReadsWrong : ChangeSpec := { name := "iccsReads", fn := fun _ => fun
  | [d1, d2] => { results := [.lit (.bool false)], args := [d1, d2] }
  | _ => none }
def IccsReadsWrongFalsely : Prop := iccsReadsRow.holds Tryz.pinned (OpenSpec.ofChange iccsReadsWrong)

/-- 'riverbanklaw12.IccsBack': WHATEVER THE INPUT: true; the input reads as it did. -/
def iccsBackSpec : ChangeSpec := { name := "iccsBack", fn := fun _ => fun
  | [d] => { results := [.lit (.bool true)], args := [d] }
  | _ => none }
def iccsBackRow : OpenClaim := { program := "ytmmomgaijgpmmaagreatdoor", sum := "5243ec87e60410d9de766da05eafcd09e2d301741e7562eac6356d5f639b5bce", func := "riverbank/riverbanklaw12.IccsBack", spec := "iccsBack", inPlace := ["internal/reflectlite.TypeOf", "internal/bytealg.IndexByteString", "internal/bytealg.IndexString", "internal/abi.NoEscape", "internal/bytealg.MakeNoZero"], unfollowed := true, recurses := true, named := ["riverbank/iccs.errForm", "riverbank/iccs.errFull", "riverbank/iccs.errMove", "math/bits.deBruijn64tab", "unicode/utf8.first", "unicode/utf8.acceptRanges", "internal/bytealg.MaxLen"], apart := false, laid := [("math/bits.deBruijn64tab", laid_math_bits_deBruijn64tab), ("unicode/utf8.acceptRanges", laid_unicode_utf8_acceptRanges), ("riverbank/iccs.errForm", laid_riverbank_iccs_errForm), ("riverbank/iccs.errFull", laid_riverbank_iccs_errFull), ("riverbank/iccs.errMove", laid_riverbank_iccs_errMove), ("unicode/utf8.first", laid_unicode_utf8_first)] }
def IccsBackSaid : Prop := iccsBackRow.holds Tryz.pinned (OpenSpec.ofChange iccsBackSpec)

/-- ITS FALSE NEIGHBOUR: 'it returns false'. Refute it at one input. -/
def iccsBackWrong : ChangeSpec := { name := "iccsBack", fn := fun _ => fun
  | [d] => { results := [.lit (.bool false)], args := [d] }
  | _ => none }
def IccsBackWrongFalsely : Prop := iccsBackRow.holds Tryz.pinned (OpenSpec.ofChange iccsBackWrong)

/-- 'riverbanklaw12.IccsAgain': WHATEVER THE INPUT: true; the input reads as it did. -/
def iccsAgainSpec : ChangeSpec := { name := "iccsAgain", fn := fun _ => fun
  | [d1, d2] => { results := [.lit (.bool true)], args := [d1, d2] }
  | _ => none }
def iccsAgainRow : OpenClaim := { program := "ytmmomgaijgpmmaagreatdoor", sum := "5243ec87e60410d9de766da05eafcd09e2d301741e7562eac6356d5f639b5bce", func := "riverbank/riverbanklaw12.IccsAgain", spec := "iccsAgain", inPlace := ["internal/reflectlite.TypeOf", "internal/bytealg.IndexByteString", "internal/bytealg.IndexString", "internal/abi.NoEscape", "internal/bytealg.MakeNoZero"], unfollowed := true, recurses := true, named := ["riverbank/iccs.errForm", "riverbank/iccs.errFull", "riverbank/iccs.errMove", "math/bits.deBruijn64tab", "unicode/utf8.first", "unicode/utf8.acceptRanges", "internal/bytealg.MaxLen"], apart := false, laid := [("math/bits.deBruijn64tab", laid_math_bits_deBruijn64tab), ("unicode/utf8.acceptRanges", laid_unicode_utf8_acceptRanges), ("riverbank/iccs.errForm", laid_riverbank_iccs_errForm), ("riverbank/iccs.errFull", laid_riverbank_iccs_errFull), ("riverbank/iccs.errMove", laid_riverbank_iccs_errMove), ("unicode/utf8.first", laid_unicode_utf8_first)] }
def IccsAgainSaid : Prop := iccsAgainRow.holds Tryz.pinned (OpenSpec.ofChange iccsAgainSpec)

/-- ITS FALSE NEIGHBOUR: 'it returns false'. Refute it at one input. -/
def iccsAgainWrong : ChangeSpec := { name := "iccsAgain", fn := fun _ => fun
  | [d1, d2] => { results := [.lit (.bool false)], args := [d1, d2] }
  | _ => none }
def IccsAgainWrongFalsely : Prop := iccsAgainRow.holds Tryz.pinned (OpenSpec.ofChange iccsAgainWrong)

/-- 'riverbanklaw12.IccsApart': WHATEVER THE INPUT: true; the input reads as it did. -/
def iccsApartSpec : ChangeSpec := { name := "iccsApart", fn := fun _ => fun
  | [d1, d2] => { results := [.lit (.bool true)], args := [d1, d2] }
  | _ => none }
def iccsApartRow : OpenClaim := { program := "ytmmomgaijgpmmaagreatdoor", sum := "5243ec87e60410d9de766da05eafcd09e2d301741e7562eac6356d5f639b5bce", func := "riverbank/riverbanklaw12.IccsApart", spec := "iccsApart", inPlace := ["internal/reflectlite.TypeOf", "internal/bytealg.IndexByteString", "internal/bytealg.IndexString", "internal/abi.NoEscape", "internal/bytealg.MakeNoZero"], unfollowed := true, recurses := true, named := ["riverbank/iccs.errForm", "riverbank/iccs.errFull", "riverbank/iccs.errMove", "math/bits.deBruijn64tab", "unicode/utf8.first", "unicode/utf8.acceptRanges", "internal/bytealg.MaxLen"], apart := false, laid := [("math/bits.deBruijn64tab", laid_math_bits_deBruijn64tab), ("unicode/utf8.acceptRanges", laid_unicode_utf8_acceptRanges), ("riverbank/iccs.errForm", laid_riverbank_iccs_errForm), ("riverbank/iccs.errFull", laid_riverbank_iccs_errFull), ("riverbank/iccs.errMove", laid_riverbank_iccs_errMove), ("unicode/utf8.first", laid_unicode_utf8_first)] }
def IccsApartSaid : Prop := iccsApartRow.holds Tryz.pinned (OpenSpec.ofChange iccsApartSpec)

/-- ITS FALSE NEIGHBOUR: 'it returns false'. Refute it at one input. -/
def iccsApartWrong : ChangeSpec := { name := "iccsApart", fn := fun _ => fun
  | [d1, d2] => { results := [.lit (.bool false)], args := [d1, d2] }
  | _ => none }
def IccsApartWrongFalsely : Prop := iccsApartRow.holds Tryz.pinned (OpenSpec.ofChange iccsApartWrong)

/-- 'riverbanklaw12.IccsOn': WHATEVER THE INPUT: true; the input reads as it did. -/
def iccsOnSpec : ChangeSpec := { name := "iccsOn", fn := fun _ => fun
  | [d1, d2, d3] => { results := [.lit (.bool true)], args := [d1, d2, d3] }
  | _ => none }
def iccsOnRow : OpenClaim := { program := "ytmmomgaijgpmmaagreatdoor", sum := "5243ec87e60410d9de766da05eafcd09e2d301741e7562eac6356d5f639b5bce", func := "riverbank/riverbanklaw12.IccsOn", spec := "iccsOn", inPlace := ["internal/reflectlite.TypeOf", "internal/bytealg.IndexByteString", "internal/bytealg.IndexString", "internal/abi.NoEscape", "internal/bytealg.MakeNoZero"], unfollowed := true, recurses := true, named := ["riverbank/iccs.errForm", "riverbank/iccs.errFull", "riverbank/iccs.errMove", "math/bits.deBruijn64tab", "unicode/utf8.first", "unicode/utf8.acceptRanges", "internal/bytealg.MaxLen"], apart := false, laid := [("math/bits.deBruijn64tab", laid_math_bits_deBruijn64tab), ("unicode/utf8.acceptRanges", laid_unicode_utf8_acceptRanges), ("riverbank/iccs.errForm", laid_riverbank_iccs_errForm), ("riverbank/iccs.errFull", laid_riverbank_iccs_errFull), ("riverbank/iccs.errMove", laid_riverbank_iccs_errMove), ("unicode/utf8.first", laid_unicode_utf8_first)] }
def IccsOnSaid : Prop := iccsOnRow.holds Tryz.pinned (OpenSpec.ofChange iccsOnSpec)

/-- ITS FALSE NEIGHBOUR: 'it returns false'. Refute it at one input. -/
def iccsOnWrong : ChangeSpec := { name := "iccsOn", fn := fun _ => fun
  | [d1, d2, d3] => { results := [.lit (.bool false)], args := [d1, d2, d3] }
  | _ => none }
def IccsOnWrongFalsely : Prop := iccsOnRow.holds Tryz.pinned (OpenSpec.ofChange iccsOnWrong)

/- THE SECOND FORM. 'bulk': how many values and letters a reading holds, each counted each time it is reached (what is shared counts as often as it is met; a slice's spare places count too). A statement '..UptoSaid' is the law's where the arguments, and the package variables that the reading takes, are together of bulk at most 1048576: NARROWER than '..Said'. Prove '..Said' where nothing that the law and all that it calls make is longer than what came in: it says more and counts as full. Else prove '..UptoSaid'. A law counts once. -/
mutual
def uptoBulk {H : Type} : DataW H → Nat
  | .lit (.string bytes) => bytes.length + 1
  | .lit _ => 1
  | .nil => 1
  | .ptr d => uptoBulk d + 1
  | .slice elems spare => uptoBulkAll elems + uptoBulkAll spare + 1
  | .agg parts => uptoBulkAll parts + 1
  | .iface _ d => uptoBulk d + 1
  | .map entries => uptoBulkEntries entries + 1
  | .held _ => 1
def uptoBulkAll {H : Type} : List (DataW H) → Nat
  | [] => 0
  | d :: r => uptoBulk d + uptoBulkAll r
def uptoBulkEntries {H : Type} : List (Lit × DataW H) → Nat
  | [] => 0
  | x :: r => uptoBulkEntry x + uptoBulkEntries r
def uptoBulkEntry {H : Type} : Lit × DataW H → Nat
  | (.string bytes, d) => bytes.length + uptoBulk d + 1
  | (_, d) => uptoBulk d + 1
 end
def uptoSmall : (H : Type) → List (DataW H) → Bool := fun _ ds => decide (uptoBulkAll ds ≤ 1048576)
def OpenSpec.upto (s : _root_.Go.ChangeSpec) : _root_.Go.OpenSpec := { _root_.Go.OpenSpec.ofChange s with cond := some uptoSmall }

/-- 'riverbanklaw12.IccsReads', WHERE WHAT IT READS IS OF BULK AT MOST 1048576: true; the input reads as it did. -/
def iccsReadsUptoRow : OpenClaim := { program := "ytmmomgaijgpmmaagreatdoor", sum := "5243ec87e60410d9de766da05eafcd09e2d301741e7562eac6356d5f639b5bce", func := "riverbank/riverbanklaw12.IccsReads", spec := "iccsReads", inPlace := ["internal/reflectlite.TypeOf", "internal/bytealg.IndexByteString", "internal/bytealg.IndexString", "internal/abi.NoEscape", "internal/bytealg.MakeNoZero"], unfollowed := true, recurses := true, named := ["riverbank/iccs.errForm", "riverbank/iccs.errFull", "riverbank/iccs.errMove", "math/bits.deBruijn64tab", "unicode/utf8.first", "unicode/utf8.acceptRanges", "internal/bytealg.MaxLen"], apart := false, laid := [("math/bits.deBruijn64tab", laid_math_bits_deBruijn64tab), ("unicode/utf8.acceptRanges", laid_unicode_utf8_acceptRanges), ("riverbank/iccs.errForm", laid_riverbank_iccs_errForm), ("riverbank/iccs.errFull", laid_riverbank_iccs_errFull), ("riverbank/iccs.errMove", laid_riverbank_iccs_errMove), ("unicode/utf8.first", laid_unicode_utf8_first)], narrowed := true }
def IccsReadsUptoSaid : Prop := iccsReadsUptoRow.holds Tryz.pinned (OpenSpec.upto iccsReadsSpec)

/-- 'riverbanklaw12.IccsBack', WHERE WHAT IT READS IS OF BULK AT MOST 1048576: true; the input reads as it did. -/
def iccsBackUptoRow : OpenClaim := { program := "ytmmomgaijgpmmaagreatdoor", sum := "5243ec87e60410d9de766da05eafcd09e2d301741e7562eac6356d5f639b5bce", func := "riverbank/riverbanklaw12.IccsBack", spec := "iccsBack", inPlace := ["internal/reflectlite.TypeOf", "internal/bytealg.IndexByteString", "internal/bytealg.IndexString", "internal/abi.NoEscape", "internal/bytealg.MakeNoZero"], unfollowed := true, recurses := true, named := ["riverbank/iccs.errForm", "riverbank/iccs.errFull", "riverbank/iccs.errMove", "math/bits.deBruijn64tab", "unicode/utf8.first", "unicode/utf8.acceptRanges", "internal/bytealg.MaxLen"], apart := false, laid := [("math/bits.deBruijn64tab", laid_math_bits_deBruijn64tab), ("unicode/utf8.acceptRanges", laid_unicode_utf8_acceptRanges), ("riverbank/iccs.errForm", laid_riverbank_iccs_errForm), ("riverbank/iccs.errFull", laid_riverbank_iccs_errFull), ("riverbank/iccs.errMove", laid_riverbank_iccs_errMove), ("unicode/utf8.first", laid_unicode_utf8_first)], narrowed := true }
def IccsBackUptoSaid : Prop := iccsBackUptoRow.holds Tryz.pinned (OpenSpec.upto iccsBackSpec)

/-- 'riverbanklaw12.IccsAgain', WHERE WHAT IT READS IS OF BULK AT MOST 1048576: true; the input reads as it did. -/
def iccsAgainUptoRow : OpenClaim := { program := "ytmmomgaijgpmmaagreatdoor", sum := "5243ec87e60410d9de766da05eafcd09e2d301741e7562eac6356d5f639b5bce", func := "riverbank/riverbanklaw12.IccsAgain", spec := "iccsAgain", inPlace := ["internal/reflectlite.TypeOf", "internal/bytealg.IndexByteString", "internal/bytealg.IndexString", "internal/abi.NoEscape", "internal/bytealg.MakeNoZero"], unfollowed := true, recurses := true, named := ["riverbank/iccs.errForm", "riverbank/iccs.errFull", "riverbank/iccs.errMove", "math/bits.deBruijn64tab", "unicode/utf8.first", "unicode/utf8.acceptRanges", "internal/bytealg.MaxLen"], apart := false, laid := [("math/bits.deBruijn64tab", laid_math_bits_deBruijn64tab), ("unicode/utf8.acceptRanges", laid_unicode_utf8_acceptRanges), ("riverbank/iccs.errForm", laid_riverbank_iccs_errForm), ("riverbank/iccs.errFull", laid_riverbank_iccs_errFull), ("riverbank/iccs.errMove", laid_riverbank_iccs_errMove), ("unicode/utf8.first", laid_unicode_utf8_first)], narrowed := true }
def IccsAgainUptoSaid : Prop := iccsAgainUptoRow.holds Tryz.pinned (OpenSpec.upto iccsAgainSpec)

/-- 'riverbanklaw12.IccsApart', WHERE WHAT IT READS IS OF BULK AT MOST 1048576: true; the input reads as it did. -/
def iccsApartUptoRow : OpenClaim := { program := "ytmmomgaijgpmmaagreatdoor", sum := "5243ec87e60410d9de766da05eafcd09e2d301741e7562eac6356d5f639b5bce", func := "riverbank/riverbanklaw12.IccsApart", spec := "iccsApart", inPlace := ["internal/reflectlite.TypeOf", "internal/bytealg.IndexByteString", "internal/bytealg.IndexString", "internal/abi.NoEscape", "internal/bytealg.MakeNoZero"], unfollowed := true, recurses := true, named := ["riverbank/iccs.errForm", "riverbank/iccs.errFull", "riverbank/iccs.errMove", "math/bits.deBruijn64tab", "unicode/utf8.first", "unicode/utf8.acceptRanges", "internal/bytealg.MaxLen"], apart := false, laid := [("math/bits.deBruijn64tab", laid_math_bits_deBruijn64tab), ("unicode/utf8.acceptRanges", laid_unicode_utf8_acceptRanges), ("riverbank/iccs.errForm", laid_riverbank_iccs_errForm), ("riverbank/iccs.errFull", laid_riverbank_iccs_errFull), ("riverbank/iccs.errMove", laid_riverbank_iccs_errMove), ("unicode/utf8.first", laid_unicode_utf8_first)], narrowed := true }
def IccsApartUptoSaid : Prop := iccsApartUptoRow.holds Tryz.pinned (OpenSpec.upto iccsApartSpec)

/-- 'riverbanklaw12.IccsOn', WHERE WHAT IT READS IS OF BULK AT MOST 1048576: true; the input reads as it did. -/
def iccsOnUptoRow : OpenClaim := { program := "ytmmomgaijgpmmaagreatdoor", sum := "5243ec87e60410d9de766da05eafcd09e2d301741e7562eac6356d5f639b5bce", func := "riverbank/riverbanklaw12.IccsOn", spec := "iccsOn", inPlace := ["internal/reflectlite.TypeOf", "internal/bytealg.IndexByteString", "internal/bytealg.IndexString", "internal/abi.NoEscape", "internal/bytealg.MakeNoZero"], unfollowed := true, recurses := true, named := ["riverbank/iccs.errForm", "riverbank/iccs.errFull", "riverbank/iccs.errMove", "math/bits.deBruijn64tab", "unicode/utf8.first", "unicode/utf8.acceptRanges", "internal/bytealg.MaxLen"], apart := false, laid := [("math/bits.deBruijn64tab", laid_math_bits_deBruijn64tab), ("unicode/utf8.acceptRanges", laid_unicode_utf8_acceptRanges), ("riverbank/iccs.errForm", laid_riverbank_iccs_errForm), ("riverbank/iccs.errFull", laid_riverbank_iccs_errFull), ("riverbank/iccs.errMove", laid_riverbank_iccs_errMove), ("unicode/utf8.first", laid_unicode_utf8_first)], narrowed := true }
def IccsOnUptoSaid : Prop := iccsOnUptoRow.holds Tryz.pinned (OpenSpec.upto iccsOnSpec)

end Rows
end Go.Proofs.YtmmomgaijgpmmaaGreatDoor
