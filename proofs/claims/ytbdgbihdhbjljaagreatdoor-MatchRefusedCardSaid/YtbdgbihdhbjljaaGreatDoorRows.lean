/-
  NARROWER THAN 'FOR EVERY INPUT', by the rows' own cells (each row's printed sentence says how): JudgePlays: laid · MatchScripts: laid · MatchBans: laid · MatchRefused: laid · MatchSet: laid · MatchAll: laid · QuietOf: laid · QuietTurn: laid · QuietWindow: laid.
  DERIVED. THE GIVEN ROWS OF THIS SEAT. 9 by the template 'for every input the law returns true; each argument reads behind the call as it read before'; 0 by the template 'total and deterministic' (their statements: YtbdgbihdhbjljaaGreatDoorTotals.lean).
  GIVEN WITH THE SEED: the statements are not yours to turn. If you find one false, say at which input.
  Laid BY PROGRAM, IN A SANDBOX (cutbox-rows.mjs): the forced cells as the released guide's own fill.sh prints them over the translation 531182422e80d97c… (all of the seat's roots in one cut). By AI agents, Wed Nov 11 2026. No macro, syntax, notation, axiom, sorry.
-/
import Derived.Test.YtbdgbihdhbjljaaGreatDoorChecked
import GoSem.Claim
import GoSem.ClaimJoined
import GoSem.ClaimMapViews
import Derived.JoinedTies
import Derived.KernelRfl
namespace Go.Proofs.YtbdgbihdhbjljaaGreatDoor
/- THE CELL 'sum', in the pinned program and in every row, IS THE sha256 OF THE DUMP (.gsa) THAT YtbdgbihdhbjljaaGreatDoorProg.lean LOADS. Nothing in Lean hashes anything: it is a label: what it is worth is what the hold of that sum in a sandbox is worth. -/
noncomputable def Tryz.pinned : Pinned := { name := "ytbdgbihdhbjljaagreatdoor", sum := "531182422e80d97c32d03c3dda930e63a2f6fd337b951fbd027b03a311a643fa", checked := Tryz.checked }
namespace Rows
def none {H : Type} : Left H := { results := [], args := [] }

/- WHAT THE LISTED PACKAGE-LEVEL VARIABLES READ AS WHEN THE CALL BEGINS. Each datum BY PROGRAM (the guide's laid-datum.mjs) off the statement by which the dump's own 'gosem.cut.vars' lays the variable. In a bare row this is a premise. The card (YtbdgbihdhbjljaaGreatDoorCards.lean) ties it to the program's text. -/
def laid_math_bits_deBruijn64tab {H : Type} : DataW H := .agg [.lit (.int .u8 0), .lit (.int .u8 1), .lit (.int .u8 56), .lit (.int .u8 2), .lit (.int .u8 57), .lit (.int .u8 49), .lit (.int .u8 28), .lit (.int .u8 3), .lit (.int .u8 61), .lit (.int .u8 58), .lit (.int .u8 42), .lit (.int .u8 50), .lit (.int .u8 38), .lit (.int .u8 29), .lit (.int .u8 17), .lit (.int .u8 4), .lit (.int .u8 62), .lit (.int .u8 47), .lit (.int .u8 59), .lit (.int .u8 36), .lit (.int .u8 45), .lit (.int .u8 43), .lit (.int .u8 51), .lit (.int .u8 22), .lit (.int .u8 53), .lit (.int .u8 39), .lit (.int .u8 33), .lit (.int .u8 30), .lit (.int .u8 24), .lit (.int .u8 18), .lit (.int .u8 12), .lit (.int .u8 5), .lit (.int .u8 63), .lit (.int .u8 55), .lit (.int .u8 48), .lit (.int .u8 27), .lit (.int .u8 60), .lit (.int .u8 41), .lit (.int .u8 37), .lit (.int .u8 16), .lit (.int .u8 46), .lit (.int .u8 35), .lit (.int .u8 44), .lit (.int .u8 21), .lit (.int .u8 52), .lit (.int .u8 32), .lit (.int .u8 23), .lit (.int .u8 11), .lit (.int .u8 54), .lit (.int .u8 26), .lit (.int .u8 40), .lit (.int .u8 15), .lit (.int .u8 34), .lit (.int .u8 20), .lit (.int .u8 31), .lit (.int .u8 10), .lit (.int .u8 25), .lit (.int .u8 14), .lit (.int .u8 19), .lit (.int .u8 9), .lit (.int .u8 13), .lit (.int .u8 8), .lit (.int .u8 7), .lit (.int .u8 6)]

/-- 'riverbanklaw18.JudgePlays': WHATEVER THE INPUT: true; the input reads as it did. -/
def judgePlaysSpec : ChangeSpec := { name := "judgePlays", fn := fun _ => fun
  | [d1, d2] => { results := [.lit (.bool true)], args := [d1, d2] }
  | _ => none }
def judgePlaysRow : OpenClaim := { program := "ytbdgbihdhbjljaagreatdoor", sum := "531182422e80d97c32d03c3dda930e63a2f6fd337b951fbd027b03a311a643fa", func := "riverbank/riverbanklaw18.JudgePlays", spec := "judgePlays", inPlace := ["internal/bytealg.IndexByteString"], unfollowed := true, recurses := true, named := ["math/bits.deBruijn64tab"], apart := false, laid := [("math/bits.deBruijn64tab", laid_math_bits_deBruijn64tab)] }
def JudgePlaysSaid : Prop := judgePlaysRow.holds Tryz.pinned (OpenSpec.ofChange judgePlaysSpec)

/-- ITS FALSE NEIGHBOUR: 'it returns false'. Refute it at one input. -/
def judgePlaysWrong : ChangeSpec := { name := "judgePlays", fn := fun _ => fun
  | [d1, d2] => { results := [.lit (.bool false)], args := [d1, d2] }
  | _ => none }
def JudgePlaysWrongFalsely : Prop := judgePlaysRow.holds Tryz.pinned (OpenSpec.ofChange judgePlaysWrong)

/-- 'riverbanklaw19.MatchScripts': WHATEVER THE INPUT: true; the input reads as it did. -/
def matchScriptsSpec : ChangeSpec := { name := "matchScripts", fn := fun _ => fun
  | [d] => { results := [.lit (.bool true)], args := [d] }
  | _ => none }
def matchScriptsRow : OpenClaim := { program := "ytbdgbihdhbjljaagreatdoor", sum := "531182422e80d97c32d03c3dda930e63a2f6fd337b951fbd027b03a311a643fa", func := "riverbank/riverbanklaw19.MatchScripts", spec := "matchScripts", inPlace := ["internal/bytealg.IndexByteString"], unfollowed := true, recurses := true, named := ["math/bits.deBruijn64tab"], apart := false, laid := [("math/bits.deBruijn64tab", laid_math_bits_deBruijn64tab)] }
def MatchScriptsSaid : Prop := matchScriptsRow.holds Tryz.pinned (OpenSpec.ofChange matchScriptsSpec)

/-- ITS FALSE NEIGHBOUR: 'it returns false'. Refute it at one input. -/
def matchScriptsWrong : ChangeSpec := { name := "matchScripts", fn := fun _ => fun
  | [d] => { results := [.lit (.bool false)], args := [d] }
  | _ => none }
def MatchScriptsWrongFalsely : Prop := matchScriptsRow.holds Tryz.pinned (OpenSpec.ofChange matchScriptsWrong)

/-- 'riverbanklaw19.MatchBans': WHATEVER THE INPUT: true; the input reads as it did. -/
def matchBansSpec : ChangeSpec := { name := "matchBans", fn := fun _ => fun
  | [d1, d2] => { results := [.lit (.bool true)], args := [d1, d2] }
  | _ => none }
def matchBansRow : OpenClaim := { program := "ytbdgbihdhbjljaagreatdoor", sum := "531182422e80d97c32d03c3dda930e63a2f6fd337b951fbd027b03a311a643fa", func := "riverbank/riverbanklaw19.MatchBans", spec := "matchBans", inPlace := ["internal/bytealg.IndexByteString"], unfollowed := true, recurses := true, named := ["math/bits.deBruijn64tab"], apart := false, laid := [("math/bits.deBruijn64tab", laid_math_bits_deBruijn64tab)] }
def MatchBansSaid : Prop := matchBansRow.holds Tryz.pinned (OpenSpec.ofChange matchBansSpec)

/-- ITS FALSE NEIGHBOUR: 'it returns false'. Refute it at one input. -/
def matchBansWrong : ChangeSpec := { name := "matchBans", fn := fun _ => fun
  | [d1, d2] => { results := [.lit (.bool false)], args := [d1, d2] }
  | _ => none }
def MatchBansWrongFalsely : Prop := matchBansRow.holds Tryz.pinned (OpenSpec.ofChange matchBansWrong)

/-- 'riverbanklaw19.MatchRefused': WHATEVER THE INPUT: true; the input reads as it did. -/
def matchRefusedSpec : ChangeSpec := { name := "matchRefused", fn := fun _ => fun
  | [d1, d2] => { results := [.lit (.bool true)], args := [d1, d2] }
  | _ => none }
def matchRefusedRow : OpenClaim := { program := "ytbdgbihdhbjljaagreatdoor", sum := "531182422e80d97c32d03c3dda930e63a2f6fd337b951fbd027b03a311a643fa", func := "riverbank/riverbanklaw19.MatchRefused", spec := "matchRefused", inPlace := ["internal/bytealg.IndexByteString"], unfollowed := true, recurses := true, named := ["math/bits.deBruijn64tab"], apart := false, laid := [("math/bits.deBruijn64tab", laid_math_bits_deBruijn64tab)] }
def MatchRefusedSaid : Prop := matchRefusedRow.holds Tryz.pinned (OpenSpec.ofChange matchRefusedSpec)

/-- ITS FALSE NEIGHBOUR: 'it returns false'. Refute it at one input. -/
def matchRefusedWrong : ChangeSpec := { name := "matchRefused", fn := fun _ => fun
  | [d1, d2] => { results := [.lit (.bool false)], args := [d1, d2] }
  | _ => none }
def MatchRefusedWrongFalsely : Prop := matchRefusedRow.holds Tryz.pinned (OpenSpec.ofChange matchRefusedWrong)

/-- 'riverbanklaw19.MatchSet': WHATEVER THE INPUT: true; the input reads as it did. -/
def matchSetSpec : ChangeSpec := { name := "matchSet", fn := fun _ => fun
  | [d1, d2] => { results := [.lit (.bool true)], args := [d1, d2] }
  | _ => none }
def matchSetRow : OpenClaim := { program := "ytbdgbihdhbjljaagreatdoor", sum := "531182422e80d97c32d03c3dda930e63a2f6fd337b951fbd027b03a311a643fa", func := "riverbank/riverbanklaw19.MatchSet", spec := "matchSet", inPlace := ["internal/bytealg.IndexByteString"], unfollowed := true, recurses := true, named := ["math/bits.deBruijn64tab"], apart := false, laid := [("math/bits.deBruijn64tab", laid_math_bits_deBruijn64tab)] }
def MatchSetSaid : Prop := matchSetRow.holds Tryz.pinned (OpenSpec.ofChange matchSetSpec)

/-- ITS FALSE NEIGHBOUR: 'it returns false'. Refute it at one input. -/
def matchSetWrong : ChangeSpec := { name := "matchSet", fn := fun _ => fun
  | [d1, d2] => { results := [.lit (.bool false)], args := [d1, d2] }
  | _ => none }
def MatchSetWrongFalsely : Prop := matchSetRow.holds Tryz.pinned (OpenSpec.ofChange matchSetWrong)

/-- 'riverbanklaw19.MatchAll': WHATEVER THE INPUT: true; the input reads as it did. -/
def matchAllSpec : ChangeSpec := { name := "matchAll", fn := fun _ => fun
  | [d] => { results := [.lit (.bool true)], args := [d] }
  | _ => none }
def matchAllRow : OpenClaim := { program := "ytbdgbihdhbjljaagreatdoor", sum := "531182422e80d97c32d03c3dda930e63a2f6fd337b951fbd027b03a311a643fa", func := "riverbank/riverbanklaw19.MatchAll", spec := "matchAll", inPlace := ["internal/bytealg.IndexByteString"], unfollowed := true, recurses := true, named := ["math/bits.deBruijn64tab"], apart := false, laid := [("math/bits.deBruijn64tab", laid_math_bits_deBruijn64tab)] }
def MatchAllSaid : Prop := matchAllRow.holds Tryz.pinned (OpenSpec.ofChange matchAllSpec)

/-- ITS FALSE NEIGHBOUR: 'it returns false'. Refute it at one input. -/
def matchAllWrong : ChangeSpec := { name := "matchAll", fn := fun _ => fun
  | [d] => { results := [.lit (.bool false)], args := [d] }
  | _ => none }
def MatchAllWrongFalsely : Prop := matchAllRow.holds Tryz.pinned (OpenSpec.ofChange matchAllWrong)

/-- 'riverbanklaw21.QuietOf': WHATEVER THE INPUT: true; the input reads as it did. -/
def quietOfSpec : ChangeSpec := { name := "quietOf", fn := fun _ => fun
  | [d1, d2, d3] => { results := [.lit (.bool true)], args := [d1, d2, d3] }
  | _ => none }
def quietOfRow : OpenClaim := { program := "ytbdgbihdhbjljaagreatdoor", sum := "531182422e80d97c32d03c3dda930e63a2f6fd337b951fbd027b03a311a643fa", func := "riverbank/riverbanklaw21.QuietOf", spec := "quietOf", inPlace := ["internal/bytealg.IndexByteString"], unfollowed := true, recurses := true, named := ["math/bits.deBruijn64tab"], apart := false, laid := [("math/bits.deBruijn64tab", laid_math_bits_deBruijn64tab)] }
def QuietOfSaid : Prop := quietOfRow.holds Tryz.pinned (OpenSpec.ofChange quietOfSpec)

/-- ITS FALSE NEIGHBOUR: 'it returns false'. Refute it at one input. -/
def quietOfWrong : ChangeSpec := { name := "quietOf", fn := fun _ => fun
  | [d1, d2, d3] => { results := [.lit (.bool false)], args := [d1, d2, d3] }
  | _ => none }
def QuietOfWrongFalsely : Prop := quietOfRow.holds Tryz.pinned (OpenSpec.ofChange quietOfWrong)

/-- 'riverbanklaw21.QuietTurn': WHATEVER THE INPUT: true; the input reads as it did. -/
def quietTurnSpec : ChangeSpec := { name := "quietTurn", fn := fun _ => fun
  | [d1, d2, d3] => { results := [.lit (.bool true)], args := [d1, d2, d3] }
  | _ => none }
def quietTurnRow : OpenClaim := { program := "ytbdgbihdhbjljaagreatdoor", sum := "531182422e80d97c32d03c3dda930e63a2f6fd337b951fbd027b03a311a643fa", func := "riverbank/riverbanklaw21.QuietTurn", spec := "quietTurn", inPlace := ["internal/bytealg.IndexByteString"], unfollowed := true, recurses := true, named := ["math/bits.deBruijn64tab"], apart := false, laid := [("math/bits.deBruijn64tab", laid_math_bits_deBruijn64tab)] }
def QuietTurnSaid : Prop := quietTurnRow.holds Tryz.pinned (OpenSpec.ofChange quietTurnSpec)

/-- ITS FALSE NEIGHBOUR: 'it returns false'. Refute it at one input. -/
def quietTurnWrong : ChangeSpec := { name := "quietTurn", fn := fun _ => fun
  | [d1, d2, d3] => { results := [.lit (.bool false)], args := [d1, d2, d3] }
  | _ => none }
def QuietTurnWrongFalsely : Prop := quietTurnRow.holds Tryz.pinned (OpenSpec.ofChange quietTurnWrong)

/-- 'riverbanklaw21.QuietWindow': WHATEVER THE INPUT: true; the input reads as it did. -/
def quietWindowSpec : ChangeSpec := { name := "quietWindow", fn := fun _ => fun
  | [d1, d2, d3] => { results := [.lit (.bool true)], args := [d1, d2, d3] }
  | _ => none }
def quietWindowRow : OpenClaim := { program := "ytbdgbihdhbjljaagreatdoor", sum := "531182422e80d97c32d03c3dda930e63a2f6fd337b951fbd027b03a311a643fa", func := "riverbank/riverbanklaw21.QuietWindow", spec := "quietWindow", inPlace := ["internal/bytealg.IndexByteString"], unfollowed := true, recurses := true, named := ["math/bits.deBruijn64tab"], apart := false, laid := [("math/bits.deBruijn64tab", laid_math_bits_deBruijn64tab)] }
def QuietWindowSaid : Prop := quietWindowRow.holds Tryz.pinned (OpenSpec.ofChange quietWindowSpec)

/-- ITS FALSE NEIGHBOUR: 'it returns false'. Refute it at one input. -/
def quietWindowWrong : ChangeSpec := { name := "quietWindow", fn := fun _ => fun
  | [d1, d2, d3] => { results := [.lit (.bool false)], args := [d1, d2, d3] }
  | _ => none }
def QuietWindowWrongFalsely : Prop := quietWindowRow.holds Tryz.pinned (OpenSpec.ofChange quietWindowWrong)

/- THE SECOND FORM. 'bulk': how many values and letters a reading holds, each counted each time it is reached (what is shared counts as often as it is met; a slice's spare places count too). A statement '..UptoSaid' is the law's where the arguments, and the package variables that the reading takes, are together of bulk at most 1048576: NARROWER than '..Said'. Prove '..Said' where nothing that the law and all that it calls make is longer than what came in: it says more and counts as full. Else prove '..UptoSaid'. A law counts once. -/
mutual
def uptoBulk {H : Type} : DataW H → Nat
  | .lit (.string bytes) => bytes.length + 1
  | .lit _ => 1
  | .nil => 1
  | .ptr d => uptoBulk d + 1
  | .slice elems spare => uptoBulkAll elems + uptoBulkAll spare + 1
  | .agg parts => uptoBulkAll parts + 1
  | .iface _ d => uptoBulk d + 1
  | .map entries => uptoBulkEntries entries + 1
  | .held _ => 1
def uptoBulkAll {H : Type} : List (DataW H) → Nat
  | [] => 0
  | d :: r => uptoBulk d + uptoBulkAll r
def uptoBulkEntries {H : Type} : List (Lit × DataW H) → Nat
  | [] => 0
  | x :: r => uptoBulkEntry x + uptoBulkEntries r
def uptoBulkEntry {H : Type} : Lit × DataW H → Nat
  | (.string bytes, d) => bytes.length + uptoBulk d + 1
  | (_, d) => uptoBulk d + 1
 end
def uptoSmall : (H : Type) → List (DataW H) → Bool := fun _ ds => decide (uptoBulkAll ds ≤ 1048576)
def OpenSpec.upto (s : _root_.Go.ChangeSpec) : _root_.Go.OpenSpec := { _root_.Go.OpenSpec.ofChange s with cond := some uptoSmall }

/-- 'riverbanklaw18.JudgePlays', WHERE WHAT IT READS IS OF BULK AT MOST 1048576: true; the input reads as it did. -/
def judgePlaysUptoRow : OpenClaim := { program := "ytbdgbihdhbjljaagreatdoor", sum := "531182422e80d97c32d03c3dda930e63a2f6fd337b951fbd027b03a311a643fa", func := "riverbank/riverbanklaw18.JudgePlays", spec := "judgePlays", inPlace := ["internal/bytealg.IndexByteString"], unfollowed := true, recurses := true, named := ["math/bits.deBruijn64tab"], apart := false, laid := [("math/bits.deBruijn64tab", laid_math_bits_deBruijn64tab)], narrowed := true }
def JudgePlaysUptoSaid : Prop := judgePlaysUptoRow.holds Tryz.pinned (OpenSpec.upto judgePlaysSpec)

/-- 'riverbanklaw19.MatchScripts', WHERE WHAT IT READS IS OF BULK AT MOST 1048576: true; the input reads as it did. -/
def matchScriptsUptoRow : OpenClaim := { program := "ytbdgbihdhbjljaagreatdoor", sum := "531182422e80d97c32d03c3dda930e63a2f6fd337b951fbd027b03a311a643fa", func := "riverbank/riverbanklaw19.MatchScripts", spec := "matchScripts", inPlace := ["internal/bytealg.IndexByteString"], unfollowed := true, recurses := true, named := ["math/bits.deBruijn64tab"], apart := false, laid := [("math/bits.deBruijn64tab", laid_math_bits_deBruijn64tab)], narrowed := true }
def MatchScriptsUptoSaid : Prop := matchScriptsUptoRow.holds Tryz.pinned (OpenSpec.upto matchScriptsSpec)

/-- 'riverbanklaw19.MatchBans', WHERE WHAT IT READS IS OF BULK AT MOST 1048576: true; the input reads as it did. -/
def matchBansUptoRow : OpenClaim := { program := "ytbdgbihdhbjljaagreatdoor", sum := "531182422e80d97c32d03c3dda930e63a2f6fd337b951fbd027b03a311a643fa", func := "riverbank/riverbanklaw19.MatchBans", spec := "matchBans", inPlace := ["internal/bytealg.IndexByteString"], unfollowed := true, recurses := true, named := ["math/bits.deBruijn64tab"], apart := false, laid := [("math/bits.deBruijn64tab", laid_math_bits_deBruijn64tab)], narrowed := true }
def MatchBansUptoSaid : Prop := matchBansUptoRow.holds Tryz.pinned (OpenSpec.upto matchBansSpec)

/-- 'riverbanklaw19.MatchRefused', WHERE WHAT IT READS IS OF BULK AT MOST 1048576: true; the input reads as it did. -/
def matchRefusedUptoRow : OpenClaim := { program := "ytbdgbihdhbjljaagreatdoor", sum := "531182422e80d97c32d03c3dda930e63a2f6fd337b951fbd027b03a311a643fa", func := "riverbank/riverbanklaw19.MatchRefused", spec := "matchRefused", inPlace := ["internal/bytealg.IndexByteString"], unfollowed := true, recurses := true, named := ["math/bits.deBruijn64tab"], apart := false, laid := [("math/bits.deBruijn64tab", laid_math_bits_deBruijn64tab)], narrowed := true }
def MatchRefusedUptoSaid : Prop := matchRefusedUptoRow.holds Tryz.pinned (OpenSpec.upto matchRefusedSpec)

/-- 'riverbanklaw19.MatchSet', WHERE WHAT IT READS IS OF BULK AT MOST 1048576: true; the input reads as it did. -/
def matchSetUptoRow : OpenClaim := { program := "ytbdgbihdhbjljaagreatdoor", sum := "531182422e80d97c32d03c3dda930e63a2f6fd337b951fbd027b03a311a643fa", func := "riverbank/riverbanklaw19.MatchSet", spec := "matchSet", inPlace := ["internal/bytealg.IndexByteString"], unfollowed := true, recurses := true, named := ["math/bits.deBruijn64tab"], apart := false, laid := [("math/bits.deBruijn64tab", laid_math_bits_deBruijn64tab)], narrowed := true }
def MatchSetUptoSaid : Prop := matchSetUptoRow.holds Tryz.pinned (OpenSpec.upto matchSetSpec)

/-- 'riverbanklaw19.MatchAll', WHERE WHAT IT READS IS OF BULK AT MOST 1048576: true; the input reads as it did. -/
def matchAllUptoRow : OpenClaim := { program := "ytbdgbihdhbjljaagreatdoor", sum := "531182422e80d97c32d03c3dda930e63a2f6fd337b951fbd027b03a311a643fa", func := "riverbank/riverbanklaw19.MatchAll", spec := "matchAll", inPlace := ["internal/bytealg.IndexByteString"], unfollowed := true, recurses := true, named := ["math/bits.deBruijn64tab"], apart := false, laid := [("math/bits.deBruijn64tab", laid_math_bits_deBruijn64tab)], narrowed := true }
def MatchAllUptoSaid : Prop := matchAllUptoRow.holds Tryz.pinned (OpenSpec.upto matchAllSpec)

/-- 'riverbanklaw21.QuietOf', WHERE WHAT IT READS IS OF BULK AT MOST 1048576: true; the input reads as it did. -/
def quietOfUptoRow : OpenClaim := { program := "ytbdgbihdhbjljaagreatdoor", sum := "531182422e80d97c32d03c3dda930e63a2f6fd337b951fbd027b03a311a643fa", func := "riverbank/riverbanklaw21.QuietOf", spec := "quietOf", inPlace := ["internal/bytealg.IndexByteString"], unfollowed := true, recurses := true, named := ["math/bits.deBruijn64tab"], apart := false, laid := [("math/bits.deBruijn64tab", laid_math_bits_deBruijn64tab)], narrowed := true }
def QuietOfUptoSaid : Prop := quietOfUptoRow.holds Tryz.pinned (OpenSpec.upto quietOfSpec)

/-- 'riverbanklaw21.QuietTurn', WHERE WHAT IT READS IS OF BULK AT MOST 1048576: true; the input reads as it did. -/
def quietTurnUptoRow : OpenClaim := { program := "ytbdgbihdhbjljaagreatdoor", sum := "531182422e80d97c32d03c3dda930e63a2f6fd337b951fbd027b03a311a643fa", func := "riverbank/riverbanklaw21.QuietTurn", spec := "quietTurn", inPlace := ["internal/bytealg.IndexByteString"], unfollowed := true, recurses := true, named := ["math/bits.deBruijn64tab"], apart := false, laid := [("math/bits.deBruijn64tab", laid_math_bits_deBruijn64tab)], narrowed := true }
def QuietTurnUptoSaid : Prop := quietTurnUptoRow.holds Tryz.pinned (OpenSpec.upto quietTurnSpec)

/-- 'riverbanklaw21.QuietWindow', WHERE WHAT IT READS IS OF BULK AT MOST 1048576: true; the input reads as it did. -/
def quietWindowUptoRow : OpenClaim := { program := "ytbdgbihdhbjljaagreatdoor", sum := "531182422e80d97c32d03c3dda930e63a2f6fd337b951fbd027b03a311a643fa", func := "riverbank/riverbanklaw21.QuietWindow", spec := "quietWindow", inPlace := ["internal/bytealg.IndexByteString"], unfollowed := true, recurses := true, named := ["math/bits.deBruijn64tab"], apart := false, laid := [("math/bits.deBruijn64tab", laid_math_bits_deBruijn64tab)], narrowed := true }
def QuietWindowUptoSaid : Prop := quietWindowUptoRow.holds Tryz.pinned (OpenSpec.upto quietWindowSpec)

end Rows
end Go.Proofs.YtbdgbihdhbjljaaGreatDoor
