/-
  No cell of these rows narrows 'for every input' (looked for: loops, veiled, ifaces, maps, wideKeys, modest, calm, conditions, laid).
  DERIVED. THE GIVEN ROWS OF THIS SEAT. 4 by the template 'for every input the law returns true; each argument reads behind the call as it read before'; 0 by the template 'total and deterministic' (their statements: YtgmbigdkipkibaaTotals.lean).
  GIVEN WITH THE SEED: the statements are not yours to turn. If you find one false, say at which input.
  Laid BY PROGRAM, IN A SANDBOX (cutbox-rows.mjs): the forced cells as the released guide's own fill.sh prints them over the translation 63050f2d555b4628… (all of the seat's roots in one cut). By AI agents, Wed Nov 11 2026. No macro, syntax, notation, axiom, sorry.
-/
import Derived.Test.YtgmbigdkipkibaaChecked
import GoSem.Claim
import GoSem.ClaimJoined
import GoSem.ClaimMapViews
import Derived.JoinedTies
import Derived.KernelRfl
namespace Go.Proofs.Ytgmbigdkipkibaa
/- THE CELL 'sum', in the pinned program and in every row, IS THE sha256 OF THE DUMP (.gsa) THAT YtgmbigdkipkibaaProg.lean LOADS. Nothing in Lean hashes anything: it is a label: what it is worth is what the hold of that sum in a sandbox is worth. -/
noncomputable def Try.pinned : Pinned := { name := "ytgmbigdkipkibaa", sum := "63050f2d555b462877f3706205cde812c221667bdb2b70e4b478af00db491564", checked := Try.checked }
namespace Rows
def none {H : Type} : Left H := { results := [], args := [] }

/-- 'riverbanklaw20.TableScripts': WHATEVER THE INPUT: true; the input reads as it did. -/
def tableScriptsSpec : ChangeSpec := { name := "tableScripts", fn := fun _ => fun
  | [d1, d2] => { results := [.lit (.bool true)], args := [d1, d2] }
  | _ => none }
def tableScriptsRow : OpenClaim := { program := "ytgmbigdkipkibaa", sum := "63050f2d555b462877f3706205cde812c221667bdb2b70e4b478af00db491564", func := "riverbank/riverbanklaw20.TableScripts", spec := "tableScripts", apart := false }
def TableScriptsSaid : Prop := tableScriptsRow.holds Try.pinned (OpenSpec.ofChange tableScriptsSpec)

/-- ITS FALSE NEIGHBOUR: 'it returns false'. Refute it at one input. -/
def tableScriptsWrong : ChangeSpec := { name := "tableScripts", fn := fun _ => fun
  | [d1, d2] => { results := [.lit (.bool false)], args := [d1, d2] }
  | _ => none }
def TableScriptsWrongFalsely : Prop := tableScriptsRow.holds Try.pinned (OpenSpec.ofChange tableScriptsWrong)

/-- 'riverbanklaw20.TableUse': WHATEVER THE INPUT: true; the input reads as it did. -/
def tableUseSpec : ChangeSpec := { name := "tableUse", fn := fun _ => fun
  | [d] => { results := [.lit (.bool true)], args := [d] }
  | _ => none }
def tableUseRow : OpenClaim := { program := "ytgmbigdkipkibaa", sum := "63050f2d555b462877f3706205cde812c221667bdb2b70e4b478af00db491564", func := "riverbank/riverbanklaw20.TableUse", spec := "tableUse", apart := false }
def TableUseSaid : Prop := tableUseRow.holds Try.pinned (OpenSpec.ofChange tableUseSpec)

/-- ITS FALSE NEIGHBOUR: 'it returns false'. Refute it at one input. -/
def tableUseWrong : ChangeSpec := { name := "tableUse", fn := fun _ => fun
  | [d] => { results := [.lit (.bool false)], args := [d] }
  | _ => none }
def TableUseWrongFalsely : Prop := tableUseRow.holds Try.pinned (OpenSpec.ofChange tableUseWrong)

/-- 'riverbanklaw20.TableNil': WHATEVER THE INPUT: true; the input reads as it did. -/
def tableNilSpec : ChangeSpec := { name := "tableNil", fn := fun _ => fun
  | [d] => { results := [.lit (.bool true)], args := [d] }
  | _ => none }
def tableNilRow : OpenClaim := { program := "ytgmbigdkipkibaa", sum := "63050f2d555b462877f3706205cde812c221667bdb2b70e4b478af00db491564", func := "riverbank/riverbanklaw20.TableNil", spec := "tableNil", apart := false }
def TableNilSaid : Prop := tableNilRow.holds Try.pinned (OpenSpec.ofChange tableNilSpec)

/-- ITS FALSE NEIGHBOUR: 'it returns false'. Refute it at one input. -/
def tableNilWrong : ChangeSpec := { name := "tableNil", fn := fun _ => fun
  | [d] => { results := [.lit (.bool false)], args := [d] }
  | _ => none }
def TableNilWrongFalsely : Prop := tableNilRow.holds Try.pinned (OpenSpec.ofChange tableNilWrong)

/-- 'riverbanklaw20.TableOne': WHATEVER THE INPUT: true; the input reads as it did. -/
def tableOneSpec : ChangeSpec := { name := "tableOne", fn := fun _ => fun
  | [d] => { results := [.lit (.bool true)], args := [d] }
  | _ => none }
def tableOneRow : OpenClaim := { program := "ytgmbigdkipkibaa", sum := "63050f2d555b462877f3706205cde812c221667bdb2b70e4b478af00db491564", func := "riverbank/riverbanklaw20.TableOne", spec := "tableOne", apart := false }
def TableOneSaid : Prop := tableOneRow.holds Try.pinned (OpenSpec.ofChange tableOneSpec)

/-- ITS FALSE NEIGHBOUR: 'it returns false'. Refute it at one input. -/
def tableOneWrong : ChangeSpec := { name := "tableOne", fn := fun _ => fun
  | [d] => { results := [.lit (.bool false)], args := [d] }
  | _ => none }
def TableOneWrongFalsely : Prop := tableOneRow.holds Try.pinned (OpenSpec.ofChange tableOneWrong)

/- THE SECOND FORM. 'bulk': how many values and letters a reading holds, each counted each time it is reached (what is shared counts as often as it is met; a slice's spare places count too). A statement '..UptoSaid' is the law's where the arguments, and the package variables that the reading takes, are together of bulk at most 1048576: NARROWER than '..Said'. Prove '..Said' where nothing that the law and all that it calls make is longer than what came in: it says more and counts as full. Else prove '..UptoSaid'. A law counts once. -/
mutual
def uptoBulk {H : Type} : DataW H → Nat
  | .lit (.string bytes) => bytes.length + 1
  | .lit _ => 1
  | .nil => 1
  | .ptr d => uptoBulk d + 1
  | .slice elems spare => uptoBulkAll elems + uptoBulkAll spare + 1
  | .agg parts => uptoBulkAll parts + 1
  | .iface _ d => uptoBulk d + 1
  | .map entries => uptoBulkEntries entries + 1
  | .held _ => 1
def uptoBulkAll {H : Type} : List (DataW H) → Nat
  | [] => 0
  | d :: r => uptoBulk d + uptoBulkAll r
def uptoBulkEntries {H : Type} : List (Lit × DataW H) → Nat
  | [] => 0
  | x :: r => uptoBulkEntry x + uptoBulkEntries r
def uptoBulkEntry {H : Type} : Lit × DataW H → Nat
  | (.string bytes, d) => bytes.length + uptoBulk d + 1
  | (_, d) => uptoBulk d + 1
 end
def uptoSmall : (H : Type) → List (DataW H) → Bool := fun _ ds => decide (uptoBulkAll ds ≤ 1048576)
def OpenSpec.upto (s : _root_.Go.ChangeSpec) : _root_.Go.OpenSpec := { _root_.Go.OpenSpec.ofChange s with cond := some uptoSmall }

/-- 'riverbanklaw20.TableScripts', WHERE WHAT IT READS IS OF BULK AT MOST 1048576: true; the input reads as it did. -/
def tableScriptsUptoRow : OpenClaim := { program := "ytgmbigdkipkibaa", sum := "63050f2d555b462877f3706205cde812c221667bdb2b70e4b478af00db491564", func := "riverbank/riverbanklaw20.TableScripts", spec := "tableScripts", apart := false, narrowed := true }
def TableScriptsUptoSaid : Prop := tableScriptsUptoRow.holds Try.pinned (OpenSpec.upto tableScriptsSpec)

/-- 'riverbanklaw20.TableUse', WHERE WHAT IT READS IS OF BULK AT MOST 1048576: true; the input reads as it did. -/
def tableUseUptoRow : OpenClaim := { program := "ytgmbigdkipkibaa", sum := "63050f2d555b462877f3706205cde812c221667bdb2b70e4b478af00db491564", func := "riverbank/riverbanklaw20.TableUse", spec := "tableUse", apart := false, narrowed := true }
def TableUseUptoSaid : Prop := tableUseUptoRow.holds Try.pinned (OpenSpec.upto tableUseSpec)

/-- 'riverbanklaw20.TableNil', WHERE WHAT IT READS IS OF BULK AT MOST 1048576: true; the input reads as it did. -/
def tableNilUptoRow : OpenClaim := { program := "ytgmbigdkipkibaa", sum := "63050f2d555b462877f3706205cde812c221667bdb2b70e4b478af00db491564", func := "riverbank/riverbanklaw20.TableNil", spec := "tableNil", apart := false, narrowed := true }
def TableNilUptoSaid : Prop := tableNilUptoRow.holds Try.pinned (OpenSpec.upto tableNilSpec)

/-- 'riverbanklaw20.TableOne', WHERE WHAT IT READS IS OF BULK AT MOST 1048576: true; the input reads as it did. -/
def tableOneUptoRow : OpenClaim := { program := "ytgmbigdkipkibaa", sum := "63050f2d555b462877f3706205cde812c221667bdb2b70e4b478af00db491564", func := "riverbank/riverbanklaw20.TableOne", spec := "tableOne", apart := false, narrowed := true }
def TableOneUptoSaid : Prop := tableOneUptoRow.holds Try.pinned (OpenSpec.upto tableOneSpec)

end Rows
end Go.Proofs.Ytgmbigdkipkibaa
