/- The squares of a side's pieces, as a row in memory of the call's own. -/
import Derived.Test.YtocdmnkmepplcaaBoardM
import Derived.Test.YtocdmnkmepplcaaRowA
namespace Go.Proofs.Ytocdmnkmepplcaa
open Go.RowKit Go.Shelf
open M (S)

/-- A call's answer is a slice of the numbers l, in memory of its own. -/
def OwnL (w : World) (l : List Int) (e : Ending) (w' : World) : Prop := ∃ v, e = .returned v ∧ w'.ownsRow w.heap.size 3 1 v l.length (l.map iv) ∧ Below w.heap.size w w'
theorem OwnL.back {w w0 : World} {l : List Int} {e : Ending} {w' : World} (h : OwnL w0 l e w') (hb : Below w.heap.size w w0) : OwnL w l e w' := by
  obtain ⟨v, he, ho, hb1⟩ := h
  exact ⟨v, he, own_mono ho hb.size, hb.trans (hb1.mono hb.size)⟩
end Go.Proofs.Ytocdmnkmepplcaa
