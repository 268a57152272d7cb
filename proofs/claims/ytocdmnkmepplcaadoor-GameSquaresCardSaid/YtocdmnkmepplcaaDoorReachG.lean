/- Where a piece goes, by the document's own answer: kind by kind. -/
import Derived.Test.YtocdmnkmepplcaaDoorReachE
namespace Go.Proofs.YtocdmnkmepplcaaDoor
open Go.RowKit Go.Shelf
open M (S)

theorem ris5_is (s : ByteArray) (b : Bool) (w : World) (h : isB s = b) : Calls Tryd.prog 23 #[.string s] w (Says w (.bool b)) := by subst h; exact ris_any s w
end Go.Proofs.YtocdmnkmepplcaaDoor
