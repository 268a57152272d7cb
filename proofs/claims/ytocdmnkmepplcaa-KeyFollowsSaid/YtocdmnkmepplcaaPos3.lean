/- What positions are in memory, and what stays of them. -/
import Derived.Test.YtocdmnkmepplcaaLive3
namespace Go.Proofs.Ytocdmnkmepplcaa
open Go.RowKit Go.Shelf
open M (S)

end Go.Proofs.Ytocdmnkmepplcaa
