/- No call of the library with a contract of its own is used by this program; the modules that the texts behind this one stand on. -/
import Derived.Ground.SlgfProg
import Derived.Shelf.SlicesE.IndexFunc
import Derived.Shelf.SlicesE.DeleteFunc
import Derived.Test.YtocdmnkmepplcaaProg
namespace Go.Proofs
end Go.Proofs
