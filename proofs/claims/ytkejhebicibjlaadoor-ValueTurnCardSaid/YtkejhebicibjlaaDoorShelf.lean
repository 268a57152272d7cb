/- No contract of the library is wanted here; its laws are. -/
import Derived.Test.YtkejhebicibjlaaDoorProg
import Derived.Ground.SlgfProg
import Derived.Shelf.SlicesE.IndexFunc
import Derived.Shelf.SlicesE.DeleteFunc
