/- What Of answers, for every list; whether two lists of numbers are the same. -/
import Derived.Test.YtbfkkedcjodceaaGreatDoorBitsE
import Derived.Deep.QuietTactic
import Derived.BigQuiet
namespace Go.Proofs.YtbfkkedcjodceaaGreatDoor
open Go.RowKit Go.Shelf
open M (S)



end Go.Proofs.YtbfkkedcjodceaaGreatDoor
