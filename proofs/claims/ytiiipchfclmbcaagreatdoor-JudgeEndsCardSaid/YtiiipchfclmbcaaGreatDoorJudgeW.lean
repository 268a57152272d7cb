/- The document's Make by its value. -/
import Derived.Test.YtiiipchfclmbcaaGreatDoorJudgeV
import Derived.Test.YtiiipchfclmbcaaGreatDoorRefLM
import Derived.Test.YtiiipchfclmbcaaGreatDoorPseudoN
namespace Go.Proofs.YtiiipchfclmbcaaGreatDoor
open Go.RowKit Go.Shelf
open M (S)

theorem rmake_isJ (s : ByteArray) (side clock full a b : Int) (v : Value) (w : World) (h : makeV s side clock full a b = v) : Calls Tryz.prog 19 #[.agg #[.string s, .int .i64 side, .int .i64 clock, .int .i64 full], .agg #[.int .i64 a, .int .i64 b]] w (Gives w v) := by
  subst h
  exact rmake_any s side clock full a b w (Lib.hid fun W => rapply_is s side clock full a b _ W rfl)
end Go.Proofs.YtiiipchfclmbcaaGreatDoor
