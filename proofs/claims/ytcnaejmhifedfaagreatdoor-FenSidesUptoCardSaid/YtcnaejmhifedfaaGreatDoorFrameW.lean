/- A world that meets the rows' list of variables: the witness. -/
import Derived.Test.YtcnaejmhifedfaaGreatDoorFrameZ
namespace Go.Proofs.YtcnaejmhifedfaaGreatDoor
open Go.ChangeShapes Go.WideShapes Go.ChangeAt Go.RowKit Go.Joins
open M (S)

/-- A variable's cells, laid. -/
noncomputable def layAt (w : World) (g : Nat) (cs : Array Value) : World := { w with heap := w.heap.modify g fun
      | .cells _ t frozen => .cells cs t frozen
      | o => o }
noncomputable def baseWorld (os : Os) : World := World.holding Tryz.prog os ⟨#[], #[], []⟩
def cells32 : Array Value := #[.int .u8 0, .int .u8 1, .int .u8 28, .int .u8 2, .int .u8 29, .int .u8 14, .int .u8 24, .int .u8 3, .int .u8 30, .int .u8 22, .int .u8 20, .int .u8 15, .int .u8 25, .int .u8 17, .int .u8 4, .int .u8 8, .int .u8 31, .int .u8 27, .int .u8 13, .int .u8 23, .int .u8 21, .int .u8 19, .int .u8 16, .int .u8 7, .int .u8 26, .int .u8 12, .int .u8 18, .int .u8 6, .int .u8 11, .int .u8 5, .int .u8 10, .int .u8 9]
def cellsAcc : Array Value := #[.int .u8 128, .int .u8 191, .int .u8 160, .int .u8 191, .int .u8 128, .int .u8 159, .int .u8 144, .int .u8 191, .int .u8 128, .int .u8 143, .int .u8 0, .int .u8 0, .int .u8 0, .int .u8 0, .int .u8 0, .int .u8 0, .int .u8 0, .int .u8 0, .int .u8 0, .int .u8 0, .int .u8 0, .int .u8 0, .int .u8 0, .int .u8 0, .int .u8 0, .int .u8 0, .int .u8 0, .int .u8 0, .int .u8 0, .int .u8 0, .int .u8 0, .int .u8 0]
noncomputable def laidWorldZ (os : Os) : World :=
  let w0 := ((baseWorld os).alloc (.cells #[.string ⟨#[118, 97, 108, 117, 101, 32, 111, 117, 116, 32, 111, 102, 32, 114, 97, 110, 103, 101]⟩] 169)).alloc (.cells #[.string ⟨#[105, 110, 118, 97, 108, 105, 100, 32, 115, 121, 110, 116, 97, 120]⟩] 169)
  let w1 := layAt w0 7 cells32
  let w2 := layAt w1 8 (Lib.deBruijn64tab.map fun n : Nat => Value.int .u8 (n : Int)).toArray
  let w3 := layAt w2 1 (Lib.pow10Tab.map fun n : Int => Value.int .u64 n).toArray
  let w4 := layAt w3 4 cellsAcc
  let w5 := layAt w4 0 #[.iface 100 (.agg #[.pointer (some ⟨9, 37, none⟩)])]
  let w6 := layAt w5 6 #[.iface 167 (.pointer (some ⟨14, 0, none⟩))]
  let w7 := layAt w6 5 #[.iface 167 (.pointer (some ⟨15, 0, none⟩))]
  layAt w7 3 (Go.Pinned.utf8FirstZ.map fun n : Nat => Value.int .u8 (n : Int)).toArray
end Go.Proofs.YtcnaejmhifedfaaGreatDoor
