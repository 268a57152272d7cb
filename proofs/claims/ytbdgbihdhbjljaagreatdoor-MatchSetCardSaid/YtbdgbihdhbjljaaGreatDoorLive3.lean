/- The document's own examples of layer 3 hold. -/
import Derived.Test.YtbdgbihdhbjljaaGreatDoorRefPM
namespace Go.Proofs.YtbdgbihdhbjljaaGreatDoor
open Go.RowKit Go.Shelf
open M (S)

def startS : ByteArray := ⟨#[82, 78, 66, 65, 75, 65, 66, 78, 82, 46, 46, 46, 46, 46, 46, 46, 46, 46, 46, 67, 46, 46, 46, 46, 46, 67, 46, 80, 46, 80, 46, 80, 46, 80, 46, 80, 46, 46, 46, 46, 46, 46, 46, 46, 46, 46, 46, 46, 46, 46, 46, 46, 46, 46, 112, 46, 112, 46, 112, 46, 112, 46, 112, 46, 99, 46, 46, 46, 46, 46, 99, 46, 46, 46, 46, 46, 46, 46, 46, 46, 46, 114, 110, 98, 97, 107, 97, 98, 110, 114]⟩
structure Live3 (s : ByteArray) : Prop where
  c0 : (checkN s 0 0 1 : Int) = 0
  c1 : (checkN s 0 0 0 : Int) = 1
theorem live3_set : Live3 startS := by
  constructor <;> decide +kernel
theorem points_b : pointsL 66 = [2, 6, 18, 22, 26, 38, 42] := by decide +kernel
theorem points_p : (pointsL 112).length = 55 := by decide +kernel

end Go.Proofs.YtbdgbihdhbjljaaGreatDoor
