/- A position from the other side, by the document's plain answer. -/
import Derived.Test.YtocdmnkmepplcaaGreatDoorPlaceF
namespace Go.Proofs.YtocdmnkmepplcaaGreatDoor
open Go.RowKit Go.Shelf
open M (S)

/-- What a cell holds that is there, whatever that is: so a store into it can be walked. -/
def cellOf (W : World) (a : Addr) : Value := (W.cell? a).getD undef
theorem cellOf_some {W : World} {a : Addr} (h : (W.cell? a).isSome = true) : W.cell? a = some (cellOf W a) := by
  obtain ⟨u, hu⟩ := Option.isSome_iff_exists.1 h
  rw [cellOf, hu]
  rfl
theorem isSome_of {W : World} {a : Addr} {v : Value} (h : W.cell? a = some v) : (W.cell? a).isSome = true := by rw [h]; rfl
theorem isSome_set {w : World} {p a : Addr} {v : Value} (h : (w.cell? a).isSome = true) : ((w.setCell p v).cell? a).isSome = true := by
  by_cases e : p = a
  · subst e
    rw [World.cell?_setCell_same' _ _ _ h]; rfl
  · rw [World.cell?_setCell_other _ _ _ _ e]; exact h
end Go.Proofs.YtocdmnkmepplcaaGreatDoor
