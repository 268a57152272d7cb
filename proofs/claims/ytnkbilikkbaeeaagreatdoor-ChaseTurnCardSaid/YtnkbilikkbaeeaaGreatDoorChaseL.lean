/- A position where a horse is chased: what the document says of it. No program in it. -/
import Derived.Test.YtnkbilikkbaeeaaGreatDoorChaseM
import Derived.Test.YtnkbilikkbaeeaaGreatDoorFenN
namespace Go.Proofs.YtnkbilikkbaeeaaGreatDoor
open Go.RowKit Go.Shelf

def huntS : ByteArray := ⟨#[46, 46, 46, 75, 46, 46, 46, 46, 46, 46, 46, 46, 46, 46, 46, 46, 46, 46, 46, 46, 46, 46, 46, 46, 46, 46, 46, 46, 46, 46, 46, 46, 46, 46, 46, 46, 110, 46, 46, 46, 46, 46, 46, 46, 82, 46, 46, 46, 46, 46, 46, 46, 46, 46, 46, 46, 46, 46, 46, 46, 46, 46, 46, 46, 46, 46, 46, 46, 46, 46, 46, 46, 46, 46, 46, 46, 46, 46, 46, 46, 46, 46, 46, 46, 46, 107, 46, 46, 46, 46]⟩
def huntT : List UInt8 := [52, 107, 52, 47, 57, 47, 57, 47, 57, 47, 57, 47, 110, 55, 82, 47, 57, 47, 57, 47, 57, 47, 51, 75, 53, 32, 98]
theorem huntF : F.formL huntT = some ⟨huntS.data.toList, 1, 0, 1⟩ := by kernel_rfl
theorem huntC : (checkN (bs huntS.data.toList) 1 0 1 : Int) = 0 := by rw [bs_back]; decide +kernel
theorem hunt_takes0 : takesG huntS 0 = [(44, 36)] := by decide +kernel
theorem hunt_takes1 : takesG huntS 1 = [] := by decide +kernel
theorem hunt_board : isB huntS = true := by decide +kernel
theorem hunt_threat : threatB huntS 44 36 = true := by decide +kernel
theorem hunt_threat1 : threatI huntS 44 36 = true := by decide +kernel
theorem hunt_threat2 : threatI huntS 44 37 = false := by decide +kernel
theorem hunt_well : wellN huntS 1 0 1 = 0 := by decide +kernel
theorem hunt_in : inB huntS 1 = false := by decide +kernel
theorem hunt_all0 : chasedL huntS 0 = [36] := by
  unfold chasedL trues
  have : (List.range 90).filter (chasedB huntS 0) = [36] := by
    rw [show chasedB huntS 0 = fun n => (36 : Nat) == n from funext fun n => by
      unfold chasedB
      rw [hunt_takes0, List.any_cons, List.any_nil, hunt_threat, Bool.and_true, Bool.or_false]]
    decide +kernel
  rw [this]
  rfl
theorem hunt_all1 : chasedL huntS 1 = [] := by
  unfold chasedL trues
  have : (List.range 90).filter (chasedB huntS 1) = [] := by
    rw [show chasedB huntS 1 = fun _ => false from funext fun n => by
      unfold chasedB
      rw [hunt_takes1]
      rfl]
    decide +kernel
  rw [this]
  rfl
theorem hunt_ply : plyC huntS 1 0 1 = false ∧ plyL huntS 1 0 1 = [36] := by
  obtain ⟨h1, h2⟩ := ply_quiet hunt_well hunt_in
  exact ⟨h1, h2.trans hunt_all0⟩
theorem none_well : wellN ⟨#[]⟩ 0 0 0 = 1 := by decide +kernel
theorem none_ply : plyC ⟨#[]⟩ 0 0 0 = false ∧ plyL ⟨#[]⟩ 0 0 0 = [] := ply_bad (by rw [none_well]; decide)
end Go.Proofs.YtnkbilikkbaeeaaGreatDoor
