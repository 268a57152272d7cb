/- What can be taken at the start, and what is guarded: for the document's own examples of layer 15. No program in it. -/
import Derived.Test.YtnpenlmlggpemaaGreatDoorGuardP
import Derived.Test.YtnpenlmlggpemaaGreatDoorPerftL
namespace Go.Proofs.YtnpenlmlggpemaaGreatDoor

theorem start_takes : takesG startS 0 = [(19, 82), (25, 88)] := by
  rw [takes_caps start_well, legalC, start_legal]
  decide +kernel
theorem start_g1 : guardI startS 19 82 = true := by decide +kernel
theorem start_g2 : guardI startS 19 20 = false := by decide +kernel
theorem start_c1 : couldI startS 1 64 1 = true := by decide +kernel
theorem start_c2 : couldI startS 0 64 1 = false := by decide +kernel
theorem empty_takes : takesG ⟨#[]⟩ 0 = [] := by decide +kernel
end Go.Proofs.YtnpenlmlggpemaaGreatDoor
