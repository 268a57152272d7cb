/- The start, a cannon that takes a horse: what the document's own examples of matches say. No program in it. -/
import Derived.Test.YtbdgbihdhbjljaaGreatDoorMatchC
import Derived.Test.YtbdgbihdhbjljaaGreatDoorJudgeM
import Derived.Test.YtbdgbihdhbjljaaGreatDoorJudgeE
import Derived.Test.YtbdgbihdhbjljaaGreatDoorPerftL
namespace Go.Proofs.YtbdgbihdhbjljaaGreatDoor
open Go.RowKit Go.Shelf

def horS : ByteArray := movedS startS 19 82 67
def horP : Ps := ⟨horS, 1, 0, 1⟩
theorem hor_is : isV startS 0 0 1 19 82 = true := by decide +kernel
theorem hor_step : stepP froP0 (19, 82) = some horP := step_isV (a := 19) (b := 82) hor_is (by rw [show bAt froP0.s 19 = 67 by decide +kernel]; rfl) rfl (by decide +kernel) (by decide +kernel)
theorem hor_next : isV horS 1 0 1 81 82 = true := by decide +kernel
theorem hor_end : endV horP.s horP.y horP.z horP.u = 0 := end_of (isV_parts hor_next).1 (step_legal (p := horP) (m := (81, 82)) (step_isV (q := ⟨movedS horS 81 82 (bAt horS 81), 1 - 1, clockA horS 0 82, fullA 1 1⟩) (a := 81) (b := 82) hor_next rfl rfl rfl rfl))
theorem hor_last0 : lastI [froP0] [] = (0, 0) := fro_last1
theorem hor_last1 : lastI [froP0, horP] [(19, 82)] = (0, 0) := last_goes (p := horP) rfl rfl hor_end (first_none fun k hk => by
  have hk : k < 1 := hk
  obtain rfl : k = 0 := by omega
  exact same_not_side (a := froP0) (b := horP) (by decide)) (by decide)
theorem hor_run : runJ froP0 [(19, 82)] 1 = (0, [froP0, horP]) := by
  have h0 : runJ froP0 [(19, 82)] 0 = (0, [froP0]) := rfl
  rw [run_go (c := froP0) (m := (19, 82)) (by rw [h0]) (by rw [h0]; exact congrArg Prod.fst fro_last1) rfl rfl, hor_step, h0]
  rfl
theorem hor_game : playE froP0 [(19, 82)] = 0 ∧ playV froP0 [(19, 82)] = (0, 0) ∧ playL froP0 [(19, 82)] = [froP0, horP] := by
  obtain ⟨h1, h2, h3⟩ := play_ok (p := froP0) (ms := [(19, 82)]) fro_well0 (by decide) (congrArg Prod.fst hor_run)
  refine ⟨h1, ?_, ?_⟩
  · rw [h2]
    exact (congrArg (fun x => lastI x.2 [((19 : Int), (82 : Int))]) hor_run).trans hor_last1
  · rw [h3]
    exact congrArg Prod.snd hor_run
theorem new_game : playE froP0 [] = 0 ∧ playV froP0 [] = (0, 0) ∧ playL froP0 [] = [froP0] := by
  obtain ⟨h1, h2, h3⟩ := play_ok (p := froP0) (ms := []) fro_well0 (by decide) rfl
  refine ⟨h1, ?_, ?_⟩
  · rw [h2]
    exact hor_last0
  · rw [h3]
    rfl
theorem none_game : playE ⟨⟨#[]⟩, 0, 0, 0⟩ [] = 1 := by
  have h : wellN ⟨#[]⟩ 0 0 0 = 1 := by decide +kernel
  unfold playE Ps.well
  rw [show wellN (⟨⟨#[]⟩, 0, 0, 0⟩ : Ps).s (⟨⟨#[]⟩, 0, 0, 0⟩ : Ps).y (⟨⟨#[]⟩, 0, 0, 0⟩ : Ps).z (⟨⟨#[]⟩, 0, 0, 0⟩ : Ps).u = 1 from h]
  rfl
theorem start_allI : allI froP0 = startM.map fun m => ((m.1 : Int), (m.2 : Int)) := by
  unfold allI
  rw [show legalV froP0.s froP0.y froP0.z froP0.u = startM from start_legal]
theorem left_none (p : Ps) : leftL p [] = allI p := by
  unfold leftL
  rw [List.filter_eq_self]
  intro x _
  rfl
theorem start_left : (leftL froP0 []).length = 44 := by rw [left_none, start_allI]; rfl
theorem start_ban : ([(0, 9)] : List (Int × Int)).any (fun x => !isV froP0.s froP0.y froP0.z froP0.u x.1 x.2) = false := by
  show ((!isV startS 0 0 1 0 9) || false) = false
  rw [show isV startS 0 0 1 (0 : Int) 9 = true from fro_is0]
  rfl
theorem start_not : ([(0, 1)] : List (Int × Int)).any (fun x => !isV froP0.s froP0.y froP0.z froP0.u x.1 x.2) = true := by
  show ((!isV startS 0 0 1 0 1) || false) = true
  rw [show isV startS 0 0 1 (0 : Int) 1 = false by decide +kernel]
  rfl
theorem start_left43 : (leftL froP0 (banL froP0 [(0, 9)])).length = 43 := by
  unfold leftL banL
  rw [start_allI]
  decide +kernel
end Go.Proofs.YtbdgbihdhbjljaaGreatDoor
