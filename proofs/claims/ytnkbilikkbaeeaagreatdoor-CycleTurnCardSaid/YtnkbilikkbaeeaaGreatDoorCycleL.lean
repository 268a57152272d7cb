/- Chariots that go to and fro from the start: what comes again, what was done. No program in it. -/
import Derived.Test.YtnkbilikkbaeeaaGreatDoorCycleM
import Derived.Test.YtnkbilikkbaeeaaGreatDoorLive3
namespace Go.Proofs.YtnkbilikkbaeeaaGreatDoor
open Go.RowKit Go.Shelf

def fro1 : ByteArray := movedS startS 0 9 82
def fro2 : ByteArray := movedS fro1 81 72 114
def fro3 : ByteArray := movedS fro2 9 0 82
def fro4 : ByteArray := movedS fro3 72 81 114
def froP0 : Ps := ⟨startS, 0, 0, 1⟩
def froP1 : Ps := ⟨fro1, 1, 1, 1⟩
def froP2 : Ps := ⟨fro2, 0, 2, 2⟩
def froP3 : Ps := ⟨fro3, 1, 3, 2⟩
def froP4 : Ps := ⟨fro4, 0, 4, 3⟩
def froL : List Ps := [froP0, froP1, froP2, froP3, froP4]
def froM : List (Int × Int) := [(0, 9), (81, 72), (9, 0), (72, 81)]
theorem fro_back : fro4 = startS := by decide +kernel
theorem fro_is0 : isV startS 0 0 1 0 9 = true := by decide +kernel
theorem fro_is1 : isV fro1 1 1 1 81 72 = true := by decide +kernel
theorem fro_is2 : isV fro2 0 2 2 9 0 = true := by decide +kernel
theorem fro_is3 : isV fro3 1 3 2 72 81 = true := by decide +kernel
theorem step_isV {p q : Ps} {a b : Nat} (h : isV p.s p.y p.z p.u (a : Int) (b : Int) = true) (hs : movedS p.s a b (bAt p.s a) = q.s) (hy : 1 - p.y = q.y) (hz : clockA p.s p.z b = q.z) (hu : fullA p.y p.u = q.u) : stepP p ((a : Int), (b : Int)) = some q := by
  unfold stepP
  rw [if_pos h]
  show some (Ps.mk (movedS p.s a b (bAt p.s a)) (1 - p.y) (clockA p.s p.z b) (fullA p.y p.u)) = _
  rw [hs, hy, hz, hu]
theorem fro_step0 : stepP froP0 (0, 9) = some froP1 := step_isV (a := 0) (b := 9) fro_is0 (by rw [show bAt froP0.s 0 = 82 by decide +kernel]; rfl) rfl (by decide +kernel) (by decide +kernel)
theorem fro_step1 : stepP froP1 (81, 72) = some froP2 := step_isV (a := 81) (b := 72) fro_is1 (by rw [show bAt froP1.s 81 = 114 by decide +kernel]; rfl) rfl (by decide +kernel) (by decide +kernel)
theorem fro_step2 : stepP froP2 (9, 0) = some froP3 := step_isV (a := 9) (b := 0) fro_is2 (by rw [show bAt froP2.s 9 = 82 by decide +kernel]; rfl) rfl (by decide +kernel) (by decide +kernel)
theorem fro_step3 : stepP froP3 (72, 81) = some froP4 := step_isV (a := 72) (b := 81) fro_is3 (by rw [show bAt froP3.s 72 = 114 by decide +kernel]; rfl) rfl (by decide +kernel) (by decide +kernel)
theorem fro_play : playF froP0 froM = (froL, froM, froP4) := by
  unfold playF froM
  simp only [List.foldl_cons, List.foldl_nil]
  unfold playS
  simp only [fro_step0, fro_step1, fro_step2, fro_step3]
  rfl
/-- Two squares that chase nobody: what a side takes. -/
theorem chased_nil {s : ByteArray} {side : Int} {m : List (Nat × Nat)} (h1 : (isB s && ((side == 0) || (side == 1))) = true) (h : (movesN s side).filter (fun x => bAt s x.2 != 46) = m) (hm : ∀ x ∈ m, threatB s x.1 x.2 = false) : chasedL s side = [] := by
  unfold chasedL trues
  rw [List.map_eq_nil_iff, List.filter_eq_nil_iff]
  intro n _
  unfold chasedB
  rw [Bool.not_eq_true, List.any_eq_false]
  intro x hx
  unfold takesG at hx
  rw [if_pos h1] at hx
  unfold legalN at hx
  obtain ⟨hx1, hx2⟩ := List.mem_filter.1 hx
  obtain ⟨hx3, _⟩ := List.mem_filter.1 hx1
  have : x ∈ m := by
    rw [← h]
    exact List.mem_filter.2 ⟨hx3, hx2⟩
  rw [hm x this, Bool.and_false]
  simp
theorem fro_takes1 : (movesN fro1 0).filter (fun x => bAt fro1 x.2 != 46) = [(19, 82), (25, 88)] := by decide +kernel
theorem fro_takes4 : (movesN startS 1).filter (fun x => bAt startS x.2 != 46) = [(64, 1), (70, 7)] := by decide +kernel
theorem fro_threat1 : threatB fro1 19 82 = false := by decide +kernel
theorem fro_threat1' : threatB fro1 25 88 = false := by decide +kernel
theorem fro_threat4 : threatB startS 64 1 = false := by decide +kernel
theorem fro_threat4' : threatB startS 70 7 = false := by decide +kernel
theorem fro_chased1 : chasedL fro1 0 = [] := chased_nil (by decide +kernel) fro_takes1 fun x hx => by
  simp only [List.mem_cons, List.not_mem_nil, or_false] at hx
  rcases hx with rfl | rfl
  · exact fro_threat1
  · exact fro_threat1'
theorem fro_chased4 : chasedL startS 1 = [] := chased_nil (by decide +kernel) fro_takes4 fun x hx => by
  simp only [List.mem_cons, List.not_mem_nil, or_false] at hx
  rcases hx with rfl | rfl
  · exact fro_threat4
  · exact fro_threat4'
theorem fro_well0 : wellN startS 0 0 1 = 0 := (isV_parts fro_is0).1
theorem fro_well1 : wellN fro1 1 1 1 = 0 := (isV_parts fro_is1).1
theorem fro_well2 : wellN fro2 0 2 2 = 0 := (isV_parts fro_is2).1
theorem fro_well3 : wellN fro3 1 3 2 = 0 := (isV_parts fro_is3).1
theorem fro_well4 : wellN fro4 0 4 3 = 0 := by
  rw [fro_back]
  exact well_full (v := 3) (show wellN startS 0 4 1 = 0 by decide +kernel) (by decide) (by decide)
theorem fro_ply1 : plyC fro1 1 1 1 = false ∧ plyL fro1 1 1 1 = [] := by
  obtain ⟨h1, h2⟩ := ply_quiet fro_well1 (by decide +kernel)
  exact ⟨h1, h2.trans fro_chased1⟩
theorem fro_ply4 : plyC fro4 0 4 3 = false ∧ plyL fro4 0 4 3 = [] := by
  obtain ⟨h1, h2⟩ := ply_quiet fro_well4 (by rw [fro_back]; decide +kernel)
  refine ⟨h1, h2.trans ?_⟩
  rw [fro_back]
  exact fro_chased4
/-- A move that gave no check and chased nothing: idle. -/
theorem class_idle {l : List Ps} {m : List (Int × Int)} {side : Int} {j : Nat} {p q : Ps} (hj : j < m.length) (hp : l[j]? = some p) (hy : p.y = side) (hq : l[j + 1]? = some q) (hc : plyC q.s q.y q.z q.u = false) (hl : plyL q.s q.y q.z q.u = []) : classI l m side = 0 := by
  have h1 : ofAt l side j = true := by rw [of_of hp, hy]; simp
  have h2 : ckAt l j = false := by rw [ck_of hq]; exact hc
  refine class_out hj h1 h2 ?_
  rw [kept_succ, h1, if_pos rfl, List.filter_eq_nil_iff]
  intro n _
  unfold hasAt
  rw [h2, ori_of hq, hl]
  simp
theorem fro_class0 : classI froL froM 0 = 0 := class_idle (j := 0) (p := froP0) (q := froP1) (by decide) rfl rfl rfl fro_ply1.1 fro_ply1.2
theorem fro_class1 : classI froL froM 1 = 0 := class_idle (j := 3) (p := froP3) (q := froP4) (by decide) rfl rfl rfl fro_ply4.1 fro_ply4.2
theorem fro_class9 : classI froL [] 0 = 0 := class_len (by decide)
theorem same_not_side {a b : Ps} (h : a.y ≠ b.y) : sameB a b = false := by
  unfold sameB
  rw [show (a.y == b.y) = false by rw [beq_eq_false_iff_ne]; exact h, Bool.and_false]
theorem fro_same04 : sameB froP0 froP4 = true := sameB_iff.2 ⟨fro_back.symm, rfl⟩
theorem fro_same01 : sameB froP0 froP1 = false := same_not_side (by decide)
theorem fro_same13 : sameB froP1 froP3 = false := by
  cases h : sameB froP1 froP3
  · rfl
  · exact absurd (congrArg (fun s => bAt s 0) (sameB_iff.1 h).1) (by decide +kernel)
theorem fro_earlier5 : earlierI froL = 0 := first_hit (i := 0) (by decide) (by show sameAt froL 0 4 = true; exact fro_same04) (fun k hk => absurd hk (by omega))
theorem fro_earlier4 : earlierI (froL.take 4) = -1 := first_none fun k hk => by
  have hk : k < 3 := hk
  show sameAt [froP0, froP1, froP2, froP3] k 3 = false
  rcases k with _ | _ | _ | k
  · exact same_not_side (by decide)
  · exact fro_same13
  · exact same_not_side (by decide)
  · omega
theorem fro_origin1 : originI (froM.take 1) 9 = 0 := by decide
theorem fro_origin0 : originI froM 0 = 0 := by decide
theorem fro_origin5 : originI froM 5 = 5 := by decide
end Go.Proofs.YtnkbilikkbaeeaaGreatDoor
