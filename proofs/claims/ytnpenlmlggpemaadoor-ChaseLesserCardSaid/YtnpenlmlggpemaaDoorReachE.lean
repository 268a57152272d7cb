/- What the document's own parts of layer 5 answer: distances, what stands between, a horse, a pawn, where a piece goes. -/
import Derived.Test.YtnpenlmlggpemaaDoorReachC
namespace Go.Proofs.YtnpenlmlggpemaaDoor
open Go.RowKit Go.Shelf
open M (S)

theorem file_away {a b : Nat} : max ((a : Int) % 9) ((b : Int) % 9) - min ((a : Int) % 9) ((b : Int) % 9) = (fileD a b : Int) := by unfold fileD; omega
theorem rank_away {a b : Nat} : max ((a : Int) / 9) ((b : Int) / 9) - min ((a : Int) / 9) ((b : Int) / 9) = (rankD a b : Int) := by unfold rankD; omega
theorem horse_r5 {s : ByteArray} {a b : Nat} (hf : fileD a b = 1) (hr : rankD a b = 2) : horseB s a b = (bAt s (legR a b) == 46) := by
  unfold horseB
  rw [hf, hr]
  simp
theorem horse_f5 {s : ByteArray} {a b : Nat} (hf : fileD a b = 2) (hr : rankD a b = 1) : horseB s a b = (bAt s (legF a b) == 46) := by
  unfold horseB
  rw [hf, hr]
  simp
theorem horse_no5 {s : ByteArray} {a b : Nat} (h1 : ¬ (fileD a b = 1 ∧ rankD a b = 2)) (h2 : ¬ (fileD a b = 2 ∧ rankD a b = 1)) : horseB s a b = false := by
  unfold horseB
  cases e : (fileD a b == 1 && rankD a b == 2 && (bAt s (legR a b) == 46)) || (fileD a b == 2 && rankD a b == 1 && (bAt s (legF a b) == 46))
  · rfl
  · simp only [Bool.or_eq_true, Bool.and_eq_true, beq_iff_eq] at e
    omega
theorem pawn_red5 {c a b : Nat} (h : sideN c = 0) : pawnB c a b = (b == a + 9 || (overB (a : Int) 0 && (a / 9 == b / 9) && (fileD a b == 1))) := by unfold pawnB; rw [h]; rfl
theorem pawn_black5 {c a b : Nat} (h : sideN c = 1) : pawnB c a b = (a == b + 9 || (overB (a : Int) 1 && (a / 9 == b / 9) && (fileD a b == 1))) := by unfold pawnB; rw [h]; rfl
end Go.Proofs.YtnpenlmlggpemaaDoor
