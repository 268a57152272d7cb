/- Where a piece goes, by the code: kind by kind. -/
import Derived.Test.YtkejhebicibjlaaDoorReachC
namespace Go.Proofs.YtkejhebicibjlaaDoor
open Go.RowKit Go.Shelf
open M (S)

theorem horse_r {s : ByteArray} {a b : Nat} (hf : fileD a b = 1) (hr : rankD a b = 2) : horseB s a b = (bAt s (legR a b) == 46) := by
  unfold horseB
  rw [hf, hr]
  simp
theorem horse_f {s : ByteArray} {a b : Nat} (hf : fileD a b = 2) (hr : rankD a b = 1) : horseB s a b = (bAt s (legF a b) == 46) := by
  unfold horseB
  rw [hf, hr]
  simp
theorem horse_no {s : ByteArray} {a b : Nat} (h1 : ¬ (fileD a b = 1 ∧ rankD a b = 2)) (h2 : ¬ (fileD a b = 2 ∧ rankD a b = 1)) : horseB s a b = false := by
  unfold horseB
  cases e : (fileD a b == 1 && rankD a b == 2 && (bAt s (legR a b) == 46)) || (fileD a b == 2 && rankD a b == 1 && (bAt s (legF a b) == 46))
  · rfl
  · simp only [Bool.or_eq_true, Bool.and_eq_true, beq_iff_eq] at e
    omega
theorem mul_two {f r : Int} (f0 : 0 ≤ f) (f8 : f ≤ 8) (r0 : 0 ≤ r) (r9 : r ≤ 9) (h1 : ¬ (f = 1 ∧ r = 2)) (h2 : ¬ (f = 2 ∧ r = 1)) : (f * r == 2) = false ∧ 0 ≤ f * r ∧ f * r ≤ 72 := by
  have hf : f = 0 ∨ f = 1 ∨ f = 2 ∨ f = 3 ∨ f = 4 ∨ f = 5 ∨ f = 6 ∨ f = 7 ∨ f = 8 := by omega
  rw [beq_eq_false_iff_ne]
  rcases hf with rfl | rfl | rfl | rfl | rfl | rfl | rfl | rfl | rfl <;> omega
theorem pawn_red {c a b : Nat} (h : sideN c = 0) : pawnB c a b = (b == a + 9 || (overB (a : Int) 0 && (a / 9 == b / 9) && (fileD a b == 1))) := by unfold pawnB; rw [h]; rfl
theorem pawn_black {c a b : Nat} (h : sideN c = 1) : pawnB c a b = (a == b + 9 || (overB (a : Int) 1 && (a / 9 == b / 9) && (fileD a b == 1))) := by unfold pawnB; rw [h]; rfl
/-- Where the piece on a square goes; from an empty one nowhere. -/
def goesV (s : ByteArray) (a b : Nat) : Bool := decide (0 ≤ sideN (bAt s a)) && goesB s (bAt s a) a b
theorem kind_none {c : Nat} (h : ¬ 0 ≤ sideN c) : kindN c = 0 := by
  rcases byte_cases c with ⟨kb, kr, _⟩ | rfl | rfl | rfl | rfl | rfl | rfl | rfl | rfl | rfl | rfl | rfl | rfl | rfl | rfl
  · simp [kindN, kb, kr]
  all_goals exact absurd (by decide) h
theorem line_zero {s : ByteArray} {a b : Nat} : (betweenI s a b == 0) = (lineB a b && (betweenN s a b == 0)) := by
  unfold betweenI
  cases lineB a b
  · rfl
  · rw [if_pos rfl, Bool.true_and, Bool.eq_iff_iff, beq_iff_eq, beq_iff_eq]
    exact Int.ofNat_inj
theorem line_cannon {s : ByteArray} {a b x : Nat} : (betweenI s a b == if x = 46 then 0 else 1) = (lineB a b && ((betweenN s a b == 0 && (x == 46)) || (betweenN s a b == 1 && (x != 46)))) := by
  unfold betweenI
  by_cases h : x = 46
  · subst h
    cases lineB a b
    · rfl
    · rw [if_pos rfl, if_pos rfl, Bool.eq_iff_iff]
      simp
  · have h' : (x == 46) = false := by rw [beq_eq_false_iff_ne]; exact h
    rw [if_neg h]
    cases lineB a b
    · rfl
    · rw [if_pos rfl, Bool.eq_iff_iff]
      simp [h', bne]
      omega
theorem file_one {a b : Nat} {n : Nat} : (((fileD a b : Nat) : Int) == (n : Int)) = (fileD a b == n) := by rw [Bool.eq_iff_iff, beq_iff_eq, beq_iff_eq]; omega
theorem rank_one {a b : Nat} {n : Nat} : (((rankD a b : Nat) : Int) == (n : Int)) = (rankD a b == n) := by rw [Bool.eq_iff_iff, beq_iff_eq, beq_iff_eq]; omega
theorem sum_one {a b : Nat} : (((fileD a b : Nat) : Int) + ((rankD a b : Nat) : Int) == 1) = (fileD a b + rankD a b == 1) := by rw [Bool.eq_iff_iff, beq_iff_eq, beq_iff_eq]; omega
end Go.Proofs.YtkejhebicibjlaaDoor
