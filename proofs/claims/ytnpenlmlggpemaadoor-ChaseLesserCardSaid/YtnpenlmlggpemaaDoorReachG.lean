/- Where a piece goes, by the document's own answer: kind by kind. -/
import Derived.Test.YtnpenlmlggpemaaDoorReachE
namespace Go.Proofs.YtnpenlmlggpemaaDoor
open Go.RowKit Go.Shelf
open M (S)

theorem line_zero5 {s : ByteArray} {a b : Nat} : (betweenI s a b == 0) = (lineB a b && (betweenN s a b == 0)) := by
  unfold betweenI
  cases lineB a b
  · rfl
  · rw [if_pos rfl, Bool.true_and, Bool.eq_iff_iff, beq_iff_eq, beq_iff_eq]
    exact Int.ofNat_inj
theorem line_one5 {s : ByteArray} {a b : Nat} : (betweenI s a b == 1) = (lineB a b && (betweenN s a b == 1)) := by
  unfold betweenI
  cases lineB a b
  · rfl
  · rw [if_pos rfl, Bool.true_and, Bool.eq_iff_iff, beq_iff_eq, beq_iff_eq]
    exact Int.ofNat_inj (n := 1)
theorem file_one5 {a b : Nat} {n : Nat} : (((fileD a b : Nat) : Int) == (n : Int)) = (fileD a b == n) := by rw [Bool.eq_iff_iff, beq_iff_eq, beq_iff_eq]; omega
theorem rank_one5 {a b : Nat} {n : Nat} : (((rankD a b : Nat) : Int) == (n : Int)) = (rankD a b == n) := by rw [Bool.eq_iff_iff, beq_iff_eq, beq_iff_eq]; omega
theorem sum_one5 {a b : Nat} : (((fileD a b : Nat) : Int) + ((rankD a b : Nat) : Int) == 1) = (fileD a b + rankD a b == 1) := by rw [Bool.eq_iff_iff, beq_iff_eq, beq_iff_eq]; omega
theorem ris5_is (s : ByteArray) (b : Bool) (w : World) (h : isB s = b) : Calls Tryd.prog 19 #[.string s] w (Says w (.bool b)) := by subst h; exact ris_any s w
end Go.Proofs.YtnpenlmlggpemaaDoor
