/- Plain facts on sets that the laws of layer 1 need. No program in it. -/
import Derived.Test.YtdfjmchkpoobdaaDoorSq
namespace Go.Proofs.YtdfjmchkpoobdaaDoor.M.S

theorem or_not (a b : S) : (a.or b).not = a.not.and b.not := by
  apply ext_has (not_clean _) (and_clean _ _)
  intro n _
  rw [has_not, has_or, has_and, has_not, has_not]
  cases a.has n <;> cases b.has n <;> cases decide (n < 90) <;> rfl
theorem or_comm (a b : S) : a.or b = b.or a := by
  apply ext_has (or_clean _ _) (or_clean _ _)
  intro n _
  rw [has_or, has_or, Bool.or_comm]
theorem minus_or_and (a b : S) : (a.minus b).or (a.and b) = a.or empty := by
  apply ext_has (or_clean _ _) (or_clean _ _)
  intro n _
  rw [has_or, has_or, has_minus, has_and, has_empty]
  cases a.has n <;> cases b.has n <;> rfl
theorem and_not (a : S) : a.and a.not = empty := by
  apply ext_has (and_clean _ _) empty_clean
  intro n _
  rw [has_and, has_not, has_empty]
  cases a.has n <;> simp
theorem count_not (a : S) : a.count + a.not.count = 90 := by
  unfold count
  rw [cnt_congr (k := 90) (p := a.not.has) (q := fun i => !a.has i) (fun i hi => by rw [has_not]; simp [hi])]
  exact cnt_not 90 a.has
theorem count_or_and (a b : S) : (a.or b).count + (a.and b).count = a.count + b.count := by
  unfold count
  rw [cnt_congr (k := 90) (p := (a.or b).has) (q := fun i => a.has i || b.has i) (fun i _ => has_or a b i), cnt_congr (k := 90) (p := (a.and b).has) (q := fun i => a.has i && b.has i) (fun i _ => has_and a b i)]
  exact cnt_or_and 90 a.has b.has
end Go.Proofs.YtdfjmchkpoobdaaDoor.M.S
