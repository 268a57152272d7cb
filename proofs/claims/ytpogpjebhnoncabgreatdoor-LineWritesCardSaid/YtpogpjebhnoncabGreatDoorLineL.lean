/- How long a line's words are together. -/
import Derived.Test.YtpogpjebhnoncabGreatDoorLineK
namespace Go.Proofs.YtpogpjebhnoncabGreatDoor
open Go.RowKit Go.Shelf Go.Proofs.YtpogpjebhnoncabGreatDoor.Ln
open M (S)

theorem cut_sum (c : UInt8) : ∀ s : List UInt8, sumL (F.cutL c s) = s.length + 1
  | [] => rfl
  | b :: r => by
    by_cases e : b = c
    · rw [F.cutL, if_pos e]
      show 0 + 1 + sumL (F.cutL c r) = _
      rw [cut_sum c r, List.length_cons]
      omega
    · obtain ⟨x, t, h1, h2⟩ := F.cutL_cons_ne e r
      have ih := cut_sum c r
      rw [h1] at ih
      rw [h2, List.length_cons, ← ih]
      show x.length + 1 + 1 + sumL t = x.length + 1 + sumL t + 1
      omega
theorem filter_sum (p : List UInt8 → Bool) : ∀ l : List (List UInt8), sumL (l.filter p) ≤ sumL l
  | [] => Nat.le_refl _
  | x :: r => by
    have ih := filter_sum p r
    rw [List.filter_cons]
    split
    · show x.length + 1 + sumL (r.filter p) ≤ x.length + 1 + sumL r
      omega
    · show _ ≤ x.length + 1 + sumL r
      omega
theorem words_sum (s : List UInt8) : sumL (wordsB s) ≤ s.length + 1 := by
  unfold wordsB
  refine Nat.le_trans (filter_sum _ _) ?_
  rw [cut_sum, List.length_map]
  exact Nat.le_refl _
theorem sum_count : ∀ l : List (List UInt8), l.length ≤ sumL l
  | [] => Nat.le_refl _
  | x :: r => by
    have := sum_count r
    show r.length + 1 ≤ x.length + 1 + sumL r
    omega
theorem sum_mem : ∀ {l : List (List UInt8)} {x : List UInt8}, x ∈ l → x.length + 1 ≤ sumL l
  | y :: r, x, h => by
    rcases List.mem_cons.1 h with rfl | h
    · exact Nat.le_add_right _ _
    · have := sum_mem h
      show _ ≤ y.length + 1 + sumL r
      omega
theorem sum_take (l : List (List UInt8)) (k : Nat) : sumL (l.take k) ≤ sumL l := by
  conv => rhs; rw [← List.take_append_drop k l, sum_app]
  exact Nat.le_add_right _ _
theorem flat_len : ∀ l : List (List UInt8), (l.flatMap fun x => x ++ [32]).length = sumL l
  | [] => rfl
  | x :: r => by
    rw [List.flatMap_cons, List.length_append, flat_len r, List.length_append]
    rfl
theorem flat2_len : ∀ l : List (List UInt8), (l.flatMap fun x => [9, 32] ++ x).length = sumL l + l.length
  | [] => rfl
  | x :: r => by
    rw [List.flatMap_cons, List.length_append, flat2_len r, List.length_append]
    show 2 + x.length + (sumL r + r.length) = x.length + 1 + sumL r + (r.length + 1)
    omega
end Go.Proofs.YtpogpjebhnoncabGreatDoor
