/- What the squares between two bounds, the first and the last one of a set are. -/
import Derived.Test.YtdfjmchkpoobdaaDoorLawsM
import Derived.Test.YtdfjmchkpoobdaaDoorBitsF
namespace Go.Proofs.YtdfjmchkpoobdaaDoor
open M (S)
open M.S

theorem sqs_sorted (s : S) : (s.sqs.map Fin.val).Pairwise (· < ·) := by
  rw [S.sqs_val]
  exact List.Pairwise.filter _ List.pairwise_lt_range
theorem inner_clean (lo hi : Int) (l : List (Fin 90)) : (inner lo hi l).Clean := by
  have h : ∀ (l : List (Fin 90)) (t : S), t.Clean → (l.foldl (fun t x => if lo < x.val ∧ (x.val : Int) < hi then t.put x.val else t) t).Clean := by
    intro l
    induction l with
    | nil => exact fun _ h => h
    | cons x l ih =>
      intro t ht
      rw [List.foldl_cons]
      apply ih
      split
      · exact put_clean _ _
      · exact ht
  exact h l _ empty_clean
theorem has_inner (lo hi : Int) (l : List (Fin 90)) (i : Nat) (hi' : i < 90) : (inner lo hi l).has i = (decide ((⟨i, hi'⟩ : Fin 90) ∈ l) && decide (lo < (i : Int) ∧ (i : Int) < hi)) := by
  have h : ∀ (l : List (Fin 90)) (t : S), (l.foldl (fun t x => if lo < x.val ∧ (x.val : Int) < hi then t.put x.val else t) t).has i = (t.has i || (decide ((⟨i, hi'⟩ : Fin 90) ∈ l) && decide (lo < (i : Int) ∧ (i : Int) < hi))) := by
    intro l
    induction l with
    | nil => intro t; simp
    | cons x l ih =>
      intro t
      rw [List.foldl_cons, ih]
      by_cases hx : (⟨i, hi'⟩ : Fin 90) = x
      · subst hx
        by_cases hc : lo < (i : Int) ∧ (i : Int) < hi
        · rw [if_pos hc, has_put]
          simp [hc, hi']
        · rw [if_neg hc]
          simp [hc]
      · have hv : (x.val : Int) ≠ (i : Int) := fun h => hx (Fin.ext (by simp; omega))
        have hx' : (x.val : Int) = (i : Int) ↔ False := ⟨fun h => hv h, False.elim⟩
        split
        · rw [has_put]
          simp [hx, hx']
        · simp [hx]
  rw [inner, h l, has_empty]
  simp
theorem first_le (l : List (Fin 90)) (h : (l.map Fin.val).Pairwise (· < ·)) (x : Fin 90) (hx : x ∈ l) : first l ≤ x.val := by
  cases l with
  | nil => cases hx
  | cons y l =>
    simp only [first]
    rcases List.mem_cons.1 hx with rfl | hm
    · omega
    · rw [List.map_cons, List.pairwise_cons] at h
      have := h.1 x.val (List.mem_map.2 ⟨x, hm, rfl⟩)
      omega
theorem le_last (l : List (Fin 90)) (h : (l.map Fin.val).Pairwise (· < ·)) (x : Fin 90) (hx : x ∈ l) : (x.val : Int) ≤ last l := by
  obtain ⟨p, y, rfl⟩ : ∃ p y, l = p ++ [y] := ⟨l.dropLast, l.getLast (List.ne_nil_of_mem hx), (List.dropLast_concat_getLast _).symm⟩
  rw [last_snoc]
  rcases List.mem_append.1 hx with hm | hm
  · rw [List.map_append, List.pairwise_append] at h
    have := h.2.2 x.val (List.mem_map.2 ⟨x, hm, rfl⟩) y.val (by simp)
    omega
  · rw [List.mem_singleton.1 hm]
    omega
theorem first_mem (l : List (Fin 90)) (h : l ≠ []) : ∃ x ∈ l, first l = x.val := by
  cases l with
  | nil => exact absurd rfl h
  | cons y l => exact ⟨y, by simp, rfl⟩
theorem last_mem (l : List (Fin 90)) (h : l ≠ []) : ∃ x ∈ l, last l = x.val := by
  refine ⟨l.getLast h, List.getLast_mem h, ?_⟩
  simp [last, List.getLast?_eq_some_getLast h]
theorem first_le_last (s : S) : first s.sqs ≤ last s.sqs := by
  by_cases h : s.sqs = []
  · rw [h]; decide
  · obtain ⟨x, hx, e⟩ := first_mem _ h
    rw [e]
    exact le_last _ (sqs_sorted s) x hx
theorem first_none (s : S) : (first s.sqs == -1) = (((s.count : Nat) : Int) == 0) := by
  rw [← S.sqs_length]
  cases h : s.sqs with
  | nil => rfl
  | cons x l =>
    have h1 : ((x.val : Int) == -1) = false := by rw [beq_eq_false_iff_ne]; omega
    have h2 : ((((x :: l).length : Nat) : Int) == 0) = false := by simp; omega
    rw [h2]
    exact h1
theorem last_none (s : S) : (last s.sqs == -1) = (((s.count : Nat) : Int) == 0) := by
  rw [← S.sqs_length]
  by_cases h : s.sqs = []
  · rw [h]; rfl
  · obtain ⟨x, _, e⟩ := last_mem _ h
    have h1 : ((x.val : Int) == -1) = false := by rw [beq_eq_false_iff_ne]; omega
    have h2 : (((s.sqs.length : Nat) : Int) == 0) = false := by
      have : s.sqs.length ≠ 0 := fun e => h (List.length_eq_zero_iff.1 e)
      simp; omega
    rw [h2, e]
    exact h1
theorem ends_eq (s : S) : inner (min (first s.sqs) (last s.sqs)) (max (first s.sqs) (last s.sqs)) s.sqs = (s.drop (first s.sqs)).drop (last s.sqs) := by
  have hle := first_le_last s
  rw [Int.min_eq_left hle, Int.max_eq_right hle]
  apply ext_has (inner_clean _ _ _) (drop_clean _ _)
  intro i hi
  rw [has_inner _ _ _ i hi, has_drop, has_drop]
  have hm := mem_sqs s ⟨i, hi⟩
  simp only at hm
  by_cases hs : s.has i = true
  · have hx := hm.2 hs
    have h1 := first_le _ (sqs_sorted s) _ hx
    have h2 := le_last _ (sqs_sorted s) _ hx
    simp only at h1 h2
    rw [hs]
    simp only [hx, decide_true, Bool.true_and, hi, and_true]
    rw [Bool.eq_iff_iff]
    simp
    omega
  · have hx : ¬ (⟨i, hi⟩ : Fin 90) ∈ s.sqs := fun h => hs (hm.1 h)
    have hf : s.has i = false := by simpa using hs
    rw [hf]
    simp [hx]
theorem shiftS_clean (s : S) (n : Int) : (shiftS s n).Clean := by
  unfold shiftS
  split
  · have h : ∀ (l : List (Fin 90)) (t : S), t.Clean → (l.foldl (fun t x => t.put (x.val + n)) t).Clean := by
      intro l
      induction l with
      | nil => exact fun _ h => h
      | cons x l ih => exact fun t _ => ih _ (put_clean _ _)
    exact h _ _ empty_clean
  · exact empty_clean
theorem has_shifted (n : Int) (l : List (Fin 90)) (i : Nat) (hi : i < 90) : (shifted n l).has i = l.any fun x => decide ((x.val : Int) + n = (i : Int)) := by
  have h : ∀ (l : List (Fin 90)) (t : S), (l.foldl (fun t x => t.put (x.val + n)) t).has i = (t.has i || l.any fun x => decide ((x.val : Int) + n = (i : Int))) := by
    intro l
    induction l with
    | nil => intro t; simp
    | cons x l ih =>
      intro t
      rw [List.foldl_cons, ih, has_put, List.any_cons, Bool.or_assoc]
      simp [hi]
  rw [shifted, h l, has_empty]
  simp
/-- Which squares a set has, n further on. -/
theorem has_shiftS (s : S) (n : Int) (i : Nat) (hi : i < 90) : (shiftS s n).has i = (decide (0 ≤ (i : Int) - n) && s.has ((i : Int) - n).toNat) := by
  unfold shiftS
  split
  · rw [has_shifted n _ i hi, Bool.eq_iff_iff, List.any_eq_true]
    simp only [decide_eq_true_eq, Bool.and_eq_true]
    constructor
    · rintro ⟨x, hx, e⟩
      have := (mem_sqs s x).1 hx
      refine ⟨by omega, ?_⟩
      rw [show ((i : Int) - n).toNat = x.val by omega]
      exact this
    · rintro ⟨h0, hs⟩
      have hlt : ((i : Int) - n).toNat < 90 := by
        apply Nat.lt_of_not_le
        intro hle
        rw [has_ge _ _ hle] at hs
        cases hs
      exact ⟨⟨((i : Int) - n).toNat, hlt⟩, (mem_sqs s _).2 hs, by simp only; omega⟩
  · rw [has_empty]
    by_cases h0 : 0 ≤ (i : Int) - n
    · rw [has_ge s _ (by omega), Bool.and_false]
    · rw [decide_eq_false h0, Bool.false_and]
theorem shift_shift (s : S) (n m : Int) (h : (0 ≤ n ∧ 0 ≤ m) ∨ (n ≤ 0 ∧ m ≤ 0)) : shiftS (shiftS s n) m = shiftS s (n + m) := by
  apply ext_has (shiftS_clean _ _) (shiftS_clean _ _)
  intro i hi
  rw [has_shiftS _ m i hi, has_shiftS s (n + m) i hi]
  by_cases h0 : 0 ≤ (i : Int) - m ∧ (i : Int) - m < 90
  · rw [has_shiftS s n _ (by omega)]
    rw [show ((((i : Int) - m).toNat : Nat) : Int) - n = (i : Int) - (n + m) by omega]
    rw [decide_eq_true h0.1, Bool.true_and]
  · by_cases h1 : 0 ≤ (i : Int) - m
    · rw [has_ge _ _ (by omega)]
      by_cases h2 : 0 ≤ (i : Int) - (n + m)
      · rw [has_ge s _ (by omega), Bool.and_false, Bool.and_false]
      · rw [decide_eq_false h2, Bool.false_and, Bool.and_false]
    · by_cases h2 : 0 ≤ (i : Int) - (n + m)
      · exfalso; omega
      · rw [decide_eq_false h1, decide_eq_false h2, Bool.false_and, Bool.false_and]
end Go.Proofs.YtdfjmchkpoobdaaDoor
