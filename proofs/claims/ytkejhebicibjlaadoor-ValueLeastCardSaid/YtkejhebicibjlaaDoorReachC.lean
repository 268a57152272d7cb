/- What the parts of reach answer: squares, distances, legs, what stands between two squares. -/
import Derived.Test.YtkejhebicibjlaaDoorReachB
namespace Go.Proofs.YtkejhebicibjlaaDoor
open Go.RowKit Go.Shelf
open M (S)

theorem trues_skip {p : Nat → Bool} {m : Nat} : ∀ {n : Nat}, m ≤ n → (∀ k, m ≤ k → k < n → p k = false) → trues p n = trues p m
  | 0, h, _ => by obtain rfl : m = 0 := by omega
                  rfl
  | n + 1, h, hp => by
    by_cases e : m = n + 1
    · rw [e]
    · rw [trues_succ, hp n (by omega) (by omega), if_neg (by simp), trues_skip (by omega) fun k h1 h2 => hp k h1 (by omega)]
/-- What stands between two squares, below the n-th. -/
def wayN (s : ByteArray) (a b n : Nat) : Nat := (trues (fun k => wayB a b k && (bAt s k != 46)) n).length
/-- How far one square of a line is from the next one. -/
def StepB (a b t : Nat) : Prop := a ≠ b ∧ ((t = 1 ∧ a / 9 = b / 9) ∨ (t = 9 ∧ a % 9 = b % 9))
theorem wayB_false {a b k : Nat} (h : ¬ (min a b < k ∧ k < max a b ∧ (a / 9 = b / 9 ∨ k % 9 = a % 9))) : wayB a b k = false := by
  cases e : wayB a b k
  · rfl
  · simp only [wayB, Bool.and_eq_true, Bool.or_eq_true, decide_eq_true_eq, beq_iff_eq] at e
    exact absurd ⟨e.1.1, e.1.2, e.2⟩ h
theorem wayB_true {a b k : Nat} (h : min a b < k ∧ k < max a b ∧ (a / 9 = b / 9 ∨ k % 9 = a % 9)) : wayB a b k = true := by
  simp only [wayB, Bool.and_eq_true, Bool.or_eq_true, decide_eq_true_eq, beq_iff_eq]
  exact ⟨⟨h.1, h.2.1⟩, h.2.2⟩
/-- A square on the way, by steps of t. -/
def OnWay (t a b n : Nat) : Prop := min a b < n ∧ n ≤ max a b ∧ n % t = min a b % t
theorem way_start {s : ByteArray} {a b t : Nat} (h : StepB a b t) : Hid (OnWay t a b (min a b + t)) ∧ wayN s a b (min a b + t) = 0 := by
  obtain ⟨hne, h⟩ := h
  refine ⟨⟨by omega, by rcases h with ⟨rfl, h⟩ | ⟨rfl, h⟩ <;> omega, by rcases h with ⟨rfl, h⟩ | ⟨rfl, h⟩ <;> omega⟩, ?_⟩
  unfold wayN
  rw [trues_skip (m := 0) (Nat.zero_le _) fun k _ hk => ?_]
  · rfl
  · rw [wayB_false, Bool.false_and]
    rcases h with ⟨rfl, h⟩ | ⟨rfl, h⟩ <;> omega
theorem way_next {s : ByteArray} {a b t n : Nat} (h : StepB a b t) (h1 : OnWay t a b n) (h2 : n < max a b) :
    OnWay t a b (n + t) ∧ wayN s a b (n + t) = if bAt s n = 46 then wayN s a b n else wayN s a b n + 1 := by
  obtain ⟨hne, h⟩ := h
  obtain ⟨h1, -, h3⟩ := h1
  refine ⟨⟨by omega, by rcases h with ⟨rfl, h⟩ | ⟨rfl, h⟩ <;> omega, by rcases h with ⟨rfl, h⟩ | ⟨rfl, h⟩ <;> omega⟩, ?_⟩
  unfold wayN
  rw [trues_skip (m := n + 1) (by rcases h with ⟨rfl, h⟩ | ⟨rfl, h⟩ <;> omega) fun k hk1 hk2 => ?_]
  · rw [trues_succ, wayB_true (by rcases h with ⟨rfl, h⟩ | ⟨rfl, h⟩ <;> omega), Bool.true_and]
    by_cases e : bAt s n = 46
    · rw [if_pos e, e]
      rfl
    · rw [if_neg e, if_pos (by rw [bne_iff_ne]; exact e), List.length_append]
      rfl
  · rw [wayB_false, Bool.false_and]
    rcases h with ⟨rfl, h⟩ | ⟨rfl, h⟩ <;> omega
theorem way_end {s : ByteArray} {a b : Nat} (ha : a < 90) (hb : b < 90) : wayN s a b (max a b) = betweenN s a b := by
  unfold wayN betweenN
  rw [trues_skip (m := max a b) (n := 90) (by omega) fun k hk1 hk2 => ?_]
  rw [wayB_false (by omega), Bool.false_and]
theorem way_le {s : ByteArray} {a b n : Nat} : wayN s a b n ≤ n := trues_le _ _
theorem line_step {a b t : Nat} (h : StepB a b t) : lineB a b = true := by
  obtain ⟨hne, h⟩ := h
  simp only [lineB, Bool.and_eq_true, Bool.or_eq_true, bne_iff_ne, beq_iff_eq]
  exact ⟨hne, by omega⟩
theorem line_none {a b : Nat} (h : a = b ∨ (a / 9 ≠ b / 9 ∧ a % 9 ≠ b % 9)) : lineB a b = false := by
  cases e : lineB a b
  · rfl
  · simp only [lineB, Bool.and_eq_true, Bool.or_eq_true, bne_iff_ne, beq_iff_eq] at e
    omega
theorem betweenI_step {s : ByteArray} {a b t : Nat} (h : StepB a b t) : betweenI s a b = betweenN s a b := by rw [betweenI, line_step h, if_pos rfl]
theorem betweenI_none {s : ByteArray} {a b : Nat} (h : a = b ∨ (a / 9 ≠ b / 9 ∧ a % 9 ≠ b % 9)) : betweenI s a b = -1 := by rw [betweenI, line_none h]; rfl

theorem file_sq {a : Nat} (h : a < 90) : fileI (a : Int) = ((a % 9 : Nat) : Int) := by
  unfold fileI
  rw [if_pos (by omega)]
  omega
theorem rank_sq {a : Nat} (h : a < 90) : rankI (a : Int) = ((a / 9 : Nat) : Int) := by
  unfold rankI
  rw [if_pos (by omega)]
  omega
end Go.Proofs.YtkejhebicibjlaaDoor
