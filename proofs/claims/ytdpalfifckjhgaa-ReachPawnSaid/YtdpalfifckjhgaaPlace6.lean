/- What is wrong with any position. -/
import Derived.Test.YtdpalfifckjhgaaPlace5
namespace Go.Proofs.Ytdpalfifckjhgaa
open Go.RowKit Go.Shelf
open M (S)

/-- Do all pieces among the first n stand where they may? -/
def placesB (s : ByteArray) (n : Nat) : Bool := (List.range n).all fun k => (kindN (bAt s k) == 0) || mayB (bAt s k) k
theorem places_no {s : ByteArray} {n k : Nat} (hk : k < n) (h0 : kindN (bAt s k) ≠ 0) (h : mayB (bAt s k) k = false) : placesB s n = false := by
  unfold placesB
  rw [List.all_eq_false.2 ⟨k, List.mem_range.2 hk, by simp [h0, h]⟩]
theorem places_yes {s : ByteArray} {n : Nat} (h : ∀ k, k < n → ((kindN (bAt s k) == 0) || mayB (bAt s k) k) = true) : placesB s n = true := by
  unfold placesB
  rw [List.all_eq_true]
  exact fun k hk => h k (List.mem_range.1 hk)
/-- Are a position's parts what they may be? -/
def partsB (s : ByteArray) (side clock full : Int) : Bool := isB s && (side == 0 || side == 1) && decide (0 ≤ clock) && decide (clock ≤ 120) && decide (1 ≤ full) && decide (full ≤ 9999)
/-- What Check tells: 0, or an error. -/
def checkN (s : ByteArray) (side clock full : Int) : Nat := if partsB s side clock full then (if countsB s 90 then (if placesB s 90 then 0 else 2) else 3) else 1
theorem parts_false {s : ByteArray} {side clock full : Int} (h : isB s = false ∨ (side == 0 || side == 1) = false ∨ clock < 0 ∨ 120 < clock ∨ full < 1 ∨ 9999 < full) : checkN s side clock full = 1 := by
  have : partsB s side clock full = false := by
    cases e : partsB s side clock full
    · rfl
    · simp only [partsB, Bool.and_eq_true, decide_eq_true_eq] at e
      rcases h with h | h | h
      · rw [h] at e; simp at e
      · rw [h] at e; simp at e
      · omega
  rw [checkN, this]
  rfl
theorem parts_true {s : ByteArray} {side clock full : Int} (h1 : isB s = true) (h2 : (side == 0 || side == 1) = true) (h3 : 0 ≤ clock) (h4 : clock ≤ 120) (h5 : 1 ≤ full) (h6 : full ≤ 9999) : partsB s side clock full = true := by
  simp only [partsB, Bool.and_eq_true, decide_eq_true_eq]
  exact ⟨⟨⟨⟨⟨h1, h2⟩, h3⟩, h4⟩, h5⟩, h6⟩
/-- A position's value. -/
def posV (s : ByteArray) (side clock full : Int) : Value := .agg #[.string s, .int .i64 side, .int .i64 clock, .int .i64 full]
end Go.Proofs.Ytdpalfifckjhgaa
