/- How many there are of each piece on a board, and whether all stand where they may. -/
import Derived.Test.YtdpalfifckjhgaaPlace4
namespace Go.Proofs.Ytdpalfifckjhgaa
open Go.RowKit Go.Shelf
open M (S)

/-- How many of the first k bytes of a text are b. -/
def cntN (s : ByteArray) (k b : Nat) : Nat := (trues (fun i => bAt s i == b) k).length
theorem cntN_succ (s : ByteArray) (k b : Nat) : cntN s (k + 1) b = if bAt s k = b then cntN s k b + 1 else cntN s k b := by
  unfold cntN
  rw [trues_succ]
  by_cases h : bAt s k = b
  · rw [if_pos h, if_pos (by simpa using h), List.length_append]; rfl
  · rw [if_neg h, if_neg (by simpa using h)]
theorem cntN_le (s : ByteArray) (k b : Nat) : cntN s k b ≤ k := trues_le _ k
/-- 256 counts in memory. -/
def cntC (s : ByteArray) (k : Nat) : Array Value := ((List.range 256).map fun b => Value.int .i64 (cntN s k b : Nat)).toArray
theorem cntC_at (s : ByteArray) (k b : Nat) (h : b < 256) : (cntC s k)[b]? = some (.int .i64 (cntN s k b : Nat)) := by simp [cntC, h]
theorem cntC_set (s : ByteArray) (k : Nat) : (cntC s k).setIfInBounds (bAt s k) (.int .i64 ((cntN s k (bAt s k) + 1 : Nat) : Int)) = cntC s (k + 1) := by
  apply Array.ext
  · simp [cntC]
  · intro i h1 h2
    simp only [cntC, List.size_toArray, List.length_map, List.length_range] at h2
    rw [Array.getElem_setIfInBounds (by simpa [cntC] using h2)]
    simp only [cntC, List.getElem_toArray, List.getElem_map, List.getElem_range]
    rw [cntN_succ]
    by_cases e : bAt s k = i
    · rw [if_pos e, if_pos e, e]
    · rw [if_neg e, if_neg e]
theorem cntC_zero (s t : ByteArray) : cntC s 0 = cntC t 0 := rfl
/-- Not more than there may be of a kind, of either side. -/
def fewB (s : ByteArray) (n c : Nat) : Bool := decide (cntN s n c ≤ mostN c) && decide (cntN s n (c + 32) ≤ mostN (c + 32))
def kindsL : List Nat := [75, 65, 66, 78, 82, 67, 80]
/-- As many of each piece as there may be? -/
def countsB (s : ByteArray) (n : Nat) : Bool := kindsL.all (fewB s n) && (cntN s n 75 == 1) && (cntN s n 107 == 1)
theorem counts_no {s : ByteArray} {n c : Nat} (hc : c ∈ kindsL) (h : fewB s n c = false) : countsB s n = false := by
  unfold countsB
  rw [List.all_eq_false.2 ⟨c, hc, by simp [h]⟩]
  rfl
theorem counts_yes {s : ByteArray} {n : Nat} (h : ∀ j, j < 7 → fewB s n (kindsL.getD j 0) = true) : countsB s n = ((cntN s n 75 == 1) && (cntN s n 107 == 1)) := by
  have ha : kindsL.all (fewB s n) = true := by
    rw [List.all_eq_true]
    intro c hc
    simp only [kindsL, List.mem_cons, List.not_mem_nil, or_false] at hc
    rcases hc with rfl | rfl | rfl | rfl | rfl | rfl | rfl
    · exact h 0 (by decide)
    · exact h 1 (by decide)
    · exact h 2 (by decide)
    · exact h 3 (by decide)
    · exact h 4 (by decide)
    · exact h 5 (by decide)
    · exact h 6 (by decide)
  unfold countsB
  rw [ha, Bool.true_and]
theorem few_red {s : ByteArray} {n c x m : Nat} (hx : cntN s n c = x) (hm : mostN c = m) (h : m < x) : fewB s n c = false := by
  unfold fewB
  rw [hx, hm, decide_eq_false (by omega), Bool.false_and]
theorem few_black {s : ByteArray} {n c x m : Nat} (hx : cntN s n (c + 32) = x) (hm : mostN (c + 32) = m) (h : m < x) : fewB s n c = false := by
  unfold fewB
  rw [hx, hm, decide_eq_false (p := x ≤ m) (by omega), Bool.and_false]
theorem few_ok {s : ByteArray} {n c x y m : Nat} (hx : cntN s n c = x) (hy : cntN s n (c + 32) = y) (hm : mostN c = m) (hm' : mostN (c + 32) = m) (h : x ≤ m) (h' : y ≤ m) : fewB s n c = true := by
  unfold fewB
  rw [hx, hy, hm, hm', decide_eq_true h, decide_eq_true h']
  rfl

end Go.Proofs.Ytdpalfifckjhgaa
