/- What is found on a board, for every text; a board from the other side. -/
import Derived.Test.YtdpalfifckjhgaaBoard2
import Derived.Deep.QuietTactic
import Derived.BigQuiet
namespace Go.Proofs.Ytdpalfifckjhgaa
open Go.RowKit Go.Shelf
open M (S)
open M.S

/-- The squares at which something holds, as a set. -/
def setOf (p : Nat → Bool) (k : Nat) : S := (List.range k).foldl (fun t i => if p i then t.put (i : Int) else t) S.empty
theorem setOf_succ (p : Nat → Bool) (k : Nat) : setOf p (k + 1) = if p k then (setOf p k).put (k : Int) else setOf p k := by
  unfold setOf
  rw [List.range_succ, List.foldl_append]
  rfl
theorem setOf_clean (p : Nat → Bool) : ∀ k, (setOf p k).Clean
  | 0 => empty_clean
  | k + 1 => by
    rw [setOf_succ]
    split
    · exact put_clean _ _
    · exact setOf_clean p k
theorem has_setOf (p : Nat → Bool) (i : Nat) (hi : i < 90) : ∀ k, (setOf p k).has i = (decide (i < k) && p i)
  | 0 => by rw [show setOf p 0 = S.empty from rfl, has_empty]; simp
  | k + 1 => by
    rw [setOf_succ]
    by_cases e : i = k
    · subst e
      cases hp : p i
      · simp [has_setOf p i hi i]
      · simp [has_put, hi]
    · have h1 : decide (i < k + 1) = decide (i < k) := by rw [decide_eq_decide]; omega
      rw [h1]
      split
      · rw [has_put, has_setOf p i hi k, decide_eq_false (p := ((k : Nat) : Int) = (i : Int) ∧ i < 90) (by omega), Bool.or_false]
      · exact has_setOf p i hi k
/-- The numbers below k at which p holds. -/
def trues (p : Nat → Bool) (k : Nat) : List Int := ((List.range k).filter p).map fun i : Nat => (i : Int)
theorem sqs_setOf (p : Nat → Bool) : (setOf p 90).sqs.map (fun i => (i.val : Int)) = trues p 90 := by
  have h : (setOf p 90).sqs.map Fin.val = (List.range 90).filter p := by
    rw [S.sqs_val]
    apply List.filter_congr
    intro i hi
    have hi' := List.mem_range.1 hi
    rw [has_setOf p i hi' 90, decide_eq_true hi', Bool.true_and]
  rw [trues, ← h, List.map_map]
  rfl
/-- A call's answer is a slice of the numbers l. -/
def GivesL (w : World) (l : List Int) (e : Ending) (w' : World) : Prop := ∃ A c, e = .returned (.slice A l.length c) ∧ Rd w' A (l.map iv) ∧ Below w.heap.size w w'

/-- A piece of a side? -/
def ofSide (x : Nat) (side : Int) : Bool := (x != 46) && (sideN x == side)

/-- The squares on which a byte stands. -/
def findL (s : ByteArray) (c : Nat) : List Int := if isB s then trues (fun k => bAt s k == c) 90 else []
/-- The squares on which a piece of a side stands. -/
def piecesL (s : ByteArray) (side : Int) : List Int := if isB s then trues (fun k => ofSide (bAt s k) side) 90 else []
theorem GivesL.back {w w0 : World} {l : List Int} {e : Ending} {w' : World} (h : GivesL w0 l e w') (hb : Below w.heap.size w w0) : GivesL w l e w' := by
  obtain ⟨A, c, he, hr, hb1⟩ := h
  exact ⟨A, c, he, hr, hb.trans (hb1.mono hb.size)⟩

/-- A board from the other side: its first k bytes. -/
def turnL (s : ByteArray) (k : Nat) : List UInt8 := (List.range k).map fun i => UInt8.ofNat (swapN (bAt s (89 - i)))
/-- What Turn answers. -/
def turnB (s : ByteArray) : ByteArray := if isB s then ⟨(turnL s 90).toArray⟩ else ByteArray.empty
theorem swapN_lt (c : Nat) (h : c < 256) : swapN c < 256 := by
  unfold swapN
  split
  · rename_i h1
    simp only [isRed, List.contains_iff_mem, List.mem_cons, List.not_mem_nil, or_false] at h1
    omega
  · split <;> omega
end Go.Proofs.Ytdpalfifckjhgaa
