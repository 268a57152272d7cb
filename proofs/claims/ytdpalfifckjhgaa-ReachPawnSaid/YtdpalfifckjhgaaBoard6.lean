/- What more of the document's plain answers of layer 2 come to: what is found on a board. -/
import Derived.Test.YtdpalfifckjhgaaBoard5
namespace Go.Proofs.Ytdpalfifckjhgaa
open Go.RowKit Go.Shelf
open M (S)

theorem below_app {w wr w1 : World} {n₀ : Nat} {e : TypeId} {size k : Nat} {v : Value} {xs : List Value} {o : Obj} (hB : Below n₀ w wr) (hn : n₀ ≤ wr.heap.size) (hown : wr.ownsRow n₀ e size v k xs) (hgrow : (wr.alloc o).grownBy w1 v.ownBlock) : Below n₀ w w1 := by
  refine (hB.alloc hn o).grown hgrow (by simp; omega) fun j ej => ?_
  rcases hown.2 with ⟨rfl, _⟩ | ⟨g, cap, cur, rfl, hb, _, _⟩
  · simp [Value.ownBlock] at ej
  · obtain rfl : g = j := by simpa [Value.ownBlock] using ej
    exact hb
theorem trues_succ (p : Nat → Bool) (k : Nat) : trues p (k + 1) = if p k then trues p k ++ [(k : Int)] else trues p k := by
  unfold trues
  rw [List.range_succ, List.filter_append]
  cases h : p k <;> simp [h]
theorem trues_le (p : Nat → Bool) (k : Nat) : (trues p k).length ≤ k := by
  unfold trues
  rw [List.length_map]
  exact Nat.le_trans (List.length_filter_le _ _) (by simp)


end Go.Proofs.Ytdpalfifckjhgaa
