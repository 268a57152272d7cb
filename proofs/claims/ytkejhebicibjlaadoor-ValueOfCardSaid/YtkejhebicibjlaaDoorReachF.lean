/- What the calls of reach answer, for every text and every number: whether a piece reaches a square, all that it reaches, what stands between two. -/
import Derived.Test.YtkejhebicibjlaaDoorReachD
import Derived.Test.YtkejhebicibjlaaDoorShelf
import Derived.Lib.OwnBridge
namespace Go.Proofs.YtkejhebicibjlaaDoor
open Go.RowKit Go.Shelf
open M (S)

/-- Squares, as numbers of 90. -/
def finL (q : Nat → Bool) : List (Fin 90) := (List.finRange 90).filter fun i => q i.val
abbrev fqv (x : Fin 90) : Value := .int .i64 (x.val : Int)
theorem finL_val (q : Nat → Bool) : (finL q).map (fun i => (i.val : Int)) = trues q 90 := by
  have h : (finL q).map Fin.val = (List.range 90).filter q := by
    unfold finL
    rw [← (show (List.finRange 90).map Fin.val = List.range 90 by decide +kernel), List.filter_map]
    rfl
  unfold trues
  rw [← h, List.map_map]
  rfl
theorem finL_vals (q : Nat → Bool) : (finL q).map fqv = (trues q 90).map iv := by
  rw [← finL_val, List.map_map]
  rfl
theorem finL_len (q : Nat → Bool) : (finL q).length = (trues q 90).length := by rw [← finL_val, List.length_map]
theorem finL_filter (q p : Nat → Bool) : ((finL q).filter fun i => !p i.val) = finL fun k => q k && !p k := by
  unfold finL
  rw [List.filter_filter]
  refine List.filter_congr fun i _ => ?_
  rw [Bool.and_comm]
theorem goes_own {s : ByteArray} {a k : Nat} : (goesV s a k && !(sideN (bAt s k) == sideN (bAt s a))) = canB s a k := by
  unfold goesV canB bne
  cases decide (0 ≤ sideN (bAt s a)) <;> cases (sideN (bAt s k) == sideN (bAt s a)) <;> simp
theorem own_next {w w1 : World} {base : Nat} {e : TypeId} {size : Nat} {v : Value} {n : Nat} {xs : List Value} (h : w.ownsRow base e size v n xs) (hb : Below w.heap.size w w1) : w1.ownsRow base e size v n xs := by
  refine ⟨h.1, ?_⟩
  rcases h.2 with h2 | ⟨g, cap, cur, hv, hg, hc, hr⟩
  · exact .inl h2
  · exact .inr ⟨g, cap, cur, hv, hg, (hb.block g (Array.getElem?_eq_some_iff.1 hc).1).trans hc, hr⟩
end Go.Proofs.YtkejhebicibjlaaDoor
