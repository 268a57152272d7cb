/- The code's way to who attacks a square: of the pieces those that reach it. No program in it. -/
import Derived.Test.YtbfkkedcjodceaaDoorCheckB
import Derived.Test.YtbfkkedcjodceaaDoorBoard7
namespace Go.Proofs.YtbfkkedcjodceaaDoor

/-- The board with a pawn of the other side on the square. -/
def stoodS (s : ByteArray) (n side : Int) : ByteArray := putB s n (pawnOf (1 - side))
theorem of_side7 {c : Nat} {side : Int} (h : 0 ≤ side) : ofSide c side = (sideN c == side) := by
  unfold ofSide
  by_cases e : c = 46
  · subst e
    have : sideN 46 = -1 := by decide
    rw [this]
    have : ((-1 : Int) == side) = false := by rw [beq_eq_false_iff_ne]; omega
    rw [this]
    rfl
  · have : (c != 46) = true := by rw [bne_iff_ne]; exact e
    rw [this, Bool.true_and]
theorem of_none {s : ByteArray} (hb : isB s = true) {side : Int} (h : ¬ (side = 0 ∨ side = 1)) {k : Nat} (hk : k < 90) : ofSide (bAt s k) side = false := by
  unfold ofSide
  have hf := isB_fill hb k hk
  rw [fill_side, Bool.or_eq_true, decide_eq_true_eq, beq_iff_eq] at hf
  rcases hf with hf | hf
  · rw [hf]
    rfl
  · have h01 := side_cases01 hf
    have : (sideN (bAt s k) == side) = false := by
      rw [beq_eq_false_iff_ne]
      intro e
      rw [e] at h01
      exact h h01
    rw [this, Bool.and_false]
theorem filter_trues (q : Nat → Bool) (p : Int → Bool) (m : Nat) : (trues q m).filter p = trues (fun k => q k && p (k : Int)) m := by
  unfold trues
  rw [List.filter_map, List.filter_filter]
  congr 1
  refine List.filter_congr fun k _ => ?_
  rw [Bool.and_comm]
  rfl
theorem att_filter (s : ByteArray) (n side : Int) : ((piecesL (stoodS s n side) side).filter fun x => !(!canI (stoodS s n side) x n)) = attL s n side := by
  simp only [Bool.not_not]
  unfold attL
  cases hb : isB s
  · have e : stoodS s n side = s := by unfold stoodS putB; rw [hb]; simp
    rw [e]
    unfold piecesL
    rw [hb]
    rfl
  cases hn : sqI n
  · have e : stoodS s n side = s := by unfold stoodS putB; rw [hn]; simp
    rw [e]
    have : ∀ x, canI s x n = false := fun x => by unfold canI; rw [hn]; simp
    simp [this]
  obtain ⟨h0, h1⟩ := sqI_in hn
  obtain ⟨m, rfl⟩ : ∃ m : Nat, n = m := ⟨n.toNat, by omega⟩
  have hm : m < 90 := by omega
  have e : stoodS s (m : Int) side = putS s m (pawnOf (1 - side)) := by
    unfold stoodS putB
    rw [hb, hn, pawnOf_fill, Int.toNat_natCast]
    rfl
  have hbd : isB (putS s m (pawnOf (1 - side))) = true := put_is_board hb m _ (pawnOf_lt _) (pawnOf_fill _)
  rw [e, piecesL, if_pos hbd, filter_trues]
  by_cases hs : side = 0 ∨ side = 1
  · have h2 : ((side == 0) || (side == 1)) = true := by
      simp only [Bool.or_eq_true, beq_iff_eq]
      exact hs
    rw [h2, if_pos (by rfl), Int.toNat_natCast]
    unfold trues
    congr 1
    refine List.filter_congr fun k hk => ?_
    have hk := List.mem_range.1 hk
    unfold attB canI
    rw [hbd, hn, sqI_true (n := (k : Int)) (by omega), Int.toNat_natCast, Int.toNat_natCast, of_side7 (by omega)]
    simp
  · have h2 : ((side == 0) || (side == 1)) = false := by
      rw [Bool.eq_false_iff]
      intro h3
      simp only [Bool.or_eq_true, beq_iff_eq] at h3
      exact hs h3
    rw [h2]
    simp only [Bool.and_false, Bool.false_eq_true, if_false]
    unfold trues
    rw [List.map_eq_nil_iff, List.filter_eq_nil_iff]
    intro k hk
    rw [of_none hbd hs (List.mem_range.1 hk)]
    simp
end Go.Proofs.YtbfkkedcjodceaaDoor
