/- What a side could take, and what is guarded, seen from the other side: of boards with one general a side at most. No program in it. -/
import Derived.Test.YtnkbilikkbaeeaaGreatDoorGuardA
namespace Go.Proofs.YtnkbilikkbaeeaaGreatDoor

theorem cnt_zero {s : ByteArray} {c : Nat} (h : cntN s 90 c = 0) : leastN s c = none := by
  cases e : leastN s c with
  | none => rfl
  | some n =>
    obtain ⟨h1, h2⟩ := least_some e
    have hl : ((List.range 90).filter fun i => bAt s i == c).length = 0 := by
      rw [cnt_trues, trues, List.length_map] at h
      exact h
    rw [List.length_eq_zero_iff] at hl
    have := List.filter_eq_nil_iff.1 hl n (List.mem_range.2 h1)
    simp [h2] at this
theorem swap_king {side : Int} (h : side = 0 ∨ side = 1) : swapN (kingOf (1 - side)) = kingOf side := by rcases h with rfl | rfl <;> decide
/-- One general a side at most. -/
def Few1 (s : ByteArray) : Prop := cntN s 90 75 ≤ 1 ∧ cntN s 90 107 ≤ 1
theorem Few1.of {s : ByteArray} (h : Few1 s) {side : Int} (hs : side = 0 ∨ side = 1) : cntN s 90 (kingOf side) ≤ 1 := by
  rcases hs with rfl | rfl
  · exact h.1
  · exact h.2
theorem Few1.turn {s : ByteArray} (hs : isB s = true) (h : Few1 s) : Few1 (turnB s) := by
  refine ⟨?_, ?_⟩
  · rw [cnt_turn hs]
    exact h.2
  · rw [cnt_turn hs]
    exact h.1
theorem facing_turn1 {s : ByteArray} (hs : isB s = true) (h : Few1 s) : facingB (turnB s) = facingB s := by
  have t1 : cntN (turnB s) 90 75 = cntN s 90 107 := by
    rw [cnt_turn hs]
    rfl
  have t2 : cntN (turnB s) 90 107 = cntN s 90 75 := by
    rw [cnt_turn hs]
    rfl
  by_cases c1 : cntN s 90 75 = 1
  · by_cases c2 : cntN s 90 107 = 1
    · exact facing_turn hs c1 c2
    · have z : cntN s 90 107 = 0 := by
        have := h.2
        omega
      have e1 := cnt_zero z
      have e2 := cnt_zero (t1.trans z)
      have f1 : facingB s = false := by
        unfold facingB
        rw [e1]
        split
        · rename_i h1 h2
          cases h2
        · rfl
      have f2 : facingB (turnB s) = false := by
        unfold facingB
        rw [e2]
      rw [f1, f2]
  · have z : cntN s 90 75 = 0 := by
      have := h.1
      omega
    have e1 := cnt_zero z
    have e2 := cnt_zero (t2.trans z)
    have f1 : facingB s = false := by
      unfold facingB
      rw [e1]
    have f2 : facingB (turnB s) = false := by
      unfold facingB
      rw [e2]
      split
      · rename_i h1 h2
        cases h2
      · rfl
    rw [f1, f2]
theorem in_turn1 {s : ByteArray} (hs : isB s = true) {side : Int} (hsd : side = 0 ∨ side = 1) (h : cntN s 90 (kingOf side) ≤ 1) : inB (turnB s) (1 - side) = inB s side := by
  have hb := turn_is_board hs
  have g1 : ((side == 0) || (side == 1)) = true := by rcases hsd with rfl | rfl <;> rfl
  have g2 : (((1 - side) == 0) || ((1 - side) == 1)) = true := by rcases hsd with rfl | rfl <;> rfl
  have t1 : cntN (turnB s) 90 (kingOf (1 - side)) = cntN s 90 (kingOf side) := by
    rw [cnt_turn hs, swap_king hsd]
  unfold inB
  rw [hs, hb, g1, g2, Bool.true_and, if_pos rfl, if_pos rfl]
  by_cases c1 : cntN s 90 (kingOf side) = 1
  · obtain ⟨a, ha, e1⟩ := one_ex c1
    have l1 := least_one c1 ha e1
    have l2 : leastN (turnB s) (kingOf (1 - side)) = some (89 - a) := least_one (t1.trans c1) (by omega) (by
      rw [turn_bAt hs ha, e1, ← swap_king hsd, swap_swap])
    rw [l1, l2]
    show ((attN (turnB s) (89 - a) (1 - (1 - side))).length != 0) = ((attN s a (1 - side)).length != 0)
    rw [att_turn hs ha (side := 1 - side) (by omega), List.length_reverse, List.length_map]
  · have z : cntN s 90 (kingOf side) = 0 := by omega
    rw [cnt_zero z, cnt_zero (t1.trans z)]
theorem safe_turn1 {s : ByteArray} (hs : isB s = true) (h : Few1 s) {side : Int} (hsd : side = 0 ∨ side = 1) : safeB (turnB s) (1 - side) = safeB s side := by
  unfold safeB
  rw [facing_turn1 hs h, in_turn1 hs hsd (h.of hsd)]
theorem few_behind {s : ByteArray} (hs : isB s = true) (h : Few1 s) {a b : Nat} (ha : a < 90) (hb : b < 90) (hne : a ≠ b) : isB (behindS s (a, b)) = true ∧ Few1 (behindS s (a, b)) := by
  refine ⟨moved_board hs (bAt_lt s a) (isB_fill hs a ha), ?_, ?_⟩
  · have := cnt_moved (isB_size hs) ha hb hne (x := 75) (by decide)
    have := h.1
    show cntN (movedS s a b (bAt s a)) 90 75 ≤ 1
    omega
  · have := cnt_moved (isB_size hs) ha hb hne (x := 107) (by decide)
    have := h.2
    show cntN (movedS s a b (bAt s a)) 90 107 ≤ 1
    omega
theorem could_turn {s : ByteArray} (hs : isB s = true) (h : Few1 s) {side : Int} (hsd : side = 0 ∨ side = 1) {a b : Nat} (ha : a < 90) (hb : b < 90) : couldB (turnB s) (1 - side) (89 - a) (89 - b) = couldB s side a b := by
  unfold couldB legalB
  show ((sideN (bAt (turnB s) (89 - a)) == 1 - side) && canB (turnB s) (89 - a) (89 - b) && ((kindN (bAt (turnB s) (89 - b)) != 75) && safeB (behindS (turnB s) (89 - a, 89 - b)) (1 - side))) = ((sideN (bAt s a) == side) && canB s a b && ((kindN (bAt s b) != 75) && safeB (behindS s (a, b)) side))
  have e1 : (sideN (bAt (turnB s) (89 - a)) == 1 - side) = (sideN (bAt s a) == side) := by
    rw [Bool.eq_iff_iff, beq_iff_eq, beq_iff_eq]
    exact iff_of_eq (side_turn hs ha hsd)
  rw [e1, can_turn hs ha hb, turn_bAt hs hb, swap_kind, behind_turn hs ha hb]
  cases hc : canB s a b
  · simp
  · obtain ⟨f1, f2⟩ := few_behind hs h ha hb (can_self hc)
    rw [safe_turn1 f1 f2 hsd]
theorem takes_turn {s : ByteArray} (hs : isB s = true) (h : Few1 s) {side : Int} (hsd : side = 0 ∨ side = 1) : takesG (turnB s) (1 - side) = ((takesG s side).map turnM).reverse := by
  have g1 : ((side == 0) || (side == 1)) = true := by rcases hsd with rfl | rfl <;> rfl
  have g2 : (((1 - side) == 0) || ((1 - side) == 1)) = true := by rcases hsd with rfl | rfl <;> rfl
  unfold takesG legalN
  rw [hs, turn_is_board hs, g1, g2, Bool.true_and, if_pos rfl, if_pos rfl, moves_turn hs hsd, List.filter_filter, List.filter_filter, List.filter_reverse, List.filter_map]
  congr 2
  refine List.filter_congr fun m hm => ?_
  obtain ⟨a, b⟩ := m
  obtain ⟨ha, hb, hsa, hcan⟩ := moves_mem.1 hm
  show ((bAt (turnB s) (89 - b) != 46) && legalB (turnB s) (1 - side) (89 - a, 89 - b)) = ((bAt s b != 46) && legalB s side (a, b))
  have e := could_turn hs h hsd ha hb
  unfold couldB at e
  have e1 : (sideN (bAt (turnB s) (89 - a)) == 1 - side) = true := by
    rw [beq_iff_eq, side_turn hs ha hsd]
    exact hsa
  rw [e1, can_turn hs ha hb, hcan, hsa, beq_self_eq_true, Bool.true_and, Bool.true_and, Bool.true_and] at e
  rw [e, turn_bAt hs hb, swap_empty]
theorem any_back (q : Nat → Bool) : ((List.range 90).any fun n => q (89 - n)) = (List.range 90).any q := by
  rw [Bool.eq_iff_iff, List.any_eq_true, List.any_eq_true]
  constructor
  · rintro ⟨n, hn, h⟩
    exact ⟨89 - n, List.mem_range.2 (by omega), h⟩
  · rintro ⟨n, hn, h⟩
    have := List.mem_range.1 hn
    exact ⟨89 - n, List.mem_range.2 (by omega), by rw [show 89 - (89 - n) = n by omega]; exact h⟩
theorem again_turn {s : ByteArray} (hs : isB s = true) (h : Few1 s) {side : Int} (hsd : side = 0 ∨ side = 1) {b : Nat} (hb : b < 90) : againB (turnB s) (1 - side) (89 - b) = againB s side b := by
  unfold againB
  rw [← any_back]
  have : ∀ l : List Nat, (∀ n ∈ l, n < 90) → (l.any fun n => couldB (turnB s) (1 - side) (89 - n) (89 - b)) = l.any fun n => couldB s side n b := fun l hl => by
    induction l with
    | nil => rfl
    | cons x r ih =>
      rw [List.any_cons, List.any_cons, ih fun n hn => hl n (List.mem_cons_of_mem _ hn), could_turn hs h hsd (hl x (by simp)) hb]
  exact this _ fun n hn => List.mem_range.1 hn
theorem guard_turn {s : ByteArray} (hs : isB s = true) (h : Few1 s) {side : Int} {a b : Nat} (ha : a < 90) (hb : b < 90) (hc : couldB s side a b = true) : guardB (turnB s) (89 - a) (89 - b) = guardB s a b := by
  have hsd := could_sides hc
  have e1 := (could_parts.1 hc).1
  have hcan := (could_parts.1 hc).2.1
  have e2 : sideN (bAt (turnB s) (89 - a)) = 1 - side := by
    rw [side_turn hs ha hsd]
    exact e1
  unfold guardB
  rw [e1, e2, could_turn hs h hsd ha hb, behind_turn hs ha hb]
  obtain ⟨f1, f2⟩ := few_behind hs h ha hb (can_self hcan)
  rw [again_turn f1 f2 (side := 1 - side) (by omega) hb]
end Go.Proofs.YtnkbilikkbaeeaaGreatDoor
