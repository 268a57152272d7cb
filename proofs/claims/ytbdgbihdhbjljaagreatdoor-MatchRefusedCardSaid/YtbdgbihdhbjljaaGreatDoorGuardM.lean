/- Merged: GuardA GuardT GuardP GuardB GuardK GuardC GuardD GuardE. -/
import Derived.Test.YtbdgbihdhbjljaaGreatDoorLegalM
import Derived.Test.YtbdgbihdhbjljaaGreatDoorCheckM
import Derived.Test.YtbdgbihdhbjljaaGreatDoorRefP5
import Derived.Test.YtbdgbihdhbjljaaGreatDoorBitsM
import Derived.RangeFuncNested
import Derived.RangeFuncCalls
import Derived.RangeFuncLeaves
import Derived.RangeFuncBox
import Derived.Shelf.Abstract
import Derived.OwnWalkIn
import Derived.TacticsInMore
import Derived.LoopNIn
import Derived.LoopIn
import Derived.Maps.AppendAt
import Derived.Laws.OwnMore
import Derived.Lib.Hide
import Derived.Test.YtbdgbihdhbjljaaGreatDoorBoardO
import Derived.Test.YtbdgbihdhbjljaaGreatDoorPseudoB

namespace Go.Proofs.YtbdgbihdhbjljaaGreatDoor

/-- Whether a side could make a move. -/
def couldB (s : ByteArray) (side : Int) (a b : Nat) : Bool := (sideN (bAt s a) == side) && canB s a b && legalB s side (a, b)
def couldI (s : ByteArray) (side a b : Int) : Bool := isB s && sqI a && sqI b && couldB s side a.toNat b.toNat
/-- What a side could take. -/
def takesG (s : ByteArray) (side : Int) : List (Nat × Nat) := if isB s && ((side == 0) || (side == 1)) then (legalN s side).filter fun m => bAt s m.2 != 46 else []
/-- What is guarded: the other side could go there behind it. -/
def againB (s : ByteArray) (side : Int) (b : Nat) : Bool := (List.range 90).any fun n => couldB s side n b
def guardB (s : ByteArray) (a b : Nat) : Bool := couldB s (sideN (bAt s a)) a b && againB (behindS s (a, b)) (1 - sideN (bAt s a)) b
def guardI (s : ByteArray) (a b : Int) : Bool := isB s && sqI a && sqI b && guardB s a.toNat b.toNat

theorem could_parts {s : ByteArray} {side : Int} {a b : Nat} : couldB s side a b = true ↔ sideN (bAt s a) = side ∧ canB s a b = true ∧ kindN (bAt s b) ≠ 75 ∧ safeB (behindS s (a, b)) side = true := by
  unfold couldB legalB
  simp only [Bool.and_eq_true, beq_iff_eq, bne_iff_ne, ne_eq]
  constructor
  · rintro ⟨⟨h1, h2⟩, h3, h4⟩
    exact ⟨h1, h2, h3, h4⟩
  · rintro ⟨h1, h2, h3, h4⟩
    exact ⟨⟨h1, h2⟩, h3, h4⟩
theorem could_legal {s : ByteArray} {side : Int} {a b : Nat} (ha : a < 90) (hb : b < 90) : couldB s side a b = true ↔ (a, b) ∈ legalN s side := by
  rw [could_parts, legal_mem]
  constructor
  · rintro ⟨h1, h2, h3, h4⟩
    exact ⟨ha, hb, h1, h2, h3, h4⟩
  · rintro ⟨_, _, h1, h2, h3, h4⟩
    exact ⟨h1, h2, h3, h4⟩
theorem could_sides {s : ByteArray} {side : Int} {a b : Nat} (h : couldB s side a b = true) : side = 0 ∨ side = 1 := by
  obtain ⟨h1, h2, _⟩ := could_parts.1 h
  unfold canB at h2
  simp only [Bool.and_eq_true, decide_eq_true_eq] at h2
  have := sideN_ge (bAt s a)
  omega
theorem sqI_iff {n : Int} : sqI n = true ↔ 0 ≤ n ∧ n < 90 := by
  unfold sqI
  rw [Bool.and_eq_true, decide_eq_true_eq, decide_eq_true_eq]
theorem couldI_parts {s : ByteArray} {side a b : Int} (h : couldI s side a b = true) : isB s = true ∧ (0 ≤ a ∧ a < 90) ∧ (0 ≤ b ∧ b < 90) ∧ couldB s side a.toNat b.toNat = true := by
  unfold couldI at h
  simp only [Bool.and_eq_true, sqI_iff] at h
  exact ⟨h.1.1.1, h.1.1.2, h.1.2, h.2⟩
theorem couldI_nat {s : ByteArray} (hs : isB s = true) {side : Int} {a b : Nat} (ha : a < 90) (hb : b < 90) : couldI s side (a : Int) (b : Int) = couldB s side a b := by
  unfold couldI
  rw [hs, sqI_true (by omega), sqI_true (by omega), Int.toNat_natCast, Int.toNat_natCast]
  rfl
theorem couldI_none {s : ByteArray} {side a b : Int} (h : ¬ (side = 0 ∨ side = 1)) : couldI s side a b = false := by
  cases e : couldI s side a b
  · rfl
  · exact absurd (could_sides (couldI_parts e).2.2.2) h
theorem could_one {s : ByteArray} {a b : Int} (h0 : couldI s 0 a b = true) : couldI s 1 a b = false := by
  cases e : couldI s 1 a b
  · rfl
  · have h1 := (could_parts.1 (couldI_parts h0).2.2.2).1
    have h2 := (could_parts.1 (couldI_parts e).2.2.2).1
    rw [h1] at h2
    cases h2
theorem guardI_could {s : ByteArray} {a b : Int} (h : guardI s a b = true) : couldI s (sideN (bAt s a.toNat)) a b = true := by
  unfold guardI guardB at h
  simp only [Bool.and_eq_true] at h
  unfold couldI
  simp only [Bool.and_eq_true]
  exact ⟨h.1, h.2.1⟩
theorem guardI_nat {s : ByteArray} (hs : isB s = true) {a b : Nat} (ha : a < 90) (hb : b < 90) : guardI s (a : Int) (b : Int) = guardB s a b := by
  unfold guardI
  rw [hs, sqI_true (by omega), sqI_true (by omega), Int.toNat_natCast, Int.toNat_natCast]
  rfl
theorem takes_mem {s : ByteArray} {side : Int} {a b : Nat} : (a, b) ∈ takesG s side ↔ isB s = true ∧ a < 90 ∧ b < 90 ∧ couldB s side a b = true ∧ bAt s b ≠ 46 := by
  unfold takesG
  by_cases h : (isB s && ((side == 0) || (side == 1))) = true
  · rw [if_pos h, List.mem_filter, legal_mem, bne_iff_ne]
    have hb : isB s = true := by
      rw [Bool.and_eq_true] at h
      exact h.1
    constructor
    · rintro ⟨⟨h1, h2, h3, h4, h5, h6⟩, h7⟩
      exact ⟨hb, h1, h2, could_parts.2 ⟨h3, h4, h5, h6⟩, h7⟩
    · rintro ⟨_, h1, h2, h3, h7⟩
      exact ⟨legal_mem.1 ((could_legal h1 h2).1 h3), h7⟩
  · rw [if_neg h]
    constructor
    · intro hm
      cases hm
    · rintro ⟨h1, _, _, h3, _⟩
      have := could_sides h3
      refine absurd ?_ h
      rw [h1, Bool.true_and, Bool.or_eq_true, beq_iff_eq, beq_iff_eq]
      exact this
theorem takes_len (s : ByteArray) (side : Int) : (takesG s side).length ≤ 8100 := by
  unfold takesG
  split
  · refine Nat.le_trans (List.length_filter_le _ _) ?_
    unfold legalN
    refine Nat.le_trans (List.length_filter_le _ _) ?_
    unfold movesN
    rw [List.length_flatMap]
    have h1 : ∀ a, (movesOf s side a).length ≤ 90 := fun a => by
      unfold movesOf
      split
      · rw [List.length_map]
        exact Nat.le_trans (List.length_filter_le _ _) (by simp)
      · simp
    have h2 : ∀ l : List Nat, (l.map fun a => (movesOf s side a).length).sum ≤ l.length * 90 := fun l => by
      induction l with
      | nil => simp
      | cons x r ih =>
        simp only [List.map_cons, List.sum_cons, List.length_cons]
        have := h1 x
        omega
    have := h2 (List.range 90)
    simpa using this
  · simp
/-- A move's own side is not on the square that it goes to. -/
theorem could_to {s : ByteArray} (hs : isB s = true) {side : Int} {a b : Nat} (hb : b < 90) (h : couldB s side a b = true) (h46 : bAt s b ≠ 46) : sideN (bAt s b) = 1 - side := by
  obtain ⟨h1, h2, _⟩ := could_parts.1 h
  have hsd := could_sides h
  unfold canB at h2
  simp only [Bool.and_eq_true, bne_iff_ne, ne_eq, decide_eq_true_eq] at h2
  have hf := isB_fill hs b hb
  rw [fill_side, Bool.or_eq_true, beq_iff_eq, decide_eq_true_eq] at hf
  have h3 := sideN_ge (bAt s b)
  have h4 := h2.1.2
  rw [h1] at h4
  rcases hf with hf | hf
  · exact absurd hf h46
  · omega
theorem fmap_filter {α β : Type} (p : β → Bool) (f : α → List β) (l : List α) : (l.flatMap f).filter p = l.flatMap fun a => (f a).filter p := by
  induction l with
  | nil => rfl
  | cons x r ih => rw [List.flatMap_cons, List.flatMap_cons, List.filter_append, ih]
theorem fmap_if {α β : Type} (q : α → Bool) (f : α → List β) (l : List α) (h : ∀ x ∈ l, q x = false → f x = []) : (l.filter q).flatMap f = l.flatMap f := by
  induction l with
  | nil => rfl
  | cons x r ih =>
    rw [List.filter_cons, List.flatMap_cons]
    have ih := ih fun y hy => h y (List.mem_cons_of_mem _ hy)
    cases e : q x
    · rw [if_neg (by simp), ih, h x (by simp) e]
      rfl
    · rw [if_pos rfl, List.flatMap_cons, ih]
theorem of_side15 {c : Nat} {side : Int} (h : 0 ≤ side) : ofSide c side = (sideN c == side) := by
  unfold ofSide
  by_cases e : sideN c = side
  · have h46 : (c != 46) = true := by
      rw [bne_iff_ne]
      rintro rfl
      rw [show sideN 46 = -1 by decide] at e
      omega
    rw [h46, Bool.true_and]
  · have : (sideN c == side) = false := by rw [beq_eq_false_iff_ne]; exact e
    rw [this, Bool.and_false]
/-- What is gone through: the side's own pieces, and from each one the goals. -/
def goG (s : ByteArray) (side : Int) (goals : List Nat) (a : Nat) : List (Nat × Nat) := (goals.filter fun b => couldB s side a b).map fun b => (a, b)
def ownN (s : ByteArray) (side : Int) : List Nat := (List.range 90).filter fun k => ofSide (bAt s k) side
theorem takes_gone {s : ByteArray} (hs : isB s = true) {side : Int} (h : side = 0 ∨ side = 1) : (ownN s side).flatMap (goG s side (ownN s (1 - side))) = takesG s side := by
  unfold takesG legalN movesN
  rw [hs, show (true && ((side == 0) || (side == 1))) = true by rcases h with rfl | rfl <;> rfl, if_pos rfl, List.filter_filter, fmap_filter]
  unfold ownN
  rw [fmap_if]
  · rw [List.flatMap_def, List.flatMap_def]
    congr 1
    refine List.map_congr_left fun a ha => ?_
    have ha := List.mem_range.1 ha
    unfold goG movesOf
    by_cases e : sideN (bAt s a) = side
    · rw [if_pos e]
      unfold reachN
      rw [List.filter_map, List.filter_filter, List.filter_filter]
      congr 1
      refine List.filter_congr fun b hb => ?_
      have hb := List.mem_range.1 hb
      show (couldB s side a b && ofSide (bAt s b) (1 - side)) = (((bAt s b != 46) && legalB s side (a, b)) && canB s a b)
      rw [Bool.eq_iff_iff]
      rw [of_side15 (by omega), Bool.and_eq_true, Bool.and_eq_true, Bool.and_eq_true, beq_iff_eq, bne_iff_ne]
      constructor
      · rintro ⟨h1, h2⟩
        have h3 := h1
        unfold couldB at h1
        simp only [Bool.and_eq_true] at h1
        refine ⟨⟨?_, h1.2⟩, h1.1.2⟩
        rintro e46
        rw [e46, show sideN 46 = -1 by decide] at h2
        omega
      · rintro ⟨⟨h1, h2⟩, h3⟩
        have h4 : couldB s side a b = true := by
          unfold couldB
          rw [h2, h3, e]
          simp
        exact ⟨h4, could_to hs hb h4 h1⟩
    · rw [if_neg e]
      have : ∀ b, couldB s side a b = false := fun b => by
        cases e2 : couldB s side a b
        · rfl
        · exact absurd (could_parts.1 e2).1 e
      simp [this]
  · intro a _ hq
    rw [of_side15 (by omega), beq_eq_false_iff_ne] at hq
    unfold goG
    have : ∀ b, couldB s side a b = false := fun b => by
      cases e2 : couldB s side a b
      · rfl
      · exact absurd (could_parts.1 e2).1 hq
    simp [this]
/-- Of one goal: whether somebody of the side could go there. -/
theorem gone_one {s : ByteArray} {side : Int} (h : 0 ≤ side) {b : Nat} : againB s side b = (ownN s side).any fun n => couldB s side n b := by
  unfold againB ownN
  rw [Bool.eq_iff_iff, List.any_eq_true, List.any_eq_true]
  constructor
  · rintro ⟨n, hn, hc⟩
    refine ⟨n, List.mem_filter.2 ⟨hn, ?_⟩, hc⟩
    rw [of_side15 h, beq_iff_eq]
    exact (could_parts.1 hc).1
  · rintro ⟨n, hn, hc⟩
    exact ⟨n, (List.mem_filter.1 hn).1, hc⟩
end Go.Proofs.YtbdgbihdhbjljaaGreatDoor

namespace Go.Proofs.YtbdgbihdhbjljaaGreatDoor

theorem cnt_zero {s : ByteArray} {c : Nat} (h : cntN s 90 c = 0) : leastN s c = none := by
  cases e : leastN s c with
  | none => rfl
  | some n =>
    obtain ⟨h1, h2⟩ := least_some e
    have hl : ((List.range 90).filter fun i => bAt s i == c).length = 0 := by
      rw [cnt_trues, trues, List.length_map] at h
      exact h
    rw [List.length_eq_zero_iff] at hl
    have := List.filter_eq_nil_iff.1 hl n (List.mem_range.2 h1)
    simp [h2] at this
theorem swap_king {side : Int} (h : side = 0 ∨ side = 1) : swapN (kingOf (1 - side)) = kingOf side := by rcases h with rfl | rfl <;> decide
/-- One general a side at most. -/
def Few1 (s : ByteArray) : Prop := cntN s 90 75 ≤ 1 ∧ cntN s 90 107 ≤ 1
theorem Few1.of {s : ByteArray} (h : Few1 s) {side : Int} (hs : side = 0 ∨ side = 1) : cntN s 90 (kingOf side) ≤ 1 := by
  rcases hs with rfl | rfl
  · exact h.1
  · exact h.2
theorem Few1.turn {s : ByteArray} (hs : isB s = true) (h : Few1 s) : Few1 (turnB s) := by
  refine ⟨?_, ?_⟩
  · rw [cnt_turn hs]
    exact h.2
  · rw [cnt_turn hs]
    exact h.1
theorem facing_turn1 {s : ByteArray} (hs : isB s = true) (h : Few1 s) : facingB (turnB s) = facingB s := by
  have t1 : cntN (turnB s) 90 75 = cntN s 90 107 := by
    rw [cnt_turn hs]
    rfl
  have t2 : cntN (turnB s) 90 107 = cntN s 90 75 := by
    rw [cnt_turn hs]
    rfl
  by_cases c1 : cntN s 90 75 = 1
  · by_cases c2 : cntN s 90 107 = 1
    · exact facing_turn hs c1 c2
    · have z : cntN s 90 107 = 0 := by
        have := h.2
        omega
      have e1 := cnt_zero z
      have e2 := cnt_zero (t1.trans z)
      have f1 : facingB s = false := by
        unfold facingB
        rw [e1]
        split
        · rename_i h1 h2
          cases h2
        · rfl
      have f2 : facingB (turnB s) = false := by
        unfold facingB
        rw [e2]
      rw [f1, f2]
  · have z : cntN s 90 75 = 0 := by
      have := h.1
      omega
    have e1 := cnt_zero z
    have e2 := cnt_zero (t2.trans z)
    have f1 : facingB s = false := by
      unfold facingB
      rw [e1]
    have f2 : facingB (turnB s) = false := by
      unfold facingB
      rw [e2]
      split
      · rename_i h1 h2
        cases h2
      · rfl
    rw [f1, f2]
theorem in_turn1 {s : ByteArray} (hs : isB s = true) {side : Int} (hsd : side = 0 ∨ side = 1) (h : cntN s 90 (kingOf side) ≤ 1) : inB (turnB s) (1 - side) = inB s side := by
  have hb := turn_is_board hs
  have g1 : ((side == 0) || (side == 1)) = true := by rcases hsd with rfl | rfl <;> rfl
  have g2 : (((1 - side) == 0) || ((1 - side) == 1)) = true := by rcases hsd with rfl | rfl <;> rfl
  have t1 : cntN (turnB s) 90 (kingOf (1 - side)) = cntN s 90 (kingOf side) := by
    rw [cnt_turn hs, swap_king hsd]
  unfold inB
  rw [hs, hb, g1, g2, Bool.true_and, if_pos rfl, if_pos rfl]
  by_cases c1 : cntN s 90 (kingOf side) = 1
  · obtain ⟨a, ha, e1⟩ := one_ex c1
    have l1 := least_one c1 ha e1
    have l2 : leastN (turnB s) (kingOf (1 - side)) = some (89 - a) := least_one (t1.trans c1) (by omega) (by
      rw [turn_bAt hs ha, e1, ← swap_king hsd, swap_swap])
    rw [l1, l2]
    show ((attN (turnB s) (89 - a) (1 - (1 - side))).length != 0) = ((attN s a (1 - side)).length != 0)
    rw [att_turn hs ha (side := 1 - side) (by omega), List.length_reverse, List.length_map]
  · have z : cntN s 90 (kingOf side) = 0 := by omega
    rw [cnt_zero z, cnt_zero (t1.trans z)]
theorem safe_turn1 {s : ByteArray} (hs : isB s = true) (h : Few1 s) {side : Int} (hsd : side = 0 ∨ side = 1) : safeB (turnB s) (1 - side) = safeB s side := by
  unfold safeB
  rw [facing_turn1 hs h, in_turn1 hs hsd (h.of hsd)]
theorem few_behind {s : ByteArray} (hs : isB s = true) (h : Few1 s) {a b : Nat} (ha : a < 90) (hb : b < 90) (hne : a ≠ b) : isB (behindS s (a, b)) = true ∧ Few1 (behindS s (a, b)) := by
  refine ⟨moved_board hs (bAt_lt s a) (isB_fill hs a ha), ?_, ?_⟩
  · have := cnt_moved (isB_size hs) ha hb hne (x := 75) (by decide)
    have := h.1
    show cntN (movedS s a b (bAt s a)) 90 75 ≤ 1
    omega
  · have := cnt_moved (isB_size hs) ha hb hne (x := 107) (by decide)
    have := h.2
    show cntN (movedS s a b (bAt s a)) 90 107 ≤ 1
    omega
theorem could_turn {s : ByteArray} (hs : isB s = true) (h : Few1 s) {side : Int} (hsd : side = 0 ∨ side = 1) {a b : Nat} (ha : a < 90) (hb : b < 90) : couldB (turnB s) (1 - side) (89 - a) (89 - b) = couldB s side a b := by
  unfold couldB legalB
  show ((sideN (bAt (turnB s) (89 - a)) == 1 - side) && canB (turnB s) (89 - a) (89 - b) && ((kindN (bAt (turnB s) (89 - b)) != 75) && safeB (behindS (turnB s) (89 - a, 89 - b)) (1 - side))) = ((sideN (bAt s a) == side) && canB s a b && ((kindN (bAt s b) != 75) && safeB (behindS s (a, b)) side))
  have e1 : (sideN (bAt (turnB s) (89 - a)) == 1 - side) = (sideN (bAt s a) == side) := by
    rw [Bool.eq_iff_iff, beq_iff_eq, beq_iff_eq]
    exact iff_of_eq (side_turn hs ha hsd)
  rw [e1, can_turn hs ha hb, turn_bAt hs hb, swap_kind, behind_turn hs ha hb]
  cases hc : canB s a b
  · simp
  · obtain ⟨f1, f2⟩ := few_behind hs h ha hb (can_self hc)
    rw [safe_turn1 f1 f2 hsd]
theorem takes_turn {s : ByteArray} (hs : isB s = true) (h : Few1 s) {side : Int} (hsd : side = 0 ∨ side = 1) : takesG (turnB s) (1 - side) = ((takesG s side).map turnM).reverse := by
  have g1 : ((side == 0) || (side == 1)) = true := by rcases hsd with rfl | rfl <;> rfl
  have g2 : (((1 - side) == 0) || ((1 - side) == 1)) = true := by rcases hsd with rfl | rfl <;> rfl
  unfold takesG legalN
  rw [hs, turn_is_board hs, g1, g2, Bool.true_and, if_pos rfl, if_pos rfl, moves_turn hs hsd, List.filter_filter, List.filter_filter, List.filter_reverse, List.filter_map]
  congr 2
  refine List.filter_congr fun m hm => ?_
  obtain ⟨a, b⟩ := m
  obtain ⟨ha, hb, hsa, hcan⟩ := moves_mem.1 hm
  show ((bAt (turnB s) (89 - b) != 46) && legalB (turnB s) (1 - side) (89 - a, 89 - b)) = ((bAt s b != 46) && legalB s side (a, b))
  have e := could_turn hs h hsd ha hb
  unfold couldB at e
  have e1 : (sideN (bAt (turnB s) (89 - a)) == 1 - side) = true := by
    rw [beq_iff_eq, side_turn hs ha hsd]
    exact hsa
  rw [e1, can_turn hs ha hb, hcan, hsa, beq_self_eq_true, Bool.true_and, Bool.true_and, Bool.true_and] at e
  rw [e, turn_bAt hs hb, swap_empty]
theorem any_back (q : Nat → Bool) : ((List.range 90).any fun n => q (89 - n)) = (List.range 90).any q := by
  rw [Bool.eq_iff_iff, List.any_eq_true, List.any_eq_true]
  constructor
  · rintro ⟨n, hn, h⟩
    exact ⟨89 - n, List.mem_range.2 (by omega), h⟩
  · rintro ⟨n, hn, h⟩
    have := List.mem_range.1 hn
    exact ⟨89 - n, List.mem_range.2 (by omega), by rw [show 89 - (89 - n) = n by omega]; exact h⟩
theorem again_turn {s : ByteArray} (hs : isB s = true) (h : Few1 s) {side : Int} (hsd : side = 0 ∨ side = 1) {b : Nat} (hb : b < 90) : againB (turnB s) (1 - side) (89 - b) = againB s side b := by
  unfold againB
  rw [← any_back]
  have : ∀ l : List Nat, (∀ n ∈ l, n < 90) → (l.any fun n => couldB (turnB s) (1 - side) (89 - n) (89 - b)) = l.any fun n => couldB s side n b := fun l hl => by
    induction l with
    | nil => rfl
    | cons x r ih =>
      rw [List.any_cons, List.any_cons, ih fun n hn => hl n (List.mem_cons_of_mem _ hn), could_turn hs h hsd (hl x (by simp)) hb]
  exact this _ fun n hn => List.mem_range.1 hn
theorem guard_turn {s : ByteArray} (hs : isB s = true) (h : Few1 s) {side : Int} {a b : Nat} (ha : a < 90) (hb : b < 90) (hc : couldB s side a b = true) : guardB (turnB s) (89 - a) (89 - b) = guardB s a b := by
  have hsd := could_sides hc
  have e1 := (could_parts.1 hc).1
  have hcan := (could_parts.1 hc).2.1
  have e2 : sideN (bAt (turnB s) (89 - a)) = 1 - side := by
    rw [side_turn hs ha hsd]
    exact e1
  unfold guardB
  rw [e1, e2, could_turn hs h hsd ha hb, behind_turn hs ha hb]
  obtain ⟨f1, f2⟩ := few_behind hs h ha hb (can_self hcan)
  rw [again_turn f1 f2 (side := 1 - side) (by omega) hb]
end Go.Proofs.YtbdgbihdhbjljaaGreatDoor

namespace Go.Proofs.YtbdgbihdhbjljaaGreatDoor

/-- One move ahead of another one. -/
def AheadM (x y : Nat × Nat) : Prop := x.1 < y.1 ∨ (x.1 = y.1 ∧ x.2 < y.2)
theorem moves_sorted (s : ByteArray) (side : Int) : (movesN s side).Pairwise AheadM := by
  unfold movesN
  rw [List.pairwise_flatMap]
  refine ⟨fun a _ => ?_, ?_⟩
  · unfold movesOf
    split
    · rw [List.pairwise_map]
      exact (List.Pairwise.filter _ List.pairwise_lt_range).imp fun h => .inr ⟨rfl, h⟩
    · exact List.Pairwise.nil
  · refine List.pairwise_lt_range.imp fun {a b} h => ?_
    intro x hx y hy
    have e1 : x.1 = a := by
      unfold movesOf at hx
      split at hx
      · obtain ⟨_, _, rfl⟩ := List.mem_map.1 hx
        rfl
      · cases hx
    have e2 : y.1 = b := by
      unfold movesOf at hy
      split at hy
      · obtain ⟨_, _, rfl⟩ := List.mem_map.1 hy
        rfl
      · cases hy
    left
    omega
theorem takes_sorted (s : ByteArray) (side : Int) : (takesG s side).Pairwise AheadM := by
  unfold takesG legalN
  split
  · exact List.Pairwise.filter _ (List.Pairwise.filter _ (moves_sorted s side))
  · exact List.Pairwise.nil
theorem takes_next {s : ByteArray} {side : Int} {k : Nat} (h : k + 1 < (takesG s side).length) : AheadM ((takesG s side)[k]) ((takesG s side)[k + 1]) :=
  List.pairwise_iff_getElem.1 (takes_sorted s side) k (k + 1) (by omega) h (by omega)
theorem well_parts {s : ByteArray} {side clock full : Int} (h : wellN s side clock full = 0) : isB s = true ∧ (side = 0 ∨ side = 1) ∧ legalV s side clock full = legalN s side := by
  refine ⟨parts_board (check_zero (well_zero h).1).1, (check_other (well_zero h).1).1, ?_⟩
  rw [legal_same, if_pos h]
theorem takes_caps {s : ByteArray} {side clock full : Int} (h : wellN s side clock full = 0) : takesG s side = legalC s side clock full := by
  obtain ⟨h1, h2, h3⟩ := well_parts h
  unfold takesG legalC
  rw [h1, h3, show (true && ((side == 0) || (side == 1))) = true by rcases h2 with rfl | rfl <;> rfl, if_pos rfl]
/-- Whether a list has a move. -/
def hasI (l : List (Nat × Nat)) (a b : Int) : Bool := l.any fun m => (m.1 : Int) == a && (m.2 : Int) == b
theorem could_has {s : ByteArray} {side clock full : Int} (h : wellN s side clock full = 0) (a b : Int) : couldI s side a b = hasI (legalV s side clock full) a b := by
  obtain ⟨h1, h2, h3⟩ := well_parts h
  rw [h3, Bool.eq_iff_iff]
  unfold hasI
  rw [List.any_eq_true]
  constructor
  · intro hc
    obtain ⟨_, ⟨a0, a1⟩, ⟨b0, b1⟩, hc⟩ := couldI_parts hc
    obtain ⟨x, rfl⟩ : ∃ x : Nat, a = x := ⟨a.toNat, by omega⟩
    obtain ⟨y, rfl⟩ : ∃ y : Nat, b = y := ⟨b.toNat, by omega⟩
    refine ⟨(x, y), (could_legal (by omega) (by omega)).1 hc, ?_⟩
    simp
  · rintro ⟨⟨x, y⟩, hm, he⟩
    simp only [Bool.and_eq_true, beq_iff_eq] at he
    obtain ⟨rfl, rfl⟩ := he
    obtain ⟨hx, hy, _⟩ := legal_mem.1 hm
    rw [couldI_nat h1 hx hy]
    exact (could_legal hx hy).2 hm
theorem could_each {s : ByteArray} {side clock full : Int} (h : wellN s side clock full = 0) {a b : Nat} (hm : (a, b) ∈ legalV s side clock full) : couldI s side (a : Int) (b : Int) = true := by
  rw [could_has h]
  unfold hasI
  rw [List.any_eq_true]
  exact ⟨(a, b), hm, by simp⟩
/-- What is taken is guarded just if a move that may be made then goes there. -/
theorem guard_again {s : ByteArray} {side clock full : Int} (h : wellN s side clock full = 0) {a b : Nat} (hm : (a, b) ∈ legalC s side clock full) (clock' full' : Int) (hq : wellN (behindS s (a, b)) (1 - side) clock' full' = 0) :
    guardI s (a : Int) (b : Int) = (legalV (behindS s (a, b)) (1 - side) clock' full').any fun k => k.2 == b := by
  obtain ⟨h1, h2, h3⟩ := well_parts h
  obtain ⟨g1, g2, g3⟩ := well_parts hq
  have hml : (a, b) ∈ legalN s side := by
    rw [← h3]
    exact (List.mem_filter.1 hm).1
  obtain ⟨ha, hb, _⟩ := legal_mem.1 hml
  have hc := (could_legal ha hb).2 hml
  rw [guardI_nat h1 ha hb, g3]
  unfold guardB
  rw [(could_parts.1 hc).1, hc, Bool.true_and, Bool.eq_iff_iff]
  unfold againB
  rw [List.any_eq_true, List.any_eq_true]
  constructor
  · rintro ⟨n, hn, hk⟩
    exact ⟨(n, b), (could_legal (List.mem_range.1 hn) hb).1 hk, by simp⟩
  · rintro ⟨⟨n, y⟩, hk, he⟩
    have he : y = b := by simpa using he
    subst he
    obtain ⟨hn, _⟩ := legal_mem.1 hk
    exact ⟨n, List.mem_range.2 hn, (could_legal hn hb).2 hk⟩
end Go.Proofs.YtbdgbihdhbjljaaGreatDoor

namespace Go.Proofs.YtbdgbihdhbjljaaGreatDoor
open Go.RowKit Go.Shelf
open M (S)

theorem gother_is (side k : Int) (w : World) (h0 : 0 ≤ side) (h1 : side ≤ 1) (hk : 1 - side = k) : Calls Tryz.prog 218 #[.int .i64 side] w (Says w (.int .i64 k)) := by
  unfold Says
  subst hk
  go_enter Tryz.func218, Tryz.ntmps218
  go_wp2
  go_ret
  exact ⟨by go_num, rfl⟩
theorem gother_some (side : Int) (w : World) : Calls Tryz.prog 218 #[.int .i64 side] w fun e w' => ∃ k, e = .returned (.int .i64 k) ∧ w = w' := by
  go_enter Tryz.func218, Tryz.ntmps218
  go_wp2
  go_ret
  exact ⟨_, rfl, rfl⟩
theorem gside_g (c : Nat) (k : Int) (w : World) (h : sideN c = k) : Calls Tryz.prog 175 #[.int .u8 (c : Int)] w (Gives w (.int .i64 k)) := (side_is c k w h).mono fun _ _ ⟨a, b⟩ => ⟨a, b ▸ Below.refl _ _⟩
theorem gkind_g (c k : Nat) (w : World) (h : kindN c = k) : Calls Tryz.prog 130 #[.int .u8 (c : Int)] w (Gives w (.int .u8 (k : Int))) := (kind_is c k w h).mono fun _ _ ⟨a, b⟩ => ⟨a, b ▸ Below.refl _ _⟩
theorem mv2_keep {w : World} {p0 p1 : Value} {g : Nat} {W W' : World} (hS : W.cell? ⟨g, 0, none⟩ = some p0 ∧ W.cell? ⟨g, 1, none⟩ = some p1 ∧ Below w.heap.size w W) (hb : Below W.heap.size W W') :
    W'.cell? ⟨g, 0, none⟩ = some p0 ∧ W'.cell? ⟨g, 1, none⟩ = some p1 ∧ Below w.heap.size w W' := by
  obtain ⟨h0, h1, h4⟩ := hS
  exact ⟨(hb.cell (p := ⟨g, 0, none⟩) (cell_lt h0)).trans h0, (hb.cell (p := ⟨g, 1, none⟩) (cell_lt h1)).trans h1, h4.trans (hb.mono h4.size)⟩
theorem behind_put {s : ByteArray} (hs : isB s = true) {a b : Nat} (ha : a < 90) (hb : b < 90) : putB (putB s (a : Int) 46) (b : Int) (bAt s a) = behindS s (a, b) := by
  have e1 : putB s (a : Int) 46 = putS s a 46 := by
    unfold putB
    rw [if_pos ⟨hs, sqI_true (by omega), by decide⟩, Int.toNat_natCast]
  rw [e1]
  unfold putB
  rw [if_pos ⟨put_is_board hs a 46 (by decide) (by decide), sqI_true (by omega), isB_fill hs a ha⟩, Int.toNat_natCast]
  rfl
set_option maxRecDepth 100000 in
set_option maxHeartbeats 4000000 in
theorem gmoved_is (s q : ByteArray) (a b : Nat) (w : World) (hs : isB s = true) (ha : a < 90) (hb : b < 90) (hq : behindS s (a, b) = q) : Calls Tryz.prog 253 #[.string s, .agg #[.int .i64 (a : Int), .int .i64 (b : Int)]] w (Gives w (.string q)) := by
  unfold Gives
  obtain ⟨W0, hW0⟩ : ∃ W0, w.alloc (.cells #[.int .i64 (a : Int), .int .i64 (b : Int)] 48) = W0 := ⟨_, rfl⟩
  have hB : Below w.heap.size w W0 := by rw [← hW0]; exact (by repeat (first | exact Below.refl _ _ | (refine Below.setCell ?_ (by first | omega | (simp; done) | (simp; omega) | (simp at *; omega)) _) | (refine Below.alloc ?_ (by first | omega | (simp; done) | (simp; omega) | (simp at *; omega)) _) | refine Below.drew ?_ | (refine below_drewN ?_ _) | (refine Below.trans ?_ (Below.mono (by assumption) (by first | omega | (simp; done) | (simp; omega) | (simp at *; omega))))))
  have bM : Blk W0 w.heap.size 48 #[.int .i64 (a : Int), .int .i64 (b : Int)] := by rw [← hW0]; exact Blk.new _ _ _ rfl
  have hS : W0.drew.cell? ⟨w.heap.size, 0, none⟩ = some (.int .i64 (a : Int)) ∧ W0.drew.cell? ⟨w.heap.size, 1, none⟩ = some (.int .i64 (b : Int)) ∧ Below w.heap.size w W0.drew := ⟨bM.cell 0, bM.cell 1, hB.drew⟩
  obtain ⟨c, hc⟩ : ∃ c, bAt s a = c := ⟨_, rfl⟩
  have hz := isB_size hs
  have has : a < s.size := by omega
  have hbk : s[a].toNat = c := (bAt_eq s a has).trans hc
  have hc8 : c < 256 := by rw [← hc]; exact bAt_lt s a
  obtain ⟨t, ht⟩ : ∃ t, putB s (a : Int) 46 = t := ⟨_, rfl⟩
  have hq2 : putB t (b : Int) c = q := by rw [← ht, ← hc, ← hq]; exact behind_put hs ha hb
  have HW := Lib.hid hW0
  have H1 := Lib.hid ht
  have H2 := Lib.hid hq2
  clear hW0 hB bM hs hc hz ht hq2 hq ha hb
  go_enter Tryz.func253, Tryz.ntmps253
  go_wp2_with fail
  rw [HW.out]
  go_region_held3 (fun W => W.cell? ⟨w.heap.size, 0, none⟩ = some (.int .i64 (a : Int)) ∧ W.cell? ⟨w.heap.size, 1, none⟩ = some (.int .i64 (b : Int)) ∧ Below w.heap.size w W)
    (first | exact hS | exact mv2_keep (by assumption) hb)
    (first | (go_at_call 171; refine (put_as _ _ _ _ _ (by first | decide | assumption) (by first | with_reducible exact H1.out | with_reducible exact H2.out)).mono ?_; rintro e w1 ⟨rfl, hb⟩))
  all_goals
    go_wp2
    go_ret
    exact ⟨rfl, (by assumption : _ ∧ _ ∧ Below w.heap.size w _).2.2⟩
set_option maxRecDepth 100000 in
set_option maxHeartbeats 4000000 in
theorem gcan_far (s : ByteArray) (side a b : Int) (w : World) (h : canI s a b = false) : Calls Tryz.prog 243 #[.string s, .int .i64 side, .agg #[.int .i64 a, .int .i64 b]] w (Gives w (.bool false)) := by
  unfold Gives
  obtain ⟨W0, hW0⟩ : ∃ W0, w.alloc (.cells #[.int .i64 a, .int .i64 b] 48) = W0 := ⟨_, rfl⟩
  have hB : Below w.heap.size w W0 := by rw [← hW0]; exact (by repeat (first | exact Below.refl _ _ | (refine Below.setCell ?_ (by first | omega | (simp; done) | (simp; omega) | (simp at *; omega)) _) | (refine Below.alloc ?_ (by first | omega | (simp; done) | (simp; omega) | (simp at *; omega)) _) | refine Below.drew ?_ | (refine below_drewN ?_ _) | (refine Below.trans ?_ (Below.mono (by assumption) (by first | omega | (simp; done) | (simp; omega) | (simp at *; omega))))))
  have bM : Blk W0 w.heap.size 48 #[.int .i64 a, .int .i64 b] := by rw [← hW0]; exact Blk.new _ _ _ rfl
  have hS : W0.cell? ⟨w.heap.size, 0, none⟩ = some (.int .i64 a) ∧ W0.cell? ⟨w.heap.size, 1, none⟩ = some (.int .i64 b) ∧ Below w.heap.size w W0 := ⟨bM.cell 0, bM.cell 1, hB⟩
  have HW := Lib.hid hW0
  have HC := Lib.hid h
  clear hW0 hB bM h
  go_enter Tryz.func243, Tryz.ntmps243
  go_wp2_with fail
  rw [HW.out]
  obtain ⟨m0, m1, hB⟩ := hS
  refine (can_is5 s a b _ _ HC.out).mono ?_
  rintro e w2 ⟨rfl, hb⟩
  obtain ⟨m0, m1, hB⟩ := mv2_keep ⟨m0, m1, hB⟩ hb
  clear hb
  go_wp2
  go_ret
  exact ⟨rfl, hB⟩
set_option maxRecDepth 100000 in
set_option maxHeartbeats 4000000 in
theorem gcan_side (s : ByteArray) (side y : Int) (a b c : Nat) (w : World) (h : canI s (a : Int) (b : Int) = true) (has : a < s.size) (hbk : s[a].toNat = c) (hy : sideN c = y) (hne : y ≠ side) : Calls Tryz.prog 243 #[.string s, .int .i64 side, .agg #[.int .i64 (a : Int), .int .i64 (b : Int)]] w (Gives w (.bool false)) := by
  unfold Gives
  obtain ⟨W0, hW0⟩ : ∃ W0, w.alloc (.cells #[.int .i64 (a : Int), .int .i64 (b : Int)] 48) = W0 := ⟨_, rfl⟩
  have hB : Below w.heap.size w W0 := by rw [← hW0]; exact (by repeat (first | exact Below.refl _ _ | (refine Below.setCell ?_ (by first | omega | (simp; done) | (simp; omega) | (simp at *; omega)) _) | (refine Below.alloc ?_ (by first | omega | (simp; done) | (simp; omega) | (simp at *; omega)) _) | refine Below.drew ?_ | (refine below_drewN ?_ _) | (refine Below.trans ?_ (Below.mono (by assumption) (by first | omega | (simp; done) | (simp; omega) | (simp at *; omega))))))
  have bM : Blk W0 w.heap.size 48 #[.int .i64 (a : Int), .int .i64 (b : Int)] := by rw [← hW0]; exact Blk.new _ _ _ rfl
  have hS : W0.cell? ⟨w.heap.size, 0, none⟩ = some (.int .i64 (a : Int)) ∧ W0.cell? ⟨w.heap.size, 1, none⟩ = some (.int .i64 (b : Int)) ∧ Below w.heap.size w W0 := ⟨bM.cell 0, bM.cell 1, hB⟩
  have n1 : (y != side) = true := by rw [bne_iff_ne]; exact hne
  have HW := Lib.hid hW0
  have HC := Lib.hid h
  have HY := Lib.hid hy
  clear hW0 hB bM h hy hne
  go_enter Tryz.func243, Tryz.ntmps243
  go_wp2_with fail
  rw [HW.out]
  obtain ⟨m0, m1, hB⟩ := hS
  refine (can_is5 s a b _ _ HC.out).mono ?_
  rintro e w2 ⟨rfl, hb⟩
  obtain ⟨m0, m1, hB⟩ := mv2_keep ⟨m0, m1, hB⟩ hb
  clear hb
  go_wp2_with fail
  refine (gside_g c y _ HY.out).mono ?_
  rintro e w3 ⟨rfl, hb⟩
  replace m0 := (hb.cell (p := ⟨w.heap.size, 0, none⟩) (cell_lt m0)).trans m0
  replace m1 := (hb.cell (p := ⟨w.heap.size, 1, none⟩) (cell_lt m1)).trans m1
  replace hB := hB.trans (hb.mono hB.size)
  clear hb
  go_wp2
  go_ret
  exact ⟨rfl, hB⟩
set_option maxRecDepth 100000 in
set_option maxHeartbeats 8000000 in
theorem gcan_king (s : ByteArray) (side : Int) (a b c d k : Nat) (w : World) (h : canI s (a : Int) (b : Int) = true) (has : a < s.size) (hbs : b < s.size) (hbk : s[a].toNat = c) (hbd : s[b].toNat = d) (hy : sideN c = side) (hkd : kindN d = k) (hk75 : k = 75) : Calls Tryz.prog 243 #[.string s, .int .i64 side, .agg #[.int .i64 (a : Int), .int .i64 (b : Int)]] w (Gives w (.bool false)) := by
  unfold Gives
  obtain ⟨W0, hW0⟩ : ∃ W0, w.alloc (.cells #[.int .i64 (a : Int), .int .i64 (b : Int)] 48) = W0 := ⟨_, rfl⟩
  have hB : Below w.heap.size w W0 := by rw [← hW0]; exact (by repeat (first | exact Below.refl _ _ | (refine Below.setCell ?_ (by first | omega | (simp; done) | (simp; omega) | (simp at *; omega)) _) | (refine Below.alloc ?_ (by first | omega | (simp; done) | (simp; omega) | (simp at *; omega)) _) | refine Below.drew ?_ | (refine below_drewN ?_ _) | (refine Below.trans ?_ (Below.mono (by assumption) (by first | omega | (simp; done) | (simp; omega) | (simp at *; omega))))))
  have bM : Blk W0 w.heap.size 48 #[.int .i64 (a : Int), .int .i64 (b : Int)] := by rw [← hW0]; exact Blk.new _ _ _ rfl
  have hS : W0.cell? ⟨w.heap.size, 0, none⟩ = some (.int .i64 (a : Int)) ∧ W0.cell? ⟨w.heap.size, 1, none⟩ = some (.int .i64 (b : Int)) ∧ Below w.heap.size w W0 := ⟨bM.cell 0, bM.cell 1, hB⟩
  have n1 : (side != side) = false := by simp
  have n2 : ((k : Int) == 75) = true := by rw [beq_iff_eq]; omega
  have HW := Lib.hid hW0
  have HC := Lib.hid h
  have HY := Lib.hid hy
  have HK := Lib.hid hkd
  clear hW0 hB bM h hy hkd hk75
  go_enter Tryz.func243, Tryz.ntmps243
  go_wp2_with fail
  rw [HW.out]
  obtain ⟨m0, m1, hB⟩ := hS
  refine (can_is5 s a b _ _ HC.out).mono ?_
  rintro e w2 ⟨rfl, hb⟩
  obtain ⟨m0, m1, hB⟩ := mv2_keep ⟨m0, m1, hB⟩ hb
  clear hb
  go_wp2_with fail
  refine (gside_g c side _ HY.out).mono ?_
  rintro e w3 ⟨rfl, hb⟩
  replace m0 := (hb.cell (p := ⟨w.heap.size, 0, none⟩) (cell_lt m0)).trans m0
  replace m1 := (hb.cell (p := ⟨w.heap.size, 1, none⟩) (cell_lt m1)).trans m1
  replace hB := hB.trans (hb.mono hB.size)
  clear hb
  go_wp2_with fail
  refine (gkind_g d k _ HK.out).mono ?_
  rintro e w4 ⟨rfl, hb⟩
  replace m0 := (hb.cell (p := ⟨w.heap.size, 0, none⟩) (cell_lt m0)).trans m0
  replace m1 := (hb.cell (p := ⟨w.heap.size, 1, none⟩) (cell_lt m1)).trans m1
  replace hB := hB.trans (hb.mono hB.size)
  clear hb
  go_wp2
  go_ret
  exact ⟨rfl, hB⟩
set_option maxRecDepth 100000 in
set_option maxHeartbeats 8000000 in
theorem gcan_goes (s q : ByteArray) (side : Int) (a b c d k : Nat) (f i : Bool) (w : World) (hT : Tab w) (h : canI s (a : Int) (b : Int) = true) (hs : isB s = true) (ha : a < 90) (hb9 : b < 90) (has : a < s.size) (hbs : b < s.size) (hbk : s[a].toNat = c) (hbd : s[b].toNat = d) (hy : sideN c = side) (hkd : kindN d = k) (hk75 : k ≠ 75) (hq : behindS s (a, b) = q) (hf : facingB q = f) (hi : inB q side = i) : Calls Tryz.prog 243 #[.string s, .int .i64 side, .agg #[.int .i64 (a : Int), .int .i64 (b : Int)]] w (Gives w (.bool (!f && !i))) := by
  unfold Gives
  obtain ⟨W0, hW0⟩ : ∃ W0, w.alloc (.cells #[.int .i64 (a : Int), .int .i64 (b : Int)] 48) = W0 := ⟨_, rfl⟩
  have hB : Below w.heap.size w W0 := by rw [← hW0]; exact (by repeat (first | exact Below.refl _ _ | (refine Below.setCell ?_ (by first | omega | (simp; done) | (simp; omega) | (simp at *; omega)) _) | (refine Below.alloc ?_ (by first | omega | (simp; done) | (simp; omega) | (simp at *; omega)) _) | refine Below.drew ?_ | (refine below_drewN ?_ _) | (refine Below.trans ?_ (Below.mono (by assumption) (by first | omega | (simp; done) | (simp; omega) | (simp at *; omega))))))
  have bM : Blk W0 w.heap.size 48 #[.int .i64 (a : Int), .int .i64 (b : Int)] := by rw [← hW0]; exact Blk.new _ _ _ rfl
  have hS : W0.cell? ⟨w.heap.size, 0, none⟩ = some (.int .i64 (a : Int)) ∧ W0.cell? ⟨w.heap.size, 1, none⟩ = some (.int .i64 (b : Int)) ∧ Below w.heap.size w W0 := ⟨bM.cell 0, bM.cell 1, hB⟩
  have n1 : (side != side) = false := by simp
  have n2 : ((k : Int) == 75) = false := by rw [beq_eq_false_iff_ne]; omega
  have HW := Lib.hid hW0
  have HC := Lib.hid h
  have HY := Lib.hid hy
  have HK := Lib.hid hkd
  have HQ := Lib.hid (fun W => gmoved_is s q a b W hs ha hb9 hq)
  have HF := Lib.hid hf
  have HI := Lib.hid hi
  clear hW0 hB bM h hy hkd hk75 hs hq hf hi
  go_enter Tryz.func243, Tryz.ntmps243
  go_wp2_with fail
  rw [HW.out]
  obtain ⟨m0, m1, hB⟩ := hS
  refine (can_is5 s a b _ _ HC.out).mono ?_
  rintro e w2 ⟨rfl, hb⟩
  obtain ⟨m0, m1, hB⟩ := mv2_keep ⟨m0, m1, hB⟩ hb
  clear hb
  go_wp2_with fail
  refine (gside_g c side _ HY.out).mono ?_
  rintro e w3 ⟨rfl, hb⟩
  replace m0 := (hb.cell (p := ⟨w.heap.size, 0, none⟩) (cell_lt m0)).trans m0
  replace m1 := (hb.cell (p := ⟨w.heap.size, 1, none⟩) (cell_lt m1)).trans m1
  replace hB := hB.trans (hb.mono hB.size)
  clear hb
  go_wp2_with fail
  refine (gkind_g d k _ HK.out).mono ?_
  rintro e w4 ⟨rfl, hb⟩
  replace m0 := (hb.cell (p := ⟨w.heap.size, 0, none⟩) (cell_lt m0)).trans m0
  replace m1 := (hb.cell (p := ⟨w.heap.size, 1, none⟩) (cell_lt m1)).trans m1
  replace hB := hB.trans (hb.mono hB.size)
  clear hb
  go_wp2_with fail
  refine (HQ.out _).mono ?_
  rintro e w5 ⟨rfl, hb⟩
  replace hB := hB.trans (hb.mono hB.size)
  clear hb m0 m1
  cases f
  · go_wp2_with fail
    refine (facing_is q false _ HF.out).mono ?_
    rintro e w6 ⟨rfl, rfl⟩
    go_wp2_with fail
    refine (in_is q side i _ (hT.below hB hT.lt) HI.out).mono ?_
    rintro e w7 ⟨rfl, hb⟩
    go_wp2
    go_ret
    exact ⟨rfl, hB.trans (hb.mono hB.size)⟩
  · go_wp2_with fail
    refine (facing_is q true _ HF.out).mono ?_
    rintro e w6 ⟨rfl, rfl⟩
    go_wp2
    go_ret
    exact ⟨rfl, hB⟩
theorem gcan_any (s : ByteArray) (side a b : Int) (w : World) (hT : Tab w) : Calls Tryz.prog 243 #[.string s, .int .i64 side, .agg #[.int .i64 a, .int .i64 b]] w (Gives w (.bool (couldI s side a b))) := by
  cases hc : canI s a b
  · have : couldI s side a b = false := by
      cases e : couldI s side a b
      · rfl
      · obtain ⟨h1, h2, h3, h4⟩ := couldI_parts e
        have : canI s a b = true := by
          unfold canI
          rw [h1, sqI_true h2, sqI_true h3, (could_parts.1 h4).2.1]
          rfl
        rw [hc] at this
        cases this
    rw [this]
    exact gcan_far s side a b w hc
  · obtain ⟨hi, ha, hb, hcan⟩ : isB s = true ∧ sqI a = true ∧ sqI b = true ∧ canB s a.toNat b.toNat = true := by
      unfold canI at hc
      simp only [Bool.and_eq_true] at hc
      exact ⟨hc.1.1.1, hc.1.1.2, hc.1.2, hc.2⟩
    obtain ⟨a0, a1⟩ := sqI_iff.1 ha
    obtain ⟨b0, b1⟩ := sqI_iff.1 hb
    obtain ⟨x, rfl⟩ : ∃ x : Nat, a = x := ⟨a.toNat, by omega⟩
    obtain ⟨y, rfl⟩ : ∃ y : Nat, b = y := ⟨b.toNat, by omega⟩
    have hz := isB_size hi
    have hx : x < 90 := by omega
    have hy : y < 90 := by omega
    rw [couldI_nat hi hx hy]
    simp only [Int.toNat_natCast] at hcan
    have hxb := bAt_eq s x (by omega)
    have hyb := bAt_eq s y (by omega)
    by_cases hsd : sideN (bAt s x) = side
    · by_cases hk : kindN (bAt s y) = 75
      · have : couldB s side x y = false := by
          cases e : couldB s side x y
          · rfl
          · exact absurd hk (could_parts.1 e).2.2.1
        rw [this]
        exact gcan_king s side x y _ _ _ w hc (by omega) (by omega) hxb hyb hsd rfl hk
      · have : couldB s side x y = (!facingB (behindS s (x, y)) && !inB (behindS s (x, y)) side) := by
          unfold couldB legalB
          rw [hsd, hcan, beq_self_eq_true, Bool.true_and, Bool.true_and]
          show ((kindN (bAt s y) != 75) && _) = _
          rw [show (kindN (bAt s y) != 75) = true by rw [bne_iff_ne]; exact hk, Bool.true_and]
          rfl
        rw [this]
        exact gcan_goes s _ side x y _ _ _ _ _ w hT hc hi hx hy (by omega) (by omega) hxb hyb hsd rfl hk rfl rfl rfl
    · have : couldB s side x y = false := by
        cases e : couldB s side x y
        · rfl
        · exact absurd (could_parts.1 e).1 hsd
      rw [this]
      exact gcan_side s side _ x y _ w hc (by omega) hxb rfl hsd
theorem gcan_is (s : ByteArray) (side a b : Int) (v : Bool) (w : World) (hT : Tab w) (h : couldI s side a b = v) : Calls Tryz.prog 243 #[.string s, .int .i64 side, .agg #[.int .i64 a, .int .i64 b]] w (Gives w (.bool v)) := by subst h; exact gcan_any s side a b w hT
end Go.Proofs.YtbdgbihdhbjljaaGreatDoor

namespace Go.Proofs.YtbdgbihdhbjljaaGreatDoor
open Go.RowKit Go.Shelf

/-- All that lay below B but block T, and rows of numbers made since, lie as they lay. -/
structure KeptT (T B : Nat) (W W' : World) : Prop where
  os : W'.os = W.os
  tape : W'.tape = W.tape
  output : W'.output = W.output
  size : W.heap.size ≤ W'.heap.size
  low : ∀ k, k < B → k ≠ T → W'.heap[k]? = W.heap[k]?
  rows : ∀ k c f, B ≤ k → W.heap[k]? = some (.cells c 3 f) → W'.heap[k]? = some (.cells c 3 f)
theorem KeptT.refl (T B : Nat) (W : World) : KeptT T B W W := ⟨rfl, rfl, rfl, Nat.le_refl _, fun _ _ _ => rfl, fun _ _ _ _ h => h⟩
theorem KeptT.trans {T B : Nat} {a b c : World} (h : KeptT T B a b) (k : KeptT T B b c) : KeptT T B a c :=
  ⟨k.os.trans h.os, k.tape.trans h.tape, k.output.trans h.output, Nat.le_trans h.size k.size, fun j h1 h2 => (k.low j h1 h2).trans (h.low j h1 h2), fun j c f h1 h2 => k.rows j c f h1 (h.rows j c f h1 h2)⟩
theorem KeptT.next {T B : Nat} {W W' : World} (hB : B ≤ W.heap.size) (h : Below W.heap.size W W') : KeptT T B W W' :=
  ⟨h.os, h.tape, h.output, h.size, fun k hk _ => h.block k (by omega), fun k c f _ e => (h.block k (Array.getElem?_eq_some_iff.1 e).1).trans e⟩
theorem KeptT.grown {T B : Nat} {W W' : World} {r : Option Nat} (hB : B ≤ W.heap.size) (h : W.grownBy W' r) (hr : ∀ k, some k = r → B ≤ k) (hi : ∀ k c f, some k = r → W.heap[k]? ≠ some (.cells c 3 f)) : KeptT T B W W' := by
  have f := Below.grown (B := W.heap.size) (Below.refl _ W) h (Nat.le_refl _)
  refine ⟨?_, ?_, ?_, h.size, fun k hk _ => h.block k (by omega) fun e => ?_, fun k c f hk e => (h.block k (Array.getElem?_eq_some_iff.1 e).1 fun e' => hi k c f e' e).trans e⟩
  · exact h.os
  · exact h.tape
  · exact h.output
  · have := hr k e
    omega
theorem KeptT.put {T B : Nat} (W : World) (l : Nat) (o o' : Obj) (hl : B ≤ l) (h : W.heap[l]? = some o) (ho : o.isCells = false) (_ : o.isWalk = false) : KeptT T B W (W.putObj l o') :=
  KeptT.grown (Nat.le_of_lt (Nat.lt_of_le_of_lt hl (Array.getElem?_eq_some_iff.1 h).1)) (grownBy_putObj' W l o') (fun k e => by cases e; exact hl) fun k c f e e2 => by
    cases e
    rw [h] at e2
    cases e2
    cases ho
theorem KeptT.set {T B : Nat} {W : World} (hT : T < B) (u : Value) (i : Nat) : KeptT T B W (W.setCell ⟨T, i, none⟩ u) := by
  have hb := Below.heap_setCell W ⟨T, i, none⟩ u
  have b := (Below.refl T W).setCell (p := ⟨T, i, none⟩) (Nat.le_refl _) u
  refine ⟨b.os, b.tape, b.output, b.size, fun k _ hk => hb k hk, fun k c f hk e => (hb k ?_).trans e⟩
  show k ≠ T
  omega
theorem KeptT.below {T B n : Nat} {W W' : World} (h : KeptT T B W W') (hn : n ≤ B) (hT : n ≤ T) : Below n W W' :=
  ⟨h.os, h.tape, h.output, h.size, fun k hk => h.low k (by omega) (by omega)⟩
end Go.Proofs.YtbdgbihdhbjljaaGreatDoor

namespace Go.Proofs.YtbdgbihdhbjljaaGreatDoor
open Go.RowKit Go.Shelf
open M (S)

/-- A side's own squares, if it is a board. -/
def ownL (s : ByteArray) (side : Int) : List Nat := if isB s then ownN s side else []
theorem piecesL_own (s : ByteArray) (side : Int) : piecesL s side = (ownL s side).map fun k : Nat => (k : Int) := by
  unfold piecesL ownL
  split
  · rfl
  · rfl
theorem ownL_at {s : ByteArray} {side : Int} {k : Nat} (h : k < (ownL s side).length) : isB s = true ∧ (ownL s side)[k] < 90 := by
  have hm := List.getElem_mem h
  obtain ⟨x, hx⟩ : ∃ x, (ownL s side)[k] = x := ⟨_, rfl⟩
  rw [hx] at hm ⊢
  unfold ownL at hm
  split at hm
  · rename_i hb
    exact ⟨hb, List.mem_range.1 (List.mem_filter.1 hm).1⟩
  · cases hm
theorem ownL_len (s : ByteArray) (side : Int) : (ownL s side).length ≤ 90 := by
  unfold ownL
  split
  · exact Nat.le_trans (List.length_filter_le _ _) (by simp)
  · simp
/-- All that is yielded; what was yielded ahead of a square's goal. -/
def goL (s : ByteArray) (side : Int) (gs : List Nat) : List (Nat × Nat) := (ownL s side).flatMap (goG s side gs)
def goK (s : ByteArray) (side : Int) (gs : List Nat) (k : Nat) : List (Nat × Nat) := ((ownL s side).take k).flatMap (goG s side gs)
def goJ (s : ByteArray) (side : Int) (gs : List Nat) (k a j : Nat) : List (Nat × Nat) := goK s side gs k ++ goG s side (gs.take j) a
theorem goK_zero (s : ByteArray) (side : Int) (gs : List Nat) : goK s side gs 0 = [] := rfl
theorem goK_all (s : ByteArray) (side : Int) (gs : List Nat) : goK s side gs (ownL s side).length = goL s side gs := by
  unfold goK goL
  rw [List.take_length]
theorem goJ_zero (s : ByteArray) (side : Int) (gs : List Nat) (k a : Nat) : goJ s side gs k a 0 = goK s side gs k := by
  unfold goJ goG
  simp
theorem goJ_all {s : ByteArray} {side : Int} {gs : List Nat} {k : Nat} (h : k < (ownL s side).length) : goJ s side gs k (ownL s side)[k] gs.length = goK s side gs (k + 1) := by
  unfold goJ goK
  rw [List.take_length, List.take_succ_eq_append_getElem h, List.flatMap_append]
  simp
theorem goJ_no {s : ByteArray} {side : Int} {gs : List Nat} {k a j : Nat} (h : j < gs.length) (hc : couldB s side a gs[j] = false) : goJ s side gs k a (j + 1) = goJ s side gs k a j := by
  unfold goJ goG
  rw [List.take_succ_eq_append_getElem h, List.filter_append]
  simp [hc]
theorem goJ_yes {s : ByteArray} {side : Int} {gs : List Nat} {k a j : Nat} (h : j < gs.length) (hc : couldB s side a gs[j] = true) : goJ s side gs k a (j + 1) = goJ s side gs k a j ++ [(a, gs[j])] := by
  unfold goJ goG
  rw [List.take_succ_eq_append_getElem h, List.filter_append]
  simp [hc]
theorem goJ_pre {s : ByteArray} {side : Int} {gs : List Nat} {k j : Nat} (h : k < (ownL s side).length) : goJ s side gs k (ownL s side)[k] j <+: goL s side gs := by
  have h1 : goJ s side gs k (ownL s side)[k] j <+: goK s side gs (k + 1) := by
    rw [← goJ_all h, goJ, goJ, List.take_length]
    refine (List.prefix_append_right_inj _).2 ?_
    unfold goG
    obtain ⟨r, hr⟩ := List.take_prefix j gs
    refine ⟨(r.filter fun b => couldB s side (ownL s side)[k] b).map fun b => ((ownL s side)[k], b), ?_⟩
    rw [← List.map_append, ← List.filter_append, hr]
  refine h1.trans ?_
  unfold goK goL
  obtain ⟨r, hr⟩ := List.take_prefix (k + 1) (ownL s side)
  refine ⟨r.flatMap (goG s side gs), ?_⟩
  rw [← List.flatMap_append, hr]
abbrev mvv (x : Nat × Nat) : Value := .agg #[.int .i64 (x.1 : Int), .int .i64 (x.2 : Int)]
abbrev enc1 (x : Nat × Nat) : Array Value := #[mvv x]
theorem gmoves_is (s : ByteArray) (side : Int) (A : Option Addr) (n c : Nat) (w : World) : Calls Tryz.prog 217 #[.string s, .int .i64 side, .slice A n c] w fun e w' => e = .returned (.func (.func 242) #[] #[.pointer (some ⟨w.heap.size, 0, none⟩), .pointer (some ⟨w.heap.size + 1, 0, none⟩), .pointer (some ⟨w.heap.size + 1 + 1, 0, none⟩)]) ∧ ((w.alloc (.cells #[.string s] 9)).alloc (.cells #[.int .i64 side] 3)).alloc (.cells #[.slice A n c] 106) = w' := by
  go_enter Tryz.func217, Tryz.ntmps217
  go_wp2
  go_ret
  exact ⟨rfl, rfl⟩
theorem below_new (w : World) (o : Obj) : Below w.heap.size w (w.alloc o) := (Below.refl _ _).alloc (Nat.le_refl _) _
theorem row_same {w w1 : World} {base : Nat} {e : TypeId} {size : Nat} {v : Value} {n : Nat} {xs : List Value} (h : w.ownsRow base e size v n xs) (hb : ∀ k, k < w.heap.size → v.ownBlock = some k → w1.heap[k]? = w.heap[k]?) : w1.ownsRow base e size v n xs := by
  refine ⟨h.1, ?_⟩
  rcases h.2 with h0 | ⟨g, cap, cur, rfl, hg, hc, r⟩
  · exact .inl h0
  · exact .inr ⟨g, cap, cur, rfl, hg, (hb g (Array.getElem?_eq_some_iff.1 hc).1 rfl).trans hc, r⟩
/-- What lies where the iterator runs. -/
structure MovesAt (W : World) (H T B : Nat) (s : ByteArray) (side : Int) (A : Option Addr) (gs : List Nat) (c : Nat) : Prop where
  bc : Blk W H 9 #[.string s]
  bs : Blk W (H + 1) 3 #[.int .i64 side]
  bg : Blk W (H + 1 + 1) 106 #[.slice A gs.length c]
  rd : Rd W A ((gs.map fun k : Nat => (k : Int)).map iv)
  at_ : ∀ ad, A = some ad → ad.block < B ∧ ad.block ≠ T
  tab : Tab W
  hT : T < H
  hB : H + 1 + 1 < B
  tT : 1 < T
theorem MovesAt.kept {W W' : World} {H T B : Nat} {s : ByteArray} {side : Int} {A : Option Addr} {gs : List Nat} {c : Nat} (h : MovesAt W H T B s side A gs c) (k : KeptT T B W W') : MovesAt W' H T B s side A gs c := by
  have h1 := h.hT
  have h2 := h.hB
  refine ⟨(k.low H (by omega) (by omega)).trans h.bc, (k.low (H + 1) (by omega) (by omega)).trans h.bs, (k.low (H + 1 + 1) (by omega) (by omega)).trans h.bg, fun j u hu => ?_, h.at_, h.tab.below (k.below (n := T) (by omega) (Nat.le_refl _)) h.tT, h.hT, h.hB, h.tT⟩
  obtain ⟨ad, e, hc⟩ := h.rd j u hu
  obtain ⟨a1, a2⟩ := h.at_ ad e
  refine ⟨ad, e, ?_⟩
  have e2 := k.low ad.block a1 a2
  have hb : (ad.add j).block = ad.block := by
    unfold Addr.add
    split <;> rfl
  unfold World.cell? at hc ⊢
  rw [hb] at hc ⊢
  rw [e2]
  exact hc
theorem rd_int {w : World} {A : Option Addr} {xs : List Nat} (h : Rd w A ((xs.map fun k : Nat => (k : Int)).map iv)) {k : Nat} (hk : k < xs.length) : ∃ g b, A = some ⟨g, b, none⟩ ∧ w.cell? ⟨g, b + k, none⟩ = some (.int .i64 (xs[k] : Int)) := by
  obtain ⟨⟨g, b, sp⟩, rfl, hc⟩ := h k (iv (xs[k] : Int)) (by simp [hk])
  have h00 : 0 < xs.length := by omega
  obtain ⟨a0, e0, hc0⟩ := h 0 (iv (xs[0] : Int)) (by simp [h00])
  cases e0
  have hsp : sp = none := by simpa [Addr.add] using World.cell?_spot hc0
  subst hsp
  have hadd : (Addr.add ⟨g, b, none⟩ k) = ⟨g, b + k, none⟩ := by
    simp only [Addr.add]
    split <;> simp_all
  rw [hadd] at hc
  exact ⟨g, b, rfl, hc⟩
theorem pieces_n (s : ByteArray) (side : Int) (m : Nat) (w : World) (hT : Tab w) (hm : (ownL s side).length = m) : Calls Tryz.prog 150 #[.string s, .int .i64 side] w fun e w' => ∃ A c, e = .returned (.slice A m c) ∧ w'.ownsRow w.heap.size 3 1 (.slice A m c) m (((ownL s side).map fun k : Nat => (k : Int)).map iv) ∧ Below w.heap.size w w' := by
  refine (pieces_own s side w hT).mono ?_
  rintro e w1 ⟨v, rfl, hown, hb⟩
  rw [piecesL_own, List.length_map, hm] at hown
  obtain ⟨A, c, rfl⟩ := owns_slice hown
  exact ⟨A, c, rfl, hown, hb⟩
set_option maxRecDepth 100000 in
set_option maxHeartbeats 4000000 in
theorem moves1_in (n : Nat) (hn : 1 ≤ n) (l H T B : Nat) (s : ByteArray) (side : Int) (A : Option Addr) (gs : List Nat) (c : Nat) (J Jx : List (Nat × Nat) → World → Prop) (W : World) (hJ : AbidesFrom W.heap.size J)
    (hY : ∀ pre x W1, J pre W1 → pre.length < (goL s side gs).length → YieldAt Fence.wide (n - 1) Tryz.prog l (enc1 x) W1 fun e W' =>
      (e = .returned (.bool true) ∧ J (pre ++ [x]) W' ∧ KeptT T B W1 W') ∨ (e = .returned (.bool false) ∧ Jx (pre ++ [x]) W'))
    (hM : MovesAt W H T B s side A gs c) (hg90 : ∀ b ∈ gs, b < 90) (hgl : gs.length ≤ 1000000) (hB : B ≤ W.heap.size) (h0 : J [] W) :
    CallsIn Fence.wide n Tryz.prog 242 #[.func (.yield l) #[] #[], .pointer (some ⟨H, 0, none⟩), .pointer (some ⟨H + 1, 0, none⟩), .pointer (some ⟨H + 1 + 1, 0, none⟩)] W fun e W' => (∃ v, e = .returned v) ∧
      ((∃ ys, ys = goL s side gs ∧ J ys W') ∨ (∃ pre, pre <+: goL s side gs ∧ Jx pre W')) := by
  have hjb : ∀ pre V V', J pre V → Below V.heap.size V V' → J pre V' := fun pre V V' hj hb => hJ _ _ _ none hj ⟨hb.os, hb.tape, hb.output, hb.size, fun i hi _ => hb.block i hi⟩ (by simp)
  obtain ⟨m, hm⟩ : ∃ m, (ownL s side).length = m := ⟨_, rfl⟩
  obtain ⟨q, hq⟩ : ∃ q, gs.length = q := ⟨_, rfl⟩
  have hm90 : m ≤ 90 := by rw [← hm]; exact ownL_len s side
  have HM := Lib.hid hm
  have HQ := Lib.hid hq
  have HG := Lib.hid hM
  have c0 := hM.bc.cell 0
  have c1 := hM.bs.cell 0
  simp only [List.getElem?_toArray, List.getElem?_cons_zero] at c0 c1
  refine callsIn_of_wp Tryz.func242 rfl trivial ?_ rfl
  simp only [Tryz.ntmps242, List.size_toArray, List.length_cons, List.length_nil, Nat.reduceAdd, Nat.reduceSub, Array.replicate_succ, Array.replicate_zero, List.push_toArray, List.append_toArray, List.nil_append, List.cons_append]
  gi_wp2_with (refine ⟨trivial, ?_⟩; gi_at_call 150; refine (callsIn_wide.2 (pieces_n s side m _ HG.out.tab HM.out)).mono ?_; rintro e w1 ⟨A1, cp, rfl, hown, hb⟩)
  have hk1 := KeptT.next (T := T) hB hb
  have hG1 := HG.out.kept hk1
  have hB1 : B ≤ w1.heap.size := Nat.le_trans hB hb.size
  have hrow : ∀ V, KeptT T B w1 V → Rd V A1 (((ownL s side).map fun k : Nat => (k : Int)).map iv) := fun V hk => Rd.owns (row_same hown fun k hk' e => by
    rcases hown.2 with ⟨e0, _⟩ | ⟨g', cap, cur, e1, hg, hc, _⟩
    · rw [e0] at e
      cases e
    · rw [e1] at e
      have e : g' = k := by simpa [Value.ownBlock] using e
      subst e
      exact (hk.rows g' _ _ (Nat.le_trans hB hg) hc).trans hc.symm)
  have HROW := Lib.hid hrow
  have h1 : J (goK s side gs 0) w1 := hjb _ _ _ h0 hb
  have HOWN : Hid (∀ k (h : k < (ownL s side).length), isB s = true ∧ (ownL s side)[k] < 90) := fun k h => ownL_at h
  have HGS : Hid (∀ b ∈ gs, b < 90) := hg90
  have HG1 := Lib.hid hG1
  have HJB := Lib.hid hjb
  have HY := Lib.hid hY
  clear hrow hown c0 c1 h0 hM hG1 hk1 hb hm hq hg90 hJ hjb hY HG
  gi_loopw [14] (fun i wr => ∃ k : Nat, k ≤ m ∧ i = .int .i64 k ∧ J (goK s side gs k) wr ∧ KeptT T B w1 wr) (fun i _ => m - (intOf i).toNat)
  case atStart => exact ⟨0, Nat.zero_le _, rfl, h1, KeptT.refl _ _ _⟩
  case round =>
    obtain ⟨k, hk, rfl, hJk, hkt⟩ := hrel
    by_cases hlt : k < m
    · have hkl : k < (ownL s side).length := by rw [HM.out]; exact hlt
      obtain ⟨g1, o1, rfl, c0⟩ := rd_int (HROW.out wr hkt) hkl
      obtain ⟨hisb, ha90⟩ := HOWN.out k hkl
      have HZ : Hid (∀ j, goJ s side gs k (ownL s side)[k] j <+: goL s side gs) := fun j => goJ_pre hkl
      have HZ0 : Hid (goJ s side gs k (ownL s side)[k] 0 = goK s side gs k) := goJ_zero _ _ _ _ _
      have HZ1 : Hid (goJ s side gs k (ownL s side)[k] q = goK s side gs (k + 1)) := by
        show _ = _
        rw [← HQ.out]
        exact goJ_all hkl
      obtain ⟨a, hax⟩ : ∃ a, (ownL s side)[k] = a := ⟨_, rfl⟩
      rw [hax] at c0 ha90 HZ HZ0 HZ1
      have hGr := HG1.out.kept hkt
      have c2 : wr.cell? ⟨H + 1 + 1, 0, none⟩ = some (.slice A q c) := by
        rw [← HQ.out]
        exact hGr.bg.cell 0
      have b1 : (k : Int) < (m : Int) := by omega
      clear hGr hax h1
      gi_wp2
      gi_loopw [20] (fun i wq => ∃ j : Nat, j ≤ q ∧ i = .int .i64 j ∧ J (goJ s side gs k a j) wq ∧ KeptT T B w1 wq) (fun i _ => q - (intOf i).toNat)
      case atStart => exact ⟨0, Nat.zero_le _, rfl, by rw [HZ0.out]; exact hJk, hkt⟩
      case round =>
        obtain ⟨j, hj, rfl, hJj, hkj⟩ := hrel
        by_cases hlt2 : j < q
        · have hjl : j < gs.length := by rw [HQ.out]; exact hlt2
          have hGq := HG1.out.kept hkj
          obtain ⟨g2, o2, rfl, d0⟩ := rd_int hGq.rd hjl
          have hb90 := HGS.out _ (List.getElem_mem hjl)
          obtain ⟨b, hbx⟩ : ∃ b, gs[j] = b := ⟨_, rfl⟩
          have HNO : Hid (couldB s side a b = false → goJ s side gs k a (j + 1) = goJ s side gs k a j) := fun h => goJ_no hjl (by rw [hbx]; exact h)
          have HYES : Hid (couldB s side a b = true → goJ s side gs k a (j + 1) = goJ s side gs k a j ++ [(a, b)]) := fun h => by
            rw [goJ_yes hjl (by rw [hbx]; exact h), hbx]
          rw [hbx] at d0 hb90
          obtain ⟨v, hv⟩ : ∃ v, couldB s side a b = v := ⟨_, rfl⟩
          have HV : Hid (couldI s side (a : Int) (b : Int) = v) := by
            show _ = _
            rw [couldI_nat hisb ha90 hb90, hv]
          have HVB := Lib.hid hv
          have HLT : Hid (couldB s side a b = true → (goJ s side gs k a j).length < (goL s side gs).length) := fun h => by
            have h1 := (HZ.out (j + 1)).length_le
            rw [HYES.out h, List.length_append, List.length_singleton] at h1
            omega
          have hbA := below_new wr (.cells #[.int .i64 (a : Int), .int .i64 (b : Int)] 48)
          have hBq : B ≤ wr.heap.size := Nat.le_trans hB1 hkj.size
          have hkA := hkj.trans (KeptT.next hBq hbA)
          have hGA := HG1.out.kept hkA
          have e0 : (wr.alloc (.cells #[.int .i64 (a : Int), .int .i64 (b : Int)] 48)).cell? ⟨H, 0, none⟩ = some (.string s) := hGA.bc.cell 0
          have e1 : (wr.alloc (.cells #[.int .i64 (a : Int), .int .i64 (b : Int)] 48)).cell? ⟨H + 1, 0, none⟩ = some (.int .i64 side) := hGA.bs.cell 0
          have bM : Blk (wr.alloc (.cells #[.int .i64 (a : Int), .int .i64 (b : Int)] 48)) wr.heap.size 48 #[.int .i64 (a : Int), .int .i64 (b : Int)] := Blk.new _ _ _ rfl
          have hTA := hGA.tab
          have hJA := HJB.out _ _ _ hJj hbA
          have b2 : (j : Int) < (q : Int) := by omega
          clear hGq hGA hbx hv hJk hJj c0 c2
          cases v
          · gi_wp2_with (refine ⟨trivial, ?_⟩; gi_at_call 243; refine (callsIn_wide.2 (gcan_is s side a b false _ hTA HV.out)).mono ?_; rintro e w' ⟨rfl, hb⟩)
            refine ⟨fun f h => (by cases h), ?_⟩
            gi_wp2
            go_roundw
            case rel => exact ⟨j + 1, by omega, by go_num, by rw [HNO.out HVB.out]; exact HJB.out _ _ _ hJA hb, hkA.trans (KeptT.next (Nat.le_trans hBq hbA.size) hb)⟩
            case measure => simp [intOf]; omega
          · gi_wp2_with (refine ⟨trivial, ?_⟩; gi_at_call 243; refine (callsIn_wide.2 (gcan_is s side a b true _ hTA HV.out)).mono ?_; rintro e w' ⟨rfl, hb⟩; have f0 : w'.cell? ⟨wr.heap.size, 0, none⟩ = some (.int .i64 (a : Int)) := (bM.next hb).cell 0; have f1 : w'.cell? ⟨wr.heap.size, 1, none⟩ = some (.int .i64 (b : Int)) := (bM.next hb).cell 1; obtain ⟨fn, tmps, assign, body, hy, hR⟩ := HY.out _ (a, b) w' (HJB.out _ _ _ hJA hb) (HLT.out (HVB.out)); simp only [enc1, mvv] at hy)
            refine hR.mono ?_
            have hk9 := hkA.trans (KeptT.next (Nat.le_trans hBq hbA.size) hb)
            clear hR hy f0 f1 hJA hTA bM e0 e1 d0 hkA
            rintro e W3 (⟨rfl, hJ3, hk3⟩ | ⟨rfl, hJx3⟩)
            · gi_wp2
              go_roundw
              case rel => exact ⟨j + 1, by omega, by go_num, by rw [HYES.out HVB.out]; exact hJ3, hk9.trans hk3⟩
              case measure => simp [intOf]; omega
            · gi_wp2
              refine bodyPost_ret (results_none rfl _ _ _) rfl ?_
              exact ⟨⟨_, rfl⟩, .inr ⟨_, by rw [← HYES.out HVB.out]; exact HZ.out _, hJx3⟩⟩
        · obtain rfl : j = q := by omega
          gi_wp2
          exact ⟨⟨k + 1, by omega, by go_num, by rw [← HZ1.out]; exact hJj, hkj⟩, by simp [intOf]; omega⟩
    · obtain rfl : k = m := by omega
      have HE : Hid (goK s side gs k = goL s side gs) := by
        show _ = _
        rw [← HM.out]
        exact goK_all _ _ _
      gi_wp2
      go_end0
      exact ⟨⟨_, rfl⟩, .inl ⟨_, rfl, by rw [← HE.out]; exact hJk⟩⟩
end Go.Proofs.YtbdgbihdhbjljaaGreatDoor

namespace Go.Proofs.YtbdgbihdhbjljaaGreatDoor
open Go.RowKit Go.Shelf
open M (S)
attribute [local go_sem] Oper.semAt_some

theorem gother_k (side : Int) (w : World) : Calls Tryz.prog 218 #[.int .i64 side] w fun e w' => ∃ k, e = .returned (.int .i64 k) ∧ (0 ≤ side → side ≤ 1 → k = 1 - side) ∧ w = w' := by
  by_cases h : 0 ≤ side ∧ side ≤ 1
  · refine (gother_is side _ w h.1 h.2 rfl).mono ?_
    rintro e w1 ⟨rfl, rfl⟩
    exact ⟨_, rfl, fun _ _ => rfl, rfl⟩
  · refine (gother_some side w).mono ?_
    rintro e w1 ⟨k, rfl, rfl⟩
    exact ⟨k, rfl, fun h0 h1 => absurd ⟨h0, h1⟩ h, rfl⟩
theorem go_takes (s : ByteArray) (side k : Int) (h : 0 ≤ side → side ≤ 1 → k = 1 - side) : goL s side (ownL s k) = takesG s side := by
  unfold goL ownL
  by_cases hs : isB s = true
  · rw [if_pos hs, if_pos hs]
    by_cases hd : side = 0 ∨ side = 1
    · rw [h (by omega) (by omega)]
      exact takes_gone hs hd
    · have e1 : ownN s side = [] := by
        unfold ownN
        rw [List.filter_eq_nil_iff]
        intro x hx
        have hf := isB_fill hs x (List.mem_range.1 hx)
        rw [fill_side, Bool.or_eq_true, beq_iff_eq, decide_eq_true_eq] at hf
        have h3 := sideN_ge (bAt s x)
        unfold ofSide
        rw [Bool.and_eq_true, bne_iff_ne, beq_iff_eq]
        rintro ⟨h1, h2⟩
        rcases hf with hf | hf
        · exact h1 hf
        · omega
      rw [e1]
      unfold takesG
      rw [if_neg]
      · rfl
      · rw [Bool.and_eq_true, Bool.or_eq_true, beq_iff_eq, beq_iff_eq]
        exact fun h => hd h.2
  · rw [if_neg hs, if_neg hs]
    unfold takesG
    rw [if_neg]
    · rfl
    · rw [Bool.and_eq_true]
      exact fun h => hs h.1
/-- **The iterator's contract.** -/
theorem moves_stops (n : Nat) (hn : 1 ≤ n) (H T B : Nat) (s : ByteArray) (side : Int) (A : Option Addr) (gs : List Nat) (c : Nat) (w : World) (hM : MovesAt w H T B s side A gs c) (hg90 : ∀ b ∈ gs, b < 90) (hgl : gs.length ≤ 1000000) (hB : B ≤ w.heap.size) :
    SeqStopsK Fence.wide n Tryz.prog 242 #[.pointer (some ⟨H, 0, none⟩), .pointer (some ⟨H + 1, 0, none⟩), .pointer (some ⟨H + 1 + 1, 0, none⟩)] enc1 (KeptT T B) (fun ys => ys = goL s side gs) (fun pre => pre <+: goL s side gs) (goL s side gs).length w := fun l J Jx W hW hJ _ hY h0 =>
  moves1_in n hn l H T B s side A gs c J Jx W hJ hY (hM.kept (KeptT.next hB hW)) hg90 hgl (Nat.le_trans hB hW.size) h0
/-- A round that appends a move to a row that was made since, and stores the row into block T. -/
theorem kept_row {T B k : Nat} {W : World} {v : Value} {xs : List Value} {tmp : Obj} (hBW : B ≤ W.heap.size) (hrow : W.ownsRow B 48 2 v k xs) (hTB : T < B) {w1 : World} (hgrow : (W.alloc tmp).grownBy w1 v.ownBlock) (v' : Value) : KeptT T B W (w1.setCell ⟨T, 0, none⟩ v') := by
  refine ((KeptT.next hBW (below_new W tmp)).trans (KeptT.grown (by rw [World.size_alloc]; omega) hgrow (fun k e => ?_) fun k c f e he => ?_)).trans (KeptT.set hTB _ _)
  · rcases hrow.2 with ⟨e0, _⟩ | ⟨g, cap, cur, e0, hg, hc, _⟩
    · rw [e0] at e
      cases e
    · rw [e0] at e
      have : k = g := by simpa [Value.ownBlock] using e
      omega
  · rcases hrow.2 with ⟨e0, _⟩ | ⟨g, cap, cur, e0, hg, hc, _⟩
    · rw [e0] at e
      cases e
    · rw [e0] at e
      have : k = g := by simpa [Value.ownBlock] using e
      subst this
      rw [Below.heap_alloc W tmp k (Array.getElem?_eq_some_iff.1 hc).1, hc] at he
      injection he with he
      injection he with _ h2 _
      exact absurd h2 (by decide)
set_option maxRecDepth 100000 in
set_option maxHeartbeats 4000000 in
theorem gtakes_in (s : ByteArray) (side : Int) (l : List (Nat × Nat)) (n : Nat) (w : World) (hT : Tab w) (hl : takesG s side = l) (hn : l.length = n) :
    CallsIn Fence.wide 5 Tryz.prog 195 #[.string s, .int .i64 side] w fun e W' => ∃ v, e = .returned v ∧ W'.ownsRow w.heap.size 48 2 v n (mvs l) ∧ Below w.heap.size w W' := by
  have hro : Fence.wide.round = none := rfl
  have hlen : l.length ≤ 8100 := by rw [← hl]; exact takes_len s side
  have hg := hT.lt
  obtain ⟨i0, hi, hz0, hz1, hz2⟩ := info_parts info_move
  have HL := Lib.hid hl
  have HN := Lib.hid hn
  clear hl hn
  refine callsIn_of_wp_marks Tryz.func195 rfl trivial ?_ hro
  simp only [Tryz.ntmps195, List.size_toArray, List.length_cons, List.length_nil, Nat.reduceAdd, Nat.reduceSub, Array.replicate_succ, Array.replicate_zero, List.push_toArray, List.append_toArray, List.nil_append, List.cons_append]
  have hbA := below_new w (.cells #[.slice none 0 0] 24)
  have bO : Boxed (w.alloc (.cells #[.slice none 0 0] 24)) w.heap.size 24 (.slice none 0 0) := Boxed.new w 24 (.slice none 0 0)
  have hTA := hT.next hbA
  gi_wp2_with (first
    | (refine ⟨trivial, ?_⟩; gi_at_call 218; refine (callsIn_wide.2 (gother_k side _)).mono ?_; rintro e w' ⟨k, rfl, hko, rfl⟩)
    | (refine ⟨trivial, ?_⟩; gi_at_call 150; refine (callsIn_wide.2 (pieces_n s k _ _ hTA rfl)).mono ?_; rintro e w2 ⟨A, c, rfl, hown, hb⟩)
    | (refine ⟨trivial, ?_⟩; gi_at_call 217; refine (callsIn_wide.2 (gmoves_is s side A _ c _)).mono ?_; rintro e w3 ⟨rfl, rfl⟩))
  have hsz2 : w.heap.size + 1 ≤ w2.heap.size := by
    have := hb.size
    rw [World.size_alloc] at this
    exact this
  have hk2 : Below w.heap.size w w2 := hbA.trans (hb.mono hbA.size)
  obtain ⟨W0, hW0⟩ : ∃ W0, ((w2.alloc (.cells #[.string s] 9)).alloc (.cells #[.int .i64 side] 3)).alloc (.cells #[.slice A (ownL s k).length c] 106) = W0 := ⟨_, rfl⟩
  have hb20 : Below w2.heap.size w2 W0 := by rw [← hW0]; exact (by repeat (first | exact Below.refl _ _ | (refine Below.setCell ?_ (by first | omega | (simp; done) | (simp; omega) | (simp at *; omega)) _) | (refine Below.alloc ?_ (by first | omega | (simp; done) | (simp; omega) | (simp at *; omega)) _) | refine Below.drew ?_ | (refine below_drewN ?_ _) | (refine Below.trans ?_ (Below.mono (by assumption) (by first | omega | (simp; done) | (simp; omega) | (simp at *; omega))))))
  have hsz0 : W0.heap.size = w2.heap.size + 1 + 1 + 1 := by rw [← hW0]; simp
  have bc : Blk W0 w2.heap.size 9 #[.string s] := by rw [← hW0]; exact ((Blk.new _ _ _ rfl).alloc _).alloc _
  have bs : Blk W0 (w2.heap.size + 1) 3 #[.int .i64 side] := by rw [← hW0]; exact (Blk.new _ _ _ (by simp)).alloc _
  have bg : Blk W0 (w2.heap.size + 1 + 1) 106 #[.slice A (ownL s k).length c] := by rw [← hW0]; exact Blk.new _ _ _ (by simp)
  have hB0 : Below w.heap.size w W0 := hk2.trans (hb20.mono (by omega))
  have bT : Boxed W0 w.heap.size 24 (.slice none 0 0) := by
    have h1 : w2.heap[w.heap.size]? = _ := (hb.block w.heap.size (by simp)).trans bO
    exact (hb20.block w.heap.size (by omega)).trans h1
  have hM : MovesAt W0 w2.heap.size w.heap.size W0.heap.size s side A (ownL s k) c := by
    refine ⟨bc, bs, bg, (Rd.owns hown).next hb20, fun ad e => ?_, hT.below hB0 hg, by omega, by omega, hg⟩
    rcases hown.2 with ⟨e0, _⟩ | ⟨g', cap, cur, e1, hge, hc, _⟩
    · injection e0 with e0
      rw [e0] at e
      cases e
    · injection e1 with e1
      rw [e1] at e
      cases e
      have := (Array.getElem?_eq_some_iff.1 hc).1
      rw [World.size_alloc] at hge
      exact ⟨by show g' < _; omega, by show g' ≠ _; omega⟩
  have HGO : Hid (goL s side (ownL s k) = l) := by
    show _ = _
    rw [go_takes s side k hko, HL.out]
  have hg90 : ∀ b ∈ ownL s k, b < 90 := fun b hb => by
    obtain ⟨j, hj, rfl⟩ := List.mem_iff_getElem.1 hb
    exact (ownL_at hj).2
  have hgl : (ownL s k).length ≤ 1000000 := Nat.le_trans (ownL_len s k) (by decide)
  rw [hW0]
  refine wpIn_rangeFunc_ownH hro (by decide) (gf := 242) (lb := #[.pointer (some ⟨w2.heap.size, 0, none⟩), .pointer (some ⟨w2.heap.size + 1, 0, none⟩), .pointer (some ⟨w2.heap.size + 1 + 1, 0, none⟩)]) rfl trivial (enters_of Tryz.func242 (by kernel_rfl) rfl)
    (moves_stops 4 (by decide) w2.heap.size w.heap.size W0.heap.size s side A (ownL s k) c W0 hM hg90 hgl (Nat.le_refl _)) KeptT.trans KeptT.put (Below.refl _ _) (fun _ => rfl)
    (fun pre W => (∃ v, Boxed W w.heap.size 24 v ∧ W.ownsRow W0.heap.size 48 2 v pre.length (mvs pre) ∧ True) ∧ (Below w.heap.size w W ∧ W0.heap.size ≤ W.heap.size))
    (fun _ _ _ => False)
    (OwnFrom.and (Own.from (holdsRow_own W0.heap.size w.heap.size 24 48 2 (fun pre => pre.length) (fun pre => mvs pre) (fun _ _ => True)) _) (OwnFrom.and (ownFrom_below (Nat.le_refl _) (by omega)) (fun _ _ _ _ hs hgr _ => Nat.le_trans hs hgr.size)))
    (fun _ _ _ _ _ hs _ _ => hs)
    ⟨⟨_, bT, by simpa [mvs] using World.ownsRow_nil W0 W0.heap.size 48 2, trivial⟩, hB0, Nat.le_refl _⟩
    (fun x a' W => ∃ g, Blk W g 48 #[.int .i64 (x.1 : Int), .int .i64 (x.2 : Int)] ∧ a' = { tmps := #[.string s, .int .i64 side, undef, undef, .slice none 0 0, .pointer (some ⟨w.heap.size, 0, none⟩), .pointer (some ⟨g, 0, none⟩), .string s, .int .i64 side, .string s, .int .i64 side, .int .i64 k, .slice A (ownL s k).length c, .func (.func 242) #[] #[.pointer (some ⟨w2.heap.size, 0, none⟩), .pointer (some ⟨w2.heap.size + 1, 0, none⟩), .pointer (some ⟨w2.heap.size + 1 + 1, 0, none⟩)], mvv x, undef, undef, undef, undef, undef], defers := [] })
    (fun x a' _ W W' row ⟨g, hb, e⟩ hgr hr => ⟨g, (hgr.block g hb.lt fun e' => by
      obtain ⟨_, o, ho, hc⟩ := hr g e'.symm
      rw [show W.heap[g]? = _ from hb] at ho
      cases ho
      cases hc).trans hb, e⟩) ?assign ?body ?done ?stop
  case assign =>
    rintro l' pre ⟨x, y⟩ W K ⟨⟨v, hv, hrow, _⟩, hB, hBW⟩ hK
    have hbm := below_new W (.cells #[.int .i64 (x : Int), .int .i64 (y : Int)] 48)
    gi_wp2
    exact hK _ _ ((KeepsOthers.alloc _ _).from _) (KeptT.next hBW hbm) ⟨⟨v, hv.alloc _, hrow.alloc _, trivial⟩, hB.trans (hbm.mono hB.size), Nat.le_trans hBW hbm.size⟩ ⟨W.heap.size, Blk.new _ _ _ rfl, rfl⟩
  case body =>
    rintro l' pre ⟨x, y⟩ a' W hl' hr' ⟨⟨v, hv, hrow, _⟩, hB, hBW⟩ ⟨g, bM, rfl⟩ hlt
    have hc := hv.cell
    have e0 : W.cell? ⟨g, 0, none⟩ = some (.int .i64 (x : Int)) := bM.cell 0
    have e1 : W.cell? ⟨g, 1, none⟩ = some (.int .i64 (y : Int)) := bM.cell 1
    have hlt2 : pre.length < 8100 := by
      rw [HGO.out] at hlt
      omega
    have hKT : ∀ w1, (W.alloc (.cells #[.int .i64 (x : Int), .int .i64 (y : Int)] 48)).grownBy w1 v.ownBlock → ∀ v', KeptT w.heap.size W0.heap.size W (w1.setCell ⟨w.heap.size, 0, none⟩ v') := fun w1 h v' => kept_row hBW hrow (by omega) h v'
    have hTW : w.heap.size ≤ W0.heap.size := by omega
    clear hM bc bs bg hown hW0 bT bO hb hb20 bM hr'
    gi_wp2_with (gi_at_builtin; refine wpListIn_append_own _ rfl _ _ 24 rfl W0.heap.size 48 i0 (.agg #[.int .i64 0, .int .i64 0]) 2 16 Tryz.underlying24 hi hz0 hz1 hz2 rfl (by decide) _ _ _ rfl (hrow.alloc _) ⟨W.heap.size, 0, none⟩ 1 1 [iv x, iv y] rfl rfl (cells_two_new _ _ _ _) (by simp [Value.oneCell']) (by unfold maxLen; omega) (by omega) (by simp; omega) ?_; intro v' w1 hown' hgrow _; obtain ⟨g', cap', rfl⟩ := ownsRow_succ hown'; obtain ⟨hv1, hv2, _, hk2', hb2⟩ := hv.appended (by decide) (own_mono hrow hTW) hB.size (Nat.le_refl _) (own_mono hown' hTW) hgrow; have hr2 := hown'.kept (grownBy_setCell' w1 w.heap.size (.slice (some ⟨g', 0, none⟩) (pre.length + 1) cap')) (.inr (hv1.not_row (by decide) hown').symm); have hc1 := hv1.cell; have hf1 := hv1.frozen)
    exact ⟨hk2'.from _, hKT _ hgrow _, ⟨_, hv2, by rw [mvs_app, List.length_append]; exact hr2, trivial⟩, hB.trans hb2, Nat.le_trans hBW hb2.size⟩
  case done =>
    rintro D ys W hD rfl ⟨⟨v, hv, hrow, _⟩, hB, hBW⟩ hK
    have hc := hv.cell
    rw [HGO.out, HN.out] at hrow
    gi_wp2
    refine ⟨by simp, .inl ⟨_, _, rfl, run_takeDeferred hK, ?_⟩⟩
    exact ⟨_, results_tmp rfl _ _ _, v, rfl, ownsRow_putObj (own_mono hrow (by omega)) _ hK rfl, hB.trans (belowK_b (w := w) (Nat.le_refl _) W D _ _ (by omega) hK rfl rfl)⟩
  case stop =>
    rintro D c' pre W _ _ h _
    exact h.elim
end Go.Proofs.YtbdgbihdhbjljaaGreatDoor

namespace Go.Proofs.YtbdgbihdhbjljaaGreatDoor
open Go.RowKit Go.Shelf
open M (S)
attribute [local go_sem] Oper.semAt_some

theorem guard_side {s : ByteArray} {a b : Int} (h : couldI s (sideN (atB s a)) a b = true) : isB s = true ∧ (0 ≤ a ∧ a < 90) ∧ (0 ≤ b ∧ b < 90) ∧ atB s a = bAt s a.toNat ∧ couldB s (sideN (bAt s a.toNat)) a.toNat b.toNat = true := by
  obtain ⟨h1, h2, h3, h4⟩ := couldI_parts h
  have e : atB s a = bAt s a.toNat := by
    unfold atB
    rw [if_pos ⟨h1, sqI_true h2⟩]
  rw [e] at h4
  exact ⟨h1, h2, h3, e, h4⟩
theorem guard_none {s : ByteArray} {a b : Int} (h : couldI s (sideN (atB s a)) a b = false) : guardI s a b = false := by
  cases e : guardI s a b
  · rfl
  · have h1 := guardI_could e
    obtain ⟨g1, g2, _, _⟩ := couldI_parts h1
    have e2 : atB s a = bAt s a.toNat := by
      unfold atB
      rw [if_pos ⟨g1, sqI_true g2⟩]
    rw [e2, h1] at h
    cases h
theorem go_one (s : ByteArray) (side : Int) (b n : Nat) : goG s side [b] n = if couldB s side n b then [(n, b)] else [] := by
  unfold goG
  cases h : couldB s side n b <;> simp [h]
theorem go_again {q : ByteArray} (hq : isB q = true) {z : Int} (hz : 0 ≤ z) (b : Nat) : againB q z b = !(goL q z [b]).isEmpty := by
  rw [gone_one hz]
  unfold goL ownL
  rw [if_pos hq]
  generalize ownN q z = l
  induction l with
  | nil => rfl
  | cons x r ih =>
    rw [List.any_cons, List.flatMap_cons, ih, go_one]
    cases couldB q z x b <;> simp
set_option maxRecDepth 100000 in
set_option maxHeartbeats 4000000 in
theorem gguard_no (s : ByteArray) (a b : Int) (c : Nat) (y : Int) (w : World) (hT : Tab w) (hc : atB s a = c) (hy : sideN c = y) (h : couldI s y a b = false) : Calls Tryz.prog 254 #[.string s, .agg #[.int .i64 a, .int .i64 b]] w (Gives w (.bool false)) := by
  unfold Gives
  obtain ⟨W0, hW0⟩ : ∃ W0, (w.alloc (.cells #[.int .i64 a, .int .i64 b] 48)).alloc (.cells #[.bool false] 4) = W0 := ⟨_, rfl⟩
  have hB : Below w.heap.size w W0 := by rw [← hW0]; exact (by repeat (first | exact Below.refl _ _ | (refine Below.setCell ?_ (by first | omega | (simp; done) | (simp; omega) | (simp at *; omega)) _) | (refine Below.alloc ?_ (by first | omega | (simp; done) | (simp; omega) | (simp at *; omega)) _) | refine Below.drew ?_ | (refine below_drewN ?_ _) | (refine Below.trans ?_ (Below.mono (by assumption) (by first | omega | (simp; done) | (simp; omega) | (simp at *; omega))))))
  have bM : Blk W0 w.heap.size 48 #[.int .i64 a, .int .i64 b] := by rw [← hW0]; exact (Blk.new _ _ _ rfl).alloc _
  have bR : Blk W0 (w.heap.size + 1) 4 #[.bool false] := by rw [← hW0]; exact Blk.new _ _ _ (by simp)
  have m0 : W0.cell? ⟨w.heap.size, 0, none⟩ = some (.int .i64 a) := bM.cell 0
  have m1 : W0.cell? ⟨w.heap.size, 1, none⟩ = some (.int .i64 b) := bM.cell 1
  have hT0 := hT.below hB hT.lt
  have HW := Lib.hid hW0
  have HC := Lib.hid hc
  have HY := Lib.hid hy
  have HN := Lib.hid h
  clear hW0 hc hy h
  go_enter Tryz.func254, Tryz.ntmps254
  go_wp2_with fail
  rw [HW.out]
  refine (at_is s a c _ HC.out).mono ?_
  rintro e w1 ⟨rfl, rfl⟩
  go_wp2_with fail
  refine (side_is c y _ HY.out).mono ?_
  rintro e w1 ⟨rfl, rfl⟩
  go_wp2_with fail
  refine (gcan_is s y a b false _ hT0 HN.out).mono ?_
  rintro e w2 ⟨rfl, hb⟩
  have bR2 := bR.next hb
  have r0 : w2.cell? ⟨w.heap.size + 1, 0, none⟩ = some (.bool false) := bR2.cell 0
  have f0 := bR2.frozen 0
  have hB2 := hB.trans (hb.mono hB.size)
  clear m0 m1
  go_wp2
  have bR3 := bR2.set_ 0 (.bool false)
  exact bodyPost_ret (v := .bool false) (by simp [results, Tryz.results254, go_sem, bR3.cell 0]) rfl ⟨rfl, hB2.setCell (p := ⟨w.heap.size + 1, 0, none⟩) (by simp) _⟩
theorem gother_g (side k : Int) (w : World) (h0 : 0 ≤ side) (h1 : side ≤ 1) (hk : 1 - side = k) : Calls Tryz.prog 218 #[.int .i64 side] w (Gives w (.int .i64 k)) := (gother_is side k w h0 h1 hk).mono fun _ _ ⟨a, b⟩ => ⟨a, b ▸ Below.refl _ _⟩
theorem hide_calm {F : Fence} {n : Nat} {P : Program} {c : Code} {Q : Exit → Act → World → Prop} {a : Act} {w : World} (h : ∀ Q' : Exit → Act → World → Prop, (∀ e a w, (∀ x, e ≠ .panic x) → Q e a w → Q' e a w) → (∀ x a w, ¬ Q' (.panic x) a w) → c.wpIn F n P Q' a w) : c.wpIn F n P Q a w :=
  wpIn_mono (h (fun e a w => (∀ x, e ≠ .panic x) ∧ Q e a w) (fun _ _ _ h1 h2 => ⟨h1, h2⟩) (fun x _ _ h => h.1 x rfl)) fun _ _ _ h => h.2
/-- What lies where the moves are about to be gone through. -/
structure Laid3 (w w' : World) (q : ByteArray) (z : Int) (A : Option Addr) (n c : Nat) : Prop where
  hb : Below w.heap.size w w'
  bc : Blk w' w.heap.size 9 #[.string q]
  bs : Blk w' (w.heap.size + 1) 3 #[.int .i64 z]
  bg : Blk w' (w.heap.size + 1 + 1) 106 #[.slice A n c]
  sz : w'.heap.size = w.heap.size + 1 + 1 + 1
theorem moves_laid {w4 w5 : World} {q : ByteArray} {z : Int} {g b T : Nat} (hl : Laid3 w4 w5 q z (some ⟨g, 0, none⟩) 1 1) (bG : Blk w5 g 3 #[.int .i64 (b : Int)]) (bR : Blk w5 T 4 #[.bool false]) (hT : Tab w5) (hTl : T < w4.heap.size) (hg : 1 < T) : MovesAt w5 w4.heap.size T w5.heap.size q z (some ⟨g, 0, none⟩) [b] 1 := by
  have hs := hl.sz
  refine ⟨hl.bc, hl.bs, hl.bg, rd_lit (xs := [(b : Int)]) bG, fun ad e => ?_, hT, hTl, by omega, hg⟩
  cases e
  refine ⟨bG.lt, ?_⟩
  rintro rfl
  have h := bR.symm.trans bG
  injection h with h
  injection h with _ h2 _
  exact absurd h2 (by decide)
/-- A range over a function whose loop variable is set by no code. -/
theorem wpIn_rangeFunc_skip {α : Type} {F : Fence} {n : Nat} {P : Program} {g : Operand} {ps : Array Tmp} {body : Code} {Q : Exit → Act → World → Prop} {a : Act} {w : World}
    (hro : F.round = none) (h1 : 1 ≤ n) {gf : Nat} {lb : Array Value} (hg : a.eval g = .func (.func gf) #[] lb) (hFg : F.fn gf) (eg : ∀ args w, (callFunc gf args).run P w = .ok (.enter gf args) w)
    {encs : α → Array Value} {Kp : World → World → Prop} {S Sp : List α → Prop} {N : Nat} {w0 : World} (hseq : SeqStopsK F (n - 1) P gf lb encs Kp S Sp N w0)
    (hKt : ∀ {A B C : World}, Kp A B → Kp B C → Kp A C) (hKb : ∀ (W : World) (l : Nat) (o o' : Obj), w.heap.size ≤ l → W.heap[l]? = some o → o.isCells = false → o.isWalk = false → Kp W (W.putObj l o')) (hb0 : Below w0.heap.size w0 w) (hps : ∀ x, (encs x).size = ps.size)
    (I : List α → World → Prop) (Ix : Code → List α → World → Prop) (hI : OwnFrom w.heap.size I) (hIx : ∀ c, OwnFrom w.heap.size (Ix c)) (h0 : I [] w)
    (hbody : ∀ (l : Nat) (pre : List α) (x : α) (W : World), I pre W → pre.length < N → body.wpIn (F.inRound l) (n - 1 - 1) P (ownPostG w.heap.size Kp I Ix (pre ++ [x]) W) { tmps := (ps.zip (encs x)).foldl (fun t (p, v) => t.setIfInBounds p v) a.tmps, defers := [] } W)
    (hdone : ∀ (D : Nat) (xs : List α) (W : World), w.heap.size ≤ D → S xs → I xs W → W.heap[D]? = some (.deferred (some [])) → Q .normal { a with defers := { target := .collected D, args := #[] } :: a.defers } W)
    (hstop : ∀ (D : Nat) (c : Code) (pre : List α) (W : World), w.heap.size ≤ D → Sp pre → Ix c pre W → W.heap[D]? = some (.deferred (some [])) → c.wpIn F n P Q { a with defers := { target := .collected D, args := #[] } :: a.defers } W) :
    (Code.rangeFunc g ps .skip body).wpIn F n P Q a w :=
  wpIn_rangeFunc_ownG hro h1 hg hFg eg hseq (fun h k => hKt h k) hKb hb0 hps I Ix hI hIx h0 (fun x => { tmps := (ps.zip (encs x)).foldl (fun t (p, v) => t.setIfInBounds p v) a.tmps, defers := [] }) (fun _ _ _ _ hK => wpIn_skip hK) hbody hdone hstop
theorem gmoves_at (q : ByteArray) (z : Int) (A : Option Addr) (n c : Nat) (w : World) : Calls Tryz.prog 217 #[.string q, .int .i64 z, .slice A n c] w fun e w' => e = .returned (.func (.func 242) #[] #[.pointer (some ⟨w.heap.size, 0, none⟩), .pointer (some ⟨w.heap.size + 1, 0, none⟩), .pointer (some ⟨w.heap.size + 1 + 1, 0, none⟩)]) ∧ Laid3 w w' q z A n c := by
  refine (gmoves_is q z A n c w).mono ?_
  rintro e w' ⟨rfl, rfl⟩
  exact ⟨rfl, ⟨(by repeat (first | exact Below.refl _ _ | (refine Below.setCell ?_ (by first | omega | (simp; done) | (simp; omega) | (simp at *; omega)) _) | (refine Below.alloc ?_ (by first | omega | (simp; done) | (simp; omega) | (simp at *; omega)) _) | refine Below.drew ?_ | (refine below_drewN ?_ _) | (refine Below.trans ?_ (Below.mono (by assumption) (by first | omega | (simp; done) | (simp; omega) | (simp at *; omega)))))), ((Blk.new _ _ _ rfl).alloc _).alloc _, (Blk.new _ _ _ (by simp)).alloc _, Blk.new _ _ _ (by simp), by simp⟩⟩
theorem goal_new {w W : World} {g b : Nat} {p0 p1 : Value} (_ : W.cell? ⟨g, 0, none⟩ = some p0 ∧ W.cell? ⟨g, 1, none⟩ = some p1 ∧ Below w.heap.size w W) : Blk (W.alloc (.cells #[.int .i64 (b : Int)] 3)) W.heap.size 3 #[.int .i64 (b : Int)] := Blk.new _ _ _ rfl
theorem goal_keep {w W : World} {g : Nat} {p0 p1 : Value} {o : Obj} (h : W.cell? ⟨g, 0, none⟩ = some p0 ∧ W.cell? ⟨g, 1, none⟩ = some p1 ∧ Below w.heap.size w W) : (W.alloc o).cell? ⟨g, 0, none⟩ = some p0 ∧ (W.alloc o).cell? ⟨g, 1, none⟩ = some p1 ∧ Below w.heap.size w (W.alloc o) := mv2_keep h (below_new W o)
set_option maxRecDepth 100000 in
set_option maxHeartbeats 8000000 in
theorem gguard_in (s q : ByteArray) (a b c : Nat) (y z : Int) (v : Bool) (w : World) (hT : Tab w) (hs : isB s = true) (ha : a < 90) (hb9 : b < 90) (hc : atB s (a : Int) = c) (hy : sideN c = y) (h : couldI s y (a : Int) (b : Int) = true) (hy0 : 0 ≤ y) (hy1 : y ≤ 1) (hz : 1 - y = z) (hq : behindS s (a, b) = q) (hqb : isB q = true) (hv : againB q z b = v) :
    CallsIn Fence.wide 5 Tryz.prog 254 #[.string s, .agg #[.int .i64 (a : Int), .int .i64 (b : Int)]] w fun e W' => e = .returned (.bool v) ∧ Below w.heap.size w W' := by
  have hro : Fence.wide.round = none := rfl
  have hg := hT.lt
  obtain ⟨W0, hW0⟩ : ∃ W0, (w.alloc (.cells #[.int .i64 (a : Int), .int .i64 (b : Int)] 48)).alloc (.cells #[.bool false] 4) = W0 := ⟨_, rfl⟩
  have hB : Below w.heap.size w W0 := by rw [← hW0]; exact (by repeat (first | exact Below.refl _ _ | (refine Below.setCell ?_ (by first | omega | (simp; done) | (simp; omega) | (simp at *; omega)) _) | (refine Below.alloc ?_ (by first | omega | (simp; done) | (simp; omega) | (simp at *; omega)) _) | refine Below.drew ?_ | (refine below_drewN ?_ _) | (refine Below.trans ?_ (Below.mono (by assumption) (by first | omega | (simp; done) | (simp; omega) | (simp at *; omega))))))
  have bM : Blk W0 w.heap.size 48 #[.int .i64 (a : Int), .int .i64 (b : Int)] := by rw [← hW0]; exact (Blk.new _ _ _ rfl).alloc _
  have bR : Blk W0 (w.heap.size + 1) 4 #[.bool false] := by rw [← hW0]; exact Blk.new _ _ _ (by simp)
  have m0 : W0.cell? ⟨w.heap.size, 0, none⟩ = some (.int .i64 (a : Int)) := bM.cell 0
  have m1 : W0.cell? ⟨w.heap.size, 1, none⟩ = some (.int .i64 (b : Int)) := bM.cell 1
  have hsz0 : W0.heap.size = w.heap.size + 1 + 1 := by rw [← hW0]; simp
  have hT0 := hT.below hB hT.lt
  have HW := Lib.hid hW0
  have HC := Lib.hid hc
  have HY := Lib.hid hy
  have HN := Lib.hid h
  have HZ := Lib.hid hz
  have HS0 := Lib.hid hsz0
  have HMV := Lib.hid (fun W => gmoved_is s q a b W hs ha hb9 hq)
  have HV : Hid ((!(goL q z [b]).isEmpty) = v) := by
    show _ = _
    rw [← go_again hqb (by omega), hv]
  clear hW0 hc hy h hz hq hs hv hsz0
  refine callsIn_of_wp_marks Tryz.func254 rfl trivial ?_ hro
  simp only [Tryz.ntmps254, List.size_toArray, List.length_cons, List.length_nil, Nat.reduceAdd, Nat.reduceSub, Array.replicate_succ, Array.replicate_zero, List.push_toArray, List.append_toArray, List.nil_append, List.cons_append]
  refine hide_calm fun Q hQ hpn => ?_
  gi_wp2_with (first
    | (refine ⟨trivial, ?_⟩; gi_at_call 219; rw [HW.out]; refine (callsIn_wide.2 (at_is s _ c _ HC.out)).mono ?_; rintro e w1 ⟨rfl, rfl⟩)
    | (refine ⟨trivial, ?_⟩; gi_at_call 175; refine (callsIn_wide.2 (side_is c y _ HY.out)).mono ?_; rintro e w1 ⟨rfl, rfl⟩)
    | (refine ⟨trivial, ?_⟩; gi_at_call 243; refine (callsIn_wide.2 (gcan_is s y a b true _ hT0 HN.out)).mono ?_; rintro e w2 ⟨rfl, hb⟩))
  have hB2 := hB.trans (hb.mono hB.size)
  have hS : w2.drew.cell? ⟨w.heap.size, 0, none⟩ = some (.int .i64 (a : Int)) ∧ w2.drew.cell? ⟨w.heap.size, 1, none⟩ = some (.int .i64 (b : Int)) ∧ Below w.heap.size w w2.drew := ⟨(bM.next hb).cell 0, (bM.next hb).cell 1, hB2.drew⟩
  have bR2 : Blk w2.drew (w.heap.size + 1) 4 #[.bool false] := (bR.next hb).next (Below.refl _ _).drew
  clear m0 m1 bM bR hB hT0
  refine wpIn_wide.2 ?_
  refine wp_region_held_drew (S := fun W => W.cell? ⟨w.heap.size, 0, none⟩ = some (.int .i64 (a : Int)) ∧ W.cell? ⟨w.heap.size, 1, none⟩ = some (.int .i64 (b : Int)) ∧ Below w.heap.size w W) (by kernel_rfl) (hS) (fun hHeld => ?_)
  refine wpAnyH_take (i := 0) (oi := { dst := some 16, op := Op.move (Operand.tmp 0), type := 9, pos := "guard.go:30", after := #[], guard := none }) (v := ?_) rfl (by kernel_rfl) (by kernel_rfl) (by kernel_rfl) (fun _ _ _ h => (hpn _ _ _ h).elim) (Or.inl ⟨by rfl, ?_⟩) (by assumption) ?_
  case refine_2 =>
    intro w hSw
    (try dsimp only at hSw)
    (try go_simp)
    all_goals (with_reducible rfl)
  (try dsimp only [Act.put]); (try simp only [List.setIfInBounds_toArray, List.set_cons_zero, List.set_cons_succ])
  refine wpAnyH_take (i := 1) (oi := { dst := some 17, op := Op.load 48 (Operand.tmp 3), type := 48, pos := "guard.go:30", after := #[], guard := none }) (v := ?_) rfl (by kernel_rfl) (by kernel_rfl) (by kernel_rfl) (fun _ _ _ h => (hpn _ _ _ h).elim) (Or.inl ⟨by rfl, ?_⟩) (by assumption) ?_
  case refine_2 =>
    intro w hSw
    (try dsimp only at hSw)
    (try go_simp)
    all_goals (with_reducible rfl)
  (try dsimp only [Act.put]); (try simp only [List.setIfInBounds_toArray, List.set_cons_zero, List.set_cons_succ])
  refine wpAnyH_take (i := 3) (oi := { dst := some 19, op := Op.move (Operand.tmp 5), type := 3, pos := "guard.go:30", after := #[], guard := none }) (v := ?_) rfl (by kernel_rfl) (by kernel_rfl) (by kernel_rfl) (fun _ _ _ h => (hpn _ _ _ h).elim) (Or.inl ⟨by rfl, ?_⟩) (by assumption) ?_
  case refine_2 =>
    intro w hSw
    (try dsimp only at hSw)
    (try go_simp)
    all_goals (with_reducible rfl)
  (try dsimp only [Act.put]); (try simp only [List.setIfInBounds_toArray, List.set_cons_zero, List.set_cons_succ])
  refine wpAnyH_take (i := 5) (oi := { dst := some 21, op := Op.fieldAddr 48 (Operand.tmp 3) 1, type := 0, pos := "guard.go:30", after := #[], guard := none }) (v := ?_) rfl (by kernel_rfl) (by kernel_rfl) (by kernel_rfl) (fun _ _ _ h => (hpn _ _ _ h).elim) (Or.inl ⟨by rfl, ?_⟩) (by assumption) ?_
  case refine_2 =>
    intro w hSw
    (try dsimp only at hSw)
    (try go_simp)
    all_goals (with_reducible rfl)
  (try dsimp only [Act.put]); (try simp only [List.setIfInBounds_toArray, List.set_cons_zero, List.set_cons_succ])
  refine wpAnyH_take (i := 6) (oi := { dst := some 22, op := Op.load 3 (Operand.tmp 21), type := 3, pos := "guard.go:30", after := #[{ on := 5, ground := Ground.data }], guard := none }) (v := ?_) rfl (by kernel_rfl) (by kernel_rfl) (by kernel_rfl) (fun _ _ _ h => (hpn _ _ _ h).elim) (Or.inl ⟨by rfl, ?_⟩) (by assumption) ?_
  case refine_2 =>
    intro w hSw
    (try dsimp only at hSw)
    (try go_simp)
    all_goals (with_reducible rfl)
  (try dsimp only [Act.put]); (try simp only [List.setIfInBounds_toArray, List.set_cons_zero, List.set_cons_succ])
  refine wpAnyH_ready (rs := [2, 7]) (by kernel_rfl) (by simp) (AllReadyH.cons (o := { dst := some 18, op := Op.call { callee := Callee.value (Operand.func 253), args := #[Operand.tmp 16, Operand.tmp 17], argTypes := #[9, 48] }, type := 9, pos := "guard.go:30", after := #[{ on := 0, ground := Ground.data }, { on := 1, ground := Ground.data }], guard := none }) rfl (fun K hK => ?rd1) (AllReadyH.cons (o := { dst := some 23, op := Op.buildSlice 106 1 #[(0, Operand.tmp 22)], type := 106, pos := "guard.go:30", after := #[{ on := 6, ground := Ground.data }], guard := none }) rfl (fun K hK => ?rd2) AllReadyH.nil))
  case' rd1 =>
    go_simp
    refine (HMV.out _).mono ?_; rintro e w3 ⟨rfl, hb⟩; replace bR2 := bR2.next hb; (try replace bG := bG.next hb)
    refine hK.out _ _ ?_ (fun hHeld => ?_)
    · exact mv2_keep hHeld hb
    clear hK K
    refine wpAnyH_ready (rs := [4, 7]) (by kernel_rfl) (by simp) (AllReadyH.cons (o := { dst := some 20, op := Op.call { callee := Callee.value (Operand.func 218), args := #[Operand.tmp 19], argTypes := #[3] }, type := 3, pos := "guard.go:30", after := #[{ on := 3, ground := Ground.data }, { on := 2, ground := Ground.chain }], guard := none }) rfl (fun K hK => ?rd3) (AllReadyH.cons (o := { dst := some 23, op := Op.buildSlice 106 1 #[(0, Operand.tmp 22)], type := 106, pos := "guard.go:30", after := #[{ on := 6, ground := Ground.data }], guard := none }) rfl (fun K hK => ?rd4) AllReadyH.nil))
    case' rd3 =>
      go_simp
      refine (gother_g y z _ hy0 hy1 HZ.out).mono ?_; rintro e w4 ⟨rfl, hb⟩; replace bR2 := bR2.next hb; (try replace bG := bG.next hb)
      refine hK.out _ _ ?_ (fun hHeld => ?_)
      · exact mv2_keep hHeld hb
      clear hK K
      refine wpAnyH_ready (rs := [7]) (by kernel_rfl) (by simp) (AllReadyH.cons (o := { dst := some 23, op := Op.buildSlice 106 1 #[(0, Operand.tmp 22)], type := 106, pos := "guard.go:30", after := #[{ on := 6, ground := Ground.data }], guard := none }) rfl (fun K hK => ?_) AllReadyH.nil)
      go_simp; have bG := goal_new (b := b) hHeld; replace bR2 := bR2.next (below_new _ (.cells #[.int .i64 (b : Int)] 3))
      refine hK.out _ _ ?_ (fun hHeld => ?_)
      · exact goal_keep hHeld
      clear hK K
      (try dsimp only [Act.put]); (try simp only [List.setIfInBounds_toArray, List.set_cons_zero, List.set_cons_succ])
      refine wpAnyH_ready (rs := [8]) (by kernel_rfl) (by simp) (AllReadyH.cons (o := { dst := some 24, op := Op.call { callee := Callee.value (Operand.func 217), args := #[Operand.tmp 18, Operand.tmp 20, Operand.tmp 23], argTypes := #[9, 3, 106] }, type := 178, pos := "guard.go:30", after := #[{ on := 2, ground := Ground.data }, { on := 4, ground := Ground.data }, { on := 7, ground := Ground.data }, { on := 4, ground := Ground.chain }], guard := none }) rfl (fun K hK => ?_) AllReadyH.nil)
      go_simp
      refine (gmoves_at q z _ 1 1 _).mono ?_; rintro e w5 ⟨rfl, hl3⟩; have hb := hl3.hb; have hTl := bR2.lt; replace bR2 := bR2.next hb; have bG3 := bG.next hb
      refine hK.out _ _ ?_ (fun hHeld => ?_)
      · exact mv2_keep hHeld hb
      clear hK K
      refine wpAnyH_done (by kernel_rfl) ?_ _
    case' rd4 =>
      go_simp; have bG := goal_new (b := b) hHeld; replace bR2 := bR2.next (below_new _ (.cells #[.int .i64 (b : Int)] 3))
      refine hK.out _ _ ?_ (fun hHeld => ?_)
      · exact goal_keep hHeld
      clear hK K
      (try dsimp only [Act.put]); (try simp only [List.setIfInBounds_toArray, List.set_cons_zero, List.set_cons_succ])
      refine wpAnyH_ready (rs := [4]) (by kernel_rfl) (by simp) (AllReadyH.cons (o := { dst := some 20, op := Op.call { callee := Callee.value (Operand.func 218), args := #[Operand.tmp 19], argTypes := #[3] }, type := 3, pos := "guard.go:30", after := #[{ on := 3, ground := Ground.data }, { on := 2, ground := Ground.chain }], guard := none }) rfl (fun K hK => ?_) AllReadyH.nil)
      go_simp
      refine (gother_g y z _ hy0 hy1 HZ.out).mono ?_; rintro e w4 ⟨rfl, hb⟩; replace bR2 := bR2.next hb; (try replace bG := bG.next hb)
      refine hK.out _ _ ?_ (fun hHeld => ?_)
      · exact mv2_keep hHeld hb
      clear hK K
      refine wpAnyH_ready (rs := [8]) (by kernel_rfl) (by simp) (AllReadyH.cons (o := { dst := some 24, op := Op.call { callee := Callee.value (Operand.func 217), args := #[Operand.tmp 18, Operand.tmp 20, Operand.tmp 23], argTypes := #[9, 3, 106] }, type := 178, pos := "guard.go:30", after := #[{ on := 2, ground := Ground.data }, { on := 4, ground := Ground.data }, { on := 7, ground := Ground.data }, { on := 4, ground := Ground.chain }], guard := none }) rfl (fun K hK => ?_) AllReadyH.nil)
      go_simp
      refine (gmoves_at q z _ 1 1 _).mono ?_; rintro e w5 ⟨rfl, hl3⟩; have hb := hl3.hb; have hTl := bR2.lt; replace bR2 := bR2.next hb; have bG3 := bG.next hb
      refine hK.out _ _ ?_ (fun hHeld => ?_)
      · exact mv2_keep hHeld hb
      clear hK K
      refine wpAnyH_done (by kernel_rfl) ?_ _
  case' rd2 =>
    go_simp; have bG := goal_new (b := b) hHeld; replace bR2 := bR2.next (below_new _ (.cells #[.int .i64 (b : Int)] 3))
    refine hK.out _ _ ?_ (fun hHeld => ?_)
    · exact goal_keep hHeld
    clear hK K
    (try dsimp only [Act.put]); (try simp only [List.setIfInBounds_toArray, List.set_cons_zero, List.set_cons_succ])
    refine wpAnyH_ready (rs := [2]) (by kernel_rfl) (by simp) (AllReadyH.cons (o := { dst := some 18, op := Op.call { callee := Callee.value (Operand.func 253), args := #[Operand.tmp 16, Operand.tmp 17], argTypes := #[9, 48] }, type := 9, pos := "guard.go:30", after := #[{ on := 0, ground := Ground.data }, { on := 1, ground := Ground.data }], guard := none }) rfl (fun K hK => ?_) AllReadyH.nil)
    go_simp
    refine (HMV.out _).mono ?_; rintro e w3 ⟨rfl, hb⟩; replace bR2 := bR2.next hb; (try replace bG := bG.next hb)
    refine hK.out _ _ ?_ (fun hHeld => ?_)
    · exact mv2_keep hHeld hb
    clear hK K
    refine wpAnyH_ready (rs := [4]) (by kernel_rfl) (by simp) (AllReadyH.cons (o := { dst := some 20, op := Op.call { callee := Callee.value (Operand.func 218), args := #[Operand.tmp 19], argTypes := #[3] }, type := 3, pos := "guard.go:30", after := #[{ on := 3, ground := Ground.data }, { on := 2, ground := Ground.chain }], guard := none }) rfl (fun K hK => ?_) AllReadyH.nil)
    go_simp
    refine (gother_g y z _ hy0 hy1 HZ.out).mono ?_; rintro e w4 ⟨rfl, hb⟩; replace bR2 := bR2.next hb; (try replace bG := bG.next hb)
    refine hK.out _ _ ?_ (fun hHeld => ?_)
    · exact mv2_keep hHeld hb
    clear hK K
    refine wpAnyH_ready (rs := [8]) (by kernel_rfl) (by simp) (AllReadyH.cons (o := { dst := some 24, op := Op.call { callee := Callee.value (Operand.func 217), args := #[Operand.tmp 18, Operand.tmp 20, Operand.tmp 23], argTypes := #[9, 3, 106] }, type := 178, pos := "guard.go:30", after := #[{ on := 2, ground := Ground.data }, { on := 4, ground := Ground.data }, { on := 7, ground := Ground.data }, { on := 4, ground := Ground.chain }], guard := none }) rfl (fun K hK => ?_) AllReadyH.nil)
    go_simp
    refine (gmoves_at q z _ 1 1 _).mono ?_; rintro e w5 ⟨rfl, hl3⟩; have hb := hl3.hb; have hTl := bR2.lt; replace bR2 := bR2.next hb; have bG3 := bG.next hb
    refine hK.out _ _ ?_ (fun hHeld => ?_)
    · exact mv2_keep hHeld hb
    clear hK K
    refine wpAnyH_done (by kernel_rfl) ?_ _
  all_goals
    obtain ⟨_, _, hB5⟩ := hHeld
    have hM := moves_laid hl3 bG3 bR2 (hT.below hB5 hg) hTl (by omega)
    clear bG3 hS hb hB2 bG
    gi_wp2
    refine wpIn_rangeFunc_skip hro (by decide) (gf := 242) (lb := _) rfl trivial (enters_of Tryz.func242 (by kernel_rfl) rfl)
      (moves_stops 4 (by decide) _ (w.heap.size + 1) _ q z _ [b] 1 _ hM (by simp; omega) (by simp) (Nat.le_refl _)) KeptT.trans KeptT.put (Below.refl _ _) (fun _ => rfl)
      (fun pre W => pre = [] ∧ Blk W (w.heap.size + 1) 4 #[.bool false] ∧ Below w.heap.size w W)
      (fun c pre W => c = .ret ∧ Blk W (w.heap.size + 1) 4 #[.bool true] ∧ pre ≠ [] ∧ Below w.heap.size w W)
      (OwnFrom.and (ownFrom_pure _ _) (OwnFrom.and (Own.from (blk_own _ _ _) _) (ownFrom_below (Nat.le_refl _) hB5.size)))
      (fun c => OwnFrom.and (ownFrom_pure _ _) (OwnFrom.and (Own.from (blk_own _ _ _) _) (OwnFrom.and (ownFrom_pure _ _) (ownFrom_below (Nat.le_refl _) hB5.size))))
      ⟨rfl, bR2, hB5⟩ ?body ?done ?stop
    case body =>
      rintro l pre x W ⟨rfl, bR, hB⟩ hlt
      have f0 := bR.frozen 0
      have r0 : W.cell? ⟨w.heap.size + 1, 0, none⟩ = some (.bool false) := bR.cell 0
      gi_wp2
      exact ⟨(KeepsOthers.setCell _ _ _).from _, rfl, bR.set_ 0 (.bool true), by simp, hB.setCell (p := ⟨w.heap.size + 1, 0, none⟩) (by simp) _⟩
    case done =>
      rintro D ys W hD hys ⟨hn, bR, hB⟩ hK
      have f0 := bR.frozen 0
      have r0 : W.cell? ⟨w.heap.size + 1, 0, none⟩ = some (.bool false) := bR.cell 0
      have hfin : v = false := by
        rw [← HV.out, ← hys, hn]
        rfl
      have HF := Lib.hid hfin
      clear hfin hys hn
      gi_wp2
      refine hQ _ _ _ (fun x e => by cases e) ?_
      have hK2 := (KeepsOthers.setCell W ⟨w.heap.size + 1, 0, none⟩ (.bool false)).same D _ hK rfl
      have bR2 := (bR.set_ 0 (.bool false)).put (.deferred none) hK2 rfl
      refine ⟨by simp, .inl ⟨_, _, rfl, run_takeDeferred hK2, ?_⟩⟩
      refine ⟨.bool false, by simp [results, Tryz.results254, go_sem, bR2.cell 0], by rw [HF.out], ?_⟩
      exact (hB.setCell (p := ⟨w.heap.size + 1, 0, none⟩) (by simp) _).trans (belowK_b (w := w) (Nat.le_refl _) _ D _ _ (by have := hB5.size; omega) hK2 rfl rfl)
    case stop =>
      rintro D c pre W hD hpre ⟨rfl, bR, hne, hB⟩ hK
      have hfin : v = true := by
        rw [← HV.out]
        obtain ⟨r, hr⟩ := hpre
        rw [← hr]
        cases pre with
        | nil => exact absurd rfl hne
        | cons x p => rfl
      have HF := Lib.hid hfin
      clear hfin hpre hne
      have r0 : W.cell? ⟨w.heap.size + 1, 0, none⟩ = some (.bool true) := bR.cell 0
      gi_wp2
      refine hQ _ _ _ (fun x e => by cases e) ?_
      have bR2 := bR.put (.deferred none) hK rfl
      refine ⟨by simp, .inl ⟨_, _, rfl, run_takeDeferred hK, ?_⟩⟩
      refine ⟨.bool true, by simp [results, Tryz.results254, go_sem, bR2.cell 0], by rw [HF.out], ?_⟩
      exact hB.trans (belowK_b (w := w) (Nat.le_refl _) _ D _ _ (by have := hB5.size; omega) hK rfl rfl)
theorem gguard_any (s : ByteArray) (a b : Int) (w : World) (hT : Tab w) : Calls Tryz.prog 254 #[.string s, .agg #[.int .i64 a, .int .i64 b]] w (Gives w (.bool (guardI s a b))) := by
  cases h : couldI s (sideN (atB s a)) a b
  · rw [guard_none h]
    exact gguard_no s a b _ _ w hT rfl rfl h
  · obtain ⟨hs, ⟨a0, a1⟩, ⟨b0, b1⟩, he, hc⟩ := guard_side h
    obtain ⟨x, rfl⟩ : ∃ x : Nat, a = x := ⟨a.toNat, by omega⟩
    obtain ⟨y, rfl⟩ : ∃ y : Nat, b = y := ⟨b.toNat, by omega⟩
    simp only [Int.toNat_natCast] at he hc
    have hx : x < 90 := by omega
    have hy : y < 90 := by omega
    have hsd := could_sides hc
    have hv : guardI s (x : Int) (y : Int) = againB (behindS s (x, y)) (1 - sideN (bAt s x)) y := by
      rw [guardI_nat hs hx hy]
      unfold guardB
      rw [hc, Bool.true_and]
    rw [hv]
    refine callsIn_wide.1 (gguard_in s _ x y _ _ _ _ w hT hs hx hy he rfl ?_ (by omega) (by omega) rfl rfl (moved_board hs (bAt_lt s x) (isB_fill hs x hx)) rfl)
    rw [← he]
    exact h
theorem gguard_is (s : ByteArray) (a b : Int) (v : Bool) (w : World) (hT : Tab w) (h : guardI s a b = v) : Calls Tryz.prog 254 #[.string s, .agg #[.int .i64 a, .int .i64 b]] w (Gives w (.bool v)) := by subst h; exact gguard_any s a b w hT
theorem gtakes_is (s : ByteArray) (side : Int) (l : List (Nat × Nat)) (n : Nat) (w : World) (hT : Tab w) (hl : takesG s side = l) (hn : l.length = n) : Calls Tryz.prog 195 #[.string s, .int .i64 side] w (OwnM w l n) := callsIn_wide.1 (gtakes_in s side l n w hT hl hn)
end Go.Proofs.YtbdgbihdhbjljaaGreatDoor
