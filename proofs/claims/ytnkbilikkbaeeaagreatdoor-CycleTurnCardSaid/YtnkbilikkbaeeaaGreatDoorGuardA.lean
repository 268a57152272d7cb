/- What a side could do, whosever move it is; what it could take; what is guarded: plainly; and what follows. No program in it. -/
import Derived.Test.YtnkbilikkbaeeaaGreatDoorLegalM
namespace Go.Proofs.YtnkbilikkbaeeaaGreatDoor

/-- Whether a side could make a move. -/
def couldB (s : ByteArray) (side : Int) (a b : Nat) : Bool := (sideN (bAt s a) == side) && canB s a b && legalB s side (a, b)
def couldI (s : ByteArray) (side a b : Int) : Bool := isB s && sqI a && sqI b && couldB s side a.toNat b.toNat
/-- What a side could take. -/
def takesG (s : ByteArray) (side : Int) : List (Nat × Nat) := if isB s && ((side == 0) || (side == 1)) then (legalN s side).filter fun m => bAt s m.2 != 46 else []
/-- What is guarded: the other side could go there behind it. -/
def againB (s : ByteArray) (side : Int) (b : Nat) : Bool := (List.range 90).any fun n => couldB s side n b
def guardB (s : ByteArray) (a b : Nat) : Bool := couldB s (sideN (bAt s a)) a b && againB (behindS s (a, b)) (1 - sideN (bAt s a)) b
def guardI (s : ByteArray) (a b : Int) : Bool := isB s && sqI a && sqI b && guardB s a.toNat b.toNat

theorem could_parts {s : ByteArray} {side : Int} {a b : Nat} : couldB s side a b = true ↔ sideN (bAt s a) = side ∧ canB s a b = true ∧ kindN (bAt s b) ≠ 75 ∧ safeB (behindS s (a, b)) side = true := by
  unfold couldB legalB
  simp only [Bool.and_eq_true, beq_iff_eq, bne_iff_ne, ne_eq]
  constructor
  · rintro ⟨⟨h1, h2⟩, h3, h4⟩
    exact ⟨h1, h2, h3, h4⟩
  · rintro ⟨h1, h2, h3, h4⟩
    exact ⟨⟨h1, h2⟩, h3, h4⟩
theorem could_legal {s : ByteArray} {side : Int} {a b : Nat} (ha : a < 90) (hb : b < 90) : couldB s side a b = true ↔ (a, b) ∈ legalN s side := by
  rw [could_parts, legal_mem]
  constructor
  · rintro ⟨h1, h2, h3, h4⟩
    exact ⟨ha, hb, h1, h2, h3, h4⟩
  · rintro ⟨_, _, h1, h2, h3, h4⟩
    exact ⟨h1, h2, h3, h4⟩
theorem could_sides {s : ByteArray} {side : Int} {a b : Nat} (h : couldB s side a b = true) : side = 0 ∨ side = 1 := by
  obtain ⟨h1, h2, _⟩ := could_parts.1 h
  unfold canB at h2
  simp only [Bool.and_eq_true, decide_eq_true_eq] at h2
  have := sideN_ge (bAt s a)
  omega
theorem sqI_iff {n : Int} : sqI n = true ↔ 0 ≤ n ∧ n < 90 := by
  unfold sqI
  rw [Bool.and_eq_true, decide_eq_true_eq, decide_eq_true_eq]
theorem couldI_parts {s : ByteArray} {side a b : Int} (h : couldI s side a b = true) : isB s = true ∧ (0 ≤ a ∧ a < 90) ∧ (0 ≤ b ∧ b < 90) ∧ couldB s side a.toNat b.toNat = true := by
  unfold couldI at h
  simp only [Bool.and_eq_true, sqI_iff] at h
  exact ⟨h.1.1.1, h.1.1.2, h.1.2, h.2⟩
theorem couldI_nat {s : ByteArray} (hs : isB s = true) {side : Int} {a b : Nat} (ha : a < 90) (hb : b < 90) : couldI s side (a : Int) (b : Int) = couldB s side a b := by
  unfold couldI
  rw [hs, sqI_true (by omega), sqI_true (by omega), Int.toNat_natCast, Int.toNat_natCast]
  rfl
theorem couldI_none {s : ByteArray} {side a b : Int} (h : ¬ (side = 0 ∨ side = 1)) : couldI s side a b = false := by
  cases e : couldI s side a b
  · rfl
  · exact absurd (could_sides (couldI_parts e).2.2.2) h
theorem could_one {s : ByteArray} {a b : Int} (h0 : couldI s 0 a b = true) : couldI s 1 a b = false := by
  cases e : couldI s 1 a b
  · rfl
  · have h1 := (could_parts.1 (couldI_parts h0).2.2.2).1
    have h2 := (could_parts.1 (couldI_parts e).2.2.2).1
    rw [h1] at h2
    cases h2
theorem guardI_could {s : ByteArray} {a b : Int} (h : guardI s a b = true) : couldI s (sideN (bAt s a.toNat)) a b = true := by
  unfold guardI guardB at h
  simp only [Bool.and_eq_true] at h
  unfold couldI
  simp only [Bool.and_eq_true]
  exact ⟨h.1, h.2.1⟩
theorem guardI_nat {s : ByteArray} (hs : isB s = true) {a b : Nat} (ha : a < 90) (hb : b < 90) : guardI s (a : Int) (b : Int) = guardB s a b := by
  unfold guardI
  rw [hs, sqI_true (by omega), sqI_true (by omega), Int.toNat_natCast, Int.toNat_natCast]
  rfl
theorem takes_mem {s : ByteArray} {side : Int} {a b : Nat} : (a, b) ∈ takesG s side ↔ isB s = true ∧ a < 90 ∧ b < 90 ∧ couldB s side a b = true ∧ bAt s b ≠ 46 := by
  unfold takesG
  by_cases h : (isB s && ((side == 0) || (side == 1))) = true
  · rw [if_pos h, List.mem_filter, legal_mem, bne_iff_ne]
    have hb : isB s = true := by
      rw [Bool.and_eq_true] at h
      exact h.1
    constructor
    · rintro ⟨⟨h1, h2, h3, h4, h5, h6⟩, h7⟩
      exact ⟨hb, h1, h2, could_parts.2 ⟨h3, h4, h5, h6⟩, h7⟩
    · rintro ⟨_, h1, h2, h3, h7⟩
      exact ⟨legal_mem.1 ((could_legal h1 h2).1 h3), h7⟩
  · rw [if_neg h]
    constructor
    · intro hm
      cases hm
    · rintro ⟨h1, _, _, h3, _⟩
      have := could_sides h3
      refine absurd ?_ h
      rw [h1, Bool.true_and, Bool.or_eq_true, beq_iff_eq, beq_iff_eq]
      exact this
theorem takes_len (s : ByteArray) (side : Int) : (takesG s side).length ≤ 8100 := by
  unfold takesG
  split
  · refine Nat.le_trans (List.length_filter_le _ _) ?_
    unfold legalN
    refine Nat.le_trans (List.length_filter_le _ _) ?_
    unfold movesN
    rw [List.length_flatMap]
    have h1 : ∀ a, (movesOf s side a).length ≤ 90 := fun a => by
      unfold movesOf
      split
      · rw [List.length_map]
        exact Nat.le_trans (List.length_filter_le _ _) (by simp)
      · simp
    have h2 : ∀ l : List Nat, (l.map fun a => (movesOf s side a).length).sum ≤ l.length * 90 := fun l => by
      induction l with
      | nil => simp
      | cons x r ih =>
        simp only [List.map_cons, List.sum_cons, List.length_cons]
        have := h1 x
        omega
    have := h2 (List.range 90)
    simpa using this
  · simp
/-- A move's own side is not on the square that it goes to. -/
theorem could_to {s : ByteArray} (hs : isB s = true) {side : Int} {a b : Nat} (hb : b < 90) (h : couldB s side a b = true) (h46 : bAt s b ≠ 46) : sideN (bAt s b) = 1 - side := by
  obtain ⟨h1, h2, _⟩ := could_parts.1 h
  have hsd := could_sides h
  unfold canB at h2
  simp only [Bool.and_eq_true, bne_iff_ne, ne_eq, decide_eq_true_eq] at h2
  have hf := isB_fill hs b hb
  rw [fill_side, Bool.or_eq_true, beq_iff_eq, decide_eq_true_eq] at hf
  have h3 := sideN_ge (bAt s b)
  have h4 := h2.1.2
  rw [h1] at h4
  rcases hf with hf | hf
  · exact absurd hf h46
  · omega
theorem fmap_filter {α β : Type} (p : β → Bool) (f : α → List β) (l : List α) : (l.flatMap f).filter p = l.flatMap fun a => (f a).filter p := by
  induction l with
  | nil => rfl
  | cons x r ih => rw [List.flatMap_cons, List.flatMap_cons, List.filter_append, ih]
theorem fmap_if {α β : Type} (q : α → Bool) (f : α → List β) (l : List α) (h : ∀ x ∈ l, q x = false → f x = []) : (l.filter q).flatMap f = l.flatMap f := by
  induction l with
  | nil => rfl
  | cons x r ih =>
    rw [List.filter_cons, List.flatMap_cons]
    have ih := ih fun y hy => h y (List.mem_cons_of_mem _ hy)
    cases e : q x
    · rw [if_neg (by simp), ih, h x (by simp) e]
      rfl
    · rw [if_pos rfl, List.flatMap_cons, ih]
theorem of_side15 {c : Nat} {side : Int} (h : 0 ≤ side) : ofSide c side = (sideN c == side) := by
  unfold ofSide
  by_cases e : sideN c = side
  · have h46 : (c != 46) = true := by
      rw [bne_iff_ne]
      rintro rfl
      rw [show sideN 46 = -1 by decide] at e
      omega
    rw [h46, Bool.true_and]
  · have : (sideN c == side) = false := by rw [beq_eq_false_iff_ne]; exact e
    rw [this, Bool.and_false]
/-- What is gone through: the side's own pieces, and from each one the goals. -/
def goG (s : ByteArray) (side : Int) (goals : List Nat) (a : Nat) : List (Nat × Nat) := (goals.filter fun b => couldB s side a b).map fun b => (a, b)
def ownN (s : ByteArray) (side : Int) : List Nat := (List.range 90).filter fun k => ofSide (bAt s k) side
theorem takes_gone {s : ByteArray} (hs : isB s = true) {side : Int} (h : side = 0 ∨ side = 1) : (ownN s side).flatMap (goG s side (ownN s (1 - side))) = takesG s side := by
  unfold takesG legalN movesN
  rw [hs, show (true && ((side == 0) || (side == 1))) = true by rcases h with rfl | rfl <;> rfl, if_pos rfl, List.filter_filter, fmap_filter]
  unfold ownN
  rw [fmap_if]
  · rw [List.flatMap_def, List.flatMap_def]
    congr 1
    refine List.map_congr_left fun a ha => ?_
    have ha := List.mem_range.1 ha
    unfold goG movesOf
    by_cases e : sideN (bAt s a) = side
    · rw [if_pos e]
      unfold reachN
      rw [List.filter_map, List.filter_filter, List.filter_filter]
      congr 1
      refine List.filter_congr fun b hb => ?_
      have hb := List.mem_range.1 hb
      show (couldB s side a b && ofSide (bAt s b) (1 - side)) = (((bAt s b != 46) && legalB s side (a, b)) && canB s a b)
      rw [Bool.eq_iff_iff]
      rw [of_side15 (by omega), Bool.and_eq_true, Bool.and_eq_true, Bool.and_eq_true, beq_iff_eq, bne_iff_ne]
      constructor
      · rintro ⟨h1, h2⟩
        have h3 := h1
        unfold couldB at h1
        simp only [Bool.and_eq_true] at h1
        refine ⟨⟨?_, h1.2⟩, h1.1.2⟩
        rintro e46
        rw [e46, show sideN 46 = -1 by decide] at h2
        omega
      · rintro ⟨⟨h1, h2⟩, h3⟩
        have h4 : couldB s side a b = true := by
          unfold couldB
          rw [h2, h3, e]
          simp
        exact ⟨h4, could_to hs hb h4 h1⟩
    · rw [if_neg e]
      have : ∀ b, couldB s side a b = false := fun b => by
        cases e2 : couldB s side a b
        · rfl
        · exact absurd (could_parts.1 e2).1 e
      simp [this]
  · intro a _ hq
    rw [of_side15 (by omega), beq_eq_false_iff_ne] at hq
    unfold goG
    have : ∀ b, couldB s side a b = false := fun b => by
      cases e2 : couldB s side a b
      · rfl
      · exact absurd (could_parts.1 e2).1 hq
    simp [this]
/-- Of one goal: whether somebody of the side could go there. -/
theorem gone_one {s : ByteArray} {side : Int} (h : 0 ≤ side) {b : Nat} : againB s side b = (ownN s side).any fun n => couldB s side n b := by
  unfold againB ownN
  rw [Bool.eq_iff_iff, List.any_eq_true, List.any_eq_true]
  constructor
  · rintro ⟨n, hn, hc⟩
    refine ⟨n, List.mem_filter.2 ⟨hn, ?_⟩, hc⟩
    rw [of_side15 h, beq_iff_eq]
    exact (could_parts.1 hc).1
  · rintro ⟨n, hn, hc⟩
    exact ⟨n, (List.mem_filter.1 hn).1, hc⟩
end Go.Proofs.YtnkbilikkbaeeaaGreatDoor
