/- Moves as pieces reach, plainly; what is behind a move is right. No program in it. -/
import Derived.Test.YtbdgbihdhbjljaaGreatDoorReachB
namespace Go.Proofs.YtbdgbihdhbjljaaGreatDoor

/-- The squares that are reached from one; the moves of a side. -/
def reachN (s : ByteArray) (a : Nat) : List Nat := (List.range 90).filter fun b => canB s a b
def movesOf (s : ByteArray) (side : Int) (a : Nat) : List (Nat × Nat) := if sideN (bAt s a) = side then (reachN s a).map fun b => (a, b) else []
def movesN (s : ByteArray) (side : Int) : List (Nat × Nat) := (List.range 90).flatMap (movesOf s side)
/-- What is behind a move of a position. -/
def clockA (s : ByteArray) (clock : Int) (b : Nat) : Int := if bAt s b = 46 then min (clock + 1) 120 else 0
def fullA (side full : Int) : Int := if side = 1 then min (full + 1) 9999 else full
def takenN (s : ByteArray) (b : Nat) : Nat := if bAt s b = 46 then 0 else bAt s b
theorem moves_mem {s : ByteArray} {side : Int} {a b : Nat} : (a, b) ∈ movesN s side ↔ a < 90 ∧ b < 90 ∧ sideN (bAt s a) = side ∧ canB s a b = true := by
  simp only [movesN, List.mem_flatMap, List.mem_range, movesOf]
  constructor
  · rintro ⟨x, hx, h⟩
    split at h
    · rename_i hs
      simp only [reachN, List.mem_map, List.mem_filter, List.mem_range, Prod.mk.injEq] at h
      obtain ⟨y, ⟨hy, hc⟩, rfl, rfl⟩ := h
      exact ⟨hx, hy, hs, hc⟩
    · simp at h
  · rintro ⟨ha, hb, hs, hc⟩
    refine ⟨a, ha, ?_⟩
    rw [if_pos hs]
    simp only [reachN, List.mem_map, List.mem_filter, List.mem_range, Prod.mk.injEq]
    exact ⟨b, ⟨hb, hc⟩, trivial, rfl⟩
theorem cnt_moved {s : ByteArray} (hz : s.size = 90) {a b x : Nat} (ha : a < 90) (hb : b < 90) (hne : a ≠ b) (hx : x ≠ 46) : cntN (movedS s a b (bAt s a)) 90 x + (if bAt s b = x then 1 else 0) = cntN s 90 x := by
  have hlt := bAt_lt s a
  have h1 := cnt_put (s := s) (k := a) (c := 46) (by decide) x 90 ha (by omega)
  have h2 := cnt_put (s := putS s a 46) (k := b) (c := bAt s a) hlt x 90 hb (by rw [put_size]; omega)
  have e1 : bAt (putS s a 46) b = bAt s b := by rw [put_at s a 46 b (by decide) (by omega), if_neg (fun e => hne e.symm)]
  have e2 : (if 46 = x then 1 else 0) = 0 := if_neg (fun e => hx e.symm)
  rw [e1] at h2
  rw [e2] at h1
  unfold movedS
  omega
theorem kind_k {c : Nat} (h : c = 75 ∨ c = 107) : kindN c = 75 := by
  rcases h with rfl | rfl <;> decide
theorem counts_moved {s : ByteArray} (hz : s.size = 90) (h : countsB s 90 = true) {a b : Nat} (ha : a < 90) (hb : b < 90) (hne : a ≠ b) (hk : kindN (bAt s b) ≠ 75) : countsB (movedS s a b (bAt s a)) 90 = true := by
  obtain ⟨h1, h2, h3⟩ := counts_parts h
  have hle : ∀ x, x ≠ 46 → cntN (movedS s a b (bAt s a)) 90 x ≤ cntN s 90 x := fun x hx => by
    have := cnt_moved hz ha hb hne hx
    omega
  have hsame : ∀ x, x = 75 ∨ x = 107 → cntN (movedS s a b (bAt s a)) 90 x = cntN s 90 x := fun x hx => by
    have := cnt_moved hz ha hb hne (x := x) (by rcases hx with rfl | rfl <;> decide)
    rw [if_neg (fun e => hk (by rw [e]; exact kind_k hx))] at this
    omega
  refine counts_of (fun c hc => ?_) ?_ ?_
  · have hc2 : c ≠ 46 ∧ c + 32 ≠ 46 := by
      simp only [kindsL, List.mem_cons, List.not_mem_nil, or_false] at hc
      omega
    have := h1 c hc
    exact ⟨Nat.le_trans (hle c hc2.1) this.1, Nat.le_trans (hle (c + 32) hc2.2) this.2⟩
  · rw [hsame 75 (.inl rfl)]
    exact h2
  · rw [hsame 107 (.inr rfl)]
    exact h3
/-- A piece may stand where it goes, if it may stand where it is. -/
theorem may_goes {s : ByteArray} {c a b : Nat} (hb : b < 90) (hc : 0 ≤ sideN c) (hm : mayB c (a : Int) = true) (h : goesB s c a b = true) : mayB c (b : Int) = true := by
  have h01 := side_cases01 hc
  have hreal : realB (b : Int) (sideN c) = true := real_sq (by omega) h01
  unfold goesB at h
  rcases kinds_of hc with e | e | e | e | e | e | e
  · rw [if_pos e, Bool.and_eq_true] at h
    exact h.2
  · rw [if_neg (by omega), if_pos e, Bool.and_eq_true] at h
    exact h.2
  · rw [if_neg (by omega), if_neg (by omega), if_pos e, Bool.and_eq_true, Bool.and_eq_true] at h
    exact h.1.2
  · rw [mayB, hreal, e]
    rfl
  · rw [mayB, hreal, e]
    rfl
  · rw [mayB, hreal, e]
    rfl
  · rw [if_neg (by omega), if_neg (by omega), if_neg (by omega), if_neg (by omega), if_neg (by omega), if_neg (by omega)] at h
    rw [mayB, e, Bool.and_eq_true] at hm
    have hm2 : pawnP (seenF (a : Int) (sideN c)) (seenR (a : Int) (sideN c)) = true := hm.2
    rw [mayB, hreal, e, Bool.true_and]
    show pawnP (seenF (b : Int) (sideN c)) (seenR (b : Int) (sideN c)) = true
    simp only [pawnB, Bool.or_eq_true, Bool.and_eq_true, beq_iff_eq] at h
    simp only [pawnP, Bool.or_eq_true, Bool.and_eq_true, decide_eq_true_eq, beq_iff_eq] at hm2 ⊢
    rcases h with h | ⟨⟨ho, hr⟩, _⟩
    · rcases h01 with e1 | e1
      · rw [if_neg (by omega), beq_iff_eq] at h
        rw [e1] at hm2 ⊢
        have hf : (b : Int) % 9 = (a : Int) % 9 := by omega
        have hr : (b : Int) / 9 = (a : Int) / 9 + 1 := by omega
        simp only [seenF, seenR, show ((0 : Int) = 1) = False by simp, if_false] at hm2 ⊢
        rw [hf, hr]
        generalize (a : Int) / 9 = u at hm2 ⊢
        omega
      · rw [if_pos e1, beq_iff_eq] at h
        rw [e1] at hm2 ⊢
        have hf : (b : Int) % 9 = (a : Int) % 9 := by omega
        have hr : (b : Int) / 9 = (a : Int) / 9 - 1 := by omega
        simp only [seenF, seenR, if_true] at hm2 ⊢
        rw [hf, hr]
        generalize (a : Int) / 9 = u at hm2 ⊢
        omega
    · left
      simp only [overB, Bool.and_eq_true, decide_eq_true_eq] at ho
      have h5 := ho.2
      rcases h01 with e1 | e1
      · rw [e1] at h5 ⊢
        simp only [seenR, show ((0 : Int) = 1) = False by simp, if_false] at h5 ⊢
        omega
      · rw [e1] at h5 ⊢
        simp only [seenR, if_true] at h5 ⊢
        omega
theorem places_at {s : ByteArray} (h : placesB s 90 = true) {k : Nat} (hk : k < 90) (h0 : kindN (bAt s k) ≠ 0) : mayB (bAt s k) (k : Int) = true := by
  unfold placesB at h
  have := List.all_eq_true.1 h k (List.mem_range.2 hk)
  simpa [h0] using this
theorem places_moved {s : ByteArray} (hz : s.size = 90) (h : placesB s 90 = true) {a b : Nat} (ha : a < 90) (hb : b < 90) (hcan : canB s a b = true) : placesB (movedS s a b (bAt s a)) 90 = true := by
  have hlt := bAt_lt s a
  obtain ⟨h1, _, h3⟩ := can_parts hcan
  have hk0 : kindN (bAt s a) ≠ 0 := by
    rcases kinds_of h1 with e | e | e | e | e | e | e <;> omega
  refine places_yes fun k hk => ?_
  rw [moved_at hz hlt hk]
  by_cases e1 : k = b
  · rw [if_pos e1, e1, may_goes hb h1 (places_at h ha hk0) h3, Bool.or_true]
  · rw [if_neg e1]
    by_cases e2 : k = a
    · rw [if_pos e2]
      rfl
    · rw [if_neg e2]
      by_cases h0 : kindN (bAt s k) = 0
      · rw [h0]
        rfl
      · rw [places_at h hk h0, Bool.or_true]
/-- What is behind a move that takes no general is right. -/
theorem check_moved {s : ByteArray} {side clock full : Int} (h : (checkN s side clock full : Int) = 0) {a b : Nat} (ha : a < 90) (hb : b < 90) (hcan : canB s a b = true) (hk : kindN (bAt s b) ≠ 75) : (checkN (movedS s a b (bAt s a)) (1 - side) (clockA s clock b) (fullA side full) : Int) = 0 := by
  obtain ⟨hp, hc, hpl⟩ := check_zero h
  have hboard := parts_board hp
  have hz := isB_size hboard
  have hnum : (side = 0 ∨ side = 1) ∧ 0 ≤ clock ∧ clock ≤ 120 ∧ 1 ≤ full ∧ full ≤ 9999 := by
    simp only [partsB, Bool.and_eq_true, Bool.or_eq_true, beq_iff_eq, decide_eq_true_eq] at hp
    exact ⟨hp.1.1.1.1.2, hp.1.1.1.2, hp.1.1.2, hp.1.2, hp.2⟩
  obtain ⟨h1, h2, h3, h4, h5⟩ := hnum
  have hb2 : isB (movedS s a b (bAt s a)) = true := moved_board hboard (bAt_lt s a) (isB_fill hboard a ha)
  have hparts : partsB (movedS s a b (bAt s a)) (1 - side) (clockA s clock b) (fullA side full) = true := by
    refine parts_true hb2 (by rcases h1 with rfl | rfl <;> rfl) ?_ ?_ ?_ ?_
    · unfold clockA; split <;> omega
    · unfold clockA; split <;> omega
    · unfold fullA; split <;> omega
    · unfold fullA; split <;> omega
  rw [checkN, hparts, counts_moved hz hc ha hb (can_self hcan) hk, places_moved hz hpl ha hb hcan]
  rfl
/-- Seen from the other side the moves are the same, the last one first. -/
theorem range_back : (List.range 90).reverse = (List.range 90).map fun k => 89 - k := by decide +kernel
theorem filt_back (q : Nat → Bool) : ((List.range 90).filter fun b => q (89 - b)) = (((List.range 90).filter q).map fun k => 89 - k).reverse := by
  rw [← List.map_reverse, ← List.filter_reverse, range_back, List.filter_map, List.map_map]
  have e : ∀ l : List Nat, (∀ k ∈ l, k < 90) → l.map ((fun k => 89 - k) ∘ fun k => 89 - k) = l := fun l hl => by
    conv => rhs; rw [← List.map_id l]
    refine List.map_congr_left fun k hk => ?_
    have := hl k hk
    simp only [Function.comp, id]
    omega
  rw [e _ fun k hk => List.mem_range.1 (List.mem_filter.1 hk).1]
  rfl
def turnM (m : Nat × Nat) : Nat × Nat := (89 - m.1, 89 - m.2)
theorem reach_turn {s : ByteArray} (h : isB s = true) {a : Nat} (ha : a < 90) : reachN (turnB s) (89 - a) = ((reachN s a).map fun k => 89 - k).reverse := by
  unfold reachN
  rw [← filt_back]
  refine List.filter_congr fun b hb => ?_
  have hb := List.mem_range.1 hb
  have := can_turn h (a := a) (b := 89 - b) ha (by omega)
  rw [← this]
  congr 1
  omega
theorem side_turn {s : ByteArray} (h : isB s = true) {a : Nat} (ha : a < 90) {side : Int} (hs : side = 0 ∨ side = 1) : (sideN (bAt (turnB s) (89 - a)) = 1 - side) = (sideN (bAt s a) = side) := by
  rw [turn_bAt h ha]
  by_cases hd : sideN (bAt s a) = -1
  · have : sideN (swapN (bAt s a)) = -1 := by
      rcases byte_cases (bAt s a) with ⟨kb, kr, h⟩ | e | e | e | e | e | e | e | e | e | e | e | e | e | e
      · simp [swapN, sideN, kb, kr]
      all_goals
        rw [e] at hd
        exact absurd hd (by decide)
    rw [this, hd]
    apply propext
    omega
  · rw [swap_side _ hd]
    apply propext
    omega
theorem movesOf_turn {s : ByteArray} (h : isB s = true) {a : Nat} (ha : a < 90) {side : Int} (hs : side = 0 ∨ side = 1) : movesOf (turnB s) (1 - side) (89 - a) = ((movesOf s side a).map turnM).reverse := by
  unfold movesOf
  by_cases e : sideN (bAt s a) = side
  · rw [if_pos e, if_pos (by rw [side_turn h ha hs]; exact e), reach_turn h ha, List.map_reverse, List.map_map, List.map_map]
    rfl
  · rw [if_neg e, if_neg (by rw [side_turn h ha hs]; exact e)]
    rfl
theorem moves_turn {s : ByteArray} (h : isB s = true) {side : Int} (hs : side = 0 ∨ side = 1) : movesN (turnB s) (1 - side) = ((movesN s side).map turnM).reverse := by
  unfold movesN
  rw [List.map_flatMap, List.reverse_flatMap, range_back, List.flatMap_map]
  rw [List.flatMap_def, List.flatMap_def]
  congr 1
  refine List.map_congr_left fun a ha => ?_
  have ha := List.mem_range.1 ha
  have := movesOf_turn h (a := 89 - a) (by omega) hs
  rw [show 89 - (89 - a) = a by omega] at this
  rw [this]
  rfl
end Go.Proofs.YtbdgbihdhbjljaaGreatDoor
