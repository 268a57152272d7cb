/- Generals that face one another; moves that may be made, plainly; and what follows. No program in it. -/
import Derived.Test.YtbfkkedcjodceaaDoorCheckA
namespace Go.Proofs.YtbfkkedcjodceaaDoor

theorem find_same {p q : Nat → Bool} : ∀ {l : List Nat}, (∀ k ∈ l, p k = q k) → l.find? p = l.find? q
  | [], _ => rfl
  | x :: r, h => by
    rw [List.find?_cons, List.find?_cons, h x (by simp), find_same fun k hk => h k (by simp [hk])]
theorem facing_parts {s : ByteArray} (h : facingB s = true) : ∃ a b, Two s a b ∧ isB s = true ∧ a % 9 = b % 9 ∧ betweenN s a b = 0 := by
  unfold facingB at h
  cases ha : leastN s 75 with
  | none => rw [ha] at h; cases h
  | some a =>
    cases hb : leastN s 107 with
    | none => rw [ha, hb] at h; cases h
    | some b =>
      rw [ha, hb] at h
      simp only [Bool.and_eq_true, beq_iff_eq] at h
      exact ⟨a, b, ⟨(least_some ha).1, (least_some hb).1, ha, hb⟩, h.1.1, h.1.2, h.2⟩
theorem between_zero {s : ByteArray} {a b n : Nat} (h : betweenN s a b = 0) (hn : n < 90) (hw : wayB a b n = true) : bAt s n = 46 := by
  unfold betweenN trues at h
  rw [List.length_map, List.length_eq_zero_iff] at h
  have := List.filter_eq_nil_iff.1 h n (List.mem_range.2 hn)
  rw [hw, Bool.true_and, bne_iff_ne] at this
  exact Classical.not_not.1 this
theorem between_some {s : ByteArray} {a b n : Nat} (hn : n < 90) (hw : wayB a b n = true) (h46 : bAt s n ≠ 46) : betweenN s a b ≠ 0 := fun h => h46 (between_zero h hn hw)
/-- Generals face one another no more, if a piece is put between them. -/
theorem facing_between {s : ByteArray} {a b n x : Nat} (h : Two s a b) (hs : isB s = true) (hf : a % 9 = b % 9) (h0 : betweenN s a b = 0) (h1 : min a b < n) (h2 : n < max a b) (h3 : n % 9 = a % 9) (hx : x < 256) (hside : 0 ≤ sideN x) (hk : kindN x ≠ 75) : facingB (putS s n x) = false := by
  have ha := h.ha
  have hb := h.hb
  have hz := isB_size hs
  have hn : n < 90 := by omega
  have hw : wayB a b n = true := by
    unfold wayB
    simp only [Bool.and_eq_true, Bool.or_eq_true, beq_iff_eq, decide_eq_true_eq]
    omega
  have h46 := between_zero h0 hn hw
  have hat : ∀ k, k < 90 → bAt (putS s n x) k = if k = n then x else bAt s k := fun k hk => put_at s n x k hx (by omega)
  have hleast : ∀ c, c = 75 ∨ c = 107 → leastN (putS s n x) c = leastN s c := fun c hc => by
    unfold leastN
    refine find_same fun k hk90 => ?_
    have hk90 := List.mem_range.1 hk90
    rw [hat k hk90]
    by_cases e : k = n
    · rw [if_pos e, e, h46]
      have e1 : (x == c) = false := by
        rw [beq_eq_false_iff_ne]
        intro e2
        exact hk (kind_k (by rw [e2]; exact hc))
      have e2 : ((46 : Nat) == c) = false := by rcases hc with rfl | rfl <;> rfl
      rw [e1, e2]
    · rw [if_neg e]
  have hb2 : betweenN (putS s n x) a b ≠ 0 := between_some hn hw (by
    rw [hat n hn, if_pos rfl]
    intro e
    rw [e] at hside
    exact absurd hside (by decide))
  unfold facingB
  rw [hleast 75 (.inl rfl), hleast 107 (.inr rfl), h.ka, h.kb]
  have : (betweenN (putS s n x) a b == 0) = false := by rw [beq_eq_false_iff_ne]; exact hb2
  simp [this]
theorem check_other {s : ByteArray} {side clock full : Int} (h : (checkN s side clock full : Int) = 0) : (side = 0 ∨ side = 1) ∧ (checkN s (1 - side) clock full : Int) = 0 := by
  obtain ⟨hp, hc, hpl⟩ := check_zero h
  have hnum : (side = 0 ∨ side = 1) ∧ 0 ≤ clock ∧ clock ≤ 120 ∧ 1 ≤ full ∧ full ≤ 9999 := by
    simp only [partsB, Bool.and_eq_true, Bool.or_eq_true, beq_iff_eq, decide_eq_true_eq] at hp
    exact ⟨hp.1.1.1.1.2, hp.1.1.1.2, hp.1.1.2, hp.1.2, hp.2⟩
  obtain ⟨h1, h2, h3, h4, h5⟩ := hnum
  refine ⟨h1, ?_⟩
  have hp2 := parts_true (side := 1 - side) (parts_board hp) (by rcases h1 with rfl | rfl <;> rfl) h2 h3 h4 h5
  rw [checkN, hp2, hc, hpl]
  rfl
theorem well_zero {s : ByteArray} {side clock full : Int} (h : wellN s side clock full = 0) : (checkN s side clock full : Int) = 0 ∧ facingB s = false ∧ inB s (1 - side) = false := by
  unfold wellN at h
  by_cases h0 : (checkN s side clock full : Int) = 0
  · rw [if_pos h0] at h
    refine ⟨h0, ?_⟩
    cases hf : facingB s
    · cases hi : inB s (1 - side)
      · exact ⟨rfl, rfl⟩
      · rw [hf, hi] at h
        exact absurd h (by decide)
    · rw [hf] at h
      exact absurd h (by simp)
  · rw [if_neg h0] at h
    exact absurd h h0
/-- A position that is right, the other side to move. -/
theorem well_other {s : ByteArray} {side clock full : Int} (h : wellN s side clock full = 0) : wellN s (1 - side) clock full = if inB s side then 5 else 0 := by
  obtain ⟨h0, hf, _⟩ := well_zero h
  obtain ⟨_, h1⟩ := check_other h0
  unfold wellN
  rw [if_pos h1, hf, show (1 : Int) - (1 - side) = side by omega]
  rfl
/-- Is a board right behind a side's move? Which moves may be made? -/
def safeB (s : ByteArray) (side : Int) : Bool := !facingB s && !inB s side
def behindS (s : ByteArray) (m : Nat × Nat) : ByteArray := movedS s m.1 m.2 (bAt s m.1)
def legalB (s : ByteArray) (side : Int) (m : Nat × Nat) : Bool := (kindN (bAt s m.2) != 75) && safeB (behindS s m) side
def legalN (s : ByteArray) (side : Int) : List (Nat × Nat) := (movesN s side).filter (legalB s side)
theorem legal_mem {s : ByteArray} {side : Int} {m : Nat × Nat} : m ∈ legalN s side ↔ m.1 < 90 ∧ m.2 < 90 ∧ sideN (bAt s m.1) = side ∧ canB s m.1 m.2 = true ∧ kindN (bAt s m.2) ≠ 75 ∧ safeB (behindS s m) side = true := by
  obtain ⟨a, b⟩ := m
  unfold legalN legalB
  rw [List.mem_filter, moves_mem, Bool.and_eq_true, bne_iff_ne]
  constructor
  · rintro ⟨⟨h1, h2, h3, h4⟩, h5, h6⟩
    exact ⟨h1, h2, h3, h4, h5, h6⟩
  · rintro ⟨h1, h2, h3, h4, h5, h6⟩
    exact ⟨⟨h1, h2, h3, h4⟩, h5, h6⟩
/-- Behind a move that takes no general a position is right just if the board is safe. -/
theorem well_behind {s : ByteArray} {side clock full : Int} (h : (checkN s side clock full : Int) = 0) {a b : Nat} (ha : a < 90) (hb : b < 90) (hcan : canB s a b = true) (hk : kindN (bAt s b) ≠ 75) : (wellN (behindS s (a, b)) (1 - side) (clockA s clock b) (fullA side full) = 0) ↔ safeB (behindS s (a, b)) side = true := by
  have h1 : (checkN (behindS s (a, b)) (1 - side) (clockA s clock b) (fullA side full) : Int) = 0 := check_moved h ha hb hcan hk
  unfold wellN safeB
  rw [if_pos h1, show (1 : Int) - (1 - side) = side by omega]
  cases facingB (behindS s (a, b)) <;> cases inB (behindS s (a, b)) side <;> simp
theorem behind_turn {s : ByteArray} (hs : isB s = true) {a b : Nat} (ha : a < 90) (hb : b < 90) : behindS (turnB s) (89 - a, 89 - b) = turnB (behindS s (a, b)) := by
  unfold behindS movedS
  have h1 := put_turn hs ha (c := 46) (by decide) (by decide)
  have h2 := put_turn (put_is_board hs a 46 (by decide) (by decide)) hb (bAt_lt s a) (isB_fill hs a ha)
  rw [h2, h1]
  show putS (putS (turnB s) (89 - a) 46) (89 - b) (bAt (turnB s) (89 - a)) = _
  rw [turn_bAt hs ha]
  rfl
theorem behind_facts {s : ByteArray} (hs : isB s = true) (hc : countsB s 90 = true) {a b : Nat} (ha : a < 90) (hb : b < 90) (hne : a ≠ b) (hk : kindN (bAt s b) ≠ 75) : isB (behindS s (a, b)) = true ∧ cntN (behindS s (a, b)) 90 75 = 1 ∧ cntN (behindS s (a, b)) 90 107 = 1 := by
  obtain ⟨_, h1, h2⟩ := counts_parts (counts_moved (isB_size hs) hc ha hb hne hk)
  exact ⟨moved_board hs (bAt_lt s a) (isB_fill hs a ha), h1, h2⟩
theorem safe_turn {s : ByteArray} (hs : isB s = true) (h1 : cntN s 90 75 = 1) (h2 : cntN s 90 107 = 1) {side : Int} (hsd : side = 0 ∨ side = 1) : safeB (turnB s) (1 - side) = safeB s side := by
  unfold safeB
  rw [facing_turn hs h1 h2, in_turn hs h1 h2 hsd]
/-- Seen from the other side the same moves may be made, the last one first. -/
theorem legal_turn {s : ByteArray} (hs : isB s = true) (hc : countsB s 90 = true) {side : Int} (hsd : side = 0 ∨ side = 1) : legalN (turnB s) (1 - side) = ((legalN s side).map turnM).reverse := by
  unfold legalN
  rw [moves_turn hs hsd, List.filter_reverse, List.filter_map]
  congr 2
  refine List.filter_congr fun m hm => ?_
  obtain ⟨a, b⟩ := m
  obtain ⟨ha, hb, _, hcan⟩ := moves_mem.1 hm
  show legalB (turnB s) (1 - side) (89 - a, 89 - b) = legalB s side (a, b)
  unfold legalB
  show ((kindN (bAt (turnB s) (89 - b)) != 75) && safeB (behindS (turnB s) (89 - a, 89 - b)) (1 - side)) = ((kindN (bAt s b) != 75) && safeB (behindS s (a, b)) side)
  rw [turn_bAt hs hb, swap_kind, behind_turn hs ha hb]
  by_cases hk : kindN (bAt s b) = 75
  · rw [hk]
    rfl
  · obtain ⟨f1, f2, f3⟩ := behind_facts hs hc ha hb (can_self hcan) hk
    rw [safe_turn f1 f2 f3 hsd]
end Go.Proofs.YtbfkkedcjodceaaDoor
