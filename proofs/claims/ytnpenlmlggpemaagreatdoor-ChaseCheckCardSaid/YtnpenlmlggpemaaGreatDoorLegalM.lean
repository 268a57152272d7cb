/- Merged: LegalA LegalB DelB LegalC LegalD LegalE. -/
import Derived.Test.YtnpenlmlggpemaaGreatDoorCheckA
import Derived.Test.YtnpenlmlggpemaaGreatDoorPseudoM
import Derived.Test.YtnpenlmlggpemaaGreatDoorDelA
import Derived.Test.YtnpenlmlggpemaaGreatDoorCheckM

namespace Go.Proofs.YtnpenlmlggpemaaGreatDoor

theorem find_same {p q : Nat → Bool} : ∀ {l : List Nat}, (∀ k ∈ l, p k = q k) → l.find? p = l.find? q
  | [], _ => rfl
  | x :: r, h => by
    rw [List.find?_cons, List.find?_cons, h x (by simp), find_same fun k hk => h k (by simp [hk])]
theorem facing_parts {s : ByteArray} (h : facingB s = true) : ∃ a b, Two s a b ∧ isB s = true ∧ a % 9 = b % 9 ∧ betweenN s a b = 0 := by
  unfold facingB at h
  cases ha : leastN s 75 with
  | none => rw [ha] at h; cases h
  | some a =>
    cases hb : leastN s 107 with
    | none => rw [ha, hb] at h; cases h
    | some b =>
      rw [ha, hb] at h
      simp only [Bool.and_eq_true, beq_iff_eq] at h
      exact ⟨a, b, ⟨(least_some ha).1, (least_some hb).1, ha, hb⟩, h.1.1, h.1.2, h.2⟩
theorem between_zero {s : ByteArray} {a b n : Nat} (h : betweenN s a b = 0) (hn : n < 90) (hw : wayB a b n = true) : bAt s n = 46 := by
  unfold betweenN trues at h
  rw [List.length_map, List.length_eq_zero_iff] at h
  have := List.filter_eq_nil_iff.1 h n (List.mem_range.2 hn)
  rw [hw, Bool.true_and, bne_iff_ne] at this
  exact Classical.not_not.1 this
theorem between_some {s : ByteArray} {a b n : Nat} (hn : n < 90) (hw : wayB a b n = true) (h46 : bAt s n ≠ 46) : betweenN s a b ≠ 0 := fun h => h46 (between_zero h hn hw)
/-- Generals face one another no more, if a piece is put between them. -/
theorem facing_between {s : ByteArray} {a b n x : Nat} (h : Two s a b) (hs : isB s = true) (hf : a % 9 = b % 9) (h0 : betweenN s a b = 0) (h1 : min a b < n) (h2 : n < max a b) (h3 : n % 9 = a % 9) (hx : x < 256) (hside : 0 ≤ sideN x) (hk : kindN x ≠ 75) : facingB (putS s n x) = false := by
  have ha := h.ha
  have hb := h.hb
  have hz := isB_size hs
  have hn : n < 90 := by omega
  have hw : wayB a b n = true := by
    unfold wayB
    simp only [Bool.and_eq_true, Bool.or_eq_true, beq_iff_eq, decide_eq_true_eq]
    omega
  have h46 := between_zero h0 hn hw
  have hat : ∀ k, k < 90 → bAt (putS s n x) k = if k = n then x else bAt s k := fun k hk => put_at s n x k hx (by omega)
  have hleast : ∀ c, c = 75 ∨ c = 107 → leastN (putS s n x) c = leastN s c := fun c hc => by
    unfold leastN
    refine find_same fun k hk90 => ?_
    have hk90 := List.mem_range.1 hk90
    rw [hat k hk90]
    by_cases e : k = n
    · rw [if_pos e, e, h46]
      have e1 : (x == c) = false := by
        rw [beq_eq_false_iff_ne]
        intro e2
        exact hk (kind_k (by rw [e2]; exact hc))
      have e2 : ((46 : Nat) == c) = false := by rcases hc with rfl | rfl <;> rfl
      rw [e1, e2]
    · rw [if_neg e]
  have hb2 : betweenN (putS s n x) a b ≠ 0 := between_some hn hw (by
    rw [hat n hn, if_pos rfl]
    intro e
    rw [e] at hside
    exact absurd hside (by decide))
  unfold facingB
  rw [hleast 75 (.inl rfl), hleast 107 (.inr rfl), h.ka, h.kb]
  have : (betweenN (putS s n x) a b == 0) = false := by rw [beq_eq_false_iff_ne]; exact hb2
  simp [this]
theorem check_other {s : ByteArray} {side clock full : Int} (h : (checkN s side clock full : Int) = 0) : (side = 0 ∨ side = 1) ∧ (checkN s (1 - side) clock full : Int) = 0 := by
  obtain ⟨hp, hc, hpl⟩ := check_zero h
  have hnum : (side = 0 ∨ side = 1) ∧ 0 ≤ clock ∧ clock ≤ 120 ∧ 1 ≤ full ∧ full ≤ 9999 := by
    simp only [partsB, Bool.and_eq_true, Bool.or_eq_true, beq_iff_eq, decide_eq_true_eq] at hp
    exact ⟨hp.1.1.1.1.2, hp.1.1.1.2, hp.1.1.2, hp.1.2, hp.2⟩
  obtain ⟨h1, h2, h3, h4, h5⟩ := hnum
  refine ⟨h1, ?_⟩
  have hp2 := parts_true (side := 1 - side) (parts_board hp) (by rcases h1 with rfl | rfl <;> rfl) h2 h3 h4 h5
  rw [checkN, hp2, hc, hpl]
  rfl
theorem well_zero {s : ByteArray} {side clock full : Int} (h : wellN s side clock full = 0) : (checkN s side clock full : Int) = 0 ∧ facingB s = false ∧ inB s (1 - side) = false := by
  unfold wellN at h
  by_cases h0 : (checkN s side clock full : Int) = 0
  · rw [if_pos h0] at h
    refine ⟨h0, ?_⟩
    cases hf : facingB s
    · cases hi : inB s (1 - side)
      · exact ⟨rfl, rfl⟩
      · rw [hf, hi] at h
        exact absurd h (by decide)
    · rw [hf] at h
      exact absurd h (by simp)
  · rw [if_neg h0] at h
    exact absurd h h0
/-- A position that is right, the other side to move. -/
theorem well_other {s : ByteArray} {side clock full : Int} (h : wellN s side clock full = 0) : wellN s (1 - side) clock full = if inB s side then 5 else 0 := by
  obtain ⟨h0, hf, _⟩ := well_zero h
  obtain ⟨_, h1⟩ := check_other h0
  unfold wellN
  rw [if_pos h1, hf, show (1 : Int) - (1 - side) = side by omega]
  rfl
/-- Is a board right behind a side's move? Which moves may be made? -/
def safeB (s : ByteArray) (side : Int) : Bool := !facingB s && !inB s side
def behindS (s : ByteArray) (m : Nat × Nat) : ByteArray := movedS s m.1 m.2 (bAt s m.1)
def legalB (s : ByteArray) (side : Int) (m : Nat × Nat) : Bool := (kindN (bAt s m.2) != 75) && safeB (behindS s m) side
def legalN (s : ByteArray) (side : Int) : List (Nat × Nat) := (movesN s side).filter (legalB s side)
theorem legal_mem {s : ByteArray} {side : Int} {m : Nat × Nat} : m ∈ legalN s side ↔ m.1 < 90 ∧ m.2 < 90 ∧ sideN (bAt s m.1) = side ∧ canB s m.1 m.2 = true ∧ kindN (bAt s m.2) ≠ 75 ∧ safeB (behindS s m) side = true := by
  obtain ⟨a, b⟩ := m
  unfold legalN legalB
  rw [List.mem_filter, moves_mem, Bool.and_eq_true, bne_iff_ne]
  constructor
  · rintro ⟨⟨h1, h2, h3, h4⟩, h5, h6⟩
    exact ⟨h1, h2, h3, h4, h5, h6⟩
  · rintro ⟨h1, h2, h3, h4, h5, h6⟩
    exact ⟨⟨h1, h2, h3, h4⟩, h5, h6⟩
/-- Behind a move that takes no general a position is right just if the board is safe. -/
theorem well_behind {s : ByteArray} {side clock full : Int} (h : (checkN s side clock full : Int) = 0) {a b : Nat} (ha : a < 90) (hb : b < 90) (hcan : canB s a b = true) (hk : kindN (bAt s b) ≠ 75) : (wellN (behindS s (a, b)) (1 - side) (clockA s clock b) (fullA side full) = 0) ↔ safeB (behindS s (a, b)) side = true := by
  have h1 : (checkN (behindS s (a, b)) (1 - side) (clockA s clock b) (fullA side full) : Int) = 0 := check_moved h ha hb hcan hk
  unfold wellN safeB
  rw [if_pos h1, show (1 : Int) - (1 - side) = side by omega]
  cases facingB (behindS s (a, b)) <;> cases inB (behindS s (a, b)) side <;> simp
theorem behind_turn {s : ByteArray} (hs : isB s = true) {a b : Nat} (ha : a < 90) (hb : b < 90) : behindS (turnB s) (89 - a, 89 - b) = turnB (behindS s (a, b)) := by
  unfold behindS movedS
  have h1 := put_turn hs ha (c := 46) (by decide) (by decide)
  have h2 := put_turn (put_is_board hs a 46 (by decide) (by decide)) hb (bAt_lt s a) (isB_fill hs a ha)
  rw [h2, h1]
  show putS (putS (turnB s) (89 - a) 46) (89 - b) (bAt (turnB s) (89 - a)) = _
  rw [turn_bAt hs ha]
  rfl
theorem behind_facts {s : ByteArray} (hs : isB s = true) (hc : countsB s 90 = true) {a b : Nat} (ha : a < 90) (hb : b < 90) (hne : a ≠ b) (hk : kindN (bAt s b) ≠ 75) : isB (behindS s (a, b)) = true ∧ cntN (behindS s (a, b)) 90 75 = 1 ∧ cntN (behindS s (a, b)) 90 107 = 1 := by
  obtain ⟨_, h1, h2⟩ := counts_parts (counts_moved (isB_size hs) hc ha hb hne hk)
  exact ⟨moved_board hs (bAt_lt s a) (isB_fill hs a ha), h1, h2⟩
theorem safe_turn {s : ByteArray} (hs : isB s = true) (h1 : cntN s 90 75 = 1) (h2 : cntN s 90 107 = 1) {side : Int} (hsd : side = 0 ∨ side = 1) : safeB (turnB s) (1 - side) = safeB s side := by
  unfold safeB
  rw [facing_turn hs h1 h2, in_turn hs h1 h2 hsd]
/-- Seen from the other side the same moves may be made, the last one first. -/
theorem legal_turn {s : ByteArray} (hs : isB s = true) (hc : countsB s 90 = true) {side : Int} (hsd : side = 0 ∨ side = 1) : legalN (turnB s) (1 - side) = ((legalN s side).map turnM).reverse := by
  unfold legalN
  rw [moves_turn hs hsd, List.filter_reverse, List.filter_map]
  congr 2
  refine List.filter_congr fun m hm => ?_
  obtain ⟨a, b⟩ := m
  obtain ⟨ha, hb, _, hcan⟩ := moves_mem.1 hm
  show legalB (turnB s) (1 - side) (89 - a, 89 - b) = legalB s side (a, b)
  unfold legalB
  show ((kindN (bAt (turnB s) (89 - b)) != 75) && safeB (behindS (turnB s) (89 - a, 89 - b)) (1 - side)) = ((kindN (bAt s b) != 75) && safeB (behindS s (a, b)) side)
  rw [turn_bAt hs hb, swap_kind, behind_turn hs ha hb]
  by_cases hk : kindN (bAt s b) = 75
  · rw [hk]
    rfl
  · obtain ⟨f1, f2, f3⟩ := behind_facts hs hc ha hb (can_self hcan) hk
    rw [safe_turn f1 f2 f3 hsd]
end Go.Proofs.YtnpenlmlggpemaaGreatDoor

namespace Go.Proofs.YtnpenlmlggpemaaGreatDoor
open Go.RowKit

/-- Is what is behind a move right? -/
def leavesI (s : ByteArray) (side clock full a b : Int) : Bool := isM s side a b && (kindN (bAt s b.toNat) != 75) && (wellN (movedS s a.toNat b.toNat (bAt s a.toNat)) (1 - side) (clockA s clock b.toNat) (fullA side full) == 0)
def leavesB (s : ByteArray) (side clock full : Int) (m : Nat × Nat) : Bool := leavesI s side clock full m.1 m.2
def legalV (s : ByteArray) (side clock full : Int) : List (Nat × Nat) := if wellN s side clock full = 0 then (movesV s side clock full).filter (leavesB s side clock full) else []
def legalC (s : ByteArray) (side clock full : Int) : List (Nat × Nat) := (legalV s side clock full).filter fun m => bAt s m.2 != 46
def hasV (s : ByteArray) (side clock full : Int) : Bool := (movesV s side clock full).any (leavesB s side clock full)
def endV (s : ByteArray) (side clock full : Int) : Int := if wellN s side clock full = 0 then (if hasV s side clock full then 0 else if inB s side then 1 else 2) else 0
def noneV (k : Int) : Value := .tuple #[.agg #[.string ⟨#[]⟩, .int .i64 0, .int .i64 0, .int .i64 0], .int .u8 0, .int .i64 k]
def makeV (s : ByteArray) (side clock full a b : Int) : Value := if wellN s side clock full = 0 then (if leavesI s side clock full a b then applyV s side clock full a b else noneV 7) else noneV (wellN s side clock full)
def isV (s : ByteArray) (side clock full a b : Int) : Bool := (wellN s side clock full == 0) && leavesI s side clock full a b
theorem well_check {s : ByteArray} {side clock full : Int} (h : wellN s side clock full = 0) : checkN s side clock full = 0 := by
  have := (well_zero h).1
  omega
theorem isM_two {s : ByteArray} {side : Int} (hB : isB s = true) {a b : Nat} (ha : a < 90) (hb : b < 90) : isM s side (a : Int) (b : Int) = (canB s a b && (sideN (bAt s a) == side)) := by
  unfold isM canI
  rw [hB, sqI_true (n := (a : Int)) (by omega), sqI_true (n := (b : Int)) (by omega), Int.toNat_natCast, Int.toNat_natCast]
  rfl
theorem leaves_legal {s : ByteArray} {side clock full : Int} (hc : (checkN s side clock full : Int) = 0) {m : Nat × Nat} (h : m ∈ movesN s side) : leavesB s side clock full m = legalB s side m := by
  obtain ⟨a, b⟩ := m
  obtain ⟨ha, hb, hs, hcan⟩ := moves_mem.1 h
  have hbd := parts_board (check_zero hc).1
  unfold leavesB leavesI legalB
  rw [isM_two hbd ha hb, hcan, hs, Int.toNat_natCast, Int.toNat_natCast]
  simp only [beq_self_eq_true, Bool.and_true, Bool.true_and]
  by_cases hk : kindN (bAt s b) = 75
  · rw [hk]
    rfl
  · have := well_behind hc ha hb hcan hk
    have e : (wellN (movedS s a b (bAt s a)) (1 - side) (clockA s clock b) (fullA side full) == 0) = safeB (behindS s (a, b)) side := by
      rw [Bool.eq_iff_iff, beq_iff_eq]
      exact this
    rw [e]
theorem legal_same (s : ByteArray) (side clock full : Int) : legalV s side clock full = if wellN s side clock full = 0 then legalN s side else [] := by
  unfold legalV
  split
  · rename_i h
    have hc := well_check h
    have hc' : (checkN s side clock full : Int) = 0 := by omega
    rw [movesV, if_pos hc]
    unfold legalN
    exact List.filter_congr fun m hm => leaves_legal hc' hm
  · rfl
theorem caps_legal (s : ByteArray) (side clock full : Int) (h : wellN s side clock full = 0) : (capsV s side clock full).filter (leavesB s side clock full) = legalC s side clock full := by
  unfold capsV legalC legalV
  rw [if_pos h, List.filter_filter, List.filter_filter]
  refine List.filter_congr fun m _ => ?_
  rw [Bool.and_comm]
theorem has_legal (s : ByteArray) (side clock full : Int) (h : wellN s side clock full = 0) : hasV s side clock full = ((legalV s side clock full).length != 0) := by
  unfold hasV legalV
  rw [if_pos h, Bool.eq_iff_iff, List.any_eq_true, bne_iff_ne, ne_eq, List.length_eq_zero_iff, List.filter_eq_nil_iff]
  constructor
  · rintro ⟨m, h1, h2⟩ h3
    exact h3 m h1 h2
  · intro h3
    rcases Classical.em (∃ m, m ∈ movesV s side clock full ∧ leavesB s side clock full m = true) with h4 | h4
    · exact h4
    · exact absurd (fun m hm hl => h4 ⟨m, hm, hl⟩) h3
theorem legalV_len (s : ByteArray) (side clock full : Int) : (legalV s side clock full).length ≤ 8100 := by
  unfold legalV
  split
  · exact Nat.le_trans (List.length_filter_le _ _) (movesV_len s side clock full)
  · simp
end Go.Proofs.YtnpenlmlggpemaaGreatDoor

namespace Go.Proofs.YtnpenlmlggpemaaGreatDoor
open Go.RowKit Go.Shelf
open M (S)

abbrev encM : Nat × Nat → List Value := fun m => [iv m.1, iv m.2]
abbrev aggM (m : Nat × Nat) : Value := .agg #[.int .i64 (m.1 : Int), .int .i64 (m.2 : Int)]
theorem encM_len (m : Nat × Nat) : (encM m).length = 2 := rfl
theorem encM_flat (l : List (Nat × Nat)) : l.flatMap encM = mvs l := rfl
theorem clear_two {P : Program} (w : World) (t e ty : TypeId) (z : Value) (x y : Value) (ht : P.underlying t = some (.slice e)) (hv : ∀ w, (zeroValue e).run P w = .ok z w) (hz : z.cells = #[x, y]) (hx : x.oneCell' = true) (hy : y.oneCell' = true) (b o n c : Nat) (hn : 0 < n)
    (hc : ∀ j, j < n * 2 → (w.cell? ⟨b, o + j, none⟩).isSome = true) (hf : ∀ j, j < n * 2 → w.frozen? ⟨b, o + j, none⟩ = false) :
    ∃ us : List Value, us.length = n * 2 ∧ (Builtin.clear_ #[t] ty #[.slice (some ⟨b, o, none⟩) n c]).run P w = .ok (.tuple #[]) (w.setCells b o us) := by
  obtain ⟨us, hus⟩ : ∃ us, (Builtin.zeroCells z.cells n).toList = us := ⟨_, rfl⟩
  have hl : us.length = n * 2 := by rw [← hus, hz]; simp [Builtin.zeroCells]
  refine ⟨us, hl, ?_⟩
  have hone : ∀ v ∈ us, v.oneCell' = true := by
    intro v hv'
    rw [← hus, hz] at hv'
    simp only [Builtin.zeroCells, Array.toList_map, List.mem_map, Array.toList_range] at hv'
    obtain ⟨i, _, rfl⟩ := hv'
    have : i % #[x, y].size = 0 ∨ i % #[x, y].size = 1 := by
      simp
      omega
    rcases this with h | h
    · rw [h]; exact hx
    · rw [h]; exact hy
  have hst := run_storeCells_cells (P := P) b o us 0 w (by simpa [hl] using hc) (by simpa [hl] using hf) hone
  simp only [Nat.add_zero] at hst
  obtain ⟨m, rfl⟩ : ∃ m, n = m + 1 := ⟨n - 1, by omega⟩
  simp [Builtin.clear_, run_underlying ht, hv, hus, hst]
end Go.Proofs.YtnpenlmlggpemaaGreatDoor

namespace Go.Proofs.YtnpenlmlggpemaaGreatDoor
open Go.RowKit Go.Shelf
open M (S)

theorem apply_bad_value {s : ByteArray} {side clock full a b : Int} (hc : checkN s side clock full = 0) (h : ¬ (isM s side a b = true ∧ kindN (bAt s b.toNat) ≠ 75)) : applyV s side clock full a b = noneV 7 := by
  unfold applyV noneV
  rw [if_neg (fun e => e hc), if_neg h]
theorem apply_good_value {s : ByteArray} {side clock full a b : Int} (hc : checkN s side clock full = 0) (h : isM s side a b = true ∧ kindN (bAt s b.toNat) ≠ 75) : applyV s side clock full a b = .tuple #[.agg #[.string (movedS s a.toNat b.toNat (bAt s a.toNat)), .int .i64 (1 - side), .int .i64 (clockA s clock b.toNat), .int .i64 (fullA side full)], .int .u8 (takenN s b.toNat : Nat), .int .i64 0] := by
  unfold applyV
  rw [if_neg (fun e => e hc), if_pos h]
theorem leaves_good {s : ByteArray} {side clock full a b : Int} (h : isM s side a b = true ∧ kindN (bAt s b.toNat) ≠ 75) : leavesI s side clock full a b = (wellN (movedS s a.toNat b.toNat (bAt s a.toNat)) (1 - side) (clockA s clock b.toNat) (fullA side full) == 0) := by
  unfold leavesI
  rw [h.1, show (kindN (bAt s b.toNat) != 75) = true by rw [bne_iff_ne]; exact h.2]
  rfl
theorem leaves_bad {s : ByteArray} {side clock full a b : Int} (h : ¬ (isM s side a b = true ∧ kindN (bAt s b.toNat) ≠ 75)) : leavesI s side clock full a b = false := by
  rw [Bool.eq_false_iff]
  intro h2
  unfold leavesI at h2
  simp only [Bool.and_eq_true, bne_iff_ne] at h2
  exact h h2.1
/-- The world at the start: a position, a move. -/
theorem pm_start {w W1 : World} {x y z u m n : Value} (h : (w.alloc (.cells #[x, y, z, u] 31)).alloc (.cells #[m, n] 23) = W1) :
    Below w.heap.size w W1 ∧ Blk W1 w.heap.size 31 #[x, y, z, u] ∧ Blk W1 (w.heap.size + 1) 23 #[m, n] := by
  subst h
  exact ⟨(by repeat (first | exact Below.refl _ _ | (refine Below.setCell ?_ (by first | omega | (simp; done) | (simp; omega) | (simp at *; omega)) _) | (refine Below.alloc ?_ (by first | omega | (simp; done) | (simp; omega) | (simp at *; omega)) _) | refine Below.drew ?_ | (refine below_drewN ?_ _) | (refine Below.trans ?_ (Below.mono (by assumption) (by first | omega | (simp; done) | (simp; omega) | (simp at *; omega)))))), (Blk.new _ _ _ rfl).alloc _, Blk.new _ _ _ (by simp)⟩
end Go.Proofs.YtnpenlmlggpemaaGreatDoor

namespace Go.Proofs.YtnpenlmlggpemaaGreatDoor
open Go.RowKit Go.Shelf
open M (S)

end Go.Proofs.YtnpenlmlggpemaaGreatDoor

namespace Go.Proofs.YtnpenlmlggpemaaGreatDoor
open Go.RowKit Go.Shelf
open M (S)

theorem makeV_parts (s : ByteArray) (side clock full a b : Int) : ∃ (q : ByteArray) (y z u : Int) (t : Nat) (k : Int), makeV s side clock full a b = .tuple #[.agg #[.string q, .int .i64 y, .int .i64 z, .int .i64 u], .int .u8 t, .int .i64 k] ∧ (k == 0) = isV s side clock full a b := by
  unfold makeV isV
  by_cases hk : wellN s side clock full = 0
  · rw [if_pos hk]
    by_cases h : isM s side a b = true ∧ kindN (bAt s b.toNat) ≠ 75
    · cases hl : leavesI s side clock full a b
      · rw [if_neg (by simp)]
        exact ⟨_, _, _, _, 0, _, rfl, by rw [hk]; rfl⟩
      · rw [if_pos rfl, apply_good_value (well_check hk) h]
        exact ⟨_, _, _, _, _, _, rfl, by rw [hk]; rfl⟩
    · rw [leaves_bad h, if_neg (by simp)]
      exact ⟨_, _, _, _, 0, _, rfl, by rw [hk]; rfl⟩
  · rw [if_neg hk]
    refine ⟨_, _, _, _, 0, _, rfl, ?_⟩
    have : (wellN s side clock full == 0) = false := by rw [beq_eq_false_iff_ne]; exact hk
    rw [this]
    rfl
end Go.Proofs.YtnpenlmlggpemaaGreatDoor
