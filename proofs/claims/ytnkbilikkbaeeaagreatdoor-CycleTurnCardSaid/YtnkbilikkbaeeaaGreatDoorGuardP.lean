/- What a right position's side could make, plainly; in what order; what is taken again. No program in it. -/
import Derived.Test.YtnkbilikkbaeeaaGreatDoorGuardT
import Derived.Test.YtnkbilikkbaeeaaGreatDoorLegalM
namespace Go.Proofs.YtnkbilikkbaeeaaGreatDoor

/-- One move ahead of another one. -/
def AheadM (x y : Nat × Nat) : Prop := x.1 < y.1 ∨ (x.1 = y.1 ∧ x.2 < y.2)
theorem moves_sorted (s : ByteArray) (side : Int) : (movesN s side).Pairwise AheadM := by
  unfold movesN
  rw [List.pairwise_flatMap]
  refine ⟨fun a _ => ?_, ?_⟩
  · unfold movesOf
    split
    · rw [List.pairwise_map]
      exact (List.Pairwise.filter _ List.pairwise_lt_range).imp fun h => .inr ⟨rfl, h⟩
    · exact List.Pairwise.nil
  · refine List.pairwise_lt_range.imp fun {a b} h => ?_
    intro x hx y hy
    have e1 : x.1 = a := by
      unfold movesOf at hx
      split at hx
      · obtain ⟨_, _, rfl⟩ := List.mem_map.1 hx
        rfl
      · cases hx
    have e2 : y.1 = b := by
      unfold movesOf at hy
      split at hy
      · obtain ⟨_, _, rfl⟩ := List.mem_map.1 hy
        rfl
      · cases hy
    left
    omega
theorem takes_sorted (s : ByteArray) (side : Int) : (takesG s side).Pairwise AheadM := by
  unfold takesG legalN
  split
  · exact List.Pairwise.filter _ (List.Pairwise.filter _ (moves_sorted s side))
  · exact List.Pairwise.nil
theorem takes_next {s : ByteArray} {side : Int} {k : Nat} (h : k + 1 < (takesG s side).length) : AheadM ((takesG s side)[k]) ((takesG s side)[k + 1]) :=
  List.pairwise_iff_getElem.1 (takes_sorted s side) k (k + 1) (by omega) h (by omega)
theorem well_parts {s : ByteArray} {side clock full : Int} (h : wellN s side clock full = 0) : isB s = true ∧ (side = 0 ∨ side = 1) ∧ legalV s side clock full = legalN s side := by
  refine ⟨parts_board (check_zero (well_zero h).1).1, (check_other (well_zero h).1).1, ?_⟩
  rw [legal_same, if_pos h]
theorem takes_caps {s : ByteArray} {side clock full : Int} (h : wellN s side clock full = 0) : takesG s side = legalC s side clock full := by
  obtain ⟨h1, h2, h3⟩ := well_parts h
  unfold takesG legalC
  rw [h1, h3, show (true && ((side == 0) || (side == 1))) = true by rcases h2 with rfl | rfl <;> rfl, if_pos rfl]
/-- Whether a list has a move. -/
def hasI (l : List (Nat × Nat)) (a b : Int) : Bool := l.any fun m => (m.1 : Int) == a && (m.2 : Int) == b
theorem could_has {s : ByteArray} {side clock full : Int} (h : wellN s side clock full = 0) (a b : Int) : couldI s side a b = hasI (legalV s side clock full) a b := by
  obtain ⟨h1, h2, h3⟩ := well_parts h
  rw [h3, Bool.eq_iff_iff]
  unfold hasI
  rw [List.any_eq_true]
  constructor
  · intro hc
    obtain ⟨_, ⟨a0, a1⟩, ⟨b0, b1⟩, hc⟩ := couldI_parts hc
    obtain ⟨x, rfl⟩ : ∃ x : Nat, a = x := ⟨a.toNat, by omega⟩
    obtain ⟨y, rfl⟩ : ∃ y : Nat, b = y := ⟨b.toNat, by omega⟩
    refine ⟨(x, y), (could_legal (by omega) (by omega)).1 hc, ?_⟩
    simp
  · rintro ⟨⟨x, y⟩, hm, he⟩
    simp only [Bool.and_eq_true, beq_iff_eq] at he
    obtain ⟨rfl, rfl⟩ := he
    obtain ⟨hx, hy, _⟩ := legal_mem.1 hm
    rw [couldI_nat h1 hx hy]
    exact (could_legal hx hy).2 hm
theorem could_each {s : ByteArray} {side clock full : Int} (h : wellN s side clock full = 0) {a b : Nat} (hm : (a, b) ∈ legalV s side clock full) : couldI s side (a : Int) (b : Int) = true := by
  rw [could_has h]
  unfold hasI
  rw [List.any_eq_true]
  exact ⟨(a, b), hm, by simp⟩
/-- What is taken is guarded just if a move that may be made then goes there. -/
theorem guard_again {s : ByteArray} {side clock full : Int} (h : wellN s side clock full = 0) {a b : Nat} (hm : (a, b) ∈ legalC s side clock full) (clock' full' : Int) (hq : wellN (behindS s (a, b)) (1 - side) clock' full' = 0) :
    guardI s (a : Int) (b : Int) = (legalV (behindS s (a, b)) (1 - side) clock' full').any fun k => k.2 == b := by
  obtain ⟨h1, h2, h3⟩ := well_parts h
  obtain ⟨g1, g2, g3⟩ := well_parts hq
  have hml : (a, b) ∈ legalN s side := by
    rw [← h3]
    exact (List.mem_filter.1 hm).1
  obtain ⟨ha, hb, _⟩ := legal_mem.1 hml
  have hc := (could_legal ha hb).2 hml
  rw [guardI_nat h1 ha hb, g3]
  unfold guardB
  rw [(could_parts.1 hc).1, hc, Bool.true_and, Bool.eq_iff_iff]
  unfold againB
  rw [List.any_eq_true, List.any_eq_true]
  constructor
  · rintro ⟨n, hn, hk⟩
    exact ⟨(n, b), (could_legal (List.mem_range.1 hn) hb).1 hk, by simp⟩
  · rintro ⟨⟨n, y⟩, hk, he⟩
    have he : y = b := by simpa using he
    subst he
    obtain ⟨hn, _⟩ := legal_mem.1 hk
    exact ⟨n, List.mem_range.2 hn, (could_legal hn hb).2 hk⟩
end Go.Proofs.YtnkbilikkbaeeaaGreatDoor
