/- How many lines of moves there are, plainly. No program in it. -/
import Derived.Test.YtbdgbihdhbjljaaGreatDoorLegalM
namespace Go.Proofs.YtbdgbihdhbjljaaGreatDoor

def addL : List Nat → Nat
  | [] => 0
  | x :: l => x + addL l
theorem addL_app : ∀ a b : List Nat, addL (a ++ b) = addL a + addL b
  | [], b => by simp [addL]
  | x :: a, b => by rw [List.cons_append, addL, addL, addL_app a b, Nat.add_assoc]
theorem addL_rev : ∀ l : List Nat, addL l.reverse = addL l
  | [] => rfl
  | x :: l => by
    rw [List.reverse_cons, addL_app, addL_rev l, addL, addL, addL]
    omega
theorem addL_le {b : Nat} : ∀ l : List Nat, (∀ x ∈ l, x ≤ b) → addL l ≤ l.length * b
  | [], _ => Nat.zero_le _
  | x :: l, h => by
    have h1 := h x (by simp)
    have h2 := addL_le l fun y hy => h y (List.mem_cons_of_mem _ hy)
    rw [addL, List.length_cons, Nat.succ_mul]
    omega
theorem addL_take (l : List Nat) (n : Nat) : addL (l.take n) ≤ addL l := by
  conv => rhs; rw [← List.take_append_drop n l, addL_app]
  omega
theorem addL_ones : ∀ l : List Nat, (∀ x ∈ l, x = 1) → addL l = l.length
  | [], _ => rfl
  | x :: l, h => by
    rw [addL, List.length_cons, h x (by simp), addL_ones l fun y hy => h y (List.mem_cons_of_mem _ hy)]
    omega
/-- How many lines of so many moves there are from a board on. -/
def linesN : Nat → ByteArray → Int → Nat
  | 0, _, _ => 1
  | d + 1, s, side => addL ((legalN s side).map fun m => linesN d (behindS s m) (1 - side))
theorem linesN_one (s : ByteArray) (side : Int) : linesN 1 s side = (legalN s side).length := by
  show addL ((legalN s side).map fun m => linesN 0 (behindS s m) (1 - side)) = _
  rw [addL_ones _ (by intro x hx; obtain ⟨m, _, rfl⟩ := List.mem_map.1 hx; rfl), List.length_map]
theorem movesOf_len (s : ByteArray) (side : Int) (a : Nat) : (movesOf s side a).length ≤ 90 := by
  unfold movesOf
  split
  · rw [List.length_map]
    exact Nat.le_trans (List.length_filter_le _ _) (by simp)
  · exact Nat.zero_le _
theorem moves_flat (s : ByteArray) (side : Int) : ∀ l : List Nat, (l.flatMap (movesOf s side)).length ≤ l.length * 90
  | [] => Nat.zero_le _
  | a :: l => by
    have h1 := movesOf_len s side a
    have h2 := moves_flat s side l
    rw [List.flatMap_cons, List.length_append, List.length_cons]
    omega
theorem moves_len (s : ByteArray) (side : Int) : (movesN s side).length ≤ 8100 := by
  have := moves_flat s side (List.range 90)
  rw [List.length_range] at this
  exact this
theorem legalN_le (s : ByteArray) (side : Int) : (legalN s side).length ≤ 8100 := Nat.le_trans (List.length_filter_le _ _) (moves_len s side)
theorem linesN_le : ∀ (d : Nat) (s : ByteArray) (side : Int), linesN d s side ≤ 8100 ^ d
  | 0, _, _ => Nat.le_refl 1
  | d + 1, s, side => by
    refine Nat.le_trans (addL_le (b := 8100 ^ d) _ fun x hx => ?_) ?_
    · obtain ⟨m, _, rfl⟩ := List.mem_map.1 hx
      exact linesN_le d _ _
    · rw [List.length_map, Nat.pow_succ, Nat.mul_comm]
      exact Nat.mul_le_mul_left _ (legalN_le s side)
/-- A right position's board, whoever is to move. -/
structure GoodS (s : ByteArray) (side : Int) : Prop where
  sd : side = 0 ∨ side = 1
  ck : ∃ clock full : Int, wellN s side clock full = 0
theorem good_behind {s : ByteArray} {side : Int} (h : GoodS s side) {m : Nat × Nat} (hm : m ∈ legalN s side) : GoodS (behindS s m) (1 - side) := by
  obtain ⟨hsd, clock, full, hw⟩ := h
  obtain ⟨ha, hb, _, hcan, hk, hsafe⟩ := legal_mem.1 hm
  obtain ⟨a, b⟩ := m
  exact ⟨by omega, _, _, (well_behind (well_zero hw).1 ha hb hcan hk).2 hsafe⟩
/-- Seen from the other side there are as many lines. -/
theorem lines_turn : ∀ (d : Nat) {s : ByteArray} {side : Int}, GoodS s side → linesN d (turnB s) (1 - side) = linesN d s side
  | 0, _, _, _ => rfl
  | d + 1, s, side, h => by
    obtain ⟨clock, full, hw⟩ := h.ck
    have hck := (well_zero hw).1
    obtain ⟨hp, hc, _⟩ := check_zero hck
    have hs : isB s = true := by
      simp only [partsB, Bool.and_eq_true] at hp
      exact hp.1.1.1.1.1
    show addL ((legalN (turnB s) (1 - side)).map fun m => linesN d (behindS (turnB s) m) (1 - (1 - side))) = addL ((legalN s side).map fun m => linesN d (behindS s m) (1 - side))
    rw [legal_turn hs hc h.sd, List.map_reverse, addL_rev, List.map_map]
    congr 1
    refine List.map_congr_left fun m hm => ?_
    obtain ⟨ha, hb, _⟩ := legal_mem.1 hm
    obtain ⟨a, b⟩ := m
    show linesN d (behindS (turnB s) (89 - a, 89 - b)) (1 - (1 - side)) = linesN d (behindS s (a, b)) (1 - side)
    rw [behind_turn hs ha hb]
    exact lines_turn d (good_behind h hm)
end Go.Proofs.YtbdgbihdhbjljaaGreatDoor
