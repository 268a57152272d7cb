/- What is attacked, plainly; and what follows. No program in it. -/
import Derived.Test.YtbdgbihdhbjljaaGreatDoorPseudoA
namespace Go.Proofs.YtbdgbihdhbjljaaGreatDoor

/-- A side's pawn, a side's general. -/
def pawnOf (side : Int) : Nat := if side = 1 then 112 else 80
def kingOf (side : Int) : Nat := if side = 1 then 107 else 75
/-- The squares from which a side reaches one, if a pawn of the other side stood there. -/
def attB (s : ByteArray) (n : Nat) (side : Int) (a : Nat) : Bool := (sideN (bAt (putS s n (pawnOf (1 - side))) a) == side) && canB (putS s n (pawnOf (1 - side))) a n
def attN (s : ByteArray) (n : Nat) (side : Int) : List Nat := (List.range 90).filter (attB s n side)
def attL (s : ByteArray) (n side : Int) : List Int := if isB s && sqI n && ((side == 0) || (side == 1)) then trues (attB s n.toNat side) 90 else []
/-- The least square on which a byte stands. -/
def leastN (s : ByteArray) (c : Nat) : Option Nat := (List.range 90).find? fun n => bAt s n == c
def generalN (s : ByteArray) (side : Int) : Int := if isB s && ((side == 0) || (side == 1)) then (match leastN s (kingOf side) with | some n => (n : Int) | none => -1) else -1
def facingB (s : ByteArray) : Bool := match leastN s 75, leastN s 107 with
  | some a, some b => isB s && (a % 9 == b % 9) && (betweenN s a b == 0)
  | _, _ => false
def inB (s : ByteArray) (side : Int) : Bool := if isB s && ((side == 0) || (side == 1)) then (match leastN s (kingOf side) with | some n => (attN s n (1 - side)).length != 0 | none => false) else false
def wellN (s : ByteArray) (side clock full : Int) : Int := if (checkN s side clock full : Int) = 0 then (if facingB s then 4 else if inB s (1 - side) then 5 else 0) else (checkN s side clock full : Int)

theorem pawnOf_lt (side : Int) : pawnOf side < 256 := by unfold pawnOf; split <;> decide
theorem pawnOf_side {side : Int} (h : side = 0 ∨ side = 1) : sideN (pawnOf side) = side := by rcases h with rfl | rfl <;> decide
theorem pawnOf_fill (side : Int) : fillB (pawnOf side) = true := by unfold pawnOf; split <;> decide
theorem pawnOf_full (side : Int) : pawnOf side ≠ 46 := by unfold pawnOf; split <;> decide
/-- Where a piece goes does not hang on what stands there, but on whether something does. -/
theorem goes_put {s : ByteArray} (hz : s.size = 90) {c a n x : Nat} (ha : a < 90) (hn : n < 90) (hx : x < 256) (he : (x == 46) = (bAt s n == 46)) : goesB (putS s n x) c a n = goesB s c a n := by
  have hat : ∀ k, k < 90 → k ≠ n → bAt (putS s n x) k = bAt s k := fun k hk h1 => by rw [put_at s n x k hx (by omega), if_neg h1]
  have hatn : bAt (putS s n x) n = x := by rw [put_at s n x n hx (by omega), if_pos rfl]
  have hbt : betweenN (putS s n x) a n = betweenN s a n := between_same fun k hk _ h2 => hat k hk h2
  have hh : horseB (putS s n x) a n = horseB s a n := by
    unfold horseB
    have e1 : (fileD a n == 1 && rankD a n == 2 && (bAt (putS s n x) (legR a n) == 46)) = (fileD a n == 1 && rankD a n == 2 && (bAt s (legR a n) == 46)) := by
      by_cases hr : rankD a n = 2
      · rw [hat _ (by unfold rankD at hr; unfold legR; split <;> omega) (by unfold rankD at hr; unfold legR; split <;> omega)]
      · have : (rankD a n == 2) = false := by rw [beq_eq_false_iff_ne]; exact hr
        rw [this, Bool.and_false, Bool.false_and, Bool.false_and]
    have e2 : (fileD a n == 2 && rankD a n == 1 && (bAt (putS s n x) (legF a n) == 46)) = (fileD a n == 2 && rankD a n == 1 && (bAt s (legF a n) == 46)) := by
      by_cases hf : fileD a n = 2
      · rw [hat _ (by unfold fileD at hf; unfold legF; split <;> omega) (by unfold fileD at hf; unfold legF; split <;> omega)]
      · have : (fileD a n == 2) = false := by rw [beq_eq_false_iff_ne]; exact hf
        rw [this, Bool.false_and, Bool.false_and, Bool.false_and]
    rw [e1, e2]
  have hmid : fileD a n = 2 → rankD a n = 2 → bAt (putS s n x) ((a + n) / 2) = bAt s ((a + n) / 2) := fun hf hr => hat _ (by omega) (by unfold fileD at hf; unfold rankD at hr; omega)
  have he2 : (x != 46) = (bAt s n != 46) := by simp only [bne, he]
  unfold goesB
  rw [hh, hbt, hatn, he, he2]
  split
  · rfl
  split
  · rfl
  split
  · by_cases hf : fileD a n = 2
    · by_cases hr : rankD a n = 2
      · rw [hmid hf hr]
      · have : (rankD a n == 2) = false := by rw [beq_eq_false_iff_ne]; exact hr
        simp [this]
    · have : (fileD a n == 2) = false := by rw [beq_eq_false_iff_ne]; exact hf
      simp [this]
  all_goals rfl
theorem empty_side {c : Nat} (h : 0 ≤ sideN c) : (c == 46) = false := by
  rw [beq_eq_false_iff_ne]
  intro e
  rw [e] at h
  exact absurd h (by decide)
/-- Whoever attacks a square takes what stands there, of the other side. -/
theorem att_takes {s : ByteArray} (hs : isB s = true) {n : Nat} (hn : n < 90) {side : Int} (h : sideN (bAt s n) = side) (h0 : 0 ≤ side) : attN s n (1 - side) = (List.range 90).filter fun a => canB s a n := by
  have hz := isB_size hs
  have h01 : side = 0 ∨ side = 1 := by rw [← h]; exact side_cases01 (by rw [h]; exact h0)
  have hlt := pawnOf_lt side
  unfold attN
  refine List.filter_congr fun a ha => ?_
  have ha := List.mem_range.1 ha
  unfold attB
  rw [show (1 : Int) - (1 - side) = side by omega]
  by_cases e : a = n
  · subst e
    have e1 : canB s a a = false := by
      unfold canB
      simp
    have e2 : canB (putS s a (pawnOf side)) a a = false := by
      unfold canB
      simp
    rw [e1, e2, Bool.and_false]
  · have hat : bAt (putS s n (pawnOf side)) a = bAt s a := by rw [put_at s n _ a hlt (by omega), if_neg e]
    have hatn : bAt (putS s n (pawnOf side)) n = pawnOf side := by rw [put_at s n _ n hlt (by omega), if_pos rfl]
    unfold canB
    rw [hat, hatn, pawnOf_side h01, h, goes_put hz ha hn hlt (by rw [empty_side (by rw [pawnOf_side h01]; exact h0), empty_side (by rw [h]; exact h0)])]
    by_cases h1 : 0 ≤ sideN (bAt s a)
    · rcases side_cases01 h1 with e1 | e1 <;> rcases h01 with e2 | e2 <;> rw [e1, e2] <;> simp
    · rw [decide_eq_false h1]
      simp
theorem put_put (s : ByteArray) {n c d : Nat} (hc : c < 256) (hd : d < 256) : putS (putS s n c) n d = putS s n d := by
  refine text_ext (by rw [put_size, put_size, put_size]) fun i hi => ?_
  rw [put_size, put_size] at hi
  rw [put_at _ n d i hd (by rw [put_size]; omega), put_at s n c i hc (by omega), put_at s n d i hd (by omega)]
  split
  · rfl
  · rfl
/-- What stands on a square is of no moment to who attacks it. -/
theorem att_where {s : ByteArray} {n c : Nat} (hc : c < 256) (side : Int) : attN (putS s n c) n side = attN s n side := by
  unfold attN
  refine List.filter_congr fun a _ => ?_
  unfold attB
  rw [put_put s hc (pawnOf_lt _)]
theorem put_turn {s : ByteArray} (hs : isB s = true) {n c : Nat} (hn : n < 90) (hc : c < 256) (hf : fillB c = true) : turnB (putS s n c) = putS (turnB s) (89 - n) (swapN c) := by
  have hp := put_is_board hs n c hc hf
  have hc2 : swapN c < 256 := by
    rcases byte_cases c with ⟨kb, kr, _⟩ | rfl | rfl | rfl | rfl | rfl | rfl | rfl | rfl | rfl | rfl | rfl | rfl | rfl | rfl
    · simpa [swapN, kb, kr] using hc
    all_goals decide
  refine text_ext (by rw [put_size, turn_size hp, turn_size hs]) fun i hi => ?_
  rw [turn_size hp] at hi
  rw [turn_at hp i hi, put_at s n c (89 - i) hc (by rw [isB_size hs]; omega), put_at (turnB s) (89 - n) (swapN c) i hc2 (by rw [turn_size hs]; omega), turn_at hs i hi]
  by_cases e : 89 - i = n
  · rw [if_pos e, if_pos (by omega)]
  · rw [if_neg e, if_neg (by omega)]
theorem swap_pawn {side : Int} (h : side = 0 ∨ side = 1) : swapN (pawnOf side) = pawnOf (1 - side) := by rcases h with rfl | rfl <;> decide
/-- Seen from the other side the same are attacked. -/
theorem att_turn {s : ByteArray} (hs : isB s = true) {n : Nat} (hn : n < 90) {side : Int} (h : side = 0 ∨ side = 1) : attN (turnB s) (89 - n) (1 - side) = ((attN s n side).map fun k => 89 - k).reverse := by
  unfold attN
  rw [← filt_back]
  refine List.filter_congr fun b hb => ?_
  have hb := List.mem_range.1 hb
  have h1 : (1 : Int) - side = 0 ∨ (1 : Int) - side = 1 := by omega
  have hput := put_turn hs hn (pawnOf_lt (1 - side)) (pawnOf_fill _)
  rw [swap_pawn h1] at hput
  have hbd := put_is_board hs n (pawnOf (1 - side)) (pawnOf_lt _) (pawnOf_fill _)
  unfold attB
  rw [← hput]
  have h2 := can_turn hbd (a := 89 - b) (b := n) (by omega) hn
  rw [show 89 - (89 - b) = b by omega] at h2
  have h3 := side_turn hbd (a := 89 - b) (by omega) h
  rw [show 89 - (89 - b) = b by omega] at h3
  rw [h2]
  congr 1
  rw [Bool.eq_iff_iff, beq_iff_eq, beq_iff_eq, h3]

-- generals
theorem least_some {s : ByteArray} {c n : Nat} (h : leastN s c = some n) : n < 90 ∧ bAt s n = c :=
  ⟨List.mem_range.1 (List.mem_of_find?_eq_some h), by simpa using List.find?_some h⟩
theorem least_ex {s : ByteArray} {c n : Nat} (hn : n < 90) (h : bAt s n = c) : ∃ m, leastN s c = some m := by
  cases e : leastN s c with
  | some m => exact ⟨m, rfl⟩
  | none =>
    have := List.find?_eq_none.1 e n (List.mem_range.2 hn)
    simp [h] at this
theorem one_unique {s : ByteArray} {c : Nat} (h : cntN s 90 c = 1) {a b : Nat} (ha : a < 90) (hb : b < 90) (h1 : bAt s a = c) (h2 : bAt s b = c) : a = b := by
  have hl : ((List.range 90).filter fun i => bAt s i == c).length = 1 := by
    rw [cnt_trues, trues, List.length_map] at h
    exact h
  obtain ⟨x, hx⟩ := List.length_eq_one_iff.1 hl
  have m1 : a ∈ (List.range 90).filter fun i => bAt s i == c := List.mem_filter.2 ⟨List.mem_range.2 ha, by simpa using h1⟩
  have m2 : b ∈ (List.range 90).filter fun i => bAt s i == c := List.mem_filter.2 ⟨List.mem_range.2 hb, by simpa using h2⟩
  rw [hx, List.mem_singleton] at m1 m2
  omega
theorem one_ex {s : ByteArray} {c : Nat} (h : cntN s 90 c = 1) : ∃ n, n < 90 ∧ bAt s n = c := by
  have hl : ((List.range 90).filter fun i => bAt s i == c).length = 1 := by
    rw [cnt_trues, trues, List.length_map] at h
    exact h
  obtain ⟨x, hx⟩ := List.length_eq_one_iff.1 hl
  have m : x ∈ (List.range 90).filter fun i => bAt s i == c := by rw [hx]; simp
  obtain ⟨m1, m2⟩ := List.mem_filter.1 m
  exact ⟨x, List.mem_range.1 m1, by simpa using m2⟩
theorem least_one {s : ByteArray} {c : Nat} (h : cntN s 90 c = 1) {n : Nat} (hn : n < 90) (h1 : bAt s n = c) : leastN s c = some n := by
  obtain ⟨m, hm⟩ := least_ex hn h1
  obtain ⟨m1, m2⟩ := least_some hm
  rw [hm, one_unique h m1 hn m2 h1]
/-- Two generals, one a side. -/
structure Two (s : ByteArray) (a b : Nat) : Prop where
  ha : a < 90
  hb : b < 90
  ka : leastN s 75 = some a
  kb : leastN s 107 = some b
theorem two_of {s : ByteArray} (h1 : cntN s 90 75 = 1) (h2 : cntN s 90 107 = 1) : ∃ a b, Two s a b := by
  obtain ⟨a, ha, e1⟩ := one_ex h1
  obtain ⟨b, hb, e2⟩ := one_ex h2
  exact ⟨a, b, ha, hb, least_one h1 ha e1, least_one h2 hb e2⟩
theorem two_turn {s : ByteArray} (hs : isB s = true) (h1 : cntN s 90 75 = 1) (h2 : cntN s 90 107 = 1) {a b : Nat} (h : Two s a b) : Two (turnB s) (89 - b) (89 - a) := by
  have c1 : cntN (turnB s) 90 75 = 1 := by rw [cnt_turn hs]; exact h2
  have c2 : cntN (turnB s) 90 107 = 1 := by rw [cnt_turn hs]; exact h1
  have ea := (least_some h.ka).2
  have eb := (least_some h.kb).2
  have := h.ha
  have := h.hb
  exact ⟨by omega, by omega, least_one c1 (by omega) (by rw [turn_bAt hs h.hb, eb]; rfl), least_one c2 (by omega) (by rw [turn_bAt hs h.ha, ea]; rfl)⟩
theorem facing_two {s : ByteArray} (hs : isB s = true) {a b : Nat} (h : Two s a b) : facingB s = ((a % 9 == b % 9) && (betweenN s a b == 0)) := by
  unfold facingB
  rw [h.ka, h.kb, hs]
  rfl
theorem in_two0 {s : ByteArray} (hs : isB s = true) {a b : Nat} (h : Two s a b) : inB s 0 = ((attN s a 1).length != 0) := by
  unfold inB
  rw [hs]
  show (match leastN s 75 with | some n => (attN s n 1).length != 0 | none => false) = _
  rw [h.ka]
theorem in_two1 {s : ByteArray} (hs : isB s = true) {a b : Nat} (h : Two s a b) : inB s 1 = ((attN s b 0).length != 0) := by
  unfold inB
  rw [hs]
  show (match leastN s 107 with | some n => (attN s n 0).length != 0 | none => false) = _
  rw [h.kb]
theorem two_ne {s : ByteArray} {a b : Nat} (h : Two s a b) : a ≠ b := fun e => by
  have ea := (least_some h.ka).2
  have eb := (least_some h.kb).2
  rw [e, eb] at ea
  cases ea
theorem facing_turn {s : ByteArray} (hs : isB s = true) (h1 : cntN s 90 75 = 1) (h2 : cntN s 90 107 = 1) : facingB (turnB s) = facingB s := by
  obtain ⟨a, b, h⟩ := two_of h1 h2
  have hb := turn_is_board hs
  have ha90 := h.ha
  have hb90 := h.hb
  rw [facing_two hb (two_turn hs h1 h2 h), facing_two hs h, between_turn hs h.hb h.ha]
  have e1 : ((89 - b) % 9 == (89 - a) % 9) = (a % 9 == b % 9) := by
    rw [Bool.eq_iff_iff, beq_iff_eq, beq_iff_eq]
    omega
  rw [e1]
  by_cases e : a % 9 = b % 9
  · rw [between_swap s (a := b) (b := a) (by simp [lineB, e, (two_ne h).symm])]
  · have : (a % 9 == b % 9) = false := by rw [beq_eq_false_iff_ne]; exact e
    rw [this]
    rfl
theorem in_turn {s : ByteArray} (hs : isB s = true) (h1 : cntN s 90 75 = 1) (h2 : cntN s 90 107 = 1) {side : Int} (hsd : side = 0 ∨ side = 1) : inB (turnB s) (1 - side) = inB s side := by
  obtain ⟨a, b, h⟩ := two_of h1 h2
  have hb := turn_is_board hs
  have ht := two_turn hs h1 h2 h
  rcases hsd with rfl | rfl
  · rw [show (1 : Int) - 0 = 1 by rfl, in_two1 hb ht, in_two0 hs h]
    have := att_turn hs h.ha (side := 1) (.inr rfl)
    rw [show (1 : Int) - 1 = 0 by rfl] at this
    rw [this, List.length_reverse, List.length_map]
  · rw [show (1 : Int) - 1 = 0 by rfl, in_two0 hb ht, in_two1 hs h]
    have := att_turn hs h.hb (side := 0) (.inl rfl)
    rw [show (1 : Int) - 0 = 1 by rfl] at this
    rw [this, List.length_reverse, List.length_map]
/-- Seen from the other side a position is as right as it was. -/
theorem well_turn {s : ByteArray} {side clock full : Int} (hs : isB s = true) (hsd : side = 0 ∨ side = 1) : wellN (turnB s) (1 - side) clock full = wellN s side clock full := by
  unfold wellN
  rw [check_turn hs hsd]
  by_cases h : (checkN s side clock full : Int) = 0
  · obtain ⟨_, hc, _⟩ := check_zero h
    obtain ⟨_, h1, h2⟩ := counts_parts hc
    rw [if_pos h, if_pos h, facing_turn hs h1 h2, in_turn hs h1 h2 (side := 1 - side) (by omega)]
  · rw [if_neg h, if_neg h]
end Go.Proofs.YtbdgbihdhbjljaaGreatDoor
