/- Where a piece reaches, plainly: of a board's text; and what follows: turned round it is the same. No program in it. -/
import Derived.Test.YtbdgbihdhbjljaaGreatDoorPlaceF
namespace Go.Proofs.YtbdgbihdhbjljaaGreatDoor

/-- How many files, how many ranks two squares are away from one another. -/
def fileD (a b : Nat) : Nat := max (a % 9) (b % 9) - min (a % 9) (b % 9)
def rankD (a b : Nat) : Nat := max (a / 9) (b / 9) - min (a / 9) (b / 9)
/-- Two squares on one file or one rank, not the same; what stands between them. -/
def lineB (a b : Nat) : Bool := (a != b) && ((a / 9 == b / 9) || (a % 9 == b % 9))
def wayB (a b k : Nat) : Bool := decide (min a b < k) && decide (k < max a b) && ((a / 9 == b / 9) || (k % 9 == a % 9))
def betweenN (s : ByteArray) (a b : Nat) : Nat := (trues (fun k => wayB a b k && (bAt s k != 46)) 90).length
def betweenI (s : ByteArray) (a b : Nat) : Int := if lineB a b then (betweenN s a b : Int) else -1
/-- A horse's leg. -/
def legR (a b : Nat) : Nat := if a / 9 < b / 9 then a + 9 else a - 9
def legF (a b : Nat) : Nat := if a % 9 < b % 9 then a + 1 else a - 1
def horseB (s : ByteArray) (a b : Nat) : Bool := (fileD a b == 1 && rankD a b == 2 && (bAt s (legR a b) == 46)) || (fileD a b == 2 && rankD a b == 1 && (bAt s (legF a b) == 46))
def pawnB (c a b : Nat) : Bool := (if sideN c = 1 then a == b + 9 else b == a + 9) || (overB (a : Int) (sideN c) && (a / 9 == b / 9) && (fileD a b == 1))
/-- Where a piece goes, whatever stands there of its own. -/
def goesB (s : ByteArray) (c a b : Nat) : Bool :=
  if kindN c = 75 then (fileD a b + rankD a b == 1) && mayB c (b : Int)
  else if kindN c = 65 then fileD a b == 1 && rankD a b == 1 && mayB c (b : Int)
  else if kindN c = 66 then fileD a b == 2 && rankD a b == 2 && mayB c (b : Int) && (bAt s ((a + b) / 2) == 46)
  else if kindN c = 78 then horseB s a b
  else if kindN c = 82 then lineB a b && (betweenN s a b == 0)
  else if kindN c = 67 then lineB a b && ((betweenN s a b == 0 && (bAt s b == 46)) || (betweenN s a b == 1 && (bAt s b != 46)))
  else pawnB c a b
def canB (s : ByteArray) (a b : Nat) : Bool := decide (0 ≤ sideN (bAt s a)) && (sideN (bAt s b) != sideN (bAt s a)) && goesB s (bAt s a) a b
/-- What the three calls answer. -/
def canI (s : ByteArray) (a b : Int) : Bool := isB s && sqI a && sqI b && canB s a.toNat b.toNat
def betweenV (s : ByteArray) (a b : Int) : Int := if isB s && sqI a && sqI b then betweenI s a.toNat b.toNat else -1
def allL (s : ByteArray) (a : Int) : List Int := if isB s && sqI a then trues (fun b => canB s a.toNat b) 90 else []

theorem fileD_back {a b : Nat} (ha : a < 90) (hb : b < 90) : fileD (89 - a) (89 - b) = fileD a b := by unfold fileD; omega
theorem rankD_back {a b : Nat} (ha : a < 90) (hb : b < 90) : rankD (89 - a) (89 - b) = rankD a b := by unfold rankD; omega
theorem lineB_back {a b : Nat} (ha : a < 90) (hb : b < 90) : lineB (89 - a) (89 - b) = lineB a b := by
  unfold lineB
  rw [Bool.eq_iff_iff]
  simp only [Bool.and_eq_true, Bool.or_eq_true, bne_iff_ne, beq_iff_eq, ne_eq]
  omega
theorem wayB_back {a b k : Nat} (ha : a < 90) (hb : b < 90) (hk : k < 90) : wayB (89 - a) (89 - b) k = wayB a b (89 - k) := by
  unfold wayB
  rw [Bool.eq_iff_iff]
  simp only [Bool.and_eq_true, Bool.or_eq_true, beq_iff_eq, decide_eq_true_eq]
  omega
theorem swap_empty {c : Nat} : (swapN c != 46) = (c != 46) := by
  rcases byte_cases c with ⟨kb, kr, h⟩ | rfl | rfl | rfl | rfl | rfl | rfl | rfl | rfl | rfl | rfl | rfl | rfl | rfl | rfl
  · simp [swapN, kb, kr]
  all_goals rfl
theorem swap_empty' {c : Nat} : (swapN c == 46) = (c == 46) := by
  have := @swap_empty c
  simp only [bne] at this
  exact Bool.not_inj this
theorem between_turn {s : ByteArray} (h : isB s = true) {a b : Nat} (ha : a < 90) (hb : b < 90) : betweenN (turnB s) (89 - a) (89 - b) = betweenN s a b := by
  unfold betweenN
  rw [← trues_back (fun k => wayB a b k && (bAt s k != 46))]
  congr 1
  refine trues_congr fun k hk => ?_
  rw [wayB_back ha hb hk, turn_at h k hk, swap_empty]
theorem between_swap (s : ByteArray) {a b : Nat} (hl : lineB a b = true) : betweenN s a b = betweenN s b a := by
  unfold betweenN
  congr 1
  refine trues_congr fun k hk => ?_
  congr 1
  unfold lineB at hl
  unfold wayB
  rw [Bool.eq_iff_iff]
  simp only [Bool.and_eq_true, Bool.or_eq_true, bne_iff_ne, beq_iff_eq, ne_eq, decide_eq_true_eq] at hl ⊢
  omega
theorem lineB_swap (a b : Nat) : lineB a b = lineB b a := by
  unfold lineB
  rw [Bool.eq_iff_iff]
  simp only [Bool.and_eq_true, Bool.or_eq_true, bne_iff_ne, beq_iff_eq, ne_eq]
  omega
theorem betweenI_turn {s : ByteArray} (h : isB s = true) {a b : Nat} (ha : a < 90) (hb : b < 90) : betweenI (turnB s) (89 - a) (89 - b) = betweenI s a b := by
  unfold betweenI
  rw [lineB_back ha hb]
  cases hl : lineB a b
  · rfl
  · rw [if_pos rfl, if_pos rfl, between_turn h ha hb]
theorem betweenI_swap (s : ByteArray) (a b : Nat) : betweenI s a b = betweenI s b a := by
  unfold betweenI
  rw [lineB_swap b a]
  cases hl : lineB a b
  · rfl
  · rw [if_pos rfl, if_pos rfl, between_swap s hl]
theorem legR_back {a b : Nat} (ha : a < 90) (hb : b < 90) (hr : rankD a b = 2) : legR (89 - a) (89 - b) = 89 - legR a b ∧ legR a b < 90 := by
  unfold rankD at hr
  unfold legR
  split <;> split <;> omega
theorem legF_back {a b : Nat} (ha : a < 90) (hb : b < 90) (hf : fileD a b = 2) : legF (89 - a) (89 - b) = 89 - legF a b ∧ legF a b < 90 := by
  unfold fileD at hf
  unfold legF
  split <;> split <;> omega
theorem turn_bAt {s : ByteArray} (h : isB s = true) {a : Nat} (ha : a < 90) : bAt (turnB s) (89 - a) = swapN (bAt s a) := by
  rw [turn_at h (89 - a) (by omega), show 89 - (89 - a) = a by omega]
theorem horse_turn {s : ByteArray} (h : isB s = true) {a b : Nat} (ha : a < 90) (hb : b < 90) : horseB (turnB s) (89 - a) (89 - b) = horseB s a b := by
  unfold horseB
  rw [fileD_back ha hb, rankD_back ha hb]
  have e1 : (fileD a b == 1 && rankD a b == 2 && (bAt (turnB s) (legR (89 - a) (89 - b)) == 46)) = (fileD a b == 1 && rankD a b == 2 && (bAt s (legR a b) == 46)) := by
    by_cases hr : rankD a b = 2
    · obtain ⟨l1, l2⟩ := legR_back ha hb hr
      rw [l1, turn_bAt h l2, swap_empty']
    · have : (rankD a b == 2) = false := by rw [beq_eq_false_iff_ne]; exact hr
      rw [this, Bool.and_false, Bool.false_and, Bool.false_and]
  have e2 : (fileD a b == 2 && rankD a b == 1 && (bAt (turnB s) (legF (89 - a) (89 - b)) == 46)) = (fileD a b == 2 && rankD a b == 1 && (bAt s (legF a b) == 46)) := by
    by_cases hf : fileD a b = 2
    · obtain ⟨l1, l2⟩ := legF_back ha hb hf
      rw [l1, turn_bAt h l2, swap_empty']
    · have : (fileD a b == 2) = false := by rw [beq_eq_false_iff_ne]; exact hf
      rw [this, Bool.false_and, Bool.false_and, Bool.false_and]
  rw [e1, e2]
theorem over_turn2 {a : Nat} (ha : a < 90) {x y : Int} (hx : x = 0 ∨ x = 1) (hy : y = 1 - x) : overB ((89 - a : Nat) : Int) y = overB (a : Int) x := by
  have h1 := over_turn (n := (a : Int)) (by omega)
  have h2 := over_turn (n := ((89 - a : Nat) : Int)) (by omega)
  have e1 : ((89 - a : Nat) : Int) = 89 - (a : Int) := by omega
  rcases hx with rfl | rfl
  · rw [hy, show (1 : Int) - 0 = 1 by rfl, h1, e1]
  · rw [hy, show (1 : Int) - 1 = 0 by rfl, h2, e1, show (89 : Int) - (89 - (a : Int)) = a by omega]
theorem side_cases01 {c : Nat} (h : 0 ≤ sideN c) : sideN c = 0 ∨ sideN c = 1 := by
  unfold sideN at h ⊢
  split
  · exact .inl rfl
  · split
    · exact .inr rfl
    · rename_i h1 h2
      rw [if_neg h1, if_neg h2] at h
      omega
theorem pawn_turn {c a b : Nat} (hc : 0 ≤ sideN c) (ha : a < 90) (hb : b < 90) : pawnB (swapN c) (89 - a) (89 - b) = pawnB c a b := by
  have hs := swap_side c (by omega)
  have h01 := side_cases01 hc
  unfold pawnB
  rw [fileD_back ha hb, over_turn2 ha h01 hs]
  have e1 : ((89 - a) / 9 == (89 - b) / 9) = (a / 9 == b / 9) := by
    rw [Bool.eq_iff_iff, beq_iff_eq, beq_iff_eq]
    omega
  rw [e1, hs]
  congr 1
  rw [Bool.eq_iff_iff]
  rcases h01 with e | e
  · rw [e]
    simp only [show ((1 : Int) - 0 = 1) = True by simp, if_true, show ((0 : Int) = 1) = False by simp, if_false, beq_iff_eq]
    omega
  · rw [e]
    simp only [show ((1 : Int) - 1 = 1) = False by simp, if_true, if_false, beq_iff_eq]
    omega
theorem goes_turn {s : ByteArray} (h : isB s = true) {c a b : Nat} (hc : 0 ≤ sideN c) (ha : a < 90) (hb : b < 90) : goesB (turnB s) (swapN c) (89 - a) (89 - b) = goesB s c a b := by
  have hm : mayB (swapN c) ((89 - b : Nat) : Int) = mayB c (b : Int) := by
    have := may_turn (c := c) (n := (b : Int)) (by omega)
    rw [← this]
    congr 1
    omega
  have hmid : fileD a b = 2 → rankD a b = 2 → (bAt (turnB s) ((89 - a + (89 - b)) / 2) == 46) = (bAt s ((a + b) / 2) == 46) := fun hf hr => by
    have e : (89 - a + (89 - b)) / 2 = 89 - (a + b) / 2 := by unfold fileD at hf; unfold rankD at hr; omega
    rw [e, turn_bAt h (by omega), swap_empty']
  have hline : betweenN (turnB s) (89 - a) (89 - b) = betweenN s a b := between_turn h ha hb
  unfold goesB
  rw [swap_kind, fileD_back ha hb, rankD_back ha hb, hm, horse_turn h ha hb, lineB_back ha hb, pawn_turn hc ha hb, turn_bAt h hb, swap_empty, swap_empty']
  split
  · rfl
  split
  · rfl
  split
  · by_cases hf : fileD a b = 2
    · by_cases hr : rankD a b = 2
      · rw [hmid hf hr]
      · have : (rankD a b == 2) = false := by rw [beq_eq_false_iff_ne]; exact hr
        simp [this]
    · have : (fileD a b == 2) = false := by rw [beq_eq_false_iff_ne]; exact hf
      simp [this]
  split
  · rfl
  split
  · rw [hline]
  split
  · rw [hline]
  · rfl
theorem swap_side_ne {c d : Nat} (hc : 0 ≤ sideN c) : (sideN (swapN d) != sideN (swapN c)) = (sideN d != sideN c) := by
  have hs := swap_side c (by omega)
  by_cases hd : sideN d = -1
  · have : sideN (swapN d) = -1 := by
      rcases byte_cases d with ⟨kb, kr, h⟩ | rfl | rfl | rfl | rfl | rfl | rfl | rfl | rfl | rfl | rfl | rfl | rfl | rfl | rfl
      · simp [swapN, sideN, kb, kr]
      all_goals exact absurd hd (by decide)
    rw [this, hd, hs]
    rcases side_cases01 hc with e | e <;> rw [e] <;> rfl
  · rw [hs, swap_side d hd, Bool.eq_iff_iff, bne_iff_ne, bne_iff_ne]
    omega
theorem can_turn {s : ByteArray} (h : isB s = true) {a b : Nat} (ha : a < 90) (hb : b < 90) : canB (turnB s) (89 - a) (89 - b) = canB s a b := by
  unfold canB
  rw [turn_bAt h ha, turn_bAt h hb]
  by_cases hc : 0 ≤ sideN (bAt s a)
  · have hs := swap_side (bAt s a) (by omega)
    have h01 := side_cases01 hc
    rw [swap_side_ne hc, goes_turn h hc ha hb, decide_eq_true hc, decide_eq_true (by omega)]
  · have hn : sideN (bAt s a) = -1 := by
      unfold sideN at hc ⊢
      split
      · rename_i h1; rw [if_pos h1] at hc; exact absurd (by omega) hc
      · split
        · rename_i h1 h2; rw [if_neg h1, if_pos h2] at hc; exact absurd (by omega) hc
        · rfl
    have hn2 : sideN (swapN (bAt s a)) = -1 := by
      rcases byte_cases (bAt s a) with ⟨kb, kr, h⟩ | e | e | e | e | e | e | e | e | e | e | e | e | e | e
      · simp [swapN, sideN, kb, kr]
      all_goals
        rw [e] at hn
        exact absurd hn (by decide)
    rw [hn, hn2]
    rfl
end Go.Proofs.YtbdgbihdhbjljaaGreatDoor
