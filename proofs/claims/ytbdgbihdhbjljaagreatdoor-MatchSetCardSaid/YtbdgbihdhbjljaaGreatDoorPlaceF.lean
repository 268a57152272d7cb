/- Plain facts on positions: with something put; turned round. -/
import Derived.Test.YtbdgbihdhbjljaaGreatDoorPos3
namespace Go.Proofs.YtbdgbihdhbjljaaGreatDoor
open Go.RowKit Go.Shelf
open M (S)

theorem check_zero {s : ByteArray} {side clock full : Int} (h : (checkN s side clock full : Int) = 0) : partsB s side clock full = true ∧ countsB s 90 = true ∧ placesB s 90 = true := by
  unfold checkN at h
  cases h1 : partsB s side clock full <;> cases h2 : countsB s 90 <;> cases h3 : placesB s 90 <;> simp [h1, h2, h3] at h ⊢
theorem parts_board {s : ByteArray} {side clock full : Int} (h : partsB s side clock full = true) : isB s = true := by
  simp only [partsB, Bool.and_eq_true] at h
  exact h.1.1.1.1.1
theorem parts_put {s t : ByteArray} {side clock full : Int} (h : partsB s side clock full = true) (ht : isB t = true) : partsB t side clock full = true := by
  simp only [partsB, Bool.and_eq_true] at h ⊢
  exact ⟨⟨⟨⟨⟨ht, h.1.1.1.1.2⟩, h.1.1.1.2⟩, h.1.1.2⟩, h.1.2⟩, h.2⟩
theorem cnt_same {s t : ByteArray} (b : Nat) : ∀ n, (∀ i, i < n → bAt t i = bAt s i) → cntN t n b = cntN s n b
  | 0, _ => rfl
  | n + 1, h => by
    rw [cntN_succ, cntN_succ, h n (by omega), cnt_same b n fun i hi => h i (by omega)]
theorem cnt_put {s : ByteArray} {k c : Nat} (hc : c < 256) (b : Nat) : ∀ n, k < n → n ≤ s.size → cntN (putS s k c) n b + (if bAt s k = b then 1 else 0) = cntN s n b + (if c = b then 1 else 0)
  | 0, h, _ => absurd h (Nat.not_lt_zero k)
  | n + 1, h, hn => by
    rw [cntN_succ, cntN_succ, put_at s k c n hc (by omega)]
    by_cases e : n = k
    · subst e
      rw [if_pos rfl, cnt_same (s := s) (t := putS s n c) b n fun i hi => by rw [put_at s n c i hc (by omega), if_neg (by omega)]]
      split <;> split <;> omega
    · rw [if_neg e]
      have ih := cnt_put (s := s) (k := k) hc b n (by omega) (by omega)
      split <;> omega
theorem counts_parts {s : ByteArray} (h : countsB s 90 = true) : (∀ c, c ∈ kindsL → cntN s 90 c ≤ mostN c ∧ cntN s 90 (c + 32) ≤ mostN (c + 32)) ∧ cntN s 90 75 = 1 ∧ cntN s 90 107 = 1 := by
  simp only [countsB, Bool.and_eq_true, List.all_eq_true, beq_iff_eq] at h
  refine ⟨fun c hc => ?_, h.1.2, h.2⟩
  have := h.1.1 c hc
  simpa only [fewB, Bool.and_eq_true, decide_eq_true_eq] using this
theorem counts_of {s : ByteArray} (h : ∀ c, c ∈ kindsL → cntN s 90 c ≤ mostN c ∧ cntN s 90 (c + 32) ≤ mostN (c + 32)) (h1 : cntN s 90 75 = 1) (h2 : cntN s 90 107 = 1) : countsB s 90 = true := by
  simp only [countsB, Bool.and_eq_true, List.all_eq_true, beq_iff_eq]
  refine ⟨⟨fun c hc => ?_, h1⟩, h2⟩
  simpa only [fewB, Bool.and_eq_true, decide_eq_true_eq] using h c hc
theorem kind_general {c : Nat} (h : kindN c = 75) : c = 75 ∨ c = 107 := by
  rcases byte_cases c with ⟨kb, kr, _⟩ | rfl | rfl | rfl | rfl | rfl | rfl | rfl | rfl | rfl | rfl | rfl | rfl | rfl | rfl
  · rw [show kindN c = 0 by simp [kindN, kb, kr]] at h; cases h
  all_goals first | (exact .inl rfl) | (exact .inr rfl) | (exact absurd h (by decide))
theorem fewer_general {s : ByteArray} {side clock full : Int} {k : Nat} (h : (checkN s side clock full : Int) = 0) (hk : k < 90) (hg : kindN (bAt s k) = 75) : (checkN (putS s k 46) side clock full : Int) = 3 := by
  obtain ⟨hp, hc, _⟩ := check_zero h
  have hb := parts_board hp
  have hs := isB_size hb
  have ht := put_is_board hb k 46 (by decide) rfl
  obtain ⟨_, g1, g2⟩ := counts_parts hc
  have hcf : countsB (putS s k 46) 90 = false := by
    cases e : countsB (putS s k 46) 90
    · rfl
    · obtain ⟨_, e1, e2⟩ := counts_parts e
      rcases kind_general hg with hx | hx
      · have := cnt_put (s := s) (k := k) (c := 46) (by decide) 75 90 hk (by omega)
        rw [if_pos hx, if_neg (by decide)] at this
        omega
      · have := cnt_put (s := s) (k := k) (c := 46) (by decide) 107 90 hk (by omega)
        rw [if_pos hx, if_neg (by decide)] at this
        omega
  rw [checkN, parts_put hp ht, hcf]
  rfl
theorem fewer_other {s : ByteArray} {side clock full : Int} {k : Nat} (h : (checkN s side clock full : Int) = 0) (hk : k < 90) (hg : kindN (bAt s k) ≠ 75) : (checkN (putS s k 46) side clock full : Int) = 0 := by
  obtain ⟨hp, hc, hl⟩ := check_zero h
  have hb := parts_board hp
  have hs := isB_size hb
  have ht := put_is_board hb k 46 (by decide) rfl
  obtain ⟨g0, g1, g2⟩ := counts_parts hc
  have hle : ∀ b, b ≠ 46 → cntN (putS s k 46) 90 b ≤ cntN s 90 b := fun b hb46 => by
    have := cnt_put (s := s) (k := k) (c := 46) (by decide) b 90 hk (by omega)
    rw [if_neg (c := 46 = b) (fun e => hb46 e.symm)] at this
    omega
  have heq : ∀ b, b ≠ 46 → bAt s k ≠ b → cntN (putS s k 46) 90 b = cntN s 90 b := fun b hb46 hne => by
    have := cnt_put (s := s) (k := k) (c := 46) (by decide) b 90 hk (by omega)
    rw [if_neg (c := 46 = b) (fun e => hb46 e.symm), if_neg hne] at this
    omega
  have hct : countsB (putS s k 46) 90 = true := by
    refine counts_of (fun c hcm => ?_) ?_ ?_
    · obtain ⟨a, b⟩ := g0 c hcm
      have hne : c ≠ 46 ∧ c + 32 ≠ 46 := by
        simp only [kindsL, List.mem_cons, List.not_mem_nil, or_false] at hcm
        omega
      exact ⟨Nat.le_trans (hle c hne.1) a, Nat.le_trans (hle _ hne.2) b⟩
    · rw [heq 75 (by decide) (fun e => hg (by rw [e]; rfl)), g1]
    · rw [heq 107 (by decide) (fun e => hg (by rw [e]; rfl)), g2]
  have hlt : placesB (putS s k 46) 90 = true := by
    simp only [placesB, List.all_eq_true] at hl ⊢
    intro i hi
    rw [put_at s k 46 i (by decide) (by have := List.mem_range.1 hi; omega)]
    by_cases e : i = k
    · rw [if_pos e]; rfl
    · rw [if_neg e]; exact hl i hi
  rw [checkN, parts_put hp ht, hct, hlt]
  rfl
theorem side_letter {c : Nat} (h : 0 ≤ sideN c) : c ∈ lettersL := by
  rcases byte_cases c with ⟨kb, kr, _⟩ | rfl | rfl | rfl | rfl | rfl | rfl | rfl | rfl | rfl | rfl | rfl | rfl | rfl | rfl
  · rw [show sideN c = -1 by simp [sideN, kb, kr]] at h; omega
  all_goals decide
theorem side_fill {c : Nat} (h : 0 ≤ sideN c) : fillB c = true := by rw [fill_side, decide_eq_true h, Bool.or_true]
theorem more_one {s : ByteArray} {side clock full : Int} {k c : Nat} (h : (checkN s side clock full : Int) = 0) (hk : k < 90) (h46 : bAt s k = 46) (hc : 0 ≤ sideN c) (hc256 : c < 256) (hm : mostN c ≤ (findL s c).length) : (checkN (putS s k c) side clock full : Int) = 3 := by
  obtain ⟨hp, _, _⟩ := check_zero h
  have hb := parts_board hp
  have hs := isB_size hb
  have ht := put_is_board hb k c hc256 (side_fill hc)
  rw [find_cnt hb] at hm
  have hne : ¬ bAt s k = c := fun e => by
    rw [h46] at e
    rw [← e] at hc
    exact absurd hc (by decide)
  have hcnt := cnt_put (s := s) (k := k) (c := c) hc256 c 90 hk (by omega)
  rw [if_neg hne, if_pos rfl] at hcnt
  have hno : countsB (putS s k c) 90 = false := letters_no (side_letter hc) (by
    unfold okL
    rw [decide_eq_false (by omega), Bool.false_and])
  rw [checkN, parts_put hp ht, hno]
  rfl

-- turned round
theorem cnt_trues (s : ByteArray) (b : Nat) : cntN s 90 b = (trues (fun i => bAt s i == b) 90).length := rfl
theorem swap_eq {c b : Nat} : (swapN c == b) = (c == swapN b) := by
  rw [Bool.eq_iff_iff, beq_iff_eq, beq_iff_eq]
  exact ⟨fun h => by rw [← h, swap_swap], fun h => by rw [h, swap_swap]⟩
theorem cnt_turn {s : ByteArray} (h : isB s = true) (b : Nat) : cntN (turnB s) 90 b = cntN s 90 (swapN b) := by
  rw [cnt_trues, cnt_trues]
  rw [trues_congr (p := fun i => bAt (turnB s) i == b) (q := fun i => bAt s (89 - i) == swapN b) (fun k hk => by rw [turn_at h k hk, swap_eq])]
  exact trues_back fun i => bAt s i == swapN b
theorem counts_turn {s : ByteArray} (h : isB s = true) : countsB (turnB s) 90 = countsB s 90 := by
  unfold countsB kindsL fewB
  simp only [List.all_cons, List.all_nil, Bool.and_true, cnt_turn h]
  rw [show swapN 75 = 107 from rfl, show swapN 65 = 97 from rfl, show swapN 66 = 98 from rfl, show swapN 78 = 110 from rfl, show swapN 82 = 114 from rfl, show swapN 67 = 99 from rfl, show swapN 80 = 112 from rfl,
    show swapN (75 + 32) = 75 from rfl, show swapN (65 + 32) = 65 from rfl, show swapN (66 + 32) = 66 from rfl, show swapN (78 + 32) = 78 from rfl, show swapN (82 + 32) = 82 from rfl, show swapN (67 + 32) = 67 from rfl, show swapN (80 + 32) = 80 from rfl]
  try rw [show swapN 107 = 75 from rfl]
  rw [show mostN 75 = 1 from rfl, show mostN 65 = 2 from rfl, show mostN 66 = 2 from rfl, show mostN 78 = 2 from rfl, show mostN 82 = 2 from rfl, show mostN 67 = 2 from rfl, show mostN 80 = 5 from rfl,
    show mostN (75 + 32) = 1 from rfl, show mostN (65 + 32) = 2 from rfl, show mostN (66 + 32) = 2 from rfl, show mostN (78 + 32) = 2 from rfl, show mostN (82 + 32) = 2 from rfl, show mostN (67 + 32) = 2 from rfl, show mostN (80 + 32) = 5 from rfl]
  rw [Bool.eq_iff_iff]
  simp only [Bool.and_eq_true, decide_eq_true_eq, beq_iff_eq]
  rw [show (75 + 32 : Nat) = 107 from rfl, show (65 + 32 : Nat) = 97 from rfl, show (66 + 32 : Nat) = 98 from rfl, show (78 + 32 : Nat) = 110 from rfl, show (82 + 32 : Nat) = 114 from rfl, show (67 + 32 : Nat) = 99 from rfl, show (80 + 32 : Nat) = 112 from rfl]
  constructor
  · intro h
    omega
  · intro h
    omega
theorem seen_back {n : Int} (_h : 0 ≤ n ∧ n < 90) : seenF (89 - n) 1 = seenF n 0 ∧ seenR (89 - n) 1 = seenR n 0 ∧ seenF (89 - n) 0 = seenF n 1 ∧ seenR (89 - n) 0 = seenR n 1 := by
  have a0 : ∀ m : Int, seenF m 0 = m % 9 := fun _ => rfl
  have a1 : ∀ m : Int, seenF m 1 = 8 - m % 9 := fun _ => rfl
  have b0 : ∀ m : Int, seenR m 0 = m / 9 := fun _ => rfl
  have b1 : ∀ m : Int, seenR m 1 = 9 - m / 9 := fun _ => rfl
  rw [a0, a0, a1, a1, b0, b0, b1, b1]
  omega
theorem real_sq {n side : Int} (h : 0 ≤ n ∧ n < 90) (hs : side = 0 ∨ side = 1) : realB n side = true := by
  rw [realB, sqI_true h]
  rcases hs with rfl | rfl <;> rfl
theorem may_turn {c : Nat} {n : Int} (h : 0 ≤ n ∧ n < 90) : mayB (swapN c) (89 - n) = mayB c n := by
  by_cases hs : sideN c = -1
  · have e : swapN c = c := swap_none (by omega)
    rw [e, mayB, mayB, real_none (by omega), real_none (by omega)]
    rfl
  · have hsw := swap_side c hs
    have hg := sideN_ge c
    unfold mayB
    rw [swap_kind, hsw]
    obtain ⟨a, b, d, e⟩ := seen_back h
    have hc : sideN c = 0 ∨ sideN c = 1 := by omega
    rcases hc with hc | hc
    · rw [hc, show (1 : Int) - 0 = 1 from rfl, a, b, real_sq h (.inl rfl), real_sq (by omega) (.inr rfl)]
    · rw [hc, show (1 : Int) - 1 = 0 from rfl, d, e, real_sq h (.inr rfl), real_sq (by omega) (.inl rfl)]
theorem places_turn {s : ByteArray} (h : isB s = true) : placesB (turnB s) 90 = placesB s 90 := by
  have key : ∀ (t : ByteArray), isB t = true → placesB t 90 = true → placesB (turnB t) 90 = true := fun t ht hp => by
    simp only [placesB, List.all_eq_true, List.mem_range] at hp ⊢
    intro i hi
    rw [turn_at ht i hi, swap_kind]
    have hi' := hp (89 - i) (by omega)
    have hm := may_turn (c := bAt t (89 - i)) (n := ((89 - i : Nat) : Int)) (by omega)
    rw [show (89 : Int) - ((89 - i : Nat) : Int) = (i : Int) by omega] at hm
    rw [hm]
    exact hi'
  cases e : placesB s 90
  · cases e' : placesB (turnB s) 90
    · rfl
    · have := key _ (turn_is_board h) e'
      rw [turn_turn h, e] at this
      cases this
  · exact key s h e
theorem check_turn {s : ByteArray} {side clock full : Int} (h : isB s = true) (hs : side = 0 ∨ side = 1) : checkN (turnB s) (1 - side) clock full = checkN s side clock full := by
  have hp : partsB (turnB s) (1 - side) clock full = partsB s side clock full := by
    unfold partsB
    rw [turn_is_board h, h]
    rcases hs with rfl | rfl <;> rfl
  unfold checkN
  rw [hp, counts_turn h, places_turn h]
theorem palace_turn {n : Int} (h : 0 ≤ n ∧ n < 90) : palaceB n 0 = palaceB (89 - n) 1 := by
  obtain ⟨a, b, _, _⟩ := seen_back h
  unfold palaceB
  rw [a, b, real_sq h (.inl rfl), real_sq (by omega) (.inr rfl)]
theorem over_turn {n : Int} (h : 0 ≤ n ∧ n < 90) : overB n 0 = overB (89 - n) 1 := by
  obtain ⟨_, b, _, _⟩ := seen_back h
  unfold overB
  rw [b, real_sq h (.inl rfl), real_sq (by omega) (.inr rfl)]
theorem over_other {n : Int} (h : 0 ≤ n ∧ n < 90) : (overB n 0 != overB n 1) = true := by
  unfold overB
  rw [real_sq h (.inl rfl), real_sq h (.inr rfl), Bool.true_and, Bool.true_and]
  rw [show seenR n 0 = n / 9 from rfl, show seenR n 1 = 9 - n / 9 from rfl]
  by_cases h5 : 5 ≤ n / 9
  · rw [decide_eq_true h5, decide_eq_false (by omega)]; rfl
  · rw [decide_eq_false h5, decide_eq_true (by omega)]; rfl
end Go.Proofs.YtbdgbihdhbjljaaGreatDoor
