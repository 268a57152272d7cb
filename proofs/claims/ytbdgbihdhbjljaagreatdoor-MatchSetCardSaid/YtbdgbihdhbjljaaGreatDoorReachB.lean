/- What follows of where a piece reaches: back, blocked, its own, a pawn. No program in it. -/
import Derived.Test.YtbdgbihdhbjljaaGreatDoorReachA
namespace Go.Proofs.YtbdgbihdhbjljaaGreatDoor

theorem fileD_swap (a b : Nat) : fileD a b = fileD b a := by unfold fileD; omega
theorem rankD_swap (a b : Nat) : rankD a b = rankD b a := by unfold rankD; omega
/-- Two boards that are the same between two squares. -/
theorem between_same {s t : ByteArray} {a b : Nat} (h : ∀ k, k < 90 → k ≠ a → k ≠ b → bAt t k = bAt s k) : betweenN t a b = betweenN s a b := by
  unfold betweenN
  congr 1
  refine trues_congr fun k hk => ?_
  by_cases hw : wayB a b k = true
  · rw [h k hk]
    · intro e
      subst e
      simp [wayB] at hw
      omega
    · intro e
      subst e
      simp [wayB] at hw
      omega
  · rw [Bool.not_eq_true] at hw
    rw [hw]
    rfl
/-- What stands on a square is no matter to what stands between it and another. -/
theorem between_put {s : ByteArray} (hs : s.size = 90) {a b c : Nat} (hc : c < 256) : betweenN (putS s a c) a b = betweenN s a b := by
  refine between_same fun k hk h1 _ => ?_
  rw [put_at s a c k hc (by omega), if_neg h1]
/-- Moved from a to b. -/
def movedS (s : ByteArray) (a b c : Nat) : ByteArray := putS (putS s a 46) b c
theorem moved_at {s : ByteArray} (hs : s.size = 90) {a b c k : Nat} (hc : c < 256) (hk : k < 90) : bAt (movedS s a b c) k = if k = b then c else if k = a then 46 else bAt s k := by
  unfold movedS
  rw [put_at _ b c k hc (by rw [put_size]; omega), put_at s a 46 k (by decide) (by omega)]
theorem side_empty : sideN 46 = -1 := by decide
theorem moved_board {s : ByteArray} (h : isB s = true) {a b c : Nat} (hc : c < 256) (hf : fillB c = true) : isB (movedS s a b c) = true :=
  put_is_board (put_is_board h a 46 (by decide) (by decide)) b c hc hf
theorem kinds_of {c : Nat} (h : 0 ≤ sideN c) : kindN c = 75 ∨ kindN c = 65 ∨ kindN c = 66 ∨ kindN c = 78 ∨ kindN c = 82 ∨ kindN c = 67 ∨ kindN c = 80 := by
  rcases byte_cases c with ⟨kb, kr, _⟩ | rfl | rfl | rfl | rfl | rfl | rfl | rfl | rfl | rfl | rfl | rfl | rfl | rfl | rfl
  · simp [sideN, kb, kr] at h
  all_goals decide
theorem can_parts {s : ByteArray} {a b : Nat} (h : canB s a b = true) : 0 ≤ sideN (bAt s a) ∧ sideN (bAt s b) ≠ sideN (bAt s a) ∧ goesB s (bAt s a) a b = true := by
  simp only [canB, Bool.and_eq_true, decide_eq_true_eq, bne_iff_ne] at h
  exact ⟨h.1.1, h.1.2, h.2⟩
theorem can_self {s : ByteArray} {a b : Nat} (h : canB s a b = true) : a ≠ b := fun e => (can_parts h).2.1 (by rw [e])
/-- Back where it came from. -/
theorem can_back {s : ByteArray} (hs : isB s = true) {a b : Nat} (ha : a < 90) (hb : b < 90) (h : canB s a b = true) (hk : kindN (bAt s a) ≠ 78) (hp : kindN (bAt s a) ≠ 80) (hc : kindN (bAt s a) = 67 → bAt s b = 46) (hm : mayB (bAt s a) (a : Int) = true) : canB (movedS s a b (bAt s a)) b a = true := by
  have hz := isB_size hs
  have hne := can_self h
  obtain ⟨h1, h2, h3⟩ := can_parts h
  have hlt := bAt_lt s a
  obtain ⟨c, hce⟩ : ∃ c, bAt s a = c := ⟨_, rfl⟩
  rw [hce] at h1 h2 h3 hk hp hc hm hlt ⊢
  have mb : bAt (movedS s a b c) b = c := by rw [moved_at hz hlt hb, if_pos rfl]
  have ma : bAt (movedS s a b c) a = 46 := by rw [moved_at hz hlt ha, if_neg hne, if_pos rfl]
  have hother : ∀ k, k < 90 → k ≠ a → k ≠ b → bAt (movedS s a b c) k = bAt s k := fun k hk h1 h2 => by rw [moved_at hz hlt hk, if_neg h2, if_neg h1]
  have hbt : betweenN (movedS s a b c) a b = betweenN s a b := between_same hother
  have key : goesB (movedS s a b c) c b a = true := by
    unfold goesB at h3 ⊢
    rcases kinds_of h1 with e | e | e | e | e | e | e
    · rw [if_pos e] at h3 ⊢
      simp only [Bool.and_eq_true] at h3 ⊢
      rw [fileD_swap b a, rankD_swap b a]
      exact ⟨h3.1, hm⟩
    · rw [if_neg (by omega), if_pos e] at h3 ⊢
      simp only [Bool.and_eq_true] at h3 ⊢
      rw [fileD_swap b a, rankD_swap b a]
      exact ⟨h3.1, hm⟩
    · rw [if_neg (by omega), if_neg (by omega), if_pos e] at h3 ⊢
      simp only [Bool.and_eq_true, beq_iff_eq] at h3 ⊢
      obtain ⟨⟨⟨f2, r2⟩, _⟩, mid⟩ := h3
      rw [fileD_swap b a, rankD_swap b a, Nat.add_comm b a]
      refine ⟨⟨⟨f2, r2⟩, hm⟩, ?_⟩
      rw [hother _ (by omega) (by unfold fileD at f2; omega) (by unfold fileD at f2; omega)]
      exact mid
    · exact absurd e hk
    · rw [if_neg (by omega), if_neg (by omega), if_neg (by omega), if_neg (by omega), if_pos e] at h3 ⊢
      simp only [Bool.and_eq_true, beq_iff_eq] at h3 ⊢
      obtain ⟨hl, h0⟩ := h3
      exact ⟨by rw [lineB_swap]; exact hl, by rw [between_swap _ (by rw [lineB_swap]; exact hl), hbt]; exact h0⟩
    · rw [if_neg (by omega), if_neg (by omega), if_neg (by omega), if_neg (by omega), if_neg (by omega), if_pos e] at h3 ⊢
      simp only [Bool.and_eq_true, Bool.or_eq_true, beq_iff_eq, bne_iff_ne] at h3 ⊢
      obtain ⟨hl, h0⟩ := h3
      refine ⟨by rw [lineB_swap]; exact hl, .inl ⟨?_, ma⟩⟩
      rw [between_swap _ (by rw [lineB_swap]; exact hl), hbt]
      rcases h0 with ⟨h0, _⟩ | ⟨_, h0⟩
      · exact h0
      · exact absurd (hc e) h0
    · exact absurd e hp
  unfold canB
  rw [mb, ma, key, side_empty, decide_eq_true h1]
  simp only [Bool.true_and, Bool.and_true, bne_iff_ne]
  omega
/-- What stands in between stops a chariot; a cannon takes over just one. -/
theorem can_chariot {s : ByteArray} (hs : isB s = true) {a b : Nat} (hb : b < 90) (ha : a < 90) (hl : lineB a b = true) (hx : sideN (bAt s b) ≠ 0) : canB (putS s a 82) a b = (betweenN s a b == 0) := by
  have hz := isB_size hs
  have hne : b ≠ a := by
    intro e
    simp [lineB, e] at hl
  unfold canB
  rw [put_at s a 82 a (by decide) (by omega), if_pos rfl, put_at s a 82 b (by decide) (by omega), if_neg hne]
  have e1 : sideN 82 = 0 := by decide
  have e2 : (sideN (bAt s b) != 0) = true := by rw [bne_iff_ne]; exact hx
  rw [e1, e2, goesB]
  rw [if_neg (by decide), if_neg (by decide), if_neg (by decide), if_neg (by decide), if_pos (by decide), hl, between_put hz (by decide)]
  rfl
theorem can_chariot_own {s : ByteArray} (hs : isB s = true) {a b : Nat} (hb : b < 90) (ha : a < 90) (hne : b ≠ a) (hx : sideN (bAt s b) = 0) : canB (putS s a 82) a b = false := by
  have hz := isB_size hs
  unfold canB
  rw [put_at s a 82 a (by decide) (by omega), if_pos rfl, put_at s a 82 b (by decide) (by omega), if_neg hne, hx]
  rfl
theorem can_cannon {s : ByteArray} (hs : isB s = true) {a b : Nat} (hb : b < 90) (ha : a < 90) (hl : lineB a b = true) (hx : sideN (bAt s b) ≠ 0) : canB (putS s a 67) a b = ((bAt s b == 46 && betweenN s a b == 0) || (bAt s b != 46 && betweenN s a b == 1)) := by
  have hz := isB_size hs
  have hne : b ≠ a := by
    intro e
    simp [lineB, e] at hl
  unfold canB
  rw [put_at s a 67 a (by decide) (by omega), if_pos rfl, put_at s a 67 b (by decide) (by omega), if_neg hne]
  have e1 : sideN 67 = 0 := by decide
  have e2 : (sideN (bAt s b) != 0) = true := by rw [bne_iff_ne]; exact hx
  rw [e1, e2, goesB]
  rw [if_neg (by decide), if_neg (by decide), if_neg (by decide), if_neg (by decide), if_neg (by decide), if_pos (by decide), hl, between_put hz (by decide), put_at s a 67 b (by decide) (by omega), if_neg hne]
  cases betweenN s a b == 0 <;> cases betweenN s a b == 1 <;> cases h46 : (bAt s b == 46) <;> simp [bne, h46]
/-- Where a pawn goes. -/
theorem pawn_goes {s : ByteArray} {a b : Nat} (hk : kindN (bAt s a) = 80) (h : canB s a b = true) : (sideN (bAt s a) = 0 ∧ b = a + 9) ∨ (sideN (bAt s a) = 1 ∧ a = b + 9) ∨ (overB (a : Int) (sideN (bAt s a)) = true ∧ a / 9 = b / 9 ∧ (b = a + 1 ∨ a = b + 1)) := by
  obtain ⟨h1, _, h3⟩ := can_parts h
  unfold goesB at h3
  rw [if_neg (by omega), if_neg (by omega), if_neg (by omega), if_neg (by omega), if_neg (by omega), if_neg (by omega)] at h3
  simp only [pawnB, Bool.or_eq_true, Bool.and_eq_true, beq_iff_eq] at h3
  rcases h3 with h3 | ⟨⟨ho, hr⟩, hf⟩
  · rcases side_cases01 h1 with e | e
    · rw [if_neg (by omega), beq_iff_eq] at h3
      exact .inl ⟨e, h3⟩
    · rw [if_pos e, beq_iff_eq] at h3
      exact .inr (.inl ⟨e, h3⟩)
  · refine .inr (.inr ⟨ho, hr, ?_⟩)
    unfold fileD at hf
    omega
theorem trues_few {p : Nat → Bool} {x y z : Nat} (h : ∀ k, k < 90 → p k = true → k = x ∨ k = y ∨ k = z) : (trues p 90).length ≤ 3 := by
  have key : ∀ n, n ≤ 90 → (trues p n).length ≤ (if x < n then 1 else 0) + (if y < n then 1 else 0) + (if z < n then 1 else 0) := fun n => by
    induction n with
    | zero => intro _; simp [trues]
    | succ n ih =>
      intro hn
      have ih := ih (by omega)
      rw [trues_succ]
      have h1 : ∀ u : Nat, (if u < n then 1 else 0) ≤ (if u < n + 1 then 1 else 0) := fun u => by split <;> split <;> omega
      have h2 : ∀ u : Nat, n = u → (if u < n then 1 else 0) = 0 ∧ (if u < n + 1 then 1 else 0) = 1 := fun u e => ⟨if_neg (by omega), if_pos (by omega)⟩
      have hx := h1 x
      have hy := h1 y
      have hz := h1 z
      by_cases hp : p n = true
      · rw [if_pos hp, List.length_append, List.length_singleton]
        rcases h n (by omega) hp with e | e | e
        all_goals
          have h3 := h2 _ e
          omega
      · rw [if_neg hp]
        omega
  have := key 90 (Nat.le_refl _)
  have h1 : ∀ u : Nat, (if u < 90 then 1 else 0) ≤ 1 := fun u => by split <;> omega
  have hx := h1 x
  have hy := h1 y
  have hz := h1 z
  omega
/-- A pawn reaches three squares at the most. -/
theorem pawn_few {s : ByteArray} {a : Nat} (hk : kindN (bAt s a) = 80) : (trues (fun b => canB s a b) 90).length ≤ 3 := by
  by_cases h0 : sideN (bAt s a) = 0
  · refine trues_few (x := a + 9) (y := a + 1) (z := a - 1) fun k hk90 hp => ?_
    rcases pawn_goes hk hp with ⟨_, e⟩ | ⟨e, _⟩ | ⟨_, _, e | e⟩ <;> omega
  · refine trues_few (x := a - 9) (y := a + 1) (z := a - 1) fun k hk90 hp => ?_
    rcases pawn_goes hk hp with ⟨e, _⟩ | ⟨_, e⟩ | ⟨_, _, e | e⟩ <;> omega
end Go.Proofs.YtbdgbihdhbjljaaGreatDoor
