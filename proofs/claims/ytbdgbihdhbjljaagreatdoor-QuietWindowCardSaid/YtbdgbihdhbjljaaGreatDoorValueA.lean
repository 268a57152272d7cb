/- What positions are worth, plainly; and what follows. No program in it. -/
import Derived.Test.YtbdgbihdhbjljaaGreatDoorLegalM
namespace Go.Proofs.YtbdgbihdhbjljaaGreatDoor

def kindV (c : Nat) : Int := if kindN c = 80 then 30 else if kindN c = 65 ∨ kindN c = 66 then 40 else if kindN c = 78 then 90 else if kindN c = 67 then 95 else if kindN c = 82 then 200 else 0
/-- What is added, seen from its side. -/
def moreV (c : Nat) (n : Int) : Int :=
  if kindN c = 80 then (if overB n (sideN c) then (if 3 ≤ n % 9 ∧ n % 9 ≤ 5 then 50 else 40) else 0)
  else if kindN c = 78 ∨ kindN c = 67 ∨ kindN c = 82 then seenR n (sideN c) + 4 - max (n % 9 - 4) (4 - n % 9) else 0
def pieceV (c : Nat) (n : Int) : Int := if sideN c < 0 ∨ n < 0 ∨ 89 < n then 0 else kindV c + moreV c n
def vsum (f : Nat → Int) : Nat → Int
  | 0 => 0
  | n + 1 => vsum f n + f n
def termV (s : ByteArray) (side : Int) (k : Nat) : Int := if (sideN (bAt s k) == 0) = (side == 0) then pieceV (bAt s k) (k : Int) else -(pieceV (bAt s k) (k : Int))
def ofV (s : ByteArray) (side : Int) : Int := if isB s then vsum (termV s side) 90 else 0
def movedV (v : Int) (c : Nat) (a b : Int) (taken : Nat) : Int := -(v - pieceV c a + pieceV c b + pieceV taken b)

theorem vsum_same {f g : Nat → Int} : ∀ n, (∀ k, k < n → g k = f k) → vsum g n = vsum f n
  | 0, _ => rfl
  | n + 1, h => by rw [vsum, vsum, vsum_same n fun k hk => h k (by omega), h n (by omega)]
theorem vsum_neg {f g : Nat → Int} : ∀ n, (∀ k, k < n → g k = -(f k)) → vsum g n = -(vsum f n)
  | 0, _ => rfl
  | n + 1, h => by
    rw [vsum, vsum, vsum_neg n fun k hk => h k (by omega), h n (by omega)]
    omega
theorem vsum_one {f g : Nat → Int} {a : Nat} : ∀ n, a < n → (∀ k, k < n → k ≠ a → g k = f k) → vsum g n = vsum f n - f a + g a
  | 0, h, _ => absurd h (Nat.not_lt_zero _)
  | n + 1, h, hs => by
    rw [vsum, vsum]
    by_cases e : a = n
    · subst e
      rw [vsum_same (f := f) (g := g) a fun k hk => hs k (by omega) (by omega)]
      omega
    · rw [vsum_one n (by omega) fun k hk hne => hs k (by omega) hne, hs n (by omega) (fun e' => e e'.symm)]
      omega
theorem vsum_shift (f : Nat → Int) : ∀ n, vsum f (n + 1) = f 0 + vsum (fun k => f (k + 1)) n
  | 0 => by simp [vsum]
  | n + 1 => by
    rw [vsum, vsum_shift f n, vsum]
    omega
theorem vsum_rev : ∀ (n : Nat) (f : Nat → Int), vsum (fun k => f (n - 1 - k)) n = vsum f n
  | 0, _ => rfl
  | n + 1, f => by
    rw [vsum_shift (fun k => f (n + 1 - 1 - k)) n, vsum, ← vsum_rev n f]
    have e : vsum (fun k => f (n + 1 - 1 - (k + 1))) n = vsum (fun k => f (n - 1 - k)) n := vsum_same n fun k hk => by
      show f _ = f _
      congr 1
      omega
    rw [e]
    show f (n + 1 - 1 - 0) + _ = _
    rw [show n + 1 - 1 - 0 = n by omega]
    omega
theorem side_lt {c : Nat} (h : ¬ sideN c < 0) : sideN c = 0 ∨ sideN c = 1 := side_cases01 (by omega)
theorem piece_empty {c : Nat} (h : sideN c < 0) (n : Int) : pieceV c n = 0 := by
  unfold pieceV
  rw [if_pos (.inl h)]
theorem piece_46 (n : Int) : pieceV 46 n = 0 := piece_empty (by decide) n
theorem piece_0 (n : Int) : pieceV 0 n = 0 := piece_empty (by decide) n
theorem piece_taken (s : ByteArray) (b : Nat) (n : Int) : pieceV (takenN s b) n = pieceV (bAt s b) n := by
  unfold takenN
  split
  · rename_i h
    rw [h, piece_46, piece_0]
  · rfl
/-- What a position is worth to the other side. -/
theorem term_other (s : ByteArray) {side : Int} (h : side = 0 ∨ side = 1) (k : Nat) : termV s (1 - side) k = -(termV s side k) := by
  unfold termV
  rcases h with rfl | rfl
  · cases hs : (sideN (bAt s k) == 0) <;> simp
  · cases hs : (sideN (bAt s k) == 0) <;> simp
theorem of_other (s : ByteArray) {side : Int} (h : side = 0 ∨ side = 1) : ofV s (1 - side) = -(ofV s side) := by
  unfold ofV
  split
  · exact vsum_neg 90 fun k _ => term_other s h k
  · rfl
theorem term_put {s : ByteArray} (hs : isB s = true) {n c : Nat} (hn : n < 90) (hc : c < 256) (side : Int) : vsum (termV (putS s n c) side) 90 = vsum (termV s side) 90 - termV s side n + termV (putS s n c) side n := by
  refine vsum_one 90 hn fun k hk hne => ?_
  unfold termV
  rw [put_at s n c k hc (by rw [isB_size hs]; omega), if_neg hne]
theorem term_at {s : ByteArray} (hs : isB s = true) {n c : Nat} (hn : n < 90) (hc : c < 256) (side : Int) : termV (putS s n c) side n = if (sideN c == 0) = (side == 0) then pieceV c (n : Int) else -(pieceV c (n : Int)) := by
  unfold termV
  rw [put_at s n c n hc (by rw [isB_size hs]; omega), if_pos rfl]
theorem own_term {c : Nat} {side : Int} (hc : sideN c = side) (n : Int) : (if (sideN c == 0) = (side == 0) then pieceV c n else -(pieceV c n)) = pieceV c n := by
  rw [hc, if_pos rfl]
theorem other_term {c : Nat} {side : Int} (h : side = 0 ∨ side = 1) (hc : sideN c ≠ side) (n : Int) : (if (sideN c == 0) = (side == 0) then pieceV c n else -(pieceV c n)) = -(pieceV c n) := by
  by_cases h0 : sideN c < 0
  · rw [piece_empty h0]
    split <;> rfl
  · rw [if_neg]
    rcases side_lt h0 with e | e <;> rcases h with rfl | rfl
    · exact absurd e hc
    · rw [e]; decide
    · rw [e]; decide
    · exact absurd e hc
/-- Behind a move what it is moved to is what the position is worth. -/
theorem value_follows {s : ByteArray} (hs : isB s = true) {a b : Nat} (ha : a < 90) (hb : b < 90) (hne : a ≠ b) {side : Int} (hsd : side = 0 ∨ side = 1) (h1 : sideN (bAt s a) = side) (h2 : sideN (bAt s b) ≠ side) : movedV (ofV s side) (bAt s a) (a : Int) (b : Int) (takenN s b) = ofV (behindS s (a, b)) (1 - side) := by
  have hlt := bAt_lt s a
  have hp1 := put_is_board hs a 46 (by decide) (by decide)
  have hb2 : isB (behindS s (a, b)) = true := moved_board hs hlt (isB_fill hs a ha)
  rw [of_other _ hsd]
  have e1 : bAt (putS s a 46) b = bAt s b := by rw [put_at s a 46 b (by decide) (by rw [isB_size hs]; omega), if_neg (fun e => hne e.symm)]
  have k1 := term_put hs ha (c := 46) (by decide) side
  have k2 := term_put hp1 hb hlt side
  rw [term_at hs ha (by decide), piece_46] at k1
  rw [term_at hp1 hb hlt, own_term h1] at k2
  have t1 : termV s side a = pieceV (bAt s a) (a : Int) := own_term h1 _
  have t2 : termV (putS s a 46) side b = -(pieceV (bAt s b) (b : Int)) := by
    unfold termV
    rw [e1]
    exact other_term hsd h2 _
  rw [t1] at k1
  rw [t2] at k2
  have z : (if (sideN 46 == 0) = (side == 0) then (0 : Int) else -0) = 0 := by split <;> rfl
  rw [z] at k1
  unfold movedV ofV
  rw [piece_taken, hs, hb2, if_pos rfl, if_pos rfl]
  show _ = -(vsum (termV (putS (putS s a 46) b (bAt s a)) side) 90)
  omega
theorem piece_turn {c : Nat} {n : Int} (h : 0 ≤ n ∧ n < 90) : pieceV (swapN c) (89 - n) = pieceV c n := by
  by_cases h0 : sideN c < 0
  · have hn : sideN c = -1 := by
      unfold sideN at h0 ⊢
      split
      · rename_i h1; rw [if_pos h1] at h0; exact absurd h0 (by decide)
      · split
        · rename_i h1 h2; rw [if_neg h1, if_pos h2] at h0; exact absurd h0 (by decide)
        · rfl
    have h1 : sideN (swapN c) < 0 := by
      rcases byte_cases c with ⟨kb, kr, _⟩ | rfl | rfl | rfl | rfl | rfl | rfl | rfl | rfl | rfl | rfl | rfl | rfl | rfl | rfl
      · simp [swapN, sideN, kb, kr]
      all_goals exact absurd hn (by decide)
    rw [piece_empty h0, piece_empty h1]
  · have h01 := side_lt h0
    have hs := swap_side c (by omega)
    obtain ⟨q1, q2, q3, q4⟩ := seen_back h
    have hr : seenR (89 - n) (sideN (swapN c)) = seenR n (sideN c) := by
      rw [hs]
      rcases h01 with e | e <;> rw [e]
      · exact q2
      · exact q4
    have ho : overB (89 - n) (sideN (swapN c)) = overB n (sideN c) := by
      unfold overB
      rw [hr, real_sq h h01, real_sq (by omega) (by rw [hs]; omega)]
    have hf : max ((89 - n) % 9 - 4) (4 - (89 - n) % 9) = max (n % 9 - 4) (4 - n % 9) := by omega
    have hf2 : (3 ≤ (89 - n) % 9 ∧ (89 - n) % 9 ≤ 5) = (3 ≤ n % 9 ∧ n % 9 ≤ 5) := propext (by omega)
    unfold pieceV
    rw [if_neg (show ¬ (sideN (swapN c) < 0 ∨ 89 - n < 0 ∨ 89 < 89 - n) by rw [hs]; omega), if_neg (show ¬ (sideN c < 0 ∨ n < 0 ∨ 89 < n) by omega)]
    unfold kindV moreV
    rw [swap_kind, hr, ho, hf]
    simp only [hf2]
/-- Seen from the other side a position is worth the same. -/
theorem value_turn {s : ByteArray} (hs : isB s = true) {side : Int} (hsd : side = 0 ∨ side = 1) : ofV (turnB s) (1 - side) = ofV s side := by
  unfold ofV
  rw [turn_is_board hs, hs, if_pos rfl, if_pos rfl, ← vsum_rev 90 (termV s side)]
  refine vsum_same 90 fun k hk => ?_
  show termV (turnB s) (1 - side) k = termV s side (90 - 1 - k)
  rw [show 90 - 1 - k = 89 - k by omega]
  unfold termV
  rw [turn_at hs k hk]
  have hp := piece_turn (c := bAt s (89 - k)) (n := ((89 - k : Nat) : Int)) (by omega)
  rw [show (89 : Int) - ((89 - k : Nat) : Int) = (k : Int) by omega] at hp
  rw [hp]
  by_cases h0 : sideN (bAt s (89 - k)) < 0
  · rw [piece_empty h0]
    split <;> split <;> rfl
  · rw [swap_side _ (by omega)]
    rcases side_lt h0 with e | e <;> rcases hsd with rfl | rfl <;> rw [e] <;> rfl
end Go.Proofs.YtbdgbihdhbjljaaGreatDoor
