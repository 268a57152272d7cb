/- Plain facts on numbers and positions as texts: what is printed is read. No program in it. -/
import Derived.Test.YtcnaejmhifedfaaGreatDoorFenB
namespace Go.Proofs.YtcnaejmhifedfaaGreatDoor.F
open Lib (decDigits decFrom digitVal)

theorem u8_of (n : Nat) (h : n < 256) : (UInt8.ofNat n).toNat = n := UInt8.toNat_ofNat_of_lt' (by have : UInt8.size = 256 := rfl; omega)
theorem decFrom_app : ∀ (l : List UInt8) (acc : Nat) (b : UInt8), decFrom acc (l ++ [b]) = match decFrom acc l, digitVal b with | some n, some d => some (n * 10 + d) | _, _ => none
  | [], acc, b => by
    rw [List.nil_append, decFrom, decFrom]
    cases digitVal b <;> rfl
  | c :: r, acc, b => by
    rw [List.cons_append, decFrom, decFrom]
    cases digitVal c with
    | none => rfl
    | some d => exact decFrom_app r (acc * 10 + d) b
theorem digit_of (d : Nat) (h : d < 10) : digitVal (UInt8.ofNat (48 + d)) = some d := by
  rw [digitVal, u8_of _ (by omega), if_pos (by omega)]
  congr 1
  omega
theorem decDigits_big {u : Nat} (h : ¬ u < 10) : decDigits u = decDigits (u / 10) ++ [UInt8.ofNat (48 + u % 10)] := by rw [decDigits, dif_neg h]
theorem dec_digits (u : Nat) : decFrom 0 (decDigits u) = some u := by
  induction u using Nat.strongRecOn with
  | ind u ih =>
    by_cases h : u < 10
    · rw [Lib.decDigits_one h, decFrom, digit_of u h]
      simp [decFrom]
    · rw [decDigits_big h, decFrom_app, ih (u / 10) (by omega), digit_of _ (by omega)]
      show some _ = some _
      congr 1
      omega
theorem digits_ne (u : Nat) : decDigits u ≠ [] := by
  by_cases h : u < 10
  · rw [Lib.decDigits_one h]; simp
  · rw [decDigits_big h]; simp
theorem digits_head (u : Nat) (h : 0 < u) : ∃ d r, decDigits u = UInt8.ofNat (48 + d) :: r ∧ 0 < d ∧ d < 10 := by
  induction u using Nat.strongRecOn with
  | ind u ih =>
    by_cases h1 : u < 10
    · exact ⟨u, [], Lib.decDigits_one h1, h, h1⟩
    · obtain ⟨d, r, e, h0, h9⟩ := ih (u / 10) (by omega) (by omega)
      exact ⟨d, r ++ [UInt8.ofNat (48 + u % 10)], by rw [decDigits_big h1, e]; rfl, h0, h9⟩
theorem digits_len (u : Nat) (h : u ≤ 9999) : (decDigits u).length ≤ 4 := by
  rw [Lib.decDigits_length]
  have hk : u < 10 ∨ (10 ≤ u ∧ u < 100) ∨ (100 ≤ u ∧ u < 1000) ∨ (1000 ≤ u ∧ u < 10000) := by omega
  rcases hk with h1 | h1 | h1 | h1
  · rw [Lib.nDigits_small h1]; decide
  · rw [Lib.nDigits_unique 1 u (by omega) (by omega)]; decide
  · rw [Lib.nDigits_unique 2 u (by omega) (by omega)]; decide
  · rw [Lib.nDigits_unique 3 u (by omega) (by omega)]; decide
theorem digits_all (u : Nat) : ∀ b ∈ decDigits u, 48 ≤ b.toNat ∧ b.toNat ≤ 57 := by
  induction u using Nat.strongRecOn with
  | ind u ih =>
    intro b hb
    by_cases h : u < 10
    · rw [Lib.decDigits_one h, List.mem_singleton] at hb
      rw [hb, u8_of _ (by omega)]
      omega
    · rw [decDigits_big h, List.mem_append, List.mem_singleton] at hb
      rcases hb with hb | hb
      · exact ih (u / 10) (by omega) b hb
      · rw [hb, u8_of _ (by omega)]
        omega
theorem num_digits {u : Nat} (h : u ≤ 9999) : numL (decDigits u) = some u := by
  rw [numL, if_neg, dec_digits]
  rintro (h1 | h1 | ⟨h1, h2⟩)
  · exact digits_ne u h1
  · have := digits_len u h
    omega
  · by_cases h0 : 0 < u
    · obtain ⟨d, r, e, hd, hd9⟩ := digits_head u h0
      rw [e, List.head?_cons, Option.some.injEq] at h1
      have := congrArg UInt8.toNat h1
      rw [u8_of _ (by omega)] at this
      simp at this
      omega
    · have : u = 0 := by omega
      rw [this, Lib.decDigits_one (by decide)] at h2
      simp at h2
theorem digitVal_some {b : UInt8} {d : Nat} (h : digitVal b = some d) : d < 10 ∧ b = UInt8.ofNat (48 + d) := by
  unfold digitVal at h
  split at h
  · rename_i hb
    injection h with h
    refine ⟨by omega, ?_⟩
    rw [← h, show 48 + (b.toNat - 48) = b.toNat by omega]
    simp
  · cases h
/-- A row of digits that does not begin with 0 is its number's. -/
theorem digits_back : ∀ (n : Nat) (l : List UInt8) (u : Nat), l.length = n → l ≠ [] → (l.head? = some 48 → l.length ≤ 1) → decFrom 0 l = some u → decDigits u = l ∧ (l.head? ≠ some 48 → 0 < u)
  | 0, l, u, hl, h0, _, _ => absurd (List.length_eq_zero_iff.1 hl) h0
  | n + 1, l, u, hl, h0, hz, hd => by
    have hsplit : l = l.dropLast ++ [l.getLast h0] := (List.dropLast_concat_getLast h0).symm
    obtain ⟨t, b, rfl⟩ : ∃ t b, l = t ++ [b] := ⟨_, _, hsplit⟩
    rw [decFrom_app] at hd
    by_cases ht : t = []
    · subst ht
      rw [decFrom] at hd
      cases hb : digitVal b with
      | none => rw [hb] at hd; cases hd
      | some d =>
        rw [hb] at hd
        have hd' : 0 * 10 + d = u := Option.some.inj hd
        obtain ⟨d9, hbe⟩ := digitVal_some hb
        have : d = u := by omega
        subst this
        refine ⟨by rw [Lib.decDigits_one d9, hbe]; rfl, fun hne => ?_⟩
        apply Nat.pos_of_ne_zero
        intro e
        subst e
        exact hne (by rw [hbe]; rfl)
    · cases h1 : decFrom 0 t with
      | none => rw [h1] at hd; cases hd
      | some v =>
        cases hb : digitVal b with
        | none => rw [h1, hb] at hd; cases hd
        | some d =>
          rw [h1, hb] at hd
          have hd' : v * 10 + d = u := Option.some.inj hd
          obtain ⟨d9, hbe⟩ := digitVal_some hb
          have htl : t.length = n := by simp at hl; omega
          have hth : (t ++ [b]).head? = t.head? := by
            cases t with
            | nil => exact absurd rfl ht
            | cons x y => rfl
          have hnz : t.head? ≠ some 48 := fun e => by
            have h3 := hz (by rw [hth]; exact e)
            rw [List.length_append, List.length_singleton] at h3
            have h4 : 0 < t.length := List.length_pos_iff.2 ht
            omega
          obtain ⟨e1, e2⟩ := digits_back n t v htl ht (fun e => absurd e hnz) h1
          have hv := e2 hnz
          refine ⟨?_, fun _ => by omega⟩
          rw [decDigits_big (by omega), show u / 10 = v by omega, show u % 10 = d by omega, e1, hbe]
theorem num_back {s : List UInt8} {u : Nat} (h : numL s = some u) : s = decDigits u ∧ u ≤ 9999 := by
  unfold numL at h
  split at h
  · cases h
  · rename_i hn
    have h0 : s ≠ [] := fun e => hn (.inl e)
    have h4 : s.length ≤ 4 := by
      apply Nat.le_of_not_lt
      exact fun e => hn (.inr (.inl e))
    have hz : s.head? = some 48 → s.length ≤ 1 := fun e => by
      apply Nat.le_of_not_lt
      exact fun e' => hn (.inr (.inr ⟨e, e'⟩))
    refine ⟨(digits_back _ s u rfl h0 hz h).1.symm, ?_⟩
    have := Lib.decFrom_lt s 0 u h
    have hp : 10 ^ s.length ≤ 10 ^ 4 := Nat.pow_le_pow_right (by decide) h4
    omega

-- boards
theorem rows_all (cells : List UInt8) : rows cells = [rle 0 ((cells.drop 81).take 9), rle 0 ((cells.drop 72).take 9), rle 0 ((cells.drop 63).take 9), rle 0 ((cells.drop 54).take 9), rle 0 ((cells.drop 45).take 9), rle 0 ((cells.drop 36).take 9), rle 0 ((cells.drop 27).take 9), rle 0 ((cells.drop 18).take 9), rle 0 ((cells.drop 9).take 9), rle 0 ((cells.drop 0).take 9)] := rfl
theorem mem_slice {cells : List UInt8} {k : Nat} {b : UInt8} (h : b ∈ (cells.drop k).take 9) : b ∈ cells := List.mem_of_mem_drop (List.mem_of_mem_take h)
theorem slice_len {cells : List UInt8} {k : Nat} (hl : cells.length = 90) (hk : k ≤ 81) : ((cells.drop k).take 9).length = 9 := by simp; omega
theorem sq_not (c : UInt8) (hc : c = 47 ∨ c = 32) {b : UInt8} (h : sqB b) : c ≠ b := by
  rintro rfl
  rcases h with h | h
  · rcases hc with rfl | rfl <;> cases h
  · rcases hc with rfl | rfl <;> exact h rfl
theorem row_no (c : UInt8) (hc : c = 47 ∨ c = 32) {cells : List UInt8} (hb : ∀ b ∈ cells, sqB b) (k : Nat) : c ∉ rle 0 ((cells.drop k).take 9) :=
  rle_no c (by rcases hc with rfl | rfl <;> decide) _ 0 (by simp; omega) fun h => sq_not c hc (hb c (mem_slice h)) rfl
theorem rows_no (c : UInt8) (hc : c = 47 ∨ c = 32) {cells : List UInt8} (hb : ∀ b ∈ cells, sqB b) : ∀ p ∈ rows cells, c ∉ p := by
  intro p hp
  simp only [rows, List.mem_map] at hp
  obtain ⟨i, _, rfl⟩ := hp
  exact row_no c hc hb _
theorem cells_slices (cells : List UInt8) (hl : cells.length = 90) : ((((((((((([] : List UInt8) ++ (cells.drop 0).take 9) ++ (cells.drop 9).take 9) ++ (cells.drop 18).take 9) ++ (cells.drop 27).take 9) ++ (cells.drop 36).take 9) ++ (cells.drop 45).take 9) ++ (cells.drop 54).take 9) ++ (cells.drop 63).take 9) ++ (cells.drop 72).take 9) ++ (cells.drop 81).take 9) = cells := by
  have key : ∀ k, cells.take k ++ (cells.drop k).take 9 = cells.take (k + 9) := fun k => by rw [List.take_add]
  rw [List.nil_append, List.drop_zero, key 9, key 18, key 27, key 36, key 45, key 54, key 63, key 72, key 81, List.take_of_length_le (by omega)]
theorem board_back {cells : List UInt8} (hl : cells.length = 90) (hb : ∀ b ∈ cells, sqB b) : boardL (boardT cells) = some cells := by
  have hc : cutL 47 (boardT cells) = rows cells := by
    rw [boardT, rows_all]
    exact cut_join 47 _ _ (by rw [← rows_all]; exact rows_no 47 (.inl rfl) hb)
  rw [boardL, hc, if_pos (by rfl), rows_all]
  have hr : ∀ k, k ≤ 81 → rankL (rle 0 ((cells.drop k).take 9)) = some ((cells.drop k).take 9) := fun k hk => rankL_rle (slice_len hl hk) fun b h => hb b (mem_slice h)
  simp only [ranksL]
  rw [hr 81 (by decide), hr 72 (by decide), hr 63 (by decide), hr 54 (by decide), hr 45 (by decide), hr 36 (by decide), hr 27 (by decide), hr 18 (by decide), hr 9 (by decide), hr 0 (by decide)]
  exact congrArg some (cells_slices cells hl)
theorem join_no (c d : UInt8) (hcd : c ≠ d) : ∀ l : List (List UInt8), (∀ p ∈ l, c ∉ p) → c ∉ Lib.join l [d]
  | [], _ => by simp [Lib.join_nil]
  | [x], h => by rw [Lib.join_one]; exact h x (by simp)
  | x :: y :: r, h => by
    have e2 : Lib.join (x :: y :: r) [d] = x ++ d :: Lib.join (y :: r) [d] := by
      rw [Lib.join_cons, Lib.join_cons]
      simp [Lib.joinTail]
    rw [e2, List.mem_append, List.mem_cons, not_or, not_or]
    exact ⟨h x (by simp), hcd, join_no c d hcd (y :: r) fun p hp => h p (List.mem_cons_of_mem _ hp)⟩
theorem digits_no (u : Nat) : (32 : UInt8) ∉ decDigits u := fun h => by
  have := digits_all u 32 h
  simp at this
/-- A position that can be told by a text. -/
structure Good (p : P) : Prop where
  len : p.cells.length = 90
  sq : ∀ b ∈ p.cells, sqB b
  side : p.side = 0 ∨ p.side = 1
  clock : 0 ≤ p.clock ∧ p.clock ≤ 9999
  full : 0 ≤ p.full ∧ p.full ≤ 9999
theorem fields_no {p : P} (h : Good p) : ∀ f ∈ fields p, (32 : UInt8) ∉ f := by
  intro f hf
  simp only [fields, List.mem_cons, List.not_mem_nil, or_false] at hf
  rcases hf with rfl | rfl | rfl | rfl | rfl | rfl
  · exact join_no 32 47 (by decide) _ (rows_no 32 (.inr rfl) h.sq)
  · split <;> decide
  · decide
  · decide
  · exact digits_no _
  · exact digits_no _
theorem cut_print {p : P} (h : Good p) : cutL 32 (printL p) = fields p := cut_join 32 _ _ (fields_no h)
theorem form_back {p : P} (h : Good p) : formL (printL p) = some p := by
  have hs : sideL [if p.side = 1 then 98 else 119] = some p.side := by
    rcases h.side with e | e <;> rw [e] <;> rfl
  have h1 := num_digits (u := p.clock.toNat) (by have := h.clock; omega)
  have h2 := num_digits (u := p.full.toNat) (by have := h.full; omega)
  unfold formL
  rw [cut_print h]
  simp only [fields]
  rw [if_pos ⟨trivial, trivial⟩, board_back h.len h.sq, hs, h1, h2]
  have e1 : (p.clock.toNat : Int) = p.clock := by have := h.clock; omega
  have e2 : (p.full.toNat : Int) = p.full := by have := h.full; omega
  simp only [e1, e2]
theorem print_inj {p q : P} (hp : Good p) (hq : Good q) (h : printL p = printL q) : p = q := by
  have := form_back hp
  rw [h, form_back hq] at this
  exact (Option.some.inj this).symm
end Go.Proofs.YtcnaejmhifedfaaGreatDoor.F
