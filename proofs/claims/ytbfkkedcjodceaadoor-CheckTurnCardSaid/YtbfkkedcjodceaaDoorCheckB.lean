/- Where a byte is first, as the library says it, and as it is said plainly; the generals; what is attacked when nothing can be. No program in it. -/
import Derived.Test.YtbfkkedcjodceaaDoorCheckA
import Derived.Lib.Bytealg
namespace Go.Proofs.YtbfkkedcjodceaaDoor

theorem index_find (c : UInt8) : ∀ l : List UInt8, Lib.indexByte l c = match (List.range l.length).find? fun n => l.getD n 0 == c with | some n => (n : Int) | none => -1
  | [] => rfl
  | b :: l => by
    rw [List.length_cons, List.range_succ_eq_map, List.find?_cons, Lib.indexByte]
    show (if (b == c) = true then (0 : Int) else _) = match (match b == c with | true => some 0 | false => _) with | some n => (n : Int) | none => -1
    cases h : b == c
    · rw [if_neg (by simp), index_find c l, List.find?_map]
      show _ = match Option.map Nat.succ ((List.range l.length).find? fun n => l.getD n 0 == c) with | some n => (n : Int) | none => -1
      cases (List.range l.length).find? fun n => l.getD n 0 == c with
      | none => rfl
      | some m =>
        have h1 : ((m : Int) == -1) = false := by rw [beq_eq_false_iff_ne]; omega
        show (if ((m : Int) == -1) = true then (-1 : Int) else (m : Int) + 1) = ((m + 1 : Nat) : Int)
        rw [h1]
        simp
    · rfl
theorem find_same7 {p q : Nat → Bool} : ∀ {l : List Nat}, (∀ k ∈ l, p k = q k) → l.find? p = l.find? q
  | [], _ => rfl
  | x :: r, h => by
    rw [List.find?_cons, List.find?_cons, h x (by simp), find_same7 fun k hk => h k (by simp [hk])]
/-- Where a general stands, or -1. -/
def leastI (s : ByteArray) (c : Nat) : Int := match leastN s c with | some n => (n : Int) | none => -1
theorem index_least {s : ByteArray} (hz : s.size = 90) {c : Nat} (hc : c < 256) : Lib.indexByte s.data.toList (Int.toNat (c : Int)).toUInt8 = leastI s c := by
  have hl : s.data.toList.length = 90 := by simpa using hz
  rw [index_find, hl, leastI, leastN]
  congr 1
  refine find_same7 fun k hk => ?_
  have hk := List.mem_range.1 hk
  have h1 : bAt s k = (s.data.toList.getD k 0).toNat := by
    rw [← bAt_eq s k (by omega), List.getD_eq_getElem?_getD, List.getElem?_eq_getElem (by omega)]
    rfl
  rw [h1, Int.toNat_natCast, Bool.eq_iff_iff, beq_iff_eq, beq_iff_eq]
  constructor
  · intro e
    rw [e]
    show (UInt8.ofNat c).toNat = c
    exact UInt8.toNat_ofNat_of_lt' hc
  · intro e
    rw [← e]
    show _ = UInt8.ofNat _
    exact (UInt8.ofNat_toNat).symm
theorem leastI_cases (s : ByteArray) (c : Nat) : (leastN s c = none ∧ leastI s c = -1) ∨ ∃ n, n < 90 ∧ leastN s c = some n ∧ leastI s c = (n : Int) ∧ bAt s n = c := by
  unfold leastI
  cases h : leastN s c with
  | none => exact .inl ⟨rfl, rfl⟩
  | some n => exact .inr ⟨n, (least_some h).1, rfl, rfl, (least_some h).2⟩
theorem general_none {s : ByteArray} {side : Int} (h : (isB s && ((side == 0) || (side == 1))) = false) : generalN s side = -1 := by unfold generalN; rw [h]; rfl
theorem general_some {s : ByteArray} {side : Int} (h : (isB s && ((side == 0) || (side == 1))) = true) : generalN s side = leastI s (kingOf side) := by unfold generalN; rw [h]; rfl
theorem general_cases (s : ByteArray) (side : Int) : generalN s side = -1 ∨ ∃ n : Nat, n < 90 ∧ generalN s side = n ∧ isB s = true ∧ (side = 0 ∨ side = 1) ∧ leastN s (kingOf side) = some n := by
  cases h : isB s && ((side == 0) || (side == 1))
  · exact .inl (general_none h)
  · rw [general_some h]
    rcases leastI_cases s (kingOf side) with ⟨_, e⟩ | ⟨n, hn, e, e2, _⟩
    · exact .inl e
    · simp only [Bool.and_eq_true, Bool.or_eq_true, beq_iff_eq] at h
      exact .inr ⟨n, hn, e2, h.1, h.2, e⟩
/-- Do the generals face one another, by where they stand? -/
theorem facing_gen (s : ByteArray) : facingB s = (decide (0 ≤ generalN s 0) && decide (0 ≤ generalN s 1) && (generalN s 0 % 9 == generalN s 1 % 9) && (betweenV s (generalN s 0) (generalN s 1) == 0)) := by
  cases hb : isB s
  · have h0 : generalN s 0 = -1 := general_none (by rw [hb]; rfl)
    rw [h0]
    unfold facingB
    rw [hb]
    cases leastN s 75 <;> cases leastN s 107 <;> rfl
  · have h0 : generalN s 0 = leastI s 75 := general_some (by rw [hb]; rfl)
    have h1 : generalN s 1 = leastI s 107 := general_some (by rw [hb]; rfl)
    rw [h0, h1]
    unfold facingB
    rcases leastI_cases s 75 with ⟨ea, va⟩ | ⟨a, ha, ea, va, ka⟩
    · rw [ea, va]
      rfl
    rcases leastI_cases s 107 with ⟨eb, vb⟩ | ⟨b, hb9, eb, vb, kb⟩
    · rw [eb, vb, ea, va]
      simp
    · rw [ea, eb, va, vb, hb]
      have hne : a ≠ b := fun e => by rw [e, kb] at ka; cases ka
      have e1 : ((a : Int) % 9 == (b : Int) % 9) = (a % 9 == b % 9) := by
        rw [Bool.eq_iff_iff, beq_iff_eq, beq_iff_eq]
        omega
      rw [e1]
      by_cases e : a % 9 = b % 9
      · have hl : lineB a b = true := by simp [lineB, e, hne]
        have e2 : betweenV s (a : Int) (b : Int) = (betweenN s a b : Int) := by
          unfold betweenV betweenI
          rw [hb, sqI_true (by omega), sqI_true (by omega), Int.toNat_natCast, Int.toNat_natCast, hl]
          rfl
        rw [e2]
        have e3 : ((betweenN s a b : Int) == 0) = (betweenN s a b == 0) := by
          rw [Bool.eq_iff_iff, beq_iff_eq, beq_iff_eq]
          omega
        rw [e3]
        simp
      · have : (a % 9 == b % 9) = false := by rw [beq_eq_false_iff_ne]; exact e
        simp [this]
/-- The code's way: by files that are told of -1 too. -/
theorem facing_file (s : ByteArray) : facingB s = ((fileI (generalN s 0) == fileI (generalN s 1)) && (betweenV s (generalN s 0) (generalN s 1) == 0)) := by
  rw [facing_gen]
  have hbt : ∀ x y : Int, (x = -1 ∨ y = -1) → (betweenV s x y == 0) = false := fun x y h => by
    have : betweenV s x y = -1 := by
      unfold betweenV
      rcases h with rfl | rfl
      · rw [sqI_false (by omega)]; simp
      · rw [sqI_false (n := -1) (by omega)]; simp
    rw [this]
    rfl
  rcases general_cases s 0 with h0 | ⟨a, ha, h0, _⟩
  · rw [hbt _ _ (.inl h0)]
    simp
  rcases general_cases s 1 with h1 | ⟨b, hb, h1, _⟩
  · rw [hbt _ _ (.inr h1)]
    simp
  · rw [h0, h1, fileI, fileI, if_pos (by omega), if_pos (by omega)]
    simp
theorem in_att (s : ByteArray) (side : Int) : inB s side = ((attL s (generalN s side) (1 - side)).length != 0) := by
  unfold inB attL
  cases h : isB s && ((side == 0) || (side == 1))
  · rw [general_none h]
    rw [sqI_false (n := -1) (by omega)]
    simp
  · rw [general_some h]
    have hh := h
    simp only [Bool.and_eq_true, Bool.or_eq_true, beq_iff_eq] at hh
    rcases leastI_cases s (kingOf side) with ⟨ea, va⟩ | ⟨a, ha, ea, va, ka⟩
    · rw [ea, va, sqI_false (n := -1) (by omega)]
      simp
    · rw [ea, va, sqI_true (n := (a : Int)) (by omega), hh.1]
      have hs : ((1 - side == 0) || (1 - side == 1)) = true := by
        simp only [Bool.or_eq_true, beq_iff_eq]
        omega
      rw [hs]
      simp [attN, trues]
theorem att_len (s : ByteArray) (n side : Int) : (attL s n side).length ≤ 90 := by
  unfold attL
  split
  · exact trues_le _ _
  · simp
end Go.Proofs.YtbfkkedcjodceaaDoor
