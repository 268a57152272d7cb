/- Plain facts: a set's squares as a list, rising; the lowest bit of a word, and the word without it. No program in it. -/
import Derived.Test.YtpogpjebhnoncabGreatDoorMath
namespace Go.Proofs.YtpogpjebhnoncabGreatDoor.M

theorem filter_least (n k : Nat) (p q : Nat → Bool) (hk : k < n) (h1 : p k = true) (h2 : ∀ i, i < k → p i = false) (h3 : ∀ i, q i = (p i && decide (i ≠ k))) :
    (List.range n).filter p = k :: (List.range n).filter q := by
  obtain ⟨m, rfl⟩ : ∃ m, n = (k + 1) + m := ⟨n - (k + 1), by omega⟩
  rw [List.range_add, List.range_succ, List.filter_append, List.filter_append, List.filter_append, List.filter_append]
  have a1 : (List.range k).filter p = [] := by
    rw [List.filter_eq_nil_iff]
    intro i hi
    rw [h2 i (List.mem_range.1 hi)]
    simp
  have a2 : (List.range k).filter q = [] := by
    rw [List.filter_eq_nil_iff]
    intro i hi
    rw [h3, h2 i (List.mem_range.1 hi)]
    simp
  have a3 : [k].filter p = [k] := by simp [h1]
  have a4 : [k].filter q = [] := by simp [h3]
  have a5 : ((List.range m).map (k + 1 + ·)).filter p = ((List.range m).map (k + 1 + ·)).filter q := by
    apply List.filter_congr
    intro x hx
    obtain ⟨y, _, rfl⟩ := List.mem_map.1 hx
    rw [h3]
    have : k + 1 + y ≠ k := by omega
    simp [this]
  rw [a1, a2, a3, a4, a5]
  simp

/-- The squares of two words, rising. -/
def sqw (lo hi : Nat) : List (Fin 90) := (List.finRange 90).filter fun i => has lo hi i.val
theorem sqw_val (lo hi : Nat) : (sqw lo hi).map Fin.val = (List.range 90).filter (has lo hi) := by
  have h : (List.finRange 90).map Fin.val = List.range 90 := by decide +kernel
  unfold sqw
  rw [← h, List.filter_map]
  rfl
theorem sqw_inj {a b : List (Fin 90)} (h : a.map Fin.val = b.map Fin.val) : a = b := by
  induction a generalizing b with
  | nil => cases b with
    | nil => rfl
    | cons y b => simp at h
  | cons x a ih => cases b with
    | nil => simp at h
    | cons y b =>
      simp only [List.map_cons, List.cons.injEq] at h
      rw [Fin.eq_of_val_eq h.1, ih h.2]
theorem sqw_step {lo hi lo' hi' : Nat} (k : Fin 90) (h1 : has lo hi k.val = true) (h2 : ∀ i, i < k.val → has lo hi i = false) (h3 : ∀ i, has lo' hi' i = (has lo hi i && decide (i ≠ k.val))) :
    sqw lo hi = k :: sqw lo' hi' := by
  apply sqw_inj
  rw [sqw_val, List.map_cons, sqw_val]
  exact filter_least 90 k.val _ _ k.isLt h1 h2 h3
theorem sqw_zero : sqw 0 0 = [] := by
  apply sqw_inj
  rw [sqw_val]
  simp [has]

/-- A word that is not 0: its lowest bit, and what it is without that. -/
theorem low_bit (x : Nat) (hx : x < 18446744073709551616) (h0 : x ≠ 0) :
    x.testBit (Lib.ctz 64 x) = true ∧ (∀ i, i < Lib.ctz 64 x → x.testBit i = false) ∧ (∀ i, (x &&& (x - 1)).testBit i = (x.testBit i && decide (i ≠ Lib.ctz 64 x))) ∧ Lib.ctz 64 x < 64 := by
  have hc : Lib.ctz 64 x = Lib.ctzFrom 64 x := by simp [Lib.ctz, h0]
  obtain ⟨m, hm, hk⟩ := Lib.ctzFrom_spec 64 x (by omega) hx
  rw [hc]
  generalize Lib.ctzFrom 64 x = k at hm hk
  have hp : 0 < 2 ^ k := Nat.two_pow_pos k
  have t : ∀ i, x.testBit i = (decide (k ≤ i) && (2 * m + 1).testBit (i - k)) := fun i => by rw [hm, Nat.mul_comm, Nat.testBit_mul_two_pow]
  have hx1 : x - 1 = 2 ^ k * (2 * m) + (2 ^ k - 1) := by rw [hm, Nat.mul_add, Nat.mul_one]; omega
  have t1 : ∀ i, (x - 1).testBit i = if i < k then true else (2 * m).testBit (i - k) := fun i => by
    rw [hx1, Nat.testBit_two_pow_mul_add _ (by omega)]
    split
    · rename_i h; rw [Nat.testBit_two_pow_sub_one]; simp [h]
    · rfl
  refine ⟨?_, ?_, ?_, hk⟩
  · rw [t]; simp
  · intro i hi
    rw [t]
    have : ¬ k ≤ i := by omega
    simp [this]
  · intro i
    rw [Nat.testBit_and, t1, t]
    by_cases h : i < k
    · have : ¬ k ≤ i := by omega
      simp [this]
    · by_cases e : i = k
      · subst e; simp
      · obtain ⟨j, rfl⟩ : ∃ j, i = k + (j + 1) := ⟨i - k - 1, by omega⟩
        have e3 : k + (j + 1) - k = j + 1 := by omega
        have e4 : k ≤ k + (j + 1) := by omega
        have e5 : ¬ k + (j + 1) < k := by omega
        rw [e3, Nat.testBit_succ, Nat.testBit_succ, show (2 * m + 1) / 2 = m by omega, show 2 * m / 2 = m by omega]
        simp [e4, e5]

theorem lt45_of_bit {x i : Nat} (hx : x < 35184372088832) (h : x.testBit i = true) : i < 45 := by
  apply Nat.lt_of_not_le
  intro hle
  have := Nat.testBit_lt_two_pow (x := x) (i := i) (Nat.lt_of_lt_of_le hx (show (2 : Nat) ^ 45 ≤ 2 ^ i from Nat.pow_le_pow_right (by decide) hle))
  rw [this] at h
  cases h

/-- The first loop's step. -/
theorem sq_low {lo hi : Nat} (hl : lo < 35184372088832) (h0 : lo ≠ 0) :
    ∃ k : Fin 90, k.val = Lib.ctz 64 lo ∧ sqw lo hi = k :: sqw (lo &&& (lo - 1)) hi ∧ (lo &&& (lo - 1)) < lo := by
  obtain ⟨b1, b2, b3, _⟩ := low_bit lo (by omega) h0
  have hk := lt45_of_bit hl b1
  refine ⟨⟨Lib.ctz 64 lo, by omega⟩, rfl, sqw_step _ ?_ ?_ ?_, ?_⟩
  · simp only [has]; rw [if_pos hk]; exact b1
  · intro i hi
    have : i < 45 := by simp only at hi; omega
    simp only [has]; rw [if_pos this]; exact b2 i hi
  · intro i
    simp only [has]
    by_cases h : i < 45
    · rw [if_pos h, if_pos h, b3]
    · rw [if_neg h, if_neg h]
      have : i ≠ Lib.ctz 64 lo := by omega
      simp [this]
  · have h1 : lo &&& (lo - 1) ≤ lo - 1 := Nat.and_le_right
    omega
/-- The second loop's step. -/
theorem sq_high {hi : Nat} (hl : hi < 35184372088832) (h0 : hi ≠ 0) :
    ∃ k : Fin 90, k.val = 45 + Lib.ctz 64 hi ∧ sqw 0 hi = k :: sqw 0 (hi &&& (hi - 1)) ∧ (hi &&& (hi - 1)) < hi := by
  obtain ⟨b1, b2, b3, _⟩ := low_bit hi (by omega) h0
  have hk := lt45_of_bit hl b1
  refine ⟨⟨45 + Lib.ctz 64 hi, by omega⟩, rfl, sqw_step _ ?_ ?_ ?_, ?_⟩
  · have e1 : ¬ 45 + Lib.ctz 64 hi < 45 := by omega
    have e2 : 45 + Lib.ctz 64 hi < 90 := by omega
    have e3 : 45 + Lib.ctz 64 hi - 45 = Lib.ctz 64 hi := by omega
    simp only [has]; rw [if_neg e1, e3, b1]; simp [e2]
  · intro i hi'
    simp only at hi'
    simp only [has]
    split
    · simp
    · rw [b2 (i - 45) (by omega)]; simp
  · intro i
    simp only [has]
    split
    · simp
    · rename_i h
      rw [b3]
      have : (i - 45 = Lib.ctz 64 hi) ↔ (i = 45 + Lib.ctz 64 hi) := by omega
      simp [this, Bool.and_assoc]
  · have h1 : hi &&& (hi - 1) ≤ hi - 1 := Nat.and_le_right
    omega

namespace S
/-- The squares of a set, rising. -/
def sqs (s : S) : List (Fin 90) := sqw s.clean.lo s.clean.hi
theorem sqs_val (s : S) : s.sqs.map Fin.val = (List.range 90).filter s.has := by
  unfold sqs
  rw [sqw_val]
  apply List.filter_congr
  intro i _
  exact has_clean s i
theorem mem_sqs (s : S) (i : Fin 90) : i ∈ s.sqs ↔ s.has i.val = true := by
  unfold sqs sqw
  rw [List.mem_filter]
  simp only [List.mem_finRange, true_and]
  rw [show M.has s.clean.lo s.clean.hi i.val = s.has i.val from has_clean s i.val]
theorem sqs_length (s : S) : s.sqs.length = s.count := by
  have h := congrArg List.length (sqs_val s)
  rw [List.length_map] at h
  rw [h, count, cnt, List.countP_eq_length_filter]
end S
end Go.Proofs.YtpogpjebhnoncabGreatDoor.M
