/- Plain facts on numbers, bits and lists: no program in it. What is proved: words of 64 bits as sets of at most 45 squares. -/
import Derived.Lib.TrailingZeros
import Derived.Test.YtpogpjebhnoncabGreatDoorPop
namespace Go.Proofs.YtpogpjebhnoncabGreatDoor.M

/-- The bits that stand for squares. -/
def cl (x : Nat) : Nat := x % 35184372088832
/-- A square's two words. -/
def sgLo (n : Int) : Nat := if 0 ≤ n ∧ n < 45 then 2 ^ n.toNat else 0
def sgHi (n : Int) : Nat := if 45 ≤ n ∧ n < 90 then 2 ^ (n - 45).toNat else 0
def orW (a b : Nat) : Nat := cl (a ||| b)
def andW (a b : Nat) : Nat := cl (a &&& b)
def minusW (a b : Nat) : Nat := cl (a &&& (18446744073709551615 - b))
def notW (a : Nat) : Nat := cl (18446744073709551615 - a)

theorem cl_lt (x : Nat) : cl x < 35184372088832 := Nat.mod_lt _ (by decide)
theorem cl_lt64 (x : Nat) : cl x < 18446744073709551616 := Nat.lt_trans (cl_lt x) (by decide)
theorem orW_lt (a b : Nat) : orW a b < 18446744073709551616 := cl_lt64 _
theorem andW_lt (a b : Nat) : andW a b < 18446744073709551616 := cl_lt64 _
theorem minusW_lt (a b : Nat) : minusW a b < 18446744073709551616 := cl_lt64 _
theorem notW_lt (a : Nat) : notW a < 18446744073709551616 := cl_lt64 _
theorem sgLo_lt (n : Int) : sgLo n < 18446744073709551616 := by
  unfold sgLo
  split
  · rename_i h
    have h1 : n.toNat < 45 := by omega
    exact Nat.lt_trans (Nat.pow_lt_pow_right (by decide) h1) (by decide)
  · decide
theorem sgHi_lt (n : Int) : sgHi n < 18446744073709551616 := by
  unfold sgHi
  split
  · rename_i h
    have h1 : (n - 45).toNat < 45 := by omega
    exact Nat.lt_trans (Nat.pow_lt_pow_right (by decide) h1) (by decide)
  · decide

theorem cl_testBit (x i : Nat) : (cl x).testBit i = (decide (i < 45) && x.testBit i) := by
  unfold cl
  rw [show (35184372088832 : Nat) = 2 ^ 45 from by decide, Nat.testBit_mod_two_pow]
theorem cl_cl (x : Nat) : cl (cl x) = cl x := by unfold cl; omega
theorem cl_and_mask (x : Nat) : x &&& 35184372088831 = cl x := by
  unfold cl
  rw [show (35184372088831 : Nat) = 2 ^ 45 - 1 from by decide, Nat.and_two_pow_sub_one_eq_mod]

/-- The complement of a word, bit by bit. -/
theorem not_testBit (x i : Nat) (hx : x < 18446744073709551616) : (18446744073709551615 - x).testBit i = (decide (i < 64) && !x.testBit i) := by
  have h : 18446744073709551615 - x = 2 ^ 64 - (x + 1) := by omega
  rw [h, Nat.testBit_two_pow_sub_succ (by omega)]

theorem sgLo_testBit (n : Int) (i : Nat) : (sgLo n).testBit i = decide (n = (i : Int) ∧ i < 45) := by
  unfold sgLo
  split
  · rename_i h
    rw [Nat.testBit_two_pow, decide_eq_decide]
    omega
  · simp
    omega
theorem sgHi_testBit (n : Int) (i : Nat) : (sgHi n).testBit i = decide (n = (i : Int) + 45 ∧ i < 45) := by
  unfold sgHi
  split
  · rename_i h
    rw [Nat.testBit_two_pow, decide_eq_decide]
    omega
  · simp
    omega

/-- Is square n in the set of the words lo, hi? -/
def has (lo hi n : Nat) : Bool := if n < 45 then lo.testBit n else (decide (n < 90) && hi.testBit (n - 45))

theorem has_cl (lo hi n : Nat) : has (cl lo) (cl hi) n = has lo hi n := by
  unfold has
  split
  · rename_i h; simp [cl_testBit, h]
  · by_cases h : n < 90
    · have : n - 45 < 45 := by omega
      simp [cl_testBit, this]
    · simp [h]
theorem has_or (a b c d n : Nat) : has (orW a c) (orW b d) n = (has a b n || has c d n) := by
  unfold orW; rw [has_cl]; unfold has; split
  · simp
  · rw [Nat.testBit_or, Bool.and_or_distrib_left]
theorem has_and (a b c d n : Nat) : has (andW a c) (andW b d) n = (has a b n && has c d n) := by
  unfold andW; rw [has_cl]; unfold has; split
  · simp
  · rw [Nat.testBit_and]; cases decide (n < 90) <;> simp
theorem has_minus (a b c d n : Nat) (hc : c < 18446744073709551616) (hd : d < 18446744073709551616) : has (minusW a c) (minusW b d) n = (has a b n && !has c d n) := by
  unfold minusW; rw [has_cl]; unfold has; split
  · rename_i h
    have : n < 64 := by omega
    simp [not_testBit _ _ hc, this]
  · by_cases h : n < 90
    · have : n - 45 < 64 := by omega
      simp [not_testBit _ _ hd, this, h]
    · simp [h]
theorem has_not (a b n : Nat) (ha : a < 18446744073709551616) (hb : b < 18446744073709551616) : has (notW a) (notW b) n = (decide (n < 90) && !has a b n) := by
  unfold notW; rw [has_cl]; unfold has; split
  · rename_i h
    have h1 : n < 64 := by omega
    have h2 : n < 90 := by omega
    simp [not_testBit _ _ ha, h1, h2]
  · by_cases h : n < 90
    · have : n - 45 < 64 := by omega
      simp [not_testBit _ _ hb, this, h]
    · simp [h]
theorem has_sg (n : Int) (i : Nat) : has (sgLo n) (sgHi n) i = decide (n = (i : Int) ∧ i < 90) := by
  unfold has; split
  · rename_i h
    rw [sgLo_testBit, decide_eq_decide]; omega
  · by_cases h : i < 90
    · have e : (decide (i < 90) && (sgHi n).testBit (i - 45)) = (sgHi n).testBit (i - 45) := by simp [h]
      rw [e, sgHi_testBit, decide_eq_decide]; omega
    · simp [h]

/-- Two clean sets with the same squares are the same. -/
theorem ext_of_has {a b c d : Nat} (h : ∀ n, n < 90 → has a b n = has c d n) : cl a = cl c ∧ cl b = cl d := by
  constructor
  · apply Nat.eq_of_testBit_eq
    intro i
    rw [cl_testBit, cl_testBit]
    by_cases hi : i < 45
    · have := h i (by omega)
      unfold has at this
      simp only [hi, if_true] at this
      rw [this]
    · simp [hi]
  · apply Nat.eq_of_testBit_eq
    intro i
    rw [cl_testBit, cl_testBit]
    by_cases hi : i < 45
    · have := h (i + 45) (by omega)
      unfold has at this
      have e1 : ¬ i + 45 < 45 := by omega
      have e2 : i + 45 < 90 := by omega
      have e3 : i + 45 - 45 = i := by omega
      simp only [e1, if_false, e2, decide_true, Bool.true_and, e3] at this
      rw [this]
    · simp [hi]

/-- A set as it lies in a struct: two words of 64 bits. -/
structure S where
  lo : Nat
  hi : Nat
  hlo : lo < 18446744073709551616
  hhi : hi < 18446744073709551616

namespace S
def empty : S := ⟨0, 0, by decide, by decide⟩
def clean (s : S) : S := ⟨cl s.lo, cl s.hi, cl_lt64 _, cl_lt64 _⟩
def single (n : Int) : S := ⟨sgLo n, sgHi n, sgLo_lt n, sgHi_lt n⟩
def or (s t : S) : S := ⟨orW s.lo t.lo, orW s.hi t.hi, orW_lt _ _, orW_lt _ _⟩
def and (s t : S) : S := ⟨andW s.lo t.lo, andW s.hi t.hi, andW_lt _ _, andW_lt _ _⟩
def minus (s t : S) : S := ⟨minusW s.lo t.lo, minusW s.hi t.hi, minusW_lt _ _, minusW_lt _ _⟩
def not (s : S) : S := ⟨notW s.lo, notW s.hi, notW_lt _, notW_lt _⟩
def put (s : S) (n : Int) : S := s.or (single n)
def drop (s : S) (n : Int) : S := s.minus (single n)
/-- Has it square n? -/
def has (s : S) (n : Nat) : Bool := M.has s.lo s.hi n
/-- Has it n, as the code asks? -/
def hasI (s : S) (n : Int) : Bool := !((s.and (single n)).lo == 0 && (s.and (single n)).hi == 0)
/-- How many squares it has. -/
def count (s : S) : Nat := cnt 90 s.has
/-- Are the bits above the squares 0? -/
def Clean (s : S) : Prop := cl s.lo = s.lo ∧ cl s.hi = s.hi

theorem count_words (s : S) : s.count = cnt 64 s.clean.lo.testBit + cnt 64 s.clean.hi.testBit := by
  have h : ∀ x : Nat, cnt 64 (cl x).testBit = cnt 45 x.testBit := fun x => by
    rw [show 64 = 45 + 19 from rfl, cnt_plus, cnt_congr (k := 19) (q := fun _ => false) (fun i _ => by simp [cl_testBit]; omega), cnt_none, Nat.add_zero]
    exact cnt_congr fun i hi => by simp [cl_testBit, hi]
  show _ = cnt 64 (cl s.lo).testBit + cnt 64 (cl s.hi).testBit
  rw [h, h, count, show 90 = 45 + 45 from rfl, cnt_plus]
  have a1 : cnt 45 s.has = cnt 45 s.lo.testBit := cnt_congr fun i hi => by simp [has, M.has, hi]
  have a2 : cnt 45 (fun i => s.has (45 + i)) = cnt 45 s.hi.testBit := cnt_congr fun i hi => by
    have h2 : 45 + i < 90 := by omega
    simp [has, M.has, h2]; intro; omega
  rw [a1, a2]
theorem count_le (s : S) : s.count ≤ 90 := cnt_le _ _
theorem ext' {s t : S} (h1 : s.lo = t.lo) (h2 : s.hi = t.hi) : s = t := by
  cases s; cases t; simp at h1 h2; subst h1; subst h2; rfl
theorem clean_clean (s : S) : s.clean.Clean := ⟨cl_cl _, cl_cl _⟩
theorem or_clean (s t : S) : (s.or t).Clean := ⟨cl_cl _, cl_cl _⟩
theorem and_clean (s t : S) : (s.and t).Clean := ⟨cl_cl _, cl_cl _⟩
theorem minus_clean (s t : S) : (s.minus t).Clean := ⟨cl_cl _, cl_cl _⟩
theorem not_clean (s : S) : s.not.Clean := ⟨cl_cl _, cl_cl _⟩
theorem put_clean (s : S) (n : Int) : (s.put n).Clean := or_clean _ _
theorem drop_clean (s : S) (n : Int) : (s.drop n).Clean := minus_clean _ _
theorem empty_clean : empty.Clean := ⟨rfl, rfl⟩
theorem ext_has {s t : S} (hs : s.Clean) (ht : t.Clean) (h : ∀ n, n < 90 → s.has n = t.has n) : s = t := by
  obtain ⟨h1, h2⟩ := ext_of_has (a := s.lo) (b := s.hi) (c := t.lo) (d := t.hi) h
  exact ext' (by rw [← hs.1, ← ht.1, h1]) (by rw [← hs.2, ← ht.2, h2])
theorem has_ge (s : S) (n : Nat) (h : 90 ≤ n) : s.has n = false := by
  have h1 : ¬ n < 45 := by omega
  have h2 : ¬ n < 90 := by omega
  simp [has, M.has, h1, h2]
theorem has_clean (s : S) (n : Nat) : s.clean.has n = s.has n := M.has_cl _ _ _
theorem has_or (s t : S) (n : Nat) : (s.or t).has n = (s.has n || t.has n) := M.has_or _ _ _ _ _
theorem has_and (s t : S) (n : Nat) : (s.and t).has n = (s.has n && t.has n) := M.has_and _ _ _ _ _
theorem has_minus (s t : S) (n : Nat) : (s.minus t).has n = (s.has n && !t.has n) := M.has_minus _ _ _ _ _ t.hlo t.hhi
theorem has_not (s : S) (n : Nat) : s.not.has n = (decide (n < 90) && !s.has n) := M.has_not _ _ _ s.hlo s.hhi
theorem has_single (n : Int) (i : Nat) : (single n).has i = decide (n = (i : Int) ∧ i < 90) := M.has_sg n i
theorem has_put (s : S) (n : Int) (i : Nat) : (s.put n).has i = (s.has i || decide (n = (i : Int) ∧ i < 90)) := by rw [put, has_or, has_single]
theorem has_drop (s : S) (n : Int) (i : Nat) : (s.drop n).has i = (s.has i && !decide (n = (i : Int) ∧ i < 90)) := by rw [drop, has_minus, has_single]
theorem has_empty (i : Nat) : empty.has i = false := by simp [has, M.has, empty]
end S
end Go.Proofs.YtpogpjebhnoncabGreatDoor.M
