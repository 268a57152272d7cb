/- Plain facts on rows of empty squares: replaced one length after the other, the longest first, they are a rank's text. No program in it. -/
import Derived.Test.YtcnaejmhifedfaaGreatDoorFenC
import Derived.Lib.Replace
import Derived.Lib.Repeat
namespace Go.Proofs.YtcnaejmhifedfaaGreatDoor.F

/-- Each of old's instances in a text replaced, from the left. -/
def repl (old new s : List UInt8) : List UInt8 := Lib.replaceK old new (Lib.count s old) s
theorem replaceAll_repl {s old new : List UInt8} (h : old ≠ new) : Lib.replaceAll s old new = repl old new s := by
  unfold Lib.replaceAll Lib.replace Lib.replaceNum repl
  rw [if_neg (by simpa using h), if_pos (.inl (by decide))]
theorem repl_nil {old new : List UInt8} (h : old ≠ []) : repl old new [] = [] := by
  have hi : Lib.index [] old = -1 := by
    rw [Lib.index, if_neg]
    cases old with
    | nil => exact absurd rfl h
    | cons x r => simp
  rw [repl, Lib.count_miss hi]
  rfl
theorem repl_hit {old new s : List UInt8} (h : old ≠ []) (hp : Lib.index s old = 0) : repl old new s = new ++ repl old new (s.drop old.length) := by
  have hp' : Lib.index s old = ((0 : Nat) : Int) := hp
  rw [repl, Lib.count_hit h hp', Nat.add_comm, Lib.replaceK_hit old new _ s 0 hp', repl]
  simp
theorem index_pre {old s : List UInt8} (h : old.isPrefixOf s = true) (h0 : old ≠ []) : Lib.index s old = 0 := by
  cases s with
  | nil =>
    cases old with
    | nil => exact absurd rfl h0
    | cons x r => simp at h
  | cons b r => rw [Lib.index, if_pos h]
theorem repl_skip {old new r : List UInt8} {b : UInt8} (h : old ≠ []) (hp : old.isPrefixOf (b :: r) = false) : repl old new (b :: r) = b :: repl old new r := by
  have hi : Lib.index (b :: r) old = if Lib.index r old == -1 then -1 else Lib.index r old + 1 := by
    rw [Lib.index, if_neg (by rw [hp]; simp)]
  by_cases hm : Lib.index r old = -1
  · rw [hm] at hi
    have hi' : Lib.index (b :: r) old = -1 := by rw [hi]; rfl
    rw [repl, repl, Lib.count_miss hi', Lib.count_miss hm]
    rfl
  · have hge := Lib.index_ge r old
    obtain ⟨i, hri⟩ : ∃ i : Nat, Lib.index r old = i := ⟨(Lib.index r old).toNat, by omega⟩
    have hi' : Lib.index (b :: r) old = ((i + 1 : Nat) : Int) := by
      rw [hi, hri, if_neg]
      · omega
      · rw [beq_iff_eq]; omega
    rw [repl, repl, Lib.count_hit h hi', Lib.count_hit h hri, Nat.add_comm, Nat.add_comm 1 (Lib.count (r.drop (i + old.length)) old), Lib.replaceK_hit _ _ _ _ _ hi', Lib.replaceK_hit _ _ _ _ _ hri]
    have e : (b :: r).drop (i + 1 + old.length) = r.drop (i + old.length) := by
      rw [show i + 1 + old.length = (i + old.length) + 1 by omega, List.drop_succ_cons]
    rw [e]
    simp

/-- n empty squares. -/
abbrev dots (n : Nat) : List UInt8 := List.replicate n 46
theorem dots_zero : dots 0 = [] := rfl
theorem dots_succ (n : Nat) : dots (n + 1) = 46 :: dots n := rfl
theorem dots_snoc (n : Nat) : dots (n + 1) = dots n ++ [46] := List.replicate_succ'
theorem dots_pre_no {n e : Nat} (h : e < n) (t : List UInt8) (ht : t.head? ≠ some 46) : (dots n).isPrefixOf (dots e ++ t) = false := by
  induction e generalizing n with
  | zero =>
    obtain ⟨m, rfl⟩ : ∃ m, n = m + 1 := ⟨n - 1, by omega⟩
    cases t with
    | nil => rfl
    | cons b r =>
      rw [dots_zero, List.nil_append, dots_succ]
      simp only [List.isPrefixOf]
      have : (46 == b) = false := by
        rw [beq_eq_false_iff_ne]
        intro e
        exact ht (by rw [← e]; rfl)
      rw [this]
      rfl
  | succ e ih =>
    obtain ⟨m, rfl⟩ : ∃ m, n = m + 1 := ⟨n - 1, by omega⟩
    rw [dots_succ, dots_succ, List.cons_append]
    simp only [List.isPrefixOf]
    rw [ih (by omega)]
    rfl
theorem dots_ne {n : Nat} (h : 0 < n) : dots n ≠ [] := by
  obtain ⟨m, rfl⟩ : ∃ m, n = m + 1 := ⟨n - 1, by omega⟩
  rw [dots_succ]
  simp
theorem repl_less {n : Nat} {d : List UInt8} : ∀ {e : Nat}, e < n → ∀ t : List UInt8, t.head? ≠ some 46 → repl (dots n) d (dots e ++ t) = dots e ++ repl (dots n) d t
  | 0, _, t, _ => rfl
  | e + 1, h, t, ht => by
    have hp := dots_pre_no h t ht
    rw [dots_succ, List.cons_append] at hp ⊢
    rw [repl_skip (dots_ne (by omega)) hp, repl_less (by omega) t ht]
    rfl
theorem repl_just {n : Nat} (hn : 0 < n) {d : List UInt8} (t : List UInt8) : repl (dots n) d (dots n ++ t) = d ++ repl (dots n) d t := by
  have hp : (dots n).isPrefixOf (dots n ++ t) = true := by simp
  rw [repl_hit (dots_ne hn) (index_pre hp (dots_ne hn))]
  congr 2
  simp
theorem repl_byte {n : Nat} (hn : 0 < n) {d : List UInt8} {b : UInt8} (hb : b ≠ 46) (t : List UInt8) : repl (dots n) d (b :: t) = b :: repl (dots n) d t := by
  refine repl_skip (dots_ne hn) ?_
  exact dots_pre_no (n := n) (e := 0) hn (b :: t) (by simpa using hb)
/-- A row of e empty squares: a digit, if it is longer than k. -/
def run (k e : Nat) : List UInt8 := if e ≤ k then dots e else [UInt8.ofNat (48 + e)]
def rleK (k : Nat) : Nat → List UInt8 → List UInt8
  | e, [] => run k e
  | e, b :: r => if b = 46 then rleK k (e + 1) r else run k e ++ b :: rleK k 0 r
theorem digit_no46 {e : Nat} (h : e ≤ 9) : UInt8.ofNat (48 + e) ≠ 46 := fun h1 => by
  have := congrArg UInt8.toNat h1
  rw [u8_of _ (by omega)] at this
  simp at this
  omega
theorem run_step {n e : Nat} (hn : 0 < n) (he : e ≤ 9) (t : List UInt8) (ht : t.head? ≠ some 46) : repl (dots n) [UInt8.ofNat (48 + n)] (run n e ++ t) = run (n - 1) e ++ repl (dots n) [UInt8.ofNat (48 + n)] t := by
  unfold run
  by_cases h1 : e < n
  · rw [if_pos (by omega), if_pos (by omega)]
    exact repl_less h1 t ht
  · by_cases h2 : e = n
    · subst h2
      rw [if_pos (Nat.le_refl _), if_neg (by omega)]
      exact repl_just hn t
    · rw [if_neg (by omega), if_neg (by omega)]
      exact repl_byte hn (digit_no46 he) t
theorem rleK_step {n : Nat} (hn : 0 < n) : ∀ (l : List UInt8) (e : Nat), e + l.length ≤ 9 → repl (dots n) [UInt8.ofNat (48 + n)] (rleK n e l) = rleK (n - 1) e l
  | [], e, h => by
    have := run_step hn (e := e) (by simpa using h) [] (by simp)
    rw [repl_nil (dots_ne hn), List.append_nil, List.append_nil] at this
    exact this
  | b :: r, e, h => by
    rw [List.length_cons] at h
    rw [rleK, rleK]
    by_cases hb : b = 46
    · rw [if_pos hb, if_pos hb]
      exact rleK_step hn r (e + 1) (by omega)
    · rw [if_neg hb, if_neg hb, run_step hn (by omega) _ (by simpa using hb), repl_byte hn hb, rleK_step hn r 0 (by omega)]
theorem rleK_nine : ∀ (l : List UInt8) (e : Nat), e + l.length ≤ 9 → rleK 9 e l = dots e ++ l
  | [], e, h => by
    rw [rleK, run, if_pos (by simpa using h), List.append_nil]
  | b :: r, e, h => by
    rw [List.length_cons] at h
    rw [rleK]
    by_cases hb : b = 46
    · rw [if_pos hb, rleK_nine r (e + 1) (by omega), hb, dots_snoc]
      simp
    · rw [if_neg hb, rleK_nine r 0 (by omega), run, if_pos (by omega)]
      simp
theorem rleK_zero : ∀ (l : List UInt8) (e : Nat), rleK 0 e l = rle e l
  | [], 0 => rfl
  | [], e + 1 => by rw [rleK, run, if_neg (by omega), rle]
  | b :: r, e => by
    by_cases hb : b = 46
    · have e1 : rle e (b :: r) = rle (e + 1) r := by
        cases e <;> rw [rle, if_pos hb]
      rw [rleK, if_pos hb, e1, rleK_zero r (e + 1)]
    · have e1 : rle e (b :: r) = (if e = 0 then [] else [UInt8.ofNat (48 + e)]) ++ b :: rle 0 r := by
        cases e <;> rw [rle, if_neg hb]
      rw [rleK, if_neg hb, e1, rleK_zero r 0, run]
      congr 1
      by_cases h0 : e = 0
      · rw [if_pos (by omega), if_pos h0, h0]; rfl
      · rw [if_neg (by omega), if_neg h0]
theorem rleK_len (k : Nat) : ∀ (l : List UInt8) (e : Nat), (rleK k e l).length ≤ e + l.length
  | [], e => by
    rw [rleK, run]
    split
    · simp
    · simp; omega
  | b :: r, e => by
    rw [rleK]
    split
    · have := rleK_len k r (e + 1)
      rw [List.length_cons]
      omega
    · have h1 := rleK_len k r 0
      have h2 : (run k e).length ≤ e := by
        unfold run
        split
        · simp
        · simp; omega
      rw [List.length_append, List.length_cons, List.length_cons]
      omega
/-- One step of printRank. -/
theorem rank_step {n : Nat} (hn : 0 < n) (h9 : n ≤ 9) {l : List UInt8} (hl : l.length ≤ 9) : Lib.replaceAll (rleK n 0 l) (Lib.repeatL [46] n) (Lib.itoa n) = rleK (n - 1) 0 l := by
  have e1 : Lib.repeatL [46] n = dots n := by
    have := Lib.repeatL_replicate 46 1 n
    rw [Nat.mul_one] at this
    exact this
  have e2 : Lib.itoa n = [UInt8.ofNat (48 + n)] := by
    rw [Lib.itoa, if_neg (by omega), Int.toNat_natCast, Lib.decDigits_one (by omega)]
  rw [e1, e2, replaceAll_repl, rleK_step hn l 0 (by omega)]
  intro e
  have h1 := congrArg (List.head? ·) e
  obtain ⟨m, rfl⟩ : ∃ m, n = m + 1 := ⟨n - 1, by omega⟩
  rw [dots_succ] at h1
  simp only [List.head?_cons, Option.some.injEq] at h1
  exact digit_no46 h9 h1.symm
end Go.Proofs.YtcnaejmhifedfaaGreatDoor.F
