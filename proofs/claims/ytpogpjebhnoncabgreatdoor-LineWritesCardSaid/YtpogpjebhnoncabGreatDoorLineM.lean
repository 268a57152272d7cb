/- What Parse answers, as one value; blanks between words are of no moment. -/
import Derived.Test.YtpogpjebhnoncabGreatDoorLineL
namespace Go.Proofs.YtpogpjebhnoncabGreatDoor
open Go.RowKit Go.Shelf Go.Proofs.YtpogpjebhnoncabGreatDoor.Ln
open M (S)

def resC (R : Except Int Cmd) : Cmd := match R with
  | .ok c => c
  | .error _ => ⟨0, zeroP, [], 0⟩
def resE (R : Except Int Cmd) : Int := match R with
  | .ok _ => 0
  | .error k => k
theorem parse_res (s : List UInt8) (c : Cmd) (er : Int) {w : World} {a0 a1 a2 : Addr} (hE : Env w) (hR : Errs w a0 a1 a2) (hs : s.length < 4294967281) (h : resC (parseL s) = c) (he : resE (parseL s) = er) : Calls Tryz.prog 12 #[.string (bs s)] w fun e w' => ∃ A n, e = .returned (.tuple #[.agg #[.int .i64 c.k, .string (bs c.p.cells), .int .i64 c.p.side, .int .i64 c.p.clock, .int .i64 c.p.full, .slice A c.l.length n, .int .i64 c.d], .int .i64 er]) ∧ RdM w' A c.l ∧ Below w.heap.size w w' := by
  cases hp : parseL s with
  | ok c' =>
    rw [hp] at h he
    subst h he
    exact parse_got s c' hE hR hs hp
  | error k =>
    rw [hp] at h he
    subst h he
    refine (parse_not s k hE hR hs hp).mono ?_
    rintro e w' ⟨rfl, hb⟩
    exact ⟨none, 0, rfl, fun k m hm => (by cases hm), hb⟩
theorem res_len {s : List UInt8} {c : Cmd} (h : resC (parseL s) = c) : c.l.length ≤ 1024 := by
  cases hp : parseL s with
  | ok c' =>
    rw [hp] at h
    subst h
    unfold parseL at hp
    split at hp
    · cases hp
    · split at hp
      · cases hp
      · exact (Ln.ahead hp).2.2.1
  | error k =>
    rw [hp] at h
    subst h
    exact Nat.zero_le _
theorem word_mem {s x : List UInt8} (h : x ∈ wordsB s) {b : UInt8} (hb : b ∈ x) : b ∈ s := by
  have hw := (words_is h).2 b hb
  unfold wordsB at h
  obtain ⟨y, hy, e⟩ := List.mem_map.1 (piece_mem 32 _ x (List.mem_filter.1 h).1 b hb)
  unfold tb at e
  split at e
  · exact absurd e.symm hw.1
  · rw [← e]; exact hy
theorem endB_not {s : List UInt8} (h : endB s = false) {b : UInt8} (hb : b ∈ s) : b ≠ 10 ∧ b ≠ 13 := by
  unfold endB at h
  have := List.any_eq_false.1 h b hb
  simp only [Bool.or_eq_true, beq_iff_eq, not_or] at this
  exact this
theorem endB_of {s : List UInt8} (h : ∀ b ∈ s, b ≠ 10 ∧ b ≠ 13) : endB s = false := by
  unfold endB
  rw [List.any_eq_false]
  intro b hb
  simp only [Bool.or_eq_true, beq_iff_eq, not_or]
  exact h b hb
/-- The line as it is written out with blanks ahead of its words. -/
def blankT (l : List (List UInt8)) : List UInt8 := (l.flatMap fun x => [9, 32] ++ x) ++ [32]
theorem parse_blanks {s : List UInt8} (hs : s.length ≤ 1000) (he : endB s = false) : parseL (blankT (wordsB s)) = parseL s := by
  have hl : (blankT (wordsB s)).length ≤ 4096 := by
    unfold blankT
    rw [List.length_append, flat2_len]
    have h1 := words_sum s
    have h2 := sum_count (wordsB s)
    show _ + 1 ≤ 4096
    omega
  have hb : endB (blankT (wordsB s)) = false := endB_of fun b hb => by
    unfold blankT at hb
    rcases List.mem_append.1 hb with hb | hb
    · obtain ⟨x, hx, hbx⟩ := List.mem_flatMap.1 hb
      rcases List.mem_append.1 hbx with hbx | hbx
      · have : b = 9 ∨ b = 32 := by simpa using hbx
        rcases this with rfl | rfl <;> decide
      · exact endB_not he (word_mem hx hbx)
    · have : b = 32 := by simpa using hb
      subst this
      decide
  have hw : wordsB (blankT (wordsB s)) = wordsB s := words_ahead _ fun x hx => words_is hx
  unfold parseL
  rw [if_neg (Nat.not_lt.2 hl), if_neg (show ¬ 4096 < s.length by omega), hb, he, hw]
end Go.Proofs.YtpogpjebhnoncabGreatDoor
