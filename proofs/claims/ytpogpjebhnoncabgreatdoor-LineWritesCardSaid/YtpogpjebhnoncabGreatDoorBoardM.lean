/- Merged: Board1 Board2 Board3 Board4 Board5 Board6 Board7. -/
import Derived.Test.YtpogpjebhnoncabGreatDoorRows
import Derived.WalkKit
import Derived.WalkSpells
import Derived.WalkLawsBesides
import Derived.Outline
import Derived.Lib.Hide
import Derived.Test.YtpogpjebhnoncabGreatDoorBase
import Derived.Laws.IdiomStrings
import Derived.Deep.QuietTactic
import Derived.BigQuiet

namespace Go.Proofs.YtpogpjebhnoncabGreatDoor
open Go.RowKit

def isBlack (c : Nat) : Bool := [107, 97, 98, 110, 114, 99, 112].contains c
def isRed (c : Nat) : Bool := [75, 65, 66, 78, 82, 67, 80].contains c
/-- A piece's red letter, 0 of what is none. -/
def kindN (c : Nat) : Nat := if isBlack c then c - 32 else if isRed c then c else 0
/-- 0 of red's pieces, 1 of black's, else -1. -/
def sideN (c : Nat) : Int := if isRed c then 0 else if isBlack c then 1 else -1
def fillB (c : Nat) : Bool := c == 46 || isRed c || isBlack c
/-- The other side's piece of the same kind. -/
def swapN (c : Nat) : Nat := if isRed c then c + 32 else if isBlack c then c - 32 else c
theorem byte_cases (c : Nat) : (isBlack c = false ∧ isRed c = false ∧ c ≠ 107 ∧ c ≠ 97 ∧ c ≠ 98 ∧ c ≠ 110 ∧ c ≠ 114 ∧ c ≠ 99 ∧ c ≠ 112 ∧ c ≠ 75 ∧ c ≠ 65 ∧ c ≠ 66 ∧ c ≠ 78 ∧ c ≠ 82 ∧ c ≠ 67 ∧ c ≠ 80) ∨ c = 107 ∨ c = 97 ∨ c = 98 ∨ c = 110 ∨ c = 114 ∨ c = 99 ∨ c = 112 ∨ c = 75 ∨ c = 65 ∨ c = 66 ∨ c = 78 ∨ c = 82 ∨ c = 67 ∨ c = 80 := by
  by_cases h : c ∈ [107, 97, 98, 110, 114, 99, 112, 75, 65, 66, 78, 82, 67, 80]
  · refine .inr ?_
    simp only [List.mem_cons, List.not_mem_nil, or_false] at h
    omega
  · refine .inl ?_
    simp only [List.mem_cons, List.not_mem_nil, or_false, not_or] at h
    obtain ⟨h107, h97, h98, h110, h114, h99, h112, h75, h65, h66, h78, h82, h67, h80⟩ := h
    refine ⟨?_, ?_, h107, h97, h98, h110, h114, h99, h112, h75, h65, h66, h78, h82, h67, h80⟩
    · simp [isBlack, *]
    · simp [isRed, *]

set_option maxHeartbeats 400000 in
theorem kind_any (c : Nat) (w : World) : Calls Tryz.prog 138 #[.int .u8 (c : Int)] w fun e w' => e = .returned (.int .u8 (kindN c : Nat)) ∧ w = w' := by
  rcases byte_cases c with ⟨kb, kr, h107, h97, h98, h110, h114, h99, h112, h75, h65, h66, h78, h82, h67, h80⟩ | rfl | rfl | rfl | rfl | rfl | rfl | rfl | rfl | rfl | rfl | rfl | rfl | rfl | rfl
  · have K : Hid (kindN c = 0) := by show _ = _; simp [kindN, kb, kr]
    clear kb kr
    have e107 : ((c : Int) == 107) = false := by rw [beq_eq_false_iff_ne]; omega
    have e97 : ((c : Int) == 97) = false := by rw [beq_eq_false_iff_ne]; omega
    have e98 : ((c : Int) == 98) = false := by rw [beq_eq_false_iff_ne]; omega
    have e110 : ((c : Int) == 110) = false := by rw [beq_eq_false_iff_ne]; omega
    have e114 : ((c : Int) == 114) = false := by rw [beq_eq_false_iff_ne]; omega
    have e99 : ((c : Int) == 99) = false := by rw [beq_eq_false_iff_ne]; omega
    have e112 : ((c : Int) == 112) = false := by rw [beq_eq_false_iff_ne]; omega
    have e75 : ((c : Int) == 75) = false := by rw [beq_eq_false_iff_ne]; omega
    have e65 : ((c : Int) == 65) = false := by rw [beq_eq_false_iff_ne]; omega
    have e66 : ((c : Int) == 66) = false := by rw [beq_eq_false_iff_ne]; omega
    have e78 : ((c : Int) == 78) = false := by rw [beq_eq_false_iff_ne]; omega
    have e82 : ((c : Int) == 82) = false := by rw [beq_eq_false_iff_ne]; omega
    have e67 : ((c : Int) == 67) = false := by rw [beq_eq_false_iff_ne]; omega
    have e80 : ((c : Int) == 80) = false := by rw [beq_eq_false_iff_ne]; omega
    clear h107 h97 h98 h110 h114 h99 h112 h75 h65 h66 h78 h82 h67 h80
    go_enter Tryz.func138, Tryz.ntmps138
    go_wp2
    go_ret
    exact ⟨by rw [K.out]; rfl, rfl⟩
  all_goals
    go_enter Tryz.func138, Tryz.ntmps138
    go_wp2
    go_ret
    exact ⟨rfl, rfl⟩
set_option maxHeartbeats 400000 in
theorem rside_any (c : Nat) (w : World) : Calls Tryz.prog 81 #[.int .u8 (c : Int)] w fun e w' => e = .returned (.int .i64 (sideN c)) ∧ w = w' := by
  rcases byte_cases c with ⟨kb, kr, h107, h97, h98, h110, h114, h99, h112, h75, h65, h66, h78, h82, h67, h80⟩ | rfl | rfl | rfl | rfl | rfl | rfl | rfl | rfl | rfl | rfl | rfl | rfl | rfl | rfl
  · have K : Hid (sideN c = -1) := by show _ = _; simp [sideN, kb, kr]
    clear kb kr
    have e107 : ((c : Int) == 107) = false := by rw [beq_eq_false_iff_ne]; omega
    have e97 : ((c : Int) == 97) = false := by rw [beq_eq_false_iff_ne]; omega
    have e98 : ((c : Int) == 98) = false := by rw [beq_eq_false_iff_ne]; omega
    have e110 : ((c : Int) == 110) = false := by rw [beq_eq_false_iff_ne]; omega
    have e114 : ((c : Int) == 114) = false := by rw [beq_eq_false_iff_ne]; omega
    have e99 : ((c : Int) == 99) = false := by rw [beq_eq_false_iff_ne]; omega
    have e112 : ((c : Int) == 112) = false := by rw [beq_eq_false_iff_ne]; omega
    have e75 : ((c : Int) == 75) = false := by rw [beq_eq_false_iff_ne]; omega
    have e65 : ((c : Int) == 65) = false := by rw [beq_eq_false_iff_ne]; omega
    have e66 : ((c : Int) == 66) = false := by rw [beq_eq_false_iff_ne]; omega
    have e78 : ((c : Int) == 78) = false := by rw [beq_eq_false_iff_ne]; omega
    have e82 : ((c : Int) == 82) = false := by rw [beq_eq_false_iff_ne]; omega
    have e67 : ((c : Int) == 67) = false := by rw [beq_eq_false_iff_ne]; omega
    have e80 : ((c : Int) == 80) = false := by rw [beq_eq_false_iff_ne]; omega
    clear h107 h97 h98 h110 h114 h99 h112 h75 h65 h66 h78 h82 h67 h80
    go_enter Tryz.func81, Tryz.ntmps81
    go_wp2
    go_ret
    exact ⟨by rw [K.out]; rfl, rfl⟩
  all_goals
    go_enter Tryz.func81, Tryz.ntmps81
    go_wp2
    go_ret
    exact ⟨rfl, rfl⟩
set_option maxHeartbeats 1000000 in
theorem side_any (c : Nat) (w : World) : Calls Tryz.prog 158 #[.int .u8 (c : Int)] w fun e w' => e = .returned (.int .i64 (sideN c)) ∧ w = w' := by
  rcases byte_cases c with ⟨kb, kr, h107, h97, h98, h110, h114, h99, h112, h75, h65, h66, h78, h82, h67, h80⟩ | rfl | rfl | rfl | rfl | rfl | rfl | rfl | rfl | rfl | rfl | rfl | rfl | rfl | rfl
  · have K : Hid (sideN c = -1) := by show _ = _; simp [sideN, kb, kr]
    have K0 : Hid (kindN c = 0) := by show _ = _; simp [kindN, kb, kr]
    clear kb kr h107 h97 h98 h110 h114 h99 h112 h75 h65 h66 h78 h82 h67 h80
    go_enter Tryz.func158, Tryz.ntmps158
    go_wp2_with fail
    refine (kind_any c _).mono ?_
    rintro e w' ⟨rfl, rfl⟩
    rw [K0.out]
    go_wp2
    go_ret
    exact ⟨by rw [K.out]; rfl, rfl⟩
  all_goals
    go_enter Tryz.func158, Tryz.ntmps158
    go_wp2
    go_ret
    exact ⟨rfl, rfl⟩
set_option maxHeartbeats 1000000 in
theorem fills_any (c : Nat) (w : World) : Calls Tryz.prog 136 #[.int .u8 (c : Int)] w fun e w' => e = .returned (.bool (fillB c)) ∧ w = w' := by
  rcases byte_cases c with ⟨kb, kr, h107, h97, h98, h110, h114, h99, h112, h75, h65, h66, h78, h82, h67, h80⟩ | rfl | rfl | rfl | rfl | rfl | rfl | rfl | rfl | rfl | rfl | rfl | rfl | rfl | rfl
  · have K : Hid (fillB c = (c == 46)) := by show _ = _; simp [fillB, kb, kr]
    have K0 : Hid (kindN c = 0) := by show _ = _; simp [kindN, kb, kr]
    clear kb kr h107 h97 h98 h110 h114 h99 h112 h75 h65 h66 h78 h82 h67 h80
    by_cases h : c = 46
    · have E : Hid ((c == 46) = true) := by show _ = _; simp [h]
      have e0 : ((c : Int) == 46) = true := by rw [beq_iff_eq]; omega
      clear h
      go_enter Tryz.func136, Tryz.ntmps136
      go_wp2
      go_ret
      exact ⟨by rw [K.out, E.out]; rfl, rfl⟩
    · have E : Hid ((c == 46) = false) := by show _ = _; simp [h]
      have e0 : ((c : Int) == 46) = false := by rw [beq_eq_false_iff_ne]; omega
      clear h
      go_enter Tryz.func136, Tryz.ntmps136
      go_wp2_with fail
      refine (kind_any c _).mono ?_
      rintro e w' ⟨rfl, rfl⟩
      rw [K0.out]
      go_wp2
      go_ret
      exact ⟨by rw [K.out, E.out]; rfl, rfl⟩
  all_goals
    go_enter Tryz.func136, Tryz.ntmps136
    go_wp2
    go_ret
    exact ⟨rfl, rfl⟩
set_option maxHeartbeats 1000000 in
theorem rkind_any (c : Nat) (w : World) : Calls Tryz.prog 59 #[.int .u8 (c : Int)] w fun e w' => e = .returned (.int .u8 (kindN c : Nat)) ∧ w = w' := by
  rcases byte_cases c with ⟨kb, kr, h107, h97, h98, h110, h114, h99, h112, h75, h65, h66, h78, h82, h67, h80⟩ | rfl | rfl | rfl | rfl | rfl | rfl | rfl | rfl | rfl | rfl | rfl | rfl | rfl | rfl
  · have K : Hid (kindN c = 0) := by show _ = _; simp [kindN, kb, kr]
    have K0 : Hid (sideN c = -1) := by show _ = _; simp [sideN, kb, kr]
    clear kb kr h107 h97 h98 h110 h114 h99 h112 h75 h65 h66 h78 h82 h67 h80
    go_enter Tryz.func59, Tryz.ntmps59
    go_wp2_with fail
    refine (rside_any c _).mono ?_
    rintro e w' ⟨rfl, rfl⟩
    rw [K0.out]
    go_wp2
    go_ret
    exact ⟨by rw [K.out]; rfl, rfl⟩
  all_goals
    go_enter Tryz.func59, Tryz.ntmps59
    go_wp2
    go_ret
    exact ⟨rfl, rfl⟩

/-- Is it a square? -/
def sqI (n : Int) : Bool := decide (0 ≤ n) && decide (n < 90)
def fileI (n : Int) : Int := if 0 ≤ n ∧ n < 90 then n % 9 else -1
def rankI (n : Int) : Int := if 0 ≤ n ∧ n < 90 then n / 9 else -1
def squareI (f r : Int) : Int := if 0 ≤ f ∧ f < 9 ∧ 0 ≤ r ∧ r < 10 then 9 * r + f else -1
theorem sqI_true {n : Int} (h : 0 ≤ n ∧ n < 90) : sqI n = true := by unfold sqI; rw [decide_eq_true h.1, decide_eq_true h.2]; rfl
theorem sqI_false {n : Int} (h : ¬ (0 ≤ n ∧ n < 90)) : sqI n = false := by unfold sqI; rw [← Bool.decide_and, decide_eq_false h]

set_option maxHeartbeats 400000 in
theorem isSquare_any (n : Int) (w : World) : Calls Tryz.prog 109 #[.int .i64 n] w fun e w' => e = .returned (.bool (sqI n)) ∧ w = w' := by
  by_cases h0 : 0 ≤ n
  · by_cases h1 : n < 90
    · have K := Lib.hid (sqI_true ⟨h0, h1⟩)
      go_enter Tryz.func109, Tryz.ntmps109
      go_wp2
      go_ret
      exact ⟨by rw [K.out]; first | rfl | (simp; done) | (simp; omega), rfl⟩
    · have K := Lib.hid (sqI_false (n := n) (by omega))
      go_enter Tryz.func109, Tryz.ntmps109
      go_wp2
      go_ret
      exact ⟨by rw [K.out]; first | rfl | (simp; done) | (simp; omega), rfl⟩
  · have K := Lib.hid (sqI_false (n := n) (by omega))
    go_enter Tryz.func109, Tryz.ntmps109
    go_wp2
    go_ret
    exact ⟨by rw [K.out]; rfl, rfl⟩
set_option maxHeartbeats 400000 in
theorem file_any (n : Int) (w : World) : Calls Tryz.prog 75 #[.int .i64 n] w fun e w' => e = .returned (.int .i64 (fileI n)) ∧ w = w' := by
  by_cases h : 0 ≤ n ∧ n < 90
  · have S := Lib.hid (sqI_true h)
    have K : Hid (fileI n = n % 9) := by show _ = _; rw [fileI, if_pos h]
    obtain ⟨h0, h1⟩ := h
    go_enter Tryz.func75, Tryz.ntmps75
    go_wp2_with fail
    refine (isSquare_any n _).mono ?_
    rintro e w' ⟨rfl, rfl⟩
    rw [S.out]
    go_wp2
    go_ret
    exact ⟨by rw [K.out]; rfl, rfl⟩
  · have S := Lib.hid (sqI_false h)
    have K : Hid (fileI n = -1) := by show _ = _; rw [fileI, if_neg h]
    clear h
    go_enter Tryz.func75, Tryz.ntmps75
    go_wp2_with fail
    refine (isSquare_any n _).mono ?_
    rintro e w' ⟨rfl, rfl⟩
    rw [S.out]
    go_wp2
    go_ret
    exact ⟨by rw [K.out]; rfl, rfl⟩
set_option maxHeartbeats 400000 in
theorem rank_any (n : Int) (w : World) : Calls Tryz.prog 76 #[.int .i64 n] w fun e w' => e = .returned (.int .i64 (rankI n)) ∧ w = w' := by
  by_cases h : 0 ≤ n ∧ n < 90
  · have S := Lib.hid (sqI_true h)
    have K : Hid (rankI n = n / 9) := by show _ = _; rw [rankI, if_pos h]
    obtain ⟨h0, h1⟩ := h
    go_enter Tryz.func76, Tryz.ntmps76
    go_wp2_with fail
    refine (isSquare_any n _).mono ?_
    rintro e w' ⟨rfl, rfl⟩
    rw [S.out]
    go_wp2
    go_ret
    exact ⟨by rw [K.out]; rfl, rfl⟩
  · have S := Lib.hid (sqI_false h)
    have K : Hid (rankI n = -1) := by show _ = _; rw [rankI, if_neg h]
    clear h
    go_enter Tryz.func76, Tryz.ntmps76
    go_wp2_with fail
    refine (isSquare_any n _).mono ?_
    rintro e w' ⟨rfl, rfl⟩
    rw [S.out]
    go_wp2
    go_ret
    exact ⟨by rw [K.out]; rfl, rfl⟩
set_option maxHeartbeats 400000 in
theorem rfile_any (n : Int) (w : World) : Calls Tryz.prog 83 #[.int .i64 n] w fun e w' => e = .returned (.int .i64 (fileI n)) ∧ w = w' := by
  by_cases h : 0 ≤ n ∧ n < 90
  · have S := Lib.hid (sqI_true h)
    have K : Hid (fileI n = n % 9) := by show _ = _; rw [fileI, if_pos h]
    obtain ⟨h0, h1⟩ := h
    go_enter Tryz.func83, Tryz.ntmps83
    go_wp2
    go_ret
    exact ⟨by rw [K.out]; rfl, rfl⟩
  · have S := Lib.hid (sqI_false h)
    have K : Hid (fileI n = -1) := by show _ = _; rw [fileI, if_neg h]
    by_cases h0 : n < 0
    · clear h S
      go_enter Tryz.func83, Tryz.ntmps83
      go_wp2
      go_ret
      exact ⟨by rw [K.out]; rfl, rfl⟩
    · have h1 : 90 ≤ n := by omega
      clear h S
      go_enter Tryz.func83, Tryz.ntmps83
      go_wp2
      go_ret
      exact ⟨by rw [K.out]; rfl, rfl⟩
set_option maxHeartbeats 400000 in
theorem rrank_any (n : Int) (w : World) : Calls Tryz.prog 117 #[.int .i64 n] w fun e w' => e = .returned (.int .i64 (rankI n)) ∧ w = w' := by
  by_cases h : 0 ≤ n ∧ n < 90
  · have S := Lib.hid (sqI_true h)
    have K : Hid (rankI n = n / 9) := by show _ = _; rw [rankI, if_pos h]
    obtain ⟨h0, h1⟩ := h
    go_enter Tryz.func117, Tryz.ntmps117
    go_wp2
    go_ret
    exact ⟨by rw [K.out]; rfl, rfl⟩
  · have S := Lib.hid (sqI_false h)
    have K : Hid (rankI n = -1) := by show _ = _; rw [rankI, if_neg h]
    by_cases h0 : n < 0
    · clear h S
      go_enter Tryz.func117, Tryz.ntmps117
      go_wp2
      go_ret
      exact ⟨by rw [K.out]; rfl, rfl⟩
    · have h1 : 90 ≤ n := by omega
      clear h S
      go_enter Tryz.func117, Tryz.ntmps117
      go_wp2
      go_ret
      exact ⟨by rw [K.out]; rfl, rfl⟩
set_option maxHeartbeats 400000 in
theorem square_any (f r : Int) (w : World) : Calls Tryz.prog 144 #[.int .i64 f, .int .i64 r] w fun e w' => e = .returned (.int .i64 (squareI f r)) ∧ w = w' := by
  by_cases h : 0 ≤ f ∧ f < 9 ∧ 0 ≤ r ∧ r < 10
  · have K : Hid (squareI f r = 9 * r + f) := by show _ = _; rw [squareI, if_pos h]
    obtain ⟨h0, h1, h2, h3⟩ := h
    go_enter Tryz.func144, Tryz.ntmps144
    go_wp2
    go_ret
    exact ⟨by rw [K.out]; first | rfl | (rw [Int.mul_comm 9 r]; rfl), rfl⟩
  · have K : Hid (squareI f r = -1) := by show _ = _; rw [squareI, if_neg h]
    by_cases h0 : f < 0
    · clear h
      go_enter Tryz.func144, Tryz.ntmps144
      go_wp2
      go_ret
      exact ⟨by rw [K.out]; rfl, rfl⟩
    · by_cases h1 : 9 ≤ f
      · clear h
        go_enter Tryz.func144, Tryz.ntmps144
        go_wp2
        go_ret
        exact ⟨by rw [K.out]; rfl, rfl⟩
      · by_cases h2 : r < 0
        · clear h
          go_enter Tryz.func144, Tryz.ntmps144
          go_wp2
          go_ret
          exact ⟨by rw [K.out]; rfl, rfl⟩
        · have h3 : 10 ≤ r := by omega
          clear h
          go_enter Tryz.func144, Tryz.ntmps144
          go_wp2
          go_ret
          exact ⟨by rw [K.out]; rfl, rfl⟩
end Go.Proofs.YtpogpjebhnoncabGreatDoor

namespace Go.Proofs.YtpogpjebhnoncabGreatDoor
open Go.RowKit Go.Shelf
open M (S)

/-- The byte at a place of a text. -/
def bAt (s : ByteArray) (k : Nat) : Nat := if h : k < s.size then s[k].toNat else 0
theorem bAt_eq (s : ByteArray) (k : Nat) (h : k < s.size) : s[k].toNat = bAt s k := by unfold bAt; rw [dif_pos h]
theorem bAt_lt (s : ByteArray) (k : Nat) : bAt s k < 256 := by
  unfold bAt
  split
  · exact UInt8.toNat_lt _
  · decide
/-- Is a text a board? -/
def isB (s : ByteArray) : Bool := decide (s.size = 90) && (List.range 90).all fun k => fillB (bAt s k)
theorem isB_size {s : ByteArray} (h : isB s = true) : s.size = 90 := by
  simp only [isB, Bool.and_eq_true, decide_eq_true_eq] at h
  exact h.1
theorem isB_fill {s : ByteArray} (h : isB s = true) (k : Nat) (hk : k < 90) : fillB (bAt s k) = true := by
  simp only [isB, Bool.and_eq_true, List.all_eq_true] at h
  exact h.2 k (List.mem_range.2 hk)
theorem isB_no {s : ByteArray} {k : Nat} (hk : k < 90) (h : fillB (bAt s k) = false) : isB s = false := by
  cases hb : isB s
  · rfl
  · rw [isB_fill hb k hk] at h; cases h

set_option maxHeartbeats 1000000 in
theorem is_any (s : ByteArray) (w : World) : Calls Tryz.prog 112 #[.string s] w fun e w' => e = .returned (.bool (isB s)) ∧ w = w' := by
  by_cases hs : s.size = 90
  · have h1 : ((s.size : Int) != 90) = false := by rw [hs]; rfl
    have h90 : 90 ≤ s.size := by omega
    have hall : ∀ k, k ≤ 90 → (∀ j, j < k → fillB (bAt s j) = true) → k = 90 → isB s = true := fun k _ h e => by
      subst e
      simp only [isB, Bool.and_eq_true, decide_eq_true_eq, List.all_eq_true]
      exact ⟨hs, fun j hj => h j (List.mem_range.1 hj)⟩
    have Hall := Lib.hid hall
    clear hs hall
    go_enter Tryz.func112, Tryz.ntmps112
    go_wp2_with fail
    go_loop [3, 7] (fun _ i => ∃ k : Nat, k ≤ 90 ∧ i = .int .i64 k ∧ ∀ j, j < k → fillB (bAt s j) = true) (fun _ i => 90 - (intOf i).toNat)
    case atStart => exact ⟨0, by omega, rfl, fun j hj => by omega⟩
    case round =>
      obtain ⟨k, hk, rfl, hf⟩ := hrel
      have Hf := Lib.hid hf
      clear hf
      by_cases hlt : k < 90
      · have hks : k < s.size := by omega
        have hb := Lib.hid (bAt_eq s k hks)
        go_wp2_with fail
        rw [hb.out]
        refine (fills_any _ _).mono ?_
        rintro e w' ⟨rfl, rfl⟩
        cases hfk : fillB (bAt s k)
        · have K := Lib.hid (isB_no hlt hfk)
          clear hfk
          go_wp2
          go_ret
          exact ⟨by rw [K.out]; rfl, rfl⟩
        · have K := Lib.hid hfk
          clear hfk
          go_wp2
          go_round
          case rel => exact ⟨k + 1, by omega, by go_num, fun j hj => by
            rcases Nat.lt_or_ge j k with h | h
            · exact Hf.out j h
            · rw [show j = k by omega]; exact K.out⟩
          case measure => simp [intOf]; omega
      · have K := Lib.hid (Hall.out k hk Hf.out (by omega))
        go_wp2
        go_ret
        exact ⟨by rw [K.out]; rfl, rfl⟩
  · have h1 : ((s.size : Int) != 90) = true := by rw [bne_iff_ne]; omega
    have K : Hid (isB s = false) := by show _ = _; simp [isB, hs]
    clear hs
    go_enter Tryz.func112, Tryz.ntmps112
    go_wp2
    go_ret
    exact ⟨by rw [K.out]; rfl, rfl⟩

/-- What stands on a square. -/
def atB (s : ByteArray) (n : Int) : Nat := if isB s = true ∧ sqI n = true then bAt s n.toNat else 46

/-- A text with a byte put. -/
def putS (s : ByteArray) (n c : Nat) : ByteArray := ⟨((s.data.toList).set n (UInt8.ofNat c)).toArray⟩
/-- What Put answers. -/
def putB (s : ByteArray) (n : Int) (c : Nat) : ByteArray := if isB s = true ∧ sqI n = true ∧ fillB c = true then putS s n.toNat c else s
theorem bAt_list (s : ByteArray) (i : Nat) (h : i < s.data.toList.length) : (s.data.toList[i]).toNat = bAt s i := by
  have h' : i < s.size := by simpa using h
  rw [← bAt_eq s i h']
  rfl

/-- A text's bytes in new memory. -/
theorem bytes_of (s : ByteArray) (w : World) (hs : s.size = 90) : ∃ (C : Nat) (W1 : World), (convert 9 64 (.string s)).run Tryz.prog w = .ok (.slice (some ⟨w.heap.size, 0, none⟩) 90 C) W1 ∧
    (∀ i, i < 90 → W1.cell? ⟨w.heap.size, i, none⟩ = some (.int .u8 (bAt s i : Nat))) ∧ (∀ i, i < 90 → W1.frozen? ⟨w.heap.size, i, none⟩ = false) ∧ Below w.heap.size w W1 := by
  have h := run_bytes_of_string (P := Tryz.prog) w 9 64 5 s Tryz.underlying9 Tryz.underlying64 Tryz.underlying5
  generalize hC : grownCap w s.size 0 5 = C at h
  rw [hs] at h
  refine ⟨C, _, h, fun i hi => ?_, fun i hi => ?_, ?_⟩
  · have hd : i < s.data.size := by have : s.data.size = s.size := rfl; omega
    have hc := bytesRow_at s C i hd
    have hb : (World.alloc w.drew (.cells (bytesRow s C) 5 ((bytesRow s C).size, (bytesRow s C).size + 1))).heap[w.heap.size]? = some (.cells (bytesRow s C) 5 ((bytesRow s C).size, (bytesRow s C).size + 1)) := made_block w.drew _
    simp only [World.cell?, hb]
    rw [← bAt_eq s i (by omega)]
    exact hc
  · have hd : i < s.data.size := by have : s.data.size = s.size := rfl; omega
    have hlt : i < (bytesRow s C).size := (Array.getElem?_eq_some_iff.1 (bytesRow_at s C i hd)).1
    have hb : (World.alloc w.drew (.cells (bytesRow s C) 5 ((bytesRow s C).size, (bytesRow s C).size + 1))).heap[w.heap.size]? = some (.cells (bytesRow s C) 5 ((bytesRow s C).size, (bytesRow s C).size + 1)) := made_block w.drew _
    simp only [World.frozen?, hb]
    simp
    omega
  · exact ((Below.refl _ _).drew).alloc (Nat.le_refl _) _
/-- A text of bytes in memory. -/
theorem string_of (W : World) (g C : Nat) (l : List UInt8) (hl : l.length = 90) (h : ∀ i (hi : i < 90), W.cell? ⟨g, i, none⟩ = some (.int .u8 ((l[i]'(by omega)).toNat : Int))) :
    (convert 64 9 (.slice (some ⟨g, 0, none⟩) 90 C)).run Tryz.prog W = .ok (.string ⟨l.toArray⟩) W := by
  have h1 := run_convert_bytes_back (P := Tryz.prog) W 64 9 5 ⟨g, 0, none⟩ C l Tryz.underlying64 Tryz.underlying5 Tryz.underlying9 (fun j hj => by
    rw [show (Addr.add ⟨g, 0, none⟩ j) = ⟨g, j, none⟩ by simp [Addr.add]; omega]
    exact h j (by omega))
  rw [hl] at h1
  exact h1

end Go.Proofs.YtpogpjebhnoncabGreatDoor

namespace Go.Proofs.YtpogpjebhnoncabGreatDoor
open Go.RowKit Go.Shelf
open M (S)
open M.S

/-- The squares at which something holds, as a set. -/
def setOf (p : Nat → Bool) (k : Nat) : S := (List.range k).foldl (fun t i => if p i then t.put (i : Int) else t) S.empty
theorem setOf_succ (p : Nat → Bool) (k : Nat) : setOf p (k + 1) = if p k then (setOf p k).put (k : Int) else setOf p k := by
  unfold setOf
  rw [List.range_succ, List.foldl_append]
  rfl
theorem setOf_clean (p : Nat → Bool) : ∀ k, (setOf p k).Clean
  | 0 => empty_clean
  | k + 1 => by
    rw [setOf_succ]
    split
    · exact put_clean _ _
    · exact setOf_clean p k
theorem has_setOf (p : Nat → Bool) (i : Nat) (hi : i < 90) : ∀ k, (setOf p k).has i = (decide (i < k) && p i)
  | 0 => by rw [show setOf p 0 = S.empty from rfl, has_empty]; simp
  | k + 1 => by
    rw [setOf_succ]
    by_cases e : i = k
    · subst e
      cases hp : p i
      · simp [has_setOf p i hi i]
      · simp [has_put, hi]
    · have h1 : decide (i < k + 1) = decide (i < k) := by rw [decide_eq_decide]; omega
      rw [h1]
      split
      · rw [has_put, has_setOf p i hi k, decide_eq_false (p := ((k : Nat) : Int) = (i : Int) ∧ i < 90) (by omega), Bool.or_false]
      · exact has_setOf p i hi k
/-- The numbers below k at which p holds. -/
def trues (p : Nat → Bool) (k : Nat) : List Int := ((List.range k).filter p).map fun i : Nat => (i : Int)
theorem sqs_setOf (p : Nat → Bool) : (setOf p 90).sqs.map (fun i => (i.val : Int)) = trues p 90 := by
  have h : (setOf p 90).sqs.map Fin.val = (List.range 90).filter p := by
    rw [S.sqs_val]
    apply List.filter_congr
    intro i hi
    have hi' := List.mem_range.1 hi
    rw [has_setOf p i hi' 90, decide_eq_true hi', Bool.true_and]
  rw [trues, ← h, List.map_map]
  rfl
/-- A call's answer is a slice of the numbers l. -/
def GivesL (w : World) (l : List Int) (e : Ending) (w' : World) : Prop := ∃ A c, e = .returned (.slice A l.length c) ∧ Rd w' A (l.map iv) ∧ Below w.heap.size w w'

/-- A piece of a side? -/
def ofSide (x : Nat) (side : Int) : Bool := (x != 46) && (sideN x == side)

/-- The squares on which a byte stands. -/
def findL (s : ByteArray) (c : Nat) : List Int := if isB s then trues (fun k => bAt s k == c) 90 else []
/-- The squares on which a piece of a side stands. -/
def piecesL (s : ByteArray) (side : Int) : List Int := if isB s then trues (fun k => ofSide (bAt s k) side) 90 else []
theorem GivesL.back {w w0 : World} {l : List Int} {e : Ending} {w' : World} (h : GivesL w0 l e w') (hb : Below w.heap.size w w0) : GivesL w l e w' := by
  obtain ⟨A, c, he, hr, hb1⟩ := h
  exact ⟨A, c, he, hr, hb.trans (hb1.mono hb.size)⟩

/-- A board from the other side: its first k bytes. -/
def turnL (s : ByteArray) (k : Nat) : List UInt8 := (List.range k).map fun i => UInt8.ofNat (swapN (bAt s (89 - i)))
/-- What Turn answers. -/
def turnB (s : ByteArray) : ByteArray := if isB s then ⟨(turnL s 90).toArray⟩ else ByteArray.empty
theorem swapN_lt (c : Nat) (h : c < 256) : swapN c < 256 := by
  unfold swapN
  split
  · rename_i h1
    simp only [isRed, List.contains_iff_mem, List.mem_cons, List.not_mem_nil, or_false] at h1
    omega
  · split <;> omega
end Go.Proofs.YtpogpjebhnoncabGreatDoor

namespace Go.Proofs.YtpogpjebhnoncabGreatDoor
open Go.RowKit Go.Shelf
open M (S)

theorem fill_side (c : Nat) : fillB c = (c == 46 || decide (0 ≤ sideN c)) := by
  unfold fillB sideN
  cases isRed c <;> cases isBlack c <;> simp
theorem sideN_ge (c : Nat) : -1 ≤ sideN c ∧ sideN c ≤ 1 := by
  unfold sideN
  split
  · omega
  · split <;> omega

set_option maxHeartbeats 1000000 in
theorem ris_any (s : ByteArray) (w : World) : Calls Tryz.prog 56 #[.string s] w fun e w' => e = .returned (.bool (isB s)) ∧ w = w' := by
  by_cases hs : s.size = 90
  · have h1 : ((s.size : Int) != 90) = false := by rw [hs]; rfl
    have h90 : 90 ≤ s.size := by omega
    have hall : ∀ k, k ≤ 90 → (∀ j, j < k → fillB (bAt s j) = true) → k = 90 → isB s = true := fun k _ h e => by
      subst e
      simp only [isB, Bool.and_eq_true, decide_eq_true_eq, List.all_eq_true]
      exact ⟨hs, fun j hj => h j (List.mem_range.1 hj)⟩
    have Hall := Lib.hid hall
    clear hs hall
    go_enter Tryz.func56, Tryz.ntmps56
    go_wp2_with fail
    go_loop [3] (fun i => ∃ k : Nat, k ≤ 90 ∧ i = .int .i64 k ∧ ∀ j, j < k → fillB (bAt s j) = true) (fun i => 90 - (intOf i).toNat)
    case atStart => exact ⟨0, by omega, rfl, fun j hj => by omega⟩
    case round =>
      obtain ⟨k, hk, rfl, hf⟩ := hrel
      have Hf := Lib.hid hf
      clear hf
      by_cases hlt : k < 90
      · have hks : k < s.size := by omega
        obtain ⟨x, hx⟩ : ∃ x, bAt s k = x := ⟨_, rfl⟩
        have hbk : s[k].toNat = x := (bAt_eq s k hks).trans hx
        have Hx := Lib.hid hx
        clear hx
        have step : fillB x = true → ∀ j, j < k + 1 → fillB (bAt s j) = true := fun h j hj => by
          rcases Nat.lt_or_ge j k with h' | h'
          · exact Hf.out j h'
          · rw [show j = k by omega, Hx.out]; exact h
        by_cases h46 : x = 46
        · have e0 : ((x : Int) != 46) = false := by rw [h46]; rfl
          have K := Lib.hid (step (by rw [h46]; rfl))
          clear step h46
          go_wp2
          go_round
          case rel => exact ⟨k + 1, by omega, by go_num, K.out⟩
          case measure => simp [intOf]; omega
        · have e0 : ((x : Int) != 46) = true := by rw [bne_iff_ne]; omega
          by_cases hsd : 0 ≤ sideN x
          · have K := Lib.hid (step (by rw [fill_side, decide_eq_true hsd, Bool.or_true]))
            have e1 : decide (sideN x < 0) = false := by simp; omega
            clear step h46
            go_wp2_with fail
            refine (rside_any x _).mono ?_
            rintro e w' ⟨rfl, rfl⟩
            go_wp2
            go_round
            case rel => exact ⟨k + 1, by omega, by go_num, K.out⟩
            case measure => simp [intOf]; omega
          · have K : Hid (isB s = false) := isB_no (k := k) hlt (by rw [Hx.out, fill_side, decide_eq_false hsd]; simp [h46])
            have e1 : decide (sideN x < 0) = true := by simp; omega
            clear step h46
            go_wp2_with fail
            refine (rside_any x _).mono ?_
            rintro e w' ⟨rfl, rfl⟩
            go_wp2
            go_ret
            exact ⟨by rw [K.out]; rfl, rfl⟩
      · have K := Lib.hid (Hall.out k hk Hf.out (by omega))
        go_wp2
        go_ret
        exact ⟨by rw [K.out]; rfl, rfl⟩
  · have h1 : ((s.size : Int) != 90) = true := by rw [bne_iff_ne]; omega
    have K : Hid (isB s = false) := by show _ = _; simp [isB, hs]
    clear hs
    go_enter Tryz.func56, Tryz.ntmps56
    go_wp2
    go_ret
    exact ⟨by rw [K.out]; rfl, rfl⟩


/-- A call's answer is the value v; the world is as it was. -/
def Says (w : World) (v : Value) (e : Ending) (w' : World) : Prop := e = .returned v ∧ w = w'
theorem is_is (s : ByteArray) (b : Bool) (w : World) (h : isB s = b) : Calls Tryz.prog 112 #[.string s] w (Says w (.bool b)) := by subst h; exact is_any s w
theorem side_is (c : Nat) (k : Int) (w : World) (h : sideN c = k) : Calls Tryz.prog 158 #[.int .u8 (c : Int)] w (Says w (.int .i64 k)) := by subst h; exact side_any c w
theorem kind_is (c k : Nat) (w : World) (h : kindN c = k) : Calls Tryz.prog 138 #[.int .u8 (c : Int)] w (Says w (.int .u8 (k : Int))) := by subst h; exact kind_any c w
theorem file_is (n k : Int) (w : World) (h : fileI n = k) : Calls Tryz.prog 75 #[.int .i64 n] w (Says w (.int .i64 k)) := by subst h; exact file_any n w
theorem rank_is (n k : Int) (w : World) (h : rankI n = k) : Calls Tryz.prog 76 #[.int .i64 n] w (Says w (.int .i64 k)) := by subst h; exact rank_any n w
theorem square_is (f r k : Int) (w : World) (h : squareI f r = k) : Calls Tryz.prog 144 #[.int .i64 f, .int .i64 r] w (Says w (.int .i64 k)) := by subst h; exact square_any f r w
/-- A call's answer is a slice of n numbers, those of l. -/
def GivesN (w : World) (l : List Int) (n : Nat) (e : Ending) (w' : World) : Prop := ∃ A c, e = .returned (.slice A n c) ∧ Rd w' A (l.map iv) ∧ Below w.heap.size w w'
def Gives (w : World) (v : Value) (e : Ending) (w' : World) : Prop := e = .returned v ∧ Below w.heap.size w w'
theorem rd_lit {w : World} {g : Nat} {t : TypeId} {xs : List Int} (h : Blk w g t (xs.map iv).toArray) : Rd w (some ⟨g, 0, none⟩) (xs.map iv) := fun j u hu => by
  refine ⟨_, rfl, ?_⟩
  rw [show (Addr.add ⟨g, 0, none⟩ j) = ⟨g, j, none⟩ by simp [Addr.add]; omega, h.cell j]
  simpa using hu
theorem below_made {w w' : World} {o : Obj} (hb : Below (w.alloc o).heap.size (w.alloc o) w') : Below w.heap.size w w' := ((Below.refl _ _).alloc (Nat.le_refl _) _).trans (hb.mono (by simp))
end Go.Proofs.YtpogpjebhnoncabGreatDoor

namespace Go.Proofs.YtpogpjebhnoncabGreatDoor
open Go.RowKit Go.Shelf
open M (S)

theorem swap_swap (c : Nat) : swapN (swapN c) = c := by
  rcases byte_cases c with ⟨kb, kr, _⟩ | rfl | rfl | rfl | rfl | rfl | rfl | rfl | rfl | rfl | rfl | rfl | rfl | rfl | rfl
  · have : swapN c = c := by simp [swapN, kb, kr]
    rw [this, this]
  all_goals rfl
theorem swap_fill (c : Nat) : fillB (swapN c) = fillB c := by
  rcases byte_cases c with ⟨kb, kr, _⟩ | rfl | rfl | rfl | rfl | rfl | rfl | rfl | rfl | rfl | rfl | rfl | rfl | rfl | rfl
  · have : swapN c = c := by simp [swapN, kb, kr]
    rw [this]
  all_goals rfl
theorem swap_kind (c : Nat) : kindN (swapN c) = kindN c := by
  rcases byte_cases c with ⟨kb, kr, _⟩ | rfl | rfl | rfl | rfl | rfl | rfl | rfl | rfl | rfl | rfl | rfl | rfl | rfl | rfl
  · have : swapN c = c := by simp [swapN, kb, kr]
    rw [this]
  all_goals rfl
theorem swap_side (c : Nat) (h : sideN c ≠ -1) : sideN (swapN c) = 1 - sideN c := by
  rcases byte_cases c with ⟨kb, kr, _⟩ | rfl | rfl | rfl | rfl | rfl | rfl | rfl | rfl | rfl | rfl | rfl | rfl | rfl | rfl
  · exact absurd (by simp [sideN, kb, kr]) h
  all_goals rfl
theorem swap_of (c : Nat) : ofSide (swapN c) 0 = ofSide c 1 := by
  rcases byte_cases c with ⟨kb, kr, _⟩ | rfl | rfl | rfl | rfl | rfl | rfl | rfl | rfl | rfl | rfl | rfl | rfl | rfl | rfl
  · have : swapN c = c := by simp [swapN, kb, kr]
    rw [this]
    simp [ofSide, sideN, kb, kr]
  all_goals rfl

theorem size_mk (l : List UInt8) : (⟨l.toArray⟩ : ByteArray).size = l.length := by simp [ByteArray.size]
theorem bAt_mk (l : List UInt8) (i : Nat) (h : i < l.length) : bAt ⟨l.toArray⟩ i = (l[i]).toNat := by
  have h' : i < (⟨l.toArray⟩ : ByteArray).size := by rw [size_mk]; exact h
  rw [← bAt_eq _ _ h']
  rfl
theorem text_ext {s t : ByteArray} (h : s.size = t.size) (hb : ∀ i, i < s.size → bAt s i = bAt t i) : s = t := by
  apply ByteArray.ext
  apply Array.ext
  · exact h
  · intro i h1 h2
    have h3 := hb i h1
    rw [← bAt_eq s i h1, ← bAt_eq t i h2] at h3
    exact UInt8.toNat_inj.1 h3
theorem isB_of {s : ByteArray} (hs : s.size = 90) (h : ∀ i, i < 90 → fillB (bAt s i) = true) : isB s = true := by
  simp only [isB, Bool.and_eq_true, decide_eq_true_eq, List.all_eq_true]
  exact ⟨hs, fun j hj => h j (List.mem_range.1 hj)⟩

theorem turn_size {s : ByteArray} (h : isB s = true) : (turnB s).size = 90 := by
  simp only [turnB, h, if_true]
  rw [size_mk]
  simp [turnL]
theorem turn_at {s : ByteArray} (h : isB s = true) (i : Nat) (hi : i < 90) : bAt (turnB s) i = swapN (bAt s (89 - i)) := by
  simp only [turnB, h, if_true]
  rw [bAt_mk _ i (by simp [turnL, hi])]
  simp only [turnL, List.getElem_map, List.getElem_range]
  rw [UInt8.toNat_ofNat_of_lt' (swapN_lt _ (bAt_lt s _))]
theorem turn_is_board {s : ByteArray} (h : isB s = true) : isB (turnB s) = true :=
  isB_of (turn_size h) fun i hi => by rw [turn_at h i hi, swap_fill]; exact isB_fill h _ (by omega)
theorem turn_turn {s : ByteArray} (h : isB s = true) : turnB (turnB s) = s := by
  apply text_ext
  · rw [turn_size (turn_is_board h), isB_size h]
  · intro i hi
    rw [turn_size (turn_is_board h)] at hi
    rw [turn_at (turn_is_board h) i hi, turn_at h _ (by omega), swap_swap, show 89 - (89 - i) = i by omega]
theorem trues_back (p : Nat → Bool) : (trues (fun k => p (89 - k)) 90).length = (trues p 90).length := by
  unfold trues
  rw [List.length_map, List.length_map]
  have h : (List.range 90).map (fun k => 89 - k) = (List.range 90).reverse := by decide +kernel
  have h1 : ((List.range 90).filter fun k => p (89 - k)).length = (((List.range 90).map fun k => 89 - k).filter p).length := by
    rw [List.filter_map, List.length_map]
    rfl
  rw [h1, h, List.filter_reverse, List.length_reverse]
theorem trues_congr {p q : Nat → Bool} (h : ∀ k, k < 90 → p k = q k) : trues p 90 = trues q 90 := by
  unfold trues
  rw [List.filter_congr fun k hk => h k (List.mem_range.1 hk)]
theorem turn_pieces {s : ByteArray} (h : isB s = true) : (piecesL (turnB s) 0).length = (piecesL s 1).length := by
  unfold piecesL
  rw [turn_is_board h, h, if_pos rfl, if_pos rfl]
  rw [trues_congr (p := fun k => ofSide (bAt (turnB s) k) 0) (q := fun k => ofSide (bAt s (89 - k)) 1) (fun k hk => by rw [turn_at h k hk, swap_of])]
  exact trues_back fun k => ofSide (bAt s k) 1

theorem put_size (s : ByteArray) (n c : Nat) : (putS s n c).size = s.size := by
  unfold putS
  rw [size_mk]
  simp
theorem put_at (s : ByteArray) (n c i : Nat) (hc : c < 256) (hi : i < s.size) : bAt (putS s n c) i = if i = n then c else bAt s i := by
  unfold putS
  have hl : i < s.data.toList.length := by simpa using hi
  rw [bAt_mk _ i (by rw [List.length_set]; exact hl)]
  by_cases e : i = n
  · subst e
    rw [List.getElem_set_self, if_pos rfl, UInt8.toNat_ofNat_of_lt' (by omega)]
  · rw [List.getElem_set_ne (fun h => e h.symm), if_neg e, bAt_list]
theorem put_is_board {s : ByteArray} (h : isB s = true) (n c : Nat) (hc : c < 256) (hf : fillB c = true) : isB (putS s n c) = true :=
  isB_of (by rw [put_size, isB_size h]) fun i hi => by
    rw [put_at s n c i hc (by rw [isB_size h]; exact hi)]
    split
    · exact hf
    · exact isB_fill h i hi
theorem put_back (s : ByteArray) (n c : Nat) (hc : c < 256) : putS (putS s n c) n (bAt s n) = s := by
  apply text_ext
  · rw [put_size, put_size]
  · intro i hi
    rw [put_size, put_size] at hi
    rw [put_at _ _ _ _ (bAt_lt s n) (by rw [put_size]; exact hi), put_at _ _ _ _ hc hi]
    split
    · rename_i e; rw [e]
    · rfl

end Go.Proofs.YtpogpjebhnoncabGreatDoor

namespace Go.Proofs.YtpogpjebhnoncabGreatDoor
open Go.RowKit Go.Shelf
open M (S)

theorem below_app {w wr w1 : World} {n₀ : Nat} {e : TypeId} {size k : Nat} {v : Value} {xs : List Value} {o : Obj} (hB : Below n₀ w wr) (hn : n₀ ≤ wr.heap.size) (hown : wr.ownsRow n₀ e size v k xs) (hgrow : (wr.alloc o).grownBy w1 v.ownBlock) : Below n₀ w w1 := by
  refine (hB.alloc hn o).grown hgrow (by simp; omega) fun j ej => ?_
  rcases hown.2 with ⟨rfl, _⟩ | ⟨g, cap, cur, rfl, hb, _, _⟩
  · simp [Value.ownBlock] at ej
  · obtain rfl : g = j := by simpa [Value.ownBlock] using ej
    exact hb
theorem trues_succ (p : Nat → Bool) (k : Nat) : trues p (k + 1) = if p k then trues p k ++ [(k : Int)] else trues p k := by
  unfold trues
  rw [List.range_succ, List.filter_append]
  cases h : p k <;> simp [h]
theorem trues_le (p : Nat → Bool) (k : Nat) : (trues p k).length ≤ k := by
  unfold trues
  rw [List.length_map]
  exact Nat.le_trans (List.length_filter_le _ _) (by simp)

set_option maxRecDepth 100000 in
set_option maxHeartbeats 2000000 in
theorem rfind_any (s : ByteArray) (c : Nat) (w : World) : Calls Tryz.prog 57 #[.string s, .int .u8 (c : Int)] w (GivesL w (findL s c)) := by
  unfold findL
  cases hb : isB s
  · have B := Lib.hid hb
    rw [if_neg (by simp)]
    clear hb
    go_enter Tryz.func57, Tryz.ntmps57
    go_wp2_with fail
    refine (ris_any _ _).mono ?_
    rintro e w' ⟨rfl, rfl⟩
    rw [B.out]
    go_wp2
    go_ret
    exact ⟨none, 0, rfl, fun j u hu => by simp at hu, Below.refl _ _⟩
  · have hs := isB_size hb
    have hs1 : 90 ≤ s.size := by omega
    have hs2 : (s.size : Int) = 90 := by omega
    have B := Lib.hid hb
    rw [if_pos rfl]
    clear hb hs
    obtain ⟨i0, hi, hz0, hz1, hz2⟩ := info_parts info_int
    obtain ⟨p, hp⟩ : ∃ p : Nat → Bool, p = fun k => bAt s k == c := ⟨_, rfl⟩
    rw [← hp]
    have Hp := Lib.hid hp
    clear hp
    go_enter Tryz.func57, Tryz.ntmps57
    go_wp2_with fail
    refine (ris_any _ _).mono ?_
    rintro e w' ⟨rfl, rfl⟩
    rw [B.out]
    go_wp2_with fail
    go_loopw [5, 6] (fun v i wr => ∃ k : Nat, k ≤ 90 ∧ i = .int .i64 k ∧ wr.ownsRow w.heap.size 3 1 v (trues p k).length ((trues p k).map iv) ∧ Below w.heap.size w wr) (fun _ i _ => 90 - (intOf i).toNat)
    case atStart => exact ⟨0, by omega, rfl, by simpa [trues] using World.ownsRow_nil w w.heap.size 3 1, Below.refl _ _⟩
    case round =>
      obtain ⟨k, hk, rfl, hown, hB⟩ := hrel
      have hbs := hB.size
      have hle := trues_le p k
      by_cases hlt : k < 90
      · have hks : k < s.size := by omega
        have hst := trues_succ p k
        obtain ⟨x, hx⟩ : ∃ x, bAt s k = x := ⟨_, rfl⟩
        have hbk : s[k].toNat = x := (bAt_eq s k hks).trans hx
        have hpx : p k = (x == c) := by rw [Hp.out, ← hx]
        rw [hpx] at hst
        clear hx hpx
        cases hxc : x == c
        · rw [hxc] at hst
          have e0 : ((x : Int) == (c : Int)) = false := by
            rw [beq_eq_false_iff_ne] at hxc ⊢
            omega
          have Hs := Lib.hid hst
          clear hxc hst
          go_wp2
          go_roundw
          case rel => exact ⟨k + 1, by omega, by go_num, by rw [Hs.out]; exact hown, hB⟩
          case measure => simp [intOf]; omega
        · rw [hxc] at hst
          have e0 : ((x : Int) == (c : Int)) = true := by
            rw [beq_iff_eq] at hxc ⊢
            omega
          have Hs := Lib.hid hst
          clear hxc hst
          go_wp2_with (at_builtin; refine wpList_append_own _ rfl _ _ 85 rfl w.heap.size 3 i0 (.int .i64 0) 1 8 Tryz.underlying85 hi hz0 hz1 hz2 rfl (by decide) _ _ _ rfl (hown.alloc _) ⟨wr.heap.size, 0, none⟩ 1 1 [iv k] rfl rfl (cell_one_new _ _ _) (by simp [Value.oneCell']) (by unfold maxLen; omega) (by omega) (by simp; omega) ?_; intro v' w1 hown' hgrow _)
          go_roundw
          case rel => exact ⟨k + 1, by omega, by go_num, by rw [Hs.out]; simpa using hown', below_app hB hbs hown hgrow⟩
          case measure => simp [intOf]; omega
      · obtain rfl : k = 90 := by omega
        obtain ⟨A', c', rfl⟩ := own_slice hown
        go_wp2
        go_ret
        exact ⟨A', c', rfl, Rd.own hown, hB⟩

theorem pieces_neg {s : ByteArray} {side : Int} (h : side < 0) : piecesL s side = [] := by
  unfold piecesL
  split
  · rename_i hb
    unfold trues
    rw [List.filter_eq_nil_iff.2, List.map_nil]
    intro k hk
    have hf := isB_fill hb k (List.mem_range.1 hk)
    rw [fill_side] at hf
    simp only [ofSide, Bool.and_eq_true, bne_iff_ne, beq_iff_eq, not_and]
    intro h46 he
    simp only [Bool.or_eq_true, beq_iff_eq, h46, false_or, decide_eq_true_eq] at hf
    omega
  · rfl
theorem of_side {c : Nat} {side : Int} (h : 0 ≤ side) : ofSide c side = (sideN c == side) := by
  unfold ofSide
  by_cases e : c = 46
  · subst e
    rw [show sideN 46 = -1 from rfl, show ((-1 : Int) == side) = false by rw [beq_eq_false_iff_ne]; omega]
    rfl
  · rw [show (c != 46) = true by rw [bne_iff_ne]; exact e, Bool.true_and]
end Go.Proofs.YtpogpjebhnoncabGreatDoor

namespace Go.Proofs.YtpogpjebhnoncabGreatDoor
open Go.RowKit Go.Shelf
open M (S)

/-- A text of one byte. -/
def one (c : Nat) : ByteArray := ⟨[UInt8.ofNat c].toArray⟩
theorem one_of (W : World) (g C c : Nat) (hc : c < 256) (h : W.cell? ⟨g, 0, none⟩ = some (.int .u8 (c : Int))) :
    (convert 64 9 (.slice (some ⟨g, 0, none⟩) 1 C)).run Tryz.prog W = .ok (.string (one c)) W :=
  run_convert_bytes_back (P := Tryz.prog) W 64 9 5 ⟨g, 0, none⟩ C [UInt8.ofNat c] Tryz.underlying64 Tryz.underlying5 Tryz.underlying9 (fun j hj => by
    obtain rfl : j = 0 := by simpa using hj
    rw [show (Addr.add ⟨g, 0, none⟩ 0) = ⟨g, 0, none⟩ by simp [Addr.add], h]
    simp only [List.getElem_cons_zero]
    rw [UInt8.toNat_ofNat_of_lt' (by omega)])
theorem put_cut (s : ByteArray) (n c : Nat) (h : n < s.size) : putS s n c = (s.extract 0 n ++ one c) ++ s.extract (n + 1) s.size := by
  obtain ⟨⟨l⟩⟩ := s
  have hl : n < l.length := h
  unfold putS one
  rw [ByteArray.extract_mk, ByteArray.extract_mk, ByteArray.mk_append_mk, ByteArray.mk_append_mk]
  congr 1
  rw [List.set_eq_take_append_cons_drop, if_pos hl]
  rw [size_mk, List.take_of_length_le (l := List.drop (n + 1) l) (by simp)]
  simp

theorem swap_facts (c : Nat) (h : 0 ≤ sideN c) : (sideN c = 0 ∧ kindN c = c ∧ swapN c = c + 32 ∧ 65 ≤ c ∧ c ≤ 122) ∨ (sideN c = 1 ∧ swapN c = kindN c) := by
  rcases byte_cases c with ⟨kb, kr, _⟩ | rfl | rfl | rfl | rfl | rfl | rfl | rfl | rfl | rfl | rfl | rfl | rfl | rfl | rfl
  · have : sideN c = -1 := by simp [sideN, kb, kr]
    omega
  all_goals decide
theorem swap_none {c : Nat} (h : ¬ 0 ≤ sideN c) : swapN c = c := by
  rcases byte_cases c with ⟨kb, kr, _⟩ | rfl | rfl | rfl | rfl | rfl | rfl | rfl | rfl | rfl | rfl | rfl | rfl | rfl | rfl
  · simp [swapN, kb, kr]
  all_goals exact absurd (by decide) h
theorem turnL_succ (s : ByteArray) (k : Nat) : turnL s (k + 1) = turnL s k ++ [UInt8.ofNat (swapN (bAt s (89 - k)))] := by
  unfold turnL
  rw [List.range_succ, List.map_append]
  rfl
theorem turnL_len (s : ByteArray) (k : Nat) : (turnL s k).length = k := by simp [turnL]

end Go.Proofs.YtpogpjebhnoncabGreatDoor
