/- What is told of bytes and squares, for every byte and every number: a piece's kind and side; file, rank, square. -/
import Derived.Test.YtbfkkedcjodceaaGreatDoorRows
import Derived.WalkKit
import Derived.WalkSpells
import Derived.WalkLawsBesides
import Derived.Outline
import Derived.Lib.Hide
namespace Go.Proofs.YtbfkkedcjodceaaGreatDoor
open Go.RowKit

def isBlack (c : Nat) : Bool := [107, 97, 98, 110, 114, 99, 112].contains c
def isRed (c : Nat) : Bool := [75, 65, 66, 78, 82, 67, 80].contains c
/-- A piece's red letter, 0 of what is none. -/
def kindN (c : Nat) : Nat := if isBlack c then c - 32 else if isRed c then c else 0
/-- 0 of red's pieces, 1 of black's, else -1. -/
def sideN (c : Nat) : Int := if isRed c then 0 else if isBlack c then 1 else -1
def fillB (c : Nat) : Bool := c == 46 || isRed c || isBlack c
/-- The other side's piece of the same kind. -/
def swapN (c : Nat) : Nat := if isRed c then c + 32 else if isBlack c then c - 32 else c
theorem byte_cases (c : Nat) : (isBlack c = false ∧ isRed c = false ∧ c ≠ 107 ∧ c ≠ 97 ∧ c ≠ 98 ∧ c ≠ 110 ∧ c ≠ 114 ∧ c ≠ 99 ∧ c ≠ 112 ∧ c ≠ 75 ∧ c ≠ 65 ∧ c ≠ 66 ∧ c ≠ 78 ∧ c ≠ 82 ∧ c ≠ 67 ∧ c ≠ 80) ∨ c = 107 ∨ c = 97 ∨ c = 98 ∨ c = 110 ∨ c = 114 ∨ c = 99 ∨ c = 112 ∨ c = 75 ∨ c = 65 ∨ c = 66 ∨ c = 78 ∨ c = 82 ∨ c = 67 ∨ c = 80 := by
  by_cases h : c ∈ [107, 97, 98, 110, 114, 99, 112, 75, 65, 66, 78, 82, 67, 80]
  · refine .inr ?_
    simp only [List.mem_cons, List.not_mem_nil, or_false] at h
    omega
  · refine .inl ?_
    simp only [List.mem_cons, List.not_mem_nil, or_false, not_or] at h
    obtain ⟨h107, h97, h98, h110, h114, h99, h112, h75, h65, h66, h78, h82, h67, h80⟩ := h
    refine ⟨?_, ?_, h107, h97, h98, h110, h114, h99, h112, h75, h65, h66, h78, h82, h67, h80⟩
    · simp [isBlack, *]
    · simp [isRed, *]

set_option maxHeartbeats 400000 in
theorem kind_any (c : Nat) (w : World) : Calls Tryz.prog 66 #[.int .u8 (c : Int)] w fun e w' => e = .returned (.int .u8 (kindN c : Nat)) ∧ w = w' := by
  rcases byte_cases c with ⟨kb, kr, h107, h97, h98, h110, h114, h99, h112, h75, h65, h66, h78, h82, h67, h80⟩ | rfl | rfl | rfl | rfl | rfl | rfl | rfl | rfl | rfl | rfl | rfl | rfl | rfl | rfl
  · have K : Hid (kindN c = 0) := by show _ = _; simp [kindN, kb, kr]
    clear kb kr
    have e107 : ((c : Int) == 107) = false := by rw [beq_eq_false_iff_ne]; omega
    have e97 : ((c : Int) == 97) = false := by rw [beq_eq_false_iff_ne]; omega
    have e98 : ((c : Int) == 98) = false := by rw [beq_eq_false_iff_ne]; omega
    have e110 : ((c : Int) == 110) = false := by rw [beq_eq_false_iff_ne]; omega
    have e114 : ((c : Int) == 114) = false := by rw [beq_eq_false_iff_ne]; omega
    have e99 : ((c : Int) == 99) = false := by rw [beq_eq_false_iff_ne]; omega
    have e112 : ((c : Int) == 112) = false := by rw [beq_eq_false_iff_ne]; omega
    have e75 : ((c : Int) == 75) = false := by rw [beq_eq_false_iff_ne]; omega
    have e65 : ((c : Int) == 65) = false := by rw [beq_eq_false_iff_ne]; omega
    have e66 : ((c : Int) == 66) = false := by rw [beq_eq_false_iff_ne]; omega
    have e78 : ((c : Int) == 78) = false := by rw [beq_eq_false_iff_ne]; omega
    have e82 : ((c : Int) == 82) = false := by rw [beq_eq_false_iff_ne]; omega
    have e67 : ((c : Int) == 67) = false := by rw [beq_eq_false_iff_ne]; omega
    have e80 : ((c : Int) == 80) = false := by rw [beq_eq_false_iff_ne]; omega
    clear h107 h97 h98 h110 h114 h99 h112 h75 h65 h66 h78 h82 h67 h80
    go_enter Tryz.func66, Tryz.ntmps66
    go_wp2
    go_ret
    exact ⟨by rw [K.out]; rfl, rfl⟩
  all_goals
    go_enter Tryz.func66, Tryz.ntmps66
    go_wp2
    go_ret
    exact ⟨rfl, rfl⟩
set_option maxHeartbeats 400000 in
theorem rside_any (c : Nat) (w : World) : Calls Tryz.prog 42 #[.int .u8 (c : Int)] w fun e w' => e = .returned (.int .i64 (sideN c)) ∧ w = w' := by
  rcases byte_cases c with ⟨kb, kr, h107, h97, h98, h110, h114, h99, h112, h75, h65, h66, h78, h82, h67, h80⟩ | rfl | rfl | rfl | rfl | rfl | rfl | rfl | rfl | rfl | rfl | rfl | rfl | rfl | rfl
  · have K : Hid (sideN c = -1) := by show _ = _; simp [sideN, kb, kr]
    clear kb kr
    have e107 : ((c : Int) == 107) = false := by rw [beq_eq_false_iff_ne]; omega
    have e97 : ((c : Int) == 97) = false := by rw [beq_eq_false_iff_ne]; omega
    have e98 : ((c : Int) == 98) = false := by rw [beq_eq_false_iff_ne]; omega
    have e110 : ((c : Int) == 110) = false := by rw [beq_eq_false_iff_ne]; omega
    have e114 : ((c : Int) == 114) = false := by rw [beq_eq_false_iff_ne]; omega
    have e99 : ((c : Int) == 99) = false := by rw [beq_eq_false_iff_ne]; omega
    have e112 : ((c : Int) == 112) = false := by rw [beq_eq_false_iff_ne]; omega
    have e75 : ((c : Int) == 75) = false := by rw [beq_eq_false_iff_ne]; omega
    have e65 : ((c : Int) == 65) = false := by rw [beq_eq_false_iff_ne]; omega
    have e66 : ((c : Int) == 66) = false := by rw [beq_eq_false_iff_ne]; omega
    have e78 : ((c : Int) == 78) = false := by rw [beq_eq_false_iff_ne]; omega
    have e82 : ((c : Int) == 82) = false := by rw [beq_eq_false_iff_ne]; omega
    have e67 : ((c : Int) == 67) = false := by rw [beq_eq_false_iff_ne]; omega
    have e80 : ((c : Int) == 80) = false := by rw [beq_eq_false_iff_ne]; omega
    clear h107 h97 h98 h110 h114 h99 h112 h75 h65 h66 h78 h82 h67 h80
    go_enter Tryz.func42, Tryz.ntmps42
    go_wp2
    go_ret
    exact ⟨by rw [K.out]; rfl, rfl⟩
  all_goals
    go_enter Tryz.func42, Tryz.ntmps42
    go_wp2
    go_ret
    exact ⟨rfl, rfl⟩
set_option maxHeartbeats 1000000 in
theorem side_any (c : Nat) (w : World) : Calls Tryz.prog 94 #[.int .u8 (c : Int)] w fun e w' => e = .returned (.int .i64 (sideN c)) ∧ w = w' := by
  rcases byte_cases c with ⟨kb, kr, h107, h97, h98, h110, h114, h99, h112, h75, h65, h66, h78, h82, h67, h80⟩ | rfl | rfl | rfl | rfl | rfl | rfl | rfl | rfl | rfl | rfl | rfl | rfl | rfl | rfl
  · have K : Hid (sideN c = -1) := by show _ = _; simp [sideN, kb, kr]
    have K0 : Hid (kindN c = 0) := by show _ = _; simp [kindN, kb, kr]
    clear kb kr h107 h97 h98 h110 h114 h99 h112 h75 h65 h66 h78 h82 h67 h80
    go_enter Tryz.func94, Tryz.ntmps94
    go_wp2_with fail
    refine (kind_any c _).mono ?_
    rintro e w' ⟨rfl, rfl⟩
    rw [K0.out]
    go_wp2
    go_ret
    exact ⟨by rw [K.out]; rfl, rfl⟩
  all_goals
    go_enter Tryz.func94, Tryz.ntmps94
    go_wp2
    go_ret
    exact ⟨rfl, rfl⟩
set_option maxHeartbeats 1000000 in
theorem fills_any (c : Nat) (w : World) : Calls Tryz.prog 95 #[.int .u8 (c : Int)] w fun e w' => e = .returned (.bool (fillB c)) ∧ w = w' := by
  rcases byte_cases c with ⟨kb, kr, h107, h97, h98, h110, h114, h99, h112, h75, h65, h66, h78, h82, h67, h80⟩ | rfl | rfl | rfl | rfl | rfl | rfl | rfl | rfl | rfl | rfl | rfl | rfl | rfl | rfl
  · have K : Hid (fillB c = (c == 46)) := by show _ = _; simp [fillB, kb, kr]
    have K0 : Hid (kindN c = 0) := by show _ = _; simp [kindN, kb, kr]
    clear kb kr h107 h97 h98 h110 h114 h99 h112 h75 h65 h66 h78 h82 h67 h80
    by_cases h : c = 46
    · have E : Hid ((c == 46) = true) := by show _ = _; simp [h]
      have e0 : ((c : Int) == 46) = true := by rw [beq_iff_eq]; omega
      clear h
      go_enter Tryz.func95, Tryz.ntmps95
      go_wp2
      go_ret
      exact ⟨by rw [K.out, E.out]; rfl, rfl⟩
    · have E : Hid ((c == 46) = false) := by show _ = _; simp [h]
      have e0 : ((c : Int) == 46) = false := by rw [beq_eq_false_iff_ne]; omega
      clear h
      go_enter Tryz.func95, Tryz.ntmps95
      go_wp2_with fail
      refine (kind_any c _).mono ?_
      rintro e w' ⟨rfl, rfl⟩
      rw [K0.out]
      go_wp2
      go_ret
      exact ⟨by rw [K.out, E.out]; rfl, rfl⟩
  all_goals
    go_enter Tryz.func95, Tryz.ntmps95
    go_wp2
    go_ret
    exact ⟨rfl, rfl⟩
set_option maxHeartbeats 1000000 in
theorem rkind_any (c : Nat) (w : World) : Calls Tryz.prog 44 #[.int .u8 (c : Int)] w fun e w' => e = .returned (.int .u8 (kindN c : Nat)) ∧ w = w' := by
  rcases byte_cases c with ⟨kb, kr, h107, h97, h98, h110, h114, h99, h112, h75, h65, h66, h78, h82, h67, h80⟩ | rfl | rfl | rfl | rfl | rfl | rfl | rfl | rfl | rfl | rfl | rfl | rfl | rfl | rfl
  · have K : Hid (kindN c = 0) := by show _ = _; simp [kindN, kb, kr]
    have K0 : Hid (sideN c = -1) := by show _ = _; simp [sideN, kb, kr]
    clear kb kr h107 h97 h98 h110 h114 h99 h112 h75 h65 h66 h78 h82 h67 h80
    go_enter Tryz.func44, Tryz.ntmps44
    go_wp2_with fail
    refine (rside_any c _).mono ?_
    rintro e w' ⟨rfl, rfl⟩
    rw [K0.out]
    go_wp2
    go_ret
    exact ⟨by rw [K.out]; rfl, rfl⟩
  all_goals
    go_enter Tryz.func44, Tryz.ntmps44
    go_wp2
    go_ret
    exact ⟨rfl, rfl⟩

/-- Is it a square? -/
def sqI (n : Int) : Bool := decide (0 ≤ n) && decide (n < 90)
def fileI (n : Int) : Int := if 0 ≤ n ∧ n < 90 then n % 9 else -1
def rankI (n : Int) : Int := if 0 ≤ n ∧ n < 90 then n / 9 else -1
def squareI (f r : Int) : Int := if 0 ≤ f ∧ f < 9 ∧ 0 ≤ r ∧ r < 10 then 9 * r + f else -1
theorem sqI_true {n : Int} (h : 0 ≤ n ∧ n < 90) : sqI n = true := by unfold sqI; rw [decide_eq_true h.1, decide_eq_true h.2]; rfl
theorem sqI_false {n : Int} (h : ¬ (0 ≤ n ∧ n < 90)) : sqI n = false := by unfold sqI; rw [← Bool.decide_and, decide_eq_false h]

set_option maxHeartbeats 400000 in
theorem isSquare_any (n : Int) (w : World) : Calls Tryz.prog 86 #[.int .i64 n] w fun e w' => e = .returned (.bool (sqI n)) ∧ w = w' := by
  by_cases h0 : 0 ≤ n
  · by_cases h1 : n < 90
    · have K := Lib.hid (sqI_true ⟨h0, h1⟩)
      go_enter Tryz.func86, Tryz.ntmps86
      go_wp2
      go_ret
      exact ⟨by rw [K.out]; first | rfl | (simp; done) | (simp; omega), rfl⟩
    · have K := Lib.hid (sqI_false (n := n) (by omega))
      go_enter Tryz.func86, Tryz.ntmps86
      go_wp2
      go_ret
      exact ⟨by rw [K.out]; first | rfl | (simp; done) | (simp; omega), rfl⟩
  · have K := Lib.hid (sqI_false (n := n) (by omega))
    go_enter Tryz.func86, Tryz.ntmps86
    go_wp2
    go_ret
    exact ⟨by rw [K.out]; rfl, rfl⟩
set_option maxHeartbeats 400000 in
theorem file_any (n : Int) (w : World) : Calls Tryz.prog 50 #[.int .i64 n] w fun e w' => e = .returned (.int .i64 (fileI n)) ∧ w = w' := by
  by_cases h : 0 ≤ n ∧ n < 90
  · have S := Lib.hid (sqI_true h)
    have K : Hid (fileI n = n % 9) := by show _ = _; rw [fileI, if_pos h]
    obtain ⟨h0, h1⟩ := h
    go_enter Tryz.func50, Tryz.ntmps50
    go_wp2_with fail
    refine (isSquare_any n _).mono ?_
    rintro e w' ⟨rfl, rfl⟩
    rw [S.out]
    go_wp2
    go_ret
    exact ⟨by rw [K.out]; rfl, rfl⟩
  · have S := Lib.hid (sqI_false h)
    have K : Hid (fileI n = -1) := by show _ = _; rw [fileI, if_neg h]
    clear h
    go_enter Tryz.func50, Tryz.ntmps50
    go_wp2_with fail
    refine (isSquare_any n _).mono ?_
    rintro e w' ⟨rfl, rfl⟩
    rw [S.out]
    go_wp2
    go_ret
    exact ⟨by rw [K.out]; rfl, rfl⟩
set_option maxHeartbeats 400000 in
theorem rank_any (n : Int) (w : World) : Calls Tryz.prog 130 #[.int .i64 n] w fun e w' => e = .returned (.int .i64 (rankI n)) ∧ w = w' := by
  by_cases h : 0 ≤ n ∧ n < 90
  · have S := Lib.hid (sqI_true h)
    have K : Hid (rankI n = n / 9) := by show _ = _; rw [rankI, if_pos h]
    obtain ⟨h0, h1⟩ := h
    go_enter Tryz.func130, Tryz.ntmps130
    go_wp2_with fail
    refine (isSquare_any n _).mono ?_
    rintro e w' ⟨rfl, rfl⟩
    rw [S.out]
    go_wp2
    go_ret
    exact ⟨by rw [K.out]; rfl, rfl⟩
  · have S := Lib.hid (sqI_false h)
    have K : Hid (rankI n = -1) := by show _ = _; rw [rankI, if_neg h]
    clear h
    go_enter Tryz.func130, Tryz.ntmps130
    go_wp2_with fail
    refine (isSquare_any n _).mono ?_
    rintro e w' ⟨rfl, rfl⟩
    rw [S.out]
    go_wp2
    go_ret
    exact ⟨by rw [K.out]; rfl, rfl⟩
set_option maxHeartbeats 400000 in
theorem rfile_any (n : Int) (w : World) : Calls Tryz.prog 99 #[.int .i64 n] w fun e w' => e = .returned (.int .i64 (fileI n)) ∧ w = w' := by
  by_cases h : 0 ≤ n ∧ n < 90
  · have S := Lib.hid (sqI_true h)
    have K : Hid (fileI n = n % 9) := by show _ = _; rw [fileI, if_pos h]
    obtain ⟨h0, h1⟩ := h
    go_enter Tryz.func99, Tryz.ntmps99
    go_wp2
    go_ret
    exact ⟨by rw [K.out]; rfl, rfl⟩
  · have S := Lib.hid (sqI_false h)
    have K : Hid (fileI n = -1) := by show _ = _; rw [fileI, if_neg h]
    by_cases h0 : n < 0
    · clear h S
      go_enter Tryz.func99, Tryz.ntmps99
      go_wp2
      go_ret
      exact ⟨by rw [K.out]; rfl, rfl⟩
    · have h1 : 90 ≤ n := by omega
      clear h S
      go_enter Tryz.func99, Tryz.ntmps99
      go_wp2
      go_ret
      exact ⟨by rw [K.out]; rfl, rfl⟩
set_option maxHeartbeats 400000 in
theorem rrank_any (n : Int) (w : World) : Calls Tryz.prog 118 #[.int .i64 n] w fun e w' => e = .returned (.int .i64 (rankI n)) ∧ w = w' := by
  by_cases h : 0 ≤ n ∧ n < 90
  · have S := Lib.hid (sqI_true h)
    have K : Hid (rankI n = n / 9) := by show _ = _; rw [rankI, if_pos h]
    obtain ⟨h0, h1⟩ := h
    go_enter Tryz.func118, Tryz.ntmps118
    go_wp2
    go_ret
    exact ⟨by rw [K.out]; rfl, rfl⟩
  · have S := Lib.hid (sqI_false h)
    have K : Hid (rankI n = -1) := by show _ = _; rw [rankI, if_neg h]
    by_cases h0 : n < 0
    · clear h S
      go_enter Tryz.func118, Tryz.ntmps118
      go_wp2
      go_ret
      exact ⟨by rw [K.out]; rfl, rfl⟩
    · have h1 : 90 ≤ n := by omega
      clear h S
      go_enter Tryz.func118, Tryz.ntmps118
      go_wp2
      go_ret
      exact ⟨by rw [K.out]; rfl, rfl⟩
set_option maxHeartbeats 400000 in
theorem square_any (f r : Int) (w : World) : Calls Tryz.prog 139 #[.int .i64 f, .int .i64 r] w fun e w' => e = .returned (.int .i64 (squareI f r)) ∧ w = w' := by
  by_cases h : 0 ≤ f ∧ f < 9 ∧ 0 ≤ r ∧ r < 10
  · have K : Hid (squareI f r = 9 * r + f) := by show _ = _; rw [squareI, if_pos h]
    obtain ⟨h0, h1, h2, h3⟩ := h
    go_enter Tryz.func139, Tryz.ntmps139
    go_wp2
    go_ret
    exact ⟨by rw [K.out]; first | rfl | (rw [Int.mul_comm 9 r]; rfl), rfl⟩
  · have K : Hid (squareI f r = -1) := by show _ = _; rw [squareI, if_neg h]
    by_cases h0 : f < 0
    · clear h
      go_enter Tryz.func139, Tryz.ntmps139
      go_wp2
      go_ret
      exact ⟨by rw [K.out]; rfl, rfl⟩
    · by_cases h1 : 9 ≤ f
      · clear h
        go_enter Tryz.func139, Tryz.ntmps139
        go_wp2
        go_ret
        exact ⟨by rw [K.out]; rfl, rfl⟩
      · by_cases h2 : r < 0
        · clear h
          go_enter Tryz.func139, Tryz.ntmps139
          go_wp2
          go_ret
          exact ⟨by rw [K.out]; rfl, rfl⟩
        · have h3 : 10 ≤ r := by omega
          clear h
          go_enter Tryz.func139, Tryz.ntmps139
          go_wp2
          go_ret
          exact ⟨by rw [K.out]; rfl, rfl⟩
end Go.Proofs.YtbfkkedcjodceaaGreatDoor
