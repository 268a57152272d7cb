/- Merged: Place1 Place2 Place3 Place4 Place5 Place6. -/
import Derived.Test.YtpogpjebhnoncabGreatDoorBoardM
import Derived.Deep.RegionHeld3
import Derived.Laws.EntriesVeiled
import Derived.Lib.Strings
import Derived.Lib.Walk
import Derived.Lib.Bytealg

namespace Go.Proofs.YtpogpjebhnoncabGreatDoor
open Go.RowKit Go.Shelf
open M (S)

/-- Of a file and a rank from a side's own: is it in the palace; an advisor's, an elephant's, a pawn's? -/
def inP (f r : Int) : Bool := decide (3 ≤ f) && decide (f ≤ 5) && decide (r ≤ 2)
def advP (f r : Int) : Bool := inP f r && ((f + r) % 2 == 1)
def eleP (f r : Int) : Bool := if r = 0 ∨ r = 4 then f == 2 || f == 6 else if r = 2 then f == 0 || f == 4 || f == 8 else false
def pawnP (f r : Int) : Bool := decide (5 ≤ r) || (decide (3 ≤ r) && (f % 2 == 0))
def kindP (k : Nat) (f r : Int) : Bool := if k = 75 then inP f r else if k = 65 then advP f r else if k = 66 then eleP f r else if k = 80 then pawnP f r else true
/-- A square's file and rank, as a side sees them. -/
def seenF (n side : Int) : Int := if side = 1 then 8 - n % 9 else n % 9
def seenR (n side : Int) : Int := if side = 1 then 9 - n / 9 else n / 9
/-- Is there such a square, such a side? -/
def realB (n side : Int) : Bool := sqI n && (side == 0 || side == 1)
def palaceB (n side : Int) : Bool := realB n side && inP (seenF n side) (seenR n side)
def overB (n side : Int) : Bool := realB n side && decide (5 ≤ seenR n side)
def mayB (c : Nat) (n : Int) : Bool := realB n (sideN c) && kindP (kindN c) (seenF n (sideN c)) (seenR n (sideN c))
def mostN (c : Nat) : Nat := if kindN c = 0 then 0 else if kindN c = 75 then 1 else if kindN c = 80 then 5 else 2
theorem sqI_in {n : Int} (h : sqI n = true) : 0 ≤ n ∧ n < 90 := by
  by_cases h' : 0 ≤ n ∧ n < 90
  · exact h'
  · rw [sqI_false h'] at h; cases h
theorem seen_in {n side : Int} (h : 0 ≤ n ∧ n < 90) : 0 ≤ seenF n side ∧ seenF n side ≤ 8 ∧ 0 ≤ seenR n side ∧ seenR n side ≤ 9 := by
  unfold seenF seenR
  split <;> omega

theorem inP_true {f r : Int} (h0 : 3 ≤ f) (h1 : f ≤ 5) (h2 : r ≤ 2) : inP f r = true := by simp [inP, h0, h1, h2]
theorem inP_false {f r : Int} (h : f < 3 ∨ 5 < f ∨ 2 < r) : inP f r = false := by
  cases e : inP f r
  · rfl
  · simp only [inP, Bool.and_eq_true, decide_eq_true_eq] at e
    omega
theorem pal_cases (f r : Int) : (f < 3) ∨ (3 ≤ f ∧ 5 < f) ∨ (3 ≤ f ∧ f ≤ 5 ∧ 2 < r) ∨ (3 ≤ f ∧ f ≤ 5 ∧ r ≤ 2) := by omega
set_option maxHeartbeats 1000000 in
theorem inPalace_any (f r : Int) (w : World) : Calls Tryz.prog 166 #[.agg #[.int .i64 f, .int .i64 r]] w (Gives w (.bool (inP f r))) := by
  unfold Gives
  rcases pal_cases f r with h0 | ⟨h0, h1⟩ | ⟨h0, h1, h2⟩ | ⟨h0, h1, h2⟩
  · have K := Lib.hid (inP_false (f := f) (r := r) (by omega))
    go_enter Tryz.func166, Tryz.ntmps166
    go_wp2
    go_ret
    exact ⟨by rw [K.out]; rfl, (by repeat (first | exact Below.refl _ _ | (refine Below.setCell ?_ (by first | omega | (simp; done) | (simp; omega) | (simp at *; omega)) _) | (refine Below.alloc ?_ (by first | omega | (simp; done) | (simp; omega) | (simp at *; omega)) _) | refine Below.drew ?_ | (refine below_drewN ?_ _) | (refine Below.trans ?_ (Below.mono (by assumption) (by first | omega | (simp; done) | (simp; omega) | (simp at *; omega))))))⟩
  · have K := Lib.hid (inP_false (f := f) (r := r) (by omega))
    go_enter Tryz.func166, Tryz.ntmps166
    go_wp2
    go_ret
    exact ⟨by rw [K.out]; rfl, (by repeat (first | exact Below.refl _ _ | (refine Below.setCell ?_ (by first | omega | (simp; done) | (simp; omega) | (simp at *; omega)) _) | (refine Below.alloc ?_ (by first | omega | (simp; done) | (simp; omega) | (simp at *; omega)) _) | refine Below.drew ?_ | (refine below_drewN ?_ _) | (refine Below.trans ?_ (Below.mono (by assumption) (by first | omega | (simp; done) | (simp; omega) | (simp at *; omega))))))⟩
  · have K := Lib.hid (inP_false (f := f) (r := r) (by omega))
    go_enter Tryz.func166, Tryz.ntmps166
    go_wp2
    go_ret
    exact ⟨by rw [K.out]; first | rfl | (simp; done) | (simp; omega), (by repeat (first | exact Below.refl _ _ | (refine Below.setCell ?_ (by first | omega | (simp; done) | (simp; omega) | (simp at *; omega)) _) | (refine Below.alloc ?_ (by first | omega | (simp; done) | (simp; omega) | (simp at *; omega)) _) | refine Below.drew ?_ | (refine below_drewN ?_ _) | (refine Below.trans ?_ (Below.mono (by assumption) (by first | omega | (simp; done) | (simp; omega) | (simp at *; omega))))))⟩
  · have K := Lib.hid (inP_true (f := f) (r := r) h0 h1 h2)
    go_enter Tryz.func166, Tryz.ntmps166
    go_wp2
    go_ret
    exact ⟨by rw [K.out]; first | rfl | (simp; done) | (simp; omega), (by repeat (first | exact Below.refl _ _ | (refine Below.setCell ?_ (by first | omega | (simp; done) | (simp; omega) | (simp at *; omega)) _) | (refine Below.alloc ?_ (by first | omega | (simp; done) | (simp; omega) | (simp at *; omega)) _) | refine Below.drew ?_ | (refine below_drewN ?_ _) | (refine Below.trans ?_ (Below.mono (by assumption) (by first | omega | (simp; done) | (simp; omega) | (simp at *; omega))))))⟩
set_option maxHeartbeats 1000000 in
theorem isAdvisors_any (f r : Int) (w : World) (hf : 0 ≤ f) (hf8 : f ≤ 8) (hr : 0 ≤ r) (hr9 : r ≤ 9) : Calls Tryz.prog 167 #[.agg #[.int .i64 f, .int .i64 r]] w (Gives w (.bool (advP f r))) := by
  unfold Gives
  rcases pal_cases f r with h0 | ⟨h0, h1⟩ | ⟨h0, h1, h2⟩ | ⟨h0, h1, h2⟩
  · have K : Hid (advP f r = false) := by show _ = _; rw [advP, inP_false (f := f) (r := r) (by omega)]; rfl
    go_enter Tryz.func167, Tryz.ntmps167
    go_wp2
    go_ret
    exact ⟨by rw [K.out]; rfl, (by repeat (first | exact Below.refl _ _ | (refine Below.setCell ?_ (by first | omega | (simp; done) | (simp; omega) | (simp at *; omega)) _) | (refine Below.alloc ?_ (by first | omega | (simp; done) | (simp; omega) | (simp at *; omega)) _) | refine Below.drew ?_ | (refine below_drewN ?_ _) | (refine Below.trans ?_ (Below.mono (by assumption) (by first | omega | (simp; done) | (simp; omega) | (simp at *; omega))))))⟩
  · have K : Hid (advP f r = false) := by show _ = _; rw [advP, inP_false (f := f) (r := r) (by omega)]; rfl
    go_enter Tryz.func167, Tryz.ntmps167
    go_wp2
    go_ret
    exact ⟨by rw [K.out]; rfl, (by repeat (first | exact Below.refl _ _ | (refine Below.setCell ?_ (by first | omega | (simp; done) | (simp; omega) | (simp at *; omega)) _) | (refine Below.alloc ?_ (by first | omega | (simp; done) | (simp; omega) | (simp at *; omega)) _) | refine Below.drew ?_ | (refine below_drewN ?_ _) | (refine Below.trans ?_ (Below.mono (by assumption) (by first | omega | (simp; done) | (simp; omega) | (simp at *; omega))))))⟩
  · have K : Hid (advP f r = false) := by show _ = _; rw [advP, inP_false (f := f) (r := r) (by omega)]; rfl
    go_enter Tryz.func167, Tryz.ntmps167
    go_wp2
    go_ret
    exact ⟨by rw [K.out]; rfl, (by repeat (first | exact Below.refl _ _ | (refine Below.setCell ?_ (by first | omega | (simp; done) | (simp; omega) | (simp at *; omega)) _) | (refine Below.alloc ?_ (by first | omega | (simp; done) | (simp; omega) | (simp at *; omega)) _) | refine Below.drew ?_ | (refine below_drewN ?_ _) | (refine Below.trans ?_ (Below.mono (by assumption) (by first | omega | (simp; done) | (simp; omega) | (simp at *; omega))))))⟩
  · have K : Hid (advP f r = ((f + r) % 2 == 1)) := by show _ = _; rw [advP, inP_true h0 h1 h2]; rfl
    go_enter Tryz.func167, Tryz.ntmps167
    go_wp2
    go_ret
    exact ⟨by rw [K.out]; rfl, (by repeat (first | exact Below.refl _ _ | (refine Below.setCell ?_ (by first | omega | (simp; done) | (simp; omega) | (simp at *; omega)) _) | (refine Below.alloc ?_ (by first | omega | (simp; done) | (simp; omega) | (simp at *; omega)) _) | refine Below.drew ?_ | (refine below_drewN ?_ _) | (refine Below.trans ?_ (Below.mono (by assumption) (by first | omega | (simp; done) | (simp; omega) | (simp at *; omega))))))⟩
set_option maxHeartbeats 4000000 in
theorem isElephants_any (f r : Int) (w : World) : Calls Tryz.prog 168 #[.agg #[.int .i64 f, .int .i64 r]] w (Gives w (.bool (eleP f r))) := by
  unfold Gives
  obtain ⟨b, hb⟩ : ∃ b, eleP f r = b := ⟨_, rfl⟩
  have K := Lib.hid hb
  have h0 : r = 0 ∨ r = 4 ∨ r = 2 ∨ (r ≠ 0 ∧ r ≠ 4 ∧ r ≠ 2) := by omega
  have h1 : f = 2 ∨ f = 6 ∨ f = 0 ∨ f = 4 ∨ f = 8 ∨ (f ≠ 2 ∧ f ≠ 6 ∧ f ≠ 0 ∧ f ≠ 4 ∧ f ≠ 8) := by omega
  clear hb
  rcases h0 with rfl | rfl | rfl | ⟨r0, r4, r2⟩
  iterate 3
    · rcases h1 with rfl | rfl | rfl | rfl | rfl | ⟨f2, f6, f0, f4, f8⟩
      all_goals
        go_enter Tryz.func168, Tryz.ntmps168
        go_wp2
        go_ret
        exact ⟨by first | rfl | simp [eleP, *], (by repeat (first | exact Below.refl _ _ | (refine Below.setCell ?_ (by first | omega | (simp; done) | (simp; omega) | (simp at *; omega)) _) | (refine Below.alloc ?_ (by first | omega | (simp; done) | (simp; omega) | (simp at *; omega)) _) | refine Below.drew ?_ | (refine below_drewN ?_ _) | (refine Below.trans ?_ (Below.mono (by assumption) (by first | omega | (simp; done) | (simp; omega) | (simp at *; omega))))))⟩
  · clear h1
    go_enter Tryz.func168, Tryz.ntmps168
    go_wp2
    go_ret
    exact ⟨by simp [eleP, *], (by repeat (first | exact Below.refl _ _ | (refine Below.setCell ?_ (by first | omega | (simp; done) | (simp; omega) | (simp at *; omega)) _) | (refine Below.alloc ?_ (by first | omega | (simp; done) | (simp; omega) | (simp at *; omega)) _) | refine Below.drew ?_ | (refine below_drewN ?_ _) | (refine Below.trans ?_ (Below.mono (by assumption) (by first | omega | (simp; done) | (simp; omega) | (simp at *; omega))))))⟩
theorem isAnywhere_any (f r : Int) (w : World) : Calls Tryz.prog 169 #[.agg #[.int .i64 f, .int .i64 r]] w (Gives w (.bool true)) := by
  unfold Gives
  go_enter Tryz.func169, Tryz.ntmps169
  go_wp2
  go_ret
  exact ⟨rfl, (by repeat (first | exact Below.refl _ _ | (refine Below.setCell ?_ (by first | omega | (simp; done) | (simp; omega) | (simp at *; omega)) _) | (refine Below.alloc ?_ (by first | omega | (simp; done) | (simp; omega) | (simp at *; omega)) _) | refine Below.drew ?_ | (refine below_drewN ?_ _) | (refine Below.trans ?_ (Below.mono (by assumption) (by first | omega | (simp; done) | (simp; omega) | (simp at *; omega))))))⟩
theorem isOver_any (f r : Int) (w : World) : Calls Tryz.prog 174 #[.agg #[.int .i64 f, .int .i64 r]] w (Gives w (.bool (decide (5 ≤ r)))) := by
  unfold Gives
  go_enter Tryz.func174, Tryz.ntmps174
  go_wp2
  go_ret
  exact ⟨rfl, (by repeat (first | exact Below.refl _ _ | (refine Below.setCell ?_ (by first | omega | (simp; done) | (simp; omega) | (simp at *; omega)) _) | (refine Below.alloc ?_ (by first | omega | (simp; done) | (simp; omega) | (simp at *; omega)) _) | refine Below.drew ?_ | (refine below_drewN ?_ _) | (refine Below.trans ?_ (Below.mono (by assumption) (by first | omega | (simp; done) | (simp; omega) | (simp at *; omega))))))⟩
set_option maxHeartbeats 1000000 in
theorem isPawns_any (f r : Int) (w : World) (hf : 0 ≤ f) (hf8 : f ≤ 8) : Calls Tryz.prog 170 #[.agg #[.int .i64 f, .int .i64 r]] w (Gives w (.bool (pawnP f r))) := by
  unfold Gives
  have h : 5 ≤ r ∨ (r < 5 ∧ 3 ≤ r) ∨ r < 3 := by omega
  rcases h with h | ⟨h, h3⟩ | h
  · have K : Hid (pawnP f r = true) := by show _ = _; simp [pawnP, h]
    go_enter Tryz.func170, Tryz.ntmps170
    go_wp2
    go_ret
    exact ⟨by rw [K.out]; rfl, (by repeat (first | exact Below.refl _ _ | (refine Below.setCell ?_ (by first | omega | (simp; done) | (simp; omega) | (simp at *; omega)) _) | (refine Below.alloc ?_ (by first | omega | (simp; done) | (simp; omega) | (simp at *; omega)) _) | refine Below.drew ?_ | (refine below_drewN ?_ _) | (refine Below.trans ?_ (Below.mono (by assumption) (by first | omega | (simp; done) | (simp; omega) | (simp at *; omega))))))⟩
  · have d5 : decide (5 ≤ r) = false := by simp; omega
    have K : Hid (pawnP f r = (f % 2 == 0)) := by show _ = _; simp [pawnP, h3]; omega
    go_enter Tryz.func170, Tryz.ntmps170
    go_wp2
    go_ret
    exact ⟨by rw [K.out]; rfl, (by repeat (first | exact Below.refl _ _ | (refine Below.setCell ?_ (by first | omega | (simp; done) | (simp; omega) | (simp at *; omega)) _) | (refine Below.alloc ?_ (by first | omega | (simp; done) | (simp; omega) | (simp at *; omega)) _) | refine Below.drew ?_ | (refine below_drewN ?_ _) | (refine Below.trans ?_ (Below.mono (by assumption) (by first | omega | (simp; done) | (simp; omega) | (simp at *; omega))))))⟩
  · have K : Hid (pawnP f r = false) := by show _ = _; simp [pawnP]; omega
    have d5 : decide (5 ≤ r) = false := by simp; omega
    go_enter Tryz.func170, Tryz.ntmps170
    go_wp2
    go_ret
    exact ⟨by rw [K.out]; rfl, (by repeat (first | exact Below.refl _ _ | (refine Below.setCell ?_ (by first | omega | (simp; done) | (simp; omega) | (simp at *; omega)) _) | (refine Below.alloc ?_ (by first | omega | (simp; done) | (simp; omega) | (simp at *; omega)) _) | refine Below.drew ?_ | (refine below_drewN ?_ _) | (refine Below.trans ?_ (Below.mono (by assumption) (by first | omega | (simp; done) | (simp; omega) | (simp at *; omega))))))⟩
end Go.Proofs.YtpogpjebhnoncabGreatDoor

namespace Go.Proofs.YtpogpjebhnoncabGreatDoor
open Go.RowKit Go.Shelf
open M (S)

theorem places_any (w : World) : Calls Tryz.prog 159 #[] w (Gives w (.agg #[.func (.func 166) #[] #[], .func (.func 167) #[] #[], .func (.func 168) #[] #[], .func (.func 169) #[] #[], .func (.func 169) #[] #[], .func (.func 169) #[] #[], .func (.func 170) #[] #[]])) := by
  unfold Gives
  go_enter Tryz.func159, Tryz.ntmps159
  go_wp2
  exact bodyPost_ret (v := .agg #[.func (.func 166) #[] #[], .func (.func 167) #[] #[], .func (.func 168) #[] #[], .func (.func 169) #[] #[], .func (.func 169) #[] #[], .func (.func 169) #[] #[], .func (.func 170) #[] #[]]) (by simp [results, Tryz.results159, go_sem]) rfl ⟨rfl, (by repeat (first | exact Below.refl _ _ | (refine Below.setCell ?_ (by first | omega | (simp; done) | (simp; omega) | (simp at *; omega)) _) | (refine Below.alloc ?_ (by first | omega | (simp; done) | (simp; omega) | (simp at *; omega)) _) | refine Below.drew ?_ | (refine below_drewN ?_ _) | (refine Below.trans ?_ (Below.mono (by assumption) (by first | omega | (simp; done) | (simp; omega) | (simp at *; omega))))))⟩
theorem isSide_any (side : Int) (w : World) : Calls Tryz.prog 113 #[.int .i64 side] w (Says w (.bool (side == 0 || side == 1))) := by
  unfold Says
  by_cases h0 : side = 0
  · subst h0
    go_enter Tryz.func113, Tryz.ntmps113
    go_wp2
    go_ret
    exact ⟨rfl, rfl⟩
  · have e0 : (side == 0) = false := by rw [beq_eq_false_iff_ne]; exact h0
    clear h0
    go_enter Tryz.func113, Tryz.ntmps113
    go_wp2
    go_ret
    exact ⟨by first | rfl | simp [e0], rfl⟩
def seenV (n side : Int) : Value := if realB n side then .tuple #[.agg #[.int .i64 (seenF n side), .int .i64 (seenR n side)], .bool true] else .tuple #[.agg #[.int .i64 0, .int .i64 0], .bool false]
set_option maxHeartbeats 1000000 in
theorem seen_no (n side : Int) (w : World) (h : realB n side = false) : Calls Tryz.prog 157 #[.int .i64 n, .int .i64 side] w (Gives w (.tuple #[.agg #[.int .i64 0, .int .i64 0], .bool false])) := by
  unfold Gives
  by_cases hq : 0 ≤ n ∧ n < 90
  · have F : Hid (fileI n = n % 9) := by show _ = _; rw [fileI, if_pos hq]
    have R : Hid (rankI n = n / 9) := by show _ = _; rw [rankI, if_pos hq]
    rw [realB, sqI_true hq, Bool.true_and, Bool.or_eq_false_iff] at h
    obtain ⟨h0, h1⟩ := h
    obtain ⟨q0, q1⟩ := hq
    go_enter Tryz.func157, Tryz.ntmps157
    go_wp2_with fail
    refine (file_any n _).mono ?_
    rintro e w' ⟨rfl, rfl⟩
    rw [F.out]
    go_wp2_with fail
    refine (rank_any n _).mono ?_
    rintro e w' ⟨rfl, rfl⟩
    rw [R.out]
    go_wp2_with fail
    refine (isSide_any side _).mono ?_
    rintro e w' ⟨rfl, rfl⟩
    go_wp2
    exact bodyPost_ret (v := .tuple #[.agg #[.int .i64 0, .int .i64 0], .bool false]) (by simp [results, Tryz.results157, go_sem]) rfl ⟨rfl, (by repeat (first | exact Below.refl _ _ | (refine Below.setCell ?_ (by first | omega | (simp; done) | (simp; omega) | (simp at *; omega)) _) | (refine Below.alloc ?_ (by first | omega | (simp; done) | (simp; omega) | (simp at *; omega)) _) | refine Below.drew ?_ | (refine below_drewN ?_ _) | (refine Below.trans ?_ (Below.mono (by assumption) (by first | omega | (simp; done) | (simp; omega) | (simp at *; omega))))))⟩
  · have F : Hid (fileI n = -1) := by show _ = _; rw [fileI, if_neg hq]
    have R : Hid (rankI n = -1) := by show _ = _; rw [rankI, if_neg hq]
    clear hq h
    go_enter Tryz.func157, Tryz.ntmps157
    go_wp2_with fail
    refine (file_any n _).mono ?_
    rintro e w' ⟨rfl, rfl⟩
    rw [F.out]
    go_wp2_with fail
    refine (rank_any n _).mono ?_
    rintro e w' ⟨rfl, rfl⟩
    rw [R.out]
    go_wp2
    exact bodyPost_ret (v := .tuple #[.agg #[.int .i64 0, .int .i64 0], .bool false]) (by simp [results, Tryz.results157, go_sem]) rfl ⟨rfl, (by repeat (first | exact Below.refl _ _ | (refine Below.setCell ?_ (by first | omega | (simp; done) | (simp; omega) | (simp at *; omega)) _) | (refine Below.alloc ?_ (by first | omega | (simp; done) | (simp; omega) | (simp at *; omega)) _) | refine Below.drew ?_ | (refine below_drewN ?_ _) | (refine Below.trans ?_ (Below.mono (by assumption) (by first | omega | (simp; done) | (simp; omega) | (simp at *; omega))))))⟩
theorem real_parts {n side : Int} (h : realB n side = true) : (0 ≤ n ∧ n < 90) ∧ (side = 0 ∨ side = 1) := by
  simp only [realB, Bool.and_eq_true, Bool.or_eq_true, beq_iff_eq] at h
  exact ⟨sqI_in h.1, h.2⟩
set_option maxHeartbeats 1000000 in
theorem seen_yes (n side : Int) (w : World) (h : realB n side = true) : Calls Tryz.prog 157 #[.int .i64 n, .int .i64 side] w (Gives w (.tuple #[.agg #[.int .i64 (seenF n side), .int .i64 (seenR n side)], .bool true])) := by
  unfold Gives
  obtain ⟨hq, hs⟩ := real_parts h
  have F : Hid (fileI n = n % 9) := by show _ = _; rw [fileI, if_pos hq]
  have R : Hid (rankI n = n / 9) := by show _ = _; rw [rankI, if_pos hq]
  have b := seen_in (side := 0) hq
  simp only [seenF, seenR] at b
  rw [if_neg (by decide), if_neg (by decide)] at b
  obtain ⟨b0, b1, b2, b3⟩ := b
  obtain ⟨q0, q1⟩ := hq
  clear h
  rcases hs with rfl | rfl
  · rw [show seenF n 0 = n % 9 from rfl, show seenR n 0 = n / 9 from rfl]
    go_enter Tryz.func157, Tryz.ntmps157
    go_wp2_with fail
    refine (file_any n _).mono ?_
    rintro e w' ⟨rfl, rfl⟩
    rw [F.out]
    go_wp2_with fail
    refine (rank_any n _).mono ?_
    rintro e w' ⟨rfl, rfl⟩
    rw [R.out]
    go_wp2_with fail
    refine (isSide_any 0 _).mono ?_
    rintro e w' ⟨rfl, rfl⟩
    go_wp2
    exact bodyPost_ret (v := .tuple #[.agg #[.int .i64 (n % 9), .int .i64 (n / 9)], .bool true]) (by simp [results, Tryz.results157, go_sem]) rfl ⟨rfl, (by repeat (first | exact Below.refl _ _ | (refine Below.setCell ?_ (by first | omega | (simp; done) | (simp; omega) | (simp at *; omega)) _) | (refine Below.alloc ?_ (by first | omega | (simp; done) | (simp; omega) | (simp at *; omega)) _) | refine Below.drew ?_ | (refine below_drewN ?_ _) | (refine Below.trans ?_ (Below.mono (by assumption) (by first | omega | (simp; done) | (simp; omega) | (simp at *; omega))))))⟩
  · rw [show seenF n 1 = 8 - n % 9 from rfl, show seenR n 1 = 9 - n / 9 from rfl]
    go_enter Tryz.func157, Tryz.ntmps157
    go_wp2_with fail
    refine (file_any n _).mono ?_
    rintro e w' ⟨rfl, rfl⟩
    rw [F.out]
    go_wp2_with fail
    refine (rank_any n _).mono ?_
    rintro e w' ⟨rfl, rfl⟩
    rw [R.out]
    go_wp2_with fail
    refine (isSide_any 1 _).mono ?_
    rintro e w' ⟨rfl, rfl⟩
    go_wp2
    exact bodyPost_ret (v := .tuple #[.agg #[.int .i64 (8 - n % 9), .int .i64 (9 - n / 9)], .bool true]) (by simp [results, Tryz.results157, go_sem]) rfl ⟨rfl, (by repeat (first | exact Below.refl _ _ | (refine Below.setCell ?_ (by first | omega | (simp; done) | (simp; omega) | (simp at *; omega)) _) | (refine Below.alloc ?_ (by first | omega | (simp; done) | (simp; omega) | (simp at *; omega)) _) | refine Below.drew ?_ | (refine below_drewN ?_ _) | (refine Below.trans ?_ (Below.mono (by assumption) (by first | omega | (simp; done) | (simp; omega) | (simp at *; omega))))))⟩
end Go.Proofs.YtpogpjebhnoncabGreatDoor

namespace Go.Proofs.YtpogpjebhnoncabGreatDoor
open Go.RowKit Go.Shelf
open M (S)

set_option maxHeartbeats 1000000 in
set_option maxRecDepth 100000 in
theorem sIndexByte_any (s : ByteArray) (c : Int) (w : World) :
    Calls Tryz.prog 118 #[.string s, .int .u8 c] w fun e w' => e = .returned (.int .i64 (Lib.indexByte s.data.toList c.toNat.toUInt8)) ∧ w = w' := by
  go_enter Tryz.func118, Tryz.ntmps118
  go_wp2
  rw [run_callFunc_extern Tryz.func141 (by kernel_rfl) (by kernel_rfl) (by kernel_rfl) (e := Extern.BytealgIndexByte.indexByte) (by kernel_rfl), Lib.run_indexByteString]
  simp only [Result.andThen]
  rw [Oper.upon_value]
  go_wp2
  go_ret
  exact ⟨rfl, rfl⟩
theorem indexByte_any (s : ByteArray) (c : Int) (w : World) :
    Calls Tryz.prog 88 #[.string s, .int .u8 c] w fun e w' => e = .returned (.int .i64 (Lib.indexByte s.data.toList c.toNat.toUInt8)) ∧ w = w' := by
  go_enter Tryz.func88, Tryz.ntmps88
  go_wp2_with fail
  refine (sIndexByte_any _ _ _).mono ?_
  rintro e w' ⟨rfl, rfl⟩
  go_wp2
  go_ret
  exact ⟨rfl, rfl⟩
/-- The letters of the kinds, in the order of places. -/
def kindsS : ByteArray := ⟨#[75, 65, 66, 78, 82, 67, 80]⟩
theorem index_is (c : Nat) (k : Nat) (w : World) (h : Lib.indexByte kindsS.data.toList (c : Int).toNat.toUInt8 = (k : Int)) : Calls Tryz.prog 88 #[.string ⟨#[75, 65, 66, 78, 82, 67, 80]⟩, .int .u8 (c : Int)] w (Says w (.int .i64 (k : Int))) := by
  have h1 := indexByte_any kindsS (c : Int) w
  rw [h] at h1
  exact h1
theorem real_none {c : Nat} {n : Int} (h : sideN c < 0) : realB n (sideN c) = false := by
  have h0 : (sideN c == 0) = false := by rw [beq_eq_false_iff_ne]; omega
  have h1 : (sideN c == 1) = false := by rw [beq_eq_false_iff_ne]; omega
  rw [realB, h0, h1]
  simp
set_option maxHeartbeats 2000000 in
theorem may_no (c : Nat) (n : Int) (w : World) (h : realB n (sideN c) = false) : Calls Tryz.prog 139 #[.int .u8 (c : Int), .int .i64 n] w (Gives w (.bool false)) := by
  unfold Gives
  have H := Lib.hid h
  clear h
  go_enter Tryz.func139, Tryz.ntmps139
  go_wp2_with fail
  refine (side_any c _).mono ?_
  rintro e w' ⟨rfl, rfl⟩
  go_wp2_with fail
  refine (seen_no n _ _ H.out).mono ?_
  rintro e w1 ⟨rfl, hb⟩
  have hz := hb.size
  go_wp2_with fail
  go_quiet (fail)
  go_wp2
  go_ret
  exact ⟨rfl, (by repeat (first | exact Below.refl _ _ | (refine Below.setCell ?_ (by first | omega | (simp; done) | (simp; omega) | (simp at *; omega)) _) | (refine Below.alloc ?_ (by first | omega | (simp; done) | (simp; omega) | (simp at *; omega)) _) | refine Below.drew ?_ | (refine below_drewN ?_ _) | (refine Below.trans ?_ (Below.mono (by assumption) (by first | omega | (simp; done) | (simp; omega) | (simp at *; omega))))))⟩
theorem spot_keep {w : World} {g : Nat} {f r : Int} {W W' : World} (h : W.cell? ⟨g, 0, none⟩ = some (.int .i64 f) ∧ W.cell? ⟨g, 1, none⟩ = some (.int .i64 r) ∧ Below w.heap.size w W) (hb : Below W.heap.size W W') :
    W'.cell? ⟨g, 0, none⟩ = some (.int .i64 f) ∧ W'.cell? ⟨g, 1, none⟩ = some (.int .i64 r) ∧ Below w.heap.size w W' := by
  obtain ⟨h0, h1, h2⟩ := h
  have hg : g < W.heap.size := World.block_lt_of_cell? _ _ h0
  exact ⟨(hb.cell (p := ⟨g, 0, none⟩) hg).trans h0, (hb.cell (p := ⟨g, 1, none⟩) hg).trans h1, h2.trans (hb.mono h2.size)⟩
theorem spot_below {w : World} {g : Nat} {f r : Int} {W : World} (h : W.cell? ⟨g, 0, none⟩ = some (.int .i64 f) ∧ W.cell? ⟨g, 1, none⟩ = some (.int .i64 r) ∧ Below w.heap.size w W) : Below w.heap.size w W := h.2.2
theorem kindb_is (c k : Nat) (w : World) (h : kindN c = k) : Calls Tryz.prog 138 #[.int .u8 (c : Int)] w (Gives w (.int .u8 (k : Int))) := (kind_is c k w h).mono fun _ _ ⟨a, b⟩ => ⟨a, b ▸ Below.refl _ _⟩
theorem indexb_is (c : Nat) (k : Nat) (w : World) (h : Lib.indexByte kindsS.data.toList (c : Int).toNat.toUInt8 = (k : Int)) : Calls Tryz.prog 88 #[.string ⟨#[75, 65, 66, 78, 82, 67, 80]⟩, .int .u8 (c : Int)] w (Gives w (.int .i64 (k : Int))) := (index_is c k w h).mono fun _ _ ⟨a, b⟩ => ⟨a, b ▸ Below.refl _ _⟩
theorem places_0 (W : World) : (Instr.index 189 (.agg #[.func (.func 166) #[] #[], .func (.func 167) #[] #[], .func (.func 168) #[] #[], .func (.func 169) #[] #[], .func (.func 169) #[] #[], .func (.func 169) #[] #[], .func (.func 170) #[] #[]]) (.int .i64 0)).run Tryz.prog W = .ok (.func (.func 166) #[] #[]) W := by kernel_rfl
theorem places_1 (W : World) : (Instr.index 189 (.agg #[.func (.func 166) #[] #[], .func (.func 167) #[] #[], .func (.func 168) #[] #[], .func (.func 169) #[] #[], .func (.func 169) #[] #[], .func (.func 169) #[] #[], .func (.func 170) #[] #[]]) (.int .i64 1)).run Tryz.prog W = .ok (.func (.func 167) #[] #[]) W := by kernel_rfl
theorem places_2 (W : World) : (Instr.index 189 (.agg #[.func (.func 166) #[] #[], .func (.func 167) #[] #[], .func (.func 168) #[] #[], .func (.func 169) #[] #[], .func (.func 169) #[] #[], .func (.func 169) #[] #[], .func (.func 170) #[] #[]]) (.int .i64 2)).run Tryz.prog W = .ok (.func (.func 168) #[] #[]) W := by kernel_rfl
theorem places_3 (W : World) : (Instr.index 189 (.agg #[.func (.func 166) #[] #[], .func (.func 167) #[] #[], .func (.func 168) #[] #[], .func (.func 169) #[] #[], .func (.func 169) #[] #[], .func (.func 169) #[] #[], .func (.func 170) #[] #[]]) (.int .i64 3)).run Tryz.prog W = .ok (.func (.func 169) #[] #[]) W := by kernel_rfl
theorem places_4 (W : World) : (Instr.index 189 (.agg #[.func (.func 166) #[] #[], .func (.func 167) #[] #[], .func (.func 168) #[] #[], .func (.func 169) #[] #[], .func (.func 169) #[] #[], .func (.func 169) #[] #[], .func (.func 170) #[] #[]]) (.int .i64 4)).run Tryz.prog W = .ok (.func (.func 169) #[] #[]) W := by kernel_rfl
theorem places_5 (W : World) : (Instr.index 189 (.agg #[.func (.func 166) #[] #[], .func (.func 167) #[] #[], .func (.func 168) #[] #[], .func (.func 169) #[] #[], .func (.func 169) #[] #[], .func (.func 169) #[] #[], .func (.func 170) #[] #[]]) (.int .i64 5)).run Tryz.prog W = .ok (.func (.func 169) #[] #[]) W := by kernel_rfl
theorem places_6 (W : World) : (Instr.index 189 (.agg #[.func (.func 166) #[] #[], .func (.func 167) #[] #[], .func (.func 168) #[] #[], .func (.func 169) #[] #[], .func (.func 169) #[] #[], .func (.func 169) #[] #[], .func (.func 170) #[] #[]]) (.int .i64 6)).run Tryz.prog W = .ok (.func (.func 170) #[] #[]) W := by kernel_rfl
set_option maxHeartbeats 4000000 in
theorem may_75 (c : Nat) (n s f r : Int) (w : World) (h : realB n s = true) (hs : sideN c = s) (hk : kindN c = 75) (hf : seenF n s = f) (hr : seenR n s = r) :
    Calls Tryz.prog 139 #[.int .u8 (c : Int), .int .i64 n] w (Gives w (.bool (inP f r))) := by
  unfold Gives
  have hix := places_0
  have bd := seen_in (side := s) (real_parts h).1
  rw [hf, hr] at bd
  obtain ⟨b0, b1, b2, b3⟩ := bd
  have Hs := Lib.hid hs
  have H := Lib.hid h
  have Hk := Lib.hid hk
  have Hf := Lib.hid hf
  have Hr := Lib.hid hr
  clear h hs hk hf hr
  go_enter Tryz.func139, Tryz.ntmps139
  go_wp2_with fail
  refine (side_any c _).mono ?_
  rintro e w' ⟨rfl, rfl⟩
  rw [Hs.out]
  go_wp2_with fail
  refine (seen_yes n _ _ H.out).mono ?_
  rintro e w1 ⟨rfl, hb⟩
  rw [Hf.out, Hr.out]
  have hz := hb.size
  go_wp2_with fail
  obtain ⟨W0, hW0⟩ : ∃ W0, w1.alloc (.cells #[.int .i64 f, .int .i64 r] 185) = W0 := ⟨_, rfl⟩
  have bA : Blk W0 w1.heap.size 185 #[.int .i64 f, .int .i64 r] := by rw [← hW0]; exact Blk.new _ _ _ rfl
  have hB : Below w.heap.size w W0 := by rw [← hW0]; exact (by repeat (first | exact Below.refl _ _ | (refine Below.setCell ?_ (by first | omega | (simp; done) | (simp; omega) | (simp at *; omega)) _) | (refine Below.alloc ?_ (by first | omega | (simp; done) | (simp; omega) | (simp at *; omega)) _) | refine Below.drew ?_ | (refine below_drewN ?_ _) | (refine Below.trans ?_ (Below.mono (by assumption) (by first | omega | (simp; done) | (simp; omega) | (simp at *; omega))))))
  have hS : W0.drew.cell? ⟨w1.heap.size, 0, none⟩ = some (.int .i64 f) ∧ W0.drew.cell? ⟨w1.heap.size, 1, none⟩ = some (.int .i64 r) ∧ Below w.heap.size w W0.drew := ⟨bA.cell 0, bA.cell 1, hB.drew⟩
  rw [hW0]
  clear hW0 hB bA hb hz
  go_region_held3 (fun W => W.cell? ⟨w1.heap.size, 0, none⟩ = some (.int .i64 f) ∧ W.cell? ⟨w1.heap.size, 1, none⟩ = some (.int .i64 r) ∧ Below w.heap.size w W)
    (first | exact hS | exact spot_keep (by assumption) hb | assumption)
    (first | (go_at_call 159; refine (places_any _).mono ?_; rintro e w2 ⟨rfl, hb⟩) | (go_at_call 138; refine (kindb_is c 75 _ Hk.out).mono ?_; rintro e w2 ⟨rfl, hb⟩) | (go_at_call 88; refine (indexb_is 75 0 _ rfl).mono ?_; rintro e w2 ⟨rfl, hb⟩) | (go_at_call 166; refine (inPalace_any f r _).mono ?_; rintro e w2 ⟨rfl, hb⟩))
  go_wp2
  go_ret
  exact ⟨rfl, spot_below (by assumption)⟩
set_option maxHeartbeats 4000000 in
theorem may_65 (c : Nat) (n s f r : Int) (w : World) (h : realB n s = true) (hs : sideN c = s) (hk : kindN c = 65) (hf : seenF n s = f) (hr : seenR n s = r) :
    Calls Tryz.prog 139 #[.int .u8 (c : Int), .int .i64 n] w (Gives w (.bool (advP f r))) := by
  unfold Gives
  have hix := places_1
  have bd := seen_in (side := s) (real_parts h).1
  rw [hf, hr] at bd
  obtain ⟨b0, b1, b2, b3⟩ := bd
  have Hs := Lib.hid hs
  have H := Lib.hid h
  have Hk := Lib.hid hk
  have Hf := Lib.hid hf
  have Hr := Lib.hid hr
  clear h hs hk hf hr
  go_enter Tryz.func139, Tryz.ntmps139
  go_wp2_with fail
  refine (side_any c _).mono ?_
  rintro e w' ⟨rfl, rfl⟩
  rw [Hs.out]
  go_wp2_with fail
  refine (seen_yes n _ _ H.out).mono ?_
  rintro e w1 ⟨rfl, hb⟩
  rw [Hf.out, Hr.out]
  have hz := hb.size
  go_wp2_with fail
  obtain ⟨W0, hW0⟩ : ∃ W0, w1.alloc (.cells #[.int .i64 f, .int .i64 r] 185) = W0 := ⟨_, rfl⟩
  have bA : Blk W0 w1.heap.size 185 #[.int .i64 f, .int .i64 r] := by rw [← hW0]; exact Blk.new _ _ _ rfl
  have hB : Below w.heap.size w W0 := by rw [← hW0]; exact (by repeat (first | exact Below.refl _ _ | (refine Below.setCell ?_ (by first | omega | (simp; done) | (simp; omega) | (simp at *; omega)) _) | (refine Below.alloc ?_ (by first | omega | (simp; done) | (simp; omega) | (simp at *; omega)) _) | refine Below.drew ?_ | (refine below_drewN ?_ _) | (refine Below.trans ?_ (Below.mono (by assumption) (by first | omega | (simp; done) | (simp; omega) | (simp at *; omega))))))
  have hS : W0.drew.cell? ⟨w1.heap.size, 0, none⟩ = some (.int .i64 f) ∧ W0.drew.cell? ⟨w1.heap.size, 1, none⟩ = some (.int .i64 r) ∧ Below w.heap.size w W0.drew := ⟨bA.cell 0, bA.cell 1, hB.drew⟩
  rw [hW0]
  clear hW0 hB bA hb hz
  go_region_held3 (fun W => W.cell? ⟨w1.heap.size, 0, none⟩ = some (.int .i64 f) ∧ W.cell? ⟨w1.heap.size, 1, none⟩ = some (.int .i64 r) ∧ Below w.heap.size w W)
    (first | exact hS | exact spot_keep (by assumption) hb | assumption)
    (first | (go_at_call 159; refine (places_any _).mono ?_; rintro e w2 ⟨rfl, hb⟩) | (go_at_call 138; refine (kindb_is c 65 _ Hk.out).mono ?_; rintro e w2 ⟨rfl, hb⟩) | (go_at_call 88; refine (indexb_is 65 1 _ rfl).mono ?_; rintro e w2 ⟨rfl, hb⟩) | (go_at_call 167; refine (isAdvisors_any f r _ b0 b1 b2 b3).mono ?_; rintro e w2 ⟨rfl, hb⟩))
  go_wp2
  go_ret
  exact ⟨rfl, spot_below (by assumption)⟩
set_option maxHeartbeats 4000000 in
theorem may_66 (c : Nat) (n s f r : Int) (w : World) (h : realB n s = true) (hs : sideN c = s) (hk : kindN c = 66) (hf : seenF n s = f) (hr : seenR n s = r) :
    Calls Tryz.prog 139 #[.int .u8 (c : Int), .int .i64 n] w (Gives w (.bool (eleP f r))) := by
  unfold Gives
  have hix := places_2
  have bd := seen_in (side := s) (real_parts h).1
  rw [hf, hr] at bd
  obtain ⟨b0, b1, b2, b3⟩ := bd
  have Hs := Lib.hid hs
  have H := Lib.hid h
  have Hk := Lib.hid hk
  have Hf := Lib.hid hf
  have Hr := Lib.hid hr
  clear h hs hk hf hr
  go_enter Tryz.func139, Tryz.ntmps139
  go_wp2_with fail
  refine (side_any c _).mono ?_
  rintro e w' ⟨rfl, rfl⟩
  rw [Hs.out]
  go_wp2_with fail
  refine (seen_yes n _ _ H.out).mono ?_
  rintro e w1 ⟨rfl, hb⟩
  rw [Hf.out, Hr.out]
  have hz := hb.size
  go_wp2_with fail
  obtain ⟨W0, hW0⟩ : ∃ W0, w1.alloc (.cells #[.int .i64 f, .int .i64 r] 185) = W0 := ⟨_, rfl⟩
  have bA : Blk W0 w1.heap.size 185 #[.int .i64 f, .int .i64 r] := by rw [← hW0]; exact Blk.new _ _ _ rfl
  have hB : Below w.heap.size w W0 := by rw [← hW0]; exact (by repeat (first | exact Below.refl _ _ | (refine Below.setCell ?_ (by first | omega | (simp; done) | (simp; omega) | (simp at *; omega)) _) | (refine Below.alloc ?_ (by first | omega | (simp; done) | (simp; omega) | (simp at *; omega)) _) | refine Below.drew ?_ | (refine below_drewN ?_ _) | (refine Below.trans ?_ (Below.mono (by assumption) (by first | omega | (simp; done) | (simp; omega) | (simp at *; omega))))))
  have hS : W0.drew.cell? ⟨w1.heap.size, 0, none⟩ = some (.int .i64 f) ∧ W0.drew.cell? ⟨w1.heap.size, 1, none⟩ = some (.int .i64 r) ∧ Below w.heap.size w W0.drew := ⟨bA.cell 0, bA.cell 1, hB.drew⟩
  rw [hW0]
  clear hW0 hB bA hb hz
  go_region_held3 (fun W => W.cell? ⟨w1.heap.size, 0, none⟩ = some (.int .i64 f) ∧ W.cell? ⟨w1.heap.size, 1, none⟩ = some (.int .i64 r) ∧ Below w.heap.size w W)
    (first | exact hS | exact spot_keep (by assumption) hb | assumption)
    (first | (go_at_call 159; refine (places_any _).mono ?_; rintro e w2 ⟨rfl, hb⟩) | (go_at_call 138; refine (kindb_is c 66 _ Hk.out).mono ?_; rintro e w2 ⟨rfl, hb⟩) | (go_at_call 88; refine (indexb_is 66 2 _ rfl).mono ?_; rintro e w2 ⟨rfl, hb⟩) | (go_at_call 168; refine (isElephants_any f r _).mono ?_; rintro e w2 ⟨rfl, hb⟩))
  go_wp2
  go_ret
  exact ⟨rfl, spot_below (by assumption)⟩
set_option maxHeartbeats 4000000 in
theorem may_78 (c : Nat) (n s f r : Int) (w : World) (h : realB n s = true) (hs : sideN c = s) (hk : kindN c = 78) (hf : seenF n s = f) (hr : seenR n s = r) :
    Calls Tryz.prog 139 #[.int .u8 (c : Int), .int .i64 n] w (Gives w (.bool true)) := by
  unfold Gives
  have hix := places_3
  have bd := seen_in (side := s) (real_parts h).1
  rw [hf, hr] at bd
  obtain ⟨b0, b1, b2, b3⟩ := bd
  have Hs := Lib.hid hs
  have H := Lib.hid h
  have Hk := Lib.hid hk
  have Hf := Lib.hid hf
  have Hr := Lib.hid hr
  clear h hs hk hf hr
  go_enter Tryz.func139, Tryz.ntmps139
  go_wp2_with fail
  refine (side_any c _).mono ?_
  rintro e w' ⟨rfl, rfl⟩
  rw [Hs.out]
  go_wp2_with fail
  refine (seen_yes n _ _ H.out).mono ?_
  rintro e w1 ⟨rfl, hb⟩
  rw [Hf.out, Hr.out]
  have hz := hb.size
  go_wp2_with fail
  obtain ⟨W0, hW0⟩ : ∃ W0, w1.alloc (.cells #[.int .i64 f, .int .i64 r] 185) = W0 := ⟨_, rfl⟩
  have bA : Blk W0 w1.heap.size 185 #[.int .i64 f, .int .i64 r] := by rw [← hW0]; exact Blk.new _ _ _ rfl
  have hB : Below w.heap.size w W0 := by rw [← hW0]; exact (by repeat (first | exact Below.refl _ _ | (refine Below.setCell ?_ (by first | omega | (simp; done) | (simp; omega) | (simp at *; omega)) _) | (refine Below.alloc ?_ (by first | omega | (simp; done) | (simp; omega) | (simp at *; omega)) _) | refine Below.drew ?_ | (refine below_drewN ?_ _) | (refine Below.trans ?_ (Below.mono (by assumption) (by first | omega | (simp; done) | (simp; omega) | (simp at *; omega))))))
  have hS : W0.drew.cell? ⟨w1.heap.size, 0, none⟩ = some (.int .i64 f) ∧ W0.drew.cell? ⟨w1.heap.size, 1, none⟩ = some (.int .i64 r) ∧ Below w.heap.size w W0.drew := ⟨bA.cell 0, bA.cell 1, hB.drew⟩
  rw [hW0]
  clear hW0 hB bA hb hz
  go_region_held3 (fun W => W.cell? ⟨w1.heap.size, 0, none⟩ = some (.int .i64 f) ∧ W.cell? ⟨w1.heap.size, 1, none⟩ = some (.int .i64 r) ∧ Below w.heap.size w W)
    (first | exact hS | exact spot_keep (by assumption) hb | assumption)
    (first | (go_at_call 159; refine (places_any _).mono ?_; rintro e w2 ⟨rfl, hb⟩) | (go_at_call 138; refine (kindb_is c 78 _ Hk.out).mono ?_; rintro e w2 ⟨rfl, hb⟩) | (go_at_call 88; refine (indexb_is 78 3 _ rfl).mono ?_; rintro e w2 ⟨rfl, hb⟩) | (go_at_call 169; refine (isAnywhere_any f r _).mono ?_; rintro e w2 ⟨rfl, hb⟩))
  go_wp2
  go_ret
  exact ⟨rfl, spot_below (by assumption)⟩
set_option maxHeartbeats 4000000 in
theorem may_82 (c : Nat) (n s f r : Int) (w : World) (h : realB n s = true) (hs : sideN c = s) (hk : kindN c = 82) (hf : seenF n s = f) (hr : seenR n s = r) :
    Calls Tryz.prog 139 #[.int .u8 (c : Int), .int .i64 n] w (Gives w (.bool true)) := by
  unfold Gives
  have hix := places_4
  have bd := seen_in (side := s) (real_parts h).1
  rw [hf, hr] at bd
  obtain ⟨b0, b1, b2, b3⟩ := bd
  have Hs := Lib.hid hs
  have H := Lib.hid h
  have Hk := Lib.hid hk
  have Hf := Lib.hid hf
  have Hr := Lib.hid hr
  clear h hs hk hf hr
  go_enter Tryz.func139, Tryz.ntmps139
  go_wp2_with fail
  refine (side_any c _).mono ?_
  rintro e w' ⟨rfl, rfl⟩
  rw [Hs.out]
  go_wp2_with fail
  refine (seen_yes n _ _ H.out).mono ?_
  rintro e w1 ⟨rfl, hb⟩
  rw [Hf.out, Hr.out]
  have hz := hb.size
  go_wp2_with fail
  obtain ⟨W0, hW0⟩ : ∃ W0, w1.alloc (.cells #[.int .i64 f, .int .i64 r] 185) = W0 := ⟨_, rfl⟩
  have bA : Blk W0 w1.heap.size 185 #[.int .i64 f, .int .i64 r] := by rw [← hW0]; exact Blk.new _ _ _ rfl
  have hB : Below w.heap.size w W0 := by rw [← hW0]; exact (by repeat (first | exact Below.refl _ _ | (refine Below.setCell ?_ (by first | omega | (simp; done) | (simp; omega) | (simp at *; omega)) _) | (refine Below.alloc ?_ (by first | omega | (simp; done) | (simp; omega) | (simp at *; omega)) _) | refine Below.drew ?_ | (refine below_drewN ?_ _) | (refine Below.trans ?_ (Below.mono (by assumption) (by first | omega | (simp; done) | (simp; omega) | (simp at *; omega))))))
  have hS : W0.drew.cell? ⟨w1.heap.size, 0, none⟩ = some (.int .i64 f) ∧ W0.drew.cell? ⟨w1.heap.size, 1, none⟩ = some (.int .i64 r) ∧ Below w.heap.size w W0.drew := ⟨bA.cell 0, bA.cell 1, hB.drew⟩
  rw [hW0]
  clear hW0 hB bA hb hz
  go_region_held3 (fun W => W.cell? ⟨w1.heap.size, 0, none⟩ = some (.int .i64 f) ∧ W.cell? ⟨w1.heap.size, 1, none⟩ = some (.int .i64 r) ∧ Below w.heap.size w W)
    (first | exact hS | exact spot_keep (by assumption) hb | assumption)
    (first | (go_at_call 159; refine (places_any _).mono ?_; rintro e w2 ⟨rfl, hb⟩) | (go_at_call 138; refine (kindb_is c 82 _ Hk.out).mono ?_; rintro e w2 ⟨rfl, hb⟩) | (go_at_call 88; refine (indexb_is 82 4 _ rfl).mono ?_; rintro e w2 ⟨rfl, hb⟩) | (go_at_call 169; refine (isAnywhere_any f r _).mono ?_; rintro e w2 ⟨rfl, hb⟩))
  go_wp2
  go_ret
  exact ⟨rfl, spot_below (by assumption)⟩
set_option maxHeartbeats 4000000 in
theorem may_67 (c : Nat) (n s f r : Int) (w : World) (h : realB n s = true) (hs : sideN c = s) (hk : kindN c = 67) (hf : seenF n s = f) (hr : seenR n s = r) :
    Calls Tryz.prog 139 #[.int .u8 (c : Int), .int .i64 n] w (Gives w (.bool true)) := by
  unfold Gives
  have hix := places_5
  have bd := seen_in (side := s) (real_parts h).1
  rw [hf, hr] at bd
  obtain ⟨b0, b1, b2, b3⟩ := bd
  have Hs := Lib.hid hs
  have H := Lib.hid h
  have Hk := Lib.hid hk
  have Hf := Lib.hid hf
  have Hr := Lib.hid hr
  clear h hs hk hf hr
  go_enter Tryz.func139, Tryz.ntmps139
  go_wp2_with fail
  refine (side_any c _).mono ?_
  rintro e w' ⟨rfl, rfl⟩
  rw [Hs.out]
  go_wp2_with fail
  refine (seen_yes n _ _ H.out).mono ?_
  rintro e w1 ⟨rfl, hb⟩
  rw [Hf.out, Hr.out]
  have hz := hb.size
  go_wp2_with fail
  obtain ⟨W0, hW0⟩ : ∃ W0, w1.alloc (.cells #[.int .i64 f, .int .i64 r] 185) = W0 := ⟨_, rfl⟩
  have bA : Blk W0 w1.heap.size 185 #[.int .i64 f, .int .i64 r] := by rw [← hW0]; exact Blk.new _ _ _ rfl
  have hB : Below w.heap.size w W0 := by rw [← hW0]; exact (by repeat (first | exact Below.refl _ _ | (refine Below.setCell ?_ (by first | omega | (simp; done) | (simp; omega) | (simp at *; omega)) _) | (refine Below.alloc ?_ (by first | omega | (simp; done) | (simp; omega) | (simp at *; omega)) _) | refine Below.drew ?_ | (refine below_drewN ?_ _) | (refine Below.trans ?_ (Below.mono (by assumption) (by first | omega | (simp; done) | (simp; omega) | (simp at *; omega))))))
  have hS : W0.drew.cell? ⟨w1.heap.size, 0, none⟩ = some (.int .i64 f) ∧ W0.drew.cell? ⟨w1.heap.size, 1, none⟩ = some (.int .i64 r) ∧ Below w.heap.size w W0.drew := ⟨bA.cell 0, bA.cell 1, hB.drew⟩
  rw [hW0]
  clear hW0 hB bA hb hz
  go_region_held3 (fun W => W.cell? ⟨w1.heap.size, 0, none⟩ = some (.int .i64 f) ∧ W.cell? ⟨w1.heap.size, 1, none⟩ = some (.int .i64 r) ∧ Below w.heap.size w W)
    (first | exact hS | exact spot_keep (by assumption) hb | assumption)
    (first | (go_at_call 159; refine (places_any _).mono ?_; rintro e w2 ⟨rfl, hb⟩) | (go_at_call 138; refine (kindb_is c 67 _ Hk.out).mono ?_; rintro e w2 ⟨rfl, hb⟩) | (go_at_call 88; refine (indexb_is 67 5 _ rfl).mono ?_; rintro e w2 ⟨rfl, hb⟩) | (go_at_call 169; refine (isAnywhere_any f r _).mono ?_; rintro e w2 ⟨rfl, hb⟩))
  go_wp2
  go_ret
  exact ⟨rfl, spot_below (by assumption)⟩
set_option maxHeartbeats 4000000 in
theorem may_80 (c : Nat) (n s f r : Int) (w : World) (h : realB n s = true) (hs : sideN c = s) (hk : kindN c = 80) (hf : seenF n s = f) (hr : seenR n s = r) :
    Calls Tryz.prog 139 #[.int .u8 (c : Int), .int .i64 n] w (Gives w (.bool (pawnP f r))) := by
  unfold Gives
  have hix := places_6
  have bd := seen_in (side := s) (real_parts h).1
  rw [hf, hr] at bd
  obtain ⟨b0, b1, b2, b3⟩ := bd
  have Hs := Lib.hid hs
  have H := Lib.hid h
  have Hk := Lib.hid hk
  have Hf := Lib.hid hf
  have Hr := Lib.hid hr
  clear h hs hk hf hr
  go_enter Tryz.func139, Tryz.ntmps139
  go_wp2_with fail
  refine (side_any c _).mono ?_
  rintro e w' ⟨rfl, rfl⟩
  rw [Hs.out]
  go_wp2_with fail
  refine (seen_yes n _ _ H.out).mono ?_
  rintro e w1 ⟨rfl, hb⟩
  rw [Hf.out, Hr.out]
  have hz := hb.size
  go_wp2_with fail
  obtain ⟨W0, hW0⟩ : ∃ W0, w1.alloc (.cells #[.int .i64 f, .int .i64 r] 185) = W0 := ⟨_, rfl⟩
  have bA : Blk W0 w1.heap.size 185 #[.int .i64 f, .int .i64 r] := by rw [← hW0]; exact Blk.new _ _ _ rfl
  have hB : Below w.heap.size w W0 := by rw [← hW0]; exact (by repeat (first | exact Below.refl _ _ | (refine Below.setCell ?_ (by first | omega | (simp; done) | (simp; omega) | (simp at *; omega)) _) | (refine Below.alloc ?_ (by first | omega | (simp; done) | (simp; omega) | (simp at *; omega)) _) | refine Below.drew ?_ | (refine below_drewN ?_ _) | (refine Below.trans ?_ (Below.mono (by assumption) (by first | omega | (simp; done) | (simp; omega) | (simp at *; omega))))))
  have hS : W0.drew.cell? ⟨w1.heap.size, 0, none⟩ = some (.int .i64 f) ∧ W0.drew.cell? ⟨w1.heap.size, 1, none⟩ = some (.int .i64 r) ∧ Below w.heap.size w W0.drew := ⟨bA.cell 0, bA.cell 1, hB.drew⟩
  rw [hW0]
  clear hW0 hB bA hb hz
  go_region_held3 (fun W => W.cell? ⟨w1.heap.size, 0, none⟩ = some (.int .i64 f) ∧ W.cell? ⟨w1.heap.size, 1, none⟩ = some (.int .i64 r) ∧ Below w.heap.size w W)
    (first | exact hS | exact spot_keep (by assumption) hb | assumption)
    (first | (go_at_call 159; refine (places_any _).mono ?_; rintro e w2 ⟨rfl, hb⟩) | (go_at_call 138; refine (kindb_is c 80 _ Hk.out).mono ?_; rintro e w2 ⟨rfl, hb⟩) | (go_at_call 88; refine (indexb_is 80 6 _ rfl).mono ?_; rintro e w2 ⟨rfl, hb⟩) | (go_at_call 170; refine (isPawns_any f r _ b0 b1).mono ?_; rintro e w2 ⟨rfl, hb⟩))
  go_wp2
  go_ret
  exact ⟨rfl, spot_below (by assumption)⟩
end Go.Proofs.YtpogpjebhnoncabGreatDoor

namespace Go.Proofs.YtpogpjebhnoncabGreatDoor
open Go.RowKit Go.Shelf
open M (S)

theorem side_kind {c : Nat} (h : 0 ≤ sideN c) : kindN c = 75 ∨ kindN c = 65 ∨ kindN c = 66 ∨ kindN c = 78 ∨ kindN c = 82 ∨ kindN c = 67 ∨ kindN c = 80 := by
  rcases byte_cases c with ⟨kb, kr, _⟩ | rfl | rfl | rfl | rfl | rfl | rfl | rfl | rfl | rfl | rfl | rfl | rfl | rfl | rfl
  · have : sideN c = -1 := by simp [sideN, kb, kr]
    omega
  all_goals decide
theorem may_any (c : Nat) (n : Int) (w : World) : Calls Tryz.prog 139 #[.int .u8 (c : Int), .int .i64 n] w (Gives w (.bool (mayB c n))) := by
  cases h : realB n (sideN c)
  · rw [mayB, h]
    exact may_no c n w h
  · have hs : 0 ≤ sideN c := by
      rcases (real_parts h).2 with e | e <;> omega
    rw [mayB, h, Bool.true_and]
    rcases side_kind hs with hk | hk | hk | hk | hk | hk | hk
    · rw [hk]; exact may_75 c n _ _ _ w h rfl hk rfl rfl
    · rw [hk]; exact may_65 c n _ _ _ w h rfl hk rfl rfl
    · rw [hk]; exact may_66 c n _ _ _ w h rfl hk rfl rfl
    · rw [hk]; exact may_78 c n _ _ _ w h rfl hk rfl rfl
    · rw [hk]; exact may_82 c n _ _ _ w h rfl hk rfl rfl
    · rw [hk]; exact may_67 c n _ _ _ w h rfl hk rfl rfl
    · rw [hk]; exact may_80 c n _ _ _ w h rfl hk rfl rfl
theorem may_is (c : Nat) (n : Int) (b : Bool) (w : World) (h : mayB c n = b) : Calls Tryz.prog 139 #[.int .u8 (c : Int), .int .i64 n] w (Gives w (.bool b)) := by subst h; exact may_any c n w
theorem most_cases (c : Nat) : kindN c = 0 ∨ kindN c = 75 ∨ kindN c = 80 ∨ (kindN c ≠ 0 ∧ kindN c ≠ 75 ∧ kindN c ≠ 80) := by omega
set_option maxHeartbeats 1000000 in
theorem most_any (c : Nat) (w : World) : Calls Tryz.prog 137 #[.int .u8 (c : Int)] w (Says w (.int .i64 (mostN c : Nat))) := by
  unfold Says
  rcases most_cases c with h | h | h | ⟨h0, h1, h2⟩
  · have K : Hid (mostN c = 0) := by show _ = _; rw [mostN, h]; rfl
    have H := Lib.hid h
    clear h
    go_enter Tryz.func137, Tryz.ntmps137
    go_wp2_with fail
    refine (kind_any c _).mono ?_
    rintro e w1 ⟨rfl, rfl⟩
    rw [H.out]
    go_wp2
    go_ret
    exact ⟨by rw [K.out]; rfl, rfl⟩
  · have K : Hid (mostN c = 1) := by show _ = _; rw [mostN, h]; rfl
    have H := Lib.hid h
    clear h
    go_enter Tryz.func137, Tryz.ntmps137
    go_wp2_with fail
    refine (kind_any c _).mono ?_
    rintro e w1 ⟨rfl, rfl⟩
    rw [H.out]
    go_wp2
    go_ret
    exact ⟨by rw [K.out]; rfl, rfl⟩
  · have K : Hid (mostN c = 5) := by show _ = _; rw [mostN, h]; rfl
    have H := Lib.hid h
    clear h
    go_enter Tryz.func137, Tryz.ntmps137
    go_wp2_with fail
    refine (kind_any c _).mono ?_
    rintro e w1 ⟨rfl, rfl⟩
    rw [H.out]
    go_wp2
    go_ret
    exact ⟨by rw [K.out]; rfl, rfl⟩
  · have K : Hid (mostN c = 2) := by show _ = _; rw [mostN, if_neg h0, if_neg h1, if_neg h2]
    have e0 : ((kindN c : Int) == 0) = false := by rw [beq_eq_false_iff_ne]; omega
    have e1 : ((kindN c : Int) == 75) = false := by rw [beq_eq_false_iff_ne]; omega
    have e2 : ((kindN c : Int) == 80) = false := by rw [beq_eq_false_iff_ne]; omega
    clear h0 h1 h2
    go_enter Tryz.func137, Tryz.ntmps137
    go_wp2_with fail
    refine (kind_any c _).mono ?_
    rintro e w1 ⟨rfl, rfl⟩
    go_wp2
    go_ret
    exact ⟨by rw [K.out]; rfl, rfl⟩
theorem most_is (c k : Nat) (w : World) (h : mostN c = k) : Calls Tryz.prog 137 #[.int .u8 (c : Int)] w (Says w (.int .i64 (k : Int))) := by subst h; exact most_any c w
/-- The squares on which a piece may stand. -/
def pointsL (c : Nat) : List Int := trues (fun k => mayB c k) 90
end Go.Proofs.YtpogpjebhnoncabGreatDoor

namespace Go.Proofs.YtpogpjebhnoncabGreatDoor
open Go.RowKit Go.Shelf
open M (S)

/-- How many of the first k bytes of a text are b. -/
def cntN (s : ByteArray) (k b : Nat) : Nat := (trues (fun i => bAt s i == b) k).length
theorem cntN_succ (s : ByteArray) (k b : Nat) : cntN s (k + 1) b = if bAt s k = b then cntN s k b + 1 else cntN s k b := by
  unfold cntN
  rw [trues_succ]
  by_cases h : bAt s k = b
  · rw [if_pos h, if_pos (by simpa using h), List.length_append]; rfl
  · rw [if_neg h, if_neg (by simpa using h)]
theorem cntN_le (s : ByteArray) (k b : Nat) : cntN s k b ≤ k := trues_le _ k
/-- 256 counts in memory. -/
def cntC (s : ByteArray) (k : Nat) : Array Value := ((List.range 256).map fun b => Value.int .i64 (cntN s k b : Nat)).toArray
theorem cntC_at (s : ByteArray) (k b : Nat) (h : b < 256) : (cntC s k)[b]? = some (.int .i64 (cntN s k b : Nat)) := by simp [cntC, h]
theorem cntC_set (s : ByteArray) (k : Nat) : (cntC s k).setIfInBounds (bAt s k) (.int .i64 ((cntN s k (bAt s k) + 1 : Nat) : Int)) = cntC s (k + 1) := by
  apply Array.ext
  · simp [cntC]
  · intro i h1 h2
    simp only [cntC, List.size_toArray, List.length_map, List.length_range] at h2
    rw [Array.getElem_setIfInBounds (by simpa [cntC] using h2)]
    simp only [cntC, List.getElem_toArray, List.getElem_map, List.getElem_range]
    rw [cntN_succ]
    by_cases e : bAt s k = i
    · rw [if_pos e, if_pos e, e]
    · rw [if_neg e, if_neg e]
theorem cntC_zero (s t : ByteArray) : cntC s 0 = cntC t 0 := rfl
/-- Not more than there may be of a kind, of either side. -/
def fewB (s : ByteArray) (n c : Nat) : Bool := decide (cntN s n c ≤ mostN c) && decide (cntN s n (c + 32) ≤ mostN (c + 32))
def kindsL : List Nat := [75, 65, 66, 78, 82, 67, 80]
/-- As many of each piece as there may be? -/
def countsB (s : ByteArray) (n : Nat) : Bool := kindsL.all (fewB s n) && (cntN s n 75 == 1) && (cntN s n 107 == 1)
theorem counts_no {s : ByteArray} {n c : Nat} (hc : c ∈ kindsL) (h : fewB s n c = false) : countsB s n = false := by
  unfold countsB
  rw [List.all_eq_false.2 ⟨c, hc, by simp [h]⟩]
  rfl
theorem counts_yes {s : ByteArray} {n : Nat} (h : ∀ j, j < 7 → fewB s n (kindsL.getD j 0) = true) : countsB s n = ((cntN s n 75 == 1) && (cntN s n 107 == 1)) := by
  have ha : kindsL.all (fewB s n) = true := by
    rw [List.all_eq_true]
    intro c hc
    simp only [kindsL, List.mem_cons, List.not_mem_nil, or_false] at hc
    rcases hc with rfl | rfl | rfl | rfl | rfl | rfl | rfl
    · exact h 0 (by decide)
    · exact h 1 (by decide)
    · exact h 2 (by decide)
    · exact h 3 (by decide)
    · exact h 4 (by decide)
    · exact h 5 (by decide)
    · exact h 6 (by decide)
  unfold countsB
  rw [ha, Bool.true_and]
theorem few_red {s : ByteArray} {n c x m : Nat} (hx : cntN s n c = x) (hm : mostN c = m) (h : m < x) : fewB s n c = false := by
  unfold fewB
  rw [hx, hm, decide_eq_false (by omega), Bool.false_and]
theorem few_black {s : ByteArray} {n c x m : Nat} (hx : cntN s n (c + 32) = x) (hm : mostN (c + 32) = m) (h : m < x) : fewB s n c = false := by
  unfold fewB
  rw [hx, hm, decide_eq_false (p := x ≤ m) (by omega), Bool.and_false]
theorem few_ok {s : ByteArray} {n c x y m : Nat} (hx : cntN s n c = x) (hy : cntN s n (c + 32) = y) (hm : mostN c = m) (hm' : mostN (c + 32) = m) (h : x ≤ m) (h' : y ≤ m) : fewB s n c = true := by
  unfold fewB
  rw [hx, hy, hm, hm', decide_eq_true h, decide_eq_true h']
  rfl

theorem zeros256 : Tryz.zeroCells164 = cntC ByteArray.empty 0 := by kernel_rfl
theorem mostI (c k : Int) (w : World) (h : 0 ≤ c) (hk : (mostN c.toNat : Int) = k) : Calls Tryz.prog 137 #[.int .u8 c] w fun e w' => e = .returned (.int .i64 k) ∧ w' = w := by
  obtain ⟨n, rfl⟩ : ∃ n : Nat, c = n := ⟨c.toNat, by omega⟩
  subst hk
  exact (most_any n w).mono fun _ _ ⟨a, b⟩ => ⟨by rw [Int.toNat_natCast]; exact a, b.symm⟩
set_option maxRecDepth 100000 in
set_option maxHeartbeats 8000000 in
theorem haveCounts_any (s : ByteArray) (w : World) (hs : s.size ≤ 1000000) : Calls Tryz.prog 114 #[.string s] w (Gives w (.bool (countsB s s.size))) := by
  unfold Gives
  go_enter Tryz.func114, Tryz.ntmps114
  go_wp2_with fail
  obtain ⟨W0, hW0⟩ : ∃ W0, w.alloc (.cells Tryz.zeroCells164 164) = W0 := ⟨_, rfl⟩
  have hb0 : Below w.heap.size w W0 := by rw [← hW0]; exact (by repeat (first | exact Below.refl _ _ | (refine Below.setCell ?_ (by first | omega | (simp; done) | (simp; omega) | (simp at *; omega)) _) | (refine Below.alloc ?_ (by first | omega | (simp; done) | (simp; omega) | (simp at *; omega)) _) | refine Below.drew ?_ | (refine below_drewN ?_ _) | (refine Below.trans ?_ (Below.mono (by assumption) (by first | omega | (simp; done) | (simp; omega) | (simp at *; omega))))))
  have bT : Blk W0 w.heap.size 164 (cntC s 0) := by rw [← hW0, zeros256]; exact Blk.new _ _ _ rfl
  rw [hW0]
  clear hW0
  go_loopw [4, 10] (fun _ i wr => ∃ k : Nat, k ≤ s.size ∧ i = .int .i64 k ∧ Blk wr w.heap.size 164 (cntC s k) ∧ Below w.heap.size w wr) (fun _ i _ => s.size - (intOf i).toNat)
  case atStart => exact ⟨0, by omega, rfl, bT, hb0⟩
  case round =>
    obtain ⟨k, hk, rfl, bT, hB⟩ := hrel
    by_cases hlt : k < s.size
    · obtain ⟨x, hx⟩ : ∃ x, bAt s k = x := ⟨_, rfl⟩
      have hbk : s[k].toNat = x := (bAt_eq s k hlt).trans hx
      have hx256 : x < 256 := by rw [← hx]; exact bAt_lt _ _
      have c0 := bT.cell x
      rw [cntC_at s k x hx256] at c0
      have f0 := bT.frozen x
      have hst := cntC_set s k
      have hle := cntN_le s k x
      rw [hx] at hst
      obtain ⟨y, hy⟩ : ∃ y, cntN s k x = y := ⟨_, rfl⟩
      rw [hy] at c0 hst hle
      have Hst := Lib.hid hst
      have Hx := Lib.hid hx
      clear hst hx hy
      go_wp2
      go_roundw
      case rel => exact ⟨k + 1, by omega, by go_num, by have h := bT.set_ x (.int .i64 ((y + 1 : Nat) : Int)); rw [Hst.out] at h; exact h, hB.setCell (p := ⟨w.heap.size, x, none⟩) (Nat.le_refl _) _⟩
      case measure => simp [intOf]; omega
    · obtain rfl : k = s.size := by omega
      have bTn := bT
      go_wp2_with fail
      go_loopw [5, 6, 7, 21] (fun _ _ _ i wr' => ∃ j : Nat, j ≤ 7 ∧ i = .int .i64 j ∧ (∀ u, u < j → fewB s s.size (kindsL.getD u 0) = true) ∧ Blk wr' w.heap.size 164 (cntC s s.size) ∧ Below w.heap.size w wr') (fun _ _ _ i _ => 7 - (intOf i).toNat)
      case atStart => exact ⟨0, by omega, rfl, fun u hu => absurd hu (Nat.not_lt_zero u), bTn, hB⟩
      case round =>
        obtain ⟨j, hj, rfl, hall, bT, hB⟩ := hrel
        have Hall := Lib.hid hall
        clear hall
        by_cases hj7 : j = 7
        · subst hj7
          have K := Lib.hid (counts_yes Hall.out)
          have c0 := bT.cell 75
          have c1 := bT.cell 107
          rw [cntC_at s s.size 75 (by decide)] at c0
          rw [cntC_at s s.size 107 (by decide)] at c1
          obtain ⟨x, hx⟩ : ∃ x, cntN s s.size 75 = x := ⟨_, rfl⟩
          obtain ⟨y, hy⟩ : ∃ y, cntN s s.size 107 = y := ⟨_, rfl⟩
          rw [hx] at c0
          rw [hy] at c1
          have K2 : Hid (countsB s s.size = ((x == 1) && (y == 1))) := by show _ = _; rw [K.out, hx, hy]
          have ey : Hid (((y : Int) == 1) = (y == 1)) := by show _ = _; rw [Bool.eq_iff_iff]; simp; omega
          clear hx hy
          by_cases h1 : x = 1
          · have e1 : ((x : Int) == 1) = true := by rw [beq_iff_eq]; omega
            have k1 : Hid ((x == 1) = true) := by show _ = _; simp [h1]
            clear h1
            go_wp2
            go_ret
            exact ⟨by rw [K2.out, k1.out, Bool.true_and, ← ey.out]; rfl, hB⟩
          · have e1 : ((x : Int) == 1) = false := by rw [beq_eq_false_iff_ne]; omega
            have k1 : Hid ((x == 1) = false) := by show _ = _; simp [h1]
            clear h1
            go_wp2
            go_ret
            exact ⟨by rw [K2.out, k1.out, Bool.false_and]; rfl, hB⟩
        have hj' : j = 0 ∨ j = 1 ∨ j = 2 ∨ j = 3 ∨ j = 4 ∨ j = 5 ∨ j = 6 := by omega
        clear hj7 hj
        rcases hj' with rfl | rfl | rfl | rfl | rfl | rfl | rfl
        · obtain ⟨x, hx⟩ : ∃ x, cntN s s.size 75 = x := ⟨_, rfl⟩
          obtain ⟨y, hy⟩ : ∃ y, cntN s s.size 107 = y := ⟨_, rfl⟩
          have Hx := Lib.hid hx
          have Hy := Lib.hid hy
          by_cases h1 : 1 < x
          · have K := Lib.hid (counts_no (s := s) (n := s.size) (c := 75) (by decide) (few_red hx rfl h1))
            have e1 : decide (1 < (x : Int)) = true := by simp; omega
            have e2 : decide (1 < x) = true := by simp; omega
            clear hx hy h1
            have hk0 : ((⟨#[75, 65, 66, 78, 82, 67, 80]⟩ : ByteArray)[0]'(by decide)).toNat = 75 := rfl
            go_wp2_with fail
            go_quiet (fail)
            go_wp2_with fail
            have bT1 := bT.next (below_drewN (Below.refl _ _) nq)
            have hB1 := below_drewN hB nq
            generalize wr.drewN nq = W1 at bT1 hB1 ⊢
            have c0 := bT1.cell 75
            have c1 := bT1.cell 107
            rw [cntC_at s s.size 75 (by decide), Hx.out] at c0
            rw [cntC_at s s.size 107 (by decide), Hy.out] at c1
            clear hk0
            go_quiet ((go_at_call 137; exact Calls.quiet_of_same (mostI _ 1 _ (by decide) (by decide))))
            go_wp2
            go_ret
            exact ⟨by rw [K.out]; rfl, below_drewN hB1 _⟩
          · have e1 : decide (1 < (x : Int)) = false := by simp; omega
            have e2 : decide (1 < x) = false := by simp; omega
            by_cases h2 : 1 < y
            · have K := Lib.hid (counts_no (s := s) (n := s.size) (c := 75) (by decide) (few_black hy rfl h2))
              have e3 : decide (1 < (y : Int)) = true := by simp; omega
              have e4 : decide (1 < y) = true := by simp; omega
              clear hx hy h1 h2
              have hk0 : ((⟨#[75, 65, 66, 78, 82, 67, 80]⟩ : ByteArray)[0]'(by decide)).toNat = 75 := rfl
              go_wp2_with fail
              go_quiet (fail)
              go_wp2_with fail
              have bT1 := bT.next (below_drewN (Below.refl _ _) nq)
              have hB1 := below_drewN hB nq
              generalize wr.drewN nq = W1 at bT1 hB1 ⊢
              have c0 := bT1.cell 75
              have c1 := bT1.cell 107
              rw [cntC_at s s.size 75 (by decide), Hx.out] at c0
              rw [cntC_at s s.size 107 (by decide), Hy.out] at c1
              clear hk0
              go_quiet ((go_at_call 137; exact Calls.quiet_of_same (mostI _ 1 _ (by decide) (by decide))))
              go_wp2
              go_ret
              exact ⟨by rw [K.out]; rfl, below_drewN hB1 _⟩
            · have K := Lib.hid (few_ok (s := s) (n := s.size) (c := 75) (m := 1) hx hy rfl rfl (by omega) (by omega))
              have e3 : decide (1 < (y : Int)) = false := by simp; omega
              have e4 : decide (1 < y) = false := by simp; omega
              clear hx hy h1 h2
              have hk0 : ((⟨#[75, 65, 66, 78, 82, 67, 80]⟩ : ByteArray)[0]'(by decide)).toNat = 75 := rfl
              go_wp2_with fail
              go_quiet (fail)
              go_wp2_with fail
              have bT1 := bT.next (below_drewN (Below.refl _ _) nq)
              have hB1 := below_drewN hB nq
              generalize wr.drewN nq = W1 at bT1 hB1 ⊢
              have c0 := bT1.cell 75
              have c1 := bT1.cell 107
              rw [cntC_at s s.size 75 (by decide), Hx.out] at c0
              rw [cntC_at s s.size 107 (by decide), Hy.out] at c1
              clear hk0
              go_quiet ((go_at_call 137; exact Calls.quiet_of_same (mostI _ 1 _ (by decide) (by decide))))
              go_wp2
              go_roundw
              case rel => exact ⟨1, by omega, rfl, fun u hu => (by
                rcases Nat.lt_or_ge u 0 with h | h
                · exact Hall.out u h
                · rw [show u = 0 by omega]; exact K.out), bT1.next (below_drewN (Below.refl _ _) _), below_drewN hB1 _⟩
              case measure => simp [intOf]
        · obtain ⟨x, hx⟩ : ∃ x, cntN s s.size 65 = x := ⟨_, rfl⟩
          obtain ⟨y, hy⟩ : ∃ y, cntN s s.size 97 = y := ⟨_, rfl⟩
          have Hx := Lib.hid hx
          have Hy := Lib.hid hy
          by_cases h1 : 2 < x
          · have K := Lib.hid (counts_no (s := s) (n := s.size) (c := 65) (by decide) (few_red hx rfl h1))
            have e1 : decide (2 < (x : Int)) = true := by simp; omega
            have e2 : decide (2 < x) = true := by simp; omega
            clear hx hy h1
            have hk0 : ((⟨#[75, 65, 66, 78, 82, 67, 80]⟩ : ByteArray)[1]'(by decide)).toNat = 65 := rfl
            go_wp2_with fail
            go_quiet (fail)
            go_wp2_with fail
            have bT1 := bT.next (below_drewN (Below.refl _ _) nq)
            have hB1 := below_drewN hB nq
            generalize wr.drewN nq = W1 at bT1 hB1 ⊢
            have c0 := bT1.cell 65
            have c1 := bT1.cell 97
            rw [cntC_at s s.size 65 (by decide), Hx.out] at c0
            rw [cntC_at s s.size 97 (by decide), Hy.out] at c1
            clear hk0
            go_quiet ((go_at_call 137; exact Calls.quiet_of_same (mostI _ 2 _ (by decide) (by decide))))
            go_wp2
            go_ret
            exact ⟨by rw [K.out]; rfl, below_drewN hB1 _⟩
          · have e1 : decide (2 < (x : Int)) = false := by simp; omega
            have e2 : decide (2 < x) = false := by simp; omega
            by_cases h2 : 2 < y
            · have K := Lib.hid (counts_no (s := s) (n := s.size) (c := 65) (by decide) (few_black hy rfl h2))
              have e3 : decide (2 < (y : Int)) = true := by simp; omega
              have e4 : decide (2 < y) = true := by simp; omega
              clear hx hy h1 h2
              have hk0 : ((⟨#[75, 65, 66, 78, 82, 67, 80]⟩ : ByteArray)[1]'(by decide)).toNat = 65 := rfl
              go_wp2_with fail
              go_quiet (fail)
              go_wp2_with fail
              have bT1 := bT.next (below_drewN (Below.refl _ _) nq)
              have hB1 := below_drewN hB nq
              generalize wr.drewN nq = W1 at bT1 hB1 ⊢
              have c0 := bT1.cell 65
              have c1 := bT1.cell 97
              rw [cntC_at s s.size 65 (by decide), Hx.out] at c0
              rw [cntC_at s s.size 97 (by decide), Hy.out] at c1
              clear hk0
              go_quiet ((go_at_call 137; exact Calls.quiet_of_same (mostI _ 2 _ (by decide) (by decide))))
              go_wp2
              go_ret
              exact ⟨by rw [K.out]; rfl, below_drewN hB1 _⟩
            · have K := Lib.hid (few_ok (s := s) (n := s.size) (c := 65) (m := 2) hx hy rfl rfl (by omega) (by omega))
              have e3 : decide (2 < (y : Int)) = false := by simp; omega
              have e4 : decide (2 < y) = false := by simp; omega
              clear hx hy h1 h2
              have hk0 : ((⟨#[75, 65, 66, 78, 82, 67, 80]⟩ : ByteArray)[1]'(by decide)).toNat = 65 := rfl
              go_wp2_with fail
              go_quiet (fail)
              go_wp2_with fail
              have bT1 := bT.next (below_drewN (Below.refl _ _) nq)
              have hB1 := below_drewN hB nq
              generalize wr.drewN nq = W1 at bT1 hB1 ⊢
              have c0 := bT1.cell 65
              have c1 := bT1.cell 97
              rw [cntC_at s s.size 65 (by decide), Hx.out] at c0
              rw [cntC_at s s.size 97 (by decide), Hy.out] at c1
              clear hk0
              go_quiet ((go_at_call 137; exact Calls.quiet_of_same (mostI _ 2 _ (by decide) (by decide))))
              go_wp2
              go_roundw
              case rel => exact ⟨2, by omega, rfl, fun u hu => (by
                rcases Nat.lt_or_ge u 1 with h | h
                · exact Hall.out u h
                · rw [show u = 1 by omega]; exact K.out), bT1.next (below_drewN (Below.refl _ _) _), below_drewN hB1 _⟩
              case measure => simp [intOf]
        · obtain ⟨x, hx⟩ : ∃ x, cntN s s.size 66 = x := ⟨_, rfl⟩
          obtain ⟨y, hy⟩ : ∃ y, cntN s s.size 98 = y := ⟨_, rfl⟩
          have Hx := Lib.hid hx
          have Hy := Lib.hid hy
          by_cases h1 : 2 < x
          · have K := Lib.hid (counts_no (s := s) (n := s.size) (c := 66) (by decide) (few_red hx rfl h1))
            have e1 : decide (2 < (x : Int)) = true := by simp; omega
            have e2 : decide (2 < x) = true := by simp; omega
            clear hx hy h1
            have hk0 : ((⟨#[75, 65, 66, 78, 82, 67, 80]⟩ : ByteArray)[2]'(by decide)).toNat = 66 := rfl
            go_wp2_with fail
            go_quiet (fail)
            go_wp2_with fail
            have bT1 := bT.next (below_drewN (Below.refl _ _) nq)
            have hB1 := below_drewN hB nq
            generalize wr.drewN nq = W1 at bT1 hB1 ⊢
            have c0 := bT1.cell 66
            have c1 := bT1.cell 98
            rw [cntC_at s s.size 66 (by decide), Hx.out] at c0
            rw [cntC_at s s.size 98 (by decide), Hy.out] at c1
            clear hk0
            go_quiet ((go_at_call 137; exact Calls.quiet_of_same (mostI _ 2 _ (by decide) (by decide))))
            go_wp2
            go_ret
            exact ⟨by rw [K.out]; rfl, below_drewN hB1 _⟩
          · have e1 : decide (2 < (x : Int)) = false := by simp; omega
            have e2 : decide (2 < x) = false := by simp; omega
            by_cases h2 : 2 < y
            · have K := Lib.hid (counts_no (s := s) (n := s.size) (c := 66) (by decide) (few_black hy rfl h2))
              have e3 : decide (2 < (y : Int)) = true := by simp; omega
              have e4 : decide (2 < y) = true := by simp; omega
              clear hx hy h1 h2
              have hk0 : ((⟨#[75, 65, 66, 78, 82, 67, 80]⟩ : ByteArray)[2]'(by decide)).toNat = 66 := rfl
              go_wp2_with fail
              go_quiet (fail)
              go_wp2_with fail
              have bT1 := bT.next (below_drewN (Below.refl _ _) nq)
              have hB1 := below_drewN hB nq
              generalize wr.drewN nq = W1 at bT1 hB1 ⊢
              have c0 := bT1.cell 66
              have c1 := bT1.cell 98
              rw [cntC_at s s.size 66 (by decide), Hx.out] at c0
              rw [cntC_at s s.size 98 (by decide), Hy.out] at c1
              clear hk0
              go_quiet ((go_at_call 137; exact Calls.quiet_of_same (mostI _ 2 _ (by decide) (by decide))))
              go_wp2
              go_ret
              exact ⟨by rw [K.out]; rfl, below_drewN hB1 _⟩
            · have K := Lib.hid (few_ok (s := s) (n := s.size) (c := 66) (m := 2) hx hy rfl rfl (by omega) (by omega))
              have e3 : decide (2 < (y : Int)) = false := by simp; omega
              have e4 : decide (2 < y) = false := by simp; omega
              clear hx hy h1 h2
              have hk0 : ((⟨#[75, 65, 66, 78, 82, 67, 80]⟩ : ByteArray)[2]'(by decide)).toNat = 66 := rfl
              go_wp2_with fail
              go_quiet (fail)
              go_wp2_with fail
              have bT1 := bT.next (below_drewN (Below.refl _ _) nq)
              have hB1 := below_drewN hB nq
              generalize wr.drewN nq = W1 at bT1 hB1 ⊢
              have c0 := bT1.cell 66
              have c1 := bT1.cell 98
              rw [cntC_at s s.size 66 (by decide), Hx.out] at c0
              rw [cntC_at s s.size 98 (by decide), Hy.out] at c1
              clear hk0
              go_quiet ((go_at_call 137; exact Calls.quiet_of_same (mostI _ 2 _ (by decide) (by decide))))
              go_wp2
              go_roundw
              case rel => exact ⟨3, by omega, rfl, fun u hu => (by
                rcases Nat.lt_or_ge u 2 with h | h
                · exact Hall.out u h
                · rw [show u = 2 by omega]; exact K.out), bT1.next (below_drewN (Below.refl _ _) _), below_drewN hB1 _⟩
              case measure => simp [intOf]
        · obtain ⟨x, hx⟩ : ∃ x, cntN s s.size 78 = x := ⟨_, rfl⟩
          obtain ⟨y, hy⟩ : ∃ y, cntN s s.size 110 = y := ⟨_, rfl⟩
          have Hx := Lib.hid hx
          have Hy := Lib.hid hy
          by_cases h1 : 2 < x
          · have K := Lib.hid (counts_no (s := s) (n := s.size) (c := 78) (by decide) (few_red hx rfl h1))
            have e1 : decide (2 < (x : Int)) = true := by simp; omega
            have e2 : decide (2 < x) = true := by simp; omega
            clear hx hy h1
            have hk0 : ((⟨#[75, 65, 66, 78, 82, 67, 80]⟩ : ByteArray)[3]'(by decide)).toNat = 78 := rfl
            go_wp2_with fail
            go_quiet (fail)
            go_wp2_with fail
            have bT1 := bT.next (below_drewN (Below.refl _ _) nq)
            have hB1 := below_drewN hB nq
            generalize wr.drewN nq = W1 at bT1 hB1 ⊢
            have c0 := bT1.cell 78
            have c1 := bT1.cell 110
            rw [cntC_at s s.size 78 (by decide), Hx.out] at c0
            rw [cntC_at s s.size 110 (by decide), Hy.out] at c1
            clear hk0
            go_quiet ((go_at_call 137; exact Calls.quiet_of_same (mostI _ 2 _ (by decide) (by decide))))
            go_wp2
            go_ret
            exact ⟨by rw [K.out]; rfl, below_drewN hB1 _⟩
          · have e1 : decide (2 < (x : Int)) = false := by simp; omega
            have e2 : decide (2 < x) = false := by simp; omega
            by_cases h2 : 2 < y
            · have K := Lib.hid (counts_no (s := s) (n := s.size) (c := 78) (by decide) (few_black hy rfl h2))
              have e3 : decide (2 < (y : Int)) = true := by simp; omega
              have e4 : decide (2 < y) = true := by simp; omega
              clear hx hy h1 h2
              have hk0 : ((⟨#[75, 65, 66, 78, 82, 67, 80]⟩ : ByteArray)[3]'(by decide)).toNat = 78 := rfl
              go_wp2_with fail
              go_quiet (fail)
              go_wp2_with fail
              have bT1 := bT.next (below_drewN (Below.refl _ _) nq)
              have hB1 := below_drewN hB nq
              generalize wr.drewN nq = W1 at bT1 hB1 ⊢
              have c0 := bT1.cell 78
              have c1 := bT1.cell 110
              rw [cntC_at s s.size 78 (by decide), Hx.out] at c0
              rw [cntC_at s s.size 110 (by decide), Hy.out] at c1
              clear hk0
              go_quiet ((go_at_call 137; exact Calls.quiet_of_same (mostI _ 2 _ (by decide) (by decide))))
              go_wp2
              go_ret
              exact ⟨by rw [K.out]; rfl, below_drewN hB1 _⟩
            · have K := Lib.hid (few_ok (s := s) (n := s.size) (c := 78) (m := 2) hx hy rfl rfl (by omega) (by omega))
              have e3 : decide (2 < (y : Int)) = false := by simp; omega
              have e4 : decide (2 < y) = false := by simp; omega
              clear hx hy h1 h2
              have hk0 : ((⟨#[75, 65, 66, 78, 82, 67, 80]⟩ : ByteArray)[3]'(by decide)).toNat = 78 := rfl
              go_wp2_with fail
              go_quiet (fail)
              go_wp2_with fail
              have bT1 := bT.next (below_drewN (Below.refl _ _) nq)
              have hB1 := below_drewN hB nq
              generalize wr.drewN nq = W1 at bT1 hB1 ⊢
              have c0 := bT1.cell 78
              have c1 := bT1.cell 110
              rw [cntC_at s s.size 78 (by decide), Hx.out] at c0
              rw [cntC_at s s.size 110 (by decide), Hy.out] at c1
              clear hk0
              go_quiet ((go_at_call 137; exact Calls.quiet_of_same (mostI _ 2 _ (by decide) (by decide))))
              go_wp2
              go_roundw
              case rel => exact ⟨4, by omega, rfl, fun u hu => (by
                rcases Nat.lt_or_ge u 3 with h | h
                · exact Hall.out u h
                · rw [show u = 3 by omega]; exact K.out), bT1.next (below_drewN (Below.refl _ _) _), below_drewN hB1 _⟩
              case measure => simp [intOf]
        · obtain ⟨x, hx⟩ : ∃ x, cntN s s.size 82 = x := ⟨_, rfl⟩
          obtain ⟨y, hy⟩ : ∃ y, cntN s s.size 114 = y := ⟨_, rfl⟩
          have Hx := Lib.hid hx
          have Hy := Lib.hid hy
          by_cases h1 : 2 < x
          · have K := Lib.hid (counts_no (s := s) (n := s.size) (c := 82) (by decide) (few_red hx rfl h1))
            have e1 : decide (2 < (x : Int)) = true := by simp; omega
            have e2 : decide (2 < x) = true := by simp; omega
            clear hx hy h1
            have hk0 : ((⟨#[75, 65, 66, 78, 82, 67, 80]⟩ : ByteArray)[4]'(by decide)).toNat = 82 := rfl
            go_wp2_with fail
            go_quiet (fail)
            go_wp2_with fail
            have bT1 := bT.next (below_drewN (Below.refl _ _) nq)
            have hB1 := below_drewN hB nq
            generalize wr.drewN nq = W1 at bT1 hB1 ⊢
            have c0 := bT1.cell 82
            have c1 := bT1.cell 114
            rw [cntC_at s s.size 82 (by decide), Hx.out] at c0
            rw [cntC_at s s.size 114 (by decide), Hy.out] at c1
            clear hk0
            go_quiet ((go_at_call 137; exact Calls.quiet_of_same (mostI _ 2 _ (by decide) (by decide))))
            go_wp2
            go_ret
            exact ⟨by rw [K.out]; rfl, below_drewN hB1 _⟩
          · have e1 : decide (2 < (x : Int)) = false := by simp; omega
            have e2 : decide (2 < x) = false := by simp; omega
            by_cases h2 : 2 < y
            · have K := Lib.hid (counts_no (s := s) (n := s.size) (c := 82) (by decide) (few_black hy rfl h2))
              have e3 : decide (2 < (y : Int)) = true := by simp; omega
              have e4 : decide (2 < y) = true := by simp; omega
              clear hx hy h1 h2
              have hk0 : ((⟨#[75, 65, 66, 78, 82, 67, 80]⟩ : ByteArray)[4]'(by decide)).toNat = 82 := rfl
              go_wp2_with fail
              go_quiet (fail)
              go_wp2_with fail
              have bT1 := bT.next (below_drewN (Below.refl _ _) nq)
              have hB1 := below_drewN hB nq
              generalize wr.drewN nq = W1 at bT1 hB1 ⊢
              have c0 := bT1.cell 82
              have c1 := bT1.cell 114
              rw [cntC_at s s.size 82 (by decide), Hx.out] at c0
              rw [cntC_at s s.size 114 (by decide), Hy.out] at c1
              clear hk0
              go_quiet ((go_at_call 137; exact Calls.quiet_of_same (mostI _ 2 _ (by decide) (by decide))))
              go_wp2
              go_ret
              exact ⟨by rw [K.out]; rfl, below_drewN hB1 _⟩
            · have K := Lib.hid (few_ok (s := s) (n := s.size) (c := 82) (m := 2) hx hy rfl rfl (by omega) (by omega))
              have e3 : decide (2 < (y : Int)) = false := by simp; omega
              have e4 : decide (2 < y) = false := by simp; omega
              clear hx hy h1 h2
              have hk0 : ((⟨#[75, 65, 66, 78, 82, 67, 80]⟩ : ByteArray)[4]'(by decide)).toNat = 82 := rfl
              go_wp2_with fail
              go_quiet (fail)
              go_wp2_with fail
              have bT1 := bT.next (below_drewN (Below.refl _ _) nq)
              have hB1 := below_drewN hB nq
              generalize wr.drewN nq = W1 at bT1 hB1 ⊢
              have c0 := bT1.cell 82
              have c1 := bT1.cell 114
              rw [cntC_at s s.size 82 (by decide), Hx.out] at c0
              rw [cntC_at s s.size 114 (by decide), Hy.out] at c1
              clear hk0
              go_quiet ((go_at_call 137; exact Calls.quiet_of_same (mostI _ 2 _ (by decide) (by decide))))
              go_wp2
              go_roundw
              case rel => exact ⟨5, by omega, rfl, fun u hu => (by
                rcases Nat.lt_or_ge u 4 with h | h
                · exact Hall.out u h
                · rw [show u = 4 by omega]; exact K.out), bT1.next (below_drewN (Below.refl _ _) _), below_drewN hB1 _⟩
              case measure => simp [intOf]
        · obtain ⟨x, hx⟩ : ∃ x, cntN s s.size 67 = x := ⟨_, rfl⟩
          obtain ⟨y, hy⟩ : ∃ y, cntN s s.size 99 = y := ⟨_, rfl⟩
          have Hx := Lib.hid hx
          have Hy := Lib.hid hy
          by_cases h1 : 2 < x
          · have K := Lib.hid (counts_no (s := s) (n := s.size) (c := 67) (by decide) (few_red hx rfl h1))
            have e1 : decide (2 < (x : Int)) = true := by simp; omega
            have e2 : decide (2 < x) = true := by simp; omega
            clear hx hy h1
            have hk0 : ((⟨#[75, 65, 66, 78, 82, 67, 80]⟩ : ByteArray)[5]'(by decide)).toNat = 67 := rfl
            go_wp2_with fail
            go_quiet (fail)
            go_wp2_with fail
            have bT1 := bT.next (below_drewN (Below.refl _ _) nq)
            have hB1 := below_drewN hB nq
            generalize wr.drewN nq = W1 at bT1 hB1 ⊢
            have c0 := bT1.cell 67
            have c1 := bT1.cell 99
            rw [cntC_at s s.size 67 (by decide), Hx.out] at c0
            rw [cntC_at s s.size 99 (by decide), Hy.out] at c1
            clear hk0
            go_quiet ((go_at_call 137; exact Calls.quiet_of_same (mostI _ 2 _ (by decide) (by decide))))
            go_wp2
            go_ret
            exact ⟨by rw [K.out]; rfl, below_drewN hB1 _⟩
          · have e1 : decide (2 < (x : Int)) = false := by simp; omega
            have e2 : decide (2 < x) = false := by simp; omega
            by_cases h2 : 2 < y
            · have K := Lib.hid (counts_no (s := s) (n := s.size) (c := 67) (by decide) (few_black hy rfl h2))
              have e3 : decide (2 < (y : Int)) = true := by simp; omega
              have e4 : decide (2 < y) = true := by simp; omega
              clear hx hy h1 h2
              have hk0 : ((⟨#[75, 65, 66, 78, 82, 67, 80]⟩ : ByteArray)[5]'(by decide)).toNat = 67 := rfl
              go_wp2_with fail
              go_quiet (fail)
              go_wp2_with fail
              have bT1 := bT.next (below_drewN (Below.refl _ _) nq)
              have hB1 := below_drewN hB nq
              generalize wr.drewN nq = W1 at bT1 hB1 ⊢
              have c0 := bT1.cell 67
              have c1 := bT1.cell 99
              rw [cntC_at s s.size 67 (by decide), Hx.out] at c0
              rw [cntC_at s s.size 99 (by decide), Hy.out] at c1
              clear hk0
              go_quiet ((go_at_call 137; exact Calls.quiet_of_same (mostI _ 2 _ (by decide) (by decide))))
              go_wp2
              go_ret
              exact ⟨by rw [K.out]; rfl, below_drewN hB1 _⟩
            · have K := Lib.hid (few_ok (s := s) (n := s.size) (c := 67) (m := 2) hx hy rfl rfl (by omega) (by omega))
              have e3 : decide (2 < (y : Int)) = false := by simp; omega
              have e4 : decide (2 < y) = false := by simp; omega
              clear hx hy h1 h2
              have hk0 : ((⟨#[75, 65, 66, 78, 82, 67, 80]⟩ : ByteArray)[5]'(by decide)).toNat = 67 := rfl
              go_wp2_with fail
              go_quiet (fail)
              go_wp2_with fail
              have bT1 := bT.next (below_drewN (Below.refl _ _) nq)
              have hB1 := below_drewN hB nq
              generalize wr.drewN nq = W1 at bT1 hB1 ⊢
              have c0 := bT1.cell 67
              have c1 := bT1.cell 99
              rw [cntC_at s s.size 67 (by decide), Hx.out] at c0
              rw [cntC_at s s.size 99 (by decide), Hy.out] at c1
              clear hk0
              go_quiet ((go_at_call 137; exact Calls.quiet_of_same (mostI _ 2 _ (by decide) (by decide))))
              go_wp2
              go_roundw
              case rel => exact ⟨6, by omega, rfl, fun u hu => (by
                rcases Nat.lt_or_ge u 5 with h | h
                · exact Hall.out u h
                · rw [show u = 5 by omega]; exact K.out), bT1.next (below_drewN (Below.refl _ _) _), below_drewN hB1 _⟩
              case measure => simp [intOf]
        · obtain ⟨x, hx⟩ : ∃ x, cntN s s.size 80 = x := ⟨_, rfl⟩
          obtain ⟨y, hy⟩ : ∃ y, cntN s s.size 112 = y := ⟨_, rfl⟩
          have Hx := Lib.hid hx
          have Hy := Lib.hid hy
          by_cases h1 : 5 < x
          · have K := Lib.hid (counts_no (s := s) (n := s.size) (c := 80) (by decide) (few_red hx rfl h1))
            have e1 : decide (5 < (x : Int)) = true := by simp; omega
            have e2 : decide (5 < x) = true := by simp; omega
            clear hx hy h1
            have hk0 : ((⟨#[75, 65, 66, 78, 82, 67, 80]⟩ : ByteArray)[6]'(by decide)).toNat = 80 := rfl
            go_wp2_with fail
            go_quiet (fail)
            go_wp2_with fail
            have bT1 := bT.next (below_drewN (Below.refl _ _) nq)
            have hB1 := below_drewN hB nq
            generalize wr.drewN nq = W1 at bT1 hB1 ⊢
            have c0 := bT1.cell 80
            have c1 := bT1.cell 112
            rw [cntC_at s s.size 80 (by decide), Hx.out] at c0
            rw [cntC_at s s.size 112 (by decide), Hy.out] at c1
            clear hk0
            go_quiet ((go_at_call 137; exact Calls.quiet_of_same (mostI _ 5 _ (by decide) (by decide))))
            go_wp2
            go_ret
            exact ⟨by rw [K.out]; rfl, below_drewN hB1 _⟩
          · have e1 : decide (5 < (x : Int)) = false := by simp; omega
            have e2 : decide (5 < x) = false := by simp; omega
            by_cases h2 : 5 < y
            · have K := Lib.hid (counts_no (s := s) (n := s.size) (c := 80) (by decide) (few_black hy rfl h2))
              have e3 : decide (5 < (y : Int)) = true := by simp; omega
              have e4 : decide (5 < y) = true := by simp; omega
              clear hx hy h1 h2
              have hk0 : ((⟨#[75, 65, 66, 78, 82, 67, 80]⟩ : ByteArray)[6]'(by decide)).toNat = 80 := rfl
              go_wp2_with fail
              go_quiet (fail)
              go_wp2_with fail
              have bT1 := bT.next (below_drewN (Below.refl _ _) nq)
              have hB1 := below_drewN hB nq
              generalize wr.drewN nq = W1 at bT1 hB1 ⊢
              have c0 := bT1.cell 80
              have c1 := bT1.cell 112
              rw [cntC_at s s.size 80 (by decide), Hx.out] at c0
              rw [cntC_at s s.size 112 (by decide), Hy.out] at c1
              clear hk0
              go_quiet ((go_at_call 137; exact Calls.quiet_of_same (mostI _ 5 _ (by decide) (by decide))))
              go_wp2
              go_ret
              exact ⟨by rw [K.out]; rfl, below_drewN hB1 _⟩
            · have K := Lib.hid (few_ok (s := s) (n := s.size) (c := 80) (m := 5) hx hy rfl rfl (by omega) (by omega))
              have e3 : decide (5 < (y : Int)) = false := by simp; omega
              have e4 : decide (5 < y) = false := by simp; omega
              clear hx hy h1 h2
              have hk0 : ((⟨#[75, 65, 66, 78, 82, 67, 80]⟩ : ByteArray)[6]'(by decide)).toNat = 80 := rfl
              go_wp2_with fail
              go_quiet (fail)
              go_wp2_with fail
              have bT1 := bT.next (below_drewN (Below.refl _ _) nq)
              have hB1 := below_drewN hB nq
              generalize wr.drewN nq = W1 at bT1 hB1 ⊢
              have c0 := bT1.cell 80
              have c1 := bT1.cell 112
              rw [cntC_at s s.size 80 (by decide), Hx.out] at c0
              rw [cntC_at s s.size 112 (by decide), Hy.out] at c1
              clear hk0
              go_quiet ((go_at_call 137; exact Calls.quiet_of_same (mostI _ 5 _ (by decide) (by decide))))
              go_wp2
              go_roundw
              case rel => exact ⟨7, by omega, rfl, fun u hu => (by
                rcases Nat.lt_or_ge u 6 with h | h
                · exact Hall.out u h
                · rw [show u = 6 by omega]; exact K.out), bT1.next (below_drewN (Below.refl _ _) _), below_drewN hB1 _⟩
              case measure => simp [intOf]
end Go.Proofs.YtpogpjebhnoncabGreatDoor

namespace Go.Proofs.YtpogpjebhnoncabGreatDoor
open Go.RowKit Go.Shelf
open M (S)

/-- Do all pieces among the first n stand where they may? -/
def placesB (s : ByteArray) (n : Nat) : Bool := (List.range n).all fun k => (kindN (bAt s k) == 0) || mayB (bAt s k) k
theorem places_no {s : ByteArray} {n k : Nat} (hk : k < n) (h0 : kindN (bAt s k) ≠ 0) (h : mayB (bAt s k) k = false) : placesB s n = false := by
  unfold placesB
  rw [List.all_eq_false.2 ⟨k, List.mem_range.2 hk, by simp [h0, h]⟩]
theorem places_yes {s : ByteArray} {n : Nat} (h : ∀ k, k < n → ((kindN (bAt s k) == 0) || mayB (bAt s k) k) = true) : placesB s n = true := by
  unfold placesB
  rw [List.all_eq_true]
  exact fun k hk => h k (List.mem_range.1 hk)
set_option maxRecDepth 100000 in
set_option maxHeartbeats 2000000 in
theorem havePlaces_any (s : ByteArray) (w : World) (hs : s.size ≤ 1000000) : Calls Tryz.prog 115 #[.string s] w (Gives w (.bool (placesB s s.size))) := by
  unfold Gives
  go_enter Tryz.func115, Tryz.ntmps115
  go_wp2_with fail
  go_loopw [3, 6] (fun _ i wr => ∃ k : Nat, k ≤ s.size ∧ i = .int .i64 k ∧ (∀ u, u < k → ((kindN (bAt s u) == 0) || mayB (bAt s u) u) = true) ∧ Below w.heap.size w wr) (fun _ i _ => s.size - (intOf i).toNat)
  case atStart => exact ⟨0, by omega, rfl, fun u hu => absurd hu (Nat.not_lt_zero u), Below.refl _ _⟩
  case round =>
    obtain ⟨k, hk, rfl, hall, hB⟩ := hrel
    have Hall := Lib.hid hall
    clear hall
    by_cases hlt : k < s.size
    · obtain ⟨x, hx⟩ : ∃ x, bAt s k = x := ⟨_, rfl⟩
      have hbk : s[k].toNat = x := (bAt_eq s k hlt).trans hx
      by_cases h0 : kindN x = 0
      · have e0 : ((kindN x : Int) != 0) = false := by rw [h0]; rfl
        have K : Hid (((kindN (bAt s k) == 0) || mayB (bAt s k) k) = true) := by show _ = _; rw [hx, h0]; rfl
        clear h0 hx
        go_wp2_with fail
        refine (kind_any x _).mono ?_
        rintro e w1 ⟨rfl, rfl⟩
        go_wp2
        go_roundw
        case rel => exact ⟨k + 1, by omega, by go_num, fun u hu => (by
          rcases Nat.lt_or_ge u k with h | h
          · exact Hall.out u h
          · rw [show u = k by omega]; exact K.out), hB⟩
        case measure => simp [intOf]; omega
      · have e0 : ((kindN x : Int) != 0) = true := by rw [bne_iff_ne]; omega
        cases hm : mayB x k
        · have K := Lib.hid (places_no (s := s) hlt (by rw [hx]; exact h0) (by rw [hx]; exact hm))
          have Hm := Lib.hid hm
          clear h0 hx hm
          go_wp2_with fail
          refine (kind_any x _).mono ?_
          rintro e w1 ⟨rfl, rfl⟩
          go_wp2_with fail
          refine (may_is x k false _ Hm.out).mono ?_
          rintro e w1 ⟨rfl, hb⟩
          go_wp2
          go_ret
          exact ⟨by rw [K.out]; rfl, hB.trans (hb.mono hB.size)⟩
        · have K : Hid (((kindN (bAt s k) == 0) || mayB (bAt s k) k) = true) := by show _ = _; rw [hx, hm, Bool.or_true]
          have Hm := Lib.hid hm
          clear h0 hx hm
          go_wp2_with fail
          refine (kind_any x _).mono ?_
          rintro e w1 ⟨rfl, rfl⟩
          go_wp2_with fail
          refine (may_is x k true _ Hm.out).mono ?_
          rintro e w1 ⟨rfl, hb⟩
          go_wp2
          go_roundw
          case rel => exact ⟨k + 1, by omega, by go_num, fun u hu => (by
            rcases Nat.lt_or_ge u k with h | h
            · exact Hall.out u h
            · rw [show u = k by omega]; exact K.out), hB.trans (hb.mono hB.size)⟩
          case measure => simp [intOf]; omega
    · obtain rfl : k = s.size := by omega
      have K := Lib.hid (places_yes (s := s) Hall.out)
      go_wp2
      go_ret
      exact ⟨by rw [K.out]; rfl, hB⟩
/-- Are a position's parts what they may be? -/
def partsB (s : ByteArray) (side clock full : Int) : Bool := isB s && (side == 0 || side == 1) && decide (0 ≤ clock) && decide (clock ≤ 120) && decide (1 ≤ full) && decide (full ≤ 9999)
/-- What Check tells: 0, or an error. -/
def checkN (s : ByteArray) (side clock full : Int) : Nat := if partsB s side clock full then (if countsB s 90 then (if placesB s 90 then 0 else 2) else 3) else 1
theorem parts_false {s : ByteArray} {side clock full : Int} (h : isB s = false ∨ (side == 0 || side == 1) = false ∨ clock < 0 ∨ 120 < clock ∨ full < 1 ∨ 9999 < full) : checkN s side clock full = 1 := by
  have : partsB s side clock full = false := by
    cases e : partsB s side clock full
    · rfl
    · simp only [partsB, Bool.and_eq_true, decide_eq_true_eq] at e
      rcases h with h | h | h
      · rw [h] at e; simp at e
      · rw [h] at e; simp at e
      · omega
  rw [checkN, this]
  rfl
theorem parts_true {s : ByteArray} {side clock full : Int} (h1 : isB s = true) (h2 : (side == 0 || side == 1) = true) (h3 : 0 ≤ clock) (h4 : clock ≤ 120) (h5 : 1 ≤ full) (h6 : full ≤ 9999) : partsB s side clock full = true := by
  simp only [partsB, Bool.and_eq_true, decide_eq_true_eq]
  exact ⟨⟨⟨⟨⟨h1, h2⟩, h3⟩, h4⟩, h5⟩, h6⟩
/-- A position's value. -/
def posV (s : ByteArray) (side clock full : Int) : Value := .agg #[.string s, .int .i64 side, .int .i64 clock, .int .i64 full]
theorem isSide_is (side : Int) (b : Bool) (w : World) (h : (side == 0 || side == 1) = b) : Calls Tryz.prog 113 #[.int .i64 side] w (Says w (.bool b)) := by subst h; exact isSide_any side w
theorem haveCounts_is (s : ByteArray) (b : Bool) (w : World) (hs : s.size = 90) (h : countsB s 90 = b) : Calls Tryz.prog 114 #[.string s] w (Gives w (.bool b)) := by subst h; rw [← hs]; exact haveCounts_any s w (by omega)
theorem havePlaces_is (s : ByteArray) (b : Bool) (w : World) (hs : s.size = 90) (h : placesB s 90 = b) : Calls Tryz.prog 115 #[.string s] w (Gives w (.bool b)) := by subst h; rw [← hs]; exact havePlaces_any s w (by omega)
set_option maxHeartbeats 4000000 in
theorem check_any (s : ByteArray) (side clock full : Int) (w : World) : Calls Tryz.prog 79 #[.agg #[.string s, .int .i64 side, .int .i64 clock, .int .i64 full]] w (Gives w (.int .i64 (checkN s side clock full : Nat))) := by
  unfold Gives
  cases hb : isB s
  · have K := Lib.hid (parts_false (side := side) (clock := clock) (full := full) (.inl hb))
    have B := Lib.hid hb
    clear hb
    go_enter Tryz.func79, Tryz.ntmps79
    go_wp2_with fail
    refine (is_is s false _ B.out).mono ?_
    rintro e w1 ⟨rfl, rfl⟩
    go_wp2
    go_ret
    exact ⟨by rw [K.out]; rfl, (by repeat (first | exact Below.refl _ _ | (refine Below.setCell ?_ (by first | omega | (simp; done) | (simp; omega) | (simp at *; omega)) _) | (refine Below.alloc ?_ (by first | omega | (simp; done) | (simp; omega) | (simp at *; omega)) _) | refine Below.drew ?_ | (refine below_drewN ?_ _) | (refine Below.trans ?_ (Below.mono (by assumption) (by first | omega | (simp; done) | (simp; omega) | (simp at *; omega))))))⟩
  have B := Lib.hid hb
  cases hd : (side == 0 || side == 1)
  · have K := Lib.hid (parts_false (s := s) (side := side) (clock := clock) (full := full) (.inr (.inl hd)))
    have D := Lib.hid hd
    clear hb hd
    go_enter Tryz.func79, Tryz.ntmps79
    go_wp2_with fail
    refine (is_is s true _ B.out).mono ?_
    rintro e w1 ⟨rfl, rfl⟩
    go_wp2_with fail
    refine (isSide_is side false _ D.out).mono ?_
    rintro e w1 ⟨rfl, rfl⟩
    go_wp2
    go_ret
    exact ⟨by rw [K.out]; rfl, (by repeat (first | exact Below.refl _ _ | (refine Below.setCell ?_ (by first | omega | (simp; done) | (simp; omega) | (simp at *; omega)) _) | (refine Below.alloc ?_ (by first | omega | (simp; done) | (simp; omega) | (simp at *; omega)) _) | refine Below.drew ?_ | (refine below_drewN ?_ _) | (refine Below.trans ?_ (Below.mono (by assumption) (by first | omega | (simp; done) | (simp; omega) | (simp at *; omega))))))⟩
  have D := Lib.hid hd
  have hc : (clock < 0) ∨ (0 ≤ clock ∧ 120 < clock) ∨ (0 ≤ clock ∧ clock ≤ 120 ∧ full < 1) ∨ (0 ≤ clock ∧ clock ≤ 120 ∧ 1 ≤ full ∧ 9999 < full) ∨ (0 ≤ clock ∧ clock ≤ 120 ∧ 1 ≤ full ∧ full ≤ 9999) := by omega
  rcases hc with h0 | ⟨h0, h1⟩ | ⟨h0, h1, h2⟩ | ⟨h0, h1, h2, h3⟩ | ⟨h0, h1, h2, h3⟩
  iterate 4
    · have K := Lib.hid (parts_false (s := s) (side := side) (clock := clock) (full := full) (.inr (.inr (by omega))))
      clear hb hd
      go_enter Tryz.func79, Tryz.ntmps79
      go_wp2_with fail
      refine (is_is s true _ B.out).mono ?_
      rintro e w1 ⟨rfl, rfl⟩
      go_wp2_with fail
      refine (isSide_is side true _ D.out).mono ?_
      rintro e w1 ⟨rfl, rfl⟩
      go_wp2
      go_ret
      exact ⟨by rw [K.out]; rfl, (by repeat (first | exact Below.refl _ _ | (refine Below.setCell ?_ (by first | omega | (simp; done) | (simp; omega) | (simp at *; omega)) _) | (refine Below.alloc ?_ (by first | omega | (simp; done) | (simp; omega) | (simp at *; omega)) _) | refine Below.drew ?_ | (refine below_drewN ?_ _) | (refine Below.trans ?_ (Below.mono (by assumption) (by first | omega | (simp; done) | (simp; omega) | (simp at *; omega))))))⟩
  have hz := Lib.hid (isB_size hb)
  have hP := parts_true hb hd h0 h1 h2 h3
  clear hb hd
  obtain ⟨W0, hW0⟩ : ∃ W0, w.alloc (.cells #[.string s, .int .i64 side, .int .i64 clock, .int .i64 full] 23) = W0 := ⟨_, rfl⟩
  have hB : Below w.heap.size w W0 := by rw [← hW0]; exact (by repeat (first | exact Below.refl _ _ | (refine Below.setCell ?_ (by first | omega | (simp; done) | (simp; omega) | (simp at *; omega)) _) | (refine Below.alloc ?_ (by first | omega | (simp; done) | (simp; omega) | (simp at *; omega)) _) | refine Below.drew ?_ | (refine below_drewN ?_ _) | (refine Below.trans ?_ (Below.mono (by assumption) (by first | omega | (simp; done) | (simp; omega) | (simp at *; omega))))))
  have bA : Blk W0 w.heap.size 23 #[.string s, .int .i64 side, .int .i64 clock, .int .i64 full] := by rw [← hW0]; exact Blk.new _ _ _ rfl
  have HW := Lib.hid hW0
  clear hW0
  cases hn : countsB s 90
  · have K : Hid (checkN s side clock full = 3) := by show _ = _; rw [checkN, hP, hn]; rfl
    have Hn := Lib.hid hn
    clear hn hP
    go_enter Tryz.func79, Tryz.ntmps79
    go_wp2_with fail
    refine (is_is s true _ B.out).mono ?_
    rintro e w1 ⟨rfl, rfl⟩
    go_wp2_with fail
    refine (isSide_is side true _ D.out).mono ?_
    rintro e w1 ⟨rfl, rfl⟩
    go_wp2_with fail
    rw [HW.out]
    refine (haveCounts_is s false _ hz.out Hn.out).mono ?_
    rintro e w1 ⟨rfl, hb1⟩
    go_wp2
    go_ret
    exact ⟨by rw [K.out]; rfl, hB.trans (hb1.mono hB.size)⟩
  have Hn := Lib.hid hn
  cases hp : placesB s 90
  · have K : Hid (checkN s side clock full = 2) := by show _ = _; rw [checkN, hP, hn, hp]; rfl
    have Hp := Lib.hid hp
    clear hn hP hp
    go_enter Tryz.func79, Tryz.ntmps79
    go_wp2_with fail
    refine (is_is s true _ B.out).mono ?_
    rintro e w1 ⟨rfl, rfl⟩
    go_wp2_with fail
    refine (isSide_is side true _ D.out).mono ?_
    rintro e w1 ⟨rfl, rfl⟩
    go_wp2_with fail
    rw [HW.out]
    refine (haveCounts_is s true _ hz.out Hn.out).mono ?_
    rintro e w1 ⟨rfl, hb1⟩
    have a0 := (bA.next hb1).cell 0
    simp only [List.getElem?_toArray, List.getElem?_cons_zero] at a0
    go_wp2_with fail
    refine (havePlaces_is s false _ hz.out Hp.out).mono ?_
    rintro e w2 ⟨rfl, hb2⟩
    go_wp2
    go_ret
    exact ⟨by rw [K.out]; rfl, (hB.trans (hb1.mono hB.size)).trans (hb2.mono (hB.trans (hb1.mono hB.size)).size)⟩
  · have K : Hid (checkN s side clock full = 0) := by show _ = _; rw [checkN, hP, hn, hp]; rfl
    have Hp := Lib.hid hp
    clear hn hP hp
    go_enter Tryz.func79, Tryz.ntmps79
    go_wp2_with fail
    refine (is_is s true _ B.out).mono ?_
    rintro e w1 ⟨rfl, rfl⟩
    go_wp2_with fail
    refine (isSide_is side true _ D.out).mono ?_
    rintro e w1 ⟨rfl, rfl⟩
    go_wp2_with fail
    rw [HW.out]
    refine (haveCounts_is s true _ hz.out Hn.out).mono ?_
    rintro e w1 ⟨rfl, hb1⟩
    have a0 := (bA.next hb1).cell 0
    simp only [List.getElem?_toArray, List.getElem?_cons_zero] at a0
    go_wp2_with fail
    refine (havePlaces_is s true _ hz.out Hp.out).mono ?_
    rintro e w2 ⟨rfl, hb2⟩
    go_wp2
    go_ret
    exact ⟨by rw [K.out]; rfl, (hB.trans (hb1.mono hB.size)).trans (hb2.mono (hB.trans (hb1.mono hB.size)).size)⟩
theorem check_is (s : ByteArray) (side clock full k : Int) (w : World) (h : (checkN s side clock full : Int) = k) : Calls Tryz.prog 79 #[.agg #[.string s, .int .i64 side, .int .i64 clock, .int .i64 full]] w (Gives w (.int .i64 k)) := by subst h; exact check_any s side clock full w
end Go.Proofs.YtpogpjebhnoncabGreatDoor
