/- Where pieces may stand, for every byte and every number: squares as a side sees them; the kinds' places. -/
import Derived.Test.YtbfkkedcjodceaaGreatDoorBoard7
import Derived.Deep.RegionHeld3
namespace Go.Proofs.YtbfkkedcjodceaaGreatDoor
open Go.RowKit Go.Shelf
open M (S)

/-- Of a file and a rank from a side's own: is it in the palace; an advisor's, an elephant's, a pawn's? -/
def inP (f r : Int) : Bool := decide (3 ≤ f) && decide (f ≤ 5) && decide (r ≤ 2)
def advP (f r : Int) : Bool := inP f r && ((f + r) % 2 == 1)
def eleP (f r : Int) : Bool := if r = 0 ∨ r = 4 then f == 2 || f == 6 else if r = 2 then f == 0 || f == 4 || f == 8 else false
def pawnP (f r : Int) : Bool := decide (5 ≤ r) || (decide (3 ≤ r) && (f % 2 == 0))
def kindP (k : Nat) (f r : Int) : Bool := if k = 75 then inP f r else if k = 65 then advP f r else if k = 66 then eleP f r else if k = 80 then pawnP f r else true
/-- A square's file and rank, as a side sees them. -/
def seenF (n side : Int) : Int := if side = 1 then 8 - n % 9 else n % 9
def seenR (n side : Int) : Int := if side = 1 then 9 - n / 9 else n / 9
/-- Is there such a square, such a side? -/
def realB (n side : Int) : Bool := sqI n && (side == 0 || side == 1)
def palaceB (n side : Int) : Bool := realB n side && inP (seenF n side) (seenR n side)
def overB (n side : Int) : Bool := realB n side && decide (5 ≤ seenR n side)
def mayB (c : Nat) (n : Int) : Bool := realB n (sideN c) && kindP (kindN c) (seenF n (sideN c)) (seenR n (sideN c))
def mostN (c : Nat) : Nat := if kindN c = 0 then 0 else if kindN c = 75 then 1 else if kindN c = 80 then 5 else 2
theorem sqI_in {n : Int} (h : sqI n = true) : 0 ≤ n ∧ n < 90 := by
  by_cases h' : 0 ≤ n ∧ n < 90
  · exact h'
  · rw [sqI_false h'] at h; cases h
theorem seen_in {n side : Int} (h : 0 ≤ n ∧ n < 90) : 0 ≤ seenF n side ∧ seenF n side ≤ 8 ∧ 0 ≤ seenR n side ∧ seenR n side ≤ 9 := by
  unfold seenF seenR
  split <;> omega

theorem inP_true {f r : Int} (h0 : 3 ≤ f) (h1 : f ≤ 5) (h2 : r ≤ 2) : inP f r = true := by simp [inP, h0, h1, h2]
theorem inP_false {f r : Int} (h : f < 3 ∨ 5 < f ∨ 2 < r) : inP f r = false := by
  cases e : inP f r
  · rfl
  · simp only [inP, Bool.and_eq_true, decide_eq_true_eq] at e
    omega
theorem pal_cases (f r : Int) : (f < 3) ∨ (3 ≤ f ∧ 5 < f) ∨ (3 ≤ f ∧ f ≤ 5 ∧ 2 < r) ∨ (3 ≤ f ∧ f ≤ 5 ∧ r ≤ 2) := by omega
set_option maxHeartbeats 1000000 in
theorem inPalace_any (f r : Int) (w : World) : Calls Tryz.prog 131 #[.agg #[.int .i64 f, .int .i64 r]] w (Gives w (.bool (inP f r))) := by
  unfold Gives
  rcases pal_cases f r with h0 | ⟨h0, h1⟩ | ⟨h0, h1, h2⟩ | ⟨h0, h1, h2⟩
  · have K := Lib.hid (inP_false (f := f) (r := r) (by omega))
    go_enter Tryz.func131, Tryz.ntmps131
    go_wp2
    go_ret
    exact ⟨by rw [K.out]; rfl, (by repeat (first | exact Below.refl _ _ | (refine Below.setCell ?_ (by first | omega | (simp; done) | (simp; omega) | (simp at *; omega)) _) | (refine Below.alloc ?_ (by first | omega | (simp; done) | (simp; omega) | (simp at *; omega)) _) | refine Below.drew ?_ | (refine below_drewN ?_ _) | (refine Below.trans ?_ (Below.mono (by assumption) (by first | omega | (simp; done) | (simp; omega) | (simp at *; omega))))))⟩
  · have K := Lib.hid (inP_false (f := f) (r := r) (by omega))
    go_enter Tryz.func131, Tryz.ntmps131
    go_wp2
    go_ret
    exact ⟨by rw [K.out]; rfl, (by repeat (first | exact Below.refl _ _ | (refine Below.setCell ?_ (by first | omega | (simp; done) | (simp; omega) | (simp at *; omega)) _) | (refine Below.alloc ?_ (by first | omega | (simp; done) | (simp; omega) | (simp at *; omega)) _) | refine Below.drew ?_ | (refine below_drewN ?_ _) | (refine Below.trans ?_ (Below.mono (by assumption) (by first | omega | (simp; done) | (simp; omega) | (simp at *; omega))))))⟩
  · have K := Lib.hid (inP_false (f := f) (r := r) (by omega))
    go_enter Tryz.func131, Tryz.ntmps131
    go_wp2
    go_ret
    exact ⟨by rw [K.out]; first | rfl | (simp; done) | (simp; omega), (by repeat (first | exact Below.refl _ _ | (refine Below.setCell ?_ (by first | omega | (simp; done) | (simp; omega) | (simp at *; omega)) _) | (refine Below.alloc ?_ (by first | omega | (simp; done) | (simp; omega) | (simp at *; omega)) _) | refine Below.drew ?_ | (refine below_drewN ?_ _) | (refine Below.trans ?_ (Below.mono (by assumption) (by first | omega | (simp; done) | (simp; omega) | (simp at *; omega))))))⟩
  · have K := Lib.hid (inP_true (f := f) (r := r) h0 h1 h2)
    go_enter Tryz.func131, Tryz.ntmps131
    go_wp2
    go_ret
    exact ⟨by rw [K.out]; first | rfl | (simp; done) | (simp; omega), (by repeat (first | exact Below.refl _ _ | (refine Below.setCell ?_ (by first | omega | (simp; done) | (simp; omega) | (simp at *; omega)) _) | (refine Below.alloc ?_ (by first | omega | (simp; done) | (simp; omega) | (simp at *; omega)) _) | refine Below.drew ?_ | (refine below_drewN ?_ _) | (refine Below.trans ?_ (Below.mono (by assumption) (by first | omega | (simp; done) | (simp; omega) | (simp at *; omega))))))⟩
set_option maxHeartbeats 1000000 in
theorem isAdvisors_any (f r : Int) (w : World) (hf : 0 ≤ f) (hf8 : f ≤ 8) (hr : 0 ≤ r) (hr9 : r ≤ 9) : Calls Tryz.prog 132 #[.agg #[.int .i64 f, .int .i64 r]] w (Gives w (.bool (advP f r))) := by
  unfold Gives
  rcases pal_cases f r with h0 | ⟨h0, h1⟩ | ⟨h0, h1, h2⟩ | ⟨h0, h1, h2⟩
  · have K : Hid (advP f r = false) := by show _ = _; rw [advP, inP_false (f := f) (r := r) (by omega)]; rfl
    go_enter Tryz.func132, Tryz.ntmps132
    go_wp2
    go_ret
    exact ⟨by rw [K.out]; rfl, (by repeat (first | exact Below.refl _ _ | (refine Below.setCell ?_ (by first | omega | (simp; done) | (simp; omega) | (simp at *; omega)) _) | (refine Below.alloc ?_ (by first | omega | (simp; done) | (simp; omega) | (simp at *; omega)) _) | refine Below.drew ?_ | (refine below_drewN ?_ _) | (refine Below.trans ?_ (Below.mono (by assumption) (by first | omega | (simp; done) | (simp; omega) | (simp at *; omega))))))⟩
  · have K : Hid (advP f r = false) := by show _ = _; rw [advP, inP_false (f := f) (r := r) (by omega)]; rfl
    go_enter Tryz.func132, Tryz.ntmps132
    go_wp2
    go_ret
    exact ⟨by rw [K.out]; rfl, (by repeat (first | exact Below.refl _ _ | (refine Below.setCell ?_ (by first | omega | (simp; done) | (simp; omega) | (simp at *; omega)) _) | (refine Below.alloc ?_ (by first | omega | (simp; done) | (simp; omega) | (simp at *; omega)) _) | refine Below.drew ?_ | (refine below_drewN ?_ _) | (refine Below.trans ?_ (Below.mono (by assumption) (by first | omega | (simp; done) | (simp; omega) | (simp at *; omega))))))⟩
  · have K : Hid (advP f r = false) := by show _ = _; rw [advP, inP_false (f := f) (r := r) (by omega)]; rfl
    go_enter Tryz.func132, Tryz.ntmps132
    go_wp2
    go_ret
    exact ⟨by rw [K.out]; rfl, (by repeat (first | exact Below.refl _ _ | (refine Below.setCell ?_ (by first | omega | (simp; done) | (simp; omega) | (simp at *; omega)) _) | (refine Below.alloc ?_ (by first | omega | (simp; done) | (simp; omega) | (simp at *; omega)) _) | refine Below.drew ?_ | (refine below_drewN ?_ _) | (refine Below.trans ?_ (Below.mono (by assumption) (by first | omega | (simp; done) | (simp; omega) | (simp at *; omega))))))⟩
  · have K : Hid (advP f r = ((f + r) % 2 == 1)) := by show _ = _; rw [advP, inP_true h0 h1 h2]; rfl
    go_enter Tryz.func132, Tryz.ntmps132
    go_wp2
    go_ret
    exact ⟨by rw [K.out]; rfl, (by repeat (first | exact Below.refl _ _ | (refine Below.setCell ?_ (by first | omega | (simp; done) | (simp; omega) | (simp at *; omega)) _) | (refine Below.alloc ?_ (by first | omega | (simp; done) | (simp; omega) | (simp at *; omega)) _) | refine Below.drew ?_ | (refine below_drewN ?_ _) | (refine Below.trans ?_ (Below.mono (by assumption) (by first | omega | (simp; done) | (simp; omega) | (simp at *; omega))))))⟩
set_option maxHeartbeats 4000000 in
theorem isElephants_any (f r : Int) (w : World) : Calls Tryz.prog 133 #[.agg #[.int .i64 f, .int .i64 r]] w (Gives w (.bool (eleP f r))) := by
  unfold Gives
  obtain ⟨b, hb⟩ : ∃ b, eleP f r = b := ⟨_, rfl⟩
  have K := Lib.hid hb
  have h0 : r = 0 ∨ r = 4 ∨ r = 2 ∨ (r ≠ 0 ∧ r ≠ 4 ∧ r ≠ 2) := by omega
  have h1 : f = 2 ∨ f = 6 ∨ f = 0 ∨ f = 4 ∨ f = 8 ∨ (f ≠ 2 ∧ f ≠ 6 ∧ f ≠ 0 ∧ f ≠ 4 ∧ f ≠ 8) := by omega
  clear hb
  rcases h0 with rfl | rfl | rfl | ⟨r0, r4, r2⟩
  iterate 3
    · rcases h1 with rfl | rfl | rfl | rfl | rfl | ⟨f2, f6, f0, f4, f8⟩
      all_goals
        go_enter Tryz.func133, Tryz.ntmps133
        go_wp2
        go_ret
        exact ⟨by first | rfl | simp [eleP, *], (by repeat (first | exact Below.refl _ _ | (refine Below.setCell ?_ (by first | omega | (simp; done) | (simp; omega) | (simp at *; omega)) _) | (refine Below.alloc ?_ (by first | omega | (simp; done) | (simp; omega) | (simp at *; omega)) _) | refine Below.drew ?_ | (refine below_drewN ?_ _) | (refine Below.trans ?_ (Below.mono (by assumption) (by first | omega | (simp; done) | (simp; omega) | (simp at *; omega))))))⟩
  · clear h1
    go_enter Tryz.func133, Tryz.ntmps133
    go_wp2
    go_ret
    exact ⟨by simp [eleP, *], (by repeat (first | exact Below.refl _ _ | (refine Below.setCell ?_ (by first | omega | (simp; done) | (simp; omega) | (simp at *; omega)) _) | (refine Below.alloc ?_ (by first | omega | (simp; done) | (simp; omega) | (simp at *; omega)) _) | refine Below.drew ?_ | (refine below_drewN ?_ _) | (refine Below.trans ?_ (Below.mono (by assumption) (by first | omega | (simp; done) | (simp; omega) | (simp at *; omega))))))⟩
theorem isAnywhere_any (f r : Int) (w : World) : Calls Tryz.prog 134 #[.agg #[.int .i64 f, .int .i64 r]] w (Gives w (.bool true)) := by
  unfold Gives
  go_enter Tryz.func134, Tryz.ntmps134
  go_wp2
  go_ret
  exact ⟨rfl, (by repeat (first | exact Below.refl _ _ | (refine Below.setCell ?_ (by first | omega | (simp; done) | (simp; omega) | (simp at *; omega)) _) | (refine Below.alloc ?_ (by first | omega | (simp; done) | (simp; omega) | (simp at *; omega)) _) | refine Below.drew ?_ | (refine below_drewN ?_ _) | (refine Below.trans ?_ (Below.mono (by assumption) (by first | omega | (simp; done) | (simp; omega) | (simp at *; omega))))))⟩
theorem isOver_any (f r : Int) (w : World) : Calls Tryz.prog 140 #[.agg #[.int .i64 f, .int .i64 r]] w (Gives w (.bool (decide (5 ≤ r)))) := by
  unfold Gives
  go_enter Tryz.func140, Tryz.ntmps140
  go_wp2
  go_ret
  exact ⟨rfl, (by repeat (first | exact Below.refl _ _ | (refine Below.setCell ?_ (by first | omega | (simp; done) | (simp; omega) | (simp at *; omega)) _) | (refine Below.alloc ?_ (by first | omega | (simp; done) | (simp; omega) | (simp at *; omega)) _) | refine Below.drew ?_ | (refine below_drewN ?_ _) | (refine Below.trans ?_ (Below.mono (by assumption) (by first | omega | (simp; done) | (simp; omega) | (simp at *; omega))))))⟩
set_option maxHeartbeats 1000000 in
theorem isPawns_any (f r : Int) (w : World) (hf : 0 ≤ f) (hf8 : f ≤ 8) : Calls Tryz.prog 135 #[.agg #[.int .i64 f, .int .i64 r]] w (Gives w (.bool (pawnP f r))) := by
  unfold Gives
  have h : 5 ≤ r ∨ (r < 5 ∧ 3 ≤ r) ∨ r < 3 := by omega
  rcases h with h | ⟨h, h3⟩ | h
  · have K : Hid (pawnP f r = true) := by show _ = _; simp [pawnP, h]
    go_enter Tryz.func135, Tryz.ntmps135
    go_wp2
    go_ret
    exact ⟨by rw [K.out]; rfl, (by repeat (first | exact Below.refl _ _ | (refine Below.setCell ?_ (by first | omega | (simp; done) | (simp; omega) | (simp at *; omega)) _) | (refine Below.alloc ?_ (by first | omega | (simp; done) | (simp; omega) | (simp at *; omega)) _) | refine Below.drew ?_ | (refine below_drewN ?_ _) | (refine Below.trans ?_ (Below.mono (by assumption) (by first | omega | (simp; done) | (simp; omega) | (simp at *; omega))))))⟩
  · have d5 : decide (5 ≤ r) = false := by simp; omega
    have K : Hid (pawnP f r = (f % 2 == 0)) := by show _ = _; simp [pawnP, h3]; omega
    go_enter Tryz.func135, Tryz.ntmps135
    go_wp2
    go_ret
    exact ⟨by rw [K.out]; rfl, (by repeat (first | exact Below.refl _ _ | (refine Below.setCell ?_ (by first | omega | (simp; done) | (simp; omega) | (simp at *; omega)) _) | (refine Below.alloc ?_ (by first | omega | (simp; done) | (simp; omega) | (simp at *; omega)) _) | refine Below.drew ?_ | (refine below_drewN ?_ _) | (refine Below.trans ?_ (Below.mono (by assumption) (by first | omega | (simp; done) | (simp; omega) | (simp at *; omega))))))⟩
  · have K : Hid (pawnP f r = false) := by show _ = _; simp [pawnP]; omega
    have d5 : decide (5 ≤ r) = false := by simp; omega
    go_enter Tryz.func135, Tryz.ntmps135
    go_wp2
    go_ret
    exact ⟨by rw [K.out]; rfl, (by repeat (first | exact Below.refl _ _ | (refine Below.setCell ?_ (by first | omega | (simp; done) | (simp; omega) | (simp at *; omega)) _) | (refine Below.alloc ?_ (by first | omega | (simp; done) | (simp; omega) | (simp at *; omega)) _) | refine Below.drew ?_ | (refine below_drewN ?_ _) | (refine Below.trans ?_ (Below.mono (by assumption) (by first | omega | (simp; done) | (simp; omega) | (simp at *; omega))))))⟩
end Go.Proofs.YtbfkkedcjodceaaGreatDoor
