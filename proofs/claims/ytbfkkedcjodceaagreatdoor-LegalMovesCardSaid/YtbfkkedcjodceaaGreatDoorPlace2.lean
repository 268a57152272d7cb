/- Squares as a side sees them: whether there are any. -/
import Derived.Test.YtbfkkedcjodceaaGreatDoorPlace1
import Derived.Laws.EntriesVeiled
namespace Go.Proofs.YtbfkkedcjodceaaGreatDoor
open Go.RowKit Go.Shelf
open M (S)

theorem places_any (w : World) : Calls Tryz.prog 117 #[] w (Gives w (.agg #[.func (.func 131) #[] #[], .func (.func 132) #[] #[], .func (.func 133) #[] #[], .func (.func 134) #[] #[], .func (.func 134) #[] #[], .func (.func 134) #[] #[], .func (.func 135) #[] #[]])) := by
  unfold Gives
  go_enter Tryz.func117, Tryz.ntmps117
  go_wp2
  exact bodyPost_ret (v := .agg #[.func (.func 131) #[] #[], .func (.func 132) #[] #[], .func (.func 133) #[] #[], .func (.func 134) #[] #[], .func (.func 134) #[] #[], .func (.func 134) #[] #[], .func (.func 135) #[] #[]]) (by simp [results, Tryz.results117, go_sem]) rfl ⟨rfl, (by repeat (first | exact Below.refl _ _ | (refine Below.setCell ?_ (by first | omega | (simp; done) | (simp; omega) | (simp at *; omega)) _) | (refine Below.alloc ?_ (by first | omega | (simp; done) | (simp; omega) | (simp at *; omega)) _) | refine Below.drew ?_ | (refine below_drewN ?_ _) | (refine Below.trans ?_ (Below.mono (by assumption) (by first | omega | (simp; done) | (simp; omega) | (simp at *; omega))))))⟩
theorem isSide_any (side : Int) (w : World) : Calls Tryz.prog 69 #[.int .i64 side] w (Says w (.bool (side == 0 || side == 1))) := by
  unfold Says
  by_cases h0 : side = 0
  · subst h0
    go_enter Tryz.func69, Tryz.ntmps69
    go_wp2
    go_ret
    exact ⟨rfl, rfl⟩
  · have e0 : (side == 0) = false := by rw [beq_eq_false_iff_ne]; exact h0
    clear h0
    go_enter Tryz.func69, Tryz.ntmps69
    go_wp2
    go_ret
    exact ⟨by first | rfl | simp [e0], rfl⟩
def seenV (n side : Int) : Value := if realB n side then .tuple #[.agg #[.int .i64 (seenF n side), .int .i64 (seenR n side)], .bool true] else .tuple #[.agg #[.int .i64 0, .int .i64 0], .bool false]
set_option maxHeartbeats 1000000 in
theorem seen_no (n side : Int) (w : World) (h : realB n side = false) : Calls Tryz.prog 116 #[.int .i64 n, .int .i64 side] w (Gives w (.tuple #[.agg #[.int .i64 0, .int .i64 0], .bool false])) := by
  unfold Gives
  by_cases hq : 0 ≤ n ∧ n < 90
  · have F : Hid (fileI n = n % 9) := by show _ = _; rw [fileI, if_pos hq]
    have R : Hid (rankI n = n / 9) := by show _ = _; rw [rankI, if_pos hq]
    rw [realB, sqI_true hq, Bool.true_and, Bool.or_eq_false_iff] at h
    obtain ⟨h0, h1⟩ := h
    obtain ⟨q0, q1⟩ := hq
    go_enter Tryz.func116, Tryz.ntmps116
    go_wp2_with fail
    refine (file_any n _).mono ?_
    rintro e w' ⟨rfl, rfl⟩
    rw [F.out]
    go_wp2_with fail
    refine (rank_any n _).mono ?_
    rintro e w' ⟨rfl, rfl⟩
    rw [R.out]
    go_wp2_with fail
    refine (isSide_any side _).mono ?_
    rintro e w' ⟨rfl, rfl⟩
    go_wp2
    exact bodyPost_ret (v := .tuple #[.agg #[.int .i64 0, .int .i64 0], .bool false]) (by simp [results, Tryz.results116, go_sem]) rfl ⟨rfl, (by repeat (first | exact Below.refl _ _ | (refine Below.setCell ?_ (by first | omega | (simp; done) | (simp; omega) | (simp at *; omega)) _) | (refine Below.alloc ?_ (by first | omega | (simp; done) | (simp; omega) | (simp at *; omega)) _) | refine Below.drew ?_ | (refine below_drewN ?_ _) | (refine Below.trans ?_ (Below.mono (by assumption) (by first | omega | (simp; done) | (simp; omega) | (simp at *; omega))))))⟩
  · have F : Hid (fileI n = -1) := by show _ = _; rw [fileI, if_neg hq]
    have R : Hid (rankI n = -1) := by show _ = _; rw [rankI, if_neg hq]
    clear hq h
    go_enter Tryz.func116, Tryz.ntmps116
    go_wp2_with fail
    refine (file_any n _).mono ?_
    rintro e w' ⟨rfl, rfl⟩
    rw [F.out]
    go_wp2_with fail
    refine (rank_any n _).mono ?_
    rintro e w' ⟨rfl, rfl⟩
    rw [R.out]
    go_wp2
    exact bodyPost_ret (v := .tuple #[.agg #[.int .i64 0, .int .i64 0], .bool false]) (by simp [results, Tryz.results116, go_sem]) rfl ⟨rfl, (by repeat (first | exact Below.refl _ _ | (refine Below.setCell ?_ (by first | omega | (simp; done) | (simp; omega) | (simp at *; omega)) _) | (refine Below.alloc ?_ (by first | omega | (simp; done) | (simp; omega) | (simp at *; omega)) _) | refine Below.drew ?_ | (refine below_drewN ?_ _) | (refine Below.trans ?_ (Below.mono (by assumption) (by first | omega | (simp; done) | (simp; omega) | (simp at *; omega))))))⟩
theorem real_parts {n side : Int} (h : realB n side = true) : (0 ≤ n ∧ n < 90) ∧ (side = 0 ∨ side = 1) := by
  simp only [realB, Bool.and_eq_true, Bool.or_eq_true, beq_iff_eq] at h
  exact ⟨sqI_in h.1, h.2⟩
set_option maxHeartbeats 1000000 in
theorem seen_yes (n side : Int) (w : World) (h : realB n side = true) : Calls Tryz.prog 116 #[.int .i64 n, .int .i64 side] w (Gives w (.tuple #[.agg #[.int .i64 (seenF n side), .int .i64 (seenR n side)], .bool true])) := by
  unfold Gives
  obtain ⟨hq, hs⟩ := real_parts h
  have F : Hid (fileI n = n % 9) := by show _ = _; rw [fileI, if_pos hq]
  have R : Hid (rankI n = n / 9) := by show _ = _; rw [rankI, if_pos hq]
  have b := seen_in (side := 0) hq
  simp only [seenF, seenR] at b
  rw [if_neg (by decide), if_neg (by decide)] at b
  obtain ⟨b0, b1, b2, b3⟩ := b
  obtain ⟨q0, q1⟩ := hq
  clear h
  rcases hs with rfl | rfl
  · rw [show seenF n 0 = n % 9 from rfl, show seenR n 0 = n / 9 from rfl]
    go_enter Tryz.func116, Tryz.ntmps116
    go_wp2_with fail
    refine (file_any n _).mono ?_
    rintro e w' ⟨rfl, rfl⟩
    rw [F.out]
    go_wp2_with fail
    refine (rank_any n _).mono ?_
    rintro e w' ⟨rfl, rfl⟩
    rw [R.out]
    go_wp2_with fail
    refine (isSide_any 0 _).mono ?_
    rintro e w' ⟨rfl, rfl⟩
    go_wp2
    exact bodyPost_ret (v := .tuple #[.agg #[.int .i64 (n % 9), .int .i64 (n / 9)], .bool true]) (by simp [results, Tryz.results116, go_sem]) rfl ⟨rfl, (by repeat (first | exact Below.refl _ _ | (refine Below.setCell ?_ (by first | omega | (simp; done) | (simp; omega) | (simp at *; omega)) _) | (refine Below.alloc ?_ (by first | omega | (simp; done) | (simp; omega) | (simp at *; omega)) _) | refine Below.drew ?_ | (refine below_drewN ?_ _) | (refine Below.trans ?_ (Below.mono (by assumption) (by first | omega | (simp; done) | (simp; omega) | (simp at *; omega))))))⟩
  · rw [show seenF n 1 = 8 - n % 9 from rfl, show seenR n 1 = 9 - n / 9 from rfl]
    go_enter Tryz.func116, Tryz.ntmps116
    go_wp2_with fail
    refine (file_any n _).mono ?_
    rintro e w' ⟨rfl, rfl⟩
    rw [F.out]
    go_wp2_with fail
    refine (rank_any n _).mono ?_
    rintro e w' ⟨rfl, rfl⟩
    rw [R.out]
    go_wp2_with fail
    refine (isSide_any 1 _).mono ?_
    rintro e w' ⟨rfl, rfl⟩
    go_wp2
    exact bodyPost_ret (v := .tuple #[.agg #[.int .i64 (8 - n % 9), .int .i64 (9 - n / 9)], .bool true]) (by simp [results, Tryz.results116, go_sem]) rfl ⟨rfl, (by repeat (first | exact Below.refl _ _ | (refine Below.setCell ?_ (by first | omega | (simp; done) | (simp; omega) | (simp at *; omega)) _) | (refine Below.alloc ?_ (by first | omega | (simp; done) | (simp; omega) | (simp at *; omega)) _) | refine Below.drew ?_ | (refine below_drewN ?_ _) | (refine Below.trans ?_ (Below.mono (by assumption) (by first | omega | (simp; done) | (simp; omega) | (simp at *; omega))))))⟩
end Go.Proofs.YtbfkkedcjodceaaGreatDoor
