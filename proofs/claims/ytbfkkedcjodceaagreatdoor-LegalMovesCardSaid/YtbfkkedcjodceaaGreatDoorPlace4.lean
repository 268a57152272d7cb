/- Where pieces may stand, for every byte and every number, whole; all such squares; how many there may be. -/
import Derived.Test.YtbfkkedcjodceaaGreatDoorPlace3
namespace Go.Proofs.YtbfkkedcjodceaaGreatDoor
open Go.RowKit Go.Shelf
open M (S)

theorem side_kind {c : Nat} (h : 0 ≤ sideN c) : kindN c = 75 ∨ kindN c = 65 ∨ kindN c = 66 ∨ kindN c = 78 ∨ kindN c = 82 ∨ kindN c = 67 ∨ kindN c = 80 := by
  rcases byte_cases c with ⟨kb, kr, _⟩ | rfl | rfl | rfl | rfl | rfl | rfl | rfl | rfl | rfl | rfl | rfl | rfl | rfl | rfl
  · have : sideN c = -1 := by simp [sideN, kb, kr]
    omega
  all_goals decide
theorem may_any (c : Nat) (n : Int) (w : World) : Calls Tryz.prog 97 #[.int .u8 (c : Int), .int .i64 n] w (Gives w (.bool (mayB c n))) := by
  cases h : realB n (sideN c)
  · rw [mayB, h]
    exact may_no c n w h
  · have hs : 0 ≤ sideN c := by
      rcases (real_parts h).2 with e | e <;> omega
    rw [mayB, h, Bool.true_and]
    rcases side_kind hs with hk | hk | hk | hk | hk | hk | hk
    · rw [hk]; exact may_75 c n _ _ _ w h rfl hk rfl rfl
    · rw [hk]; exact may_65 c n _ _ _ w h rfl hk rfl rfl
    · rw [hk]; exact may_66 c n _ _ _ w h rfl hk rfl rfl
    · rw [hk]; exact may_78 c n _ _ _ w h rfl hk rfl rfl
    · rw [hk]; exact may_82 c n _ _ _ w h rfl hk rfl rfl
    · rw [hk]; exact may_67 c n _ _ _ w h rfl hk rfl rfl
    · rw [hk]; exact may_80 c n _ _ _ w h rfl hk rfl rfl
theorem may_is (c : Nat) (n : Int) (b : Bool) (w : World) (h : mayB c n = b) : Calls Tryz.prog 97 #[.int .u8 (c : Int), .int .i64 n] w (Gives w (.bool b)) := by subst h; exact may_any c n w
set_option maxHeartbeats 1000000 in
theorem over_any (n side : Int) (w : World) : Calls Tryz.prog 126 #[.int .i64 n, .int .i64 side] w (Gives w (.bool (overB n side))) := by
  cases h : realB n side
  · have K : Hid (overB n side = false) := by show _ = _; rw [overB, h]; rfl
    have H := Lib.hid h
    clear h
    rw [K.out]
    unfold Gives
    go_enter Tryz.func126, Tryz.ntmps126
    go_wp2_with fail
    refine (seen_no n side _ H.out).mono ?_
    rintro e w1 ⟨rfl, hb⟩
    have hz := hb.size
    go_wp2
    go_ret
    exact ⟨rfl, (by repeat (first | exact Below.refl _ _ | (refine Below.setCell ?_ (by first | omega | (simp; done) | (simp; omega) | (simp at *; omega)) _) | (refine Below.alloc ?_ (by first | omega | (simp; done) | (simp; omega) | (simp at *; omega)) _) | refine Below.drew ?_ | (refine below_drewN ?_ _) | (refine Below.trans ?_ (Below.mono (by assumption) (by first | omega | (simp; done) | (simp; omega) | (simp at *; omega))))))⟩
  · have K : Hid (overB n side = decide (5 ≤ seenR n side)) := by show _ = _; rw [overB, h]; rfl
    have H := Lib.hid h
    clear h
    rw [K.out]
    unfold Gives
    go_enter Tryz.func126, Tryz.ntmps126
    go_wp2_with fail
    refine (seen_yes n side _ H.out).mono ?_
    rintro e w1 ⟨rfl, hb⟩
    have hz := hb.size
    go_wp2_with fail
    refine (isOver_any _ _ _).mono ?_
    rintro e w2 ⟨rfl, hb2⟩
    go_wp2
    go_ret
    exact ⟨rfl, (hb.alloc hz _).trans (hb2.mono (by simp; omega))⟩
theorem over_is (n side : Int) (b : Bool) (w : World) (h : overB n side = b) : Calls Tryz.prog 126 #[.int .i64 n, .int .i64 side] w (Gives w (.bool b)) := by subst h; exact over_any n side w
theorem most_cases (c : Nat) : kindN c = 0 ∨ kindN c = 75 ∨ kindN c = 80 ∨ (kindN c ≠ 0 ∧ kindN c ≠ 75 ∧ kindN c ≠ 80) := by omega
set_option maxHeartbeats 1000000 in
theorem most_any (c : Nat) (w : World) : Calls Tryz.prog 96 #[.int .u8 (c : Int)] w (Says w (.int .i64 (mostN c : Nat))) := by
  unfold Says
  rcases most_cases c with h | h | h | ⟨h0, h1, h2⟩
  · have K : Hid (mostN c = 0) := by show _ = _; rw [mostN, h]; rfl
    have H := Lib.hid h
    clear h
    go_enter Tryz.func96, Tryz.ntmps96
    go_wp2_with fail
    refine (kind_any c _).mono ?_
    rintro e w1 ⟨rfl, rfl⟩
    rw [H.out]
    go_wp2
    go_ret
    exact ⟨by rw [K.out]; rfl, rfl⟩
  · have K : Hid (mostN c = 1) := by show _ = _; rw [mostN, h]; rfl
    have H := Lib.hid h
    clear h
    go_enter Tryz.func96, Tryz.ntmps96
    go_wp2_with fail
    refine (kind_any c _).mono ?_
    rintro e w1 ⟨rfl, rfl⟩
    rw [H.out]
    go_wp2
    go_ret
    exact ⟨by rw [K.out]; rfl, rfl⟩
  · have K : Hid (mostN c = 5) := by show _ = _; rw [mostN, h]; rfl
    have H := Lib.hid h
    clear h
    go_enter Tryz.func96, Tryz.ntmps96
    go_wp2_with fail
    refine (kind_any c _).mono ?_
    rintro e w1 ⟨rfl, rfl⟩
    rw [H.out]
    go_wp2
    go_ret
    exact ⟨by rw [K.out]; rfl, rfl⟩
  · have K : Hid (mostN c = 2) := by show _ = _; rw [mostN, if_neg h0, if_neg h1, if_neg h2]
    have e0 : ((kindN c : Int) == 0) = false := by rw [beq_eq_false_iff_ne]; omega
    have e1 : ((kindN c : Int) == 75) = false := by rw [beq_eq_false_iff_ne]; omega
    have e2 : ((kindN c : Int) == 80) = false := by rw [beq_eq_false_iff_ne]; omega
    clear h0 h1 h2
    go_enter Tryz.func96, Tryz.ntmps96
    go_wp2_with fail
    refine (kind_any c _).mono ?_
    rintro e w1 ⟨rfl, rfl⟩
    go_wp2
    go_ret
    exact ⟨by rw [K.out]; rfl, rfl⟩
theorem most_is (c k : Nat) (w : World) (h : mostN c = k) : Calls Tryz.prog 96 #[.int .u8 (c : Int)] w (Says w (.int .i64 (k : Int))) := by subst h; exact most_any c w
end Go.Proofs.YtbfkkedcjodceaaGreatDoor
