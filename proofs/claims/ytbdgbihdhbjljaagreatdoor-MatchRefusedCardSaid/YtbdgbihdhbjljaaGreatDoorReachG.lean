/- Where a piece goes, by the document's own answer: kind by kind. -/
import Derived.Test.YtbdgbihdhbjljaaGreatDoorReachE
namespace Go.Proofs.YtbdgbihdhbjljaaGreatDoor
open Go.RowKit Go.Shelf
open M (S)

set_option maxHeartbeats 4000000 in
theorem can_K (s : ByteArray) (a b c : Nat) (f r : Int) (w : World) (hs : 90 ≤ s.size) (ha : a < 90) (hb : b < 90) (hbk : s[a].toNat = c) (hk : kindN c = 75) (hf : (fileD a b : Int) = f) (hr : (rankD a b : Int) = r) :
    Calls Tryz.prog 179 #[.string s, .int .i64 (a : Int), .int .i64 (b : Int)] w (Says w (.bool ((f + r == 1) && mayB c (b : Int)))) := by
  unfold Says
  have h0 : 0 ≤ f ∧ f ≤ 8 ∧ 0 ≤ r ∧ r ≤ 9 := by unfold fileD at hf; unfold rankD at hr; omega
  obtain ⟨f0, f8, r0, r9⟩ := h0
  have Hf := Lib.hid hf
  have Hr := Lib.hid hr
  have Hk := Lib.hid hk
  clear hf hr hk
  cases hq : (f + r == 1)
  · have K := Lib.hid (Bool.false_and (mayB c (b : Int)))
    go_enter Tryz.func179, Tryz.ntmps179
    go_wp2_with fail
    refine (raway_is _ _ _ _ (by omega) (by omega) (by omega) (by omega) (file_away.trans Hf.out)).mono ?_
    rintro e w1 ⟨rfl, rfl⟩
    go_wp2_with fail
    refine (raway_is _ _ _ _ (by omega) (by omega) (by omega) (by omega) (rank_away.trans Hr.out)).mono ?_
    rintro e w1 ⟨rfl, rfl⟩
    go_wp2_with fail
    refine (rkind_is c 75 _ Hk.out).mono ?_
    rintro e w1 ⟨rfl, rfl⟩
    go_wp2
    go_ret
    exact ⟨by first | rfl | (rw [K.out]; rfl), rfl⟩
  · cases hm : mayB c (b : Int)
    · have Hm := Lib.hid hm
      have K := Lib.hid (Bool.true_and false)
      clear hm
      go_enter Tryz.func179, Tryz.ntmps179
      go_wp2_with fail
      refine (raway_is _ _ _ _ (by omega) (by omega) (by omega) (by omega) (file_away.trans Hf.out)).mono ?_
      rintro e w1 ⟨rfl, rfl⟩
      go_wp2_with fail
      refine (raway_is _ _ _ _ (by omega) (by omega) (by omega) (by omega) (rank_away.trans Hr.out)).mono ?_
      rintro e w1 ⟨rfl, rfl⟩
      go_wp2_with fail
      refine (rkind_is c 75 _ Hk.out).mono ?_
      rintro e w1 ⟨rfl, rfl⟩
      go_wp2_with fail
      refine (rmay_is c _ false _ Hm.out).mono ?_
      rintro e w1 ⟨rfl, rfl⟩
      go_wp2
      go_ret
      exact ⟨by first | rfl | (rw [K.out]; rfl), rfl⟩
    · have Hm := Lib.hid hm
      have K := Lib.hid (Bool.true_and true)
      clear hm
      go_enter Tryz.func179, Tryz.ntmps179
      go_wp2_with fail
      refine (raway_is _ _ _ _ (by omega) (by omega) (by omega) (by omega) (file_away.trans Hf.out)).mono ?_
      rintro e w1 ⟨rfl, rfl⟩
      go_wp2_with fail
      refine (raway_is _ _ _ _ (by omega) (by omega) (by omega) (by omega) (rank_away.trans Hr.out)).mono ?_
      rintro e w1 ⟨rfl, rfl⟩
      go_wp2_with fail
      refine (rkind_is c 75 _ Hk.out).mono ?_
      rintro e w1 ⟨rfl, rfl⟩
      go_wp2_with fail
      refine (rmay_is c _ true _ Hm.out).mono ?_
      rintro e w1 ⟨rfl, rfl⟩
      go_wp2
      go_ret
      exact ⟨by first | rfl | (rw [K.out]; rfl), rfl⟩
set_option maxHeartbeats 4000000 in
theorem can_A (s : ByteArray) (a b c : Nat) (f r : Int) (w : World) (hs : 90 ≤ s.size) (ha : a < 90) (hb : b < 90) (hbk : s[a].toNat = c) (hk : kindN c = 65) (hf : (fileD a b : Int) = f) (hr : (rankD a b : Int) = r) :
    Calls Tryz.prog 179 #[.string s, .int .i64 (a : Int), .int .i64 (b : Int)] w (Says w (.bool ((f == 1) && (r == 1) && mayB c (b : Int)))) := by
  unfold Says
  have h0 : 0 ≤ f ∧ f ≤ 8 ∧ 0 ≤ r ∧ r ≤ 9 := by unfold fileD at hf; unfold rankD at hr; omega
  obtain ⟨f0, f8, r0, r9⟩ := h0
  have Hf := Lib.hid hf
  have Hr := Lib.hid hr
  have Hk := Lib.hid hk
  clear hf hr hk
  cases h1 : (f == 1)
  · have K := Lib.hid (show (false && (r == 1) && mayB c (b : Int)) = false by simp)
    go_enter Tryz.func179, Tryz.ntmps179
    go_wp2_with fail
    refine (raway_is _ _ _ _ (by omega) (by omega) (by omega) (by omega) (file_away.trans Hf.out)).mono ?_
    rintro e w1 ⟨rfl, rfl⟩
    go_wp2_with fail
    refine (raway_is _ _ _ _ (by omega) (by omega) (by omega) (by omega) (rank_away.trans Hr.out)).mono ?_
    rintro e w1 ⟨rfl, rfl⟩
    go_wp2_with fail
    refine (rkind_is c 65 _ Hk.out).mono ?_
    rintro e w1 ⟨rfl, rfl⟩
    go_wp2
    go_ret
    exact ⟨by first | rfl | (rw [K.out]; rfl), rfl⟩
  cases h2 : (r == 1)
  · have K := Lib.hid (show (true && false && mayB c (b : Int)) = false by simp)
    go_enter Tryz.func179, Tryz.ntmps179
    go_wp2_with fail
    refine (raway_is _ _ _ _ (by omega) (by omega) (by omega) (by omega) (file_away.trans Hf.out)).mono ?_
    rintro e w1 ⟨rfl, rfl⟩
    go_wp2_with fail
    refine (raway_is _ _ _ _ (by omega) (by omega) (by omega) (by omega) (rank_away.trans Hr.out)).mono ?_
    rintro e w1 ⟨rfl, rfl⟩
    go_wp2_with fail
    refine (rkind_is c 65 _ Hk.out).mono ?_
    rintro e w1 ⟨rfl, rfl⟩
    go_wp2
    go_ret
    exact ⟨by first | rfl | (rw [K.out]; rfl), rfl⟩
  cases hm : mayB c (b : Int)
  · have Hm := Lib.hid hm
    have K := Lib.hid (show (true && true && false) = false by rfl)
    clear hm
    go_enter Tryz.func179, Tryz.ntmps179
    go_wp2_with fail
    refine (raway_is _ _ _ _ (by omega) (by omega) (by omega) (by omega) (file_away.trans Hf.out)).mono ?_
    rintro e w1 ⟨rfl, rfl⟩
    go_wp2_with fail
    refine (raway_is _ _ _ _ (by omega) (by omega) (by omega) (by omega) (rank_away.trans Hr.out)).mono ?_
    rintro e w1 ⟨rfl, rfl⟩
    go_wp2_with fail
    refine (rkind_is c 65 _ Hk.out).mono ?_
    rintro e w1 ⟨rfl, rfl⟩
    go_wp2_with fail
    refine (rmay_is c _ false _ Hm.out).mono ?_
    rintro e w1 ⟨rfl, rfl⟩
    go_wp2
    go_ret
    exact ⟨by first | rfl | (rw [K.out]; rfl), rfl⟩
  · have Hm := Lib.hid hm
    have K := Lib.hid (show (true && true && true) = true by rfl)
    clear hm
    go_enter Tryz.func179, Tryz.ntmps179
    go_wp2_with fail
    refine (raway_is _ _ _ _ (by omega) (by omega) (by omega) (by omega) (file_away.trans Hf.out)).mono ?_
    rintro e w1 ⟨rfl, rfl⟩
    go_wp2_with fail
    refine (raway_is _ _ _ _ (by omega) (by omega) (by omega) (by omega) (rank_away.trans Hr.out)).mono ?_
    rintro e w1 ⟨rfl, rfl⟩
    go_wp2_with fail
    refine (rkind_is c 65 _ Hk.out).mono ?_
    rintro e w1 ⟨rfl, rfl⟩
    go_wp2_with fail
    refine (rmay_is c _ true _ Hm.out).mono ?_
    rintro e w1 ⟨rfl, rfl⟩
    go_wp2
    go_ret
    exact ⟨by first | rfl | (rw [K.out]; rfl), rfl⟩
set_option maxHeartbeats 4000000 in
theorem can_B (s : ByteArray) (a b c : Nat) (f r : Int) (w : World) (hs : 90 ≤ s.size) (ha : a < 90) (hb : b < 90) (hbk : s[a].toNat = c) (hk : kindN c = 66) (hf : (fileD a b : Int) = f) (hr : (rankD a b : Int) = r) :
    Calls Tryz.prog 179 #[.string s, .int .i64 (a : Int), .int .i64 (b : Int)] w (Says w (.bool ((f == 2) && (r == 2) && mayB c (b : Int) && (bAt s ((a + b) / 2) == 46)))) := by
  unfold Says
  have h0 : 0 ≤ f ∧ f ≤ 8 ∧ 0 ≤ r ∧ r ≤ 9 := by unfold fileD at hf; unfold rankD at hr; omega
  obtain ⟨f0, f8, r0, r9⟩ := h0
  have Hf := Lib.hid hf
  have Hr := Lib.hid hr
  have Hk := Lib.hid hk
  clear hf hr hk
  obtain ⟨x, hx⟩ : ∃ x, bAt s ((a + b) / 2) = x := ⟨_, rfl⟩
  have hks : (a + b) / 2 < s.size := by omega
  have hbm : s[(a + b) / 2].toNat = x := (bAt_eq s ((a + b) / 2) hks).trans hx
  rw [hx]
  have hX : (x == 46) = ((x : Int) == 46) := by rw [Bool.eq_iff_iff, beq_iff_eq, beq_iff_eq]; omega
  rw [hX]
  have HX := Lib.hid hX
  clear hx hX
  cases h1 : (f == 2)
  · have K := Lib.hid (show (false && (r == 2) && mayB c (b : Int) && ((x : Int) == 46)) = false by simp)
    go_enter Tryz.func179, Tryz.ntmps179
    go_wp2_with fail
    refine (raway_is _ _ _ _ (by omega) (by omega) (by omega) (by omega) (file_away.trans Hf.out)).mono ?_
    rintro e w1 ⟨rfl, rfl⟩
    go_wp2_with fail
    refine (raway_is _ _ _ _ (by omega) (by omega) (by omega) (by omega) (rank_away.trans Hr.out)).mono ?_
    rintro e w1 ⟨rfl, rfl⟩
    go_wp2_with fail
    refine (rkind_is c 66 _ Hk.out).mono ?_
    rintro e w1 ⟨rfl, rfl⟩
    go_wp2
    go_ret
    exact ⟨by first | rfl | (rw [K.out]; rfl), rfl⟩
  cases h2 : (r == 2)
  · have K := Lib.hid (show (true && false && mayB c (b : Int) && ((x : Int) == 46)) = false by simp)
    go_enter Tryz.func179, Tryz.ntmps179
    go_wp2_with fail
    refine (raway_is _ _ _ _ (by omega) (by omega) (by omega) (by omega) (file_away.trans Hf.out)).mono ?_
    rintro e w1 ⟨rfl, rfl⟩
    go_wp2_with fail
    refine (raway_is _ _ _ _ (by omega) (by omega) (by omega) (by omega) (rank_away.trans Hr.out)).mono ?_
    rintro e w1 ⟨rfl, rfl⟩
    go_wp2_with fail
    refine (rkind_is c 66 _ Hk.out).mono ?_
    rintro e w1 ⟨rfl, rfl⟩
    go_wp2
    go_ret
    exact ⟨by first | rfl | (rw [K.out]; rfl), rfl⟩
  cases hm : mayB c (b : Int)
  · have Hm := Lib.hid hm
    have K := Lib.hid (show (true && true && false && ((x : Int) == 46)) = false by simp)
    clear hm
    go_enter Tryz.func179, Tryz.ntmps179
    go_wp2_with fail
    refine (raway_is _ _ _ _ (by omega) (by omega) (by omega) (by omega) (file_away.trans Hf.out)).mono ?_
    rintro e w1 ⟨rfl, rfl⟩
    go_wp2_with fail
    refine (raway_is _ _ _ _ (by omega) (by omega) (by omega) (by omega) (rank_away.trans Hr.out)).mono ?_
    rintro e w1 ⟨rfl, rfl⟩
    go_wp2_with fail
    refine (rkind_is c 66 _ Hk.out).mono ?_
    rintro e w1 ⟨rfl, rfl⟩
    go_wp2_with fail
    refine (rmay_is c _ false _ Hm.out).mono ?_
    rintro e w1 ⟨rfl, rfl⟩
    go_wp2
    go_ret
    exact ⟨by first | rfl | (rw [K.out]; rfl), rfl⟩
  · have Hm := Lib.hid hm
    have K := Lib.hid (show (true && true && true && ((x : Int) == 46)) = ((x : Int) == 46) by rfl)
    clear hm
    go_enter Tryz.func179, Tryz.ntmps179
    go_wp2_with fail
    refine (raway_is _ _ _ _ (by omega) (by omega) (by omega) (by omega) (file_away.trans Hf.out)).mono ?_
    rintro e w1 ⟨rfl, rfl⟩
    go_wp2_with fail
    refine (raway_is _ _ _ _ (by omega) (by omega) (by omega) (by omega) (rank_away.trans Hr.out)).mono ?_
    rintro e w1 ⟨rfl, rfl⟩
    go_wp2_with fail
    refine (rkind_is c 66 _ Hk.out).mono ?_
    rintro e w1 ⟨rfl, rfl⟩
    go_wp2_with fail
    refine (rmay_is c _ true _ Hm.out).mono ?_
    rintro e w1 ⟨rfl, rfl⟩
    go_wp2
    go_ret
    exact ⟨by first | rfl | (rw [K.out]; rfl), rfl⟩
set_option maxHeartbeats 4000000 in
theorem can_R (s : ByteArray) (a b c : Nat) (f r : Int) (w : World) (hs : 90 ≤ s.size) (ha : a < 90) (hb : b < 90) (hbk : s[a].toNat = c) (hk : kindN c = 82) (hf : (fileD a b : Int) = f) (hr : (rankD a b : Int) = r) :
    Calls Tryz.prog 179 #[.string s, .int .i64 (a : Int), .int .i64 (b : Int)] w (Says w (.bool ((betweenI s a b == 0)))) := by
  unfold Says
  have h0 : 0 ≤ f ∧ f ≤ 8 ∧ 0 ≤ r ∧ r ≤ 9 := by unfold fileD at hf; unfold rankD at hr; omega
  obtain ⟨f0, f8, r0, r9⟩ := h0
  have Hf := Lib.hid hf
  have Hr := Lib.hid hr
  have Hk := Lib.hid hk
  clear hf hr hk
  obtain ⟨n, hn⟩ : ∃ n, betweenI s a b = n := ⟨_, rfl⟩
  have HN := Lib.hid hn
  rw [hn]
  clear hn
  have K : Hid (n = n) := rfl
  go_enter Tryz.func179, Tryz.ntmps179
  go_wp2_with fail
  refine (raway_is _ _ _ _ (by omega) (by omega) (by omega) (by omega) (file_away.trans Hf.out)).mono ?_
  rintro e w1 ⟨rfl, rfl⟩
  go_wp2_with fail
  refine (raway_is _ _ _ _ (by omega) (by omega) (by omega) (by omega) (rank_away.trans Hr.out)).mono ?_
  rintro e w1 ⟨rfl, rfl⟩
  go_wp2_with fail
  refine (rkind_is c 82 _ Hk.out).mono ?_
  rintro e w1 ⟨rfl, rfl⟩
  go_wp2_with fail
  refine (rbetween_is s a b _ _ hs ha hb HN.out).mono ?_
  rintro e w1 ⟨rfl, rfl⟩
  go_wp2
  go_ret
  exact ⟨by first | rfl | (rw [K.out]; rfl), rfl⟩
set_option maxHeartbeats 4000000 in
theorem can_N (s : ByteArray) (a b c : Nat) (f r : Int) (w : World) (hs : 90 ≤ s.size) (ha : a < 90) (hb : b < 90) (hbk : s[a].toNat = c) (hk : kindN c = 78) (hf : (fileD a b : Int) = f) (hr : (rankD a b : Int) = r) :
    Calls Tryz.prog 179 #[.string s, .int .i64 (a : Int), .int .i64 (b : Int)] w (Says w (.bool (horseB s a b))) := by
  unfold Says
  have Hf := Lib.hid hf
  have Hr := Lib.hid hr
  have Hk := Lib.hid hk
  clear hf hr hk
  go_enter Tryz.func179, Tryz.ntmps179
  go_wp2_with fail
  refine (raway_is _ _ _ _ (by omega) (by omega) (by omega) (by omega) (file_away.trans Hf.out)).mono ?_
  rintro e w1 ⟨rfl, rfl⟩
  go_wp2_with fail
  refine (raway_is _ _ _ _ (by omega) (by omega) (by omega) (by omega) (rank_away.trans Hr.out)).mono ?_
  rintro e w1 ⟨rfl, rfl⟩
  go_wp2_with fail
  refine (rkind_is c 78 _ Hk.out).mono ?_
  rintro e w1 ⟨rfl, rfl⟩
  go_wp2_with fail
  refine (rhorse_any s a b _ hs ha hb).mono ?_
  rintro e w1 ⟨rfl, rfl⟩
  go_wp2
  go_ret
  exact ⟨rfl, rfl⟩
set_option maxHeartbeats 4000000 in
theorem can_C (s : ByteArray) (a b c : Nat) (f r : Int) (w : World) (hs : 90 ≤ s.size) (ha : a < 90) (hb : b < 90) (hbk : s[a].toNat = c) (hk : kindN c = 67) (hf : (fileD a b : Int) = f) (hr : (rankD a b : Int) = r) :
    Calls Tryz.prog 179 #[.string s, .int .i64 (a : Int), .int .i64 (b : Int)] w (Says w (.bool ((betweenI s a b == 0 && (bAt s b == 46)) || (betweenI s a b == 1 && (bAt s b != 46))))) := by
  unfold Says
  have Hf := Lib.hid hf
  have Hr := Lib.hid hr
  have Hk := Lib.hid hk
  clear hf hr hk
  obtain ⟨n, hn⟩ : ∃ n, betweenI s a b = n := ⟨_, rfl⟩
  obtain ⟨x, hx⟩ : ∃ x, bAt s b = x := ⟨_, rfl⟩
  have hks : b < s.size := by omega
  have hbl : s[b].toNat = x := (bAt_eq s b hks).trans hx
  have e1 : (x == 46) = ((x : Int) == 46) := by rw [Bool.eq_iff_iff, beq_iff_eq, beq_iff_eq]; omega
  have e2 : (x != 46) = ((x : Int) != 46) := by rw [bne, e1]; rfl
  rw [hn, hx, e1, e2]
  have HN := Lib.hid hn
  obtain ⟨V, hV⟩ : ∃ V, ((n == 0 && ((x : Int) == 46)) || (n == 1 && ((x : Int) != 46))) = V := ⟨_, rfl⟩
  rw [hV]
  have HV := Lib.hid hV
  clear hn hx e1 e2 hV
  have hc : ((n == 0) = true ∧ (n == 1) = false) ∨ ((n == 0) = false ∧ (n == 1) = true) ∨ ((n == 0) = false ∧ (n == 1) = false) := by
    cases e1 : (n == 0) <;> cases e2 : (n == 1) <;> simp_all
  rcases hc with ⟨c1, c2⟩ | ⟨c1, c2⟩ | ⟨c1, c2⟩
  all_goals
    cases c3 : ((x : Int) == 46)
    all_goals
      have c4 : ((x : Int) != 46) = _ := congrArg not c3
      have hv := HV.out.symm
      rw [c1, c2, c3, c4] at hv
      have K := Lib.hid hv
      simp only [Bool.not_false, Bool.not_true] at c4
      clear hv
      go_enter Tryz.func179, Tryz.ntmps179
      go_wp2_with fail
      refine (raway_is _ _ _ _ (by omega) (by omega) (by omega) (by omega) (file_away.trans Hf.out)).mono ?_
      rintro e w1 ⟨rfl, rfl⟩
      go_wp2_with fail
      refine (raway_is _ _ _ _ (by omega) (by omega) (by omega) (by omega) (rank_away.trans Hr.out)).mono ?_
      rintro e w1 ⟨rfl, rfl⟩
      go_wp2_with fail
      refine (rkind_is c 67 _ Hk.out).mono ?_
      rintro e w1 ⟨rfl, rfl⟩
      go_wp2_with fail
      refine (rbetween_is s a b _ _ hs ha hb HN.out).mono ?_
      rintro e w1 ⟨rfl, rfl⟩
      go_wp2
      go_ret
      exact ⟨by first | rfl | (rw [K.out]; rfl), rfl⟩
set_option maxHeartbeats 4000000 in
theorem can_P (s : ByteArray) (a b c : Nat) (f r : Int) (w : World) (hs : 90 ≤ s.size) (ha : a < 90) (hb : b < 90) (hbk : s[a].toNat = c) (hk : kindN c = 80) (hsd : sideN c = 0 ∨ sideN c = 1) (hf : (fileD a b : Int) = f) (hr : (rankD a b : Int) = r) :
    Calls Tryz.prog 179 #[.string s, .int .i64 (a : Int), .int .i64 (b : Int)] w (Says w (.bool (pawnB c a b))) := by
  unfold Says
  have Hf := Lib.hid hf
  have Hr := Lib.hid hr
  have Hk := Lib.hid hk
  have P : Hid (∃ d : Int, sideN c = d ∧ ∀ W, Calls Tryz.prog 210 #[.int .i64 d, .int .i64 (a : Int), .int .i64 (b : Int)] W (Says W (.bool (pawnB c a b)))) := by
    rcases hsd with h | h
    · exact ⟨0, h, fun W => rpawn_0 a b c W ha hb h⟩
    · exact ⟨1, h, fun W => rpawn_1 a b c W ha hb h⟩
  obtain ⟨d, hd, hp⟩ := P.out
  have Hs := Lib.hid hd
  have Hp := Lib.hid hp
  clear hf hr hk hsd P hd hp
  go_enter Tryz.func179, Tryz.ntmps179
  go_wp2_with fail
  refine (raway_is _ _ _ _ (by omega) (by omega) (by omega) (by omega) (file_away.trans Hf.out)).mono ?_
  rintro e w1 ⟨rfl, rfl⟩
  go_wp2_with fail
  refine (raway_is _ _ _ _ (by omega) (by omega) (by omega) (by omega) (rank_away.trans Hr.out)).mono ?_
  rintro e w1 ⟨rfl, rfl⟩
  go_wp2_with fail
  refine (rkind_is c 80 _ Hk.out).mono ?_
  rintro e w1 ⟨rfl, rfl⟩
  go_wp2_with fail
  refine (rside_is c _ _ Hs.out).mono ?_
  rintro e w1 ⟨rfl, rfl⟩
  go_wp2_with fail
  refine (Hp.out _).mono ?_
  rintro e w1 ⟨rfl, rfl⟩
  go_wp2
  go_ret
  exact ⟨rfl, rfl⟩
theorem line_zero5 {s : ByteArray} {a b : Nat} : (betweenI s a b == 0) = (lineB a b && (betweenN s a b == 0)) := by
  unfold betweenI
  cases lineB a b
  · rfl
  · rw [if_pos rfl, Bool.true_and, Bool.eq_iff_iff, beq_iff_eq, beq_iff_eq]
    exact Int.ofNat_inj
theorem line_one5 {s : ByteArray} {a b : Nat} : (betweenI s a b == 1) = (lineB a b && (betweenN s a b == 1)) := by
  unfold betweenI
  cases lineB a b
  · rfl
  · rw [if_pos rfl, Bool.true_and, Bool.eq_iff_iff, beq_iff_eq, beq_iff_eq]
    exact Int.ofNat_inj (n := 1)
theorem file_one5 {a b : Nat} {n : Nat} : (((fileD a b : Nat) : Int) == (n : Int)) = (fileD a b == n) := by rw [Bool.eq_iff_iff, beq_iff_eq, beq_iff_eq]; omega
theorem rank_one5 {a b : Nat} {n : Nat} : (((rankD a b : Nat) : Int) == (n : Int)) = (rankD a b == n) := by rw [Bool.eq_iff_iff, beq_iff_eq, beq_iff_eq]; omega
theorem sum_one5 {a b : Nat} : (((fileD a b : Nat) : Int) + ((rankD a b : Nat) : Int) == 1) = (fileD a b + rankD a b == 1) := by rw [Bool.eq_iff_iff, beq_iff_eq, beq_iff_eq]; omega
theorem rcan_any (s : ByteArray) (a b : Nat) (w : World) (hs : 90 ≤ s.size) (ha : a < 90) (hb : b < 90) (h : 0 ≤ sideN (bAt s a)) :
    Calls Tryz.prog 179 #[.string s, .int .i64 (a : Int), .int .i64 (b : Int)] w (Says w (.bool (goesB s (bAt s a) a b))) := by
  have hk := bAt_eq s a (by omega)
  unfold goesB
  rcases kinds_of h with e | e | e | e | e | e | e
  · rw [if_pos e, ← sum_one5]
    exact can_K s a b _ _ _ w hs ha hb hk e rfl rfl
  · rw [if_neg (by omega), if_pos e, ← @file_one5 a b 1, ← @rank_one5 a b 1]
    exact can_A s a b _ _ _ w hs ha hb hk e rfl rfl
  · rw [if_neg (by omega), if_neg (by omega), if_pos e, ← @file_one5 a b 2, ← @rank_one5 a b 2]
    exact can_B s a b _ _ _ w hs ha hb hk e rfl rfl
  · rw [if_neg (by omega), if_neg (by omega), if_neg (by omega), if_pos e]
    exact can_N s a b _ _ _ w hs ha hb hk e rfl rfl
  · rw [if_neg (by omega), if_neg (by omega), if_neg (by omega), if_neg (by omega), if_pos e, ← line_zero5]
    exact can_R s a b _ _ _ w hs ha hb hk e rfl rfl
  · rw [if_neg (by omega), if_neg (by omega), if_neg (by omega), if_neg (by omega), if_neg (by omega), if_pos e, Bool.and_or_distrib_left, ← Bool.and_assoc, ← Bool.and_assoc, ← line_zero5, ← line_one5]
    exact can_C s a b _ _ _ w hs ha hb hk e rfl rfl
  · rw [if_neg (by omega), if_neg (by omega), if_neg (by omega), if_neg (by omega), if_neg (by omega), if_neg (by omega)]
    exact can_P s a b _ _ _ w hs ha hb hk e (side_cases01 h) rfl rfl
set_option maxHeartbeats 4000000 in
theorem fast_any (s : ByteArray) (a b : Nat) (w : World) (hs : 90 ≤ s.size) (ha : a < 90) (hb : b < 90) :
    Calls Tryz.prog 137 #[.string s, .int .i64 (a : Int), .int .i64 (b : Int)] w (Says w (.bool (canB s a b))) := by
  unfold Says
  have hca := rcan_any s a b w hs ha hb
  obtain ⟨c, hc⟩ : ∃ c, bAt s a = c := ⟨_, rfl⟩
  obtain ⟨x, hx⟩ : ∃ x, bAt s b = x := ⟨_, rfl⟩
  have hks : a < s.size := by omega
  have hbk : s[a].toNat = c := (bAt_eq s a hks).trans hc
  have hks2 : b < s.size := by omega
  have hbl : s[b].toNat = x := (bAt_eq s b hks2).trans hx
  obtain ⟨d, hd⟩ : ∃ d, sideN c = d := ⟨_, rfl⟩
  obtain ⟨y, hy⟩ : ∃ y, sideN x = y := ⟨_, rfl⟩
  have Hd := Lib.hid hd
  have Hy := Lib.hid hy
  by_cases h0 : 0 ≤ d
  · have e0 : decide (d < 0) = false := by simp; omega
    by_cases h1 : y = d
    · have e1 : (y == d) = true := by rw [beq_iff_eq]; exact h1
      have K : Hid (canB s a b = false) := by show _ = _; unfold canB; rw [hc, hx, hd, hy, h1]; simp
      clear hca hc hx hd hy h1
      go_enter Tryz.func137, Tryz.ntmps137
      go_wp2_with fail
      refine (rside_is c _ _ Hd.out).mono ?_
      rintro e w1 ⟨rfl, rfl⟩
      go_wp2_with fail
      refine (rside_is x _ _ Hy.out).mono ?_
      rintro e w1 ⟨rfl, rfl⟩
      go_wp2
      go_ret
      exact ⟨by rw [K.out]; rfl, rfl⟩
    · have e1 : (y == d) = false := by rw [beq_eq_false_iff_ne]; exact h1
      have K : Hid (canB s a b = goesB s (bAt s a) a b) := by show _ = _; unfold canB; rw [hc, hx, hd, hy, decide_eq_true h0, show (y != d) = true by rw [bne_iff_ne]; exact h1]; rfl
      have C := Lib.hid (hca (by rw [hc, hd]; exact h0))
      clear hca hc hx hd hy h1
      go_enter Tryz.func137, Tryz.ntmps137
      go_wp2_with fail
      refine (rside_is c _ _ Hd.out).mono ?_
      rintro e w1 ⟨rfl, rfl⟩
      go_wp2_with fail
      refine (rside_is x _ _ Hy.out).mono ?_
      rintro e w1 ⟨rfl, rfl⟩
      go_wp2_with fail
      refine C.out.mono ?_
      rintro e w1 ⟨rfl, rfl⟩
      go_wp2
      go_ret
      exact ⟨by rw [K.out]; rfl, rfl⟩
  · have e0 : decide (d < 0) = true := by simp; omega
    have K : Hid (canB s a b = false) := by show _ = _; unfold canB; rw [hc, hd, decide_eq_false h0]; simp
    clear hca hc hx hd hy h0
    go_enter Tryz.func137, Tryz.ntmps137
    go_wp2_with fail
    refine (rside_is c _ _ Hd.out).mono ?_
    rintro e w1 ⟨rfl, rfl⟩
    go_wp2
    go_ret
    exact ⟨by rw [K.out]; rfl, rfl⟩
theorem fast_is (s : ByteArray) (a b : Nat) (v : Bool) (w : World) (hs : 90 ≤ s.size) (ha : a < 90) (hb : b < 90) (h : canB s a b = v) :
    Calls Tryz.prog 137 #[.string s, .int .i64 (a : Int), .int .i64 (b : Int)] w (Says w (.bool v)) := by subst h; exact fast_any s a b w hs ha hb
theorem ris5_is (s : ByteArray) (b : Bool) (w : World) (h : isB s = b) : Calls Tryz.prog 99 #[.string s] w (Says w (.bool b)) := by subst h; exact ris_any s w
theorem rBetween_any (s : ByteArray) (a b : Int) (w : World) : Calls Tryz.prog 113 #[.string s, .int .i64 a, .int .i64 b] w (Says w (.int .i64 (betweenV s a b))) := by
  unfold Says
  cases hi : isB s
  · have K : Hid (betweenV s a b = -1) := by show _ = _; unfold betweenV; rw [hi]; rfl
    have B := Lib.hid hi
    clear hi
    go_enter Tryz.func113, Tryz.ntmps113
    go_wp2_with fail
    refine (ris5_is s false _ B.out).mono ?_
    rintro e w1 ⟨rfl, rfl⟩
    go_wp2
    go_ret
    exact ⟨by rw [K.out]; rfl, rfl⟩
  cases h1 : sqI a
  · have K : Hid (betweenV s a b = -1) := by show _ = _; unfold betweenV; rw [h1]; simp
    have B := Lib.hid hi
    have S1 := Lib.hid h1
    clear hi h1
    go_enter Tryz.func113, Tryz.ntmps113
    go_wp2_with fail
    refine (ris5_is s true _ B.out).mono ?_
    rintro e w1 ⟨rfl, rfl⟩
    go_wp2_with fail
    refine (rreal5_is a false _ S1.out).mono ?_
    rintro e w1 ⟨rfl, rfl⟩
    go_wp2
    go_ret
    exact ⟨by rw [K.out]; rfl, rfl⟩
  cases h2 : sqI b
  · have K : Hid (betweenV s a b = -1) := by show _ = _; unfold betweenV; rw [h2]; simp
    have B := Lib.hid hi
    have S1 := Lib.hid h1
    have S2 := Lib.hid h2
    clear hi h1 h2
    go_enter Tryz.func113, Tryz.ntmps113
    go_wp2_with fail
    refine (ris5_is s true _ B.out).mono ?_
    rintro e w1 ⟨rfl, rfl⟩
    go_wp2_with fail
    refine (rreal5_is a true _ S1.out).mono ?_
    rintro e w1 ⟨rfl, rfl⟩
    go_wp2_with fail
    refine (rreal5_is b false _ S2.out).mono ?_
    rintro e w1 ⟨rfl, rfl⟩
    go_wp2
    go_ret
    exact ⟨by rw [K.out]; rfl, rfl⟩
  · obtain ⟨p, q⟩ := sqI_in h1
    obtain ⟨p2, q2⟩ := sqI_in h2
    obtain ⟨m, rfl⟩ : ∃ m : Nat, a = m := ⟨a.toNat, by omega⟩
    obtain ⟨n, rfl⟩ : ∃ n : Nat, b = n := ⟨b.toNat, by omega⟩
    have K : Hid (betweenV s m n = betweenI s m n) := by show _ = _; unfold betweenV; rw [hi, h1, h2]; rfl
    have hz := isB_size hi
    have B := Lib.hid hi
    have S1 := Lib.hid h1
    have S2 := Lib.hid h2
    clear hi h1 h2
    go_enter Tryz.func113, Tryz.ntmps113
    go_wp2_with fail
    refine (ris5_is s true _ B.out).mono ?_
    rintro e w1 ⟨rfl, rfl⟩
    go_wp2_with fail
    refine (rreal5_is _ true _ S1.out).mono ?_
    rintro e w1 ⟨rfl, rfl⟩
    go_wp2_with fail
    refine (rreal5_is _ true _ S2.out).mono ?_
    rintro e w1 ⟨rfl, rfl⟩
    go_wp2_with fail
    refine (rbetween_any s m n _ (by omega) (by omega) (by omega)).mono ?_
    rintro e w1 ⟨rfl, rfl⟩
    go_wp2
    go_ret
    exact ⟨by rw [K.out]; rfl, rfl⟩
theorem rBetween_is (s : ByteArray) (a b k : Int) (w : World) (h : betweenV s a b = k) : Calls Tryz.prog 113 #[.string s, .int .i64 a, .int .i64 b] w (Says w (.int .i64 k)) := by subst h; exact rBetween_any s a b w
end Go.Proofs.YtbdgbihdhbjljaaGreatDoor
