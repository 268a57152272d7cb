/- Where a piece goes, by the code: kind by kind. -/
import Derived.Test.YtbdgbihdhbjljaaGreatDoorReachC
namespace Go.Proofs.YtbdgbihdhbjljaaGreatDoor
open Go.RowKit Go.Shelf
open M (S)

set_option maxHeartbeats 4000000 in
theorem goes_K (s : ByteArray) (a b c : Nat) (f r : Int) (w : World) (hs : 90 ≤ s.size) (ha : a < 90) (hb : b < 90) (hbk : s[a].toNat = c) (hk : kindN c = 75) (hf : (fileD a b : Int) = f) (hr : (rankD a b : Int) = r) :
    Calls Tryz.prog 204 #[.string s, .int .i64 (a : Int), .int .i64 (b : Int)] w (Gives w (.bool ((f + r == 1) && mayB c (b : Int)))) := by
  unfold Gives
  have h0 : 0 ≤ f ∧ f ≤ 8 ∧ 0 ≤ r ∧ r ≤ 9 := by unfold fileD at hf; unfold rankD at hr; omega
  obtain ⟨f0, f8, r0, r9⟩ := h0
  have Hf := Lib.hid hf
  have Hr := Lib.hid hr
  have Hk := Lib.hid hk
  clear hf hr hk
  cases hq : (f + r == 1)
  · have K := Lib.hid (Bool.false_and (mayB c (b : Int)))
    go_enter Tryz.func204, Tryz.ntmps204
    go_wp2_with fail
    refine (away_is a b _ _ _ ha hb Hf.out Hr.out).mono ?_
    rintro e w1 ⟨rfl, rfl⟩
    go_wp2_with fail
    refine (kind_is c 75 _ Hk.out).mono ?_
    rintro e w1 ⟨rfl, rfl⟩
    go_wp2
    go_ret
    exact ⟨by first | rfl | (rw [K.out]; rfl), Below.refl _ _⟩
  · cases hm : mayB c (b : Int)
    · have Hm := Lib.hid hm
      have K := Lib.hid (Bool.true_and false)
      clear hm
      go_enter Tryz.func204, Tryz.ntmps204
      go_wp2_with fail
      refine (away_is a b _ _ _ ha hb Hf.out Hr.out).mono ?_
      rintro e w1 ⟨rfl, rfl⟩
      go_wp2_with fail
      refine (kind_is c 75 _ Hk.out).mono ?_
      rintro e w1 ⟨rfl, rfl⟩
      go_wp2_with fail
      refine (may_is c _ false _ Hm.out).mono ?_
      rintro e w1 ⟨rfl, hb⟩
      go_wp2
      go_ret
      exact ⟨by first | rfl | (rw [K.out]; rfl), hb⟩
    · have Hm := Lib.hid hm
      have K := Lib.hid (Bool.true_and true)
      clear hm
      go_enter Tryz.func204, Tryz.ntmps204
      go_wp2_with fail
      refine (away_is a b _ _ _ ha hb Hf.out Hr.out).mono ?_
      rintro e w1 ⟨rfl, rfl⟩
      go_wp2_with fail
      refine (kind_is c 75 _ Hk.out).mono ?_
      rintro e w1 ⟨rfl, rfl⟩
      go_wp2_with fail
      refine (may_is c _ true _ Hm.out).mono ?_
      rintro e w1 ⟨rfl, hb⟩
      go_wp2
      go_ret
      exact ⟨by first | rfl | (rw [K.out]; rfl), hb⟩
set_option maxHeartbeats 4000000 in
theorem goes_A (s : ByteArray) (a b c : Nat) (f r : Int) (w : World) (hs : 90 ≤ s.size) (ha : a < 90) (hb : b < 90) (hbk : s[a].toNat = c) (hk : kindN c = 65) (hf : (fileD a b : Int) = f) (hr : (rankD a b : Int) = r) :
    Calls Tryz.prog 204 #[.string s, .int .i64 (a : Int), .int .i64 (b : Int)] w (Gives w (.bool ((f == 1) && (r == 1) && mayB c (b : Int)))) := by
  unfold Gives
  have h0 : 0 ≤ f ∧ f ≤ 8 ∧ 0 ≤ r ∧ r ≤ 9 := by unfold fileD at hf; unfold rankD at hr; omega
  obtain ⟨f0, f8, r0, r9⟩ := h0
  have Hf := Lib.hid hf
  have Hr := Lib.hid hr
  have Hk := Lib.hid hk
  clear hf hr hk
  cases h1 : (f == 1)
  · have K := Lib.hid (show (false && (r == 1) && mayB c (b : Int)) = false by simp)
    go_enter Tryz.func204, Tryz.ntmps204
    go_wp2_with fail
    refine (away_is a b _ _ _ ha hb Hf.out Hr.out).mono ?_
    rintro e w1 ⟨rfl, rfl⟩
    go_wp2_with fail
    refine (kind_is c 65 _ Hk.out).mono ?_
    rintro e w1 ⟨rfl, rfl⟩
    go_wp2
    go_ret
    exact ⟨by first | rfl | (rw [K.out]; rfl), Below.refl _ _⟩
  cases h2 : (r == 1)
  · have K := Lib.hid (show (true && false && mayB c (b : Int)) = false by simp)
    go_enter Tryz.func204, Tryz.ntmps204
    go_wp2_with fail
    refine (away_is a b _ _ _ ha hb Hf.out Hr.out).mono ?_
    rintro e w1 ⟨rfl, rfl⟩
    go_wp2_with fail
    refine (kind_is c 65 _ Hk.out).mono ?_
    rintro e w1 ⟨rfl, rfl⟩
    go_wp2
    go_ret
    exact ⟨by first | rfl | (rw [K.out]; rfl), Below.refl _ _⟩
  cases hm : mayB c (b : Int)
  · have Hm := Lib.hid hm
    have K := Lib.hid (show (true && true && false) = false by rfl)
    clear hm
    go_enter Tryz.func204, Tryz.ntmps204
    go_wp2_with fail
    refine (away_is a b _ _ _ ha hb Hf.out Hr.out).mono ?_
    rintro e w1 ⟨rfl, rfl⟩
    go_wp2_with fail
    refine (kind_is c 65 _ Hk.out).mono ?_
    rintro e w1 ⟨rfl, rfl⟩
    go_wp2_with fail
    refine (may_is c _ false _ Hm.out).mono ?_
    rintro e w1 ⟨rfl, hb⟩
    go_wp2
    go_ret
    exact ⟨by first | rfl | (rw [K.out]; rfl), hb⟩
  · have Hm := Lib.hid hm
    have K := Lib.hid (show (true && true && true) = true by rfl)
    clear hm
    go_enter Tryz.func204, Tryz.ntmps204
    go_wp2_with fail
    refine (away_is a b _ _ _ ha hb Hf.out Hr.out).mono ?_
    rintro e w1 ⟨rfl, rfl⟩
    go_wp2_with fail
    refine (kind_is c 65 _ Hk.out).mono ?_
    rintro e w1 ⟨rfl, rfl⟩
    go_wp2_with fail
    refine (may_is c _ true _ Hm.out).mono ?_
    rintro e w1 ⟨rfl, hb⟩
    go_wp2
    go_ret
    exact ⟨by first | rfl | (rw [K.out]; rfl), hb⟩
set_option maxHeartbeats 4000000 in
theorem goes_B (s : ByteArray) (a b c : Nat) (f r : Int) (w : World) (hs : 90 ≤ s.size) (ha : a < 90) (hb : b < 90) (hbk : s[a].toNat = c) (hk : kindN c = 66) (hf : (fileD a b : Int) = f) (hr : (rankD a b : Int) = r) :
    Calls Tryz.prog 204 #[.string s, .int .i64 (a : Int), .int .i64 (b : Int)] w (Gives w (.bool ((f == 2) && (r == 2) && mayB c (b : Int) && (bAt s ((a + b) / 2) == 46)))) := by
  unfold Gives
  have h0 : 0 ≤ f ∧ f ≤ 8 ∧ 0 ≤ r ∧ r ≤ 9 := by unfold fileD at hf; unfold rankD at hr; omega
  obtain ⟨f0, f8, r0, r9⟩ := h0
  have Hf := Lib.hid hf
  have Hr := Lib.hid hr
  have Hk := Lib.hid hk
  clear hf hr hk
  obtain ⟨x, hx⟩ : ∃ x, bAt s ((a + b) / 2) = x := ⟨_, rfl⟩
  have hks : (a + b) / 2 < s.size := by omega
  have hbm : s[(a + b) / 2].toNat = x := (bAt_eq s ((a + b) / 2) hks).trans hx
  rw [hx]
  have hX : (x == 46) = ((x : Int) == 46) := by rw [Bool.eq_iff_iff, beq_iff_eq, beq_iff_eq]; omega
  rw [hX]
  have HX := Lib.hid hX
  clear hx hX
  cases h1 : (f == 2)
  · have K := Lib.hid (show (false && (r == 2) && mayB c (b : Int) && ((x : Int) == 46)) = false by simp)
    go_enter Tryz.func204, Tryz.ntmps204
    go_wp2_with fail
    refine (away_is a b _ _ _ ha hb Hf.out Hr.out).mono ?_
    rintro e w1 ⟨rfl, rfl⟩
    go_wp2_with fail
    refine (kind_is c 66 _ Hk.out).mono ?_
    rintro e w1 ⟨rfl, rfl⟩
    go_wp2
    go_ret
    exact ⟨by first | rfl | (rw [K.out]; rfl), Below.refl _ _⟩
  cases h2 : (r == 2)
  · have K := Lib.hid (show (true && false && mayB c (b : Int) && ((x : Int) == 46)) = false by simp)
    go_enter Tryz.func204, Tryz.ntmps204
    go_wp2_with fail
    refine (away_is a b _ _ _ ha hb Hf.out Hr.out).mono ?_
    rintro e w1 ⟨rfl, rfl⟩
    go_wp2_with fail
    refine (kind_is c 66 _ Hk.out).mono ?_
    rintro e w1 ⟨rfl, rfl⟩
    go_wp2
    go_ret
    exact ⟨by first | rfl | (rw [K.out]; rfl), Below.refl _ _⟩
  cases hm : mayB c (b : Int)
  · have Hm := Lib.hid hm
    have K := Lib.hid (show (true && true && false && ((x : Int) == 46)) = false by simp)
    clear hm
    go_enter Tryz.func204, Tryz.ntmps204
    go_wp2_with fail
    refine (away_is a b _ _ _ ha hb Hf.out Hr.out).mono ?_
    rintro e w1 ⟨rfl, rfl⟩
    go_wp2_with fail
    refine (kind_is c 66 _ Hk.out).mono ?_
    rintro e w1 ⟨rfl, rfl⟩
    go_wp2_with fail
    refine (may_is c _ false _ Hm.out).mono ?_
    rintro e w1 ⟨rfl, hb⟩
    go_wp2
    go_ret
    exact ⟨by first | rfl | (rw [K.out]; rfl), hb⟩
  · have Hm := Lib.hid hm
    have K := Lib.hid (show (true && true && true && ((x : Int) == 46)) = ((x : Int) == 46) by rfl)
    clear hm
    go_enter Tryz.func204, Tryz.ntmps204
    go_wp2_with fail
    refine (away_is a b _ _ _ ha hb Hf.out Hr.out).mono ?_
    rintro e w1 ⟨rfl, rfl⟩
    go_wp2_with fail
    refine (kind_is c 66 _ Hk.out).mono ?_
    rintro e w1 ⟨rfl, rfl⟩
    go_wp2_with fail
    refine (may_is c _ true _ Hm.out).mono ?_
    rintro e w1 ⟨rfl, hb⟩
    go_wp2
    go_ret
    exact ⟨by first | rfl | (rw [K.out]; rfl), hb⟩
set_option maxHeartbeats 4000000 in
theorem goes_R (s : ByteArray) (a b c : Nat) (f r : Int) (w : World) (hs : 90 ≤ s.size) (ha : a < 90) (hb : b < 90) (hbk : s[a].toNat = c) (hk : kindN c = 82) (hf : (fileD a b : Int) = f) (hr : (rankD a b : Int) = r) :
    Calls Tryz.prog 204 #[.string s, .int .i64 (a : Int), .int .i64 (b : Int)] w (Gives w (.bool ((betweenI s a b == 0)))) := by
  unfold Gives
  have h0 : 0 ≤ f ∧ f ≤ 8 ∧ 0 ≤ r ∧ r ≤ 9 := by unfold fileD at hf; unfold rankD at hr; omega
  obtain ⟨f0, f8, r0, r9⟩ := h0
  have Hf := Lib.hid hf
  have Hr := Lib.hid hr
  have Hk := Lib.hid hk
  clear hf hr hk
  obtain ⟨n, hn⟩ : ∃ n, betweenI s a b = n := ⟨_, rfl⟩
  have HN := Lib.hid hn
  rw [hn]
  clear hn
  have K : Hid (n = n) := rfl
  go_enter Tryz.func204, Tryz.ntmps204
  go_wp2_with fail
  refine (away_is a b _ _ _ ha hb Hf.out Hr.out).mono ?_
  rintro e w1 ⟨rfl, rfl⟩
  go_wp2_with fail
  refine (kind_is c 82 _ Hk.out).mono ?_
  rintro e w1 ⟨rfl, rfl⟩
  go_wp2_with fail
  refine (qbetween_is s a b _ _ hs ha hb HN.out).mono ?_
  rintro e w1 ⟨rfl, rfl⟩
  go_wp2
  go_ret
  exact ⟨by first | rfl | (rw [K.out]; rfl), Below.refl _ _⟩
theorem horse_r {s : ByteArray} {a b : Nat} (hf : fileD a b = 1) (hr : rankD a b = 2) : horseB s a b = (bAt s (legR a b) == 46) := by
  unfold horseB
  rw [hf, hr]
  simp
theorem horse_f {s : ByteArray} {a b : Nat} (hf : fileD a b = 2) (hr : rankD a b = 1) : horseB s a b = (bAt s (legF a b) == 46) := by
  unfold horseB
  rw [hf, hr]
  simp
theorem horse_no {s : ByteArray} {a b : Nat} (h1 : ¬ (fileD a b = 1 ∧ rankD a b = 2)) (h2 : ¬ (fileD a b = 2 ∧ rankD a b = 1)) : horseB s a b = false := by
  unfold horseB
  cases e : (fileD a b == 1 && rankD a b == 2 && (bAt s (legR a b) == 46)) || (fileD a b == 2 && rankD a b == 1 && (bAt s (legF a b) == 46))
  · rfl
  · simp only [Bool.or_eq_true, Bool.and_eq_true, beq_iff_eq] at e
    omega
theorem mul_two {f r : Int} (f0 : 0 ≤ f) (f8 : f ≤ 8) (r0 : 0 ≤ r) (r9 : r ≤ 9) (h1 : ¬ (f = 1 ∧ r = 2)) (h2 : ¬ (f = 2 ∧ r = 1)) : (f * r == 2) = false ∧ 0 ≤ f * r ∧ f * r ≤ 72 := by
  have hf : f = 0 ∨ f = 1 ∨ f = 2 ∨ f = 3 ∨ f = 4 ∨ f = 5 ∨ f = 6 ∨ f = 7 ∨ f = 8 := by omega
  rw [beq_eq_false_iff_ne]
  rcases hf with rfl | rfl | rfl | rfl | rfl | rfl | rfl | rfl | rfl <;> omega
set_option maxHeartbeats 4000000 in
theorem goes_N (s : ByteArray) (a b c : Nat) (w : World) (hs : 90 ≤ s.size) (ha : a < 90) (hb : b < 90) (hbk : s[a].toNat = c) (hk : kindN c = 78) :
    Calls Tryz.prog 204 #[.string s, .int .i64 (a : Int), .int .i64 (b : Int)] w (Gives w (.bool (horseB s a b))) := by
  unfold Gives
  have Hk := Lib.hid hk
  clear hk
  by_cases h1 : fileD a b = 1 ∧ rankD a b = 2
  · obtain ⟨hf, hr⟩ := h1
    have hl := (legR_back ha hb hr).2
    have K0 := Lib.hid (@horse_r s a b hf hr)
    have L := Lib.hid fun W => leg_r a b W ha hb hf hr
    have Hf : Hid ((fileD a b : Int) = 1) := by show _ = _; omega
    have Hr : Hid ((rankD a b : Int) = 2) := by show _ = _; omega
    clear hf hr
    generalize legR a b = l at hl K0 L
    obtain ⟨x, hx⟩ : ∃ x, bAt s l = x := ⟨_, rfl⟩
    have hks : l < s.size := by omega
    have hbl : s[l].toNat = x := (bAt_eq s l hks).trans hx
    have K : Hid (horseB s a b = ((x : Int) == 46)) := by show _ = _; rw [K0.out, hx, Bool.eq_iff_iff, beq_iff_eq, beq_iff_eq]; omega
    clear hx K0
    go_enter Tryz.func204, Tryz.ntmps204
    go_wp2_with fail
    refine (away_is a b _ _ _ ha hb Hf.out Hr.out).mono ?_
    rintro e w1 ⟨rfl, rfl⟩
    go_wp2_with fail
    refine (kind_is c 78 _ Hk.out).mono ?_
    rintro e w1 ⟨rfl, rfl⟩
    go_wp2_with fail
    refine (L.out _).mono ?_
    rintro e w1 ⟨rfl, rfl⟩
    go_wp2
    go_ret
    exact ⟨by rw [K.out]; rfl, Below.refl _ _⟩
  by_cases h2 : fileD a b = 2 ∧ rankD a b = 1
  · obtain ⟨hf, hr⟩ := h2
    have hl := (legF_back ha hb hf).2
    have K0 := Lib.hid (@horse_f s a b hf hr)
    have L := Lib.hid fun W => leg_f a b W ha hb hf hr
    have Hf : Hid ((fileD a b : Int) = 2) := by show _ = _; omega
    have Hr : Hid ((rankD a b : Int) = 1) := by show _ = _; omega
    clear hf hr h1
    generalize legF a b = l at hl K0 L
    obtain ⟨x, hx⟩ : ∃ x, bAt s l = x := ⟨_, rfl⟩
    have hks : l < s.size := by omega
    have hbl : s[l].toNat = x := (bAt_eq s l hks).trans hx
    have K : Hid (horseB s a b = ((x : Int) == 46)) := by show _ = _; rw [K0.out, hx, Bool.eq_iff_iff, beq_iff_eq, beq_iff_eq]; omega
    clear hx K0
    go_enter Tryz.func204, Tryz.ntmps204
    go_wp2_with fail
    refine (away_is a b _ _ _ ha hb Hf.out Hr.out).mono ?_
    rintro e w1 ⟨rfl, rfl⟩
    go_wp2_with fail
    refine (kind_is c 78 _ Hk.out).mono ?_
    rintro e w1 ⟨rfl, rfl⟩
    go_wp2_with fail
    refine (L.out _).mono ?_
    rintro e w1 ⟨rfl, rfl⟩
    go_wp2
    go_ret
    exact ⟨by rw [K.out]; rfl, Below.refl _ _⟩
  · have K := Lib.hid (@horse_no s a b h1 h2)
    obtain ⟨f, hf⟩ : ∃ f : Int, (fileD a b : Int) = f := ⟨_, rfl⟩
    obtain ⟨r, hr⟩ : ∃ r : Int, (rankD a b : Int) = r := ⟨_, rfl⟩
    have h0 : 0 ≤ f ∧ f ≤ 8 ∧ 0 ≤ r ∧ r ≤ 9 := by unfold fileD at hf; unfold rankD at hr; omega
    obtain ⟨hm, hm0, hm1⟩ := mul_two h0.1 h0.2.1 h0.2.2.1 h0.2.2.2 (by omega) (by omega)
    have Hf := Lib.hid hf
    have Hr := Lib.hid hr
    clear hf hr h1 h2
    go_enter Tryz.func204, Tryz.ntmps204
    go_wp2_with fail
    refine (away_is a b _ _ _ ha hb Hf.out Hr.out).mono ?_
    rintro e w1 ⟨rfl, rfl⟩
    go_wp2_with fail
    refine (kind_is c 78 _ Hk.out).mono ?_
    rintro e w1 ⟨rfl, rfl⟩
    go_wp2
    go_ret
    exact ⟨by rw [K.out]; rfl, Below.refl _ _⟩
set_option maxHeartbeats 4000000 in
theorem goes_C (s : ByteArray) (a b c : Nat) (f r : Int) (w : World) (hs : 90 ≤ s.size) (ha : a < 90) (hb : b < 90) (hbk : s[a].toNat = c) (hk : kindN c = 67) (hf : (fileD a b : Int) = f) (hr : (rankD a b : Int) = r) :
    Calls Tryz.prog 204 #[.string s, .int .i64 (a : Int), .int .i64 (b : Int)] w (Gives w (.bool (betweenI s a b == if bAt s b = 46 then 0 else 1))) := by
  unfold Gives
  have Hf := Lib.hid hf
  have Hr := Lib.hid hr
  have Hk := Lib.hid hk
  clear hf hr hk
  obtain ⟨n, hn⟩ : ∃ n, betweenI s a b = n := ⟨_, rfl⟩
  obtain ⟨x, hx⟩ : ∃ x, bAt s b = x := ⟨_, rfl⟩
  have hks : b < s.size := by omega
  have hbl : s[b].toNat = x := (bAt_eq s b hks).trans hx
  obtain ⟨j, hj⟩ : ∃ j : Int, (if x = 46 then 0 else 1) = j := ⟨_, rfl⟩
  rw [hn, hx, hj]
  have HN := Lib.hid hn
  have HJ := Lib.hid hj
  clear hn hx hj
  go_enter Tryz.func204, Tryz.ntmps204
  go_wp2_with fail
  refine (away_is a b _ _ _ ha hb Hf.out Hr.out).mono ?_
  rintro e w1 ⟨rfl, rfl⟩
  go_wp2_with fail
  refine (kind_is c 67 _ Hk.out).mono ?_
  rintro e w1 ⟨rfl, rfl⟩
  go_wp2_with fail
  go_region_with (first | (go_at_call 170; refine (qbetween_is s a b _ _ hs ha hb HN.out).mono ?_; rintro e w1 ⟨rfl, rfl⟩) | (go_at_call 233; refine (jumped_is x _ _ HJ.out).mono ?_; rintro e w1 ⟨rfl, rfl⟩))
  all_goals go_wp2
  all_goals
    go_ret
    exact ⟨rfl, (by repeat (first | exact Below.refl _ _ | (refine Below.setCell ?_ (by first | omega | (simp; done) | (simp; omega) | (simp at *; omega)) _) | (refine Below.alloc ?_ (by first | omega | (simp; done) | (simp; omega) | (simp at *; omega)) _) | refine Below.drew ?_ | (refine below_drewN ?_ _) | (refine Below.trans ?_ (Below.mono (by assumption) (by first | omega | (simp; done) | (simp; omega) | (simp at *; omega))))))⟩
theorem pawn_red {c a b : Nat} (h : sideN c = 0) : pawnB c a b = (b == a + 9 || (overB (a : Int) 0 && (a / 9 == b / 9) && (fileD a b == 1))) := by unfold pawnB; rw [h]; rfl
theorem pawn_black {c a b : Nat} (h : sideN c = 1) : pawnB c a b = (a == b + 9 || (overB (a : Int) 1 && (a / 9 == b / 9) && (fileD a b == 1))) := by unfold pawnB; rw [h]; rfl
set_option maxHeartbeats 4000000 in
theorem goes_P0 (s : ByteArray) (a b c : Nat) (f r : Int) (w : World) (hs : 90 ≤ s.size) (ha : a < 90) (hb : b < 90) (hbk : s[a].toNat = c) (hk : kindN c = 80) (hsd : sideN c = 0) (hf : (fileD a b : Int) = f) (hr : (rankD a b : Int) = r) :
    Calls Tryz.prog 204 #[.string s, .int .i64 (a : Int), .int .i64 (b : Int)] w (Gives w (.bool (pawnB c a b))) := by
  unfold Gives
  have hr2 : (a / 9 == b / 9) = (r == 0) := by rw [Bool.eq_iff_iff, beq_iff_eq, beq_iff_eq, ← hr]; unfold rankD; omega
  have hf2 : (fileD a b == 1) = (f == 1) := by rw [Bool.eq_iff_iff, beq_iff_eq, beq_iff_eq, ← hf]; omega
  have he : (b == a + 9) = ((b : Int) == (a : Int) + 9) := by rw [Bool.eq_iff_iff, beq_iff_eq, beq_iff_eq]; omega
  have Hf := Lib.hid hf
  have Hr := Lib.hid hr
  have Hk := Lib.hid hk
  have Hs := Lib.hid hsd
  have K0 := Lib.hid (pawn_red (a := a) (b := b) hsd)
  rw [hr2, hf2, he] at K0
  clear hf hr hk hsd hr2 hf2 he
  cases h1 : ((b : Int) == (a : Int) + 9)
  case true =>
    have K : Hid (pawnB c a b = true) := by show _ = _; rw [K0.out, h1]; rfl
    clear K0
    go_enter Tryz.func204, Tryz.ntmps204
    go_wp2_with fail
    refine (away_is a b _ _ _ ha hb Hf.out Hr.out).mono ?_
    rintro e w1 ⟨rfl, rfl⟩
    go_wp2_with fail
    refine (kind_is c 80 _ Hk.out).mono ?_
    rintro e w1 ⟨rfl, rfl⟩
    go_wp2_with fail
    refine (side_is c 0 _ Hs.out).mono ?_
    rintro e w1 ⟨rfl, rfl⟩
    go_wp2_with fail
    refine (ahead_red a _ ha).mono ?_
    rintro e w1 ⟨rfl, rfl⟩
    go_wp2
    go_ret
    exact ⟨by rw [K.out]; rfl, Below.refl _ _⟩
  cases h2 : (f == 1)
  case false =>
    have K : Hid (pawnB c a b = false) := by show _ = _; rw [K0.out, h1, h2]; simp
    clear K0
    go_enter Tryz.func204, Tryz.ntmps204
    go_wp2_with fail
    refine (away_is a b _ _ _ ha hb Hf.out Hr.out).mono ?_
    rintro e w1 ⟨rfl, rfl⟩
    go_wp2_with fail
    refine (kind_is c 80 _ Hk.out).mono ?_
    rintro e w1 ⟨rfl, rfl⟩
    go_wp2_with fail
    refine (side_is c 0 _ Hs.out).mono ?_
    rintro e w1 ⟨rfl, rfl⟩
    go_wp2_with fail
    refine (ahead_red a _ ha).mono ?_
    rintro e w1 ⟨rfl, rfl⟩
    go_wp2
    go_ret
    exact ⟨by rw [K.out]; rfl, Below.refl _ _⟩
  cases h3 : (r == 0)
  case false =>
    have K : Hid (pawnB c a b = false) := by show _ = _; rw [K0.out, h1, h2, h3]; simp
    clear K0
    go_enter Tryz.func204, Tryz.ntmps204
    go_wp2_with fail
    refine (away_is a b _ _ _ ha hb Hf.out Hr.out).mono ?_
    rintro e w1 ⟨rfl, rfl⟩
    go_wp2_with fail
    refine (kind_is c 80 _ Hk.out).mono ?_
    rintro e w1 ⟨rfl, rfl⟩
    go_wp2_with fail
    refine (side_is c 0 _ Hs.out).mono ?_
    rintro e w1 ⟨rfl, rfl⟩
    go_wp2_with fail
    refine (ahead_red a _ ha).mono ?_
    rintro e w1 ⟨rfl, rfl⟩
    go_wp2
    go_ret
    exact ⟨by rw [K.out]; rfl, Below.refl _ _⟩
  case true =>
    obtain ⟨o, ho⟩ : ∃ o, overB (a : Int) 0 = o := ⟨_, rfl⟩
    have Ho := Lib.hid ho
    have K : Hid (pawnB c a b = o) := by show _ = _; rw [K0.out, h1, h2, h3, ho]; cases o <;> rfl
    clear K0 ho
    go_enter Tryz.func204, Tryz.ntmps204
    go_wp2_with fail
    refine (away_is a b _ _ _ ha hb Hf.out Hr.out).mono ?_
    rintro e w1 ⟨rfl, rfl⟩
    go_wp2_with fail
    refine (kind_is c 80 _ Hk.out).mono ?_
    rintro e w1 ⟨rfl, rfl⟩
    go_wp2_with fail
    refine (side_is c 0 _ Hs.out).mono ?_
    rintro e w1 ⟨rfl, rfl⟩
    go_wp2_with fail
    refine (ahead_red a _ ha).mono ?_
    rintro e w1 ⟨rfl, rfl⟩
    go_wp2_with fail
    refine (over_is _ _ _ _ Ho.out).mono ?_
    rintro e w1 ⟨rfl, hb⟩
    go_wp2
    go_ret
    exact ⟨by rw [K.out]; rfl, hb⟩
set_option maxHeartbeats 4000000 in
theorem goes_P1 (s : ByteArray) (a b c : Nat) (f r : Int) (w : World) (hs : 90 ≤ s.size) (ha : a < 90) (hb : b < 90) (hbk : s[a].toNat = c) (hk : kindN c = 80) (hsd : sideN c = 1) (hf : (fileD a b : Int) = f) (hr : (rankD a b : Int) = r) :
    Calls Tryz.prog 204 #[.string s, .int .i64 (a : Int), .int .i64 (b : Int)] w (Gives w (.bool (pawnB c a b))) := by
  unfold Gives
  have hr2 : (a / 9 == b / 9) = (r == 0) := by rw [Bool.eq_iff_iff, beq_iff_eq, beq_iff_eq, ← hr]; unfold rankD; omega
  have hf2 : (fileD a b == 1) = (f == 1) := by rw [Bool.eq_iff_iff, beq_iff_eq, beq_iff_eq, ← hf]; omega
  have he : (a == b + 9) = ((b : Int) == (a : Int) - 9) := by rw [Bool.eq_iff_iff, beq_iff_eq, beq_iff_eq]; omega
  have Hf := Lib.hid hf
  have Hr := Lib.hid hr
  have Hk := Lib.hid hk
  have Hs := Lib.hid hsd
  have K0 := Lib.hid (pawn_black (a := a) (b := b) hsd)
  rw [hr2, hf2, he] at K0
  clear hf hr hk hsd hr2 hf2 he
  cases h1 : ((b : Int) == (a : Int) - 9)
  case true =>
    have K : Hid (pawnB c a b = true) := by show _ = _; rw [K0.out, h1]; rfl
    clear K0
    go_enter Tryz.func204, Tryz.ntmps204
    go_wp2_with fail
    refine (away_is a b _ _ _ ha hb Hf.out Hr.out).mono ?_
    rintro e w1 ⟨rfl, rfl⟩
    go_wp2_with fail
    refine (kind_is c 80 _ Hk.out).mono ?_
    rintro e w1 ⟨rfl, rfl⟩
    go_wp2_with fail
    refine (side_is c 1 _ Hs.out).mono ?_
    rintro e w1 ⟨rfl, rfl⟩
    go_wp2_with fail
    refine (ahead_black a _ ha).mono ?_
    rintro e w1 ⟨rfl, rfl⟩
    go_wp2
    go_ret
    exact ⟨by rw [K.out]; rfl, Below.refl _ _⟩
  cases h2 : (f == 1)
  case false =>
    have K : Hid (pawnB c a b = false) := by show _ = _; rw [K0.out, h1, h2]; simp
    clear K0
    go_enter Tryz.func204, Tryz.ntmps204
    go_wp2_with fail
    refine (away_is a b _ _ _ ha hb Hf.out Hr.out).mono ?_
    rintro e w1 ⟨rfl, rfl⟩
    go_wp2_with fail
    refine (kind_is c 80 _ Hk.out).mono ?_
    rintro e w1 ⟨rfl, rfl⟩
    go_wp2_with fail
    refine (side_is c 1 _ Hs.out).mono ?_
    rintro e w1 ⟨rfl, rfl⟩
    go_wp2_with fail
    refine (ahead_black a _ ha).mono ?_
    rintro e w1 ⟨rfl, rfl⟩
    go_wp2
    go_ret
    exact ⟨by rw [K.out]; rfl, Below.refl _ _⟩
  cases h3 : (r == 0)
  case false =>
    have K : Hid (pawnB c a b = false) := by show _ = _; rw [K0.out, h1, h2, h3]; simp
    clear K0
    go_enter Tryz.func204, Tryz.ntmps204
    go_wp2_with fail
    refine (away_is a b _ _ _ ha hb Hf.out Hr.out).mono ?_
    rintro e w1 ⟨rfl, rfl⟩
    go_wp2_with fail
    refine (kind_is c 80 _ Hk.out).mono ?_
    rintro e w1 ⟨rfl, rfl⟩
    go_wp2_with fail
    refine (side_is c 1 _ Hs.out).mono ?_
    rintro e w1 ⟨rfl, rfl⟩
    go_wp2_with fail
    refine (ahead_black a _ ha).mono ?_
    rintro e w1 ⟨rfl, rfl⟩
    go_wp2
    go_ret
    exact ⟨by rw [K.out]; rfl, Below.refl _ _⟩
  case true =>
    obtain ⟨o, ho⟩ : ∃ o, overB (a : Int) 1 = o := ⟨_, rfl⟩
    have Ho := Lib.hid ho
    have K : Hid (pawnB c a b = o) := by show _ = _; rw [K0.out, h1, h2, h3, ho]; cases o <;> rfl
    clear K0 ho
    go_enter Tryz.func204, Tryz.ntmps204
    go_wp2_with fail
    refine (away_is a b _ _ _ ha hb Hf.out Hr.out).mono ?_
    rintro e w1 ⟨rfl, rfl⟩
    go_wp2_with fail
    refine (kind_is c 80 _ Hk.out).mono ?_
    rintro e w1 ⟨rfl, rfl⟩
    go_wp2_with fail
    refine (side_is c 1 _ Hs.out).mono ?_
    rintro e w1 ⟨rfl, rfl⟩
    go_wp2_with fail
    refine (ahead_black a _ ha).mono ?_
    rintro e w1 ⟨rfl, rfl⟩
    go_wp2_with fail
    refine (over_is _ _ _ _ Ho.out).mono ?_
    rintro e w1 ⟨rfl, hb⟩
    go_wp2
    go_ret
    exact ⟨by rw [K.out]; rfl, hb⟩
theorem goes_no (s : ByteArray) (a b c : Nat) (f r : Int) (w : World) (hs : 90 ≤ s.size) (ha : a < 90) (hb : b < 90) (hbk : s[a].toNat = c) (hk : kindN c = 0) (hf : (fileD a b : Int) = f) (hr : (rankD a b : Int) = r) :
    Calls Tryz.prog 204 #[.string s, .int .i64 (a : Int), .int .i64 (b : Int)] w (Gives w (.bool false)) := by
  unfold Gives
  have Hf := Lib.hid hf
  have Hr := Lib.hid hr
  have Hk := Lib.hid hk
  clear hf hr hk
  go_enter Tryz.func204, Tryz.ntmps204
  go_wp2_with fail
  refine (away_is a b _ _ _ ha hb Hf.out Hr.out).mono ?_
  rintro e w1 ⟨rfl, rfl⟩
  go_wp2_with fail
  refine (kind_is c 0 _ Hk.out).mono ?_
  rintro e w1 ⟨rfl, rfl⟩
  go_wp2
  go_ret
  exact ⟨rfl, Below.refl _ _⟩
/-- Where the piece on a square goes; from an empty one nowhere. -/
def goesV (s : ByteArray) (a b : Nat) : Bool := decide (0 ≤ sideN (bAt s a)) && goesB s (bAt s a) a b
theorem kind_none {c : Nat} (h : ¬ 0 ≤ sideN c) : kindN c = 0 := by
  rcases byte_cases c with ⟨kb, kr, _⟩ | rfl | rfl | rfl | rfl | rfl | rfl | rfl | rfl | rfl | rfl | rfl | rfl | rfl | rfl
  · simp [kindN, kb, kr]
  all_goals exact absurd (by decide) h
theorem line_zero {s : ByteArray} {a b : Nat} : (betweenI s a b == 0) = (lineB a b && (betweenN s a b == 0)) := by
  unfold betweenI
  cases lineB a b
  · rfl
  · rw [if_pos rfl, Bool.true_and, Bool.eq_iff_iff, beq_iff_eq, beq_iff_eq]
    exact Int.ofNat_inj
theorem line_cannon {s : ByteArray} {a b x : Nat} : (betweenI s a b == if x = 46 then 0 else 1) = (lineB a b && ((betweenN s a b == 0 && (x == 46)) || (betweenN s a b == 1 && (x != 46)))) := by
  unfold betweenI
  by_cases h : x = 46
  · subst h
    cases lineB a b
    · rfl
    · rw [if_pos rfl, if_pos rfl, Bool.eq_iff_iff]
      simp
  · have h' : (x == 46) = false := by rw [beq_eq_false_iff_ne]; exact h
    rw [if_neg h]
    cases lineB a b
    · rfl
    · rw [if_pos rfl, Bool.eq_iff_iff]
      simp [h', bne]
      omega
theorem file_one {a b : Nat} {n : Nat} : (((fileD a b : Nat) : Int) == (n : Int)) = (fileD a b == n) := by rw [Bool.eq_iff_iff, beq_iff_eq, beq_iff_eq]; omega
theorem rank_one {a b : Nat} {n : Nat} : (((rankD a b : Nat) : Int) == (n : Int)) = (rankD a b == n) := by rw [Bool.eq_iff_iff, beq_iff_eq, beq_iff_eq]; omega
theorem sum_one {a b : Nat} : (((fileD a b : Nat) : Int) + ((rankD a b : Nat) : Int) == 1) = (fileD a b + rankD a b == 1) := by rw [Bool.eq_iff_iff, beq_iff_eq, beq_iff_eq]; omega
theorem goes_any (s : ByteArray) (a b : Nat) (w : World) (hs : 90 ≤ s.size) (ha : a < 90) (hb : b < 90) :
    Calls Tryz.prog 204 #[.string s, .int .i64 (a : Int), .int .i64 (b : Int)] w (Gives w (.bool (goesV s a b))) := by
  have hk := bAt_eq s a (by omega)
  unfold goesV
  by_cases h : 0 ≤ sideN (bAt s a)
  · rw [decide_eq_true h, Bool.true_and]
    unfold goesB
    rcases kinds_of h with e | e | e | e | e | e | e
    · rw [if_pos e, ← sum_one]
      exact goes_K s a b _ _ _ w hs ha hb hk e rfl rfl
    · rw [if_neg (by omega), if_pos e, ← @file_one a b 1, ← @rank_one a b 1]
      exact goes_A s a b _ _ _ w hs ha hb hk e rfl rfl
    · rw [if_neg (by omega), if_neg (by omega), if_pos e, ← @file_one a b 2, ← @rank_one a b 2]
      exact goes_B s a b _ _ _ w hs ha hb hk e rfl rfl
    · rw [if_neg (by omega), if_neg (by omega), if_neg (by omega), if_pos e]
      exact goes_N s a b _ w hs ha hb hk e
    · rw [if_neg (by omega), if_neg (by omega), if_neg (by omega), if_neg (by omega), if_pos e, ← line_zero]
      exact goes_R s a b _ _ _ w hs ha hb hk e rfl rfl
    · rw [if_neg (by omega), if_neg (by omega), if_neg (by omega), if_neg (by omega), if_neg (by omega), if_pos e, ← line_cannon]
      exact goes_C s a b _ _ _ w hs ha hb hk e rfl rfl
    · rw [if_neg (by omega), if_neg (by omega), if_neg (by omega), if_neg (by omega), if_neg (by omega), if_neg (by omega)]
      rcases side_cases01 h with e1 | e1
      · exact goes_P0 s a b _ _ _ w hs ha hb hk e e1 rfl rfl
      · exact goes_P1 s a b _ _ _ w hs ha hb hk e e1 rfl rfl
  · rw [decide_eq_false h, Bool.false_and]
    exact goes_no s a b _ _ _ w hs ha hb hk (kind_none h) rfl rfl
theorem goes_is (s : ByteArray) (a b : Nat) (v : Bool) (w : World) (hs : 90 ≤ s.size) (ha : a < 90) (hb : b < 90) (h : goesV s a b = v) :
    Calls Tryz.prog 204 #[.string s, .int .i64 (a : Int), .int .i64 (b : Int)] w (Gives w (.bool v)) := by subst h; exact goes_any s a b w hs ha hb
end Go.Proofs.YtbdgbihdhbjljaaGreatDoor
