/- What the document's own parts of layer 5 answer: distances, what stands between, a horse, a pawn, where a piece goes. -/
import Derived.Test.YtbdgbihdhbjljaaGreatDoorReachC
namespace Go.Proofs.YtbdgbihdhbjljaaGreatDoor
open Go.RowKit Go.Shelf
open M (S)

set_option maxHeartbeats 400000 in
theorem rreal5_any (n : Int) (w : World) : Calls Tryz.prog 154 #[.int .i64 n] w (Says w (.bool (sqI n))) := by
  unfold Says
  by_cases h0 : 0 ≤ n
  · by_cases h1 : n < 90
    · have K := Lib.hid (sqI_true ⟨h0, h1⟩)
      go_enter Tryz.func154, Tryz.ntmps154
      go_wp2
      go_ret
      exact ⟨by rw [K.out]; first | rfl | (simp; done) | (simp; omega), rfl⟩
    · have K := Lib.hid (sqI_false (n := n) (by omega))
      go_enter Tryz.func154, Tryz.ntmps154
      go_wp2
      go_ret
      exact ⟨by rw [K.out]; first | rfl | (simp; done) | (simp; omega), rfl⟩
  · have K := Lib.hid (sqI_false (n := n) (by omega))
    go_enter Tryz.func154, Tryz.ntmps154
    go_wp2
    go_ret
    exact ⟨by rw [K.out]; rfl, rfl⟩
theorem rreal5_is (n : Int) (b : Bool) (w : World) (h : sqI n = b) : Calls Tryz.prog 154 #[.int .i64 n] w (Says w (.bool b)) := by subst h; exact rreal5_any n w
theorem raway_is (a b d : Int) (w : World) (ha : 0 ≤ a) (ha' : a < 90) (hb : 0 ≤ b) (hb' : b < 90) (h : max a b - min a b = d) : Calls Tryz.prog 208 #[.int .i64 a, .int .i64 b] w (Says w (.int .i64 d)) := by
  unfold Says
  subst h
  rcases Int.lt_trichotomy a b with h | rfl | h
  · have K : Hid (max a b - min a b = b - a) := by show _ = _; omega
    go_enter Tryz.func208, Tryz.ntmps208
    go_wp2
    go_ret
    exact ⟨by first | rfl | (rw [K.out]; rfl), rfl⟩
  · have K : Hid (max a a - min a a = 0) := by show _ = _; omega
    go_enter Tryz.func208, Tryz.ntmps208
    go_wp2
    go_ret
    exact ⟨by first | rfl | (rw [K.out]; rfl), rfl⟩
  · have K : Hid (max a b - min a b = a - b) := by show _ = _; omega
    go_enter Tryz.func208, Tryz.ntmps208
    go_wp2
    go_ret
    exact ⟨by first | rfl | (rw [K.out]; rfl), rfl⟩
theorem file_away {a b : Nat} : max ((a : Int) % 9) ((b : Int) % 9) - min ((a : Int) % 9) ((b : Int) % 9) = (fileD a b : Int) := by unfold fileD; omega
theorem rank_away {a b : Nat} : max ((a : Int) / 9) ((b : Int) / 9) - min ((a : Int) / 9) ((b : Int) / 9) = (rankD a b : Int) := by unfold rankD; omega
set_option maxHeartbeats 1000000 in
theorem half_up9 (s : ByteArray) (a b : Int) (k : Nat) (w : World) (hs : 90 ≤ s.size) (h : a < b) (hk : k + 9 < 90) : Calls Tryz.prog 239 #[.int .i64 a, .int .i64 b, .int .i64 (k : Int), .string s, .int .i64 9] w (Says w (.bool (bAt s (k + 9) == 46))) := by
  unfold Says
  obtain ⟨x, hx⟩ : ∃ x, bAt s (k + 9) = x := ⟨_, rfl⟩
  have hks : k + 9 < s.size := by omega
  have hbk : s[k + 9].toNat = x := (bAt_eq s (k + 9) hks).trans hx
  have K : Hid (((x : Int) == 46) = (bAt s (k + 9) == 46)) := by show _ = _; rw [hx, Bool.eq_iff_iff, beq_iff_eq, beq_iff_eq]; omega
  clear hx
  go_enter Tryz.func239, Tryz.ntmps239
  go_wp2
  go_ret
  exact ⟨by rw [← K.out]; rfl, rfl⟩
set_option maxHeartbeats 1000000 in
theorem half_dn9 (s : ByteArray) (a b : Int) (m k : Nat) (w : World) (hs : 90 ≤ s.size) (h : b < a) (hk : k < 90) (hm : k = m + 9) : Calls Tryz.prog 239 #[.int .i64 a, .int .i64 b, .int .i64 (k : Int), .string s, .int .i64 9] w (Says w (.bool (bAt s m == 46))) := by
  unfold Says
  subst hm
  obtain ⟨x, hx⟩ : ∃ x, bAt s m = x := ⟨_, rfl⟩
  have hks : m < s.size := by omega
  have hbk : s[m].toNat = x := (bAt_eq s m hks).trans hx
  have K : Hid (((x : Int) == 46) = (bAt s m == 46)) := by show _ = _; rw [hx, Bool.eq_iff_iff, beq_iff_eq, beq_iff_eq]; omega
  have e0 : decide (a < b) = false := by simp; omega
  clear hx
  go_enter Tryz.func239, Tryz.ntmps239
  go_wp2
  go_ret
  exact ⟨by rw [← K.out]; rfl, rfl⟩
set_option maxHeartbeats 1000000 in
theorem half_up1 (s : ByteArray) (a b : Int) (k : Nat) (w : World) (hs : 90 ≤ s.size) (h : a < b) (hk : k + 1 < 90) : Calls Tryz.prog 239 #[.int .i64 a, .int .i64 b, .int .i64 (k : Int), .string s, .int .i64 1] w (Says w (.bool (bAt s (k + 1) == 46))) := by
  unfold Says
  obtain ⟨x, hx⟩ : ∃ x, bAt s (k + 1) = x := ⟨_, rfl⟩
  have hks : k + 1 < s.size := by omega
  have hbk : s[k + 1].toNat = x := (bAt_eq s (k + 1) hks).trans hx
  have K : Hid (((x : Int) == 46) = (bAt s (k + 1) == 46)) := by show _ = _; rw [hx, Bool.eq_iff_iff, beq_iff_eq, beq_iff_eq]; omega
  clear hx
  go_enter Tryz.func239, Tryz.ntmps239
  go_wp2
  go_ret
  exact ⟨by rw [← K.out]; rfl, rfl⟩
set_option maxHeartbeats 1000000 in
theorem half_dn1 (s : ByteArray) (a b : Int) (m k : Nat) (w : World) (hs : 90 ≤ s.size) (h : b < a) (hk : k < 90) (hm : k = m + 1) : Calls Tryz.prog 239 #[.int .i64 a, .int .i64 b, .int .i64 (k : Int), .string s, .int .i64 1] w (Says w (.bool (bAt s m == 46))) := by
  unfold Says
  subst hm
  obtain ⟨x, hx⟩ : ∃ x, bAt s m = x := ⟨_, rfl⟩
  have hks : m < s.size := by omega
  have hbk : s[m].toNat = x := (bAt_eq s m hks).trans hx
  have K : Hid (((x : Int) == 46) = (bAt s m == 46)) := by show _ = _; rw [hx, Bool.eq_iff_iff, beq_iff_eq, beq_iff_eq]; omega
  have e0 : decide (a < b) = false := by simp; omega
  clear hx
  go_enter Tryz.func239, Tryz.ntmps239
  go_wp2
  go_ret
  exact ⟨by rw [← K.out]; rfl, rfl⟩
theorem horse_r5 {s : ByteArray} {a b : Nat} (hf : fileD a b = 1) (hr : rankD a b = 2) : horseB s a b = (bAt s (legR a b) == 46) := by
  unfold horseB
  rw [hf, hr]
  simp
theorem horse_f5 {s : ByteArray} {a b : Nat} (hf : fileD a b = 2) (hr : rankD a b = 1) : horseB s a b = (bAt s (legF a b) == 46) := by
  unfold horseB
  rw [hf, hr]
  simp
theorem horse_no5 {s : ByteArray} {a b : Nat} (h1 : ¬ (fileD a b = 1 ∧ rankD a b = 2)) (h2 : ¬ (fileD a b = 2 ∧ rankD a b = 1)) : horseB s a b = false := by
  unfold horseB
  cases e : (fileD a b == 1 && rankD a b == 2 && (bAt s (legR a b) == 46)) || (fileD a b == 2 && rankD a b == 1 && (bAt s (legF a b) == 46))
  · rfl
  · simp only [Bool.or_eq_true, Bool.and_eq_true, beq_iff_eq] at e
    omega
set_option maxHeartbeats 4000000 in
theorem rhorse_any (s : ByteArray) (a b : Nat) (w : World) (hs : 90 ≤ s.size) (ha : a < 90) (hb : b < 90) :
    Calls Tryz.prog 209 #[.string s, .int .i64 (a : Int), .int .i64 (b : Int)] w (Says w (.bool (horseB s a b))) := by
  unfold Says
  by_cases h1 : fileD a b = 1 ∧ rankD a b = 2
  · obtain ⟨hf, hr⟩ := h1
    have K := Lib.hid (@horse_r5 s a b hf hr)
    have Hf : Hid ((fileD a b : Int) = 1) := by show _ = _; omega
    have Hr : Hid ((rankD a b : Int) = 2) := by show _ = _; omega
    by_cases hup : a / 9 < b / 9
    · have hl : legR a b = a + 9 := by unfold legR; rw [if_pos hup]
      have hlt : a + 9 < 90 := by unfold rankD at hr; omega
      have L := Lib.hid fun W => half_up9 s ((a : Int) / 9) ((b : Int) / 9) a W hs (by omega) hlt
      rw [hl] at K
      clear hf hr hup hl hlt
      go_enter Tryz.func209, Tryz.ntmps209
      go_wp2_with fail
      refine (raway_is _ _ _ _ (by omega) (by omega) (by omega) (by omega) (file_away.trans Hf.out)).mono ?_
      rintro e w1 ⟨rfl, rfl⟩
      go_wp2_with fail
      refine (raway_is _ _ _ _ (by omega) (by omega) (by omega) (by omega) (rank_away.trans Hr.out)).mono ?_
      rintro e w1 ⟨rfl, rfl⟩
      go_wp2_with fail
      refine (L.out _).mono ?_
      rintro e w1 ⟨rfl, rfl⟩
      go_wp2
      go_ret
      exact ⟨by rw [K.out]; rfl, rfl⟩
    · have hlt : a = (a - 9) + 9 := by unfold rankD at hr; omega
      have hl : legR a b = a - 9 := by unfold legR; rw [if_neg hup]
      have L := Lib.hid fun W => half_dn9 s ((a : Int) / 9) ((b : Int) / 9) (a - 9) a W hs (by unfold rankD at hr; omega) ha hlt
      rw [hl] at K
      clear hf hr hup hl hlt
      go_enter Tryz.func209, Tryz.ntmps209
      go_wp2_with fail
      refine (raway_is _ _ _ _ (by omega) (by omega) (by omega) (by omega) (file_away.trans Hf.out)).mono ?_
      rintro e w1 ⟨rfl, rfl⟩
      go_wp2_with fail
      refine (raway_is _ _ _ _ (by omega) (by omega) (by omega) (by omega) (rank_away.trans Hr.out)).mono ?_
      rintro e w1 ⟨rfl, rfl⟩
      go_wp2_with fail
      refine (L.out _).mono ?_
      rintro e w1 ⟨rfl, rfl⟩
      go_wp2
      go_ret
      exact ⟨by rw [K.out]; rfl, rfl⟩
  by_cases h2 : fileD a b = 2 ∧ rankD a b = 1
  · obtain ⟨hf, hr⟩ := h2
    have K := Lib.hid (@horse_f5 s a b hf hr)
    have Hf : Hid ((fileD a b : Int) = 2) := by show _ = _; omega
    have Hr : Hid ((rankD a b : Int) = 1) := by show _ = _; omega
    by_cases hup : a % 9 < b % 9
    · have hl : legF a b = a + 1 := by unfold legF; rw [if_pos hup]
      have hlt : a + 1 < 90 := by unfold fileD at hf; omega
      have L := Lib.hid fun W => half_up1 s ((a : Int) % 9) ((b : Int) % 9) a W hs (by omega) hlt
      rw [hl] at K
      clear hf hr hup hl hlt
      go_enter Tryz.func209, Tryz.ntmps209
      go_wp2_with fail
      refine (raway_is _ _ _ _ (by omega) (by omega) (by omega) (by omega) (file_away.trans Hf.out)).mono ?_
      rintro e w1 ⟨rfl, rfl⟩
      go_wp2_with fail
      refine (raway_is _ _ _ _ (by omega) (by omega) (by omega) (by omega) (rank_away.trans Hr.out)).mono ?_
      rintro e w1 ⟨rfl, rfl⟩
      go_wp2_with fail
      refine (L.out _).mono ?_
      rintro e w1 ⟨rfl, rfl⟩
      go_wp2
      go_ret
      exact ⟨by rw [K.out]; rfl, rfl⟩
    · have hlt : a = (a - 1) + 1 := by unfold fileD at hf; omega
      have hl : legF a b = a - 1 := by unfold legF; rw [if_neg hup]
      have L := Lib.hid fun W => half_dn1 s ((a : Int) % 9) ((b : Int) % 9) (a - 1) a W hs (by unfold fileD at hf; omega) ha hlt
      rw [hl] at K
      clear hf hr hup hl hlt
      go_enter Tryz.func209, Tryz.ntmps209
      go_wp2_with fail
      refine (raway_is _ _ _ _ (by omega) (by omega) (by omega) (by omega) (file_away.trans Hf.out)).mono ?_
      rintro e w1 ⟨rfl, rfl⟩
      go_wp2_with fail
      refine (raway_is _ _ _ _ (by omega) (by omega) (by omega) (by omega) (rank_away.trans Hr.out)).mono ?_
      rintro e w1 ⟨rfl, rfl⟩
      go_wp2_with fail
      refine (L.out _).mono ?_
      rintro e w1 ⟨rfl, rfl⟩
      go_wp2
      go_ret
      exact ⟨by rw [K.out]; rfl, rfl⟩
  · have K := Lib.hid (@horse_no5 s a b h1 h2)
    obtain ⟨f, hf⟩ : ∃ f : Int, (fileD a b : Int) = f := ⟨_, rfl⟩
    obtain ⟨r, hr⟩ : ∃ r : Int, (rankD a b : Int) = r := ⟨_, rfl⟩
    have Hf := Lib.hid hf
    have Hr := Lib.hid hr
    have hc : (f == 1 && r == 2) = false ∧ (f == 2 && r == 1) = false := by
      constructor
      · cases e : (f == 1 && r == 2)
        · rfl
        · simp only [Bool.and_eq_true, beq_iff_eq] at e
          omega
      · cases e : (f == 2 && r == 1)
        · rfl
        · simp only [Bool.and_eq_true, beq_iff_eq] at e
          omega
    clear hf hr h1 h2
    have hq : ((f == 1) = false ∧ (f == 2) = false) ∨ ((f == 1) = true ∧ (r == 2) = false ∧ (f == 2) = false) ∨ ((f == 1) = false ∧ (f == 2) = true ∧ (r == 1) = false) := by
      have h3 := hc.1
      have h4 := hc.2
      cases e1 : (f == 1) <;> cases e2 : (f == 2) <;> simp_all
    clear hc
    rcases hq with ⟨q1, q2⟩ | ⟨q1, q2, q3⟩ | ⟨q1, q2, q3⟩
    all_goals
      go_enter Tryz.func209, Tryz.ntmps209
      go_wp2_with fail
      refine (raway_is _ _ _ _ (by omega) (by omega) (by omega) (by omega) (file_away.trans Hf.out)).mono ?_
      rintro e w1 ⟨rfl, rfl⟩
      go_wp2_with fail
      refine (raway_is _ _ _ _ (by omega) (by omega) (by omega) (by omega) (rank_away.trans Hr.out)).mono ?_
      rintro e w1 ⟨rfl, rfl⟩
      go_wp2
      go_ret
      exact ⟨by rw [K.out]; rfl, rfl⟩
theorem rhorse_is (s : ByteArray) (a b : Nat) (v : Bool) (w : World) (hs : 90 ≤ s.size) (ha : a < 90) (hb : b < 90) (h : horseB s a b = v) :
    Calls Tryz.prog 209 #[.string s, .int .i64 (a : Int), .int .i64 (b : Int)] w (Says w (.bool v)) := by subst h; exact rhorse_any s a b w hs ha hb
theorem pawn_red5 {c a b : Nat} (h : sideN c = 0) : pawnB c a b = (b == a + 9 || (overB (a : Int) 0 && (a / 9 == b / 9) && (fileD a b == 1))) := by unfold pawnB; rw [h]; rfl
theorem pawn_black5 {c a b : Nat} (h : sideN c = 1) : pawnB c a b = (a == b + 9 || (overB (a : Int) 1 && (a / 9 == b / 9) && (fileD a b == 1))) := by unfold pawnB; rw [h]; rfl
set_option maxHeartbeats 4000000 in
theorem rpawn_0 (a b c : Nat) (w : World) (ha : a < 90) (hb : b < 90) (hsd : sideN c = 0) :
    Calls Tryz.prog 210 #[.int .i64 0, .int .i64 (a : Int), .int .i64 (b : Int)] w (Says w (.bool (pawnB c a b))) := by
  unfold Says
  have hr2 : (a / 9 == b / 9) = ((a : Int) / 9 == (b : Int) / 9) := by rw [Bool.eq_iff_iff, beq_iff_eq, beq_iff_eq]; omega
  have he : (b == a + 9) = ((b : Int) == (a : Int) + 9) := by rw [Bool.eq_iff_iff, beq_iff_eq, beq_iff_eq]; omega
  have K0 := Lib.hid (pawn_red5 (a := a) (b := b) hsd)
  rw [hr2, he] at K0
  clear hsd hr2 he
  cases h1 : ((b : Int) == (a : Int) + 9)
  case true =>
    have K : Hid (pawnB c a b = true) := by show _ = _; rw [K0.out, h1]; rfl
    clear K0
    go_enter Tryz.func210, Tryz.ntmps210
    go_wp2
    go_ret
    exact ⟨by first | rfl | (rw [K.out]; rfl), rfl⟩
  obtain ⟨o, ho⟩ : ∃ o, overB (a : Int) 0 = o := ⟨_, rfl⟩
  have Ho := Lib.hid ho
  cases o
  case false =>
    have K : Hid (pawnB c a b = false) := by show _ = _; rw [K0.out, h1, ho]; simp
    clear K0 ho
    go_enter Tryz.func210, Tryz.ntmps210
    go_wp2_with fail
    refine (rover_is _ _ _ _ Ho.out).mono ?_
    rintro e w1 ⟨rfl, rfl⟩
    go_wp2
    go_ret
    exact ⟨by first | rfl | (rw [K.out]; rfl), rfl⟩
  cases h3 : ((a : Int) / 9 == (b : Int) / 9)
  case false =>
    have K : Hid (pawnB c a b = false) := by show _ = _; rw [K0.out, h1, ho, h3]; simp
    clear K0 ho
    go_enter Tryz.func210, Tryz.ntmps210
    go_wp2_with fail
    refine (rover_is _ _ _ _ Ho.out).mono ?_
    rintro e w1 ⟨rfl, rfl⟩
    go_wp2
    go_ret
    exact ⟨by first | rfl | (rw [K.out]; rfl), rfl⟩
  case true =>
    obtain ⟨d, hd⟩ : ∃ d : Int, max (a : Int) (b : Int) - min (a : Int) (b : Int) = d := ⟨_, rfl⟩
    have HD := Lib.hid hd
    have hdf : (fileD a b == 1) = (d == 1) := by rw [Bool.eq_iff_iff, beq_iff_eq, beq_iff_eq, ← hd]; rw [beq_iff_eq] at h3; unfold fileD; omega
    have K : Hid (pawnB c a b = (d == 1)) := by show _ = _; rw [K0.out, h1, ho, h3, hdf]; cases (d == 1) <;> rfl
    clear K0 ho hd hdf
    go_enter Tryz.func210, Tryz.ntmps210
    go_wp2_with fail
    refine (rover_is _ _ _ _ Ho.out).mono ?_
    rintro e w1 ⟨rfl, rfl⟩
    go_wp2_with fail
    refine (raway_is _ _ _ _ (by omega) (by omega) (by omega) (by omega) HD.out).mono ?_
    rintro e w1 ⟨rfl, rfl⟩
    go_wp2
    go_ret
    exact ⟨by first | rfl | (rw [K.out]; rfl), rfl⟩
set_option maxHeartbeats 4000000 in
theorem rpawn_1 (a b c : Nat) (w : World) (ha : a < 90) (hb : b < 90) (hsd : sideN c = 1) :
    Calls Tryz.prog 210 #[.int .i64 1, .int .i64 (a : Int), .int .i64 (b : Int)] w (Says w (.bool (pawnB c a b))) := by
  unfold Says
  have hr2 : (a / 9 == b / 9) = ((a : Int) / 9 == (b : Int) / 9) := by rw [Bool.eq_iff_iff, beq_iff_eq, beq_iff_eq]; omega
  have he : (a == b + 9) = ((b : Int) == (a : Int) + -9) := by rw [Bool.eq_iff_iff, beq_iff_eq, beq_iff_eq]; omega
  have K0 := Lib.hid (pawn_black5 (a := a) (b := b) hsd)
  rw [hr2, he] at K0
  clear hsd hr2 he
  cases h1 : ((b : Int) == (a : Int) + -9)
  case true =>
    have K : Hid (pawnB c a b = true) := by show _ = _; rw [K0.out, h1]; rfl
    clear K0
    go_enter Tryz.func210, Tryz.ntmps210
    go_wp2
    go_ret
    exact ⟨by first | rfl | (rw [K.out]; rfl), rfl⟩
  obtain ⟨o, ho⟩ : ∃ o, overB (a : Int) 1 = o := ⟨_, rfl⟩
  have Ho := Lib.hid ho
  cases o
  case false =>
    have K : Hid (pawnB c a b = false) := by show _ = _; rw [K0.out, h1, ho]; simp
    clear K0 ho
    go_enter Tryz.func210, Tryz.ntmps210
    go_wp2_with fail
    refine (rover_is _ _ _ _ Ho.out).mono ?_
    rintro e w1 ⟨rfl, rfl⟩
    go_wp2
    go_ret
    exact ⟨by first | rfl | (rw [K.out]; rfl), rfl⟩
  cases h3 : ((a : Int) / 9 == (b : Int) / 9)
  case false =>
    have K : Hid (pawnB c a b = false) := by show _ = _; rw [K0.out, h1, ho, h3]; simp
    clear K0 ho
    go_enter Tryz.func210, Tryz.ntmps210
    go_wp2_with fail
    refine (rover_is _ _ _ _ Ho.out).mono ?_
    rintro e w1 ⟨rfl, rfl⟩
    go_wp2
    go_ret
    exact ⟨by first | rfl | (rw [K.out]; rfl), rfl⟩
  case true =>
    obtain ⟨d, hd⟩ : ∃ d : Int, max (a : Int) (b : Int) - min (a : Int) (b : Int) = d := ⟨_, rfl⟩
    have HD := Lib.hid hd
    have hdf : (fileD a b == 1) = (d == 1) := by rw [Bool.eq_iff_iff, beq_iff_eq, beq_iff_eq, ← hd]; rw [beq_iff_eq] at h3; unfold fileD; omega
    have K : Hid (pawnB c a b = (d == 1)) := by show _ = _; rw [K0.out, h1, ho, h3, hdf]; cases (d == 1) <;> rfl
    clear K0 ho hd hdf
    go_enter Tryz.func210, Tryz.ntmps210
    go_wp2_with fail
    refine (rover_is _ _ _ _ Ho.out).mono ?_
    rintro e w1 ⟨rfl, rfl⟩
    go_wp2_with fail
    refine (raway_is _ _ _ _ (by omega) (by omega) (by omega) (by omega) HD.out).mono ?_
    rintro e w1 ⟨rfl, rfl⟩
    go_wp2
    go_ret
    exact ⟨by first | rfl | (rw [K.out]; rfl), rfl⟩
set_option maxHeartbeats 4000000 in
theorem rbetween_9 (s : ByteArray) (a b : Nat) (w : World) (hs : 90 ≤ s.size) (ha : a < 90) (hb : b < 90) (h : StepB a b 9) :
    Calls Tryz.prog 155 #[.string s, .int .i64 (a : Int), .int .i64 (b : Int)] w (Says w (.int .i64 (betweenN s a b))) := by
  unfold Says
  have HST := Lib.hid (@way_start s a b 9 h)
  have HNX := Lib.hid fun n => @way_next s a b 9 n h
  have HEN := Lib.hid (@way_end s a b ha hb)
  have HLE := Lib.hid fun n => @way_le s a b n
  have hne := h.1
  have q1 : ((a : Int) == (b : Int)) = false := by rw [beq_eq_false_iff_ne]; have := h.1; omega
  have q2 : ((a : Int) / 9 == (b : Int) / 9) = false := by rw [beq_eq_false_iff_ne]; have := h.1; have := h.2; omega
  have q3 : ((a : Int) % 9 == (b : Int) % 9) = true := by rw [beq_iff_eq]; have := h.2; omega
  clear h
  rcases Nat.lt_or_gt_of_ne hne with hlt | hlt
  all_goals
    clear hne
    go_enter Tryz.func155, Tryz.ntmps155
    go_wp2_with fail
    go_loop [8, 9] (fun c i => ∃ n : Nat, Hid (OnWay 9 a b n) ∧ i = .int .i64 n ∧ c = .int .i64 (wayN s a b n)) (fun _ i => 90 - (intOf i).toNat)
    case atStart => exact ⟨min a b + 9, HST.out.1, by congr 1; omega, by rw [HST.out.2]; rfl⟩
    case round =>
      obtain ⟨n, hn, rfl, rfl⟩ := hrel
      have hn1 := hn.out.1
      have hn2 := hn.out.2.1
      have hle := HLE.out n
      by_cases hend : n < max a b
      · obtain ⟨x, hx⟩ : ∃ x, bAt s n = x := ⟨_, rfl⟩
        have hks : n < s.size := by omega
        have hbk : s[n].toNat = x := (bAt_eq s n hks).trans hx
        have HN := Lib.hid (HNX.out n hn.out hend)
        rw [hx] at HN
        have hn3 := HN.out.1.2.1
        by_cases h46 : x = 46
        · have e46 : ((x : Int) != 46) = false := by rw [h46]; rfl
          clear hx h46
          go_wp2
          go_round
          case rel => exact ⟨n + 9, HN.out.1, by go_num, by rw [HN.out.2, if_pos (by simp at e46; omega)]⟩
          case measure => simp [intOf]; omega
        · have e46 : ((x : Int) != 46) = true := by rw [bne_iff_ne]; omega
          clear hx
          go_wp2
          go_round
          case rel => exact ⟨n + 9, HN.out.1, by go_num, by rw [HN.out.2, if_neg h46]; go_num⟩
          case measure => simp [intOf]; omega
      · obtain rfl : n = max a b := by omega
        have K : Hid (wayN s a b (max a b) = betweenN s a b) := HEN
        go_wp2
        go_ret
        exact ⟨by rw [K.out]; rfl, rfl⟩
set_option maxHeartbeats 4000000 in
theorem rbetween_1 (s : ByteArray) (a b : Nat) (w : World) (hs : 90 ≤ s.size) (ha : a < 90) (hb : b < 90) (h : StepB a b 1) :
    Calls Tryz.prog 155 #[.string s, .int .i64 (a : Int), .int .i64 (b : Int)] w (Says w (.int .i64 (betweenN s a b))) := by
  unfold Says
  have HST := Lib.hid (@way_start s a b 1 h)
  have HNX := Lib.hid fun n => @way_next s a b 1 n h
  have HEN := Lib.hid (@way_end s a b ha hb)
  have HLE := Lib.hid fun n => @way_le s a b n
  have hne := h.1
  have q1 : ((a : Int) == (b : Int)) = false := by rw [beq_eq_false_iff_ne]; have := h.1; omega
  have q2 : ((a : Int) / 9 == (b : Int) / 9) = true := by rw [beq_iff_eq]; have := h.2; omega
  clear h
  rcases Nat.lt_or_gt_of_ne hne with hlt | hlt
  all_goals
    clear hne
    go_enter Tryz.func155, Tryz.ntmps155
    go_wp2_with fail
    go_loop [8, 9] (fun c i => ∃ n : Nat, Hid (OnWay 1 a b n) ∧ i = .int .i64 n ∧ c = .int .i64 (wayN s a b n)) (fun _ i => 90 - (intOf i).toNat)
    case atStart => exact ⟨min a b + 1, HST.out.1, by congr 1; omega, by rw [HST.out.2]; rfl⟩
    case round =>
      obtain ⟨n, hn, rfl, rfl⟩ := hrel
      have hn1 := hn.out.1
      have hn2 := hn.out.2.1
      have hle := HLE.out n
      by_cases hend : n < max a b
      · obtain ⟨x, hx⟩ : ∃ x, bAt s n = x := ⟨_, rfl⟩
        have hks : n < s.size := by omega
        have hbk : s[n].toNat = x := (bAt_eq s n hks).trans hx
        have HN := Lib.hid (HNX.out n hn.out hend)
        rw [hx] at HN
        have hn3 := HN.out.1.2.1
        by_cases h46 : x = 46
        · have e46 : ((x : Int) != 46) = false := by rw [h46]; rfl
          clear hx h46
          go_wp2
          go_round
          case rel => exact ⟨n + 1, HN.out.1, by go_num, by rw [HN.out.2, if_pos (by simp at e46; omega)]⟩
          case measure => simp [intOf]; omega
        · have e46 : ((x : Int) != 46) = true := by rw [bne_iff_ne]; omega
          clear hx
          go_wp2
          go_round
          case rel => exact ⟨n + 1, HN.out.1, by go_num, by rw [HN.out.2, if_neg h46]; go_num⟩
          case measure => simp [intOf]; omega
      · obtain rfl : n = max a b := by omega
        have K : Hid (wayN s a b (max a b) = betweenN s a b) := HEN
        go_wp2
        go_ret
        exact ⟨by rw [K.out]; rfl, rfl⟩
theorem rbetween_none (s : ByteArray) (a b : Nat) (w : World) (ha : a < 90) (hb : b < 90) (h : a = b ∨ (a / 9 ≠ b / 9 ∧ a % 9 ≠ b % 9)) :
    Calls Tryz.prog 155 #[.string s, .int .i64 (a : Int), .int .i64 (b : Int)] w (Says w (.int .i64 (-1))) := by
  unfold Says
  by_cases he : a = b
  · subst he
    clear h
    go_enter Tryz.func155, Tryz.ntmps155
    go_wp2
    go_ret
    exact ⟨rfl, rfl⟩
  · have q1 : ((a : Int) == (b : Int)) = false := by rw [beq_eq_false_iff_ne]; omega
    have q2 : ((a : Int) / 9 == (b : Int) / 9) = false := by rw [beq_eq_false_iff_ne]; omega
    have q3 : ((a : Int) % 9 == (b : Int) % 9) = false := by rw [beq_eq_false_iff_ne]; omega
    clear h he
    go_enter Tryz.func155, Tryz.ntmps155
    go_wp2
    go_ret
    exact ⟨rfl, rfl⟩
theorem rbetween_any (s : ByteArray) (a b : Nat) (w : World) (hs : 90 ≤ s.size) (ha : a < 90) (hb : b < 90) :
    Calls Tryz.prog 155 #[.string s, .int .i64 (a : Int), .int .i64 (b : Int)] w (Says w (.int .i64 (betweenI s a b))) := by
  by_cases h : a = b ∨ (a / 9 ≠ b / 9 ∧ a % 9 ≠ b % 9)
  · rw [betweenI_none h]
    exact rbetween_none s a b w ha hb h
  · by_cases h9 : a % 9 = b % 9
    · have hst : StepB a b 9 := ⟨by omega, .inr ⟨rfl, h9⟩⟩
      rw [betweenI_step hst]
      exact rbetween_9 s a b w hs ha hb hst
    · have hst : StepB a b 1 := ⟨by omega, .inl ⟨rfl, by omega⟩⟩
      rw [betweenI_step hst]
      exact rbetween_1 s a b w hs ha hb hst
theorem rbetween_is (s : ByteArray) (a b : Nat) (k : Int) (w : World) (hs : 90 ≤ s.size) (ha : a < 90) (hb : b < 90) (h : betweenI s a b = k) :
    Calls Tryz.prog 155 #[.string s, .int .i64 (a : Int), .int .i64 (b : Int)] w (Says w (.int .i64 k)) := by subst h; exact rbetween_any s a b w hs ha hb
end Go.Proofs.YtbdgbihdhbjljaaGreatDoor
