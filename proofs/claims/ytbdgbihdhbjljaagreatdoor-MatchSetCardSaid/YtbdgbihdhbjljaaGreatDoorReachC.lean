/- What the parts of reach answer: squares, distances, legs, what stands between two squares. -/
import Derived.Test.YtbdgbihdhbjljaaGreatDoorReachB
namespace Go.Proofs.YtbdgbihdhbjljaaGreatDoor
open Go.RowKit Go.Shelf
open M (S)

theorem trues_skip {p : Nat → Bool} {m : Nat} : ∀ {n : Nat}, m ≤ n → (∀ k, m ≤ k → k < n → p k = false) → trues p n = trues p m
  | 0, h, _ => by obtain rfl : m = 0 := by omega
                  rfl
  | n + 1, h, hp => by
    by_cases e : m = n + 1
    · rw [e]
    · rw [trues_succ, hp n (by omega) (by omega), if_neg (by simp), trues_skip (by omega) fun k h1 h2 => hp k h1 (by omega)]
/-- What stands between two squares, below the n-th. -/
def wayN (s : ByteArray) (a b n : Nat) : Nat := (trues (fun k => wayB a b k && (bAt s k != 46)) n).length
/-- How far one square of a line is from the next one. -/
def StepB (a b t : Nat) : Prop := a ≠ b ∧ ((t = 1 ∧ a / 9 = b / 9) ∨ (t = 9 ∧ a % 9 = b % 9))
theorem wayB_false {a b k : Nat} (h : ¬ (min a b < k ∧ k < max a b ∧ (a / 9 = b / 9 ∨ k % 9 = a % 9))) : wayB a b k = false := by
  cases e : wayB a b k
  · rfl
  · simp only [wayB, Bool.and_eq_true, Bool.or_eq_true, decide_eq_true_eq, beq_iff_eq] at e
    exact absurd ⟨e.1.1, e.1.2, e.2⟩ h
theorem wayB_true {a b k : Nat} (h : min a b < k ∧ k < max a b ∧ (a / 9 = b / 9 ∨ k % 9 = a % 9)) : wayB a b k = true := by
  simp only [wayB, Bool.and_eq_true, Bool.or_eq_true, decide_eq_true_eq, beq_iff_eq]
  exact ⟨⟨h.1, h.2.1⟩, h.2.2⟩
/-- A square on the way, by steps of t. -/
def OnWay (t a b n : Nat) : Prop := min a b < n ∧ n ≤ max a b ∧ n % t = min a b % t
theorem way_start {s : ByteArray} {a b t : Nat} (h : StepB a b t) : Hid (OnWay t a b (min a b + t)) ∧ wayN s a b (min a b + t) = 0 := by
  obtain ⟨hne, h⟩ := h
  refine ⟨⟨by omega, by rcases h with ⟨rfl, h⟩ | ⟨rfl, h⟩ <;> omega, by rcases h with ⟨rfl, h⟩ | ⟨rfl, h⟩ <;> omega⟩, ?_⟩
  unfold wayN
  rw [trues_skip (m := 0) (Nat.zero_le _) fun k _ hk => ?_]
  · rfl
  · rw [wayB_false, Bool.false_and]
    rcases h with ⟨rfl, h⟩ | ⟨rfl, h⟩ <;> omega
theorem way_next {s : ByteArray} {a b t n : Nat} (h : StepB a b t) (h1 : OnWay t a b n) (h2 : n < max a b) :
    OnWay t a b (n + t) ∧ wayN s a b (n + t) = if bAt s n = 46 then wayN s a b n else wayN s a b n + 1 := by
  obtain ⟨hne, h⟩ := h
  obtain ⟨h1, -, h3⟩ := h1
  refine ⟨⟨by omega, by rcases h with ⟨rfl, h⟩ | ⟨rfl, h⟩ <;> omega, by rcases h with ⟨rfl, h⟩ | ⟨rfl, h⟩ <;> omega⟩, ?_⟩
  unfold wayN
  rw [trues_skip (m := n + 1) (by rcases h with ⟨rfl, h⟩ | ⟨rfl, h⟩ <;> omega) fun k hk1 hk2 => ?_]
  · rw [trues_succ, wayB_true (by rcases h with ⟨rfl, h⟩ | ⟨rfl, h⟩ <;> omega), Bool.true_and]
    by_cases e : bAt s n = 46
    · rw [if_pos e, e]
      rfl
    · rw [if_neg e, if_pos (by rw [bne_iff_ne]; exact e), List.length_append]
      rfl
  · rw [wayB_false, Bool.false_and]
    rcases h with ⟨rfl, h⟩ | ⟨rfl, h⟩ <;> omega
theorem way_end {s : ByteArray} {a b : Nat} (ha : a < 90) (hb : b < 90) : wayN s a b (max a b) = betweenN s a b := by
  unfold wayN betweenN
  rw [trues_skip (m := max a b) (n := 90) (by omega) fun k hk1 hk2 => ?_]
  rw [wayB_false (by omega), Bool.false_and]
theorem way_le {s : ByteArray} {a b n : Nat} : wayN s a b n ≤ n := trues_le _ _
theorem line_step {a b t : Nat} (h : StepB a b t) : lineB a b = true := by
  obtain ⟨hne, h⟩ := h
  simp only [lineB, Bool.and_eq_true, Bool.or_eq_true, bne_iff_ne, beq_iff_eq]
  exact ⟨hne, by omega⟩
theorem line_none {a b : Nat} (h : a = b ∨ (a / 9 ≠ b / 9 ∧ a % 9 ≠ b % 9)) : lineB a b = false := by
  cases e : lineB a b
  · rfl
  · simp only [lineB, Bool.and_eq_true, Bool.or_eq_true, bne_iff_ne, beq_iff_eq] at e
    omega
theorem betweenI_step {s : ByteArray} {a b t : Nat} (h : StepB a b t) : betweenI s a b = betweenN s a b := by rw [betweenI, line_step h, if_pos rfl]
theorem betweenI_none {s : ByteArray} {a b : Nat} (h : a = b ∨ (a / 9 ≠ b / 9 ∧ a % 9 ≠ b % 9)) : betweenI s a b = -1 := by rw [betweenI, line_none h]; rfl

set_option maxHeartbeats 400000 in
theorem qsq_any (n : Int) (w : World) : Calls Tryz.prog 169 #[.int .i64 n] w (Says w (.bool (sqI n))) := by
  unfold Says
  by_cases h0 : 0 ≤ n
  · by_cases h1 : n < 90
    · have K := Lib.hid (sqI_true ⟨h0, h1⟩)
      go_enter Tryz.func169, Tryz.ntmps169
      go_wp2
      go_ret
      exact ⟨by rw [K.out]; first | rfl | (simp; done) | (simp; omega), rfl⟩
    · have K := Lib.hid (sqI_false (n := n) (by omega))
      go_enter Tryz.func169, Tryz.ntmps169
      go_wp2
      go_ret
      exact ⟨by rw [K.out]; first | rfl | (simp; done) | (simp; omega), rfl⟩
  · have K := Lib.hid (sqI_false (n := n) (by omega))
    go_enter Tryz.func169, Tryz.ntmps169
    go_wp2
    go_ret
    exact ⟨by rw [K.out]; rfl, rfl⟩
theorem qsq_is (n : Int) (b : Bool) (w : World) (h : sqI n = b) : Calls Tryz.prog 169 #[.int .i64 n] w (Says w (.bool b)) := by subst h; exact qsq_any n w
theorem distance_is (a b : Nat) (d : Int) (w : World) (ha : a < 90) (hb : b < 90) (h : ((max a b - min a b : Nat) : Int) = d) : Calls Tryz.prog 231 #[.int .i64 (a : Int), .int .i64 (b : Int)] w (Says w (.int .i64 d)) := by
  unfold Says
  subst h
  have K2 : Hid (((max a b - min a b : Nat) : Int) = max (a : Int) (b : Int) - min (a : Int) (b : Int)) := by show _ = _; omega
  rcases Nat.lt_trichotomy a b with h | rfl | h
  · skip
    have K : Hid (((max a b - min a b : Nat) : Int) = (b : Int) - (a : Int)) := by show _ = _; omega
    go_enter Tryz.func231, Tryz.ntmps231
    go_wp2
    go_ret
    exact ⟨by first | (rw [K.out]; rfl) | (rw [K2.out]; rfl), rfl⟩
  · have K : Hid (((max a a - min a a : Nat) : Int) = 0) := by show _ = _; omega
    go_enter Tryz.func231, Tryz.ntmps231
    go_wp2
    go_ret
    exact ⟨by first | (rw [K.out]; rfl) | (rw [K2.out]; rfl), rfl⟩
  · skip
    have K : Hid (((max a b - min a b : Nat) : Int) = (a : Int) - (b : Int)) := by show _ = _; omega
    go_enter Tryz.func231, Tryz.ntmps231
    go_wp2
    go_ret
    exact ⟨by first | (rw [K.out]; rfl) | (rw [K2.out]; rfl), rfl⟩
theorem file_sq {a : Nat} (h : a < 90) : fileI (a : Int) = ((a % 9 : Nat) : Int) := by
  unfold fileI
  rw [if_pos (by omega)]
  omega
theorem rank_sq {a : Nat} (h : a < 90) : rankI (a : Int) = ((a / 9 : Nat) : Int) := by
  unfold rankI
  rw [if_pos (by omega)]
  omega
theorem away_is (a b : Nat) (f r : Int) (w : World) (ha : a < 90) (hb : b < 90) (hf : (fileD a b : Int) = f) (hr : (rankD a b : Int) = r) : Calls Tryz.prog 203 #[.int .i64 (a : Int), .int .i64 (b : Int)] w (Says w (.tuple #[.int .i64 f, .int .i64 r])) := by
  unfold Says
  have Hf := Lib.hid hf
  have Hr := Lib.hid hr
  have A1 := Lib.hid (file_sq ha)
  have B1 := Lib.hid (file_sq hb)
  have A2 := Lib.hid (rank_sq ha)
  have B2 := Lib.hid (rank_sq hb)
  clear hf hr
  go_enter Tryz.func203, Tryz.ntmps203
  go_wp2_with fail
  refine (file_is _ _ _ A1.out).mono ?_
  rintro e w1 ⟨rfl, rfl⟩
  go_wp2_with fail
  refine (file_is _ _ _ B1.out).mono ?_
  rintro e w1 ⟨rfl, rfl⟩
  go_wp2_with fail
  refine (distance_is _ _ f _ (by omega) (by omega) Hf.out).mono ?_
  rintro e w1 ⟨rfl, rfl⟩
  go_wp2_with fail
  refine (rank_is _ _ _ A2.out).mono ?_
  rintro e w1 ⟨rfl, rfl⟩
  go_wp2_with fail
  refine (rank_is _ _ _ B2.out).mono ?_
  rintro e w1 ⟨rfl, rfl⟩
  go_wp2_with fail
  refine (distance_is _ _ r _ (by omega) (by omega) Hr.out).mono ?_
  rintro e w1 ⟨rfl, rfl⟩
  go_wp2
  go_ret2
  exact ⟨rfl, rfl⟩
theorem leg_r (a b : Nat) (w : World) (ha : a < 90) (hb : b < 90) (hf : fileD a b = 1) (hr : rankD a b = 2) : Calls Tryz.prog 232 #[.int .i64 (a : Int), .int .i64 (b : Int)] w (Says w (.int .i64 (legR a b : Nat))) := by
  unfold Says
  have A1 := Lib.hid (file_sq ha)
  have A2 := Lib.hid (rank_sq ha)
  have B2 := Lib.hid (rank_sq hb)
  have K : Hid (squareI ((a % 9 : Nat) : Int) (((a / 9 + b / 9) / 2 : Nat) : Int) = ((legR a b : Nat) : Int)) := by
    show _ = _
    unfold rankD at hr
    unfold squareI legR
    rw [if_pos (by omega)]
    split <;> omega
  have Hf := Lib.hid hf
  have Hr := Lib.hid hr
  clear hf hr
  go_enter Tryz.func232, Tryz.ntmps232
  go_wp2_with fail
  refine (away_is a b 1 2 _ ha hb (by rw [Hf.out]; rfl) (by rw [Hr.out]; rfl)).mono ?_
  rintro e w1 ⟨rfl, rfl⟩
  go_wp2_with fail
  refine (file_is _ _ _ A1.out).mono ?_
  rintro e w1 ⟨rfl, rfl⟩
  go_wp2_with fail
  refine (rank_is _ _ _ A2.out).mono ?_
  rintro e w1 ⟨rfl, rfl⟩
  go_wp2_with fail
  refine (rank_is _ _ _ B2.out).mono ?_
  rintro e w1 ⟨rfl, rfl⟩
  go_wp2_with fail
  refine (square_is _ _ _ _ K.out).mono ?_
  rintro e w1 ⟨rfl, rfl⟩
  go_wp2
  go_ret
  exact ⟨rfl, rfl⟩
theorem leg_f (a b : Nat) (w : World) (ha : a < 90) (hb : b < 90) (hf : fileD a b = 2) (hr : rankD a b = 1) : Calls Tryz.prog 232 #[.int .i64 (a : Int), .int .i64 (b : Int)] w (Says w (.int .i64 (legF a b : Nat))) := by
  unfold Says
  have A1 := Lib.hid (file_sq ha)
  have B1 := Lib.hid (file_sq hb)
  have A2 := Lib.hid (rank_sq ha)
  have K : Hid (squareI (((a % 9 + b % 9) / 2 : Nat) : Int) ((a / 9 : Nat) : Int) = ((legF a b : Nat) : Int)) := by
    show _ = _
    unfold fileD at hf
    unfold squareI legF
    rw [if_pos (by omega)]
    split <;> omega
  have Hf := Lib.hid hf
  have Hr := Lib.hid hr
  clear hf hr
  go_enter Tryz.func232, Tryz.ntmps232
  go_wp2_with fail
  refine (away_is a b 2 1 _ ha hb (by rw [Hf.out]; rfl) (by rw [Hr.out]; rfl)).mono ?_
  rintro e w1 ⟨rfl, rfl⟩
  go_wp2_with fail
  refine (file_is _ _ _ A1.out).mono ?_
  rintro e w1 ⟨rfl, rfl⟩
  go_wp2_with fail
  refine (file_is _ _ _ B1.out).mono ?_
  rintro e w1 ⟨rfl, rfl⟩
  go_wp2_with fail
  refine (rank_is _ _ _ A2.out).mono ?_
  rintro e w1 ⟨rfl, rfl⟩
  go_wp2_with fail
  refine (square_is _ _ _ _ K.out).mono ?_
  rintro e w1 ⟨rfl, rfl⟩
  go_wp2
  go_ret
  exact ⟨rfl, rfl⟩
theorem jumped_46 (w : World) : Calls Tryz.prog 233 #[.int .u8 46] w (Says w (.int .i64 0)) := by
  unfold Says
  go_enter Tryz.func233, Tryz.ntmps233
  go_wp2
  go_ret
  exact ⟨rfl, rfl⟩
theorem jumped_any (c : Nat) (w : World) (h : c ≠ 46) : Calls Tryz.prog 233 #[.int .u8 (c : Int)] w (Says w (.int .i64 1)) := by
  unfold Says
  have e0 : ((c : Int) == 46) = false := by rw [beq_eq_false_iff_ne]; omega
  clear h
  go_enter Tryz.func233, Tryz.ntmps233
  go_wp2
  go_ret
  exact ⟨rfl, rfl⟩
theorem jumped_is (c : Nat) (k : Int) (w : World) (h : (if c = 46 then 0 else 1) = k) : Calls Tryz.prog 233 #[.int .u8 (c : Int)] w (Says w (.int .i64 k)) := by
  subst h
  by_cases e : c = 46
  · subst e
    exact jumped_46 w
  · rw [if_neg e]
    exact jumped_any c w e
theorem ahead_red (a : Nat) (w : World) (ha : a < 90) : Calls Tryz.prog 234 #[.int .i64 0, .int .i64 (a : Int)] w (Says w (.int .i64 ((a : Int) + 9))) := by
  unfold Says
  go_enter Tryz.func234, Tryz.ntmps234
  go_wp2
  go_ret
  exact ⟨rfl, rfl⟩
theorem ahead_black (a : Nat) (w : World) (ha : a < 90) : Calls Tryz.prog 234 #[.int .i64 1, .int .i64 (a : Int)] w (Says w (.int .i64 ((a : Int) - 9))) := by
  unfold Says
  go_enter Tryz.func234, Tryz.ntmps234
  go_wp2
  go_ret
  exact ⟨rfl, rfl⟩
theorem qbetween_none (s : ByteArray) (a b : Nat) (w : World) (ha : a < 90) (hb : b < 90) (h : a = b ∨ (a / 9 ≠ b / 9 ∧ a % 9 ≠ b % 9)) :
    Calls Tryz.prog 170 #[.string s, .int .i64 (a : Int), .int .i64 (b : Int)] w (Says w (.int .i64 (-1))) := by
  unfold Says
  obtain ⟨f, hf⟩ : ∃ f : Int, (fileD a b : Int) = f := ⟨_, rfl⟩
  obtain ⟨r, hr⟩ : ∃ r : Int, (rankD a b : Int) = r := ⟨_, rfl⟩
  have K : ((f == 0) == (r == 0)) = true := by
    rw [beq_iff_eq, Bool.eq_iff_iff, beq_iff_eq, beq_iff_eq, ← hf, ← hr]
    unfold fileD rankD
    omega
  have Hf := Lib.hid hf
  have Hr := Lib.hid hr
  clear hf hr h
  go_enter Tryz.func170, Tryz.ntmps170
  go_wp2_with fail
  refine (away_is a b f r _ ha hb Hf.out Hr.out).mono ?_
  rintro e w1 ⟨rfl, rfl⟩
  go_wp2
  go_ret
  exact ⟨rfl, rfl⟩
set_option maxHeartbeats 4000000 in
theorem qbetween_9 (s : ByteArray) (a b : Nat) (w : World) (hs : 90 ≤ s.size) (ha : a < 90) (hb : b < 90) (h : StepB a b 9) :
    Calls Tryz.prog 170 #[.string s, .int .i64 (a : Int), .int .i64 (b : Int)] w (Says w (.int .i64 (betweenN s a b))) := by
  unfold Says
  have HST := Lib.hid (@way_start s a b 9 h)
  have HNX := Lib.hid fun n => @way_next s a b 9 n h
  have HEN := Lib.hid (@way_end s a b ha hb)
  have HLE := Lib.hid fun n => @way_le s a b n
  have hne := h.1
  obtain ⟨r, hr⟩ : ∃ r : Int, (rankD a b : Int) = r := ⟨_, rfl⟩
  have hf : (fileD a b : Int) = 0 := by unfold fileD; have := h.2; omega
  have hr0 : r ≠ 0 := by rw [← hr]; unfold rankD; have := h.2; omega
  have Hf := Lib.hid hf
  have Hr := Lib.hid hr
  clear hf hr h
  rcases Nat.lt_or_gt_of_ne hne with hlt | hlt
  all_goals
    clear hne
    go_enter Tryz.func170, Tryz.ntmps170
    go_wp2_with fail
    refine (away_is a b _ _ _ ha hb Hf.out Hr.out).mono ?_
    rintro e w1 ⟨rfl, rfl⟩
    go_wp2_with fail
    go_loop [10, 11] (fun c i => ∃ n : Nat, Hid (OnWay 9 a b n) ∧ i = .int .i64 n ∧ c = .int .i64 (wayN s a b n)) (fun _ i => 90 - (intOf i).toNat)
    case atStart => exact ⟨min a b + 9, HST.out.1, by congr 1; omega, by rw [HST.out.2]; rfl⟩
    case round =>
      obtain ⟨n, hn, rfl, rfl⟩ := hrel
      have hn1 := hn.out.1
      have hn2 := hn.out.2.1
      have hle := HLE.out n
      by_cases hend : n < max a b
      · obtain ⟨x, hx⟩ : ∃ x, bAt s n = x := ⟨_, rfl⟩
        have hks : n < s.size := by omega
        have hbk : s[n].toNat = x := (bAt_eq s n hks).trans hx
        have HN := Lib.hid (HNX.out n hn.out hend)
        rw [hx] at HN
        have hn3 := HN.out.1.2.1
        by_cases h46 : x = 46
        · have e46 : ((x : Int) != 46) = false := by rw [h46]; rfl
          clear hx h46
          go_wp2
          go_round
          case rel => exact ⟨n + 9, HN.out.1, by go_num, by rw [HN.out.2, if_pos (by simp at e46; omega)]⟩
          case measure => simp [intOf]; omega
        · have e46 : ((x : Int) != 46) = true := by rw [bne_iff_ne]; omega
          clear hx
          go_wp2
          go_round
          case rel => exact ⟨n + 9, HN.out.1, by go_num, by rw [HN.out.2, if_neg h46]; go_num⟩
          case measure => simp [intOf]; omega
      · obtain rfl : n = max a b := by omega
        have K : Hid (wayN s a b (max a b) = betweenN s a b) := HEN
        go_wp2
        go_ret
        exact ⟨by rw [K.out]; rfl, rfl⟩
set_option maxHeartbeats 4000000 in
theorem qbetween_1 (s : ByteArray) (a b : Nat) (w : World) (hs : 90 ≤ s.size) (ha : a < 90) (hb : b < 90) (h : StepB a b 1) :
    Calls Tryz.prog 170 #[.string s, .int .i64 (a : Int), .int .i64 (b : Int)] w (Says w (.int .i64 (betweenN s a b))) := by
  unfold Says
  have HST := Lib.hid (@way_start s a b 1 h)
  have HNX := Lib.hid fun n => @way_next s a b 1 n h
  have HEN := Lib.hid (@way_end s a b ha hb)
  have HLE := Lib.hid fun n => @way_le s a b n
  have hne := h.1
  obtain ⟨f, hf⟩ : ∃ f : Int, (fileD a b : Int) = f := ⟨_, rfl⟩
  have hr : (rankD a b : Int) = 0 := by unfold rankD; have := h.2; omega
  have hf0 : f ≠ 0 := by rw [← hf]; unfold fileD; have := h.2; omega
  have Hf := Lib.hid hf
  have Hr := Lib.hid hr
  clear hf hr h
  rcases Nat.lt_or_gt_of_ne hne with hlt | hlt
  all_goals
    clear hne
    go_enter Tryz.func170, Tryz.ntmps170
    go_wp2_with fail
    refine (away_is a b _ _ _ ha hb Hf.out Hr.out).mono ?_
    rintro e w1 ⟨rfl, rfl⟩
    go_wp2_with fail
    go_loop [10, 11] (fun c i => ∃ n : Nat, Hid (OnWay 1 a b n) ∧ i = .int .i64 n ∧ c = .int .i64 (wayN s a b n)) (fun _ i => 90 - (intOf i).toNat)
    case atStart => exact ⟨min a b + 1, HST.out.1, by congr 1; omega, by rw [HST.out.2]; rfl⟩
    case round =>
      obtain ⟨n, hn, rfl, rfl⟩ := hrel
      have hn1 := hn.out.1
      have hn2 := hn.out.2.1
      have hle := HLE.out n
      by_cases hend : n < max a b
      · obtain ⟨x, hx⟩ : ∃ x, bAt s n = x := ⟨_, rfl⟩
        have hks : n < s.size := by omega
        have hbk : s[n].toNat = x := (bAt_eq s n hks).trans hx
        have HN := Lib.hid (HNX.out n hn.out hend)
        rw [hx] at HN
        have hn3 := HN.out.1.2.1
        by_cases h46 : x = 46
        · have e46 : ((x : Int) != 46) = false := by rw [h46]; rfl
          clear hx h46
          go_wp2
          go_round
          case rel => exact ⟨n + 1, HN.out.1, by go_num, by rw [HN.out.2, if_pos (by simp at e46; omega)]⟩
          case measure => simp [intOf]; omega
        · have e46 : ((x : Int) != 46) = true := by rw [bne_iff_ne]; omega
          clear hx
          go_wp2
          go_round
          case rel => exact ⟨n + 1, HN.out.1, by go_num, by rw [HN.out.2, if_neg h46]; go_num⟩
          case measure => simp [intOf]; omega
      · obtain rfl : n = max a b := by omega
        have K : Hid (wayN s a b (max a b) = betweenN s a b) := HEN
        go_wp2
        go_ret
        exact ⟨by rw [K.out]; rfl, rfl⟩
theorem qbetween_any (s : ByteArray) (a b : Nat) (w : World) (hs : 90 ≤ s.size) (ha : a < 90) (hb : b < 90) :
    Calls Tryz.prog 170 #[.string s, .int .i64 (a : Int), .int .i64 (b : Int)] w (Says w (.int .i64 (betweenI s a b))) := by
  by_cases h : a = b ∨ (a / 9 ≠ b / 9 ∧ a % 9 ≠ b % 9)
  · rw [betweenI_none h]
    exact qbetween_none s a b w ha hb h
  · by_cases h9 : a % 9 = b % 9
    · have hst : StepB a b 9 := ⟨by omega, .inr ⟨rfl, h9⟩⟩
      rw [betweenI_step hst]
      exact qbetween_9 s a b w hs ha hb hst
    · have hst : StepB a b 1 := ⟨by omega, .inl ⟨rfl, by omega⟩⟩
      rw [betweenI_step hst]
      exact qbetween_1 s a b w hs ha hb hst
theorem qbetween_is (s : ByteArray) (a b : Nat) (k : Int) (w : World) (hs : 90 ≤ s.size) (ha : a < 90) (hb : b < 90) (h : betweenI s a b = k) :
    Calls Tryz.prog 170 #[.string s, .int .i64 (a : Int), .int .i64 (b : Int)] w (Says w (.int .i64 k)) := by subst h; exact qbetween_any s a b w hs ha hb
end Go.Proofs.YtbdgbihdhbjljaaGreatDoor
