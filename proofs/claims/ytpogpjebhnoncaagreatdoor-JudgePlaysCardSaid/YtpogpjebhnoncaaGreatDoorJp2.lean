/- What CardJudgePlays needs, part 2: taken together by a program (tools/prune.py). -/
import Derived.Lib.TrailingZeros
import Derived.Test.YtpogpjebhnoncaaGreatDoorRows
import Derived.WalkKit
import Derived.WalkSpells
import Derived.WalkLawsBesides
import Derived.Outline
import Derived.Laws.BitsAllLaws
import Derived.Laws.OwnMore
import Derived.Deep.RegionWith
import Derived.Deep.RegionHeld3
import Derived.Deep.QuietTactic
import Derived.BigQuiet
import Derived.RangeFuncBox
import Derived.RangeFuncCalls
import Derived.RangeFuncLeaves
import Derived.RangeFuncNested
import Derived.Shelf.Abstract
import Derived.OwnWalkIn
import Derived.TacticsInMore
import Derived.LoopNIn
import Derived.LoopIn
import Derived.Maps.AppendAt
import Derived.Lib.Hide
import Derived.Laws.IdiomStrings
import Derived.Laws.EntriesVeiled
import Derived.Lib.Strings
import Derived.Lib.Walk
import Derived.Lib.Bytealg
import Derived.Shelf.Strings.Search1
import Derived.Ground.SlgfProg
import Derived.Shelf.SlicesE.IndexFunc
import Derived.Shelf.SlicesE.DeleteFunc
import Derived.Test.YtpogpjebhnoncaaGreatDoorProg
import Derived.Lib.OwnBridge
import Derived.Lib.SliceRun
import Derived.Deep.LoopGhost
import Derived.Shelf.Small.Strs
import Derived.Shelf.Slices.Turned
import Derived.Deep.AppendLies
import Derived.Deep.RegionHeldLaw
import Derived.Deep.RegionHeld
import Derived.Deep.RegionLaw
import Derived.Test.YtpogpjebhnoncaaGreatDoorCards
import Derived.Test.YtpogpjebhnoncaaGreatDoorTie
import Derived.ProofKit
import Derived.OpenShut
import Derived.Deep.DeepHandedRow
import Derived.Lib.LaidTab
import Derived.Lib.SmallJoins
import Derived.Deep.SlicePairs
import Derived.Test.YtpogpjebhnoncaaGreatDoorJp1
namespace Go.Proofs.YtpogpjebhnoncaaGreatDoor
open Go.RowKit Go.Shelf
open M (S)
theorem trues_skip {p : Nat → Bool} {m : Nat} : ∀ {n : Nat}, m ≤ n → (∀ k, m ≤ k → k < n → p k = false) → trues p n = trues p m
  | 0, h, _ => by obtain rfl : m = 0 := by omega
                  rfl
  | n + 1, h, hp => by
    by_cases e : m = n + 1
    · rw [e]
    · rw [trues_succ, hp n (by omega) (by omega), if_neg (by simp), trues_skip (by omega) fun k h1 h2 => hp k h1 (by omega)]
def wayN (s : ByteArray) (a b n : Nat) : Nat := (trues (fun k => wayB a b k && (bAt s k != 46)) n).length
def StepB (a b t : Nat) : Prop := a ≠ b ∧ ((t = 1 ∧ a / 9 = b / 9) ∨ (t = 9 ∧ a % 9 = b % 9))
theorem wayB_false {a b k : Nat} (h : ¬ (min a b < k ∧ k < max a b ∧ (a / 9 = b / 9 ∨ k % 9 = a % 9))) : wayB a b k = false := by
  cases e : wayB a b k
  · rfl
  · simp only [wayB, Bool.and_eq_true, Bool.or_eq_true, decide_eq_true_eq, beq_iff_eq] at e
    exact absurd ⟨e.1.1, e.1.2, e.2⟩ h
theorem wayB_true {a b k : Nat} (h : min a b < k ∧ k < max a b ∧ (a / 9 = b / 9 ∨ k % 9 = a % 9)) : wayB a b k = true := by
  simp only [wayB, Bool.and_eq_true, Bool.or_eq_true, decide_eq_true_eq, beq_iff_eq]
  exact ⟨⟨h.1, h.2.1⟩, h.2.2⟩
def OnWay (t a b n : Nat) : Prop := min a b < n ∧ n ≤ max a b ∧ n % t = min a b % t
theorem way_start {s : ByteArray} {a b t : Nat} (h : StepB a b t) : Hid (OnWay t a b (min a b + t)) ∧ wayN s a b (min a b + t) = 0 := by
  obtain ⟨hne, h⟩ := h
  refine ⟨⟨by omega, by rcases h with ⟨rfl, h⟩ | ⟨rfl, h⟩ <;> omega, by rcases h with ⟨rfl, h⟩ | ⟨rfl, h⟩ <;> omega⟩, ?_⟩
  unfold wayN
  rw [trues_skip (m := 0) (Nat.zero_le _) fun k _ hk => ?_]
  · rfl
  · rw [wayB_false, Bool.false_and]
    rcases h with ⟨rfl, h⟩ | ⟨rfl, h⟩ <;> omega
theorem way_next {s : ByteArray} {a b t n : Nat} (h : StepB a b t) (h1 : OnWay t a b n) (h2 : n < max a b) :
    OnWay t a b (n + t) ∧ wayN s a b (n + t) = if bAt s n = 46 then wayN s a b n else wayN s a b n + 1 := by
  obtain ⟨hne, h⟩ := h
  obtain ⟨h1, -, h3⟩ := h1
  refine ⟨⟨by omega, by rcases h with ⟨rfl, h⟩ | ⟨rfl, h⟩ <;> omega, by rcases h with ⟨rfl, h⟩ | ⟨rfl, h⟩ <;> omega⟩, ?_⟩
  unfold wayN
  rw [trues_skip (m := n + 1) (by rcases h with ⟨rfl, h⟩ | ⟨rfl, h⟩ <;> omega) fun k hk1 hk2 => ?_]
  · rw [trues_succ, wayB_true (by rcases h with ⟨rfl, h⟩ | ⟨rfl, h⟩ <;> omega), Bool.true_and]
    by_cases e : bAt s n = 46
    · rw [if_pos e, e]
      rfl
    · rw [if_neg e, if_pos (by rw [bne_iff_ne]; exact e), List.length_append]
      rfl
  · rw [wayB_false, Bool.false_and]
    rcases h with ⟨rfl, h⟩ | ⟨rfl, h⟩ <;> omega
theorem way_end {s : ByteArray} {a b : Nat} (ha : a < 90) (hb : b < 90) : wayN s a b (max a b) = betweenN s a b := by
  unfold wayN betweenN
  rw [trues_skip (m := max a b) (n := 90) (by omega) fun k hk1 hk2 => ?_]
  rw [wayB_false (by omega), Bool.false_and]
theorem way_le {s : ByteArray} {a b n : Nat} : wayN s a b n ≤ n := trues_le _ _
theorem line_step {a b t : Nat} (h : StepB a b t) : lineB a b = true := by
  obtain ⟨hne, h⟩ := h
  simp only [lineB, Bool.and_eq_true, Bool.or_eq_true, bne_iff_ne, beq_iff_eq]
  exact ⟨hne, by omega⟩
theorem line_none {a b : Nat} (h : a = b ∨ (a / 9 ≠ b / 9 ∧ a % 9 ≠ b % 9)) : lineB a b = false := by
  cases e : lineB a b
  · rfl
  · simp only [lineB, Bool.and_eq_true, Bool.or_eq_true, bne_iff_ne, beq_iff_eq] at e
    omega
theorem betweenI_step {s : ByteArray} {a b t : Nat} (h : StepB a b t) : betweenI s a b = betweenN s a b := by rw [betweenI, line_step h, if_pos rfl]
theorem betweenI_none {s : ByteArray} {a b : Nat} (h : a = b ∨ (a / 9 ≠ b / 9 ∧ a % 9 ≠ b % 9)) : betweenI s a b = -1 := by rw [betweenI, line_none h]; rfl
set_option maxHeartbeats 400000 in
theorem qsq_any (n : Int) (w : World) : Calls Tryz.prog 178 #[.int .i64 n] w (Says w (.bool (sqI n))) := by
  unfold Says
  by_cases h0 : 0 ≤ n
  · by_cases h1 : n < 90
    · have K := Lib.hid (sqI_true ⟨h0, h1⟩)
      go_enter Tryz.func178, Tryz.ntmps178
      go_wp2
      go_ret
      exact ⟨by rw [K.out]; first | rfl | (simp; done) | (simp; omega), rfl⟩
    · have K := Lib.hid (sqI_false (n := n) (by omega))
      go_enter Tryz.func178, Tryz.ntmps178
      go_wp2
      go_ret
      exact ⟨by rw [K.out]; first | rfl | (simp; done) | (simp; omega), rfl⟩
  · have K := Lib.hid (sqI_false (n := n) (by omega))
    go_enter Tryz.func178, Tryz.ntmps178
    go_wp2
    go_ret
    exact ⟨by rw [K.out]; rfl, rfl⟩
theorem qsq_is (n : Int) (b : Bool) (w : World) (h : sqI n = b) : Calls Tryz.prog 178 #[.int .i64 n] w (Says w (.bool b)) := by subst h; exact qsq_any n w
theorem distance_is (a b : Nat) (d : Int) (w : World) (ha : a < 90) (hb : b < 90) (h : ((max a b - min a b : Nat) : Int) = d) : Calls Tryz.prog 259 #[.int .i64 (a : Int), .int .i64 (b : Int)] w (Says w (.int .i64 d)) := by
  unfold Says
  subst h
  have K2 : Hid (((max a b - min a b : Nat) : Int) = max (a : Int) (b : Int) - min (a : Int) (b : Int)) := by show _ = _; omega
  rcases Nat.lt_trichotomy a b with h | rfl | h
  · skip
    have K : Hid (((max a b - min a b : Nat) : Int) = (b : Int) - (a : Int)) := by show _ = _; omega
    go_enter Tryz.func259, Tryz.ntmps259
    go_wp2
    go_ret
    exact ⟨by first | (rw [K.out]; rfl) | (rw [K2.out]; rfl), rfl⟩
  · have K : Hid (((max a a - min a a : Nat) : Int) = 0) := by show _ = _; omega
    go_enter Tryz.func259, Tryz.ntmps259
    go_wp2
    go_ret
    exact ⟨by first | (rw [K.out]; rfl) | (rw [K2.out]; rfl), rfl⟩
  · skip
    have K : Hid (((max a b - min a b : Nat) : Int) = (a : Int) - (b : Int)) := by show _ = _; omega
    go_enter Tryz.func259, Tryz.ntmps259
    go_wp2
    go_ret
    exact ⟨by first | (rw [K.out]; rfl) | (rw [K2.out]; rfl), rfl⟩
theorem file_sq {a : Nat} (h : a < 90) : fileI (a : Int) = ((a % 9 : Nat) : Int) := by
  unfold fileI
  rw [if_pos (by omega)]
  omega
theorem rank_sq {a : Nat} (h : a < 90) : rankI (a : Int) = ((a / 9 : Nat) : Int) := by
  unfold rankI
  rw [if_pos (by omega)]
  omega
theorem away_is (a b : Nat) (f r : Int) (w : World) (ha : a < 90) (hb : b < 90) (hf : (fileD a b : Int) = f) (hr : (rankD a b : Int) = r) : Calls Tryz.prog 225 #[.int .i64 (a : Int), .int .i64 (b : Int)] w (Says w (.tuple #[.int .i64 f, .int .i64 r])) := by
  unfold Says
  have Hf := Lib.hid hf
  have Hr := Lib.hid hr
  have A1 := Lib.hid (file_sq ha)
  have B1 := Lib.hid (file_sq hb)
  have A2 := Lib.hid (rank_sq ha)
  have B2 := Lib.hid (rank_sq hb)
  clear hf hr
  go_enter Tryz.func225, Tryz.ntmps225
  go_wp2_with fail
  refine (file_is _ _ _ A1.out).mono ?_
  rintro e w1 ⟨rfl, rfl⟩
  go_wp2_with fail
  refine (file_is _ _ _ B1.out).mono ?_
  rintro e w1 ⟨rfl, rfl⟩
  go_wp2_with fail
  refine (distance_is _ _ f _ (by omega) (by omega) Hf.out).mono ?_
  rintro e w1 ⟨rfl, rfl⟩
  go_wp2_with fail
  refine (rank_is _ _ _ A2.out).mono ?_
  rintro e w1 ⟨rfl, rfl⟩
  go_wp2_with fail
  refine (rank_is _ _ _ B2.out).mono ?_
  rintro e w1 ⟨rfl, rfl⟩
  go_wp2_with fail
  refine (distance_is _ _ r _ (by omega) (by omega) Hr.out).mono ?_
  rintro e w1 ⟨rfl, rfl⟩
  go_wp2
  go_ret2
  exact ⟨rfl, rfl⟩
theorem leg_r (a b : Nat) (w : World) (ha : a < 90) (hb : b < 90) (hf : fileD a b = 1) (hr : rankD a b = 2) : Calls Tryz.prog 260 #[.int .i64 (a : Int), .int .i64 (b : Int)] w (Says w (.int .i64 (legR a b : Nat))) := by
  unfold Says
  have A1 := Lib.hid (file_sq ha)
  have A2 := Lib.hid (rank_sq ha)
  have B2 := Lib.hid (rank_sq hb)
  have K : Hid (squareI ((a % 9 : Nat) : Int) (((a / 9 + b / 9) / 2 : Nat) : Int) = ((legR a b : Nat) : Int)) := by
    show _ = _
    unfold rankD at hr
    unfold squareI legR
    rw [if_pos (by omega)]
    split <;> omega
  have Hf := Lib.hid hf
  have Hr := Lib.hid hr
  clear hf hr
  go_enter Tryz.func260, Tryz.ntmps260
  go_wp2_with fail
  refine (away_is a b 1 2 _ ha hb (by rw [Hf.out]; rfl) (by rw [Hr.out]; rfl)).mono ?_
  rintro e w1 ⟨rfl, rfl⟩
  go_wp2_with fail
  refine (file_is _ _ _ A1.out).mono ?_
  rintro e w1 ⟨rfl, rfl⟩
  go_wp2_with fail
  refine (rank_is _ _ _ A2.out).mono ?_
  rintro e w1 ⟨rfl, rfl⟩
  go_wp2_with fail
  refine (rank_is _ _ _ B2.out).mono ?_
  rintro e w1 ⟨rfl, rfl⟩
  go_wp2_with fail
  refine (square_is _ _ _ _ K.out).mono ?_
  rintro e w1 ⟨rfl, rfl⟩
  go_wp2
  go_ret
  exact ⟨rfl, rfl⟩
theorem leg_f (a b : Nat) (w : World) (ha : a < 90) (hb : b < 90) (hf : fileD a b = 2) (hr : rankD a b = 1) : Calls Tryz.prog 260 #[.int .i64 (a : Int), .int .i64 (b : Int)] w (Says w (.int .i64 (legF a b : Nat))) := by
  unfold Says
  have A1 := Lib.hid (file_sq ha)
  have B1 := Lib.hid (file_sq hb)
  have A2 := Lib.hid (rank_sq ha)
  have K : Hid (squareI (((a % 9 + b % 9) / 2 : Nat) : Int) ((a / 9 : Nat) : Int) = ((legF a b : Nat) : Int)) := by
    show _ = _
    unfold fileD at hf
    unfold squareI legF
    rw [if_pos (by omega)]
    split <;> omega
  have Hf := Lib.hid hf
  have Hr := Lib.hid hr
  clear hf hr
  go_enter Tryz.func260, Tryz.ntmps260
  go_wp2_with fail
  refine (away_is a b 2 1 _ ha hb (by rw [Hf.out]; rfl) (by rw [Hr.out]; rfl)).mono ?_
  rintro e w1 ⟨rfl, rfl⟩
  go_wp2_with fail
  refine (file_is _ _ _ A1.out).mono ?_
  rintro e w1 ⟨rfl, rfl⟩
  go_wp2_with fail
  refine (file_is _ _ _ B1.out).mono ?_
  rintro e w1 ⟨rfl, rfl⟩
  go_wp2_with fail
  refine (rank_is _ _ _ A2.out).mono ?_
  rintro e w1 ⟨rfl, rfl⟩
  go_wp2_with fail
  refine (square_is _ _ _ _ K.out).mono ?_
  rintro e w1 ⟨rfl, rfl⟩
  go_wp2
  go_ret
  exact ⟨rfl, rfl⟩
theorem jumped_46 (w : World) : Calls Tryz.prog 261 #[.int .u8 46] w (Says w (.int .i64 0)) := by
  unfold Says
  go_enter Tryz.func261, Tryz.ntmps261
  go_wp2
  go_ret
  exact ⟨rfl, rfl⟩
theorem jumped_any (c : Nat) (w : World) (h : c ≠ 46) : Calls Tryz.prog 261 #[.int .u8 (c : Int)] w (Says w (.int .i64 1)) := by
  unfold Says
  have e0 : ((c : Int) == 46) = false := by rw [beq_eq_false_iff_ne]; omega
  clear h
  go_enter Tryz.func261, Tryz.ntmps261
  go_wp2
  go_ret
  exact ⟨rfl, rfl⟩
theorem jumped_is (c : Nat) (k : Int) (w : World) (h : (if c = 46 then 0 else 1) = k) : Calls Tryz.prog 261 #[.int .u8 (c : Int)] w (Says w (.int .i64 k)) := by
  subst h
  by_cases e : c = 46
  · subst e
    exact jumped_46 w
  · rw [if_neg e]
    exact jumped_any c w e
theorem ahead_red (a : Nat) (w : World) (ha : a < 90) : Calls Tryz.prog 262 #[.int .i64 0, .int .i64 (a : Int)] w (Says w (.int .i64 ((a : Int) + 9))) := by
  unfold Says
  go_enter Tryz.func262, Tryz.ntmps262
  go_wp2
  go_ret
  exact ⟨rfl, rfl⟩
theorem ahead_black (a : Nat) (w : World) (ha : a < 90) : Calls Tryz.prog 262 #[.int .i64 1, .int .i64 (a : Int)] w (Says w (.int .i64 ((a : Int) - 9))) := by
  unfold Says
  go_enter Tryz.func262, Tryz.ntmps262
  go_wp2
  go_ret
  exact ⟨rfl, rfl⟩
theorem qbetween_none (s : ByteArray) (a b : Nat) (w : World) (ha : a < 90) (hb : b < 90) (h : a = b ∨ (a / 9 ≠ b / 9 ∧ a % 9 ≠ b % 9)) :
    Calls Tryz.prog 179 #[.string s, .int .i64 (a : Int), .int .i64 (b : Int)] w (Says w (.int .i64 (-1))) := by
  unfold Says
  obtain ⟨f, hf⟩ : ∃ f : Int, (fileD a b : Int) = f := ⟨_, rfl⟩
  obtain ⟨r, hr⟩ : ∃ r : Int, (rankD a b : Int) = r := ⟨_, rfl⟩
  have K : ((f == 0) == (r == 0)) = true := by
    rw [beq_iff_eq, Bool.eq_iff_iff, beq_iff_eq, beq_iff_eq, ← hf, ← hr]
    unfold fileD rankD
    omega
  have Hf := Lib.hid hf
  have Hr := Lib.hid hr
  clear hf hr h
  go_enter Tryz.func179, Tryz.ntmps179
  go_wp2_with fail
  refine (away_is a b f r _ ha hb Hf.out Hr.out).mono ?_
  rintro e w1 ⟨rfl, rfl⟩
  go_wp2
  go_ret
  exact ⟨rfl, rfl⟩
set_option maxHeartbeats 4000000 in
theorem qbetween_9 (s : ByteArray) (a b : Nat) (w : World) (hs : 90 ≤ s.size) (ha : a < 90) (hb : b < 90) (h : StepB a b 9) :
    Calls Tryz.prog 179 #[.string s, .int .i64 (a : Int), .int .i64 (b : Int)] w (Says w (.int .i64 (betweenN s a b))) := by
  unfold Says
  have HST := Lib.hid (@way_start s a b 9 h)
  have HNX := Lib.hid fun n => @way_next s a b 9 n h
  have HEN := Lib.hid (@way_end s a b ha hb)
  have HLE := Lib.hid fun n => @way_le s a b n
  have hne := h.1
  obtain ⟨r, hr⟩ : ∃ r : Int, (rankD a b : Int) = r := ⟨_, rfl⟩
  have hf : (fileD a b : Int) = 0 := by unfold fileD; have := h.2; omega
  have hr0 : r ≠ 0 := by rw [← hr]; unfold rankD; have := h.2; omega
  have Hf := Lib.hid hf
  have Hr := Lib.hid hr
  clear hf hr h
  rcases Nat.lt_or_gt_of_ne hne with hlt | hlt
  all_goals
    clear hne
    go_enter Tryz.func179, Tryz.ntmps179
    go_wp2_with fail
    refine (away_is a b _ _ _ ha hb Hf.out Hr.out).mono ?_
    rintro e w1 ⟨rfl, rfl⟩
    go_wp2_with fail
    go_loop [10, 11] (fun c i => ∃ n : Nat, Hid (OnWay 9 a b n) ∧ i = .int .i64 n ∧ c = .int .i64 (wayN s a b n)) (fun _ i => 90 - (intOf i).toNat)
    case atStart => exact ⟨min a b + 9, HST.out.1, by congr 1; omega, by rw [HST.out.2]; rfl⟩
    case round =>
      obtain ⟨n, hn, rfl, rfl⟩ := hrel
      have hn1 := hn.out.1
      have hn2 := hn.out.2.1
      have hle := HLE.out n
      by_cases hend : n < max a b
      · obtain ⟨x, hx⟩ : ∃ x, bAt s n = x := ⟨_, rfl⟩
        have hks : n < s.size := by omega
        have hbk : s[n].toNat = x := (bAt_eq s n hks).trans hx
        have HN := Lib.hid (HNX.out n hn.out hend)
        rw [hx] at HN
        have hn3 := HN.out.1.2.1
        by_cases h46 : x = 46
        · have e46 : ((x : Int) != 46) = false := by rw [h46]; rfl
          clear hx h46
          go_wp2
          go_round
          case rel => exact ⟨n + 9, HN.out.1, by go_num, by rw [HN.out.2, if_pos (by simp at e46; omega)]⟩
          case measure => simp [intOf]; omega
        · have e46 : ((x : Int) != 46) = true := by rw [bne_iff_ne]; omega
          clear hx
          go_wp2
          go_round
          case rel => exact ⟨n + 9, HN.out.1, by go_num, by rw [HN.out.2, if_neg h46]; go_num⟩
          case measure => simp [intOf]; omega
      · obtain rfl : n = max a b := by omega
        have K : Hid (wayN s a b (max a b) = betweenN s a b) := HEN
        go_wp2
        go_ret
        exact ⟨by rw [K.out]; rfl, rfl⟩
set_option maxHeartbeats 4000000 in
theorem qbetween_1 (s : ByteArray) (a b : Nat) (w : World) (hs : 90 ≤ s.size) (ha : a < 90) (hb : b < 90) (h : StepB a b 1) :
    Calls Tryz.prog 179 #[.string s, .int .i64 (a : Int), .int .i64 (b : Int)] w (Says w (.int .i64 (betweenN s a b))) := by
  unfold Says
  have HST := Lib.hid (@way_start s a b 1 h)
  have HNX := Lib.hid fun n => @way_next s a b 1 n h
  have HEN := Lib.hid (@way_end s a b ha hb)
  have HLE := Lib.hid fun n => @way_le s a b n
  have hne := h.1
  obtain ⟨f, hf⟩ : ∃ f : Int, (fileD a b : Int) = f := ⟨_, rfl⟩
  have hr : (rankD a b : Int) = 0 := by unfold rankD; have := h.2; omega
  have hf0 : f ≠ 0 := by rw [← hf]; unfold fileD; have := h.2; omega
  have Hf := Lib.hid hf
  have Hr := Lib.hid hr
  clear hf hr h
  rcases Nat.lt_or_gt_of_ne hne with hlt | hlt
  all_goals
    clear hne
    go_enter Tryz.func179, Tryz.ntmps179
    go_wp2_with fail
    refine (away_is a b _ _ _ ha hb Hf.out Hr.out).mono ?_
    rintro e w1 ⟨rfl, rfl⟩
    go_wp2_with fail
    go_loop [10, 11] (fun c i => ∃ n : Nat, Hid (OnWay 1 a b n) ∧ i = .int .i64 n ∧ c = .int .i64 (wayN s a b n)) (fun _ i => 90 - (intOf i).toNat)
    case atStart => exact ⟨min a b + 1, HST.out.1, by congr 1; omega, by rw [HST.out.2]; rfl⟩
    case round =>
      obtain ⟨n, hn, rfl, rfl⟩ := hrel
      have hn1 := hn.out.1
      have hn2 := hn.out.2.1
      have hle := HLE.out n
      by_cases hend : n < max a b
      · obtain ⟨x, hx⟩ : ∃ x, bAt s n = x := ⟨_, rfl⟩
        have hks : n < s.size := by omega
        have hbk : s[n].toNat = x := (bAt_eq s n hks).trans hx
        have HN := Lib.hid (HNX.out n hn.out hend)
        rw [hx] at HN
        have hn3 := HN.out.1.2.1
        by_cases h46 : x = 46
        · have e46 : ((x : Int) != 46) = false := by rw [h46]; rfl
          clear hx h46
          go_wp2
          go_round
          case rel => exact ⟨n + 1, HN.out.1, by go_num, by rw [HN.out.2, if_pos (by simp at e46; omega)]⟩
          case measure => simp [intOf]; omega
        · have e46 : ((x : Int) != 46) = true := by rw [bne_iff_ne]; omega
          clear hx
          go_wp2
          go_round
          case rel => exact ⟨n + 1, HN.out.1, by go_num, by rw [HN.out.2, if_neg h46]; go_num⟩
          case measure => simp [intOf]; omega
      · obtain rfl : n = max a b := by omega
        have K : Hid (wayN s a b (max a b) = betweenN s a b) := HEN
        go_wp2
        go_ret
        exact ⟨by rw [K.out]; rfl, rfl⟩
theorem qbetween_any (s : ByteArray) (a b : Nat) (w : World) (hs : 90 ≤ s.size) (ha : a < 90) (hb : b < 90) :
    Calls Tryz.prog 179 #[.string s, .int .i64 (a : Int), .int .i64 (b : Int)] w (Says w (.int .i64 (betweenI s a b))) := by
  by_cases h : a = b ∨ (a / 9 ≠ b / 9 ∧ a % 9 ≠ b % 9)
  · rw [betweenI_none h]
    exact qbetween_none s a b w ha hb h
  · by_cases h9 : a % 9 = b % 9
    · have hst : StepB a b 9 := ⟨by omega, .inr ⟨rfl, h9⟩⟩
      rw [betweenI_step hst]
      exact qbetween_9 s a b w hs ha hb hst
    · have hst : StepB a b 1 := ⟨by omega, .inl ⟨rfl, by omega⟩⟩
      rw [betweenI_step hst]
      exact qbetween_1 s a b w hs ha hb hst
theorem qbetween_is (s : ByteArray) (a b : Nat) (k : Int) (w : World) (hs : 90 ≤ s.size) (ha : a < 90) (hb : b < 90) (h : betweenI s a b = k) :
    Calls Tryz.prog 179 #[.string s, .int .i64 (a : Int), .int .i64 (b : Int)] w (Says w (.int .i64 k)) := by subst h; exact qbetween_any s a b w hs ha hb
end Go.Proofs.YtpogpjebhnoncaaGreatDoor
namespace Go.Proofs.YtpogpjebhnoncaaGreatDoor
open Go.RowKit Go.Shelf
open M (S)
set_option maxHeartbeats 4000000 in
theorem goes_K (s : ByteArray) (a b c : Nat) (f r : Int) (w : World) (hs : 90 ≤ s.size) (ha : a < 90) (hb : b < 90) (hbk : s[a].toNat = c) (hk : kindN c = 75) (hf : (fileD a b : Int) = f) (hr : (rankD a b : Int) = r) :
    Calls Tryz.prog 228 #[.string s, .int .i64 (a : Int), .int .i64 (b : Int)] w (Gives w (.bool ((f + r == 1) && mayB c (b : Int)))) := by
  unfold Gives
  have h0 : 0 ≤ f ∧ f ≤ 8 ∧ 0 ≤ r ∧ r ≤ 9 := by unfold fileD at hf; unfold rankD at hr; omega
  obtain ⟨f0, f8, r0, r9⟩ := h0
  have Hf := Lib.hid hf
  have Hr := Lib.hid hr
  have Hk := Lib.hid hk
  clear hf hr hk
  cases hq : (f + r == 1)
  · have K := Lib.hid (Bool.false_and (mayB c (b : Int)))
    go_enter Tryz.func228, Tryz.ntmps228
    go_wp2_with fail
    refine (away_is a b _ _ _ ha hb Hf.out Hr.out).mono ?_
    rintro e w1 ⟨rfl, rfl⟩
    go_wp2_with fail
    refine (kind_is c 75 _ Hk.out).mono ?_
    rintro e w1 ⟨rfl, rfl⟩
    go_wp2
    go_ret
    exact ⟨by first | rfl | (rw [K.out]; rfl), Below.refl _ _⟩
  · cases hm : mayB c (b : Int)
    · have Hm := Lib.hid hm
      have K := Lib.hid (Bool.true_and false)
      clear hm
      go_enter Tryz.func228, Tryz.ntmps228
      go_wp2_with fail
      refine (away_is a b _ _ _ ha hb Hf.out Hr.out).mono ?_
      rintro e w1 ⟨rfl, rfl⟩
      go_wp2_with fail
      refine (kind_is c 75 _ Hk.out).mono ?_
      rintro e w1 ⟨rfl, rfl⟩
      go_wp2_with fail
      refine (may_is c _ false _ Hm.out).mono ?_
      rintro e w1 ⟨rfl, hb⟩
      go_wp2
      go_ret
      exact ⟨by first | rfl | (rw [K.out]; rfl), hb⟩
    · have Hm := Lib.hid hm
      have K := Lib.hid (Bool.true_and true)
      clear hm
      go_enter Tryz.func228, Tryz.ntmps228
      go_wp2_with fail
      refine (away_is a b _ _ _ ha hb Hf.out Hr.out).mono ?_
      rintro e w1 ⟨rfl, rfl⟩
      go_wp2_with fail
      refine (kind_is c 75 _ Hk.out).mono ?_
      rintro e w1 ⟨rfl, rfl⟩
      go_wp2_with fail
      refine (may_is c _ true _ Hm.out).mono ?_
      rintro e w1 ⟨rfl, hb⟩
      go_wp2
      go_ret
      exact ⟨by first | rfl | (rw [K.out]; rfl), hb⟩
set_option maxHeartbeats 4000000 in
theorem goes_A (s : ByteArray) (a b c : Nat) (f r : Int) (w : World) (hs : 90 ≤ s.size) (ha : a < 90) (hb : b < 90) (hbk : s[a].toNat = c) (hk : kindN c = 65) (hf : (fileD a b : Int) = f) (hr : (rankD a b : Int) = r) :
    Calls Tryz.prog 228 #[.string s, .int .i64 (a : Int), .int .i64 (b : Int)] w (Gives w (.bool ((f == 1) && (r == 1) && mayB c (b : Int)))) := by
  unfold Gives
  have h0 : 0 ≤ f ∧ f ≤ 8 ∧ 0 ≤ r ∧ r ≤ 9 := by unfold fileD at hf; unfold rankD at hr; omega
  obtain ⟨f0, f8, r0, r9⟩ := h0
  have Hf := Lib.hid hf
  have Hr := Lib.hid hr
  have Hk := Lib.hid hk
  clear hf hr hk
  cases h1 : (f == 1)
  · have K := Lib.hid (show (false && (r == 1) && mayB c (b : Int)) = false by simp)
    go_enter Tryz.func228, Tryz.ntmps228
    go_wp2_with fail
    refine (away_is a b _ _ _ ha hb Hf.out Hr.out).mono ?_
    rintro e w1 ⟨rfl, rfl⟩
    go_wp2_with fail
    refine (kind_is c 65 _ Hk.out).mono ?_
    rintro e w1 ⟨rfl, rfl⟩
    go_wp2
    go_ret
    exact ⟨by first | rfl | (rw [K.out]; rfl), Below.refl _ _⟩
  cases h2 : (r == 1)
  · have K := Lib.hid (show (true && false && mayB c (b : Int)) = false by simp)
    go_enter Tryz.func228, Tryz.ntmps228
    go_wp2_with fail
    refine (away_is a b _ _ _ ha hb Hf.out Hr.out).mono ?_
    rintro e w1 ⟨rfl, rfl⟩
    go_wp2_with fail
    refine (kind_is c 65 _ Hk.out).mono ?_
    rintro e w1 ⟨rfl, rfl⟩
    go_wp2
    go_ret
    exact ⟨by first | rfl | (rw [K.out]; rfl), Below.refl _ _⟩
  cases hm : mayB c (b : Int)
  · have Hm := Lib.hid hm
    have K := Lib.hid (show (true && true && false) = false by rfl)
    clear hm
    go_enter Tryz.func228, Tryz.ntmps228
    go_wp2_with fail
    refine (away_is a b _ _ _ ha hb Hf.out Hr.out).mono ?_
    rintro e w1 ⟨rfl, rfl⟩
    go_wp2_with fail
    refine (kind_is c 65 _ Hk.out).mono ?_
    rintro e w1 ⟨rfl, rfl⟩
    go_wp2_with fail
    refine (may_is c _ false _ Hm.out).mono ?_
    rintro e w1 ⟨rfl, hb⟩
    go_wp2
    go_ret
    exact ⟨by first | rfl | (rw [K.out]; rfl), hb⟩
  · have Hm := Lib.hid hm
    have K := Lib.hid (show (true && true && true) = true by rfl)
    clear hm
    go_enter Tryz.func228, Tryz.ntmps228
    go_wp2_with fail
    refine (away_is a b _ _ _ ha hb Hf.out Hr.out).mono ?_
    rintro e w1 ⟨rfl, rfl⟩
    go_wp2_with fail
    refine (kind_is c 65 _ Hk.out).mono ?_
    rintro e w1 ⟨rfl, rfl⟩
    go_wp2_with fail
    refine (may_is c _ true _ Hm.out).mono ?_
    rintro e w1 ⟨rfl, hb⟩
    go_wp2
    go_ret
    exact ⟨by first | rfl | (rw [K.out]; rfl), hb⟩
set_option maxHeartbeats 4000000 in
theorem goes_B (s : ByteArray) (a b c : Nat) (f r : Int) (w : World) (hs : 90 ≤ s.size) (ha : a < 90) (hb : b < 90) (hbk : s[a].toNat = c) (hk : kindN c = 66) (hf : (fileD a b : Int) = f) (hr : (rankD a b : Int) = r) :
    Calls Tryz.prog 228 #[.string s, .int .i64 (a : Int), .int .i64 (b : Int)] w (Gives w (.bool ((f == 2) && (r == 2) && mayB c (b : Int) && (bAt s ((a + b) / 2) == 46)))) := by
  unfold Gives
  have h0 : 0 ≤ f ∧ f ≤ 8 ∧ 0 ≤ r ∧ r ≤ 9 := by unfold fileD at hf; unfold rankD at hr; omega
  obtain ⟨f0, f8, r0, r9⟩ := h0
  have Hf := Lib.hid hf
  have Hr := Lib.hid hr
  have Hk := Lib.hid hk
  clear hf hr hk
  obtain ⟨x, hx⟩ : ∃ x, bAt s ((a + b) / 2) = x := ⟨_, rfl⟩
  have hks : (a + b) / 2 < s.size := by omega
  have hbm : s[(a + b) / 2].toNat = x := (bAt_eq s ((a + b) / 2) hks).trans hx
  rw [hx]
  have hX : (x == 46) = ((x : Int) == 46) := by rw [Bool.eq_iff_iff, beq_iff_eq, beq_iff_eq]; omega
  rw [hX]
  have HX := Lib.hid hX
  clear hx hX
  cases h1 : (f == 2)
  · have K := Lib.hid (show (false && (r == 2) && mayB c (b : Int) && ((x : Int) == 46)) = false by simp)
    go_enter Tryz.func228, Tryz.ntmps228
    go_wp2_with fail
    refine (away_is a b _ _ _ ha hb Hf.out Hr.out).mono ?_
    rintro e w1 ⟨rfl, rfl⟩
    go_wp2_with fail
    refine (kind_is c 66 _ Hk.out).mono ?_
    rintro e w1 ⟨rfl, rfl⟩
    go_wp2
    go_ret
    exact ⟨by first | rfl | (rw [K.out]; rfl), Below.refl _ _⟩
  cases h2 : (r == 2)
  · have K := Lib.hid (show (true && false && mayB c (b : Int) && ((x : Int) == 46)) = false by simp)
    go_enter Tryz.func228, Tryz.ntmps228
    go_wp2_with fail
    refine (away_is a b _ _ _ ha hb Hf.out Hr.out).mono ?_
    rintro e w1 ⟨rfl, rfl⟩
    go_wp2_with fail
    refine (kind_is c 66 _ Hk.out).mono ?_
    rintro e w1 ⟨rfl, rfl⟩
    go_wp2
    go_ret
    exact ⟨by first | rfl | (rw [K.out]; rfl), Below.refl _ _⟩
  cases hm : mayB c (b : Int)
  · have Hm := Lib.hid hm
    have K := Lib.hid (show (true && true && false && ((x : Int) == 46)) = false by simp)
    clear hm
    go_enter Tryz.func228, Tryz.ntmps228
    go_wp2_with fail
    refine (away_is a b _ _ _ ha hb Hf.out Hr.out).mono ?_
    rintro e w1 ⟨rfl, rfl⟩
    go_wp2_with fail
    refine (kind_is c 66 _ Hk.out).mono ?_
    rintro e w1 ⟨rfl, rfl⟩
    go_wp2_with fail
    refine (may_is c _ false _ Hm.out).mono ?_
    rintro e w1 ⟨rfl, hb⟩
    go_wp2
    go_ret
    exact ⟨by first | rfl | (rw [K.out]; rfl), hb⟩
  · have Hm := Lib.hid hm
    have K := Lib.hid (show (true && true && true && ((x : Int) == 46)) = ((x : Int) == 46) by rfl)
    clear hm
    go_enter Tryz.func228, Tryz.ntmps228
    go_wp2_with fail
    refine (away_is a b _ _ _ ha hb Hf.out Hr.out).mono ?_
    rintro e w1 ⟨rfl, rfl⟩
    go_wp2_with fail
    refine (kind_is c 66 _ Hk.out).mono ?_
    rintro e w1 ⟨rfl, rfl⟩
    go_wp2_with fail
    refine (may_is c _ true _ Hm.out).mono ?_
    rintro e w1 ⟨rfl, hb⟩
    go_wp2
    go_ret
    exact ⟨by first | rfl | (rw [K.out]; rfl), hb⟩
set_option maxHeartbeats 4000000 in
theorem goes_R (s : ByteArray) (a b c : Nat) (f r : Int) (w : World) (hs : 90 ≤ s.size) (ha : a < 90) (hb : b < 90) (hbk : s[a].toNat = c) (hk : kindN c = 82) (hf : (fileD a b : Int) = f) (hr : (rankD a b : Int) = r) :
    Calls Tryz.prog 228 #[.string s, .int .i64 (a : Int), .int .i64 (b : Int)] w (Gives w (.bool ((betweenI s a b == 0)))) := by
  unfold Gives
  have h0 : 0 ≤ f ∧ f ≤ 8 ∧ 0 ≤ r ∧ r ≤ 9 := by unfold fileD at hf; unfold rankD at hr; omega
  obtain ⟨f0, f8, r0, r9⟩ := h0
  have Hf := Lib.hid hf
  have Hr := Lib.hid hr
  have Hk := Lib.hid hk
  clear hf hr hk
  obtain ⟨n, hn⟩ : ∃ n, betweenI s a b = n := ⟨_, rfl⟩
  have HN := Lib.hid hn
  rw [hn]
  clear hn
  have K : Hid (n = n) := rfl
  go_enter Tryz.func228, Tryz.ntmps228
  go_wp2_with fail
  refine (away_is a b _ _ _ ha hb Hf.out Hr.out).mono ?_
  rintro e w1 ⟨rfl, rfl⟩
  go_wp2_with fail
  refine (kind_is c 82 _ Hk.out).mono ?_
  rintro e w1 ⟨rfl, rfl⟩
  go_wp2_with fail
  refine (qbetween_is s a b _ _ hs ha hb HN.out).mono ?_
  rintro e w1 ⟨rfl, rfl⟩
  go_wp2
  go_ret
  exact ⟨by first | rfl | (rw [K.out]; rfl), Below.refl _ _⟩
theorem horse_r {s : ByteArray} {a b : Nat} (hf : fileD a b = 1) (hr : rankD a b = 2) : horseB s a b = (bAt s (legR a b) == 46) := by
  unfold horseB
  rw [hf, hr]
  simp
theorem horse_f {s : ByteArray} {a b : Nat} (hf : fileD a b = 2) (hr : rankD a b = 1) : horseB s a b = (bAt s (legF a b) == 46) := by
  unfold horseB
  rw [hf, hr]
  simp
theorem horse_no {s : ByteArray} {a b : Nat} (h1 : ¬ (fileD a b = 1 ∧ rankD a b = 2)) (h2 : ¬ (fileD a b = 2 ∧ rankD a b = 1)) : horseB s a b = false := by
  unfold horseB
  cases e : (fileD a b == 1 && rankD a b == 2 && (bAt s (legR a b) == 46)) || (fileD a b == 2 && rankD a b == 1 && (bAt s (legF a b) == 46))
  · rfl
  · simp only [Bool.or_eq_true, Bool.and_eq_true, beq_iff_eq] at e
    omega
theorem mul_two {f r : Int} (f0 : 0 ≤ f) (f8 : f ≤ 8) (r0 : 0 ≤ r) (r9 : r ≤ 9) (h1 : ¬ (f = 1 ∧ r = 2)) (h2 : ¬ (f = 2 ∧ r = 1)) : (f * r == 2) = false ∧ 0 ≤ f * r ∧ f * r ≤ 72 := by
  have hf : f = 0 ∨ f = 1 ∨ f = 2 ∨ f = 3 ∨ f = 4 ∨ f = 5 ∨ f = 6 ∨ f = 7 ∨ f = 8 := by omega
  rw [beq_eq_false_iff_ne]
  rcases hf with rfl | rfl | rfl | rfl | rfl | rfl | rfl | rfl | rfl <;> omega
set_option maxHeartbeats 4000000 in
theorem goes_N (s : ByteArray) (a b c : Nat) (w : World) (hs : 90 ≤ s.size) (ha : a < 90) (hb : b < 90) (hbk : s[a].toNat = c) (hk : kindN c = 78) :
    Calls Tryz.prog 228 #[.string s, .int .i64 (a : Int), .int .i64 (b : Int)] w (Gives w (.bool (horseB s a b))) := by
  unfold Gives
  have Hk := Lib.hid hk
  clear hk
  by_cases h1 : fileD a b = 1 ∧ rankD a b = 2
  · obtain ⟨hf, hr⟩ := h1
    have hl := (legR_back ha hb hr).2
    have K0 := Lib.hid (@horse_r s a b hf hr)
    have L := Lib.hid fun W => leg_r a b W ha hb hf hr
    have Hf : Hid ((fileD a b : Int) = 1) := by show _ = _; omega
    have Hr : Hid ((rankD a b : Int) = 2) := by show _ = _; omega
    clear hf hr
    generalize legR a b = l at hl K0 L
    obtain ⟨x, hx⟩ : ∃ x, bAt s l = x := ⟨_, rfl⟩
    have hks : l < s.size := by omega
    have hbl : s[l].toNat = x := (bAt_eq s l hks).trans hx
    have K : Hid (horseB s a b = ((x : Int) == 46)) := by show _ = _; rw [K0.out, hx, Bool.eq_iff_iff, beq_iff_eq, beq_iff_eq]; omega
    clear hx K0
    go_enter Tryz.func228, Tryz.ntmps228
    go_wp2_with fail
    refine (away_is a b _ _ _ ha hb Hf.out Hr.out).mono ?_
    rintro e w1 ⟨rfl, rfl⟩
    go_wp2_with fail
    refine (kind_is c 78 _ Hk.out).mono ?_
    rintro e w1 ⟨rfl, rfl⟩
    go_wp2_with fail
    refine (L.out _).mono ?_
    rintro e w1 ⟨rfl, rfl⟩
    go_wp2
    go_ret
    exact ⟨by rw [K.out]; rfl, Below.refl _ _⟩
  by_cases h2 : fileD a b = 2 ∧ rankD a b = 1
  · obtain ⟨hf, hr⟩ := h2
    have hl := (legF_back ha hb hf).2
    have K0 := Lib.hid (@horse_f s a b hf hr)
    have L := Lib.hid fun W => leg_f a b W ha hb hf hr
    have Hf : Hid ((fileD a b : Int) = 2) := by show _ = _; omega
    have Hr : Hid ((rankD a b : Int) = 1) := by show _ = _; omega
    clear hf hr h1
    generalize legF a b = l at hl K0 L
    obtain ⟨x, hx⟩ : ∃ x, bAt s l = x := ⟨_, rfl⟩
    have hks : l < s.size := by omega
    have hbl : s[l].toNat = x := (bAt_eq s l hks).trans hx
    have K : Hid (horseB s a b = ((x : Int) == 46)) := by show _ = _; rw [K0.out, hx, Bool.eq_iff_iff, beq_iff_eq, beq_iff_eq]; omega
    clear hx K0
    go_enter Tryz.func228, Tryz.ntmps228
    go_wp2_with fail
    refine (away_is a b _ _ _ ha hb Hf.out Hr.out).mono ?_
    rintro e w1 ⟨rfl, rfl⟩
    go_wp2_with fail
    refine (kind_is c 78 _ Hk.out).mono ?_
    rintro e w1 ⟨rfl, rfl⟩
    go_wp2_with fail
    refine (L.out _).mono ?_
    rintro e w1 ⟨rfl, rfl⟩
    go_wp2
    go_ret
    exact ⟨by rw [K.out]; rfl, Below.refl _ _⟩
  · have K := Lib.hid (@horse_no s a b h1 h2)
    obtain ⟨f, hf⟩ : ∃ f : Int, (fileD a b : Int) = f := ⟨_, rfl⟩
    obtain ⟨r, hr⟩ : ∃ r : Int, (rankD a b : Int) = r := ⟨_, rfl⟩
    have h0 : 0 ≤ f ∧ f ≤ 8 ∧ 0 ≤ r ∧ r ≤ 9 := by unfold fileD at hf; unfold rankD at hr; omega
    obtain ⟨hm, hm0, hm1⟩ := mul_two h0.1 h0.2.1 h0.2.2.1 h0.2.2.2 (by omega) (by omega)
    have Hf := Lib.hid hf
    have Hr := Lib.hid hr
    clear hf hr h1 h2
    go_enter Tryz.func228, Tryz.ntmps228
    go_wp2_with fail
    refine (away_is a b _ _ _ ha hb Hf.out Hr.out).mono ?_
    rintro e w1 ⟨rfl, rfl⟩
    go_wp2_with fail
    refine (kind_is c 78 _ Hk.out).mono ?_
    rintro e w1 ⟨rfl, rfl⟩
    go_wp2
    go_ret
    exact ⟨by rw [K.out]; rfl, Below.refl _ _⟩
set_option maxHeartbeats 4000000 in
theorem goes_C (s : ByteArray) (a b c : Nat) (f r : Int) (w : World) (hs : 90 ≤ s.size) (ha : a < 90) (hb : b < 90) (hbk : s[a].toNat = c) (hk : kindN c = 67) (hf : (fileD a b : Int) = f) (hr : (rankD a b : Int) = r) :
    Calls Tryz.prog 228 #[.string s, .int .i64 (a : Int), .int .i64 (b : Int)] w (Gives w (.bool (betweenI s a b == if bAt s b = 46 then 0 else 1))) := by
  unfold Gives
  have Hf := Lib.hid hf
  have Hr := Lib.hid hr
  have Hk := Lib.hid hk
  clear hf hr hk
  obtain ⟨n, hn⟩ : ∃ n, betweenI s a b = n := ⟨_, rfl⟩
  obtain ⟨x, hx⟩ : ∃ x, bAt s b = x := ⟨_, rfl⟩
  have hks : b < s.size := by omega
  have hbl : s[b].toNat = x := (bAt_eq s b hks).trans hx
  obtain ⟨j, hj⟩ : ∃ j : Int, (if x = 46 then 0 else 1) = j := ⟨_, rfl⟩
  rw [hn, hx, hj]
  have HN := Lib.hid hn
  have HJ := Lib.hid hj
  clear hn hx hj
  go_enter Tryz.func228, Tryz.ntmps228
  go_wp2_with fail
  refine (away_is a b _ _ _ ha hb Hf.out Hr.out).mono ?_
  rintro e w1 ⟨rfl, rfl⟩
  go_wp2_with fail
  refine (kind_is c 67 _ Hk.out).mono ?_
  rintro e w1 ⟨rfl, rfl⟩
  go_wp2_with fail
  go_region_with (first | (go_at_call 179; refine (qbetween_is s a b _ _ hs ha hb HN.out).mono ?_; rintro e w1 ⟨rfl, rfl⟩) | (go_at_call 261; refine (jumped_is x _ _ HJ.out).mono ?_; rintro e w1 ⟨rfl, rfl⟩))
  all_goals go_wp2
  all_goals
    go_ret
    exact ⟨rfl, (by repeat (first | exact Below.refl _ _ | (refine Below.setCell ?_ (by first | omega | (simp; done) | (simp; omega) | (simp at *; omega)) _) | (refine Below.alloc ?_ (by first | omega | (simp; done) | (simp; omega) | (simp at *; omega)) _) | refine Below.drew ?_ | (refine below_drewN ?_ _) | (refine Below.trans ?_ (Below.mono (by assumption) (by first | omega | (simp; done) | (simp; omega) | (simp at *; omega))))))⟩
theorem pawn_red {c a b : Nat} (h : sideN c = 0) : pawnB c a b = (b == a + 9 || (overB (a : Int) 0 && (a / 9 == b / 9) && (fileD a b == 1))) := by unfold pawnB; rw [h]; rfl
theorem pawn_black {c a b : Nat} (h : sideN c = 1) : pawnB c a b = (a == b + 9 || (overB (a : Int) 1 && (a / 9 == b / 9) && (fileD a b == 1))) := by unfold pawnB; rw [h]; rfl
set_option maxHeartbeats 4000000 in
theorem goes_P0 (s : ByteArray) (a b c : Nat) (f r : Int) (w : World) (hs : 90 ≤ s.size) (ha : a < 90) (hb : b < 90) (hbk : s[a].toNat = c) (hk : kindN c = 80) (hsd : sideN c = 0) (hf : (fileD a b : Int) = f) (hr : (rankD a b : Int) = r) :
    Calls Tryz.prog 228 #[.string s, .int .i64 (a : Int), .int .i64 (b : Int)] w (Gives w (.bool (pawnB c a b))) := by
  unfold Gives
  have hr2 : (a / 9 == b / 9) = (r == 0) := by rw [Bool.eq_iff_iff, beq_iff_eq, beq_iff_eq, ← hr]; unfold rankD; omega
  have hf2 : (fileD a b == 1) = (f == 1) := by rw [Bool.eq_iff_iff, beq_iff_eq, beq_iff_eq, ← hf]; omega
  have he : (b == a + 9) = ((b : Int) == (a : Int) + 9) := by rw [Bool.eq_iff_iff, beq_iff_eq, beq_iff_eq]; omega
  have Hf := Lib.hid hf
  have Hr := Lib.hid hr
  have Hk := Lib.hid hk
  have Hs := Lib.hid hsd
  have K0 := Lib.hid (pawn_red (a := a) (b := b) hsd)
  rw [hr2, hf2, he] at K0
  clear hf hr hk hsd hr2 hf2 he
  cases h1 : ((b : Int) == (a : Int) + 9)
  case true =>
    have K : Hid (pawnB c a b = true) := by show _ = _; rw [K0.out, h1]; rfl
    clear K0
    go_enter Tryz.func228, Tryz.ntmps228
    go_wp2_with fail
    refine (away_is a b _ _ _ ha hb Hf.out Hr.out).mono ?_
    rintro e w1 ⟨rfl, rfl⟩
    go_wp2_with fail
    refine (kind_is c 80 _ Hk.out).mono ?_
    rintro e w1 ⟨rfl, rfl⟩
    go_wp2_with fail
    refine (side_is c 0 _ Hs.out).mono ?_
    rintro e w1 ⟨rfl, rfl⟩
    go_wp2_with fail
    refine (ahead_red a _ ha).mono ?_
    rintro e w1 ⟨rfl, rfl⟩
    go_wp2
    go_ret
    exact ⟨by rw [K.out]; rfl, Below.refl _ _⟩
  cases h2 : (f == 1)
  case false =>
    have K : Hid (pawnB c a b = false) := by show _ = _; rw [K0.out, h1, h2]; simp
    clear K0
    go_enter Tryz.func228, Tryz.ntmps228
    go_wp2_with fail
    refine (away_is a b _ _ _ ha hb Hf.out Hr.out).mono ?_
    rintro e w1 ⟨rfl, rfl⟩
    go_wp2_with fail
    refine (kind_is c 80 _ Hk.out).mono ?_
    rintro e w1 ⟨rfl, rfl⟩
    go_wp2_with fail
    refine (side_is c 0 _ Hs.out).mono ?_
    rintro e w1 ⟨rfl, rfl⟩
    go_wp2_with fail
    refine (ahead_red a _ ha).mono ?_
    rintro e w1 ⟨rfl, rfl⟩
    go_wp2
    go_ret
    exact ⟨by rw [K.out]; rfl, Below.refl _ _⟩
  cases h3 : (r == 0)
  case false =>
    have K : Hid (pawnB c a b = false) := by show _ = _; rw [K0.out, h1, h2, h3]; simp
    clear K0
    go_enter Tryz.func228, Tryz.ntmps228
    go_wp2_with fail
    refine (away_is a b _ _ _ ha hb Hf.out Hr.out).mono ?_
    rintro e w1 ⟨rfl, rfl⟩
    go_wp2_with fail
    refine (kind_is c 80 _ Hk.out).mono ?_
    rintro e w1 ⟨rfl, rfl⟩
    go_wp2_with fail
    refine (side_is c 0 _ Hs.out).mono ?_
    rintro e w1 ⟨rfl, rfl⟩
    go_wp2_with fail
    refine (ahead_red a _ ha).mono ?_
    rintro e w1 ⟨rfl, rfl⟩
    go_wp2
    go_ret
    exact ⟨by rw [K.out]; rfl, Below.refl _ _⟩
  case true =>
    obtain ⟨o, ho⟩ : ∃ o, overB (a : Int) 0 = o := ⟨_, rfl⟩
    have Ho := Lib.hid ho
    have K : Hid (pawnB c a b = o) := by show _ = _; rw [K0.out, h1, h2, h3, ho]; cases o <;> rfl
    clear K0 ho
    go_enter Tryz.func228, Tryz.ntmps228
    go_wp2_with fail
    refine (away_is a b _ _ _ ha hb Hf.out Hr.out).mono ?_
    rintro e w1 ⟨rfl, rfl⟩
    go_wp2_with fail
    refine (kind_is c 80 _ Hk.out).mono ?_
    rintro e w1 ⟨rfl, rfl⟩
    go_wp2_with fail
    refine (side_is c 0 _ Hs.out).mono ?_
    rintro e w1 ⟨rfl, rfl⟩
    go_wp2_with fail
    refine (ahead_red a _ ha).mono ?_
    rintro e w1 ⟨rfl, rfl⟩
    go_wp2_with fail
    refine (over_is _ _ _ _ Ho.out).mono ?_
    rintro e w1 ⟨rfl, hb⟩
    go_wp2
    go_ret
    exact ⟨by rw [K.out]; rfl, hb⟩
set_option maxHeartbeats 4000000 in
theorem goes_P1 (s : ByteArray) (a b c : Nat) (f r : Int) (w : World) (hs : 90 ≤ s.size) (ha : a < 90) (hb : b < 90) (hbk : s[a].toNat = c) (hk : kindN c = 80) (hsd : sideN c = 1) (hf : (fileD a b : Int) = f) (hr : (rankD a b : Int) = r) :
    Calls Tryz.prog 228 #[.string s, .int .i64 (a : Int), .int .i64 (b : Int)] w (Gives w (.bool (pawnB c a b))) := by
  unfold Gives
  have hr2 : (a / 9 == b / 9) = (r == 0) := by rw [Bool.eq_iff_iff, beq_iff_eq, beq_iff_eq, ← hr]; unfold rankD; omega
  have hf2 : (fileD a b == 1) = (f == 1) := by rw [Bool.eq_iff_iff, beq_iff_eq, beq_iff_eq, ← hf]; omega
  have he : (a == b + 9) = ((b : Int) == (a : Int) - 9) := by rw [Bool.eq_iff_iff, beq_iff_eq, beq_iff_eq]; omega
  have Hf := Lib.hid hf
  have Hr := Lib.hid hr
  have Hk := Lib.hid hk
  have Hs := Lib.hid hsd
  have K0 := Lib.hid (pawn_black (a := a) (b := b) hsd)
  rw [hr2, hf2, he] at K0
  clear hf hr hk hsd hr2 hf2 he
  cases h1 : ((b : Int) == (a : Int) - 9)
  case true =>
    have K : Hid (pawnB c a b = true) := by show _ = _; rw [K0.out, h1]; rfl
    clear K0
    go_enter Tryz.func228, Tryz.ntmps228
    go_wp2_with fail
    refine (away_is a b _ _ _ ha hb Hf.out Hr.out).mono ?_
    rintro e w1 ⟨rfl, rfl⟩
    go_wp2_with fail
    refine (kind_is c 80 _ Hk.out).mono ?_
    rintro e w1 ⟨rfl, rfl⟩
    go_wp2_with fail
    refine (side_is c 1 _ Hs.out).mono ?_
    rintro e w1 ⟨rfl, rfl⟩
    go_wp2_with fail
    refine (ahead_black a _ ha).mono ?_
    rintro e w1 ⟨rfl, rfl⟩
    go_wp2
    go_ret
    exact ⟨by rw [K.out]; rfl, Below.refl _ _⟩
  cases h2 : (f == 1)
  case false =>
    have K : Hid (pawnB c a b = false) := by show _ = _; rw [K0.out, h1, h2]; simp
    clear K0
    go_enter Tryz.func228, Tryz.ntmps228
    go_wp2_with fail
    refine (away_is a b _ _ _ ha hb Hf.out Hr.out).mono ?_
    rintro e w1 ⟨rfl, rfl⟩
    go_wp2_with fail
    refine (kind_is c 80 _ Hk.out).mono ?_
    rintro e w1 ⟨rfl, rfl⟩
    go_wp2_with fail
    refine (side_is c 1 _ Hs.out).mono ?_
    rintro e w1 ⟨rfl, rfl⟩
    go_wp2_with fail
    refine (ahead_black a _ ha).mono ?_
    rintro e w1 ⟨rfl, rfl⟩
    go_wp2
    go_ret
    exact ⟨by rw [K.out]; rfl, Below.refl _ _⟩
  cases h3 : (r == 0)
  case false =>
    have K : Hid (pawnB c a b = false) := by show _ = _; rw [K0.out, h1, h2, h3]; simp
    clear K0
    go_enter Tryz.func228, Tryz.ntmps228
    go_wp2_with fail
    refine (away_is a b _ _ _ ha hb Hf.out Hr.out).mono ?_
    rintro e w1 ⟨rfl, rfl⟩
    go_wp2_with fail
    refine (kind_is c 80 _ Hk.out).mono ?_
    rintro e w1 ⟨rfl, rfl⟩
    go_wp2_with fail
    refine (side_is c 1 _ Hs.out).mono ?_
    rintro e w1 ⟨rfl, rfl⟩
    go_wp2_with fail
    refine (ahead_black a _ ha).mono ?_
    rintro e w1 ⟨rfl, rfl⟩
    go_wp2
    go_ret
    exact ⟨by rw [K.out]; rfl, Below.refl _ _⟩
  case true =>
    obtain ⟨o, ho⟩ : ∃ o, overB (a : Int) 1 = o := ⟨_, rfl⟩
    have Ho := Lib.hid ho
    have K : Hid (pawnB c a b = o) := by show _ = _; rw [K0.out, h1, h2, h3, ho]; cases o <;> rfl
    clear K0 ho
    go_enter Tryz.func228, Tryz.ntmps228
    go_wp2_with fail
    refine (away_is a b _ _ _ ha hb Hf.out Hr.out).mono ?_
    rintro e w1 ⟨rfl, rfl⟩
    go_wp2_with fail
    refine (kind_is c 80 _ Hk.out).mono ?_
    rintro e w1 ⟨rfl, rfl⟩
    go_wp2_with fail
    refine (side_is c 1 _ Hs.out).mono ?_
    rintro e w1 ⟨rfl, rfl⟩
    go_wp2_with fail
    refine (ahead_black a _ ha).mono ?_
    rintro e w1 ⟨rfl, rfl⟩
    go_wp2_with fail
    refine (over_is _ _ _ _ Ho.out).mono ?_
    rintro e w1 ⟨rfl, hb⟩
    go_wp2
    go_ret
    exact ⟨by rw [K.out]; rfl, hb⟩
theorem goes_no (s : ByteArray) (a b c : Nat) (f r : Int) (w : World) (hs : 90 ≤ s.size) (ha : a < 90) (hb : b < 90) (hbk : s[a].toNat = c) (hk : kindN c = 0) (hf : (fileD a b : Int) = f) (hr : (rankD a b : Int) = r) :
    Calls Tryz.prog 228 #[.string s, .int .i64 (a : Int), .int .i64 (b : Int)] w (Gives w (.bool false)) := by
  unfold Gives
  have Hf := Lib.hid hf
  have Hr := Lib.hid hr
  have Hk := Lib.hid hk
  clear hf hr hk
  go_enter Tryz.func228, Tryz.ntmps228
  go_wp2_with fail
  refine (away_is a b _ _ _ ha hb Hf.out Hr.out).mono ?_
  rintro e w1 ⟨rfl, rfl⟩
  go_wp2_with fail
  refine (kind_is c 0 _ Hk.out).mono ?_
  rintro e w1 ⟨rfl, rfl⟩
  go_wp2
  go_ret
  exact ⟨rfl, Below.refl _ _⟩
def goesV (s : ByteArray) (a b : Nat) : Bool := decide (0 ≤ sideN (bAt s a)) && goesB s (bAt s a) a b
theorem kind_none {c : Nat} (h : ¬ 0 ≤ sideN c) : kindN c = 0 := by
  rcases byte_cases c with ⟨kb, kr, _⟩ | rfl | rfl | rfl | rfl | rfl | rfl | rfl | rfl | rfl | rfl | rfl | rfl | rfl | rfl
  · simp [kindN, kb, kr]
  all_goals exact absurd (by decide) h
theorem line_zero {s : ByteArray} {a b : Nat} : (betweenI s a b == 0) = (lineB a b && (betweenN s a b == 0)) := by
  unfold betweenI
  cases lineB a b
  · rfl
  · rw [if_pos rfl, Bool.true_and, Bool.eq_iff_iff, beq_iff_eq, beq_iff_eq]
    exact Int.ofNat_inj
theorem line_cannon {s : ByteArray} {a b x : Nat} : (betweenI s a b == if x = 46 then 0 else 1) = (lineB a b && ((betweenN s a b == 0 && (x == 46)) || (betweenN s a b == 1 && (x != 46)))) := by
  unfold betweenI
  by_cases h : x = 46
  · subst h
    cases lineB a b
    · rfl
    · rw [if_pos rfl, if_pos rfl, Bool.eq_iff_iff]
      simp
  · have h' : (x == 46) = false := by rw [beq_eq_false_iff_ne]; exact h
    rw [if_neg h]
    cases lineB a b
    · rfl
    · rw [if_pos rfl, Bool.eq_iff_iff]
      simp [h', bne]
      omega
theorem file_one {a b : Nat} {n : Nat} : (((fileD a b : Nat) : Int) == (n : Int)) = (fileD a b == n) := by rw [Bool.eq_iff_iff, beq_iff_eq, beq_iff_eq]; omega
theorem rank_one {a b : Nat} {n : Nat} : (((rankD a b : Nat) : Int) == (n : Int)) = (rankD a b == n) := by rw [Bool.eq_iff_iff, beq_iff_eq, beq_iff_eq]; omega
theorem sum_one {a b : Nat} : (((fileD a b : Nat) : Int) + ((rankD a b : Nat) : Int) == 1) = (fileD a b + rankD a b == 1) := by rw [Bool.eq_iff_iff, beq_iff_eq, beq_iff_eq]; omega
theorem goes_any (s : ByteArray) (a b : Nat) (w : World) (hs : 90 ≤ s.size) (ha : a < 90) (hb : b < 90) :
    Calls Tryz.prog 228 #[.string s, .int .i64 (a : Int), .int .i64 (b : Int)] w (Gives w (.bool (goesV s a b))) := by
  have hk := bAt_eq s a (by omega)
  unfold goesV
  by_cases h : 0 ≤ sideN (bAt s a)
  · rw [decide_eq_true h, Bool.true_and]
    unfold goesB
    rcases kinds_of h with e | e | e | e | e | e | e
    · rw [if_pos e, ← sum_one]
      exact goes_K s a b _ _ _ w hs ha hb hk e rfl rfl
    · rw [if_neg (by omega), if_pos e, ← @file_one a b 1, ← @rank_one a b 1]
      exact goes_A s a b _ _ _ w hs ha hb hk e rfl rfl
    · rw [if_neg (by omega), if_neg (by omega), if_pos e, ← @file_one a b 2, ← @rank_one a b 2]
      exact goes_B s a b _ _ _ w hs ha hb hk e rfl rfl
    · rw [if_neg (by omega), if_neg (by omega), if_neg (by omega), if_pos e]
      exact goes_N s a b _ w hs ha hb hk e
    · rw [if_neg (by omega), if_neg (by omega), if_neg (by omega), if_neg (by omega), if_pos e, ← line_zero]
      exact goes_R s a b _ _ _ w hs ha hb hk e rfl rfl
    · rw [if_neg (by omega), if_neg (by omega), if_neg (by omega), if_neg (by omega), if_neg (by omega), if_pos e, ← line_cannon]
      exact goes_C s a b _ _ _ w hs ha hb hk e rfl rfl
    · rw [if_neg (by omega), if_neg (by omega), if_neg (by omega), if_neg (by omega), if_neg (by omega), if_neg (by omega)]
      rcases side_cases01 h with e1 | e1
      · exact goes_P0 s a b _ _ _ w hs ha hb hk e e1 rfl rfl
      · exact goes_P1 s a b _ _ _ w hs ha hb hk e e1 rfl rfl
  · rw [decide_eq_false h, Bool.false_and]
    exact goes_no s a b _ _ _ w hs ha hb hk (kind_none h) rfl rfl
theorem goes_is (s : ByteArray) (a b : Nat) (v : Bool) (w : World) (hs : 90 ≤ s.size) (ha : a < 90) (hb : b < 90) (h : goesV s a b = v) :
    Calls Tryz.prog 228 #[.string s, .int .i64 (a : Int), .int .i64 (b : Int)] w (Gives w (.bool v)) := by subst h; exact goes_any s a b w hs ha hb
end Go.Proofs.YtpogpjebhnoncaaGreatDoor
namespace Go.Proofs
open Go.Shelf
def Tryz.laysSlH6_f212_ren : Go.Shelf.Ren := ⟨fun | 6 => 212 | n => n, fun | 22 => 152 | 23 => 3 | 25 => 159 | 3 => 3 | 0 => 0 | 4 => 4 | n => n, fun | n => n⟩
theorem Tryz.laysSlH6_f212 : Go.Proofs.SlLaysH.n6 Tryz.prog Tryz.laysSlH6_f212_ren := {
  mixed := by kernel_rfl
  f6 := ⟨Tryz.f212.name, by decide, Tryz.func212.trans (congrArg some (by kernel_rfl))⟩
  t0 := Tryz.underlying0
  a0 := Tryz.isAgg0
  z0 := Tryz.sizeOf0
  v0 := Tryz.zeroValue0
  t3 := Tryz.underlying3
  a3 := Tryz.isAgg3
  z3 := Tryz.sizeOf3
  v3 := Tryz.zeroValue3
  t4 := Tryz.underlying4
  a4 := Tryz.isAgg4
  z4 := Tryz.sizeOf4
  v4 := Tryz.zeroValue4
  t22 := Tryz.underlying152
  a22 := Tryz.isAgg152
  z22 := Tryz.sizeOf152
  v22 := Tryz.zeroValue152
  a23 := Tryz.isAgg3
  z23 := Tryz.sizeOf3
  t25 := Tryz.underlying159
  a25 := Tryz.isAgg159
  z25 := Tryz.sizeOf159
  v25 := Tryz.zeroValue159 }
open Go.RowKit Go.Lib in
theorem Tryz.slices_IndexFunc {α : Type} [Inhabited α] (enc : α → Value) (p : α → Bool) (g : Nat) (lb : Array Value) (eg : ∀ args w, (callFunc g args).run Tryz.prog w = .ok (.enter g args) w) (b off n c : Nat) (zs : List α) (w : World) (hp : PredAt Tryz.prog g lb enc p w) (hz : n ≤ zs.length) (hbig : n ≤ 9223372036854775807) (hc : ∀ j, j < zs.length → w.cell? ⟨b, off + j, none⟩ = some (enc zs[j]!)) :
    Calls Tryz.prog 212 #[.slice (some ⟨b, off, none⟩) n c, .func (.func g) #[] lb] w fun e w' => e = .returned (.int .i64 (Lib.idxBy (fun _ y => p y) (zs.take n) default)) ∧ ∃ q, w' = w.drewN q := AnyE.slices_IndexFunc Tryz.laysSlH6_f212 enc p g lb eg b off n c zs w hp hz hbig hc
open Go.RowKit Go.Lib in
theorem Tryz.slices_IndexFunc_empty {α : Type} [Inhabited α] (a : Option Addr) (c : Nat) (fv : Value) (w : World) :
    Calls Tryz.prog 212 #[.slice a 0 c, fv] w fun e w' => e = .returned (.int .i64 (-1)) ∧ w' = w := AnyE.slices_IndexFunc_empty Tryz.laysSlH6_f212 a c fv w
def Tryz.laysSlH10_f168_ren : Go.Shelf.Ren := ⟨fun | 10 => 168 | 6 => 212 | n => n, fun | 22 => 152 | 23 => 3 | 25 => 159 | 3 => 3 | 4 => 4 | 0 => 0 | n => n, fun | n => n⟩
theorem Tryz.laysSlH10_f168 : Go.Proofs.SlLaysH.n10 Tryz.prog Tryz.laysSlH10_f168_ren := {
  mixed := by kernel_rfl
  f6 := ⟨Tryz.f212.name, by decide, Tryz.func212.trans (congrArg some (by kernel_rfl))⟩
  f10 := ⟨Tryz.f168.name, by decide, Tryz.func168.trans (congrArg some (by kernel_rfl))⟩
  t0 := Tryz.underlying0
  a0 := Tryz.isAgg0
  z0 := Tryz.sizeOf0
  v0 := Tryz.zeroValue0
  t3 := Tryz.underlying3
  a3 := Tryz.isAgg3
  z3 := Tryz.sizeOf3
  v3 := Tryz.zeroValue3
  t4 := Tryz.underlying4
  a4 := Tryz.isAgg4
  z4 := Tryz.sizeOf4
  v4 := Tryz.zeroValue4
  t22 := Tryz.underlying152
  a22 := Tryz.isAgg152
  z22 := Tryz.sizeOf152
  v22 := Tryz.zeroValue152
  a23 := Tryz.isAgg3
  z23 := Tryz.sizeOf3
  t25 := Tryz.underlying159
  a25 := Tryz.isAgg159
  z25 := Tryz.sizeOf159
  v25 := Tryz.zeroValue159 }
open Go.RowKit Go.Lib Go.Sort in
theorem Tryz.slices_DeleteFunc {α : Type} [Inhabited α] (enc : α → Value) (hO : OneCell enc) (p : α → Bool) (g : Nat) (lb : Array Value) (eg : ∀ args w, (callFunc g args).run Tryz.prog w = .ok (.enter g args) w) (zr : α) (v23 : ∀ w, (zeroValue 3).run Tryz.prog w = .ok (enc zr) w) (blk off cap : Nat) (d : Array α) (w : World) (hp : PredAt Tryz.prog g lb enc p w) (hpo : PredOver Tryz.prog g lb enc p blk off d.size w) (hH : Holds enc w blk off d) (hsz : d.size ≤ 9223372036854775807) (hcap : d.size ≤ cap) :
    Calls Tryz.prog 168 #[.slice (some ⟨blk, off, none⟩) d.size cap, .func (.func g) #[] lb] w fun e w' => e = .returned (.slice (some ⟨blk, off, none⟩) (d.toList.filter fun x => !p x).length cap) ∧ ∃ q, w' = putRow enc (Sort.ahead w q) blk off ((d.toList.filter fun x => !p x) ++ List.replicate (d.size - (d.toList.filter fun x => !p x).length) zr).toArray := AnyE.slices_DeleteFunc Tryz.laysSlH10_f168 enc hO p g lb eg zr v23 blk off cap d w hp hpo hH hsz hcap
end Go.Proofs
namespace Go.Proofs.YtpogpjebhnoncaaGreatDoor
open Go.RowKit Go.Shelf
open M (S)
def finL (q : Nat → Bool) : List (Fin 90) := (List.finRange 90).filter fun i => q i.val
abbrev fqv (x : Fin 90) : Value := .int .i64 (x.val : Int)
theorem finL_val (q : Nat → Bool) : (finL q).map (fun i => (i.val : Int)) = trues q 90 := by
  have h : (finL q).map Fin.val = (List.range 90).filter q := by
    unfold finL
    rw [← (show (List.finRange 90).map Fin.val = List.range 90 by decide +kernel), List.filter_map]
    rfl
  unfold trues
  rw [← h, List.map_map]
  rfl
theorem finL_vals (q : Nat → Bool) : (finL q).map fqv = (trues q 90).map iv := by
  rw [← finL_val, List.map_map]
  rfl
theorem finL_len (q : Nat → Bool) : (finL q).length = (trues q 90).length := by rw [← finL_val, List.length_map]
theorem finL_filter (q p : Nat → Bool) : ((finL q).filter fun i => !p i.val) = finL fun k => q k && !p k := by
  unfold finL
  rw [List.filter_filter]
  refine List.filter_congr fun i _ => ?_
  rw [Bool.and_comm]
theorem goes_own {s : ByteArray} {a k : Nat} : (goesV s a k && !(sideN (bAt s k) == sideN (bAt s a))) = canB s a k := by
  unfold goesV canB bne
  cases decide (0 ≤ sideN (bAt s a)) <;> cases (sideN (bAt s k) == sideN (bAt s a)) <;> simp
theorem own1_any (s : ByteArray) (x : Int) (k g0 g1 : Nat) (W : World) (hk : k < s.size) (c0 : W.cell? ⟨g0, 0, none⟩ = some (.string s)) (c1 : W.cell? ⟨g1, 0, none⟩ = some (.int .i64 x)) :
    Calls Tryz.prog 263 #[.int .i64 (k : Int), .pointer (some ⟨g0, 0, none⟩), .pointer (some ⟨g1, 0, none⟩)] W fun e w' => e = .returned (.bool (sideN (bAt s k) == x)) ∧ ∃ q, w' = W.drewN q := by
  obtain ⟨c, hc⟩ : ∃ c, bAt s k = c := ⟨_, rfl⟩
  have hbk : s[k].toNat = c := (bAt_eq s k hk).trans hc
  rw [hc]
  obtain ⟨y, hy⟩ : ∃ y, sideN c = y := ⟨_, rfl⟩
  have Hy := Lib.hid hy
  rw [hy]
  clear hc hy
  have HS := Lib.hid fun W => (side_is c _ W Hy.out).mono fun e w' (h : Says W _ e w') => (⟨h.1, h.2.symm⟩ : e = .returned (.int .i64 y) ∧ w' = W)
  go_enter Tryz.func263, Tryz.ntmps263
  go_wp2_with fail
  go_quiet ((go_at_call 185; exact Calls.quiet_of_same (HS.out _)))
  go_wp2
  go_ret
  exact ⟨rfl, nq, rfl⟩
theorem ownFrom_any (s : ByteArray) (a : Nat) (x : Int) (w : World) (ha : a < s.size) (hx : sideN (bAt s a) = x) :
    Calls Tryz.prog 229 #[.string s, .int .i64 (a : Int)] w fun e w' => e = .returned (.func (.func 263) #[] #[.pointer (some ⟨w.heap.size, 0, none⟩), .pointer (some ⟨w.heap.size + 1, 0, none⟩)]) ∧ Blk w' w.heap.size 9 #[.string s] ∧ Blk w' (w.heap.size + 1) 3 #[.int .i64 x] ∧ Below w.heap.size w w' := by
  obtain ⟨c, hc⟩ : ∃ c, bAt s a = c := ⟨_, rfl⟩
  have hbk : s[a].toNat = c := (bAt_eq s a ha).trans hc
  rw [hc] at hx
  have Hx := Lib.hid hx
  clear hc hx
  go_enter Tryz.func229, Tryz.ntmps229
  go_wp2_with fail
  refine (side_is c _ _ Hx.out).mono ?_
  rintro e w1 ⟨rfl, rfl⟩
  go_wp2
  go_ret
  exact ⟨rfl, (Blk.new _ _ _ rfl).alloc _, Blk.new _ _ _ (by simp), (by repeat (first | exact Below.refl _ _ | (refine Below.setCell ?_ (by first | omega | (simp; done) | (simp; omega) | (simp at *; omega)) _) | (refine Below.alloc ?_ (by first | omega | (simp; done) | (simp; omega) | (simp at *; omega)) _) | refine Below.drew ?_ | (refine below_drewN ?_ _) | (refine Below.trans ?_ (Below.mono (by assumption) (by first | omega | (simp; done) | (simp; omega) | (simp at *; omega))))))⟩
theorem blk_out {w w' : World} {g : Nat} {t : TypeId} {cs : Array Value} (h : Blk w g t cs) (hb : Below w.heap.size w w') : w'.cell? ⟨g, 0, none⟩ = cs[0]? := (h.next hb).cell 0
open Go.Lib Go.Sort in
theorem sorted_cell {α : Type} [Inhabited α] (enc : α → Value) (w : World) (blk off m B : Nat) (dk : Array α) (os : Array Obj) (hB : B < w.heap.size) (hne : B ≠ blk) : (sortWorld enc w blk off m dk os).cell? ⟨B, 0, none⟩ = w.cell? ⟨B, 0, none⟩ := by
  unfold sortWorld
  rw [cell?_grow _ _ _ (by show B < (putRow _ _ _ _ _).heap.size; rw [size_putRow]; exact hB), cell?_putRow_other _ _ blk off _ _ (Or.inl hne)]
  rfl
set_option maxHeartbeats 1000000 in
theorem delete_any (s : ByteArray) (x : Int) (q : Nat → Bool) (v : Value) (n g0 g1 base : Nat) (W0 W : World) (hs : 90 ≤ s.size) (hown : W.ownsRow base 3 1 v n ((finL q).map fqv)) (hB : Below base W0 W)
    (b0 : Blk W g0 9 #[.string s]) (b1 : Blk W g1 3 #[.int .i64 x]) (hne : ∀ k, v.ownBlock = some k → g0 ≠ k ∧ g1 ≠ k) :
    Calls Tryz.prog 168 #[v, .func (.func 263) #[] #[.pointer (some ⟨g0, 0, none⟩), .pointer (some ⟨g1, 0, none⟩)]] W fun e w' => ∃ A c, e = .returned (.slice A (finL fun k => q k && !(sideN (bAt s k) == x)).length c) ∧ Rd w' A ((finL fun k => q k && !(sideN (bAt s k) == x)).map fqv) ∧ Below base W0 w' ∧ (∀ ad, A = some ad → base ≤ ad.block) ∧ (finL fun k => q k && !(sideN (bAt s k) == x)).length ≤ c := by
  by_cases hv : v = .slice none 0 0
  · subst hv
    have hn : n = 0 := by
      rcases hown.2 with ⟨_, h⟩ | ⟨g, cap, cur, h, _⟩
      · exact h
      · injection h with h1
        cases h1
    have hl : finL q = [] := by
      have := hown.1
      rw [hn] at this
      simpa using this
    have hl2 : (finL fun k => q k && !(sideN (bAt s k) == x)) = [] := by rw [← finL_filter q fun k => sideN (bAt s k) == x, hl]; rfl
    rw [hl2]
    clear hl hl2 hown hn hne b0 b1
    go_enter Tryz.func168, Tryz.ntmps168
    go_wp2_with fail
    refine (Tryz.slices_IndexFunc_empty (α := Fin 90) none 0 _ _).mono ?_
    rintro e w1 ⟨rfl, rfl⟩
    go_wp2
    go_ret
    exact ⟨none, 0, rfl, fun j u hu => by simp at hu, hB, (fun _ h => by cases h), Nat.le_refl _⟩
  · obtain ⟨g, cap, rfl, hg, hgl, hcap, hmax, hlen, hH⟩ := Lib.holds_of_ownsRow (enc := fqv) hown hv
    obtain ⟨hne0, hne1⟩ := hne g rfl
    have eg : ∀ args w, (callFunc 263 args).run Tryz.prog w = .ok (.enter 263 args) w := enters_of Tryz.func263 (by kernel_rfl) rfl
    have hcon := Tryz.slices_DeleteFunc fqv (fun _ => rfl) (fun i : Fin 90 => sideN (bAt s i.val) == x) 263 #[.pointer (some ⟨g0, 0, none⟩), .pointer (some ⟨g1, 0, none⟩)] eg 0 Tryz.zeroValue3 g 0 cap (finL q).toArray W
      (fun W' k hb => own1_any s x k.val g0 g1 W' (by omega) (blk_out b0 hb) (blk_out b1 hb))
      (fun m os dk k _ => own1_any s x k.val g0 g1 _ (by omega)
        ((sorted_cell fqv W g 0 m g0 dk os b0.lt hne0).trans (b0.cell 0)) ((sorted_cell fqv W g 0 m g1 dk os b1.lt hne1).trans (b1.cell 0)))
      hH (by simp; unfold maxLen at hmax; omega) (by simp; omega)
    have hf : ((finL q).toArray.toList.filter fun i : Fin 90 => !(sideN (bAt s i.val) == x)) = finL fun k => q k && !(sideN (bAt s k) == x) := finL_filter q fun k => sideN (bAt s k) == x
    rw [hf, show (finL q).toArray.size = n by simpa using hlen] at hcon
    have hle : (finL fun k => q k && !(sideN (bAt s k) == x)).length ≤ n := by
      rw [← hf, ← hlen]
      exact List.length_filter_le _ _
    generalize (finL fun k => q k && !(sideN (bAt s k) == x)) = r at hcon hle ⊢
    refine hcon.mono ?_
    rintro e w' ⟨rfl, m, rfl⟩
    refine ⟨_, cap, rfl, ?_, Lib.below_putRow hB hg, (fun _ h => by cases h; exact hg), by omega⟩
    have h1 := Lib.ownsRow_putRow (q := m) (k := r.length) (ys := r ++ List.replicate (n - r.length) (0 : Fin 90)) hown (by simp; omega) hle
    rw [List.take_left' rfl] at h1
    exact Rd.own h1
theorem all_list (s : ByteArray) (a : Nat) : (finL fun k => goesV s a k && !(sideN (bAt s k) == sideN (bAt s a))).map fqv = (trues (fun b => canB s a b) 90).map iv ∧ (finL fun k => goesV s a k && !(sideN (bAt s k) == sideN (bAt s a))).length = (trues (fun b => canB s a b) 90).length := by
  have h : (fun k => goesV s a k && !(sideN (bAt s k) == sideN (bAt s a))) = fun b => canB s a b := funext fun k => goes_own
  rw [h]
  exact ⟨finL_vals _, finL_len _⟩
theorem own_next {w w1 : World} {base : Nat} {e : TypeId} {size : Nat} {v : Value} {n : Nat} {xs : List Value} (h : w.ownsRow base e size v n xs) (hb : Below w.heap.size w w1) : w1.ownsRow base e size v n xs := by
  refine ⟨h.1, ?_⟩
  rcases h.2 with h2 | ⟨g, cap, cur, hv, hg, hc, hr⟩
  · exact .inl h2
  · exact .inr ⟨g, cap, cur, hv, hg, (hb.block g (Array.getElem?_eq_some_iff.1 hc).1).trans hc, hr⟩
set_option maxRecDepth 100000 in
set_option maxHeartbeats 4000000 in
theorem all_new (s : ByteArray) (m : Nat) (w : World) (hb : isB s = true) (hm : m < 90) : Calls Tryz.prog 211 #[.string s, .int .i64 (m : Int)] w fun e w' => ∃ A c, e = .returned (.slice A (trues (fun b => canB s m b) 90).length c) ∧ Rd w' A ((trues (fun b => canB s m b) 90).map iv) ∧ Below w.heap.size w w' ∧ (∀ ad, A = some ad → w.heap.size ≤ ad.block) ∧ (trues (fun b => canB s m b) 90).length ≤ c := by
  have hz := isB_size hb
  have hz1 : 90 ≤ s.size := by omega
  have B := Lib.hid hb
  have S1 : Hid (sqI (m : Int) = true) := sqI_true (by omega)
  obtain ⟨i0, hi, hy0, hy1, hy2⟩ := info_parts info_int
  have AL := Lib.hid (all_list s m)
  obtain ⟨p, hp⟩ : ∃ p : Nat → Bool, p = fun k : Nat => goesV s m k := ⟨_, rfl⟩
  have Hp := Lib.hid hp
  clear hp hb hz
  go_enter Tryz.func211, Tryz.ntmps211
  go_wp2_with fail
  refine (qsq_is _ true _ S1.out).mono ?_
  rintro e w1 ⟨rfl, rfl⟩
  go_wp2_with fail
  refine (is_is s true _ B.out).mono ?_
  rintro e w1 ⟨rfl, rfl⟩
  go_wp2_with fail
  go_loopw [5, 6, 15] (fun v _ i wr => ∃ k : Nat, k ≤ 90 ∧ i = .int .i64 k ∧ wr.ownsRow w.heap.size 3 1 v (trues p k).length ((trues p k).map iv) ∧ Below w.heap.size w wr) (fun _ _ i _ => 90 - (intOf i).toNat)
  case atStart => exact ⟨0, by omega, rfl, by simpa [trues] using World.ownsRow_nil w w.heap.size 3 1, Below.refl _ _⟩
  case round =>
    obtain ⟨k, hk, rfl, hown, hB⟩ := hrel
    have hbs := hB.size
    have hle := trues_le p k
    by_cases hlt : k < 90
    · have hst := trues_succ p k
      have hpk : Hid (goesV s m k = p k) := by show _ = _; rw [Hp.out]
      cases hb : p k
      · rw [hb] at hst
        have Hs := Lib.hid hst
        have Hm : Hid (goesV s m k = false) := by show _ = _; rw [hpk.out, hb]
        clear hst hb hpk
        go_wp2_with fail
        refine (goes_is s m k false _ hz1 hm hlt Hm.out).mono ?_
        rintro e w1 ⟨rfl, hb1⟩
        go_wp2_with fail
        go_roundw
        case rel => exact ⟨k + 1, by omega, by go_num, by rw [Hs.out]; exact own_next hown hb1, hB.trans (hb1.mono hbs)⟩
        case measure => simp [intOf]; omega
      · rw [hb] at hst
        have Hs := Lib.hid hst
        have Hm : Hid (goesV s m k = true) := by show _ = _; rw [hpk.out, hb]
        clear hst hb hpk
        go_wp2_with fail
        refine (goes_is s m k true _ hz1 hm hlt Hm.out).mono ?_
        rintro e w1 ⟨rfl, hb1⟩
        replace hown := own_next hown hb1
        replace hB := hB.trans (hb1.mono hbs)
        replace hbs := hB.size
        clear hb1
        go_wp2_with (at_builtin; refine wpList_append_own _ rfl _ _ 152 rfl w.heap.size 3 i0 (.int .i64 0) 1 8 Tryz.underlying152 hi hy0 hy1 hy2 rfl (by decide) _ _ _ rfl (hown.alloc _) ⟨w1.heap.size, 0, none⟩ 1 1 [iv k] rfl rfl (cell_one_new _ _ _) (by simp [Value.oneCell']) (by unfold maxLen; omega) (by omega) (by simp; omega) ?_; intro v' w2 hown' hgrow _)
        go_roundw
        case rel => exact ⟨k + 1, by omega, by go_num, by rw [Hs.out]; simpa using hown', below_app hB hbs hown hgrow⟩
        case measure => simp [intOf]; omega
    · obtain rfl : k = 90 := by omega
      have hfin : (trues p 90).map iv = (finL p).map fqv := (finL_vals p).symm
      rw [hfin] at hown
      obtain ⟨A', c', rfl⟩ := own_slice hown
      have HO := Lib.hid hown
      clear hown hle hfin
      go_wp2_with fail
      refine (ownFrom_any s m _ _ (by omega) rfl).mono ?_
      rintro e w1 ⟨rfl, b0, b1, hb1⟩
      have hown1 := own_next HO.out hb1
      have hne : ∀ g, (Value.slice A' (trues p 90).length c').ownBlock = some g → wr.heap.size ≠ g ∧ wr.heap.size + 1 ≠ g := fun g hg => by
        have := (HO.out.lt g hg).2
        omega
      go_wp2_with fail
      refine (delete_any s _ p _ _ _ _ w.heap.size w _ hz1 hown1 (hB.trans (hb1.mono hbs)) b0 b1 hne).mono ?_
      rintro e w2 ⟨A2, c2, rfl, hr, hb2, hnew, hcp⟩
      rw [Hp.out, AL.out.1] at hr
      rw [Hp.out, AL.out.2] at hcp ⊢
      go_wp2
      go_ret
      exact ⟨A2, c2, rfl, hr, hb2, hnew, hcp⟩
theorem between_any5 (s : ByteArray) (a b : Int) (w : World) : Calls Tryz.prog 130 #[.string s, .int .i64 a, .int .i64 b] w (Says w (.int .i64 (betweenV s a b))) := by
  unfold Says
  cases h1 : sqI a
  · have K : Hid (betweenV s a b = -1) := by show _ = _; unfold betweenV; rw [h1]; simp
    have S1 := Lib.hid h1
    clear h1
    go_enter Tryz.func130, Tryz.ntmps130
    go_wp2_with fail
    refine (qsq_is a false _ S1.out).mono ?_
    rintro e w1 ⟨rfl, rfl⟩
    go_wp2
    go_ret
    exact ⟨by rw [K.out]; rfl, rfl⟩
  cases h2 : sqI b
  · have K : Hid (betweenV s a b = -1) := by show _ = _; unfold betweenV; rw [h2]; simp
    have S1 := Lib.hid h1
    have S2 := Lib.hid h2
    clear h1 h2
    go_enter Tryz.func130, Tryz.ntmps130
    go_wp2_with fail
    refine (qsq_is a true _ S1.out).mono ?_
    rintro e w1 ⟨rfl, rfl⟩
    go_wp2_with fail
    refine (qsq_is b false _ S2.out).mono ?_
    rintro e w1 ⟨rfl, rfl⟩
    go_wp2
    go_ret
    exact ⟨by rw [K.out]; rfl, rfl⟩
  cases hi : isB s
  · have K : Hid (betweenV s a b = -1) := by show _ = _; unfold betweenV; rw [hi]; rfl
    have B := Lib.hid hi
    have S1 := Lib.hid h1
    have S2 := Lib.hid h2
    clear hi h1 h2
    go_enter Tryz.func130, Tryz.ntmps130
    go_wp2_with fail
    refine (qsq_is a true _ S1.out).mono ?_
    rintro e w1 ⟨rfl, rfl⟩
    go_wp2_with fail
    refine (qsq_is b true _ S2.out).mono ?_
    rintro e w1 ⟨rfl, rfl⟩
    go_wp2_with fail
    refine (is_is s false _ B.out).mono ?_
    rintro e w1 ⟨rfl, rfl⟩
    go_wp2
    go_ret
    exact ⟨by rw [K.out]; rfl, rfl⟩
  · obtain ⟨p, q⟩ := sqI_in h1
    obtain ⟨p2, q2⟩ := sqI_in h2
    obtain ⟨m, rfl⟩ : ∃ m : Nat, a = m := ⟨a.toNat, by omega⟩
    obtain ⟨n, rfl⟩ : ∃ n : Nat, b = n := ⟨b.toNat, by omega⟩
    have K : Hid (betweenV s m n = betweenI s m n) := by show _ = _; unfold betweenV; rw [hi, h1, h2]; rfl
    have hz := isB_size hi
    have B := Lib.hid hi
    have S1 := Lib.hid h1
    have S2 := Lib.hid h2
    clear hi h1 h2
    go_enter Tryz.func130, Tryz.ntmps130
    go_wp2_with fail
    refine (qsq_is _ true _ S1.out).mono ?_
    rintro e w1 ⟨rfl, rfl⟩
    go_wp2_with fail
    refine (qsq_is _ true _ S2.out).mono ?_
    rintro e w1 ⟨rfl, rfl⟩
    go_wp2_with fail
    refine (is_is s true _ B.out).mono ?_
    rintro e w1 ⟨rfl, rfl⟩
    go_wp2_with fail
    refine (qbetween_any s m n _ (by omega) (by omega) (by omega)).mono ?_
    rintro e w1 ⟨rfl, rfl⟩
    go_wp2
    go_ret
    exact ⟨by rw [K.out]; rfl, rfl⟩
theorem between_is5 (s : ByteArray) (a b k : Int) (w : World) (h : betweenV s a b = k) : Calls Tryz.prog 130 #[.string s, .int .i64 a, .int .i64 b] w (Says w (.int .i64 k)) := by subst h; exact between_any5 s a b w
set_option maxHeartbeats 2000000 in
theorem can_any (s : ByteArray) (a b : Int) (w : World) : Calls Tryz.prog 184 #[.string s, .int .i64 a, .int .i64 b] w (Gives w (.bool (canI s a b))) := by
  unfold Gives
  by_cases hz : s.size = 90
  · have e0 : ((s.size : Int) != 90) = false := by rw [hz]; rfl
    cases h1 : sqI a
    · have K : Hid (canI s a b = false) := by show _ = _; unfold canI; rw [h1]; simp
      have S1 := Lib.hid h1
      clear h1 hz
      go_enter Tryz.func184, Tryz.ntmps184
      go_wp2_with fail
      refine (qsq_is a false _ S1.out).mono ?_
      rintro e w1 ⟨rfl, rfl⟩
      go_wp2
      go_ret
      exact ⟨by rw [K.out]; rfl, Below.refl _ _⟩
    cases h2 : sqI b
    · have K : Hid (canI s a b = false) := by show _ = _; unfold canI; rw [h2]; simp
      have S1 := Lib.hid h1
      have S2 := Lib.hid h2
      clear h1 h2 hz
      go_enter Tryz.func184, Tryz.ntmps184
      go_wp2_with fail
      refine (qsq_is a true _ S1.out).mono ?_
      rintro e w1 ⟨rfl, rfl⟩
      go_wp2_with fail
      refine (qsq_is b false _ S2.out).mono ?_
      rintro e w1 ⟨rfl, rfl⟩
      go_wp2
      go_ret
      exact ⟨by rw [K.out]; rfl, Below.refl _ _⟩
    · obtain ⟨p, q⟩ := sqI_in h1
      obtain ⟨p2, q2⟩ := sqI_in h2
      obtain ⟨m, rfl⟩ : ∃ m : Nat, a = m := ⟨a.toNat, by omega⟩
      obtain ⟨n, rfl⟩ : ∃ n : Nat, b = n := ⟨b.toNat, by omega⟩
      have hz1 : 90 ≤ s.size := by omega
      have hm : m < 90 := by omega
      have hn : n < 90 := by omega
      have K0 : canI s m n = (isB s && (goesV s m n && !(sideN (bAt s n) == sideN (bAt s m)))) := by rw [goes_own]; unfold canI; rw [h1, h2]; simp
      have S1 := Lib.hid h1
      have S2 := Lib.hid h2
      have K1 := Lib.hid K0
      clear h1 h2 hz K0 p q p2 q2
      cases hg : goesV s m n
      · have K : Hid (canI s m n = false) := by show _ = _; rw [K1.out, hg]; simp
        have G := Lib.hid hg
        clear hg K1
        go_enter Tryz.func184, Tryz.ntmps184
        go_wp2_with fail
        refine (qsq_is _ true _ S1.out).mono ?_
        rintro e w1 ⟨rfl, rfl⟩
        go_wp2_with fail
        refine (qsq_is _ true _ S2.out).mono ?_
        rintro e w1 ⟨rfl, rfl⟩
        go_wp2_with fail
        refine (goes_is s m n false _ hz1 hm hn G.out).mono ?_
        rintro e w1 ⟨rfl, hb1⟩
        go_wp2
        go_ret
        exact ⟨by rw [K.out]; rfl, hb1⟩
      · have G := Lib.hid hg
        obtain ⟨o, ho⟩ : ∃ o, (sideN (bAt s n) == sideN (bAt s m)) = o := ⟨_, rfl⟩
        have HO := Lib.hid ho
        have K2 : Hid (canI s m n = (isB s && !o)) := by show _ = _; rw [K1.out, hg, ho]; simp
        clear hg K1 ho
        go_enter Tryz.func184, Tryz.ntmps184
        go_wp2_with fail
        refine (qsq_is _ true _ S1.out).mono ?_
        rintro e w1 ⟨rfl, rfl⟩
        go_wp2_with fail
        refine (qsq_is _ true _ S2.out).mono ?_
        rintro e w1 ⟨rfl, rfl⟩
        go_wp2_with fail
        refine (goes_is s m n true _ hz1 hm hn G.out).mono ?_
        rintro e w1 ⟨rfl, hb1⟩
        go_wp2_with fail
        refine (ownFrom_any s m _ _ (by omega) rfl).mono ?_
        rintro e w2 ⟨rfl, b0, b1, hb2⟩
        have c0 := b0.cell 0
        have c1 := b1.cell 0
        simp only [List.getElem?_toArray, List.getElem?_cons_zero] at c0 c1
        have hb3 := hb1.trans (hb2.mono hb1.size)
        clear b0 b1 hb1 hb2
        go_wp2_with fail
        refine (own1_any s _ n _ _ _ (by omega) c0 c1).mono ?_
        rintro e w3 ⟨rfl, nq, rfl⟩
        rw [HO.out]
        replace hb3 := below_drewN hb3 nq
        clear c0 c1
        cases o
        · obtain ⟨v, hv⟩ : ∃ v, isB s = v := ⟨_, rfl⟩
          have HV := Lib.hid hv
          have K : Hid (canI s m n = v) := by show _ = _; rw [K2.out, hv]; simp
          clear hv K2
          go_wp2_with fail
          refine (is_is s v _ HV.out).mono ?_
          rintro e w4 ⟨rfl, rfl⟩
          go_wp2
          go_ret
          exact ⟨by rw [K.out]; rfl, hb3⟩
        · have K : Hid (canI s m n = false) := by show _ = _; rw [K2.out]; simp
          go_wp2
          go_ret
          exact ⟨by rw [K.out]; rfl, hb3⟩
  · have e0 : ((s.size : Int) != 90) = true := by rw [bne_iff_ne]; omega
    have K : Hid (canI s a b = false) := by show _ = _; unfold canI isB; rw [decide_eq_false hz]; simp
    clear hz
    go_enter Tryz.func184, Tryz.ntmps184
    go_wp2
    go_ret
    exact ⟨by rw [K.out]; rfl, Below.refl _ _⟩
theorem can_is5 (s : ByteArray) (a b : Int) (v : Bool) (w : World) (h : canI s a b = v) : Calls Tryz.prog 184 #[.string s, .int .i64 a, .int .i64 b] w (Gives w (.bool v)) := by subst h; exact can_any s a b w
end Go.Proofs.YtpogpjebhnoncaaGreatDoor
namespace Go.Proofs.YtpogpjebhnoncaaGreatDoor
open Go.RowKit Go.Shelf
open M (S)
set_option maxHeartbeats 400000 in
theorem rreal5_any (n : Int) (w : World) : Calls Tryz.prog 192 #[.int .i64 n] w (Says w (.bool (sqI n))) := by
  unfold Says
  by_cases h0 : 0 ≤ n
  · by_cases h1 : n < 90
    · have K := Lib.hid (sqI_true ⟨h0, h1⟩)
      go_enter Tryz.func192, Tryz.ntmps192
      go_wp2
      go_ret
      exact ⟨by rw [K.out]; first | rfl | (simp; done) | (simp; omega), rfl⟩
    · have K := Lib.hid (sqI_false (n := n) (by omega))
      go_enter Tryz.func192, Tryz.ntmps192
      go_wp2
      go_ret
      exact ⟨by rw [K.out]; first | rfl | (simp; done) | (simp; omega), rfl⟩
  · have K := Lib.hid (sqI_false (n := n) (by omega))
    go_enter Tryz.func192, Tryz.ntmps192
    go_wp2
    go_ret
    exact ⟨by rw [K.out]; rfl, rfl⟩
theorem rreal5_is (n : Int) (b : Bool) (w : World) (h : sqI n = b) : Calls Tryz.prog 192 #[.int .i64 n] w (Says w (.bool b)) := by subst h; exact rreal5_any n w
theorem raway_is (a b d : Int) (w : World) (ha : 0 ≤ a) (ha' : a < 90) (hb : 0 ≤ b) (hb' : b < 90) (h : max a b - min a b = d) : Calls Tryz.prog 213 #[.int .i64 a, .int .i64 b] w (Says w (.int .i64 d)) := by
  unfold Says
  subst h
  rcases Int.lt_trichotomy a b with h | rfl | h
  · have K : Hid (max a b - min a b = b - a) := by show _ = _; omega
    go_enter Tryz.func213, Tryz.ntmps213
    go_wp2
    go_ret
    exact ⟨by first | rfl | (rw [K.out]; rfl), rfl⟩
  · have K : Hid (max a a - min a a = 0) := by show _ = _; omega
    go_enter Tryz.func213, Tryz.ntmps213
    go_wp2
    go_ret
    exact ⟨by first | rfl | (rw [K.out]; rfl), rfl⟩
  · have K : Hid (max a b - min a b = a - b) := by show _ = _; omega
    go_enter Tryz.func213, Tryz.ntmps213
    go_wp2
    go_ret
    exact ⟨by first | rfl | (rw [K.out]; rfl), rfl⟩
theorem file_away {a b : Nat} : max ((a : Int) % 9) ((b : Int) % 9) - min ((a : Int) % 9) ((b : Int) % 9) = (fileD a b : Int) := by unfold fileD; omega
theorem rank_away {a b : Nat} : max ((a : Int) / 9) ((b : Int) / 9) - min ((a : Int) / 9) ((b : Int) / 9) = (rankD a b : Int) := by unfold rankD; omega
set_option maxHeartbeats 1000000 in
theorem half_up9 (s : ByteArray) (a b : Int) (k : Nat) (w : World) (hs : 90 ≤ s.size) (h : a < b) (hk : k + 9 < 90) : Calls Tryz.prog 243 #[.int .i64 a, .int .i64 b, .int .i64 (k : Int), .string s, .int .i64 9] w (Says w (.bool (bAt s (k + 9) == 46))) := by
  unfold Says
  obtain ⟨x, hx⟩ : ∃ x, bAt s (k + 9) = x := ⟨_, rfl⟩
  have hks : k + 9 < s.size := by omega
  have hbk : s[k + 9].toNat = x := (bAt_eq s (k + 9) hks).trans hx
  have K : Hid (((x : Int) == 46) = (bAt s (k + 9) == 46)) := by show _ = _; rw [hx, Bool.eq_iff_iff, beq_iff_eq, beq_iff_eq]; omega
  clear hx
  go_enter Tryz.func243, Tryz.ntmps243
  go_wp2
  go_ret
  exact ⟨by rw [← K.out]; rfl, rfl⟩
set_option maxHeartbeats 1000000 in
theorem half_dn9 (s : ByteArray) (a b : Int) (m k : Nat) (w : World) (hs : 90 ≤ s.size) (h : b < a) (hk : k < 90) (hm : k = m + 9) : Calls Tryz.prog 243 #[.int .i64 a, .int .i64 b, .int .i64 (k : Int), .string s, .int .i64 9] w (Says w (.bool (bAt s m == 46))) := by
  unfold Says
  subst hm
  obtain ⟨x, hx⟩ : ∃ x, bAt s m = x := ⟨_, rfl⟩
  have hks : m < s.size := by omega
  have hbk : s[m].toNat = x := (bAt_eq s m hks).trans hx
  have K : Hid (((x : Int) == 46) = (bAt s m == 46)) := by show _ = _; rw [hx, Bool.eq_iff_iff, beq_iff_eq, beq_iff_eq]; omega
  have e0 : decide (a < b) = false := by simp; omega
  clear hx
  go_enter Tryz.func243, Tryz.ntmps243
  go_wp2
  go_ret
  exact ⟨by rw [← K.out]; rfl, rfl⟩
set_option maxHeartbeats 1000000 in
theorem half_up1 (s : ByteArray) (a b : Int) (k : Nat) (w : World) (hs : 90 ≤ s.size) (h : a < b) (hk : k + 1 < 90) : Calls Tryz.prog 243 #[.int .i64 a, .int .i64 b, .int .i64 (k : Int), .string s, .int .i64 1] w (Says w (.bool (bAt s (k + 1) == 46))) := by
  unfold Says
  obtain ⟨x, hx⟩ : ∃ x, bAt s (k + 1) = x := ⟨_, rfl⟩
  have hks : k + 1 < s.size := by omega
  have hbk : s[k + 1].toNat = x := (bAt_eq s (k + 1) hks).trans hx
  have K : Hid (((x : Int) == 46) = (bAt s (k + 1) == 46)) := by show _ = _; rw [hx, Bool.eq_iff_iff, beq_iff_eq, beq_iff_eq]; omega
  clear hx
  go_enter Tryz.func243, Tryz.ntmps243
  go_wp2
  go_ret
  exact ⟨by rw [← K.out]; rfl, rfl⟩
set_option maxHeartbeats 1000000 in
theorem half_dn1 (s : ByteArray) (a b : Int) (m k : Nat) (w : World) (hs : 90 ≤ s.size) (h : b < a) (hk : k < 90) (hm : k = m + 1) : Calls Tryz.prog 243 #[.int .i64 a, .int .i64 b, .int .i64 (k : Int), .string s, .int .i64 1] w (Says w (.bool (bAt s m == 46))) := by
  unfold Says
  subst hm
  obtain ⟨x, hx⟩ : ∃ x, bAt s m = x := ⟨_, rfl⟩
  have hks : m < s.size := by omega
  have hbk : s[m].toNat = x := (bAt_eq s m hks).trans hx
  have K : Hid (((x : Int) == 46) = (bAt s m == 46)) := by show _ = _; rw [hx, Bool.eq_iff_iff, beq_iff_eq, beq_iff_eq]; omega
  have e0 : decide (a < b) = false := by simp; omega
  clear hx
  go_enter Tryz.func243, Tryz.ntmps243
  go_wp2
  go_ret
  exact ⟨by rw [← K.out]; rfl, rfl⟩
theorem horse_r5 {s : ByteArray} {a b : Nat} (hf : fileD a b = 1) (hr : rankD a b = 2) : horseB s a b = (bAt s (legR a b) == 46) := by
  unfold horseB
  rw [hf, hr]
  simp
theorem horse_f5 {s : ByteArray} {a b : Nat} (hf : fileD a b = 2) (hr : rankD a b = 1) : horseB s a b = (bAt s (legF a b) == 46) := by
  unfold horseB
  rw [hf, hr]
  simp
theorem horse_no5 {s : ByteArray} {a b : Nat} (h1 : ¬ (fileD a b = 1 ∧ rankD a b = 2)) (h2 : ¬ (fileD a b = 2 ∧ rankD a b = 1)) : horseB s a b = false := by
  unfold horseB
  cases e : (fileD a b == 1 && rankD a b == 2 && (bAt s (legR a b) == 46)) || (fileD a b == 2 && rankD a b == 1 && (bAt s (legF a b) == 46))
  · rfl
  · simp only [Bool.or_eq_true, Bool.and_eq_true, beq_iff_eq] at e
    omega
set_option maxHeartbeats 4000000 in
theorem rhorse_any (s : ByteArray) (a b : Nat) (w : World) (hs : 90 ≤ s.size) (ha : a < 90) (hb : b < 90) :
    Calls Tryz.prog 214 #[.string s, .int .i64 (a : Int), .int .i64 (b : Int)] w (Says w (.bool (horseB s a b))) := by
  unfold Says
  by_cases h1 : fileD a b = 1 ∧ rankD a b = 2
  · obtain ⟨hf, hr⟩ := h1
    have K := Lib.hid (@horse_r5 s a b hf hr)
    have Hf : Hid ((fileD a b : Int) = 1) := by show _ = _; omega
    have Hr : Hid ((rankD a b : Int) = 2) := by show _ = _; omega
    by_cases hup : a / 9 < b / 9
    · have hl : legR a b = a + 9 := by unfold legR; rw [if_pos hup]
      have hlt : a + 9 < 90 := by unfold rankD at hr; omega
      have L := Lib.hid fun W => half_up9 s ((a : Int) / 9) ((b : Int) / 9) a W hs (by omega) hlt
      rw [hl] at K
      clear hf hr hup hl hlt
      go_enter Tryz.func214, Tryz.ntmps214
      go_wp2_with fail
      refine (raway_is _ _ _ _ (by omega) (by omega) (by omega) (by omega) (file_away.trans Hf.out)).mono ?_
      rintro e w1 ⟨rfl, rfl⟩
      go_wp2_with fail
      refine (raway_is _ _ _ _ (by omega) (by omega) (by omega) (by omega) (rank_away.trans Hr.out)).mono ?_
      rintro e w1 ⟨rfl, rfl⟩
      go_wp2_with fail
      refine (L.out _).mono ?_
      rintro e w1 ⟨rfl, rfl⟩
      go_wp2
      go_ret
      exact ⟨by rw [K.out]; rfl, rfl⟩
    · have hlt : a = (a - 9) + 9 := by unfold rankD at hr; omega
      have hl : legR a b = a - 9 := by unfold legR; rw [if_neg hup]
      have L := Lib.hid fun W => half_dn9 s ((a : Int) / 9) ((b : Int) / 9) (a - 9) a W hs (by unfold rankD at hr; omega) ha hlt
      rw [hl] at K
      clear hf hr hup hl hlt
      go_enter Tryz.func214, Tryz.ntmps214
      go_wp2_with fail
      refine (raway_is _ _ _ _ (by omega) (by omega) (by omega) (by omega) (file_away.trans Hf.out)).mono ?_
      rintro e w1 ⟨rfl, rfl⟩
      go_wp2_with fail
      refine (raway_is _ _ _ _ (by omega) (by omega) (by omega) (by omega) (rank_away.trans Hr.out)).mono ?_
      rintro e w1 ⟨rfl, rfl⟩
      go_wp2_with fail
      refine (L.out _).mono ?_
      rintro e w1 ⟨rfl, rfl⟩
      go_wp2
      go_ret
      exact ⟨by rw [K.out]; rfl, rfl⟩
  by_cases h2 : fileD a b = 2 ∧ rankD a b = 1
  · obtain ⟨hf, hr⟩ := h2
    have K := Lib.hid (@horse_f5 s a b hf hr)
    have Hf : Hid ((fileD a b : Int) = 2) := by show _ = _; omega
    have Hr : Hid ((rankD a b : Int) = 1) := by show _ = _; omega
    by_cases hup : a % 9 < b % 9
    · have hl : legF a b = a + 1 := by unfold legF; rw [if_pos hup]
      have hlt : a + 1 < 90 := by unfold fileD at hf; omega
      have L := Lib.hid fun W => half_up1 s ((a : Int) % 9) ((b : Int) % 9) a W hs (by omega) hlt
      rw [hl] at K
      clear hf hr hup hl hlt
      go_enter Tryz.func214, Tryz.ntmps214
      go_wp2_with fail
      refine (raway_is _ _ _ _ (by omega) (by omega) (by omega) (by omega) (file_away.trans Hf.out)).mono ?_
      rintro e w1 ⟨rfl, rfl⟩
      go_wp2_with fail
      refine (raway_is _ _ _ _ (by omega) (by omega) (by omega) (by omega) (rank_away.trans Hr.out)).mono ?_
      rintro e w1 ⟨rfl, rfl⟩
      go_wp2_with fail
      refine (L.out _).mono ?_
      rintro e w1 ⟨rfl, rfl⟩
      go_wp2
      go_ret
      exact ⟨by rw [K.out]; rfl, rfl⟩
    · have hlt : a = (a - 1) + 1 := by unfold fileD at hf; omega
      have hl : legF a b = a - 1 := by unfold legF; rw [if_neg hup]
      have L := Lib.hid fun W => half_dn1 s ((a : Int) % 9) ((b : Int) % 9) (a - 1) a W hs (by unfold fileD at hf; omega) ha hlt
      rw [hl] at K
      clear hf hr hup hl hlt
      go_enter Tryz.func214, Tryz.ntmps214
      go_wp2_with fail
      refine (raway_is _ _ _ _ (by omega) (by omega) (by omega) (by omega) (file_away.trans Hf.out)).mono ?_
      rintro e w1 ⟨rfl, rfl⟩
      go_wp2_with fail
      refine (raway_is _ _ _ _ (by omega) (by omega) (by omega) (by omega) (rank_away.trans Hr.out)).mono ?_
      rintro e w1 ⟨rfl, rfl⟩
      go_wp2_with fail
      refine (L.out _).mono ?_
      rintro e w1 ⟨rfl, rfl⟩
      go_wp2
      go_ret
      exact ⟨by rw [K.out]; rfl, rfl⟩
  · have K := Lib.hid (@horse_no5 s a b h1 h2)
    obtain ⟨f, hf⟩ : ∃ f : Int, (fileD a b : Int) = f := ⟨_, rfl⟩
    obtain ⟨r, hr⟩ : ∃ r : Int, (rankD a b : Int) = r := ⟨_, rfl⟩
    have Hf := Lib.hid hf
    have Hr := Lib.hid hr
    have hc : (f == 1 && r == 2) = false ∧ (f == 2 && r == 1) = false := by
      constructor
      · cases e : (f == 1 && r == 2)
        · rfl
        · simp only [Bool.and_eq_true, beq_iff_eq] at e
          omega
      · cases e : (f == 2 && r == 1)
        · rfl
        · simp only [Bool.and_eq_true, beq_iff_eq] at e
          omega
    clear hf hr h1 h2
    have hq : ((f == 1) = false ∧ (f == 2) = false) ∨ ((f == 1) = true ∧ (r == 2) = false ∧ (f == 2) = false) ∨ ((f == 1) = false ∧ (f == 2) = true ∧ (r == 1) = false) := by
      have h3 := hc.1
      have h4 := hc.2
      cases e1 : (f == 1) <;> cases e2 : (f == 2) <;> simp_all
    clear hc
    rcases hq with ⟨q1, q2⟩ | ⟨q1, q2, q3⟩ | ⟨q1, q2, q3⟩
    all_goals
      go_enter Tryz.func214, Tryz.ntmps214
      go_wp2_with fail
      refine (raway_is _ _ _ _ (by omega) (by omega) (by omega) (by omega) (file_away.trans Hf.out)).mono ?_
      rintro e w1 ⟨rfl, rfl⟩
      go_wp2_with fail
      refine (raway_is _ _ _ _ (by omega) (by omega) (by omega) (by omega) (rank_away.trans Hr.out)).mono ?_
      rintro e w1 ⟨rfl, rfl⟩
      go_wp2
      go_ret
      exact ⟨by rw [K.out]; rfl, rfl⟩
theorem pawn_red5 {c a b : Nat} (h : sideN c = 0) : pawnB c a b = (b == a + 9 || (overB (a : Int) 0 && (a / 9 == b / 9) && (fileD a b == 1))) := by unfold pawnB; rw [h]; rfl
theorem pawn_black5 {c a b : Nat} (h : sideN c = 1) : pawnB c a b = (a == b + 9 || (overB (a : Int) 1 && (a / 9 == b / 9) && (fileD a b == 1))) := by unfold pawnB; rw [h]; rfl
set_option maxHeartbeats 4000000 in
theorem rpawn_0 (a b c : Nat) (w : World) (ha : a < 90) (hb : b < 90) (hsd : sideN c = 0) :
    Calls Tryz.prog 215 #[.int .i64 0, .int .i64 (a : Int), .int .i64 (b : Int)] w (Says w (.bool (pawnB c a b))) := by
  unfold Says
  have hr2 : (a / 9 == b / 9) = ((a : Int) / 9 == (b : Int) / 9) := by rw [Bool.eq_iff_iff, beq_iff_eq, beq_iff_eq]; omega
  have he : (b == a + 9) = ((b : Int) == (a : Int) + 9) := by rw [Bool.eq_iff_iff, beq_iff_eq, beq_iff_eq]; omega
  have K0 := Lib.hid (pawn_red5 (a := a) (b := b) hsd)
  rw [hr2, he] at K0
  clear hsd hr2 he
  cases h1 : ((b : Int) == (a : Int) + 9)
  case true =>
    have K : Hid (pawnB c a b = true) := by show _ = _; rw [K0.out, h1]; rfl
    clear K0
    go_enter Tryz.func215, Tryz.ntmps215
    go_wp2
    go_ret
    exact ⟨by first | rfl | (rw [K.out]; rfl), rfl⟩
  obtain ⟨o, ho⟩ : ∃ o, overB (a : Int) 0 = o := ⟨_, rfl⟩
  have Ho := Lib.hid ho
  cases o
  case false =>
    have K : Hid (pawnB c a b = false) := by show _ = _; rw [K0.out, h1, ho]; simp
    clear K0 ho
    go_enter Tryz.func215, Tryz.ntmps215
    go_wp2_with fail
    refine (rover_is _ _ _ _ Ho.out).mono ?_
    rintro e w1 ⟨rfl, rfl⟩
    go_wp2
    go_ret
    exact ⟨by first | rfl | (rw [K.out]; rfl), rfl⟩
  cases h3 : ((a : Int) / 9 == (b : Int) / 9)
  case false =>
    have K : Hid (pawnB c a b = false) := by show _ = _; rw [K0.out, h1, ho, h3]; simp
    clear K0 ho
    go_enter Tryz.func215, Tryz.ntmps215
    go_wp2_with fail
    refine (rover_is _ _ _ _ Ho.out).mono ?_
    rintro e w1 ⟨rfl, rfl⟩
    go_wp2
    go_ret
    exact ⟨by first | rfl | (rw [K.out]; rfl), rfl⟩
  case true =>
    obtain ⟨d, hd⟩ : ∃ d : Int, max (a : Int) (b : Int) - min (a : Int) (b : Int) = d := ⟨_, rfl⟩
    have HD := Lib.hid hd
    have hdf : (fileD a b == 1) = (d == 1) := by rw [Bool.eq_iff_iff, beq_iff_eq, beq_iff_eq, ← hd]; rw [beq_iff_eq] at h3; unfold fileD; omega
    have K : Hid (pawnB c a b = (d == 1)) := by show _ = _; rw [K0.out, h1, ho, h3, hdf]; cases (d == 1) <;> rfl
    clear K0 ho hd hdf
    go_enter Tryz.func215, Tryz.ntmps215
    go_wp2_with fail
    refine (rover_is _ _ _ _ Ho.out).mono ?_
    rintro e w1 ⟨rfl, rfl⟩
    go_wp2_with fail
    refine (raway_is _ _ _ _ (by omega) (by omega) (by omega) (by omega) HD.out).mono ?_
    rintro e w1 ⟨rfl, rfl⟩
    go_wp2
    go_ret
    exact ⟨by first | rfl | (rw [K.out]; rfl), rfl⟩
set_option maxHeartbeats 4000000 in
theorem rpawn_1 (a b c : Nat) (w : World) (ha : a < 90) (hb : b < 90) (hsd : sideN c = 1) :
    Calls Tryz.prog 215 #[.int .i64 1, .int .i64 (a : Int), .int .i64 (b : Int)] w (Says w (.bool (pawnB c a b))) := by
  unfold Says
  have hr2 : (a / 9 == b / 9) = ((a : Int) / 9 == (b : Int) / 9) := by rw [Bool.eq_iff_iff, beq_iff_eq, beq_iff_eq]; omega
  have he : (a == b + 9) = ((b : Int) == (a : Int) + -9) := by rw [Bool.eq_iff_iff, beq_iff_eq, beq_iff_eq]; omega
  have K0 := Lib.hid (pawn_black5 (a := a) (b := b) hsd)
  rw [hr2, he] at K0
  clear hsd hr2 he
  cases h1 : ((b : Int) == (a : Int) + -9)
  case true =>
    have K : Hid (pawnB c a b = true) := by show _ = _; rw [K0.out, h1]; rfl
    clear K0
    go_enter Tryz.func215, Tryz.ntmps215
    go_wp2
    go_ret
    exact ⟨by first | rfl | (rw [K.out]; rfl), rfl⟩
  obtain ⟨o, ho⟩ : ∃ o, overB (a : Int) 1 = o := ⟨_, rfl⟩
  have Ho := Lib.hid ho
  cases o
  case false =>
    have K : Hid (pawnB c a b = false) := by show _ = _; rw [K0.out, h1, ho]; simp
    clear K0 ho
    go_enter Tryz.func215, Tryz.ntmps215
    go_wp2_with fail
    refine (rover_is _ _ _ _ Ho.out).mono ?_
    rintro e w1 ⟨rfl, rfl⟩
    go_wp2
    go_ret
    exact ⟨by first | rfl | (rw [K.out]; rfl), rfl⟩
  cases h3 : ((a : Int) / 9 == (b : Int) / 9)
  case false =>
    have K : Hid (pawnB c a b = false) := by show _ = _; rw [K0.out, h1, ho, h3]; simp
    clear K0 ho
    go_enter Tryz.func215, Tryz.ntmps215
    go_wp2_with fail
    refine (rover_is _ _ _ _ Ho.out).mono ?_
    rintro e w1 ⟨rfl, rfl⟩
    go_wp2
    go_ret
    exact ⟨by first | rfl | (rw [K.out]; rfl), rfl⟩
  case true =>
    obtain ⟨d, hd⟩ : ∃ d : Int, max (a : Int) (b : Int) - min (a : Int) (b : Int) = d := ⟨_, rfl⟩
    have HD := Lib.hid hd
    have hdf : (fileD a b == 1) = (d == 1) := by rw [Bool.eq_iff_iff, beq_iff_eq, beq_iff_eq, ← hd]; rw [beq_iff_eq] at h3; unfold fileD; omega
    have K : Hid (pawnB c a b = (d == 1)) := by show _ = _; rw [K0.out, h1, ho, h3, hdf]; cases (d == 1) <;> rfl
    clear K0 ho hd hdf
    go_enter Tryz.func215, Tryz.ntmps215
    go_wp2_with fail
    refine (rover_is _ _ _ _ Ho.out).mono ?_
    rintro e w1 ⟨rfl, rfl⟩
    go_wp2_with fail
    refine (raway_is _ _ _ _ (by omega) (by omega) (by omega) (by omega) HD.out).mono ?_
    rintro e w1 ⟨rfl, rfl⟩
    go_wp2
    go_ret
    exact ⟨by first | rfl | (rw [K.out]; rfl), rfl⟩
set_option maxHeartbeats 4000000 in
theorem rbetween_9 (s : ByteArray) (a b : Nat) (w : World) (hs : 90 ≤ s.size) (ha : a < 90) (hb : b < 90) (h : StepB a b 9) :
    Calls Tryz.prog 193 #[.string s, .int .i64 (a : Int), .int .i64 (b : Int)] w (Says w (.int .i64 (betweenN s a b))) := by
  unfold Says
  have HST := Lib.hid (@way_start s a b 9 h)
  have HNX := Lib.hid fun n => @way_next s a b 9 n h
  have HEN := Lib.hid (@way_end s a b ha hb)
  have HLE := Lib.hid fun n => @way_le s a b n
  have hne := h.1
  have q1 : ((a : Int) == (b : Int)) = false := by rw [beq_eq_false_iff_ne]; have := h.1; omega
  have q2 : ((a : Int) / 9 == (b : Int) / 9) = false := by rw [beq_eq_false_iff_ne]; have := h.1; have := h.2; omega
  have q3 : ((a : Int) % 9 == (b : Int) % 9) = true := by rw [beq_iff_eq]; have := h.2; omega
  clear h
  rcases Nat.lt_or_gt_of_ne hne with hlt | hlt
  all_goals
    clear hne
    go_enter Tryz.func193, Tryz.ntmps193
    go_wp2_with fail
    go_loop [8, 9] (fun c i => ∃ n : Nat, Hid (OnWay 9 a b n) ∧ i = .int .i64 n ∧ c = .int .i64 (wayN s a b n)) (fun _ i => 90 - (intOf i).toNat)
    case atStart => exact ⟨min a b + 9, HST.out.1, by congr 1; omega, by rw [HST.out.2]; rfl⟩
    case round =>
      obtain ⟨n, hn, rfl, rfl⟩ := hrel
      have hn1 := hn.out.1
      have hn2 := hn.out.2.1
      have hle := HLE.out n
      by_cases hend : n < max a b
      · obtain ⟨x, hx⟩ : ∃ x, bAt s n = x := ⟨_, rfl⟩
        have hks : n < s.size := by omega
        have hbk : s[n].toNat = x := (bAt_eq s n hks).trans hx
        have HN := Lib.hid (HNX.out n hn.out hend)
        rw [hx] at HN
        have hn3 := HN.out.1.2.1
        by_cases h46 : x = 46
        · have e46 : ((x : Int) != 46) = false := by rw [h46]; rfl
          clear hx h46
          go_wp2
          go_round
          case rel => exact ⟨n + 9, HN.out.1, by go_num, by rw [HN.out.2, if_pos (by simp at e46; omega)]⟩
          case measure => simp [intOf]; omega
        · have e46 : ((x : Int) != 46) = true := by rw [bne_iff_ne]; omega
          clear hx
          go_wp2
          go_round
          case rel => exact ⟨n + 9, HN.out.1, by go_num, by rw [HN.out.2, if_neg h46]; go_num⟩
          case measure => simp [intOf]; omega
      · obtain rfl : n = max a b := by omega
        have K : Hid (wayN s a b (max a b) = betweenN s a b) := HEN
        go_wp2
        go_ret
        exact ⟨by rw [K.out]; rfl, rfl⟩
set_option maxHeartbeats 4000000 in
theorem rbetween_1 (s : ByteArray) (a b : Nat) (w : World) (hs : 90 ≤ s.size) (ha : a < 90) (hb : b < 90) (h : StepB a b 1) :
    Calls Tryz.prog 193 #[.string s, .int .i64 (a : Int), .int .i64 (b : Int)] w (Says w (.int .i64 (betweenN s a b))) := by
  unfold Says
  have HST := Lib.hid (@way_start s a b 1 h)
  have HNX := Lib.hid fun n => @way_next s a b 1 n h
  have HEN := Lib.hid (@way_end s a b ha hb)
  have HLE := Lib.hid fun n => @way_le s a b n
  have hne := h.1
  have q1 : ((a : Int) == (b : Int)) = false := by rw [beq_eq_false_iff_ne]; have := h.1; omega
  have q2 : ((a : Int) / 9 == (b : Int) / 9) = true := by rw [beq_iff_eq]; have := h.2; omega
  clear h
  rcases Nat.lt_or_gt_of_ne hne with hlt | hlt
  all_goals
    clear hne
    go_enter Tryz.func193, Tryz.ntmps193
    go_wp2_with fail
    go_loop [8, 9] (fun c i => ∃ n : Nat, Hid (OnWay 1 a b n) ∧ i = .int .i64 n ∧ c = .int .i64 (wayN s a b n)) (fun _ i => 90 - (intOf i).toNat)
    case atStart => exact ⟨min a b + 1, HST.out.1, by congr 1; omega, by rw [HST.out.2]; rfl⟩
    case round =>
      obtain ⟨n, hn, rfl, rfl⟩ := hrel
      have hn1 := hn.out.1
      have hn2 := hn.out.2.1
      have hle := HLE.out n
      by_cases hend : n < max a b
      · obtain ⟨x, hx⟩ : ∃ x, bAt s n = x := ⟨_, rfl⟩
        have hks : n < s.size := by omega
        have hbk : s[n].toNat = x := (bAt_eq s n hks).trans hx
        have HN := Lib.hid (HNX.out n hn.out hend)
        rw [hx] at HN
        have hn3 := HN.out.1.2.1
        by_cases h46 : x = 46
        · have e46 : ((x : Int) != 46) = false := by rw [h46]; rfl
          clear hx h46
          go_wp2
          go_round
          case rel => exact ⟨n + 1, HN.out.1, by go_num, by rw [HN.out.2, if_pos (by simp at e46; omega)]⟩
          case measure => simp [intOf]; omega
        · have e46 : ((x : Int) != 46) = true := by rw [bne_iff_ne]; omega
          clear hx
          go_wp2
          go_round
          case rel => exact ⟨n + 1, HN.out.1, by go_num, by rw [HN.out.2, if_neg h46]; go_num⟩
          case measure => simp [intOf]; omega
      · obtain rfl : n = max a b := by omega
        have K : Hid (wayN s a b (max a b) = betweenN s a b) := HEN
        go_wp2
        go_ret
        exact ⟨by rw [K.out]; rfl, rfl⟩
theorem rbetween_none (s : ByteArray) (a b : Nat) (w : World) (ha : a < 90) (hb : b < 90) (h : a = b ∨ (a / 9 ≠ b / 9 ∧ a % 9 ≠ b % 9)) :
    Calls Tryz.prog 193 #[.string s, .int .i64 (a : Int), .int .i64 (b : Int)] w (Says w (.int .i64 (-1))) := by
  unfold Says
  by_cases he : a = b
  · subst he
    clear h
    go_enter Tryz.func193, Tryz.ntmps193
    go_wp2
    go_ret
    exact ⟨rfl, rfl⟩
  · have q1 : ((a : Int) == (b : Int)) = false := by rw [beq_eq_false_iff_ne]; omega
    have q2 : ((a : Int) / 9 == (b : Int) / 9) = false := by rw [beq_eq_false_iff_ne]; omega
    have q3 : ((a : Int) % 9 == (b : Int) % 9) = false := by rw [beq_eq_false_iff_ne]; omega
    clear h he
    go_enter Tryz.func193, Tryz.ntmps193
    go_wp2
    go_ret
    exact ⟨rfl, rfl⟩
theorem rbetween_any (s : ByteArray) (a b : Nat) (w : World) (hs : 90 ≤ s.size) (ha : a < 90) (hb : b < 90) :
    Calls Tryz.prog 193 #[.string s, .int .i64 (a : Int), .int .i64 (b : Int)] w (Says w (.int .i64 (betweenI s a b))) := by
  by_cases h : a = b ∨ (a / 9 ≠ b / 9 ∧ a % 9 ≠ b % 9)
  · rw [betweenI_none h]
    exact rbetween_none s a b w ha hb h
  · by_cases h9 : a % 9 = b % 9
    · have hst : StepB a b 9 := ⟨by omega, .inr ⟨rfl, h9⟩⟩
      rw [betweenI_step hst]
      exact rbetween_9 s a b w hs ha hb hst
    · have hst : StepB a b 1 := ⟨by omega, .inl ⟨rfl, by omega⟩⟩
      rw [betweenI_step hst]
      exact rbetween_1 s a b w hs ha hb hst
theorem rbetween_is (s : ByteArray) (a b : Nat) (k : Int) (w : World) (hs : 90 ≤ s.size) (ha : a < 90) (hb : b < 90) (h : betweenI s a b = k) :
    Calls Tryz.prog 193 #[.string s, .int .i64 (a : Int), .int .i64 (b : Int)] w (Says w (.int .i64 k)) := by subst h; exact rbetween_any s a b w hs ha hb
end Go.Proofs.YtpogpjebhnoncaaGreatDoor
namespace Go.Proofs.YtpogpjebhnoncaaGreatDoor
open Go.RowKit Go.Shelf
open M (S)
set_option maxHeartbeats 4000000 in
theorem can_K (s : ByteArray) (a b c : Nat) (f r : Int) (w : World) (hs : 90 ≤ s.size) (ha : a < 90) (hb : b < 90) (hbk : s[a].toNat = c) (hk : kindN c = 75) (hf : (fileD a b : Int) = f) (hr : (rankD a b : Int) = r) :
    Calls Tryz.prog 165 #[.string s, .int .i64 (a : Int), .int .i64 (b : Int)] w (Says w (.bool ((f + r == 1) && mayB c (b : Int)))) := by
  unfold Says
  have h0 : 0 ≤ f ∧ f ≤ 8 ∧ 0 ≤ r ∧ r ≤ 9 := by unfold fileD at hf; unfold rankD at hr; omega
  obtain ⟨f0, f8, r0, r9⟩ := h0
  have Hf := Lib.hid hf
  have Hr := Lib.hid hr
  have Hk := Lib.hid hk
  clear hf hr hk
  cases hq : (f + r == 1)
  · have K := Lib.hid (Bool.false_and (mayB c (b : Int)))
    go_enter Tryz.func165, Tryz.ntmps165
    go_wp2_with fail
    refine (raway_is _ _ _ _ (by omega) (by omega) (by omega) (by omega) (file_away.trans Hf.out)).mono ?_
    rintro e w1 ⟨rfl, rfl⟩
    go_wp2_with fail
    refine (raway_is _ _ _ _ (by omega) (by omega) (by omega) (by omega) (rank_away.trans Hr.out)).mono ?_
    rintro e w1 ⟨rfl, rfl⟩
    go_wp2_with fail
    refine (rkind_is c 75 _ Hk.out).mono ?_
    rintro e w1 ⟨rfl, rfl⟩
    go_wp2
    go_ret
    exact ⟨by first | rfl | (rw [K.out]; rfl), rfl⟩
  · cases hm : mayB c (b : Int)
    · have Hm := Lib.hid hm
      have K := Lib.hid (Bool.true_and false)
      clear hm
      go_enter Tryz.func165, Tryz.ntmps165
      go_wp2_with fail
      refine (raway_is _ _ _ _ (by omega) (by omega) (by omega) (by omega) (file_away.trans Hf.out)).mono ?_
      rintro e w1 ⟨rfl, rfl⟩
      go_wp2_with fail
      refine (raway_is _ _ _ _ (by omega) (by omega) (by omega) (by omega) (rank_away.trans Hr.out)).mono ?_
      rintro e w1 ⟨rfl, rfl⟩
      go_wp2_with fail
      refine (rkind_is c 75 _ Hk.out).mono ?_
      rintro e w1 ⟨rfl, rfl⟩
      go_wp2_with fail
      refine (rmay_is c _ false _ Hm.out).mono ?_
      rintro e w1 ⟨rfl, rfl⟩
      go_wp2
      go_ret
      exact ⟨by first | rfl | (rw [K.out]; rfl), rfl⟩
    · have Hm := Lib.hid hm
      have K := Lib.hid (Bool.true_and true)
      clear hm
      go_enter Tryz.func165, Tryz.ntmps165
      go_wp2_with fail
      refine (raway_is _ _ _ _ (by omega) (by omega) (by omega) (by omega) (file_away.trans Hf.out)).mono ?_
      rintro e w1 ⟨rfl, rfl⟩
      go_wp2_with fail
      refine (raway_is _ _ _ _ (by omega) (by omega) (by omega) (by omega) (rank_away.trans Hr.out)).mono ?_
      rintro e w1 ⟨rfl, rfl⟩
      go_wp2_with fail
      refine (rkind_is c 75 _ Hk.out).mono ?_
      rintro e w1 ⟨rfl, rfl⟩
      go_wp2_with fail
      refine (rmay_is c _ true _ Hm.out).mono ?_
      rintro e w1 ⟨rfl, rfl⟩
      go_wp2
      go_ret
      exact ⟨by first | rfl | (rw [K.out]; rfl), rfl⟩
set_option maxHeartbeats 4000000 in
theorem can_A (s : ByteArray) (a b c : Nat) (f r : Int) (w : World) (hs : 90 ≤ s.size) (ha : a < 90) (hb : b < 90) (hbk : s[a].toNat = c) (hk : kindN c = 65) (hf : (fileD a b : Int) = f) (hr : (rankD a b : Int) = r) :
    Calls Tryz.prog 165 #[.string s, .int .i64 (a : Int), .int .i64 (b : Int)] w (Says w (.bool ((f == 1) && (r == 1) && mayB c (b : Int)))) := by
  unfold Says
  have h0 : 0 ≤ f ∧ f ≤ 8 ∧ 0 ≤ r ∧ r ≤ 9 := by unfold fileD at hf; unfold rankD at hr; omega
  obtain ⟨f0, f8, r0, r9⟩ := h0
  have Hf := Lib.hid hf
  have Hr := Lib.hid hr
  have Hk := Lib.hid hk
  clear hf hr hk
  cases h1 : (f == 1)
  · have K := Lib.hid (show (false && (r == 1) && mayB c (b : Int)) = false by simp)
    go_enter Tryz.func165, Tryz.ntmps165
    go_wp2_with fail
    refine (raway_is _ _ _ _ (by omega) (by omega) (by omega) (by omega) (file_away.trans Hf.out)).mono ?_
    rintro e w1 ⟨rfl, rfl⟩
    go_wp2_with fail
    refine (raway_is _ _ _ _ (by omega) (by omega) (by omega) (by omega) (rank_away.trans Hr.out)).mono ?_
    rintro e w1 ⟨rfl, rfl⟩
    go_wp2_with fail
    refine (rkind_is c 65 _ Hk.out).mono ?_
    rintro e w1 ⟨rfl, rfl⟩
    go_wp2
    go_ret
    exact ⟨by first | rfl | (rw [K.out]; rfl), rfl⟩
  cases h2 : (r == 1)
  · have K := Lib.hid (show (true && false && mayB c (b : Int)) = false by simp)
    go_enter Tryz.func165, Tryz.ntmps165
    go_wp2_with fail
    refine (raway_is _ _ _ _ (by omega) (by omega) (by omega) (by omega) (file_away.trans Hf.out)).mono ?_
    rintro e w1 ⟨rfl, rfl⟩
    go_wp2_with fail
    refine (raway_is _ _ _ _ (by omega) (by omega) (by omega) (by omega) (rank_away.trans Hr.out)).mono ?_
    rintro e w1 ⟨rfl, rfl⟩
    go_wp2_with fail
    refine (rkind_is c 65 _ Hk.out).mono ?_
    rintro e w1 ⟨rfl, rfl⟩
    go_wp2
    go_ret
    exact ⟨by first | rfl | (rw [K.out]; rfl), rfl⟩
  cases hm : mayB c (b : Int)
  · have Hm := Lib.hid hm
    have K := Lib.hid (show (true && true && false) = false by rfl)
    clear hm
    go_enter Tryz.func165, Tryz.ntmps165
    go_wp2_with fail
    refine (raway_is _ _ _ _ (by omega) (by omega) (by omega) (by omega) (file_away.trans Hf.out)).mono ?_
    rintro e w1 ⟨rfl, rfl⟩
    go_wp2_with fail
    refine (raway_is _ _ _ _ (by omega) (by omega) (by omega) (by omega) (rank_away.trans Hr.out)).mono ?_
    rintro e w1 ⟨rfl, rfl⟩
    go_wp2_with fail
    refine (rkind_is c 65 _ Hk.out).mono ?_
    rintro e w1 ⟨rfl, rfl⟩
    go_wp2_with fail
    refine (rmay_is c _ false _ Hm.out).mono ?_
    rintro e w1 ⟨rfl, rfl⟩
    go_wp2
    go_ret
    exact ⟨by first | rfl | (rw [K.out]; rfl), rfl⟩
  · have Hm := Lib.hid hm
    have K := Lib.hid (show (true && true && true) = true by rfl)
    clear hm
    go_enter Tryz.func165, Tryz.ntmps165
    go_wp2_with fail
    refine (raway_is _ _ _ _ (by omega) (by omega) (by omega) (by omega) (file_away.trans Hf.out)).mono ?_
    rintro e w1 ⟨rfl, rfl⟩
    go_wp2_with fail
    refine (raway_is _ _ _ _ (by omega) (by omega) (by omega) (by omega) (rank_away.trans Hr.out)).mono ?_
    rintro e w1 ⟨rfl, rfl⟩
    go_wp2_with fail
    refine (rkind_is c 65 _ Hk.out).mono ?_
    rintro e w1 ⟨rfl, rfl⟩
    go_wp2_with fail
    refine (rmay_is c _ true _ Hm.out).mono ?_
    rintro e w1 ⟨rfl, rfl⟩
    go_wp2
    go_ret
    exact ⟨by first | rfl | (rw [K.out]; rfl), rfl⟩
set_option maxHeartbeats 4000000 in
theorem can_B (s : ByteArray) (a b c : Nat) (f r : Int) (w : World) (hs : 90 ≤ s.size) (ha : a < 90) (hb : b < 90) (hbk : s[a].toNat = c) (hk : kindN c = 66) (hf : (fileD a b : Int) = f) (hr : (rankD a b : Int) = r) :
    Calls Tryz.prog 165 #[.string s, .int .i64 (a : Int), .int .i64 (b : Int)] w (Says w (.bool ((f == 2) && (r == 2) && mayB c (b : Int) && (bAt s ((a + b) / 2) == 46)))) := by
  unfold Says
  have h0 : 0 ≤ f ∧ f ≤ 8 ∧ 0 ≤ r ∧ r ≤ 9 := by unfold fileD at hf; unfold rankD at hr; omega
  obtain ⟨f0, f8, r0, r9⟩ := h0
  have Hf := Lib.hid hf
  have Hr := Lib.hid hr
  have Hk := Lib.hid hk
  clear hf hr hk
  obtain ⟨x, hx⟩ : ∃ x, bAt s ((a + b) / 2) = x := ⟨_, rfl⟩
  have hks : (a + b) / 2 < s.size := by omega
  have hbm : s[(a + b) / 2].toNat = x := (bAt_eq s ((a + b) / 2) hks).trans hx
  rw [hx]
  have hX : (x == 46) = ((x : Int) == 46) := by rw [Bool.eq_iff_iff, beq_iff_eq, beq_iff_eq]; omega
  rw [hX]
  have HX := Lib.hid hX
  clear hx hX
  cases h1 : (f == 2)
  · have K := Lib.hid (show (false && (r == 2) && mayB c (b : Int) && ((x : Int) == 46)) = false by simp)
    go_enter Tryz.func165, Tryz.ntmps165
    go_wp2_with fail
    refine (raway_is _ _ _ _ (by omega) (by omega) (by omega) (by omega) (file_away.trans Hf.out)).mono ?_
    rintro e w1 ⟨rfl, rfl⟩
    go_wp2_with fail
    refine (raway_is _ _ _ _ (by omega) (by omega) (by omega) (by omega) (rank_away.trans Hr.out)).mono ?_
    rintro e w1 ⟨rfl, rfl⟩
    go_wp2_with fail
    refine (rkind_is c 66 _ Hk.out).mono ?_
    rintro e w1 ⟨rfl, rfl⟩
    go_wp2
    go_ret
    exact ⟨by first | rfl | (rw [K.out]; rfl), rfl⟩
  cases h2 : (r == 2)
  · have K := Lib.hid (show (true && false && mayB c (b : Int) && ((x : Int) == 46)) = false by simp)
    go_enter Tryz.func165, Tryz.ntmps165
    go_wp2_with fail
    refine (raway_is _ _ _ _ (by omega) (by omega) (by omega) (by omega) (file_away.trans Hf.out)).mono ?_
    rintro e w1 ⟨rfl, rfl⟩
    go_wp2_with fail
    refine (raway_is _ _ _ _ (by omega) (by omega) (by omega) (by omega) (rank_away.trans Hr.out)).mono ?_
    rintro e w1 ⟨rfl, rfl⟩
    go_wp2_with fail
    refine (rkind_is c 66 _ Hk.out).mono ?_
    rintro e w1 ⟨rfl, rfl⟩
    go_wp2
    go_ret
    exact ⟨by first | rfl | (rw [K.out]; rfl), rfl⟩
  cases hm : mayB c (b : Int)
  · have Hm := Lib.hid hm
    have K := Lib.hid (show (true && true && false && ((x : Int) == 46)) = false by simp)
    clear hm
    go_enter Tryz.func165, Tryz.ntmps165
    go_wp2_with fail
    refine (raway_is _ _ _ _ (by omega) (by omega) (by omega) (by omega) (file_away.trans Hf.out)).mono ?_
    rintro e w1 ⟨rfl, rfl⟩
    go_wp2_with fail
    refine (raway_is _ _ _ _ (by omega) (by omega) (by omega) (by omega) (rank_away.trans Hr.out)).mono ?_
    rintro e w1 ⟨rfl, rfl⟩
    go_wp2_with fail
    refine (rkind_is c 66 _ Hk.out).mono ?_
    rintro e w1 ⟨rfl, rfl⟩
    go_wp2_with fail
    refine (rmay_is c _ false _ Hm.out).mono ?_
    rintro e w1 ⟨rfl, rfl⟩
    go_wp2
    go_ret
    exact ⟨by first | rfl | (rw [K.out]; rfl), rfl⟩
  · have Hm := Lib.hid hm
    have K := Lib.hid (show (true && true && true && ((x : Int) == 46)) = ((x : Int) == 46) by rfl)
    clear hm
    go_enter Tryz.func165, Tryz.ntmps165
    go_wp2_with fail
    refine (raway_is _ _ _ _ (by omega) (by omega) (by omega) (by omega) (file_away.trans Hf.out)).mono ?_
    rintro e w1 ⟨rfl, rfl⟩
    go_wp2_with fail
    refine (raway_is _ _ _ _ (by omega) (by omega) (by omega) (by omega) (rank_away.trans Hr.out)).mono ?_
    rintro e w1 ⟨rfl, rfl⟩
    go_wp2_with fail
    refine (rkind_is c 66 _ Hk.out).mono ?_
    rintro e w1 ⟨rfl, rfl⟩
    go_wp2_with fail
    refine (rmay_is c _ true _ Hm.out).mono ?_
    rintro e w1 ⟨rfl, rfl⟩
    go_wp2
    go_ret
    exact ⟨by first | rfl | (rw [K.out]; rfl), rfl⟩
set_option maxHeartbeats 4000000 in
theorem can_R (s : ByteArray) (a b c : Nat) (f r : Int) (w : World) (hs : 90 ≤ s.size) (ha : a < 90) (hb : b < 90) (hbk : s[a].toNat = c) (hk : kindN c = 82) (hf : (fileD a b : Int) = f) (hr : (rankD a b : Int) = r) :
    Calls Tryz.prog 165 #[.string s, .int .i64 (a : Int), .int .i64 (b : Int)] w (Says w (.bool ((betweenI s a b == 0)))) := by
  unfold Says
  have h0 : 0 ≤ f ∧ f ≤ 8 ∧ 0 ≤ r ∧ r ≤ 9 := by unfold fileD at hf; unfold rankD at hr; omega
  obtain ⟨f0, f8, r0, r9⟩ := h0
  have Hf := Lib.hid hf
  have Hr := Lib.hid hr
  have Hk := Lib.hid hk
  clear hf hr hk
  obtain ⟨n, hn⟩ : ∃ n, betweenI s a b = n := ⟨_, rfl⟩
  have HN := Lib.hid hn
  rw [hn]
  clear hn
  have K : Hid (n = n) := rfl
  go_enter Tryz.func165, Tryz.ntmps165
  go_wp2_with fail
  refine (raway_is _ _ _ _ (by omega) (by omega) (by omega) (by omega) (file_away.trans Hf.out)).mono ?_
  rintro e w1 ⟨rfl, rfl⟩
  go_wp2_with fail
  refine (raway_is _ _ _ _ (by omega) (by omega) (by omega) (by omega) (rank_away.trans Hr.out)).mono ?_
  rintro e w1 ⟨rfl, rfl⟩
  go_wp2_with fail
  refine (rkind_is c 82 _ Hk.out).mono ?_
  rintro e w1 ⟨rfl, rfl⟩
  go_wp2_with fail
  refine (rbetween_is s a b _ _ hs ha hb HN.out).mono ?_
  rintro e w1 ⟨rfl, rfl⟩
  go_wp2
  go_ret
  exact ⟨by first | rfl | (rw [K.out]; rfl), rfl⟩
set_option maxHeartbeats 4000000 in
theorem can_N (s : ByteArray) (a b c : Nat) (f r : Int) (w : World) (hs : 90 ≤ s.size) (ha : a < 90) (hb : b < 90) (hbk : s[a].toNat = c) (hk : kindN c = 78) (hf : (fileD a b : Int) = f) (hr : (rankD a b : Int) = r) :
    Calls Tryz.prog 165 #[.string s, .int .i64 (a : Int), .int .i64 (b : Int)] w (Says w (.bool (horseB s a b))) := by
  unfold Says
  have Hf := Lib.hid hf
  have Hr := Lib.hid hr
  have Hk := Lib.hid hk
  clear hf hr hk
  go_enter Tryz.func165, Tryz.ntmps165
  go_wp2_with fail
  refine (raway_is _ _ _ _ (by omega) (by omega) (by omega) (by omega) (file_away.trans Hf.out)).mono ?_
  rintro e w1 ⟨rfl, rfl⟩
  go_wp2_with fail
  refine (raway_is _ _ _ _ (by omega) (by omega) (by omega) (by omega) (rank_away.trans Hr.out)).mono ?_
  rintro e w1 ⟨rfl, rfl⟩
  go_wp2_with fail
  refine (rkind_is c 78 _ Hk.out).mono ?_
  rintro e w1 ⟨rfl, rfl⟩
  go_wp2_with fail
  refine (rhorse_any s a b _ hs ha hb).mono ?_
  rintro e w1 ⟨rfl, rfl⟩
  go_wp2
  go_ret
  exact ⟨rfl, rfl⟩
set_option maxHeartbeats 4000000 in
theorem can_C (s : ByteArray) (a b c : Nat) (f r : Int) (w : World) (hs : 90 ≤ s.size) (ha : a < 90) (hb : b < 90) (hbk : s[a].toNat = c) (hk : kindN c = 67) (hf : (fileD a b : Int) = f) (hr : (rankD a b : Int) = r) :
    Calls Tryz.prog 165 #[.string s, .int .i64 (a : Int), .int .i64 (b : Int)] w (Says w (.bool ((betweenI s a b == 0 && (bAt s b == 46)) || (betweenI s a b == 1 && (bAt s b != 46))))) := by
  unfold Says
  have Hf := Lib.hid hf
  have Hr := Lib.hid hr
  have Hk := Lib.hid hk
  clear hf hr hk
  obtain ⟨n, hn⟩ : ∃ n, betweenI s a b = n := ⟨_, rfl⟩
  obtain ⟨x, hx⟩ : ∃ x, bAt s b = x := ⟨_, rfl⟩
  have hks : b < s.size := by omega
  have hbl : s[b].toNat = x := (bAt_eq s b hks).trans hx
  have e1 : (x == 46) = ((x : Int) == 46) := by rw [Bool.eq_iff_iff, beq_iff_eq, beq_iff_eq]; omega
  have e2 : (x != 46) = ((x : Int) != 46) := by rw [bne, e1]; rfl
  rw [hn, hx, e1, e2]
  have HN := Lib.hid hn
  obtain ⟨V, hV⟩ : ∃ V, ((n == 0 && ((x : Int) == 46)) || (n == 1 && ((x : Int) != 46))) = V := ⟨_, rfl⟩
  rw [hV]
  have HV := Lib.hid hV
  clear hn hx e1 e2 hV
  have hc : ((n == 0) = true ∧ (n == 1) = false) ∨ ((n == 0) = false ∧ (n == 1) = true) ∨ ((n == 0) = false ∧ (n == 1) = false) := by
    cases e1 : (n == 0) <;> cases e2 : (n == 1) <;> simp_all
  rcases hc with ⟨c1, c2⟩ | ⟨c1, c2⟩ | ⟨c1, c2⟩
  all_goals
    cases c3 : ((x : Int) == 46)
    all_goals
      have c4 : ((x : Int) != 46) = _ := congrArg not c3
      have hv := HV.out.symm
      rw [c1, c2, c3, c4] at hv
      have K := Lib.hid hv
      simp only [Bool.not_false, Bool.not_true] at c4
      clear hv
      go_enter Tryz.func165, Tryz.ntmps165
      go_wp2_with fail
      refine (raway_is _ _ _ _ (by omega) (by omega) (by omega) (by omega) (file_away.trans Hf.out)).mono ?_
      rintro e w1 ⟨rfl, rfl⟩
      go_wp2_with fail
      refine (raway_is _ _ _ _ (by omega) (by omega) (by omega) (by omega) (rank_away.trans Hr.out)).mono ?_
      rintro e w1 ⟨rfl, rfl⟩
      go_wp2_with fail
      refine (rkind_is c 67 _ Hk.out).mono ?_
      rintro e w1 ⟨rfl, rfl⟩
      go_wp2_with fail
      refine (rbetween_is s a b _ _ hs ha hb HN.out).mono ?_
      rintro e w1 ⟨rfl, rfl⟩
      go_wp2
      go_ret
      exact ⟨by first | rfl | (rw [K.out]; rfl), rfl⟩
set_option maxHeartbeats 4000000 in
theorem can_P (s : ByteArray) (a b c : Nat) (f r : Int) (w : World) (hs : 90 ≤ s.size) (ha : a < 90) (hb : b < 90) (hbk : s[a].toNat = c) (hk : kindN c = 80) (hsd : sideN c = 0 ∨ sideN c = 1) (hf : (fileD a b : Int) = f) (hr : (rankD a b : Int) = r) :
    Calls Tryz.prog 165 #[.string s, .int .i64 (a : Int), .int .i64 (b : Int)] w (Says w (.bool (pawnB c a b))) := by
  unfold Says
  have Hf := Lib.hid hf
  have Hr := Lib.hid hr
  have Hk := Lib.hid hk
  have P : Hid (∃ d : Int, sideN c = d ∧ ∀ W, Calls Tryz.prog 215 #[.int .i64 d, .int .i64 (a : Int), .int .i64 (b : Int)] W (Says W (.bool (pawnB c a b)))) := by
    rcases hsd with h | h
    · exact ⟨0, h, fun W => rpawn_0 a b c W ha hb h⟩
    · exact ⟨1, h, fun W => rpawn_1 a b c W ha hb h⟩
  obtain ⟨d, hd, hp⟩ := P.out
  have Hs := Lib.hid hd
  have Hp := Lib.hid hp
  clear hf hr hk hsd P hd hp
  go_enter Tryz.func165, Tryz.ntmps165
  go_wp2_with fail
  refine (raway_is _ _ _ _ (by omega) (by omega) (by omega) (by omega) (file_away.trans Hf.out)).mono ?_
  rintro e w1 ⟨rfl, rfl⟩
  go_wp2_with fail
  refine (raway_is _ _ _ _ (by omega) (by omega) (by omega) (by omega) (rank_away.trans Hr.out)).mono ?_
  rintro e w1 ⟨rfl, rfl⟩
  go_wp2_with fail
  refine (rkind_is c 80 _ Hk.out).mono ?_
  rintro e w1 ⟨rfl, rfl⟩
  go_wp2_with fail
  refine (rside_is c _ _ Hs.out).mono ?_
  rintro e w1 ⟨rfl, rfl⟩
  go_wp2_with fail
  refine (Hp.out _).mono ?_
  rintro e w1 ⟨rfl, rfl⟩
  go_wp2
  go_ret
  exact ⟨rfl, rfl⟩
theorem line_zero5 {s : ByteArray} {a b : Nat} : (betweenI s a b == 0) = (lineB a b && (betweenN s a b == 0)) := by
  unfold betweenI
  cases lineB a b
  · rfl
  · rw [if_pos rfl, Bool.true_and, Bool.eq_iff_iff, beq_iff_eq, beq_iff_eq]
    exact Int.ofNat_inj
theorem line_one5 {s : ByteArray} {a b : Nat} : (betweenI s a b == 1) = (lineB a b && (betweenN s a b == 1)) := by
  unfold betweenI
  cases lineB a b
  · rfl
  · rw [if_pos rfl, Bool.true_and, Bool.eq_iff_iff, beq_iff_eq, beq_iff_eq]
    exact Int.ofNat_inj (n := 1)
theorem file_one5 {a b : Nat} {n : Nat} : (((fileD a b : Nat) : Int) == (n : Int)) = (fileD a b == n) := by rw [Bool.eq_iff_iff, beq_iff_eq, beq_iff_eq]; omega
theorem rank_one5 {a b : Nat} {n : Nat} : (((rankD a b : Nat) : Int) == (n : Int)) = (rankD a b == n) := by rw [Bool.eq_iff_iff, beq_iff_eq, beq_iff_eq]; omega
theorem sum_one5 {a b : Nat} : (((fileD a b : Nat) : Int) + ((rankD a b : Nat) : Int) == 1) = (fileD a b + rankD a b == 1) := by rw [Bool.eq_iff_iff, beq_iff_eq, beq_iff_eq]; omega
theorem rcan_any (s : ByteArray) (a b : Nat) (w : World) (hs : 90 ≤ s.size) (ha : a < 90) (hb : b < 90) (h : 0 ≤ sideN (bAt s a)) :
    Calls Tryz.prog 165 #[.string s, .int .i64 (a : Int), .int .i64 (b : Int)] w (Says w (.bool (goesB s (bAt s a) a b))) := by
  have hk := bAt_eq s a (by omega)
  unfold goesB
  rcases kinds_of h with e | e | e | e | e | e | e
  · rw [if_pos e, ← sum_one5]
    exact can_K s a b _ _ _ w hs ha hb hk e rfl rfl
  · rw [if_neg (by omega), if_pos e, ← @file_one5 a b 1, ← @rank_one5 a b 1]
    exact can_A s a b _ _ _ w hs ha hb hk e rfl rfl
  · rw [if_neg (by omega), if_neg (by omega), if_pos e, ← @file_one5 a b 2, ← @rank_one5 a b 2]
    exact can_B s a b _ _ _ w hs ha hb hk e rfl rfl
  · rw [if_neg (by omega), if_neg (by omega), if_neg (by omega), if_pos e]
    exact can_N s a b _ _ _ w hs ha hb hk e rfl rfl
  · rw [if_neg (by omega), if_neg (by omega), if_neg (by omega), if_neg (by omega), if_pos e, ← line_zero5]
    exact can_R s a b _ _ _ w hs ha hb hk e rfl rfl
  · rw [if_neg (by omega), if_neg (by omega), if_neg (by omega), if_neg (by omega), if_neg (by omega), if_pos e, Bool.and_or_distrib_left, ← Bool.and_assoc, ← Bool.and_assoc, ← line_zero5, ← line_one5]
    exact can_C s a b _ _ _ w hs ha hb hk e rfl rfl
  · rw [if_neg (by omega), if_neg (by omega), if_neg (by omega), if_neg (by omega), if_neg (by omega), if_neg (by omega)]
    exact can_P s a b _ _ _ w hs ha hb hk e (side_cases01 h) rfl rfl
set_option maxHeartbeats 4000000 in
theorem fast_any (s : ByteArray) (a b : Nat) (w : World) (hs : 90 ≤ s.size) (ha : a < 90) (hb : b < 90) :
    Calls Tryz.prog 112 #[.string s, .int .i64 (a : Int), .int .i64 (b : Int)] w (Says w (.bool (canB s a b))) := by
  unfold Says
  have hca := rcan_any s a b w hs ha hb
  obtain ⟨c, hc⟩ : ∃ c, bAt s a = c := ⟨_, rfl⟩
  obtain ⟨x, hx⟩ : ∃ x, bAt s b = x := ⟨_, rfl⟩
  have hks : a < s.size := by omega
  have hbk : s[a].toNat = c := (bAt_eq s a hks).trans hc
  have hks2 : b < s.size := by omega
  have hbl : s[b].toNat = x := (bAt_eq s b hks2).trans hx
  obtain ⟨d, hd⟩ : ∃ d, sideN c = d := ⟨_, rfl⟩
  obtain ⟨y, hy⟩ : ∃ y, sideN x = y := ⟨_, rfl⟩
  have Hd := Lib.hid hd
  have Hy := Lib.hid hy
  by_cases h0 : 0 ≤ d
  · have e0 : decide (d < 0) = false := by simp; omega
    by_cases h1 : y = d
    · have e1 : (y == d) = true := by rw [beq_iff_eq]; exact h1
      have K : Hid (canB s a b = false) := by show _ = _; unfold canB; rw [hc, hx, hd, hy, h1]; simp
      clear hca hc hx hd hy h1
      go_enter Tryz.func112, Tryz.ntmps112
      go_wp2_with fail
      refine (rside_is c _ _ Hd.out).mono ?_
      rintro e w1 ⟨rfl, rfl⟩
      go_wp2_with fail
      refine (rside_is x _ _ Hy.out).mono ?_
      rintro e w1 ⟨rfl, rfl⟩
      go_wp2
      go_ret
      exact ⟨by rw [K.out]; rfl, rfl⟩
    · have e1 : (y == d) = false := by rw [beq_eq_false_iff_ne]; exact h1
      have K : Hid (canB s a b = goesB s (bAt s a) a b) := by show _ = _; unfold canB; rw [hc, hx, hd, hy, decide_eq_true h0, show (y != d) = true by rw [bne_iff_ne]; exact h1]; rfl
      have C := Lib.hid (hca (by rw [hc, hd]; exact h0))
      clear hca hc hx hd hy h1
      go_enter Tryz.func112, Tryz.ntmps112
      go_wp2_with fail
      refine (rside_is c _ _ Hd.out).mono ?_
      rintro e w1 ⟨rfl, rfl⟩
      go_wp2_with fail
      refine (rside_is x _ _ Hy.out).mono ?_
      rintro e w1 ⟨rfl, rfl⟩
      go_wp2_with fail
      refine C.out.mono ?_
      rintro e w1 ⟨rfl, rfl⟩
      go_wp2
      go_ret
      exact ⟨by rw [K.out]; rfl, rfl⟩
  · have e0 : decide (d < 0) = true := by simp; omega
    have K : Hid (canB s a b = false) := by show _ = _; unfold canB; rw [hc, hd, decide_eq_false h0]; simp
    clear hca hc hx hd hy h0
    go_enter Tryz.func112, Tryz.ntmps112
    go_wp2_with fail
    refine (rside_is c _ _ Hd.out).mono ?_
    rintro e w1 ⟨rfl, rfl⟩
    go_wp2
    go_ret
    exact ⟨by rw [K.out]; rfl, rfl⟩
theorem fast_is (s : ByteArray) (a b : Nat) (v : Bool) (w : World) (hs : 90 ≤ s.size) (ha : a < 90) (hb : b < 90) (h : canB s a b = v) :
    Calls Tryz.prog 112 #[.string s, .int .i64 (a : Int), .int .i64 (b : Int)] w (Says w (.bool v)) := by subst h; exact fast_any s a b w hs ha hb
theorem ris5_is (s : ByteArray) (b : Bool) (w : World) (h : isB s = b) : Calls Tryz.prog 116 #[.string s] w (Says w (.bool b)) := by subst h; exact ris_any s w
theorem rBetween_any (s : ByteArray) (a b : Int) (w : World) : Calls Tryz.prog 139 #[.string s, .int .i64 a, .int .i64 b] w (Says w (.int .i64 (betweenV s a b))) := by
  unfold Says
  cases hi : isB s
  · have K : Hid (betweenV s a b = -1) := by show _ = _; unfold betweenV; rw [hi]; rfl
    have B := Lib.hid hi
    clear hi
    go_enter Tryz.func139, Tryz.ntmps139
    go_wp2_with fail
    refine (ris5_is s false _ B.out).mono ?_
    rintro e w1 ⟨rfl, rfl⟩
    go_wp2
    go_ret
    exact ⟨by rw [K.out]; rfl, rfl⟩
  cases h1 : sqI a
  · have K : Hid (betweenV s a b = -1) := by show _ = _; unfold betweenV; rw [h1]; simp
    have B := Lib.hid hi
    have S1 := Lib.hid h1
    clear hi h1
    go_enter Tryz.func139, Tryz.ntmps139
    go_wp2_with fail
    refine (ris5_is s true _ B.out).mono ?_
    rintro e w1 ⟨rfl, rfl⟩
    go_wp2_with fail
    refine (rreal5_is a false _ S1.out).mono ?_
    rintro e w1 ⟨rfl, rfl⟩
    go_wp2
    go_ret
    exact ⟨by rw [K.out]; rfl, rfl⟩
  cases h2 : sqI b
  · have K : Hid (betweenV s a b = -1) := by show _ = _; unfold betweenV; rw [h2]; simp
    have B := Lib.hid hi
    have S1 := Lib.hid h1
    have S2 := Lib.hid h2
    clear hi h1 h2
    go_enter Tryz.func139, Tryz.ntmps139
    go_wp2_with fail
    refine (ris5_is s true _ B.out).mono ?_
    rintro e w1 ⟨rfl, rfl⟩
    go_wp2_with fail
    refine (rreal5_is a true _ S1.out).mono ?_
    rintro e w1 ⟨rfl, rfl⟩
    go_wp2_with fail
    refine (rreal5_is b false _ S2.out).mono ?_
    rintro e w1 ⟨rfl, rfl⟩
    go_wp2
    go_ret
    exact ⟨by rw [K.out]; rfl, rfl⟩
  · obtain ⟨p, q⟩ := sqI_in h1
    obtain ⟨p2, q2⟩ := sqI_in h2
    obtain ⟨m, rfl⟩ : ∃ m : Nat, a = m := ⟨a.toNat, by omega⟩
    obtain ⟨n, rfl⟩ : ∃ n : Nat, b = n := ⟨b.toNat, by omega⟩
    have K : Hid (betweenV s m n = betweenI s m n) := by show _ = _; unfold betweenV; rw [hi, h1, h2]; rfl
    have hz := isB_size hi
    have B := Lib.hid hi
    have S1 := Lib.hid h1
    have S2 := Lib.hid h2
    clear hi h1 h2
    go_enter Tryz.func139, Tryz.ntmps139
    go_wp2_with fail
    refine (ris5_is s true _ B.out).mono ?_
    rintro e w1 ⟨rfl, rfl⟩
    go_wp2_with fail
    refine (rreal5_is _ true _ S1.out).mono ?_
    rintro e w1 ⟨rfl, rfl⟩
    go_wp2_with fail
    refine (rreal5_is _ true _ S2.out).mono ?_
    rintro e w1 ⟨rfl, rfl⟩
    go_wp2_with fail
    refine (rbetween_any s m n _ (by omega) (by omega) (by omega)).mono ?_
    rintro e w1 ⟨rfl, rfl⟩
    go_wp2
    go_ret
    exact ⟨by rw [K.out]; rfl, rfl⟩
theorem rBetween_is (s : ByteArray) (a b k : Int) (w : World) (h : betweenV s a b = k) : Calls Tryz.prog 139 #[.string s, .int .i64 a, .int .i64 b] w (Says w (.int .i64 k)) := by subst h; exact rBetween_any s a b w
end Go.Proofs.YtpogpjebhnoncaaGreatDoor
namespace Go.Proofs.YtpogpjebhnoncaaGreatDoor
open Go.RowKit Go.Shelf
open M (S)
theorem own_mono {w : World} {base base' : Nat} {e : TypeId} {size : Nat} {v : Value} {n : Nat} {xs : List Value} (h : w.ownsRow base e size v n xs) (hb : base' ≤ base) : w.ownsRow base' e size v n xs := by
  refine ⟨h.1, ?_⟩
  rcases h.2 with h2 | ⟨g, cap, cur, hv, hg, hr⟩
  · exact .inl h2
  · exact .inr ⟨g, cap, cur, hv, Nat.le_trans hb hg, hr⟩
def RowAt (w : World) (base : Nat) (e : TypeId) (k g n cap : Nat) (xs : List Value) : Prop :=
  xs.length = n * k ∧ base ≤ g ∧ n ≤ cap ∧ cap ≤ maxLen ∧ ∃ cur : Array Value, w.heap[g]? = some (.cells cur e (0, 0)) ∧ cur.size = cap * k ∧ cur.toList.take (n * k) = xs
theorem RowAt.own {w : World} {base : Nat} {e : TypeId} {k g n cap : Nat} {xs : List Value} (h : RowAt w base e k g n cap xs) : w.ownsRow base e k (.slice (some ⟨g, 0, none⟩) n cap) n xs := by
  obtain ⟨h1, h2, h3, h4, cur, h5, h6, h7⟩ := h
  exact ⟨h1, .inr ⟨g, cap, cur, rfl, h2, h5, h3, h4, h6, h7⟩⟩
theorem row_of_own {w : World} {base : Nat} {e : TypeId} {k n : Nat} {v : Value} {xs : List Value} (h : w.ownsRow base e k v n xs) : (v = .slice none 0 0 ∧ n = 0) ∨ ∃ g cap, v = .slice (some ⟨g, 0, none⟩) n cap ∧ RowAt w base e k g n cap xs := by
  obtain ⟨h1, h2⟩ := h
  rcases h2 with h2 | ⟨g, cap, cur, hv, hg, hc, hn, hm, hs, ht⟩
  · exact .inl h2
  · exact .inr ⟨g, cap, hv, h1, hg, hn, hm, cur, hc, hs, ht⟩
theorem RowAt.lt {w : World} {base : Nat} {e : TypeId} {k g n cap : Nat} {xs : List Value} (h : RowAt w base e k g n cap xs) : g < w.heap.size := by
  obtain ⟨_, _, _, _, cur, h5, _⟩ := h
  exact (Array.getElem?_eq_some_iff.1 h5).1
theorem RowAt.next {w w' : World} {base : Nat} {e : TypeId} {k g n cap : Nat} {xs : List Value} (h : RowAt w base e k g n cap xs) (hb : Below w.heap.size w w') : RowAt w' base e k g n cap xs := by
  have hl := h.lt
  obtain ⟨h1, h2, h3, h4, cur, h5, h6, h7⟩ := h
  exact ⟨h1, h2, h3, h4, cur, (hb.block g hl).trans h5, h6, h7⟩
theorem RowAt.cell {w : World} {base : Nat} {e : TypeId} {k g n cap : Nat} {xs : List Value} (h : RowAt w base e k g n cap xs) {q : Nat} (hq : q < n * k) : w.cell? ⟨g, q, none⟩ = xs[q]? := by
  obtain ⟨h1, h2, h3, h4, cur, h5, h6, h7⟩ := h
  have hb : Blk w g e cur := h5
  rw [hb.cell q, ← h7, List.getElem?_take, if_pos hq, Array.getElem?_toList]
theorem RowAt.frozen {w : World} {base : Nat} {e : TypeId} {k g n cap : Nat} {xs : List Value} (h : RowAt w base e k g n cap xs) (q : Nat) : w.frozen? ⟨g, q, none⟩ = false := by
  obtain ⟨h1, h2, h3, h4, cur, h5, h6, h7⟩ := h
  have hb : Blk w g e cur := h5
  exact hb.frozen q
theorem RowAt.set {w : World} {base : Nat} {e : TypeId} {k g n cap : Nat} {xs : List Value} (h : RowAt w base e k g n cap xs) (q : Nat) (u : Value) : RowAt (w.setCell ⟨g, q, none⟩ u) base e k g n cap (xs.set q u) := by
  obtain ⟨h1, h2, h3, h4, cur, h5, h6, h7⟩ := h
  have hb : Blk w g e cur := h5
  refine ⟨by rw [List.length_set]; exact h1, h2, h3, h4, cur.setIfInBounds q u, hb.set_ q u, by rw [Array.size_setIfInBounds]; exact h6, ?_⟩
  rw [Array.toList_setIfInBounds, List.take_set, h7]
theorem RowAt.below {w w0 : World} {base : Nat} {e : TypeId} {k g n cap : Nat} {xs : List Value} (h : RowAt w base e k g n cap xs) (hb : Below base w0 w) (q : Nat) (u : Value) : Below base w0 (w.setCell ⟨g, q, none⟩ u) := hb.setCell (p := ⟨g, q, none⟩) h.2.1 u
theorem RowAt.cut {w : World} {base : Nat} {e : TypeId} {k g n cap : Nat} {xs : List Value} (h : RowAt w base e k g n cap xs) {i : Nat} (hi : i ≤ n) : RowAt w base e k g i cap (xs.take (i * k)) := by
  obtain ⟨h1, h2, h3, h4, cur, h5, h6, h7⟩ := h
  have hik : i * k ≤ n * k := Nat.mul_le_mul_right k hi
  refine ⟨by rw [List.length_take]; omega, h2, by omega, h4, cur, h5, h6, ?_⟩
  rw [← h7, List.take_take, Nat.min_eq_left hik]
theorem RowAt.sets {base : Nat} {e : TypeId} {k g n cap : Nat} {w0 : World} : ∀ (us : List Value) (o : Nat) (w : World) (xs : List Value), RowAt w base e k g n cap xs → Below base w0 w → ∃ ys, RowAt (w.setCells g o us) base e k g n cap ys ∧ ys.take o = xs.take o ∧ Below base w0 (w.setCells g o us)
  | [], _, _, xs, h, hb => ⟨xs, h, rfl, hb⟩
  | u :: us, o, w, xs, h, hb => by
    obtain ⟨ys, h1, h2, h3⟩ := RowAt.sets us (o + 1) _ _ (h.set o u) (h.below hb o u)
    refine ⟨ys, h1, ?_, h3⟩
    have : ys.take o = (ys.take (o + 1)).take o := by rw [List.take_take, Nat.min_eq_left (by omega)]
    rw [this, h2, List.take_take, Nat.min_eq_left (by omega), List.take_set, List.set_eq_of_length_le (by rw [List.length_take]; omega)]

-- the list's side
section
variable {α : Type} {enc : α → List Value} {k : Nat}
def Mid (enc : α → List Value) (k : Nat) (p : α → Bool) (l : List α) (i j : Nat) (xs : List Value) : Prop :=
  i = ((l.take j).filter fun x => !p x).length ∧ j ≤ l.length ∧ i ≤ j ∧ ∃ J, J.length = (j - i) * k ∧ xs = ((l.take j).filter fun x => !p x).flatMap enc ++ J ++ (l.drop j).flatMap enc
theorem flat_len (hk : ∀ x, (enc x).length = k) (l : List α) : (l.flatMap enc).length = l.length * k := by
  induction l with
  | nil => simp
  | cons x l ih => rw [List.flatMap_cons, List.length_append, hk, ih, List.length_cons, Nat.add_mul]; omega
theorem flat_at (hk : ∀ x, (enc x).length = k) (l : List α) {j o : Nat} (hj : j < l.length) (ho : o < k) : (l.flatMap enc)[j * k + o]? = (enc l[j])[o]? := by
  induction l generalizing j with
  | nil => exact absurd hj (Nat.not_lt_zero _)
  | cons x l ih =>
    rw [List.flatMap_cons]
    cases j with
    | zero => rw [List.getElem?_append_left (by rw [hk]; omega), Nat.zero_mul, Nat.zero_add]; rfl
    | succ j =>
      rw [List.getElem?_append_right (by rw [hk, Nat.add_mul]; omega), hk, show (j + 1) * k + o - k = j * k + o by rw [Nat.add_mul]; omega, ih (by simpa using hj)]
      rfl
theorem Mid.start (hk : ∀ x, (enc x).length = k) {p : α → Bool} {l : List α} {i : Nat} (hi : i < l.length) (hp : p l[i] = true) (hne : ∀ t (ht : t < i), p l[t] = false) : Mid enc k p l i (i + 1) (l.flatMap enc) := by
  have h1 : (l.take i).filter (fun x => !p x) = l.take i := by
    rw [List.filter_eq_self]
    intro a ha
    obtain ⟨t, ht, rfl⟩ := List.mem_iff_getElem.1 ha
    rw [List.length_take] at ht
    rw [List.getElem_take, hne t (by omega)]
    rfl
  have h2 : (l.take (i + 1)).filter (fun x => !p x) = l.take i := by
    rw [List.take_succ_eq_append_getElem hi, List.filter_append, h1]
    simp [hp]
  refine ⟨by rw [h2, List.length_take]; omega, by omega, by omega, enc l[i], by rw [hk]; simp, ?_⟩
  rw [h2]
  conv => lhs; rw [← List.take_append_drop (i + 1) l, List.flatMap_append, List.take_succ_eq_append_getElem hi, List.flatMap_append]
  simp
theorem Mid.at_ (hk : ∀ x, (enc x).length = k) {p : α → Bool} {l : List α} {i j : Nat} {xs : List Value} (h : Mid enc k p l i j xs) (hj : j < l.length) {o : Nat} (ho : o < k) : xs[j * k + o]? = (enc l[j])[o]? := by
  obtain ⟨h1, h2, h3, J, h4, rfl⟩ := h
  have hl : (((l.take j).filter fun x => !p x).flatMap enc ++ J).length = j * k := by
    rw [List.length_append, flat_len hk, ← h1, h4, ← Nat.add_mul]
    congr 1
    omega
  rw [List.getElem?_append_right (by rw [hl]; omega), hl, show j * k + o - j * k = o by omega]
  have h5 := flat_at hk (l.drop j) (j := 0) (o := o) (by rw [List.length_drop]; omega) ho
  rw [Nat.zero_mul, Nat.zero_add] at h5
  rw [h5, List.getElem_drop]
  rfl
theorem Mid.skip {p : α → Bool} {l : List α} {i j : Nat} {xs : List Value} (hk : ∀ x, (enc x).length = k) (h : Mid enc k p l i j xs) (hj : j < l.length) (hp : p l[j] = true) : Mid enc k p l i (j + 1) xs := by
  obtain ⟨h1, h2, h3, J, h4, rfl⟩ := h
  have h5 : (l.take (j + 1)).filter (fun x => !p x) = (l.take j).filter fun x => !p x := by
    rw [List.take_succ_eq_append_getElem hj, List.filter_append]
    simp [hp]
  refine ⟨by rw [h5]; exact h1, by omega, by omega, J ++ enc l[j], ?_, ?_⟩
  · rw [List.length_append, h4, hk, show j + 1 - i = (j - i) + 1 by omega, Nat.add_mul]
    omega
  · rw [h5, List.drop_eq_getElem_cons hj, List.flatMap_cons]
    simp
def puts : List Value → Nat → List Value → List Value
  | xs, _, [] => xs
  | xs, o, u :: us => puts (xs.set o u) (o + 1) us
theorem puts_mid (A : List Value) : ∀ (us J D : List Value), us.length ≤ J.length → puts (A ++ J ++ D) A.length us = A ++ us ++ J.drop us.length ++ D := by
  intro us
  induction us generalizing A with
  | nil => intro J D _; simp [puts]
  | cons u us ih =>
    intro J D h
    cases J with
    | nil => simp at h
    | cons y J =>
      have h1 : (A ++ y :: J ++ D).set A.length u = (A ++ [u]) ++ J ++ D := by
        rw [List.append_assoc, List.set_append_right _ _ (by omega), Nat.sub_self]
        simp
      have h2 := ih (A ++ [u]) J D (by simpa using h)
      rw [List.length_append] at h2
      rw [puts, h1]
      rw [show A.length + 1 = A.length + [u].length from rfl, h2]
      simp
theorem Mid.keep {p : α → Bool} {l : List α} {i j : Nat} {xs : List Value} (hk : ∀ x, (enc x).length = k) (h : Mid enc k p l i j xs) (hij : i < j) (hj : j < l.length) (hp : p l[j] = false) : Mid enc k p l (i + 1) (j + 1) (puts xs (i * k) (enc l[j])) := by
  obtain ⟨h1, h2, h3, J, h4, rfl⟩ := h
  have h5 : (l.take (j + 1)).filter (fun x => !p x) = ((l.take j).filter fun x => !p x) ++ [l[j]] := by
    rw [List.take_succ_eq_append_getElem hj, List.filter_append]
    simp [hp]
  have hA : (((l.take j).filter fun x => !p x).flatMap enc).length = i * k := by rw [flat_len hk, ← h1]
  have hJ : k ≤ J.length := by
    rw [h4]
    exact Nat.le_trans (by omega) (Nat.mul_le_mul_right k (show 1 ≤ j - i by omega))
  refine ⟨by rw [h5, List.length_append, ← h1]; rfl, by omega, by omega, J.drop k ++ enc l[j], ?_, ?_⟩
  · rw [List.length_append, List.length_drop, hk, h4]
    have : (j + 1 - (i + 1)) * k = (j - i) * k := by congr 1; omega
    omega
  · rw [h5, ← hA, puts_mid _ _ J _ (by rw [hk]; exact hJ), List.drop_eq_getElem_cons hj, List.flatMap_cons, List.flatMap_append, hk]
    simp
theorem Mid.done {p : α → Bool} {l : List α} {i : Nat} {xs : List Value} (hk : ∀ x, (enc x).length = k) (h : Mid enc k p l i l.length xs) : i = (l.filter fun x => !p x).length ∧ xs.take (i * k) = (l.filter fun x => !p x).flatMap enc := by
  obtain ⟨h1, h2, h3, J, h4, rfl⟩ := h
  rw [List.take_length] at h1 ⊢
  refine ⟨h1, ?_⟩
  rw [List.append_assoc, List.take_left' (by rw [flat_len hk, ← h1])]
end
end Go.Proofs.YtpogpjebhnoncaaGreatDoor
namespace Go.Proofs.YtpogpjebhnoncaaGreatDoor
open Go.RowKit Go.Shelf
open M (S)
def mvs (l : List (Nat × Nat)) : List Value := l.flatMap fun m => [iv m.1, iv m.2]
theorem mvs_app (l r : List (Nat × Nat)) : mvs (l ++ r) = mvs l ++ mvs r := by unfold mvs; rw [List.flatMap_append]
theorem mvs_at (l : List (Nat × Nat)) (k : Nat) (h : k < l.length) : (mvs l)[2 * k]? = some (iv l[k].1) ∧ (mvs l)[2 * k + 1]? = some (iv l[k].2) := by
  induction l generalizing k with
  | nil => exact absurd h (Nat.not_lt_zero k)
  | cons m l ih =>
    cases k with
    | zero => exact ⟨rfl, rfl⟩
    | succ k =>
      have := ih k (by simpa using h)
      rw [show 2 * (k + 1) = 2 * k + 1 + 1 by omega]
      exact this
def GivesM (w : World) (l : List (Nat × Nat)) (n : Nat) (e : Ending) (w' : World) : Prop := ∃ A c, e = .returned (.slice A n c) ∧ Rd w' A (mvs l) ∧ Below w.heap.size w w'
def OwnM (w : World) (l : List (Nat × Nat)) (n : Nat) (e : Ending) (w' : World) : Prop := ∃ v, e = .returned v ∧ w'.ownsRow w.heap.size 54 2 v n (mvs l) ∧ Below w.heap.size w w'
theorem Rd.owns {w : World} {base : Nat} {e : TypeId} {size : Nat} {A : Option Addr} {n c : Nat} {xs : List Value} (h : w.ownsRow base e size (.slice A n c) n xs) : Rd w A xs := fun j u hu => by
  have h1 := h.1
  have h2 := (List.getElem?_eq_some_iff.1 hu).1
  rcases h.2 with ⟨hv, rfl⟩ | ⟨g, cap, cur, hv, _, hb, hn, hm, hs, ht⟩
  · simp at h1
    simp [h1] at h2
  · injection hv with hA _ hc
    subst hA
    refine ⟨_, rfl, ?_⟩
    rw [show (Addr.add ⟨g, 0, none⟩ j) = ⟨g, j, none⟩ by simp [Addr.add]; omega]
    have hb' : w.heap[g]? = some (.cells cur e (0, 0)) := hb
    have : w.cell? ⟨g, j, none⟩ = cur[j]? := by simp [World.cell?, hb']
    rw [this, ← Array.getElem?_toList]
    rw [← ht, List.getElem?_take] at hu
    split at hu
    · exact hu
    · cases hu
theorem owns_slice {w : World} {base : Nat} {e : TypeId} {size : Nat} {v : Value} {n : Nat} {xs : List Value} (h : w.ownsRow base e size v n xs) : ∃ A c, v = .slice A n c := by
  rcases h.2 with ⟨rfl, rfl⟩ | ⟨g, cap, cur, rfl, _⟩
  · exact ⟨_, _, rfl⟩
  · exact ⟨_, _, rfl⟩
theorem cells_two_new (w : World) (x y : Value) (t : TypeId) : ∀ j u, [x, y][j]? = some u → (w.alloc (.cells #[x, y] t)).cell? ((⟨w.heap.size, 0, none⟩ : Addr).add j) = some u := by
  intro j u hj
  rw [show (Addr.add ⟨w.heap.size, 0, none⟩ j) = ⟨w.heap.size, j, none⟩ by simp [Addr.add]; omega, (Blk.new w t #[x, y] rfl).cell j]
  simpa using hj
theorem info_move : (Tryz.prog.info? 54).map (fun i => (i.zero, i.size, i.bytes)) = some (some (.agg #[.int .i64 0, .int .i64 0]), 2, 16) := by kernel_rfl
def movesTo (s : ByteArray) (side : Int) (k : Nat) : List (Nat × Nat) := (List.range k).flatMap (movesOf s side)
theorem movesTo_succ (s : ByteArray) (side : Int) (k : Nat) : movesTo s side (k + 1) = movesTo s side k ++ movesOf s side k := by unfold movesTo; rw [List.range_succ, List.flatMap_append]; simp
def goTo (s : ByteArray) (a k : Nat) : List (Nat × Nat) := ((List.range k).filter fun b => canB s a b).map fun b => (a, b)
theorem goTo_succ (s : ByteArray) (a k : Nat) : goTo s a (k + 1) = if canB s a k then goTo s a k ++ [(a, k)] else goTo s a k := by
  unfold goTo
  rw [List.range_succ, List.filter_append]
  cases h : canB s a k <;> simp [h]
theorem goTo_len (s : ByteArray) (a k : Nat) : (goTo s a k).length ≤ k := by
  unfold goTo
  rw [List.length_map]
  exact Nat.le_trans (List.length_filter_le _ _) (by simp)
theorem movesOf_yes {s : ByteArray} {side : Int} {a : Nat} (h : sideN (bAt s a) = side) : movesOf s side a = goTo s a 90 := by unfold movesOf goTo reachN; rw [if_pos h]
theorem movesOf_no {s : ByteArray} {side : Int} {a : Nat} (h : sideN (bAt s a) ≠ side) : movesOf s side a = [] := by unfold movesOf; rw [if_neg h]
theorem movesTo_len (s : ByteArray) (side : Int) : ∀ k, (movesTo s side k).length ≤ k * 90
  | 0 => by simp [movesTo]
  | k + 1 => by
    rw [movesTo_succ, List.length_append]
    have h1 := movesTo_len s side k
    have h2 : (movesOf s side k).length ≤ 90 := by
      by_cases h : sideN (bAt s k) = side
      · rw [movesOf_yes h]
        exact goTo_len s k 90
      · rw [movesOf_no h]
        exact Nat.zero_le _
    omega
set_option maxRecDepth 100000 in
set_option maxHeartbeats 4000000 in
theorem rof_any (s : ByteArray) (side : Int) (w : World) (hs : 90 ≤ s.size) : Calls Tryz.prog 115 #[.string s, .int .i64 side] w (GivesM w (movesN s side) (movesN s side).length) := by
  obtain ⟨i0, hi, hy0, hy1, hy2⟩ := info_parts info_move
  go_enter Tryz.func115, Tryz.ntmps115
  go_wp2_with fail
  go_loopw [5, 6, 7] (fun v i _ wr => ∃ k : Nat, k ≤ 90 ∧ i = .int .i64 k ∧ wr.ownsRow w.heap.size 54 2 v (movesTo s side k).length (mvs (movesTo s side k)) ∧ Below w.heap.size w wr) (fun _ i _ _ => 90 - (intOf i).toNat)
  case atStart => exact ⟨0, by omega, rfl, by simpa [movesTo, mvs] using World.ownsRow_nil w w.heap.size 54 2, Below.refl _ _⟩
  case round =>
    obtain ⟨k, hk, rfl, hown, hB⟩ := hrel
    have hbs := hB.size
    have hle := movesTo_len s side k
    by_cases hlt : k < 90
    · obtain ⟨c, hc⟩ : ∃ c, bAt s k = c := ⟨_, rfl⟩
      have hks : k < s.size := by omega
      have hbk : s[k].toNat = c := (bAt_eq s k hks).trans hc
      obtain ⟨d, hd⟩ : ∃ d, sideN c = d := ⟨_, rfl⟩
      have Hd := Lib.hid hd
      by_cases hsd : d = side
      · have e0 : (d != side) = false := by rw [hsd]; simp
        have HM : Hid (movesTo s side (k + 1) = movesTo s side k ++ goTo s k 90) := by show _ = _; rw [movesTo_succ, movesOf_yes (by rw [hc, hd, hsd])]
        clear hc hd hsd
        go_wp2_with fail
        refine (rside_is c d _ Hd.out).mono ?_
        rintro e w1 ⟨rfl, rfl⟩
        go_wp2_with fail
        go_loopw [5, 7] (fun v i wr => ∃ b : Nat, b ≤ 90 ∧ i = .int .i64 b ∧ wr.ownsRow w.heap.size 54 2 v (movesTo s side k ++ goTo s k b).length (mvs (movesTo s side k ++ goTo s k b)) ∧ Below w.heap.size w wr) (fun _ i _ => 90 - (intOf i).toNat)
        case atStart => exact ⟨0, by omega, rfl, by simpa [goTo] using hown, hB⟩
        case round =>
          clear hown hB hbs
          obtain ⟨b, hb, rfl, hown, hB⟩ := hrel
          have hbs := hB.size
          have hle2 : (movesTo s side k ++ goTo s k b).length ≤ 8190 := by
            rw [List.length_append]
            have := goTo_len s k b
            omega
          by_cases hlt2 : b < 90
          · have hst := goTo_succ s k b
            cases hcb : canB s k b
            · rw [hcb] at hst
              have Hs := Lib.hid hst
              have Hm := Lib.hid hcb
              clear hst hcb
              go_wp2_with fail
              refine (fast_is s k b false _ hs hlt hlt2 Hm.out).mono ?_
              rintro e w1 ⟨rfl, rfl⟩
              go_wp2_with fail
              go_roundw
              case rel => exact ⟨b + 1, by omega, by go_num, by rw [Hs.out]; exact hown, hB⟩
              case measure => simp [intOf]; omega
            · rw [hcb, if_pos rfl] at hst
              have Hs : Hid (movesTo s side k ++ goTo s k (b + 1) = (movesTo s side k ++ goTo s k b) ++ [(k, b)]) := by show _ = _; rw [hst, List.append_assoc]
              have Hm := Lib.hid hcb
              clear hst hcb
              go_wp2_with fail
              refine (fast_is s k b true _ hs hlt hlt2 Hm.out).mono ?_
              rintro e w1 ⟨rfl, rfl⟩
              go_wp2_with (at_builtin; refine wpList_append_own _ rfl _ _ 24 rfl w.heap.size 54 i0 (.agg #[.int .i64 0, .int .i64 0]) 2 16 Tryz.underlying24 hi hy0 hy1 hy2 rfl (by decide) _ _ _ rfl (hown.alloc _) ⟨wr.heap.size, 0, none⟩ 1 1 [iv k, iv b] rfl rfl (cells_two_new _ _ _ _) (by simp [Value.oneCell']) (by unfold maxLen; omega) (by omega) (by simp; omega) ?_; intro v' w1 hown' hgrow _)
              go_roundw
              case rel => exact ⟨b + 1, by omega, by go_num, by rw [Hs.out, mvs_app, List.length_append]; exact hown', below_app hB hbs hown hgrow⟩
              case measure => simp [intOf]; omega
          · obtain rfl : b = 90 := by omega
            go_wp2_with fail
            go_roundw
            case rel => exact ⟨k + 1, by omega, by go_num, by rw [HM.out]; exact hown, hB⟩
            case measure => simp [intOf]; omega
      · have e0 : (d != side) = true := by rw [bne_iff_ne]; exact hsd
        have HM : Hid (movesTo s side (k + 1) = movesTo s side k) := by show _ = _; rw [movesTo_succ, movesOf_no (by rw [hc, hd]; exact hsd), List.append_nil]
        clear hc hd hsd
        go_wp2_with fail
        refine (rside_is c d _ Hd.out).mono ?_
        rintro e w1 ⟨rfl, rfl⟩
        go_wp2_with fail
        go_roundw
        case rel => exact ⟨k + 1, by omega, by go_num, by rw [HM.out]; exact hown, hB⟩
        case measure => simp [intOf]; omega
    · obtain rfl : k = 90 := by omega
      have hf : movesTo s side 90 = movesN s side := rfl
      rw [hf] at hown
      obtain ⟨A', c', rfl⟩ := owns_slice hown
      go_wp2
      go_ret
      exact ⟨A', c', rfl, Rd.owns hown, hB⟩
theorem Rd.move {w : World} {A : Option Addr} {l : List (Nat × Nat)} (h : Rd w A (mvs l)) {k : Nat} (hk : k < l.length) : ∃ g b, A = some ⟨g, b, none⟩ ∧ w.cell? ⟨g, b + k * 2, none⟩ = some (iv l[k].1) ∧ w.cell? ⟨g, b + k * 2 + 1, none⟩ = some (iv l[k].2) := by
  obtain ⟨m0, m1⟩ := mvs_at l k hk
  obtain ⟨⟨g, b, sp⟩, rfl, hc0⟩ := h _ _ m0
  obtain ⟨a', e1, hc1⟩ := h _ _ m1
  cases e1
  obtain ⟨a0, e0, hc⟩ := h _ _ (mvs_at l 0 (by omega)).1
  cases e0
  have hsp : sp = none := by simpa [Addr.add] using World.cell?_spot hc
  subst hsp
  have hadd : ∀ j, (Addr.add ⟨g, b, none⟩ j) = ⟨g, b + j, none⟩ := fun j => by
    simp only [Addr.add]
    split <;> simp_all
  rw [hadd, Nat.mul_comm] at hc0
  rw [hadd, Nat.mul_comm] at hc1
  exact ⟨g, b, rfl, hc0, hc1⟩
def movesV (s : ByteArray) (side clock full : Int) : List (Nat × Nat) := if checkN s side clock full = 0 then movesN s side else []
theorem check_size {s : ByteArray} {side clock full : Int} (h : checkN s side clock full = 0) : 90 ≤ s.size := by
  have := isB_size (parts_board (check_zero (s := s) (side := side) (clock := clock) (full := full) (by rw [h]; rfl)).1)
  omega
theorem rofm_is (s : ByteArray) (side : Int) (l : List (Nat × Nat)) (n : Nat) (w : World) (hs : 90 ≤ s.size) (h : movesN s side = l) (hn : l.length = n) : Calls Tryz.prog 115 #[.string s, .int .i64 side] w (GivesM w l n) := by subst h; subst hn; exact rof_any s side w hs
end Go.Proofs.YtpogpjebhnoncaaGreatDoor
namespace Go.Proofs.YtpogpjebhnoncaaGreatDoor
open Go.RowKit Go.Shelf
open M (S)
theorem least_of {p : Nat → Bool} : ∀ n, (∃ i, i < n ∧ p i = true) → ∃ i, i < n ∧ p i = true ∧ ∀ j, j < i → p j = false
  | 0, ⟨i, h, _⟩ => absurd h (Nat.not_lt_zero i)
  | n + 1, ⟨i, h, hp⟩ => by
    by_cases h2 : ∃ i, i < n ∧ p i = true
    · obtain ⟨k, hk, h3⟩ := least_of n h2
      exact ⟨k, by omega, h3⟩
    · refine ⟨i, h, hp, fun j hj => ?_⟩
      cases e : p j
      · rfl
      · exact absurd ⟨j, by omega, e⟩ h2
theorem filter_none {p : Fin 90 → Bool} : ∀ {l : List (Fin 90)}, (∀ k, k < l.length → p l[k]! = false) → l.filter p = []
  | [], _ => rfl
  | x :: l, h => by
    rw [List.filter_cons, show p x = false by simpa using h 0 (by simp)]
    exact filter_none fun k hk => by simpa using h (k + 1) (by simpa using hk)
theorem filter_hit {p : Fin 90 → Bool} {l : List (Fin 90)} {i : Nat} (hi : i < l.length) (hp : p l[i]! = true) (hne : ∀ k, k < i → p l[k]! = false) : (l.take (i + 1)).filter p = [l[i]!] := by
  rw [List.take_succ_eq_append_getElem hi, List.filter_append, filter_none (p := p) (l := l.take i) fun k hk => ?_]
  · rw [getElem!_pos l i hi] at hp ⊢
    simp [hp]
  · have hk' : k < i := by simp at hk; omega
    have h1 := hne k hk'
    rw [getElem!_pos (l.take i) k hk, List.getElem_take]
    rw [getElem!_pos l k (by omega)] at h1
    exact h1
def piecesN (s : ByteArray) (side : Int) : List Nat := (List.range 90).filter fun k => ofSide (bAt s k) side
def goQ (s : ByteArray) (q : Nat → Bool) (a : Nat) : List (Nat × Nat) := ((finL fun b => canB s a b).filter fun b => q b.val).map fun b => (a, b.val)
def preQ (s : ByteArray) (side : Int) (q : Nat → Bool) (t : Nat) : List (Nat × Nat) := ((piecesN s side).take t).flatMap (goQ s q)
theorem preQ_succ {s : ByteArray} {side : Int} {q : Nat → Bool} {t : Nat} (h : t < (piecesN s side).length) : preQ s side q (t + 1) = preQ s side q t ++ goQ s q (piecesN s side)[t] := by
  unfold preQ
  rw [List.take_succ_eq_append_getElem h, List.flatMap_append]
  simp
def midQ (s : ByteArray) (q : Nat → Bool) (a j : Nat) : List (Nat × Nat) := (((finL fun b => canB s a b).take j).filter fun b => q b.val).map fun b => (a, b.val)
theorem midQ_len (s : ByteArray) (q : Nat → Bool) (a j : Nat) : (midQ s q a j).length ≤ 90 := by
  unfold midQ
  rw [List.length_map]
  refine Nat.le_trans (List.length_filter_le _ _) ?_
  rw [List.length_take, finL_len]
  have := trues_le (fun b => canB s a b) 90
  omega
theorem midQ_all {s : ByteArray} {q : Nat → Bool} {a j : Nat} (h : ∀ k, k < ((finL fun b => canB s a b).drop j).length → q (((finL fun b => canB s a b).drop j)[k]!).val = false) : midQ s q a j = goQ s q a := by
  have h1 : (finL fun b => canB s a b).filter (fun b => q b.val) = ((finL fun b => canB s a b).take j).filter fun b => q b.val := by
    conv => lhs; rw [← List.take_append_drop j (finL fun b => canB s a b)]
    rw [List.filter_append, filter_none (p := fun b => q b.val) h, List.append_nil]
  unfold midQ goQ
  rw [h1]
theorem midQ_hit {s : ByteArray} {q : Nat → Bool} {a j i : Nat} {R Z : List (Fin 90)} (hR : (finL fun b => canB s a b) = R) (hZ : R.drop j = Z) (hi : i < Z.length) (hp : q (Z[i]!).val = true) (hne : ∀ k, k < i → q (Z[k]!).val = false) : midQ s q a (j + (i + 1)) = midQ s q a j ++ [(a, (Z[i]!).val)] := by
  unfold midQ
  rw [hR, List.take_add, hZ, List.filter_append, filter_hit (p := fun b => q b.val) hi hp hne, List.map_append]
  rfl
theorem preQ_len (s : ByteArray) (side : Int) (q : Nat → Bool) : ∀ t, (preQ s side q t).length ≤ t * 90
  | 0 => by simp [preQ]
  | t + 1 => by
    have h1 := preQ_len s side q t
    by_cases h : t < (piecesN s side).length
    · rw [preQ_succ h, List.length_append]
      have h2 : (goQ s q (piecesN s side)[t]).length ≤ 90 := by
        unfold goQ
        rw [List.length_map]
        refine Nat.le_trans (List.length_filter_le _ _) ?_
        rw [finL_len]
        exact trues_le _ _
      omega
    · have : preQ s side q (t + 1) = preQ s side q t := by unfold preQ; rw [List.take_of_length_le (by omega), List.take_of_length_le (by omega)]
      rw [this]
      omega
theorem piecesN_len (s : ByteArray) (side : Int) : (piecesN s side).length ≤ 90 := by
  unfold piecesN
  exact Nat.le_trans (List.length_filter_le _ _) (by simp)
theorem piecesN_list {s : ByteArray} {side : Int} (h : isB s = true) : piecesL s side = (piecesN s side).map fun k : Nat => (k : Int) := by unfold piecesL; rw [if_pos h]; rfl
theorem piecesN_lt {s : ByteArray} {side : Int} {t : Nat} (h : t < (piecesN s side).length) : (piecesN s side)[t] < 90 := List.mem_range.1 (List.mem_filter.1 (List.getElem_mem h)).1
theorem rd_plain {w : World} {A : Option Addr} {Z : List (Fin 90)} (h : Rd w A (Z.map fqv)) (h0 : 0 < Z.length) : ∃ b o, A = some ⟨b, o, none⟩ ∧ ∀ k, k < Z.length → w.cell? ⟨b, o + k, none⟩ = some (fqv Z[k]!) := by
  have hat : ∀ k (hk : k < Z.length), (Z.map fqv)[k]? = some (fqv Z[k]!) := fun k hk => by
    rw [List.getElem?_map, List.getElem?_eq_getElem hk, getElem!_pos Z k hk]
    rfl
  obtain ⟨⟨b, o, sp⟩, rfl, hc⟩ := h _ _ (hat 0 h0)
  have hsp : sp = none := by simpa [Addr.add] using World.cell?_spot hc
  subst hsp
  have hadd : ∀ j, (Addr.add ⟨b, o, none⟩ j) = ⟨b, o + j, none⟩ := fun j => by
    simp only [Addr.add]
    split <;> simp_all
  refine ⟨b, o, rfl, fun k hk => ?_⟩
  obtain ⟨a', e, hk2⟩ := h _ _ (hat k hk)
  cases e
  rwa [hadd] at hk2
theorem rd_cut {w : World} {b o : Nat} {Z : List (Fin 90)} (h : Rd w (some ⟨b, o, none⟩) (Z.map fqv)) (d : Nat) : Rd w (some ⟨b, o + d, none⟩) ((Z.drop d).map fqv) := fun j u hu => by
  refine ⟨_, rfl, ?_⟩
  rw [List.map_drop, List.getElem?_drop] at hu
  obtain ⟨a', e, hc⟩ := h _ _ hu
  cases e
  have hadd : ∀ b o j, (Addr.add ⟨b, o, none⟩ j) = ⟨b, o + j, none⟩ := fun b o j => by
    simp only [Addr.add]
    split <;> simp_all
  rw [hadd] at hc ⊢
  rwa [Nat.add_assoc]
theorem rd_grown {w w' : World} {A : Option Addr} {xs : List Value} {o : Obj} {row : Option Nat} (h : Rd w A xs) (hg : (w.alloc o).grownBy w' row) (hne : ∀ ad, A = some ad → some ad.block ≠ row) : Rd w' A xs := fun j u hu => by
  obtain ⟨ad, hA, hc⟩ := h j u hu
  refine ⟨ad, hA, ?_⟩
  have h1 := ((Below.refl w.heap.size w).alloc (Nat.le_refl _) o).cell (p := ad.add j) (cell_lt hc)
  refine hg.cell (h1.trans hc) ?_
  have : (ad.add j).block = ad.block := by
    simp only [Addr.add]
    split <;> rfl
  rw [this]
  exact hne ad hA
theorem index_any (q : Nat → Bool) (g : Nat) (lb : Array Value) (eg : ∀ args w, (callFunc g args).run Tryz.prog w = .ok (.enter g args) w) (A : Option Addr) (m c : Nat) (Z : List (Fin 90)) (r : Int) (W : World) (hp : PredAt Tryz.prog g lb fqv (fun i : Fin 90 => q i.val) W) (hr : Rd W A (Z.map fqv)) (hm : Z.length = m) (hm90 : m ≤ 90) (hi : Lib.idxBy (fun _ (y : Fin 90) => q y.val) Z default = r) :
    Calls Tryz.prog 212 #[.slice A m c, .func (.func g) #[] lb] W fun e w' => e = .returned (.int .i64 r) ∧ Below W.heap.size W w' := by
  subst hi
  by_cases h0 : m = 0
  · subst h0
    have hz : Z = [] := List.eq_nil_of_length_eq_zero hm
    subst hz
    refine (Tryz.slices_IndexFunc_empty (α := Fin 90) A c _ W).mono ?_
    rintro e w1 ⟨rfl, rfl⟩
    exact ⟨rfl, Below.refl _ _⟩
  · obtain ⟨b, o, rfl, hc⟩ := rd_plain hr (by omega)
    have h := Tryz.slices_IndexFunc fqv (fun i : Fin 90 => q i.val) g lb eg b o m c Z W hp (by omega) (by omega) hc
    rw [List.take_of_length_le (by omega)] at h
    refine h.mono ?_
    rintro e w1 ⟨rfl, nq, rfl⟩
    exact ⟨rfl, below_drewN (Below.refl _ _) nq⟩
theorem idx_hit {q : Nat → Bool} {Z : List (Fin 90)} {i : Nat} (hi : i < Z.length) (hp : q (Z[i]!).val = true) (hne : ∀ k, k < i → q (Z[k]!).val = false) : Lib.idxBy (fun _ (y : Fin 90) => q y.val) Z default = (i : Int) := by
  have := Lib.idxBy_hit (fun _ (y : Fin 90) => q y.val) Z Z.length i default hi (Nat.le_refl _) hp hne
  rwa [List.take_of_length_le (Nat.le_refl _)] at this
theorem idx_miss {q : Nat → Bool} {Z : List (Fin 90)} (h : ∀ k, k < Z.length → q (Z[k]!).val = false) : Lib.idxBy (fun _ (y : Fin 90) => q y.val) Z default = -1 := by
  have := Lib.idxBy_miss (fun _ (y : Fin 90) => q y.val) Z Z.length default h
  rwa [List.take_of_length_le (Nat.le_refl _)] at this
set_option maxRecDepth 100000 in
set_option maxHeartbeats 4000000 in
theorem gathered_yes (s : ByteArray) (side clock full : Int) (q : Nat → Bool) (g : Nat) (lb : Array Value) (eg : ∀ args w, (callFunc g args).run Tryz.prog w = .ok (.enter g args) w) (w : World) (hT : Tab w) (hp : PredAt Tryz.prog g lb fqv (fun i : Fin 90 => q i.val) w) (hc : checkN s side clock full = 0) (n : Nat) (hn : (piecesN s side).length = n) :
    Calls Tryz.prog 163 #[.agg #[.string s, .int .i64 side, .int .i64 clock, .int .i64 full], .func (.func g) #[] lb] w (OwnM w (preQ s side q n) (preQ s side q n).length) := by
  obtain ⟨W0, hW0⟩ : ∃ W0, w.alloc (.cells #[.string s, .int .i64 side, .int .i64 clock, .int .i64 full] 23) = W0 := ⟨_, rfl⟩
  have hB : Below w.heap.size w W0 := by rw [← hW0]; exact (by repeat (first | exact Below.refl _ _ | (refine Below.setCell ?_ (by first | omega | (simp; done) | (simp; omega) | (simp at *; omega)) _) | (refine Below.alloc ?_ (by first | omega | (simp; done) | (simp; omega) | (simp at *; omega)) _) | refine Below.drew ?_ | (refine below_drewN ?_ _) | (refine Below.trans ?_ (Below.mono (by assumption) (by first | omega | (simp; done) | (simp; omega) | (simp at *; omega))))))
  have bA : Blk W0 w.heap.size 23 #[.string s, .int .i64 side, .int .i64 clock, .int .i64 full] := by rw [← hW0]; exact Blk.new _ _ _ rfl
  have HW := Lib.hid hW0
  clear hW0
  have hs := check_size hc
  have hboard : isB s = true := parts_board (check_zero (s := s) (side := side) (clock := clock) (full := full) (by rw [hc]; rfl)).1
  have HP := Lib.hid (piecesN_list (side := side) hboard)
  have hpl : (piecesL s side).length = n := by rw [piecesN_list hboard, List.length_map, hn]
  have hn90 : n ≤ 90 := by rw [← hn]; exact piecesN_len s side
  have HI := Lib.hid hboard
  have HN := Lib.hid hn
  have HC : Hid ((checkN s side clock full : Int) = 0) := by show _ = _; rw [hc]; rfl
  obtain ⟨i0, hi, hy0, hy1, hy2⟩ := info_parts info_move
  have hT0 := hT.next hB
  clear hc hboard hn
  go_enter Tryz.func163, Tryz.ntmps163
  go_wp2_with fail
  go_step3
  go_wp2_with fail
  rw [HW.out]
  refine (check_is s side clock full 0 _ HC.out).mono ?_
  rintro e w1 ⟨rfl, hb1⟩
  have bA1 := bA.next hb1
  have hT1 := hT0.next hb1
  have hB1 := hB.trans (hb1.mono hB.size)
  have a0 := bA1.cell 0
  have a1 := bA1.cell 1
  simp only [List.getElem?_toArray, List.getElem?_cons_zero, List.getElem?_cons_succ] at a0 a1
  clear bA hb1 hB HW HC hT0
  go_wp2_with fail
  go_step3
  go_wp2_with fail
  refine (pieces_is s side n _ hT1 hpl).mono ?_
  rintro e w2 ⟨A2, c2, rfl, hr2, hb2⟩
  rw [HP.out] at hr2
  have bA2 := bA1.next hb2
  have hT2 := hT1.next hb2
  have hB2 := hB1.trans (hb2.mono hB1.size)
  have hp2 := hp.later hB2
  clear bA1 hT1 hb2 a0 a1 hB1 hpl hp
  go_wp2_with fail
  go_loopg [5, 19] n (fun gk s5 s19 wx => ∃ t : Nat, t + gk = n ∧ s19 = .int .i64 t ∧ wx.ownsRow w2.heap.size 54 2 s5 (preQ s side q t).length (mvs (preQ s side q t)) ∧ Below w2.heap.size w2 wx)
  case atStart => exact ⟨0, by omega, rfl, by simpa [preQ, mvs] using World.ownsRow_nil w2 w2.heap.size 54 2, Below.refl _ _⟩
  case round =>
    obtain ⟨t, htg, rfl, hown, hB⟩ := hrel
    cases gk with
    | zero =>
      obtain rfl : t = n := by omega
      obtain ⟨A', c', rfl⟩ := owns_slice hown
      have hlt : decide ((t : Int) < (t : Int)) = false := by simp
      go_wp2_with fail
      rw [Exit.noGoto_ret]
      go_ret
      exact ⟨_, rfl, own_mono hown hB2.size, hB2.trans (hB.mono hB2.size)⟩
    | succ gko =>
      obtain ⟨Av, cv, rfl⟩ := owns_slice hown
      have htn : t < n := by omega
      have htl : t < (piecesN s side).length := by rw [HN.out]; exact htn
      obtain ⟨a, ha⟩ : ∃ a, (piecesN s side)[t] = a := ⟨_, rfl⟩
      have ha90 : a < 90 := by rw [← ha]; exact piecesN_lt htl
      obtain ⟨ad, rfl, hca⟩ := (hr2.next hB) t (iv (a : Int)) (by simp [htl, ha])
      have bA := bA2.next hB
      have HQ := Lib.hid (preQ_succ (q := q) htl)
      rw [ha] at HQ
      obtain ⟨R, hR⟩ : ∃ R, (finL fun b => canB s a b) = R := ⟨_, rfl⟩
      have HR := Lib.hid hR
      have hal2 : (trues (fun b => canB s a b) 90).map iv = R.map fqv := by rw [← finL_vals, hR]
      have hln : (trues (fun b => canB s a b) 90).length = R.length := by rw [← finL_len, hR]
      have HA := Lib.hid hal2
      have HL := Lib.hid hln
      have hR90 : R.length ≤ 90 := by rw [← hR, finL_len]; exact trues_le _ _
      have ht0 : (0 : Int) ≤ (t : Int) := by omega
      have htn2 : (t : Int) < (n : Int) := by omega
      have p0 := bA.cell 0
      simp only [List.getElem?_toArray, List.getElem?_cons_zero] at p0
      have hlt : decide ((t : Int) < (n : Int)) = true := by simp; omega
      clear hR hal2 hln ha htl
      go_wp2_with fail
      refine (all_new s a _ HI.out ha90).mono ?_
      rintro e w3 ⟨A3, c3, rfl, hr3, hb3, hnew, hcp3⟩
      rw [HA.out] at hr3
      rw [HL.out] at hcp3 ⊢
      have hne3 : ∀ k ad, (Value.slice Av (preQ s side q t).length cv).ownBlock = some k → A3 = some ad → ad.block ≠ k := fun k ad hk had => by
        have h1 := (hown.lt k hk).2
        have h2 := hnew ad had
        omega
      replace hown := own_next hown hb3
      replace hB := hB.trans (hb3.mono hB.size)
      clear hb3 hca p0 bA hnew
      go_wp2_with fail
      go_loopg [5, 8] R.length (fun g2 s5 s8 wy => ∃ (j : Nat) (A' : Option Addr) (c' : Nat), j + g2 = R.length ∧ s8 = .slice A' g2 c' ∧ g2 ≤ c' ∧ Rd wy A' ((R.drop j).map fqv) ∧ wy.ownsRow w2.heap.size 54 2 s5 (preQ s side q t ++ midQ s q a j).length (mvs (preQ s side q t ++ midQ s q a j)) ∧ Below w2.heap.size w2 wy ∧ ∀ k ad, s5.ownBlock = some k → A' = some ad → ad.block ≠ k)
      case atStart => exact ⟨0, A3, c3, by omega, rfl, hcp3, hr3, by simpa [midQ] using hown, hB, hne3⟩
      case round =>
        clear hr3 hown hB hne3
        obtain ⟨j, A', c', hjg, rfl, hgc, hrz, hown, hB, hne⟩ := hrel
        obtain ⟨Z, hZ⟩ : ∃ Z, R.drop j = Z := ⟨_, rfl⟩
        have hZl : Z.length = gk := by rw [← hZ, List.length_drop]; omega
        rw [hZ] at hrz
        have HZ := Lib.hid hZ
        have hbs := hB.size
        have hle1 := preQ_len s side q t
        have hle2 := midQ_len s q a j
        have hle : (preQ s side q t ++ midQ s q a j).length ≤ 8190 := by
          rw [List.length_append]
          have : t * 90 ≤ 90 * 90 := Nat.mul_le_mul_right 90 (by omega)
          omega
        by_cases hany : ∃ i, i < gk ∧ q (Z[i]!).val = true
        · obtain ⟨i, hi0, hq1, hq2⟩ := least_of gk hany
          have hidx := idx_hit (q := q) (Z := Z) (i := i) (by omega) hq1 hq2
          have HM := Lib.hid (midQ_hit (q := q) (s := s) (a := a) HR.out hZ (by omega : i < Z.length) hq1 hq2)
          obtain ⟨b0, o0, rfl, hcz⟩ := rd_plain hrz (by omega)
          have hci := hcz i (by omega)
          obtain ⟨x, hx⟩ : ∃ x, (Z[i]!).val = x := ⟨_, rfl⟩
          have hci2 : wr.cell? ⟨b0, o0 + i, none⟩ = some (iv (x : Int)) := by rw [hci, ← hx]
          rw [hx] at HM
          have e0 : decide ((i : Int) < 0) = false := by simp
          clear hany hq1 hq2 hci hx hcz hZ
          go_wp2_with fail
          refine (index_any q g lb eg _ gk c' Z (i : Int) _ (hp2.later hB) hrz hZl (by omega) hidx).mono ?_
          rintro e w4 ⟨rfl, hb4⟩
          have hc4 := (hb4.cell (p := ⟨b0, o0 + i, none⟩) (cell_lt hci2)).trans hci2
          replace hown := own_next hown hb4
          replace hrz := hrz.next hb4
          replace hB := hB.trans (hb4.mono hB.size)
          have hlt0 := cell_lt hc4
          replace hbs := hB.size
          clear hb4 hci2
          go_wp2_with (at_builtin; refine wpList_append_own_at _ rfl _ _ 24 rfl w2.heap.size 54 i0 (.agg #[.int .i64 0, .int .i64 0]) 2 16 Tryz.underlying24 hi hy0 hy1 hy2 rfl (by decide) _ _ _ rfl (hown.alloc _) ⟨w4.heap.size, 0, none⟩ 1 1 [iv a, iv x] rfl rfl (cells_two_new _ _ _ _) (by simp [Value.oneCell']) (by unfold maxLen; omega) (by omega) (by simp; omega) ?_; intro v' w5 hown' hgrow _ hblk)
          all_goals
            go_roundg (gk - (i + 1))
            case measure => omega
            case rel =>
              have hM2 : preQ s side q t ++ midQ s q a (j + (i + 1)) = (preQ s side q t ++ midQ s q a j) ++ [(a, x)] := by rw [HM.out, List.append_assoc]
              have hZ2 : R.drop (j + (i + 1)) = Z.drop (i + 1) := by rw [← HZ.out, List.drop_drop]
              refine ⟨j + (i + 1), _, _, by omega, rfl, by omega, ?_, by rw [hM2, mvs_app, List.length_append]; exact hown', below_app hB hbs hown hgrow, ?_⟩
              · rw [hZ2]
                first
                  | exact rd_grown (rd_cut hrz (i + 1)) hgrow (fun ad had he => by cases had; exact hne _ _ he.symm rfl rfl)
                  | (rw [List.drop_eq_nil_of_le (by omega)]; exact fun j u hu => by simp at hu)
              · intro k ad hk had
                rcases hblk with e | e
                · cases had
                  exact hne k ⟨b0, o0, none⟩ (e.symm.trans hk) rfl
                · rw [e] at hk
                  cases hk
                  cases had
                  simp
                  omega
        · have hmiss : ∀ k, k < Z.length → q (Z[k]!).val = false := fun k hk => by
            cases e : q (Z[k]!).val
            · rfl
            · exact absurd ⟨k, by omega, e⟩ hany
          have hidx := idx_miss hmiss
          have HM : Hid (preQ s side q t ++ midQ s q a j = preQ s side q (t + 1)) := by
            show _ = _
            rw [HQ.out, midQ_all (by rw [HR.out, hZ]; exact hmiss)]
          clear hany hmiss hZ
          go_wp2_with fail
          refine (index_any q g lb eg _ gk c' Z (-1) _ (hp2.later hB) hrz hZl (by omega) hidx).mono ?_
          rintro e w4 ⟨rfl, hb4⟩
          replace hown := own_next hown hb4
          replace hB := hB.trans (hb4.mono hB.size)
          clear hb4
          go_wp2_with fail
          go_roundg gko
          case measure => omega
          case rel => exact ⟨t + 1, by omega, by go_num, by rw [← HM.out]; exact hown, hB⟩
theorem gathered_no (s : ByteArray) (side clock full e0 : Int) (fv : Value) (w : World) (hc : (checkN s side clock full : Int) = e0) (h0 : (e0 != 0) = true) :
    Calls Tryz.prog 163 #[.agg #[.string s, .int .i64 side, .int .i64 clock, .int .i64 full], fv] w (OwnM w [] 0) := by
  obtain ⟨W0, hW0⟩ : ∃ W0, w.alloc (.cells #[.string s, .int .i64 side, .int .i64 clock, .int .i64 full] 23) = W0 := ⟨_, rfl⟩
  have hB : Below w.heap.size w W0 := by rw [← hW0]; exact (by repeat (first | exact Below.refl _ _ | (refine Below.setCell ?_ (by first | omega | (simp; done) | (simp; omega) | (simp at *; omega)) _) | (refine Below.alloc ?_ (by first | omega | (simp; done) | (simp; omega) | (simp at *; omega)) _) | refine Below.drew ?_ | (refine below_drewN ?_ _) | (refine Below.trans ?_ (Below.mono (by assumption) (by first | omega | (simp; done) | (simp; omega) | (simp at *; omega))))))
  have HW := Lib.hid hW0
  have HC := Lib.hid hc
  clear hW0 hc
  go_enter Tryz.func163, Tryz.ntmps163
  go_wp2_with fail
  go_step3
  go_wp2_with fail
  rw [HW.out]
  refine (check_is s side clock full e0 _ HC.out).mono ?_
  rintro e w1 ⟨rfl, hb1⟩
  go_wp2_with fail
  rw [Exit.noGoto_ret]
  go_ret
  exact ⟨_, rfl, by simpa [mvs] using World.ownsRow_nil _ w.heap.size 54 2, hB.trans (hb1.mono hB.size)⟩
end Go.Proofs.YtpogpjebhnoncaaGreatDoor
namespace Go.Proofs.YtpogpjebhnoncaaGreatDoor
open Go.RowKit Go.Shelf
open M (S)
theorem goQ_moves {s : ByteArray} {side : Int} {q : Nat → Bool} {a : Nat} (h : sideN (bAt s a) = side) : goQ s q a = (movesOf s side a).filter fun m => q m.2 := by
  have h1 : (finL fun b => canB s a b).map Fin.val = reachN s a := by
    unfold finL reachN
    rw [← (show (List.finRange 90).map Fin.val = List.range 90 by decide +kernel), List.filter_map]
    rfl
  unfold goQ movesOf
  rw [if_pos h, ← h1, List.filter_map, List.filter_map, List.map_map]
  rfl
theorem flat_filter {f : Nat → List (Nat × Nat)} {p : Nat → Bool} {r : Nat × Nat → Bool} {g : Nat → List (Nat × Nat)} (h1 : ∀ a, p a = true → g a = (f a).filter r) (h2 : ∀ a, p a = false → f a = []) : ∀ l : List Nat, (l.filter p).flatMap g = (l.flatMap f).filter r
  | [] => rfl
  | a :: l => by
    rw [List.flatMap_cons, List.filter_append, List.filter_cons, ← flat_filter h1 h2 l]
    cases e : p a
    · rw [if_neg (by simp), h2 a e]
      rfl
    · rw [if_pos rfl, List.flatMap_cons, h1 a e]
theorem of_side6 {c : Nat} {side : Int} (h : 0 ≤ side) : ofSide c side = (sideN c == side) := by
  unfold ofSide
  by_cases e : c = 46
  · subst e
    rw [show sideN 46 = -1 from rfl, show ((-1 : Int) == side) = false by rw [beq_eq_false_iff_ne]; omega]
    rfl
  · rw [show (c != 46) = true by rw [bne_iff_ne]; exact e, Bool.true_and]
theorem preQ_all {s : ByteArray} {side : Int} {q : Nat → Bool} (h0 : 0 ≤ side) : preQ s side q (piecesN s side).length = (movesN s side).filter fun m => q m.2 := by
  unfold preQ
  rw [List.take_of_length_le (Nat.le_refl _)]
  unfold piecesN movesN
  refine flat_filter (fun a ha => ?_) (fun a ha => ?_) _
  · rw [of_side6 h0, beq_iff_eq] at ha
    exact goQ_moves ha
  · rw [of_side6 h0, beq_eq_false_iff_ne] at ha
    exact movesOf_no ha
theorem check_side {s : ByteArray} {side clock full : Int} (h : checkN s side clock full = 0) : side = 0 ∨ side = 1 := by
  have hp := (check_zero (s := s) (side := side) (clock := clock) (full := full) (by rw [h]; rfl)).1
  simp only [partsB, Bool.and_eq_true, Bool.or_eq_true, beq_iff_eq, decide_eq_true_eq] at hp
  exact hp.1.1.1.1.2
theorem true1_any (W : World) (x : Fin 90) : FnGives Tryz.prog 164 #[] #[fqv x] (.bool true) W := by
  show Calls Tryz.prog 164 #[.int .i64 (x.val : Int)] W _
  go_enter Tryz.func164, Tryz.ntmps164
  go_wp2
  go_ret
  exact ⟨rfl, 0, rfl⟩
set_option maxHeartbeats 1000000 in
theorem moves_own (s : ByteArray) (side clock full : Int) (l : List (Nat × Nat)) (n : Nat) (w : World) (hT : Tab w) (h : movesV s side clock full = l) (hn : l.length = n) : Calls Tryz.prog 109 #[.agg #[.string s, .int .i64 side, .int .i64 clock, .int .i64 full]] w (OwnM w l n) := by
  have eg : ∀ args w, (callFunc 164 args).run Tryz.prog w = .ok (.enter 164 args) w := enters_of Tryz.func164 (by kernel_rfl) rfl
  have G : Hid (∀ W, Below w.heap.size w W → Calls Tryz.prog 163 #[.agg #[.string s, .int .i64 side, .int .i64 clock, .int .i64 full], .func (.func 164) #[] #[]] W (OwnM W l n)) := by
    show ∀ W, _
    intro W hb
    by_cases hc : checkN s side clock full = 0
    · have hs := check_side hc
      have hl : preQ s side (fun _ => true) (piecesN s side).length = l := by
        rw [preQ_all (by omega), ← h, movesV, if_pos hc]
        exact List.filter_eq_self.2 fun _ _ => rfl
      have := gathered_yes s side clock full (fun _ => true) 164 #[] eg W (hT.next hb) (fun W' x _ => true1_any W' x) hc _ rfl
      rw [hl, hn] at this
      exact this
    · have hl : l = [] := by rw [← h, movesV, if_neg hc]
      subst hl
      have hn0 : n = 0 := by rw [← hn]; rfl
      subst hn0
      exact gathered_no s side clock full _ _ W rfl (by rw [bne_iff_ne]; omega)
  clear h hn hT eg
  go_enter Tryz.func109, Tryz.ntmps109
  go_wp2_with fail
  refine (G.out _ (by repeat (first | exact Below.refl _ _ | (refine Below.setCell ?_ (by first | omega | (simp; done) | (simp; omega) | (simp at *; omega)) _) | (refine Below.alloc ?_ (by first | omega | (simp; done) | (simp; omega) | (simp at *; omega)) _) | refine Below.drew ?_ | (refine below_drewN ?_ _) | (refine Below.trans ?_ (Below.mono (by assumption) (by first | omega | (simp; done) | (simp; omega) | (simp at *; omega))))))).mono ?_
  rintro e w1 ⟨v, rfl, ho, hb⟩
  go_wp2
  go_ret
  exact ⟨v, rfl, own_mono ho (by simp), below_made hb⟩
end Go.Proofs.YtpogpjebhnoncaaGreatDoor
namespace Go.Proofs.YtpogpjebhnoncaaGreatDoor
open Go.RowKit Go.Shelf
open M (S)
def isM (s : ByteArray) (side a b : Int) : Bool := canI s a b && (sideN (bAt s a.toNat) == side)
theorem pm_keep {w : World} {p0 p1 q0 q1 : Value} {g h : Nat} {W W' : World} (hS : W.cell? ⟨g, 0, none⟩ = some p0 ∧ W.cell? ⟨g, 1, none⟩ = some p1 ∧ W.cell? ⟨h, 0, none⟩ = some q0 ∧ W.cell? ⟨h, 1, none⟩ = some q1 ∧ Below w.heap.size w W) (hb : Below W.heap.size W W') :
    W'.cell? ⟨g, 0, none⟩ = some p0 ∧ W'.cell? ⟨g, 1, none⟩ = some p1 ∧ W'.cell? ⟨h, 0, none⟩ = some q0 ∧ W'.cell? ⟨h, 1, none⟩ = some q1 ∧ Below w.heap.size w W' := by
  obtain ⟨h0, h1, h2, h3, h4⟩ := hS
  exact ⟨(hb.cell (p := ⟨g, 0, none⟩) (cell_lt h0)).trans h0, (hb.cell (p := ⟨g, 1, none⟩) (cell_lt h1)).trans h1, (hb.cell (p := ⟨h, 0, none⟩) (cell_lt h2)).trans h2, (hb.cell (p := ⟨h, 1, none⟩) (cell_lt h3)).trans h3, h4.trans (hb.mono h4.size)⟩
theorem sideb6_is (c : Nat) (k : Int) (w : World) (h : sideN c = k) : Calls Tryz.prog 185 #[.int .u8 (c : Int)] w (Gives w (.int .i64 k)) := (side_is c k w h).mono fun _ _ ⟨a, b⟩ => ⟨a, b ▸ Below.refl _ _⟩
set_option maxRecDepth 100000 in
set_option maxHeartbeats 4000000 in
theorem isMove_is (s : ByteArray) (side clock full a b : Int) (v : Bool) (w : World) (h : isM s side a b = v) :
    Calls Tryz.prog 132 #[.agg #[.string s, .int .i64 side, .int .i64 clock, .int .i64 full], .agg #[.int .i64 a, .int .i64 b]] w (Gives w (.bool v)) := by
  unfold Gives
  obtain ⟨W0, hW0⟩ : ∃ W0, (w.alloc (.cells #[.string s, .int .i64 side, .int .i64 clock, .int .i64 full] 23)).alloc (.cells #[.int .i64 a, .int .i64 b] 54) = W0 := ⟨_, rfl⟩
  have hB : Below w.heap.size w W0 := by rw [← hW0]; exact (by repeat (first | exact Below.refl _ _ | (refine Below.setCell ?_ (by first | omega | (simp; done) | (simp; omega) | (simp at *; omega)) _) | (refine Below.alloc ?_ (by first | omega | (simp; done) | (simp; omega) | (simp at *; omega)) _) | refine Below.drew ?_ | (refine below_drewN ?_ _) | (refine Below.trans ?_ (Below.mono (by assumption) (by first | omega | (simp; done) | (simp; omega) | (simp at *; omega))))))
  have bP : Blk W0 w.heap.size 23 #[.string s, .int .i64 side, .int .i64 clock, .int .i64 full] := by rw [← hW0]; exact (Blk.new _ _ _ rfl).alloc _
  have bM : Blk W0 (w.heap.size + 1) 54 #[.int .i64 a, .int .i64 b] := by rw [← hW0]; exact Blk.new _ _ _ (by simp)
  have hS : W0.drew.cell? ⟨w.heap.size, 0, none⟩ = some (.string s) ∧ W0.drew.cell? ⟨w.heap.size, 1, none⟩ = some (.int .i64 side) ∧ W0.drew.cell? ⟨w.heap.size + 1, 0, none⟩ = some (.int .i64 a) ∧ W0.drew.cell? ⟨w.heap.size + 1, 1, none⟩ = some (.int .i64 b) ∧ Below w.heap.size w W0.drew := ⟨bP.cell 0, bP.cell 1, bM.cell 0, bM.cell 1, hB.drew⟩
  have HW := Lib.hid hW0
  clear hW0 bP bM hB
  cases hc : canI s a b
  · have hv : v = false := by rw [← h, isM, hc]; rfl
    subst hv
    have C := Lib.hid hc
    clear h hc
    go_enter Tryz.func132, Tryz.ntmps132
    go_wp2_with fail
    rw [HW.out]
    refine wp_region_held_drew (S := fun W => W.cell? ⟨w.heap.size, 0, none⟩ = some (.string s) ∧ W.cell? ⟨w.heap.size, 1, none⟩ = some (.int .i64 side) ∧ W.cell? ⟨w.heap.size + 1, 0, none⟩ = some (.int .i64 a) ∧ W.cell? ⟨w.heap.size + 1, 1, none⟩ = some (.int .i64 b) ∧ Below w.heap.size w W) (by kernel_rfl) (hS) (fun hHeld => ?_)
    refine wpAnyH_take (i := 0) (oi := { dst := some 5, op := Op.fieldAddr 23 (Operand.tmp 2) 0, type := 0, pos := "pseudo.go:62", after := #[], guard := none }) (v := ?_) rfl (by kernel_rfl) (by kernel_rfl) (by kernel_rfl) (fun _ _ _ h => h) (Or.inl ⟨by rfl, ?_⟩) (by assumption) ?_
    case refine_2 =>
      intro w hSw
      (try dsimp only at hSw)
      (try go_simp)
      all_goals (with_reducible rfl)
    try simp only [Act.put, List.setIfInBounds_toArray, List.set_cons_zero, List.set_cons_succ]
    refine wpAnyH_take (i := 1) (oi := { dst := some 6, op := Op.load 9 (Operand.tmp 5), type := 9, pos := "pseudo.go:62", after := #[{ on := 0, ground := Ground.data }], guard := none }) (v := ?_) rfl (by kernel_rfl) (by kernel_rfl) (by kernel_rfl) (fun _ _ _ h => h) (Or.inl ⟨by rfl, ?_⟩) (by assumption) ?_
    case refine_2 =>
      intro w hSw
      (try dsimp only at hSw)
      (try go_simp)
      all_goals (with_reducible rfl)
    try simp only [Act.put, List.setIfInBounds_toArray, List.set_cons_zero, List.set_cons_succ]
    refine wpAnyH_take (i := 2) (oi := { dst := some 7, op := Op.fieldAddr 54 (Operand.tmp 3) 0, type := 0, pos := "pseudo.go:62", after := #[], guard := none }) (v := ?_) rfl (by kernel_rfl) (by kernel_rfl) (by kernel_rfl) (fun _ _ _ h => h) (Or.inl ⟨by rfl, ?_⟩) (by assumption) ?_
    case refine_2 =>
      intro w hSw
      (try dsimp only at hSw)
      (try go_simp)
      all_goals (with_reducible rfl)
    try simp only [Act.put, List.setIfInBounds_toArray, List.set_cons_zero, List.set_cons_succ]
    refine wpAnyH_take (i := 3) (oi := { dst := some 8, op := Op.load 3 (Operand.tmp 7), type := 3, pos := "pseudo.go:62", after := #[{ on := 2, ground := Ground.data }], guard := none }) (v := ?_) rfl (by kernel_rfl) (by kernel_rfl) (by kernel_rfl) (fun _ _ _ h => h) (Or.inl ⟨by rfl, ?_⟩) (by assumption) ?_
    case refine_2 =>
      intro w hSw
      (try dsimp only at hSw)
      (try go_simp)
      all_goals (with_reducible rfl)
    try simp only [Act.put, List.setIfInBounds_toArray, List.set_cons_zero, List.set_cons_succ]
    refine wpAnyH_take (i := 4) (oi := { dst := some 9, op := Op.fieldAddr 54 (Operand.tmp 3) 1, type := 0, pos := "pseudo.go:62", after := #[], guard := none }) (v := ?_) rfl (by kernel_rfl) (by kernel_rfl) (by kernel_rfl) (fun _ _ _ h => h) (Or.inl ⟨by rfl, ?_⟩) (by assumption) ?_
    case refine_2 =>
      intro w hSw
      (try dsimp only at hSw)
      (try go_simp)
      all_goals (with_reducible rfl)
    try simp only [Act.put, List.setIfInBounds_toArray, List.set_cons_zero, List.set_cons_succ]
    refine wpAnyH_take (i := 5) (oi := { dst := some 10, op := Op.load 3 (Operand.tmp 9), type := 3, pos := "pseudo.go:62", after := #[{ on := 4, ground := Ground.data }], guard := none }) (v := ?_) rfl (by kernel_rfl) (by kernel_rfl) (by kernel_rfl) (fun _ _ _ h => h) (Or.inl ⟨by rfl, ?_⟩) (by assumption) ?_
    case refine_2 =>
      intro w hSw
      (try dsimp only at hSw)
      (try go_simp)
      all_goals (with_reducible rfl)
    try simp only [Act.put, List.setIfInBounds_toArray, List.set_cons_zero, List.set_cons_succ]
    refine wpAnyH_ready (rs := [6]) (by kernel_rfl) (by simp) (AllReadyH.cons (o := { dst := some 11, op := Op.call { callee := Callee.value (Operand.func 184), args := #[Operand.tmp 6, Operand.tmp 8, Operand.tmp 10], argTypes := #[9, 3, 3] }, type := 4, pos := "pseudo.go:62", after := #[{ on := 1, ground := Ground.data }, { on := 3, ground := Ground.data }, { on := 5, ground := Ground.data }], guard := none }) rfl (fun K hK => ?_) AllReadyH.nil)
    go_simp
    refine (can_is5 s a b _ _ C.out).mono ?_; rintro e w2 ⟨rfl, hb⟩
    refine hK.out _ _ ?_ (fun hHeld => ?_)
    · exact pm_keep hHeld hb
    clear hK K
    refine wpAnyH_take (i := 7) (oi := { dst := some 12, op := Op.move (Operand.tmp 11), type := 4, pos := "pseudo.go:62", after := #[{ on := 6, ground := Ground.data }, { on := 6, ground := Ground.chain }], guard := none }) (v := ?_) rfl (by kernel_rfl) (by kernel_rfl) (by kernel_rfl) (fun _ _ _ h => h) (Or.inl ⟨by rfl, ?_⟩) (by assumption) ?_
    case refine_2 =>
      intro w hSw
      (try dsimp only at hSw)
      (try go_simp)
      all_goals (with_reducible rfl)
    try simp only [Act.put, List.setIfInBounds_toArray, List.set_cons_zero, List.set_cons_succ]
    refine wpAnyH_take (i := 8) (oi := { dst := some 13, op := Op.fieldAddr 23 (Operand.tmp 2) 0, type := 0, pos := "pseudo.go:62", after := #[{ on := 7, ground := Ground.guard }], guard := some (7, true) }) (v := undef) rfl (by kernel_rfl) (by kernel_rfl) (by kernel_rfl) (fun _ _ _ h => h) (Or.inr ⟨by rfl, rfl⟩) (by assumption) ?_
    try simp only [Act.put, List.setIfInBounds_toArray, List.set_cons_zero, List.set_cons_succ]
    refine wpAnyH_take (i := 9) (oi := { dst := some 14, op := Op.load 9 (Operand.tmp 13), type := 9, pos := "pseudo.go:62", after := #[{ on := 8, ground := Ground.data }, { on := 7, ground := Ground.guard }], guard := some (7, true) }) (v := undef) rfl (by kernel_rfl) (by kernel_rfl) (by kernel_rfl) (fun _ _ _ h => h) (Or.inr ⟨by rfl, rfl⟩) (by assumption) ?_
    try simp only [Act.put, List.setIfInBounds_toArray, List.set_cons_zero, List.set_cons_succ]
    refine wpAnyH_take (i := 10) (oi := { dst := some 15, op := Op.fieldAddr 54 (Operand.tmp 3) 0, type := 0, pos := "pseudo.go:62", after := #[{ on := 7, ground := Ground.guard }], guard := some (7, true) }) (v := undef) rfl (by kernel_rfl) (by kernel_rfl) (by kernel_rfl) (fun _ _ _ h => h) (Or.inr ⟨by rfl, rfl⟩) (by assumption) ?_
    try simp only [Act.put, List.setIfInBounds_toArray, List.set_cons_zero, List.set_cons_succ]
    refine wpAnyH_take (i := 11) (oi := { dst := some 16, op := Op.load 3 (Operand.tmp 15), type := 3, pos := "pseudo.go:62", after := #[{ on := 10, ground := Ground.data }, { on := 7, ground := Ground.guard }], guard := some (7, true) }) (v := undef) rfl (by kernel_rfl) (by kernel_rfl) (by kernel_rfl) (fun _ _ _ h => h) (Or.inr ⟨by rfl, rfl⟩) (by assumption) ?_
    try simp only [Act.put, List.setIfInBounds_toArray, List.set_cons_zero, List.set_cons_succ]
    refine wpAnyH_take (i := 12) (oi := { dst := some 17, op := Op.index 9 (Operand.tmp 14) (Operand.tmp 16), type := 5, pos := "pseudo.go:62", after := #[{ on := 9, ground := Ground.data }, { on := 11, ground := Ground.data }, { on := 7, ground := Ground.guard }], guard := some (7, true) }) (v := undef) rfl (by kernel_rfl) (by kernel_rfl) (by kernel_rfl) (fun _ _ _ h => h) (Or.inr ⟨by rfl, rfl⟩) (by assumption) ?_
    try simp only [Act.put, List.setIfInBounds_toArray, List.set_cons_zero, List.set_cons_succ]
    refine wpAnyH_take (i := 14) (oi := { dst := some 19, op := Op.fieldAddr 23 (Operand.tmp 2) 1, type := 0, pos := "pseudo.go:62", after := #[{ on := 7, ground := Ground.guard }], guard := some (7, true) }) (v := undef) rfl (by kernel_rfl) (by kernel_rfl) (by kernel_rfl) (fun _ _ _ h => h) (Or.inr ⟨by rfl, rfl⟩) (by assumption) ?_
    try simp only [Act.put, List.setIfInBounds_toArray, List.set_cons_zero, List.set_cons_succ]
    refine wpAnyH_take (i := 15) (oi := { dst := some 20, op := Op.load 3 (Operand.tmp 19), type := 3, pos := "pseudo.go:62", after := #[{ on := 14, ground := Ground.data }, { on := 7, ground := Ground.guard }], guard := some (7, true) }) (v := undef) rfl (by kernel_rfl) (by kernel_rfl) (by kernel_rfl) (fun _ _ _ h => h) (Or.inr ⟨by rfl, rfl⟩) (by assumption) ?_
    try simp only [Act.put, List.setIfInBounds_toArray, List.set_cons_zero, List.set_cons_succ]
    refine wpAnyH_ready (rs := [13]) (by kernel_rfl) (by simp) (AllReadyH.cons (o := { dst := some 18, op := Op.call { callee := Callee.value (Operand.func 185), args := #[Operand.tmp 17], argTypes := #[5] }, type := 3, pos := "pseudo.go:62", after := #[{ on := 12, ground := Ground.data }, { on := 7, ground := Ground.chain }, { on := 7, ground := Ground.guard }], guard := some (7, true) }) rfl (fun K hK => ?_) AllReadyH.nil)
    split
    · rename_i hw
      exact Bool.noConfusion (show false = true from hw)
    refine hK.out _ _ ?_ (fun hHeld => ?_)
    · assumption
    clear hK K
    try simp only [Act.put, List.setIfInBounds_toArray, List.set_cons_zero, List.set_cons_succ]
    refine wpAnyH_take (i := 16) (oi := { dst := some 21, op := Op.binOp BinOp.eql 3 (Operand.tmp 18) (Operand.tmp 20) 3, type := 4, pos := "pseudo.go:62", after := #[{ on := 13, ground := Ground.data }, { on := 15, ground := Ground.data }, { on := 7, ground := Ground.guard }], guard := some (7, true) }) (v := undef) rfl (by kernel_rfl) (by kernel_rfl) (by kernel_rfl) (fun _ _ _ h => h) (Or.inr ⟨by rfl, rfl⟩) (by assumption) ?_
    try simp only [Act.put, List.setIfInBounds_toArray, List.set_cons_zero, List.set_cons_succ]
    refine wpAnyH_take (i := 17) (oi := { dst := some 22, op := Op.pick (Operand.tmp 12) (Operand.tmp 21) (Operand.const (Value.bool false)), type := 4, pos := "pseudo.go:62", after := #[{ on := 7, ground := Ground.data }, { on := 16, ground := Ground.data }], guard := none }) (v := ?_) rfl (by kernel_rfl) (by kernel_rfl) (by kernel_rfl) (fun _ _ _ h => h) (Or.inl ⟨by rfl, ?_⟩) (by assumption) ?_
    case refine_2 =>
      intro w hSw
      (try dsimp only at hSw)
      (try go_simp)
      all_goals (with_reducible rfl)
    try simp only [Act.put, List.setIfInBounds_toArray, List.set_cons_zero, List.set_cons_succ]
    refine wpAnyH_take (i := 18) (oi := { dst := some 4, op := Op.assign (Operand.tmp 22), type := 4, pos := "pseudo.go:62", after := #[{ on := 17, ground := Ground.data }, { on := 13, ground := Ground.chain }, { on := 0, ground := Ground.phase }, { on := 1, ground := Ground.phase }, { on := 2, ground := Ground.phase }, { on := 3, ground := Ground.phase }, { on := 4, ground := Ground.phase }, { on := 5, ground := Ground.phase }, { on := 6, ground := Ground.phase }, { on := 7, ground := Ground.phase }, { on := 8, ground := Ground.phase }, { on := 9, ground := Ground.phase }, { on := 10, ground := Ground.phase }, { on := 11, ground := Ground.phase }, { on := 12, ground := Ground.phase }, { on := 13, ground := Ground.phase }, { on := 14, ground := Ground.phase }, { on := 15, ground := Ground.phase }, { on := 16, ground := Ground.phase }, { on := 17, ground := Ground.phase }], guard := none }) (v := ?_) rfl (by kernel_rfl) (by kernel_rfl) (by kernel_rfl) (fun _ _ _ h => h) (Or.inl ⟨by rfl, ?_⟩) (by assumption) ?_
    case refine_2 =>
      intro w hSw
      (try dsimp only at hSw)
      (try go_simp)
      all_goals (with_reducible rfl)
    try simp only [Act.put, List.setIfInBounds_toArray, List.set_cons_zero, List.set_cons_succ]
    refine wpAnyH_done (by kernel_rfl) ?_ _
    go_wp2
    go_ret
    exact ⟨rfl, hHeld.2.2.2.2⟩
  · obtain ⟨hi, ha, hb⟩ : isB s = true ∧ sqI a = true ∧ sqI b = true := by
      unfold canI at hc
      simp only [Bool.and_eq_true] at hc
      exact ⟨hc.1.1.1, hc.1.1.2, hc.1.2⟩
    obtain ⟨a0, a1⟩ := sqI_in ha
    obtain ⟨m, rfl⟩ : ∃ m : Nat, a = m := ⟨a.toNat, by omega⟩
    have hz := isB_size hi
    have hms : m < s.size := by omega
    obtain ⟨c, hcm⟩ : ∃ c, bAt s m = c := ⟨_, rfl⟩
    have hbk : s[m].toNat = c := (bAt_eq s m hms).trans hcm
    obtain ⟨y, hy⟩ : ∃ y, sideN c = y := ⟨_, rfl⟩
    have hv : (y == side) = v := by rw [← h, isM, hc, Int.toNat_natCast, hcm, hy]; rfl
    have C := Lib.hid hc
    have Y := Lib.hid hy
    have K := Lib.hid hv
    clear h hc hi ha hb hcm hy hv hz a0 a1
    go_enter Tryz.func132, Tryz.ntmps132
    go_wp2_with fail
    rw [HW.out]
    refine wp_region_held_drew (S := fun W => W.cell? ⟨w.heap.size, 0, none⟩ = some (.string s) ∧ W.cell? ⟨w.heap.size, 1, none⟩ = some (.int .i64 side) ∧ W.cell? ⟨w.heap.size + 1, 0, none⟩ = some (.int .i64 (m : Int)) ∧ W.cell? ⟨w.heap.size + 1, 1, none⟩ = some (.int .i64 b) ∧ Below w.heap.size w W) (by kernel_rfl) (hS) (fun hHeld => ?_)
    refine wpAnyH_take (i := 0) (oi := { dst := some 5, op := Op.fieldAddr 23 (Operand.tmp 2) 0, type := 0, pos := "pseudo.go:62", after := #[], guard := none }) (v := ?_) rfl (by kernel_rfl) (by kernel_rfl) (by kernel_rfl) (fun _ _ _ h => h) (Or.inl ⟨by rfl, ?_⟩) (by assumption) ?_
    case refine_2 =>
      intro w hSw
      (try dsimp only at hSw)
      (try go_simp)
      all_goals (with_reducible rfl)
    try simp only [Act.put, List.setIfInBounds_toArray, List.set_cons_zero, List.set_cons_succ]
    refine wpAnyH_take (i := 1) (oi := { dst := some 6, op := Op.load 9 (Operand.tmp 5), type := 9, pos := "pseudo.go:62", after := #[{ on := 0, ground := Ground.data }], guard := none }) (v := ?_) rfl (by kernel_rfl) (by kernel_rfl) (by kernel_rfl) (fun _ _ _ h => h) (Or.inl ⟨by rfl, ?_⟩) (by assumption) ?_
    case refine_2 =>
      intro w hSw
      (try dsimp only at hSw)
      (try go_simp)
      all_goals (with_reducible rfl)
    try simp only [Act.put, List.setIfInBounds_toArray, List.set_cons_zero, List.set_cons_succ]
    refine wpAnyH_take (i := 2) (oi := { dst := some 7, op := Op.fieldAddr 54 (Operand.tmp 3) 0, type := 0, pos := "pseudo.go:62", after := #[], guard := none }) (v := ?_) rfl (by kernel_rfl) (by kernel_rfl) (by kernel_rfl) (fun _ _ _ h => h) (Or.inl ⟨by rfl, ?_⟩) (by assumption) ?_
    case refine_2 =>
      intro w hSw
      (try dsimp only at hSw)
      (try go_simp)
      all_goals (with_reducible rfl)
    try simp only [Act.put, List.setIfInBounds_toArray, List.set_cons_zero, List.set_cons_succ]
    refine wpAnyH_take (i := 3) (oi := { dst := some 8, op := Op.load 3 (Operand.tmp 7), type := 3, pos := "pseudo.go:62", after := #[{ on := 2, ground := Ground.data }], guard := none }) (v := ?_) rfl (by kernel_rfl) (by kernel_rfl) (by kernel_rfl) (fun _ _ _ h => h) (Or.inl ⟨by rfl, ?_⟩) (by assumption) ?_
    case refine_2 =>
      intro w hSw
      (try dsimp only at hSw)
      (try go_simp)
      all_goals (with_reducible rfl)
    try simp only [Act.put, List.setIfInBounds_toArray, List.set_cons_zero, List.set_cons_succ]
    refine wpAnyH_take (i := 4) (oi := { dst := some 9, op := Op.fieldAddr 54 (Operand.tmp 3) 1, type := 0, pos := "pseudo.go:62", after := #[], guard := none }) (v := ?_) rfl (by kernel_rfl) (by kernel_rfl) (by kernel_rfl) (fun _ _ _ h => h) (Or.inl ⟨by rfl, ?_⟩) (by assumption) ?_
    case refine_2 =>
      intro w hSw
      (try dsimp only at hSw)
      (try go_simp)
      all_goals (with_reducible rfl)
    try simp only [Act.put, List.setIfInBounds_toArray, List.set_cons_zero, List.set_cons_succ]
    refine wpAnyH_take (i := 5) (oi := { dst := some 10, op := Op.load 3 (Operand.tmp 9), type := 3, pos := "pseudo.go:62", after := #[{ on := 4, ground := Ground.data }], guard := none }) (v := ?_) rfl (by kernel_rfl) (by kernel_rfl) (by kernel_rfl) (fun _ _ _ h => h) (Or.inl ⟨by rfl, ?_⟩) (by assumption) ?_
    case refine_2 =>
      intro w hSw
      (try dsimp only at hSw)
      (try go_simp)
      all_goals (with_reducible rfl)
    try simp only [Act.put, List.setIfInBounds_toArray, List.set_cons_zero, List.set_cons_succ]
    refine wpAnyH_ready (rs := [6]) (by kernel_rfl) (by simp) (AllReadyH.cons (o := { dst := some 11, op := Op.call { callee := Callee.value (Operand.func 184), args := #[Operand.tmp 6, Operand.tmp 8, Operand.tmp 10], argTypes := #[9, 3, 3] }, type := 4, pos := "pseudo.go:62", after := #[{ on := 1, ground := Ground.data }, { on := 3, ground := Ground.data }, { on := 5, ground := Ground.data }], guard := none }) rfl (fun K hK => ?_) AllReadyH.nil)
    go_simp
    refine (can_is5 s _ b _ _ C.out).mono ?_; rintro e w2 ⟨rfl, hb⟩
    refine hK.out _ _ ?_ (fun hHeld => ?_)
    · exact pm_keep hHeld hb
    clear hK K
    refine wpAnyH_take (i := 7) (oi := { dst := some 12, op := Op.move (Operand.tmp 11), type := 4, pos := "pseudo.go:62", after := #[{ on := 6, ground := Ground.data }, { on := 6, ground := Ground.chain }], guard := none }) (v := ?_) rfl (by kernel_rfl) (by kernel_rfl) (by kernel_rfl) (fun _ _ _ h => h) (Or.inl ⟨by rfl, ?_⟩) (by assumption) ?_
    case refine_2 =>
      intro w hSw
      (try dsimp only at hSw)
      (try go_simp)
      all_goals (with_reducible rfl)
    try simp only [Act.put, List.setIfInBounds_toArray, List.set_cons_zero, List.set_cons_succ]
    refine wpAnyH_take (i := 8) (oi := { dst := some 13, op := Op.fieldAddr 23 (Operand.tmp 2) 0, type := 0, pos := "pseudo.go:62", after := #[{ on := 7, ground := Ground.guard }], guard := some (7, true) }) (v := ?_) rfl (by kernel_rfl) (by kernel_rfl) (by kernel_rfl) (fun _ _ _ h => h) (Or.inl ⟨by rfl, ?_⟩) (by assumption) ?_
    case refine_2 =>
      intro w hSw
      (try dsimp only at hSw)
      (try go_simp)
      all_goals (with_reducible rfl)
    try simp only [Act.put, List.setIfInBounds_toArray, List.set_cons_zero, List.set_cons_succ]
    refine wpAnyH_take (i := 9) (oi := { dst := some 14, op := Op.load 9 (Operand.tmp 13), type := 9, pos := "pseudo.go:62", after := #[{ on := 8, ground := Ground.data }, { on := 7, ground := Ground.guard }], guard := some (7, true) }) (v := ?_) rfl (by kernel_rfl) (by kernel_rfl) (by kernel_rfl) (fun _ _ _ h => h) (Or.inl ⟨by rfl, ?_⟩) (by assumption) ?_
    case refine_2 =>
      intro w hSw
      (try dsimp only at hSw)
      (try go_simp)
      all_goals (with_reducible rfl)
    try simp only [Act.put, List.setIfInBounds_toArray, List.set_cons_zero, List.set_cons_succ]
    refine wpAnyH_take (i := 10) (oi := { dst := some 15, op := Op.fieldAddr 54 (Operand.tmp 3) 0, type := 0, pos := "pseudo.go:62", after := #[{ on := 7, ground := Ground.guard }], guard := some (7, true) }) (v := ?_) rfl (by kernel_rfl) (by kernel_rfl) (by kernel_rfl) (fun _ _ _ h => h) (Or.inl ⟨by rfl, ?_⟩) (by assumption) ?_
    case refine_2 =>
      intro w hSw
      (try dsimp only at hSw)
      (try go_simp)
      all_goals (with_reducible rfl)
    try simp only [Act.put, List.setIfInBounds_toArray, List.set_cons_zero, List.set_cons_succ]
    refine wpAnyH_take (i := 11) (oi := { dst := some 16, op := Op.load 3 (Operand.tmp 15), type := 3, pos := "pseudo.go:62", after := #[{ on := 10, ground := Ground.data }, { on := 7, ground := Ground.guard }], guard := some (7, true) }) (v := ?_) rfl (by kernel_rfl) (by kernel_rfl) (by kernel_rfl) (fun _ _ _ h => h) (Or.inl ⟨by rfl, ?_⟩) (by assumption) ?_
    case refine_2 =>
      intro w hSw
      (try dsimp only at hSw)
      (try go_simp)
      all_goals (with_reducible rfl)
    try simp only [Act.put, List.setIfInBounds_toArray, List.set_cons_zero, List.set_cons_succ]
    refine wpAnyH_take (i := 12) (oi := { dst := some 17, op := Op.index 9 (Operand.tmp 14) (Operand.tmp 16), type := 5, pos := "pseudo.go:62", after := #[{ on := 9, ground := Ground.data }, { on := 11, ground := Ground.data }, { on := 7, ground := Ground.guard }], guard := some (7, true) }) (v := ?_) rfl (by kernel_rfl) (by kernel_rfl) (by kernel_rfl) (fun _ _ _ h => h) (Or.inl ⟨by rfl, ?_⟩) (by assumption) ?_
    case refine_2 =>
      intro w hSw
      (try dsimp only at hSw)
      (try go_simp)
      all_goals (with_reducible rfl)
    try simp only [Act.put, List.setIfInBounds_toArray, List.set_cons_zero, List.set_cons_succ]
    refine wpAnyH_take (i := 14) (oi := { dst := some 19, op := Op.fieldAddr 23 (Operand.tmp 2) 1, type := 0, pos := "pseudo.go:62", after := #[{ on := 7, ground := Ground.guard }], guard := some (7, true) }) (v := ?_) rfl (by kernel_rfl) (by kernel_rfl) (by kernel_rfl) (fun _ _ _ h => h) (Or.inl ⟨by rfl, ?_⟩) (by assumption) ?_
    case refine_2 =>
      intro w hSw
      (try dsimp only at hSw)
      (try go_simp)
      all_goals (with_reducible rfl)
    try simp only [Act.put, List.setIfInBounds_toArray, List.set_cons_zero, List.set_cons_succ]
    refine wpAnyH_take (i := 15) (oi := { dst := some 20, op := Op.load 3 (Operand.tmp 19), type := 3, pos := "pseudo.go:62", after := #[{ on := 14, ground := Ground.data }, { on := 7, ground := Ground.guard }], guard := some (7, true) }) (v := ?_) rfl (by kernel_rfl) (by kernel_rfl) (by kernel_rfl) (fun _ _ _ h => h) (Or.inl ⟨by rfl, ?_⟩) (by assumption) ?_
    case refine_2 =>
      intro w hSw
      (try dsimp only at hSw)
      (try go_simp)
      all_goals (with_reducible rfl)
    try simp only [Act.put, List.setIfInBounds_toArray, List.set_cons_zero, List.set_cons_succ]
    refine wpAnyH_ready (rs := [13]) (by kernel_rfl) (by simp) (AllReadyH.cons (o := { dst := some 18, op := Op.call { callee := Callee.value (Operand.func 185), args := #[Operand.tmp 17], argTypes := #[5] }, type := 3, pos := "pseudo.go:62", after := #[{ on := 12, ground := Ground.data }, { on := 7, ground := Ground.chain }, { on := 7, ground := Ground.guard }], guard := some (7, true) }) rfl (fun K hK => ?_) AllReadyH.nil)
    go_simp
    refine (sideb6_is c _ _ Y.out).mono ?_; rintro e w2 ⟨rfl, hb⟩
    refine hK.out _ _ ?_ (fun hHeld => ?_)
    · exact pm_keep hHeld hb
    clear hK K
    refine wpAnyH_take (i := 16) (oi := { dst := some 21, op := Op.binOp BinOp.eql 3 (Operand.tmp 18) (Operand.tmp 20) 3, type := 4, pos := "pseudo.go:62", after := #[{ on := 13, ground := Ground.data }, { on := 15, ground := Ground.data }, { on := 7, ground := Ground.guard }], guard := some (7, true) }) (v := ?_) rfl (by kernel_rfl) (by kernel_rfl) (by kernel_rfl) (fun _ _ _ h => h) (Or.inl ⟨by rfl, ?_⟩) (by assumption) ?_
    case refine_2 =>
      intro w hSw
      (try dsimp only at hSw)
      (try go_simp)
      all_goals (with_reducible rfl)
    try simp only [Act.put, List.setIfInBounds_toArray, List.set_cons_zero, List.set_cons_succ]
    refine wpAnyH_take (i := 17) (oi := { dst := some 22, op := Op.pick (Operand.tmp 12) (Operand.tmp 21) (Operand.const (Value.bool false)), type := 4, pos := "pseudo.go:62", after := #[{ on := 7, ground := Ground.data }, { on := 16, ground := Ground.data }], guard := none }) (v := ?_) rfl (by kernel_rfl) (by kernel_rfl) (by kernel_rfl) (fun _ _ _ h => h) (Or.inl ⟨by rfl, ?_⟩) (by assumption) ?_
    case refine_2 =>
      intro w hSw
      (try dsimp only at hSw)
      (try go_simp)
      all_goals (with_reducible rfl)
    try simp only [Act.put, List.setIfInBounds_toArray, List.set_cons_zero, List.set_cons_succ]
    refine wpAnyH_take (i := 18) (oi := { dst := some 4, op := Op.assign (Operand.tmp 22), type := 4, pos := "pseudo.go:62", after := #[{ on := 17, ground := Ground.data }, { on := 13, ground := Ground.chain }, { on := 0, ground := Ground.phase }, { on := 1, ground := Ground.phase }, { on := 2, ground := Ground.phase }, { on := 3, ground := Ground.phase }, { on := 4, ground := Ground.phase }, { on := 5, ground := Ground.phase }, { on := 6, ground := Ground.phase }, { on := 7, ground := Ground.phase }, { on := 8, ground := Ground.phase }, { on := 9, ground := Ground.phase }, { on := 10, ground := Ground.phase }, { on := 11, ground := Ground.phase }, { on := 12, ground := Ground.phase }, { on := 13, ground := Ground.phase }, { on := 14, ground := Ground.phase }, { on := 15, ground := Ground.phase }, { on := 16, ground := Ground.phase }, { on := 17, ground := Ground.phase }], guard := none }) (v := ?_) rfl (by kernel_rfl) (by kernel_rfl) (by kernel_rfl) (fun _ _ _ h => h) (Or.inl ⟨by rfl, ?_⟩) (by assumption) ?_
    case refine_2 =>
      intro w hSw
      (try dsimp only at hSw)
      (try go_simp)
      all_goals (with_reducible rfl)
    try simp only [Act.put, List.setIfInBounds_toArray, List.set_cons_zero, List.set_cons_succ]
    refine wpAnyH_done (by kernel_rfl) ?_ _
    go_wp2
    go_ret
    exact ⟨by rw [← K.out]; rfl, hHeld.2.2.2.2⟩
end Go.Proofs.YtpogpjebhnoncaaGreatDoor
namespace Go.Proofs.YtpogpjebhnoncaaGreatDoor
open Go.RowKit Go.Shelf
open M (S)
def MvS (w : World) (g h k : Nat) (s : ByteArray) (side clock full : Int) (a b : Nat) (W : World) : Prop :=
  W.cell? ⟨g, 0, none⟩ = some (.string s) ∧ W.cell? ⟨g, 1, none⟩ = some (.int .i64 side) ∧ W.cell? ⟨g, 2, none⟩ = some (.int .i64 clock) ∧ W.cell? ⟨g, 3, none⟩ = some (.int .i64 full) ∧ W.cell? ⟨h, 0, none⟩ = some (.int .i64 (a : Int)) ∧ W.cell? ⟨h, 1, none⟩ = some (.int .i64 (b : Int)) ∧
  W.cell? ⟨k, a, none⟩ = some (cellOf W ⟨k, a, none⟩) ∧ W.cell? ⟨k, b, none⟩ = some (cellOf W ⟨k, b, none⟩) ∧ W.frozen? ⟨k, a, none⟩ = false ∧ W.frozen? ⟨k, b, none⟩ = false ∧ Below w.heap.size w W
theorem mvS_set {w : World} {g h k : Nat} {s : ByteArray} {side clock full : Int} {a b : Nat} {W : World} (hS : MvS w g h k s side clock full a b W) (hg : g ≠ k) (hh : h ≠ k) (hk : w.heap.size ≤ k) (o : Nat) (u : Value) : MvS w g h k s side clock full a b (W.setCell ⟨k, o, none⟩ u) := by
  obtain ⟨h0, h1, h2, h3, h4, h5, h6, h7, h8, h9, h10⟩ := hS
  have far : ∀ (q : Nat) (i : Nat), q ≠ k → (W.setCell ⟨k, o, none⟩ u).cell? ⟨q, i, none⟩ = W.cell? ⟨q, i, none⟩ := fun q i hq => World.cell?_setCell_other _ _ _ _ (by intro e; injection e with e1; exact hq e1.symm)
  exact ⟨(far g 0 hg).trans h0, (far g 1 hg).trans h1, (far g 2 hg).trans h2, (far g 3 hg).trans h3, (far h 0 hh).trans h4, (far h 1 hh).trans h5, cellOf_some (isSome_set (isSome_of h6)), cellOf_some (isSome_set (isSome_of h7)), by simpa using h8, by simpa using h9, h10.setCell (p := ⟨k, o, none⟩) hk u⟩
theorem pblk_four {W : World} {g : Nat} {t : TypeId} {x y z u a b c d : Value} (h : Blk W g t #[x, y, z, u]) : Blk ((((W.setCell ⟨g, 0, none⟩ a).setCell ⟨g, 1, none⟩ b).setCell ⟨g, 2, none⟩ c).setCell ⟨g, 3, none⟩ d) g t #[a, b, c, d] := (((h.set_ 0 a).set_ 1 b).set_ 2 c).set_ 3 d
theorem pres_pos {fn : Func} {p u : Tmp} (h : fn.results = #[.cell p 23, .tmp u]) (tmps : Array Value) (w : World) {g : Nat} (hp : tmps.getD p undef = .pointer (some ⟨g, 0, none⟩)) {t : TypeId} {a b c d : Value} (hb : Blk w g t #[a, b, c, d]) :
    (results fn tmps).run Tryz.prog w = .ok (.tuple #[.agg #[a, b, c, d], tmps.getD u undef]) w := by
  rw [results_cell_tmp h, hp]
  have h1 := run_loadVar_row (P := Tryz.prog) w g t 23 #[a, b, c, d] (0, 0) _ hb Tryz.underlying23 rfl (by kernel_rfl)
  simp [asAddr, h1, Result.andThen]
theorem mvEnd {w W : World} {g : Nat} {t : TypeId} {x y z u a b c d : Value} (h : Blk W g t #[x, y, z, u]) (hg : w.heap.size ≤ g) (hB : Below w.heap.size w W) : Blk ((((W.setCell ⟨g, 0, none⟩ a).setCell ⟨g, 1, none⟩ b).setCell ⟨g, 2, none⟩ c).setCell ⟨g, 3, none⟩ d) g t #[a, b, c, d] ∧ Below w.heap.size w ((((W.setCell ⟨g, 0, none⟩ a).setCell ⟨g, 1, none⟩ b).setCell ⟨g, 2, none⟩ c).setCell ⟨g, 3, none⟩ d) :=
  ⟨pblk_four h, (((hB.setCell (p := ⟨g, 0, none⟩) hg _).setCell (p := ⟨g, 1, none⟩) hg _).setCell (p := ⟨g, 2, none⟩) hg _).setCell (p := ⟨g, 3, none⟩) hg _⟩
set_option maxRecDepth 100000 in
set_option maxHeartbeats 4000000 in
theorem moved_is (s : ByteArray) (side clock full : Int) (a b c x : Nat) (w : World) (hs : s.size = 90) (ha : a < 90) (hb : b < 90) (hab : a ≠ b) (hside : side = 0 ∨ side = 1) (h0 : 0 ≤ clock) (h1 : clock ≤ 120) (h2 : 1 ≤ full) (h3 : full ≤ 9999) (hc : bAt s a = c) (hx : bAt s b = x) :
    Calls Tryz.prog 134 #[.agg #[.string s, .int .i64 side, .int .i64 clock, .int .i64 full], .agg #[.int .i64 (a : Int), .int .i64 (b : Int)]] w (Gives w (.tuple #[.agg #[.string (movedS s a b c), .int .i64 (1 - side), .int .i64 (clockA s clock b), .int .i64 (fullA side full)], .int .u8 (takenN s b : Nat)])) := by
  unfold Gives
  obtain ⟨W1, hW1⟩ : ∃ W1, ((w.alloc (.cells #[.string s, .int .i64 side, .int .i64 clock, .int .i64 full] 23)).alloc (.cells #[.int .i64 (a : Int), .int .i64 (b : Int)] 54)).alloc (.cells #[.string ⟨#[]⟩, .int .i64 0, .int .i64 0, .int .i64 0] 23) = W1 := ⟨_, rfl⟩
  have hB : Below w.heap.size w W1 := by rw [← hW1]; exact (by repeat (first | exact Below.refl _ _ | (refine Below.setCell ?_ (by first | omega | (simp; done) | (simp; omega) | (simp at *; omega)) _) | (refine Below.alloc ?_ (by first | omega | (simp; done) | (simp; omega) | (simp at *; omega)) _) | refine Below.drew ?_ | (refine below_drewN ?_ _) | (refine Below.trans ?_ (Below.mono (by assumption) (by first | omega | (simp; done) | (simp; omega) | (simp at *; omega))))))
  have bP : Blk W1 w.heap.size 23 #[.string s, .int .i64 side, .int .i64 clock, .int .i64 full] := by rw [← hW1]; exact ((Blk.new _ _ _ rfl).alloc _).alloc _
  have bM : Blk W1 (w.heap.size + 1) 54 #[.int .i64 (a : Int), .int .i64 (b : Int)] := by rw [← hW1]; exact (Blk.new _ _ _ (by simp)).alloc _
  have bR : Blk W1 (w.heap.size + 2) 23 #[.string ⟨#[]⟩, .int .i64 0, .int .i64 0, .int .i64 0] := by rw [← hW1]; exact Blk.new _ _ _ (by simp)
  have hsz : W1.heap.size = w.heap.size + 3 := by rw [← hW1]; simp
  have hk1 : w.heap.size ≠ W1.heap.size := by omega
  have hk2 : w.heap.size + 1 ≠ W1.heap.size := by omega
  have hk3 : w.heap.size ≤ W1.heap.size := by omega
  have hk4 : w.heap.size + 2 ≠ W1.heap.size := by omega
  have HZ := Lib.hid hsz
  clear hsz
  obtain ⟨C, W2, hconv, hcell, hfr, hbel⟩ := bytes_of s W1 hs
  have hbs : b < s.size := by omega
  have hbk : s[b].toNat = x := (bAt_eq s b hbs).trans hx
  have p0 := bP.cell 0
  have m1 := bM.cell 1
  simp only [List.getElem?_toArray, List.getElem?_cons_zero, List.getElem?_cons_succ] at p0 m1
  go_enter Tryz.func134, Tryz.ntmps134
  go_wp2_with fail
  have bP2 := bP.next hbel
  have bM2 := bM.next hbel
  have bR2 := bR.next hbel
  have ca := hcell a ha
  have cb := hcell b hb
  rw [hc] at ca
  have hS : MvS w w.heap.size (w.heap.size + 1) W1.heap.size s side clock full a b W2.drew := ⟨bP2.cell 0, bP2.cell 1, bP2.cell 2, bP2.cell 3, bM2.cell 0, bM2.cell 1, cellOf_some (isSome_of ca), cellOf_some (isSome_of cb), hfr a ha, hfr b hb, (hB.trans (hbel.mono hB.size)).drew⟩
  have hba : b ≠ a := fun e => hab e.symm
  have fa := hfr a ha
  have fb := hfr b hb
  have c2 : (W2.drew.setCell ⟨W1.heap.size, a, none⟩ (.int .u8 46)).cell? ⟨W1.heap.size, b, none⟩ = some (.int .u8 (bAt s b : Nat)) := by rw [World.cell?_setCell_other _ _ _ _ (by intro e; injection e with _ e2; first | exact hab e2 | exact hab e2.symm)]; exact cb
  have f2 : (W2.drew.setCell ⟨W1.heap.size, a, none⟩ (.int .u8 46)).frozen? ⟨W1.heap.size, b, none⟩ = false := by simpa using hfr b hb
  have ha0 : (0 : Int) ≤ (a : Int) := by omega
  have hb0 : (0 : Int) ≤ (b : Int) := by omega
  have ha9 : (a : Int) < 90 := by omega
  have hb9 : (b : Int) < 90 := by omega
  have hcv : cellOf W2.drew ⟨W1.heap.size, a, none⟩ = .int .u8 (c : Int) := by
    unfold cellOf
    rw [show W2.drew.cell? ⟨W1.heap.size, a, none⟩ = some (.int .u8 (c : Int)) from ca]
    rfl
  refine wp_region_held_drew (S := fun W => W.cell? ⟨w.heap.size, 0, none⟩ = some (.string s) ∧ W.cell? ⟨w.heap.size, 1, none⟩ = some (.int .i64 side) ∧ W.cell? ⟨w.heap.size, 2, none⟩ = some (.int .i64 clock) ∧ W.cell? ⟨w.heap.size, 3, none⟩ = some (.int .i64 full) ∧ W.cell? ⟨w.heap.size + 1, 0, none⟩ = some (.int .i64 (a : Int)) ∧ W.cell? ⟨w.heap.size + 1, 1, none⟩ = some (.int .i64 (b : Int)) ∧ W.cell? ⟨W1.heap.size, a, none⟩ = some (cellOf W ⟨W1.heap.size, a, none⟩) ∧ W.cell? ⟨W1.heap.size, b, none⟩ = some (cellOf W ⟨W1.heap.size, b, none⟩) ∧ W.frozen? ⟨W1.heap.size, a, none⟩ = false ∧ W.frozen? ⟨W1.heap.size, b, none⟩ = false ∧ Below w.heap.size w W) (by kernel_rfl) (hS) (fun hHeld => ?_)
  refine wpAnyH_take (i := 0) (oi := { dst := some 17, op := Op.move (Operand.tmp 7), type := 146, pos := "pseudo.go:69", after := #[], guard := none }) (v := ?_) rfl (by kernel_rfl) (by kernel_rfl) (by kernel_rfl) (fun _ _ _ h => h) (Or.inl ⟨by rfl, ?_⟩) (by assumption) ?_
  case refine_2 =>
    intro w hSw
    (try dsimp only at hSw)
    (try go_simp)
    all_goals (with_reducible rfl)
  try simp only [Act.put, List.setIfInBounds_toArray, List.set_cons_zero, List.set_cons_succ]
  refine wpAnyH_take (i := 1) (oi := { dst := some 18, op := Op.fieldAddr 54 (Operand.tmp 3) 0, type := 0, pos := "pseudo.go:69", after := #[], guard := none }) (v := ?_) rfl (by kernel_rfl) (by kernel_rfl) (by kernel_rfl) (fun _ _ _ h => h) (Or.inl ⟨by rfl, ?_⟩) (by assumption) ?_
  case refine_2 =>
    intro w hSw
    (try dsimp only at hSw)
    (try go_simp)
    all_goals (with_reducible rfl)
  try simp only [Act.put, List.setIfInBounds_toArray, List.set_cons_zero, List.set_cons_succ]
  refine wpAnyH_take (i := 2) (oi := { dst := some 19, op := Op.load 3 (Operand.tmp 18), type := 3, pos := "pseudo.go:69", after := #[{ on := 1, ground := Ground.data }], guard := none }) (v := ?_) rfl (by kernel_rfl) (by kernel_rfl) (by kernel_rfl) (fun _ _ _ h => h) (Or.inl ⟨by rfl, ?_⟩) (by assumption) ?_
  case refine_2 =>
    intro w hSw
    (try dsimp only at hSw)
    (try go_simp)
    all_goals (with_reducible rfl)
  try simp only [Act.put, List.setIfInBounds_toArray, List.set_cons_zero, List.set_cons_succ]
  refine wpAnyH_take (i := 3) (oi := { dst := some 20, op := Op.move (Operand.tmp 7), type := 146, pos := "pseudo.go:69", after := #[{ on := 12, ground := Ground.gcOnly Departure.lateStores }], guard := none }) (v := ?_) rfl (by kernel_rfl) (by kernel_rfl) (by kernel_rfl) (fun _ _ _ h => h) (Or.inl ⟨by rfl, ?_⟩) (by assumption) ?_
  case refine_2 =>
    intro w hSw
    (try dsimp only at hSw)
    (try go_simp)
    all_goals (with_reducible rfl)
  try simp only [Act.put, List.setIfInBounds_toArray, List.set_cons_zero, List.set_cons_succ]
  refine wpAnyH_take (i := 4) (oi := { dst := some 21, op := Op.fieldAddr 54 (Operand.tmp 3) 1, type := 0, pos := "pseudo.go:69", after := #[{ on := 12, ground := Ground.gcOnly Departure.lateStores }], guard := none }) (v := ?_) rfl (by kernel_rfl) (by kernel_rfl) (by kernel_rfl) (fun _ _ _ h => h) (Or.inl ⟨by rfl, ?_⟩) (by assumption) ?_
  case refine_2 =>
    intro w hSw
    (try dsimp only at hSw)
    (try go_simp)
    all_goals (with_reducible rfl)
  try simp only [Act.put, List.setIfInBounds_toArray, List.set_cons_zero, List.set_cons_succ]
  refine wpAnyH_take (i := 5) (oi := { dst := some 22, op := Op.load 3 (Operand.tmp 21), type := 3, pos := "pseudo.go:69", after := #[{ on := 4, ground := Ground.data }, { on := 12, ground := Ground.gcOnly Departure.lateStores }], guard := none }) (v := ?_) rfl (by kernel_rfl) (by kernel_rfl) (by kernel_rfl) (fun _ _ _ h => h) (Or.inl ⟨by rfl, ?_⟩) (by assumption) ?_
  case refine_2 =>
    intro w hSw
    (try dsimp only at hSw)
    (try go_simp)
    all_goals (with_reducible rfl)
  try simp only [Act.put, List.setIfInBounds_toArray, List.set_cons_zero, List.set_cons_succ]
  refine wpAnyH_take (i := 6) (oi := { dst := some 23, op := Op.move (Operand.tmp 7), type := 146, pos := "pseudo.go:69", after := #[], guard := none }) (v := ?_) rfl (by kernel_rfl) (by kernel_rfl) (by kernel_rfl) (fun _ _ _ h => h) (Or.inl ⟨by rfl, ?_⟩) (by assumption) ?_
  case refine_2 =>
    intro w hSw
    (try dsimp only at hSw)
    (try go_simp)
    all_goals (with_reducible rfl)
  try simp only [Act.put, List.setIfInBounds_toArray, List.set_cons_zero, List.set_cons_succ]
  refine wpAnyH_take (i := 7) (oi := { dst := some 24, op := Op.fieldAddr 54 (Operand.tmp 3) 0, type := 0, pos := "pseudo.go:69", after := #[], guard := none }) (v := ?_) rfl (by kernel_rfl) (by kernel_rfl) (by kernel_rfl) (fun _ _ _ h => h) (Or.inl ⟨by rfl, ?_⟩) (by assumption) ?_
  case refine_2 =>
    intro w hSw
    (try dsimp only at hSw)
    (try go_simp)
    all_goals (with_reducible rfl)
  try simp only [Act.put, List.setIfInBounds_toArray, List.set_cons_zero, List.set_cons_succ]
  refine wpAnyH_take (i := 8) (oi := { dst := some 25, op := Op.load 3 (Operand.tmp 24), type := 3, pos := "pseudo.go:69", after := #[{ on := 7, ground := Ground.data }], guard := none }) (v := ?_) rfl (by kernel_rfl) (by kernel_rfl) (by kernel_rfl) (fun _ _ _ h => h) (Or.inl ⟨by rfl, ?_⟩) (by assumption) ?_
  case refine_2 =>
    intro w hSw
    (try dsimp only at hSw)
    (try go_simp)
    all_goals (with_reducible rfl)
  try simp only [Act.put, List.setIfInBounds_toArray, List.set_cons_zero, List.set_cons_succ]
  refine wpAnyH_take (i := 9) (oi := { dst := some 26, op := Op.indexAddr 146 (Operand.tmp 23) (Operand.tmp 25), type := 0, pos := "pseudo.go:69", after := #[{ on := 6, ground := Ground.data }, { on := 8, ground := Ground.data }], guard := none }) (v := ?_) rfl (by kernel_rfl) (by kernel_rfl) (by kernel_rfl) (fun _ _ _ h => h) (Or.inl ⟨by rfl, ?_⟩) (by assumption) ?_
  case refine_2 =>
    intro w hSw
    (try dsimp only at hSw)
    (try go_simp)
    all_goals (with_reducible rfl)
  try simp only [Act.put, List.setIfInBounds_toArray, List.set_cons_zero, List.set_cons_succ]
  refine wpAnyH_ready (rs := [10]) (by kernel_rfl) (by simp) (AllReadyH.cons (o := { dst := some 27, op := Op.load 5 (Operand.tmp 26), type := 5, pos := "pseudo.go:69", after := #[{ on := 9, ground := Ground.data }], guard := none }) rfl (fun K hK => ?_) AllReadyH.nil)
  go_simp
  refine hK.out _ _ ?_ (fun hHeld => ?_)
  · exact hHeld
  clear hK K
  try simp only [hcv]
  try simp only [Act.put, List.setIfInBounds_toArray, List.set_cons_zero, List.set_cons_succ]
  refine wpAnyH_take (i := 11) (oi := { dst := some 28, op := Op.indexAddr 146 (Operand.tmp 17) (Operand.tmp 19), type := 0, pos := "pseudo.go:69", after := #[{ on := 0, ground := Ground.data }, { on := 2, ground := Ground.data }, { on := 0, ground := Ground.phase }, { on := 1, ground := Ground.phase }, { on := 2, ground := Ground.phase }, { on := 3, ground := Ground.textOnly Departure.lateStores }, { on := 4, ground := Ground.textOnly Departure.lateStores }, { on := 5, ground := Ground.textOnly Departure.lateStores }, { on := 6, ground := Ground.textOnly Departure.lateStores }, { on := 7, ground := Ground.textOnly Departure.lateStores }, { on := 8, ground := Ground.textOnly Departure.lateStores }, { on := 9, ground := Ground.textOnly Departure.lateStoresUnsure }, { on := 10, ground := Ground.phase }], guard := none }) (v := ?_) rfl (by kernel_rfl) (by kernel_rfl) (by kernel_rfl) (fun _ _ _ h => h) (Or.inl ⟨by rfl, ?_⟩) (by assumption) ?_
  case refine_2 =>
    intro w hSw
    (try dsimp only at hSw)
    (try go_simp)
    all_goals (with_reducible rfl)
  try simp only [Act.put, List.setIfInBounds_toArray, List.set_cons_zero, List.set_cons_succ]
  refine wpAnyH_ready (rs := [12]) (by kernel_rfl) (by simp) (AllReadyH.cons (o := { dst := none, op := Op.store 5 (Operand.tmp 28) (Operand.const (Value.int IntKind.u8 46)), type := 0, pos := "pseudo.go:69", after := #[{ on := 11, ground := Ground.data }, { on := 0, ground := Ground.phase }, { on := 1, ground := Ground.phase }, { on := 2, ground := Ground.phase }, { on := 3, ground := Ground.textOnly Departure.lateStores }, { on := 4, ground := Ground.textOnly Departure.lateStores }, { on := 5, ground := Ground.textOnly Departure.lateStores }, { on := 6, ground := Ground.textOnly Departure.lateStores }, { on := 7, ground := Ground.textOnly Departure.lateStores }, { on := 8, ground := Ground.textOnly Departure.lateStores }, { on := 9, ground := Ground.textOnly Departure.lateStoresUnsure }, { on := 10, ground := Ground.phase }], guard := none }) rfl (fun K hK => ?_) AllReadyH.nil)
  go_simp
  refine hK.out _ _ ?_ (fun hHeld => ?_)
  · exact mvS_set hHeld hk1 hk2 hk3 _ _
  clear hK K
  try simp only [Act.put, List.setIfInBounds_toArray, List.set_cons_zero, List.set_cons_succ]
  refine wpAnyH_take (i := 13) (oi := { dst := some 29, op := Op.indexAddr 146 (Operand.tmp 20) (Operand.tmp 22), type := 0, pos := "pseudo.go:69", after := #[{ on := 3, ground := Ground.data }, { on := 5, ground := Ground.data }, { on := 0, ground := Ground.phase }, { on := 1, ground := Ground.phase }, { on := 2, ground := Ground.phase }, { on := 3, ground := Ground.phase }, { on := 4, ground := Ground.phase }, { on := 5, ground := Ground.phase }, { on := 6, ground := Ground.phase }, { on := 7, ground := Ground.phase }, { on := 8, ground := Ground.phase }, { on := 9, ground := Ground.phase }, { on := 10, ground := Ground.phase }, { on := 11, ground := Ground.phase }, { on := 12, ground := Ground.phase }], guard := none }) (v := ?_) rfl (by kernel_rfl) (by kernel_rfl) (by kernel_rfl) (fun _ _ _ h => h) (Or.inl ⟨by rfl, ?_⟩) (by assumption) ?_
  case refine_2 =>
    intro w hSw
    (try dsimp only at hSw)
    (try go_simp)
    all_goals (with_reducible rfl)
  try simp only [Act.put, List.setIfInBounds_toArray, List.set_cons_zero, List.set_cons_succ]
  refine wpAnyH_ready (rs := [14]) (by kernel_rfl) (by simp) (AllReadyH.cons (o := { dst := none, op := Op.store 5 (Operand.tmp 29) (Operand.tmp 27), type := 0, pos := "pseudo.go:69", after := #[{ on := 13, ground := Ground.data }, { on := 10, ground := Ground.data }, { on := 12, ground := Ground.chain }, { on := 0, ground := Ground.phase }, { on := 1, ground := Ground.phase }, { on := 2, ground := Ground.phase }, { on := 3, ground := Ground.phase }, { on := 4, ground := Ground.phase }, { on := 5, ground := Ground.phase }, { on := 6, ground := Ground.phase }, { on := 7, ground := Ground.phase }, { on := 8, ground := Ground.phase }, { on := 9, ground := Ground.phase }, { on := 10, ground := Ground.phase }, { on := 11, ground := Ground.phase }, { on := 12, ground := Ground.phase }], guard := none }) rfl (fun K hK => ?_) AllReadyH.nil)
  go_simp
  refine hK.out _ _ ?_ (fun hHeld => ?_)
  · exact mvS_set hHeld hk1 hk2 hk3 _ _
  clear hK K
  try simp only [Act.put, List.setIfInBounds_toArray, List.set_cons_zero, List.set_cons_succ]
  refine wpAnyH_done (by kernel_rfl) ?_ _
  obtain ⟨W3, hW3⟩ : ∃ W3, ((W2.setCell ⟨W1.heap.size, a, none⟩ (.int .u8 46)).setCell ⟨W1.heap.size, b, none⟩ (.int .u8 (c : Int))).drew = W3 := ⟨_, rfl⟩
  have hback : (convert 146 9 (.slice (some ⟨W1.heap.size, 0, none⟩) 90 C)).run Tryz.prog W3 = .ok (.string (movedS s a b c)) W3 := by
    have hlen : s.data.toList.length = 90 := by simpa using hs
    have hmv : movedS s a b c = ⟨((s.data.toList.set a (UInt8.ofNat 46)).set b (UInt8.ofNat c)).toArray⟩ := by simp [movedS, putS]
    rw [hmv]
    refine string_of W3 W1.heap.size C _ (by rw [List.length_set, List.length_set]; exact hlen) fun i hi => ?_
    rw [← hW3]
    show World.cell? ((W2.setCell ⟨W1.heap.size, a, none⟩ (.int .u8 46)).setCell ⟨W1.heap.size, b, none⟩ (.int .u8 (c : Int))) _ = _
    have hc256 : c < 256 := by rw [← hc]; exact bAt_lt s a
    by_cases e1 : i = b
    · subst e1
      rw [World.cell?_setCell_same' _ _ _ (by rw [World.cell?_setCell_other _ _ _ _ (by intro e; injection e with _ e2; first | exact hab e2 | exact hab e2.symm), cb]; rfl), List.getElem_set_self, UInt8.toNat_ofNat_of_lt' (by omega)]
    · rw [World.cell?_setCell_other _ _ _ _ (by intro e; injection e with _ e2; exact e1 e2.symm), List.getElem_set_ne (fun e => e1 e.symm)]
      by_cases e2 : i = a
      · subst e2
        rw [World.cell?_setCell_same' _ _ _ (by rw [ca]; rfl), List.getElem_set_self]
        rfl
      · rw [World.cell?_setCell_other _ _ _ _ (by intro e; injection e with _ e3; exact e2 e3.symm), hcell i hi, List.getElem_set_ne (fun e => e2 e.symm), bAt_list]
  have bP3 : Blk W3 w.heap.size 23 #[.string s, .int .i64 side, .int .i64 clock, .int .i64 full] := by rw [← hW3]; exact (bP2.far hk1 _).far hk1 _
  have bR3 : Blk W3 (w.heap.size + 2) 23 #[.string ⟨#[]⟩, .int .i64 0, .int .i64 0, .int .i64 0] := by rw [← hW3]; exact (bR2.far hk4 _).far hk4 _
  have hB3 : Below w.heap.size w W3 := by rw [← hW3]; exact (((hB.trans (hbel.mono hB.size)).setCell (p := ⟨W1.heap.size, a, none⟩) hk3 _).setCell (p := ⟨W1.heap.size, b, none⟩) hk3 _).drew
  obtain ⟨W4, hW4⟩ : ∃ W4, W3.alloc (.cells #[.string (movedS s a b c), .int .i64 0, .int .i64 (min (clock + 1) 120), .int .i64 full] 23) = W4 := ⟨_, rfl⟩
  have bQ4 : Blk W4 W3.heap.size 23 #[.string (movedS s a b c), .int .i64 0, .int .i64 (min (clock + 1) 120), .int .i64 full] := by rw [← hW4]; exact Blk.new _ _ _ rfl
  have bP4 : Blk W4 w.heap.size 23 #[.string s, .int .i64 side, .int .i64 clock, .int .i64 full] := by rw [← hW4]; exact bP3.alloc _
  have bR4 : Blk W4 (w.heap.size + 2) 23 #[.string ⟨#[]⟩, .int .i64 0, .int .i64 0, .int .i64 0] := by rw [← hW4]; exact bR3.alloc _
  have hB4 : Below w.heap.size w W4 := by rw [← hW4]; exact hB3.alloc hB3.size _
  have r2 := bP3.cell 2
  have r3 := bP3.cell 3
  have t1 := bP4.cell 1
  have t3 := bP4.cell 3
  have q0 := bQ4.cell 0
  have q1 := bQ4.cell 1
  have q2 := bQ4.cell 2
  have q3 := bQ4.cell 3
  have f0 := bQ4.frozen 0
  have f1 := bQ4.frozen 1
  have f2' := bQ4.frozen 2
  have f3 := bQ4.frozen 3
  have w0 : W4.cell? ⟨w.heap.size + 1 + 1, 0, none⟩ = some (.string ⟨#[]⟩) := bR4.cell 0
  have w1 : W4.cell? ⟨w.heap.size + 1 + 1, 1, none⟩ = some (.int .i64 0) := bR4.cell 1
  have w2 : W4.cell? ⟨w.heap.size + 1 + 1, 2, none⟩ = some (.int .i64 0) := bR4.cell 2
  have w3 : W4.cell? ⟨w.heap.size + 1 + 1, 3, none⟩ = some (.int .i64 0) := bR4.cell 3
  have e0 : W4.frozen? ⟨w.heap.size + 1 + 1, 0, none⟩ = false := bR4.frozen 0
  have e1 : W4.frozen? ⟨w.heap.size + 1 + 1, 1, none⟩ = false := bR4.frozen 1
  have e2 : W4.frozen? ⟨w.heap.size + 1 + 1, 2, none⟩ = false := bR4.frozen 2
  have e3 : W4.frozen? ⟨w.heap.size + 1 + 1, 3, none⟩ = false := bR4.frozen 3
  have n1 : w.heap.size + 1 + 1 ≠ W3.heap.size := by have := bR3.lt; omega
  have n2 : W3.heap.size ≠ w.heap.size + 1 + 1 := fun e => n1 e.symm
  have n3 : w.heap.size ≠ W3.heap.size := by have := bR3.lt; omega
  have n4h : w.heap.size ≤ W3.heap.size := by have := bR3.lt; omega
  simp only [List.getElem?_toArray, List.getElem?_cons_zero, List.getElem?_cons_succ] at r2 r3 t1 t3 q0 q1 q2 q3
  clear hS ca cb hcell hfr hconv p0 m1 hcv fa fb c2 f2
  have HB4 := Lib.hid hB4
  have HR4 := Lib.hid bR4
  have HP4 := Lib.hid bP4
  have HQ4 := Lib.hid bQ4
  clear hB4 bR4 bP4 bQ4 bP3 bR3 hB3 bP2 bM2 bR2 bP bM bR
  have n4 : w.heap.size ≤ W3.heap.size := n4h
  rcases hside with rfl | rfl
  · by_cases h46 : x = 46
    · subst h46
      go_wp2_with fail
      refine bodyPost_ret (pres_pos rfl _ _ rfl (mvEnd (HR4.out.far (p := ⟨W3.heap.size, 1, none⟩) n1 _) (by omega) (HB4.out.setCell (p := ⟨W3.heap.size, 1, none⟩) n4 _)).1) rfl ⟨?_, (mvEnd (HR4.out.far (p := ⟨W3.heap.size, 1, none⟩) n1 _) (by omega) (HB4.out.setCell (p := ⟨W3.heap.size, 1, none⟩) n4 _)).2⟩
      simp [clockA, fullA, takenN, hx]
    · have hxn : ¬ (x : Int) = 46 := by omega
      go_wp2_with fail
      refine bodyPost_ret (pres_pos rfl _ _ rfl (mvEnd ((HR4.out.far (p := ⟨W3.heap.size, 1, none⟩) n1 _).far (p := ⟨W3.heap.size, 2, none⟩) n1 _) (by omega) ((HB4.out.setCell (p := ⟨W3.heap.size, 1, none⟩) n4 _).setCell (p := ⟨W3.heap.size, 2, none⟩) n4 _)).1) rfl ⟨?_, (mvEnd ((HR4.out.far (p := ⟨W3.heap.size, 1, none⟩) n1 _).far (p := ⟨W3.heap.size, 2, none⟩) n1 _) (by omega) ((HB4.out.setCell (p := ⟨W3.heap.size, 1, none⟩) n4 _).setCell (p := ⟨W3.heap.size, 2, none⟩) n4 _)).2⟩
      simp [clockA, fullA, takenN, hx, h46]
  · by_cases h46 : x = 46
    · subst h46
      go_wp2_with fail
      refine bodyPost_ret (pres_pos rfl _ _ rfl (mvEnd (HR4.out.far (p := ⟨W3.heap.size, 3, none⟩) n1 _) (by omega) (HB4.out.setCell (p := ⟨W3.heap.size, 3, none⟩) n4 _)).1) rfl ⟨?_, (mvEnd (HR4.out.far (p := ⟨W3.heap.size, 3, none⟩) n1 _) (by omega) (HB4.out.setCell (p := ⟨W3.heap.size, 3, none⟩) n4 _)).2⟩
      simp [clockA, fullA, takenN, hx]
    · have hxn : ¬ (x : Int) = 46 := by omega
      go_wp2_with fail
      refine bodyPost_ret (pres_pos rfl _ _ rfl (mvEnd ((HR4.out.far (p := ⟨W3.heap.size, 3, none⟩) n1 _).far (p := ⟨W3.heap.size, 2, none⟩) n1 _) (by omega) ((HB4.out.setCell (p := ⟨W3.heap.size, 3, none⟩) n4 _).setCell (p := ⟨W3.heap.size, 2, none⟩) n4 _)).1) rfl ⟨?_, (mvEnd ((HR4.out.far (p := ⟨W3.heap.size, 3, none⟩) n1 _).far (p := ⟨W3.heap.size, 2, none⟩) n1 _) (by omega) ((HB4.out.setCell (p := ⟨W3.heap.size, 3, none⟩) n4 _).setCell (p := ⟨W3.heap.size, 2, none⟩) n4 _)).2⟩
      simp [clockA, fullA, takenN, hx, h46]
end Go.Proofs.YtpogpjebhnoncaaGreatDoor
namespace Go.Proofs.YtpogpjebhnoncaaGreatDoor
open Go.RowKit Go.Shelf
open M (S)
def capsTo (s : ByteArray) (l : List (Nat × Nat)) (k : Nat) : List (Nat × Nat) := (l.take k).filter fun m => bAt s m.2 != 46
theorem capsTo_succ {s : ByteArray} {l : List (Nat × Nat)} {k : Nat} (h : k < l.length) : capsTo s l (k + 1) = if bAt s l[k].2 != 46 then capsTo s l k ++ [l[k]] else capsTo s l k := by
  unfold capsTo
  rw [List.take_succ_eq_append_getElem h, List.filter_append]
  cases e : (bAt s l[k].2 != 46) <;> simp [e]
theorem capsTo_len (s : ByteArray) (l : List (Nat × Nat)) (k : Nat) : (capsTo s l k).length ≤ k := by
  unfold capsTo
  exact Nat.le_trans (List.length_filter_le _ _) (by simp; omega)
theorem movesV_len (s : ByteArray) (side clock full : Int) : (movesV s side clock full).length ≤ 8100 := by
  unfold movesV
  split
  · exact movesTo_len s side 90
  · exact Nat.zero_le _
end Go.Proofs.YtpogpjebhnoncaaGreatDoor
namespace Go.Proofs.YtpogpjebhnoncaaGreatDoor
open Go.RowKit Go.Shelf
open M (S)
def applyV (s : ByteArray) (side clock full a b : Int) : Value :=
  if checkN s side clock full ≠ 0 then .tuple #[.agg #[.string ⟨#[]⟩, .int .i64 0, .int .i64 0, .int .i64 0], .int .u8 0, .int .i64 (checkN s side clock full)]
  else if isM s side a b = true ∧ kindN (bAt s b.toNat) ≠ 75 then .tuple #[.agg #[.string (movedS s a.toNat b.toNat (bAt s a.toNat)), .int .i64 (1 - side), .int .i64 (clockA s clock b.toNat), .int .i64 (fullA side full)], .int .u8 (takenN s b.toNat : Nat), .int .i64 0]
  else .tuple #[.agg #[.string ⟨#[]⟩, .int .i64 0, .int .i64 0, .int .i64 0], .int .u8 0, .int .i64 7]
theorem isM_parts {s : ByteArray} {side a b : Int} (h : isM s side a b = true) : isB s = true ∧ (0 ≤ a ∧ a < 90) ∧ (0 ≤ b ∧ b < 90) ∧ canB s a.toNat b.toNat = true := by
  simp only [isM, canI, sqI, Bool.and_eq_true, decide_eq_true_eq] at h
  exact ⟨h.1.1.1.1, h.1.1.1.2, h.1.1.2, h.1.2⟩
theorem ppos_cells {W : World} {g : Nat} {t : TypeId} {s : ByteArray} {a b c : Int} (h : Blk W g t #[.string s, .int .i64 a, .int .i64 b, .int .i64 c]) : W.cell? ⟨g, 0, none⟩ = some (.string s) ∧ W.cell? ⟨g, 1, none⟩ = some (.int .i64 a) ∧ W.cell? ⟨g, 2, none⟩ = some (.int .i64 b) ∧ W.cell? ⟨g, 3, none⟩ = some (.int .i64 c) := ⟨h.cell 0, h.cell 1, h.cell 2, h.cell 3⟩
theorem ppos_frozen {W : World} {g : Nat} {t : TypeId} {cs : Array Value} (h : Blk W g t cs) : W.frozen? ⟨g, 0, none⟩ = false ∧ W.frozen? ⟨g, 1, none⟩ = false ∧ W.frozen? ⟨g, 2, none⟩ = false ∧ W.frozen? ⟨g, 3, none⟩ = false := ⟨h.frozen 0, h.frozen 1, h.frozen 2, h.frozen 3⟩
theorem ap_start {w W1 : World} {x y z u m n : Value} (h : ((w.alloc (.cells #[x, y, z, u] 23)).alloc (.cells #[m, n] 54)).alloc (.cells #[.string ⟨#[]⟩, .int .i64 0, .int .i64 0, .int .i64 0] 23) = W1) :
    Below w.heap.size w W1 ∧ Blk W1 w.heap.size 23 #[x, y, z, u] ∧ Blk W1 (w.heap.size + 1) 54 #[m, n] ∧ Blk W1 (w.heap.size + 2) 23 #[.string ⟨#[]⟩, .int .i64 0, .int .i64 0, .int .i64 0] := by
  subst h
  exact ⟨(by repeat (first | exact Below.refl _ _ | (refine Below.setCell ?_ (by first | omega | (simp; done) | (simp; omega) | (simp at *; omega)) _) | (refine Below.alloc ?_ (by first | omega | (simp; done) | (simp; omega) | (simp at *; omega)) _) | refine Below.drew ?_ | (refine below_drewN ?_ _) | (refine Below.trans ?_ (Below.mono (by assumption) (by first | omega | (simp; done) | (simp; omega) | (simp at *; omega)))))), ((Blk.new _ _ _ rfl).alloc _).alloc _, (Blk.new _ _ _ (by simp)).alloc _, Blk.new _ _ _ (by simp)⟩
theorem results_cell_tmp_tmp {fn : Func} {p u v : Tmp} {ty : TypeId} (h : fn.results = #[.cell p ty, .tmp u, .tmp v]) (tmps : Array Value) (P : Program) (w : World) :
    (results fn tmps).run P w = ((asAddr (tmps.getD p undef)).run P w).andThen fun a w₁ => ((loadVar ty a).run P w₁).andThen fun x w₂ => .ok (.tuple #[x, tmps.getD u undef, tmps.getD v undef]) w₂ := by
  simp only [results, h]
  simp [Sem.run_bind, Result.andThen]
theorem res_pos3 {fn : Func} {p u v : Tmp} (h : fn.results = #[.cell p 23, .tmp u, .tmp v]) (tmps : Array Value) (w : World) {g : Nat} (hp : tmps.getD p undef = .pointer (some ⟨g, 0, none⟩)) {t : TypeId} {a b c d : Value} (hb : Blk w g t #[a, b, c, d]) :
    (results fn tmps).run Tryz.prog w = .ok (.tuple #[.agg #[a, b, c, d], tmps.getD u undef, tmps.getD v undef]) w := by
  rw [results_cell_tmp_tmp h, hp]
  have h1 := run_loadVar_row (P := Tryz.prog) w g t 23 #[a, b, c, d] (0, 0) _ hb Tryz.underlying23 rfl (by kernel_rfl)
  simp [asAddr, h1, Result.andThen]
set_option maxRecDepth 100000 in
set_option maxHeartbeats 4000000 in
theorem apply_bad (s : ByteArray) (side clock full a b k : Int) (w : World) (hc : (checkN s side clock full : Int) = k) (h0 : (k != 0) = true) :
    Calls Tryz.prog 79 #[.agg #[.string s, .int .i64 side, .int .i64 clock, .int .i64 full], .agg #[.int .i64 a, .int .i64 b]] w (Gives w (.tuple #[.agg #[.string ⟨#[]⟩, .int .i64 0, .int .i64 0, .int .i64 0], .int .u8 0, .int .i64 k])) := by
  unfold Gives
  obtain ⟨W1, hW1⟩ : ∃ W1, ((w.alloc (.cells #[.string s, .int .i64 side, .int .i64 clock, .int .i64 full] 23)).alloc (.cells #[.int .i64 a, .int .i64 b] 54)).alloc (.cells #[.string ⟨#[]⟩, .int .i64 0, .int .i64 0, .int .i64 0] 23) = W1 := ⟨_, rfl⟩
  obtain ⟨hB, bP, bM, bR⟩ := ap_start hW1
  obtain ⟨p0, p1, p2, p3⟩ := ppos_cells bP
  have HC := Lib.hid hc
  have HW := Lib.hid hW1
  clear hc hW1
  go_enter Tryz.func79, Tryz.ntmps79
  go_wp2_with fail
  rw [HW.out]
  have f0 := ppos_frozen bR
  go_wp2_with fail
  refine (check_is s side clock full k _ HC.out).mono ?_
  rintro e w1 ⟨rfl, hb⟩
  have bR1 := bR.next hb
  obtain ⟨g0, g1, g2, g3⟩ := ppos_cells bR1
  obtain ⟨f0, f1, f2, f3⟩ := ppos_frozen bR1
  go_wp2_with fail
  refine bodyPost_ret (res_pos3 rfl _ _ rfl (mvEnd (bR1) (by omega) (hB.trans (hb.mono hB.size))).1) rfl ⟨rfl, (mvEnd (bR1) (by omega) (hB.trans (hb.mono hB.size))).2⟩
set_option maxRecDepth 100000 in
set_option maxHeartbeats 4000000 in
theorem apply_not (s : ByteArray) (side clock full a b : Int) (w : World) (hc : (checkN s side clock full : Int) = 0) (h : isM s side a b = false) :
    Calls Tryz.prog 79 #[.agg #[.string s, .int .i64 side, .int .i64 clock, .int .i64 full], .agg #[.int .i64 a, .int .i64 b]] w (Gives w (.tuple #[.agg #[.string ⟨#[]⟩, .int .i64 0, .int .i64 0, .int .i64 0], .int .u8 0, .int .i64 7])) := by
  unfold Gives
  obtain ⟨W1, hW1⟩ : ∃ W1, ((w.alloc (.cells #[.string s, .int .i64 side, .int .i64 clock, .int .i64 full] 23)).alloc (.cells #[.int .i64 a, .int .i64 b] 54)).alloc (.cells #[.string ⟨#[]⟩, .int .i64 0, .int .i64 0, .int .i64 0] 23) = W1 := ⟨_, rfl⟩
  obtain ⟨hB, bP, bM, bR⟩ := ap_start hW1
  obtain ⟨p0, p1, p2, p3⟩ := ppos_cells bP
  have HC := Lib.hid hc
  have HM := Lib.hid h
  have HW := Lib.hid hW1
  clear hc h hW1
  obtain ⟨m0, m1⟩ : W1.cell? ⟨w.heap.size + 1, 0, none⟩ = some (.int .i64 a) ∧ W1.cell? ⟨w.heap.size + 1, 1, none⟩ = some (.int .i64 b) := ⟨bM.cell 0, bM.cell 1⟩
  go_enter Tryz.func79, Tryz.ntmps79
  go_wp2_with fail
  rw [HW.out]
  go_wp2_with fail
  refine (check_is s side clock full 0 _ HC.out).mono ?_
  rintro e w1 ⟨rfl, hb⟩
  have bR1 := bR.next hb
  obtain ⟨q0, q1, q2, q3⟩ := ppos_cells (bP.next hb)
  obtain ⟨m0, m1⟩ : w1.cell? ⟨w.heap.size + 1, 0, none⟩ = some (.int .i64 a) ∧ w1.cell? ⟨w.heap.size + 1, 1, none⟩ = some (.int .i64 b) := ⟨(bM.next hb).cell 0, (bM.next hb).cell 1⟩
  go_wp2_with fail
  refine (isMove_is s side clock full a b false _ HM.out).mono ?_
  rintro e w2 ⟨rfl, hb2⟩
  have hB2 := (hB.trans (hb.mono hB.size)).trans (hb2.mono (hB.trans (hb.mono hB.size)).size)
  have bR2 := bR1.next hb2
  obtain ⟨g0, g1, g2, g3⟩ := ppos_cells bR2
  obtain ⟨f0, f1, f2, f3⟩ := ppos_frozen bR2
  go_wp2_with fail
  refine bodyPost_ret (res_pos3 rfl _ _ rfl (mvEnd (bR2) (by omega) (hB2)).1) rfl ⟨rfl, (mvEnd (bR2) (by omega) (hB2)).2⟩
set_option maxRecDepth 100000 in
set_option maxHeartbeats 4000000 in
theorem apply_king (s : ByteArray) (side clock full : Int) (a b x : Nat) (w : World) (hc : (checkN s side clock full : Int) = 0) (h : isM s side a b = true) (hbb : b < 90) (hs : s.size = 90) (hx : bAt s b = x) (hk : kindN x = 75) :
    Calls Tryz.prog 79 #[.agg #[.string s, .int .i64 side, .int .i64 clock, .int .i64 full], .agg #[.int .i64 (a : Int), .int .i64 (b : Int)]] w (Gives w (.tuple #[.agg #[.string ⟨#[]⟩, .int .i64 0, .int .i64 0, .int .i64 0], .int .u8 0, .int .i64 7])) := by
  unfold Gives
  obtain ⟨W1, hW1⟩ : ∃ W1, ((w.alloc (.cells #[.string s, .int .i64 side, .int .i64 clock, .int .i64 full] 23)).alloc (.cells #[.int .i64 (a : Int), .int .i64 (b : Int)] 54)).alloc (.cells #[.string ⟨#[]⟩, .int .i64 0, .int .i64 0, .int .i64 0] 23) = W1 := ⟨_, rfl⟩
  obtain ⟨hB, bP, bM, bR⟩ := ap_start hW1
  obtain ⟨p0, p1, p2, p3⟩ := ppos_cells bP
  have HC := Lib.hid hc
  have HM := Lib.hid h
  have HW := Lib.hid hW1
  clear hc h hW1
  have hbs : b < s.size := by omega
  have hbk : s[b].toNat = x := (bAt_eq s b hbs).trans hx
  have hb0 : (0 : Int) ≤ (b : Int) := by omega
  have hb9 : (b : Int) < 90 := by omega
  have HK := Lib.hid hk
  clear hx hk
  obtain ⟨m0, m1⟩ : W1.cell? ⟨w.heap.size + 1, 0, none⟩ = some (.int .i64 (a : Int)) ∧ W1.cell? ⟨w.heap.size + 1, 1, none⟩ = some (.int .i64 (b : Int)) := ⟨bM.cell 0, bM.cell 1⟩
  go_enter Tryz.func79, Tryz.ntmps79
  go_wp2_with fail
  rw [HW.out]
  go_wp2_with fail
  refine (check_is s side clock full 0 _ HC.out).mono ?_
  rintro e w1 ⟨rfl, hb⟩
  have bR1 := bR.next hb
  obtain ⟨q0, q1, q2, q3⟩ := ppos_cells (bP.next hb)
  obtain ⟨m0, m1⟩ : w1.cell? ⟨w.heap.size + 1, 0, none⟩ = some (.int .i64 (a : Int)) ∧ w1.cell? ⟨w.heap.size + 1, 1, none⟩ = some (.int .i64 (b : Int)) := ⟨(bM.next hb).cell 0, (bM.next hb).cell 1⟩
  go_wp2_with fail
  refine (isMove_is s side clock full a b true _ HM.out).mono ?_
  rintro e w2 ⟨rfl, hb2⟩
  have hB2 := (hB.trans (hb.mono hB.size)).trans (hb2.mono (hB.trans (hb.mono hB.size)).size)
  have bR2 := bR1.next hb2
  have bP2 := (bP.next hb).next hb2
  have bM2 := (bM.next hb).next hb2
  have t0 : w2.cell? ⟨w.heap.size, 0, none⟩ = some (.string s) := bP2.cell 0
  have t1 : w2.cell? ⟨w.heap.size + 1, 1, none⟩ = some (.int .i64 (b : Int)) := bM2.cell 1
  obtain ⟨g0, g1, g2, g3⟩ := ppos_cells bR2
  obtain ⟨f0, f1, f2, f3⟩ := ppos_frozen bR2
  go_wp2_with fail
  refine (kind_is x 75 _ HK.out).mono ?_
  rintro e w3 ⟨rfl, rfl⟩
  go_wp2_with fail
  refine bodyPost_ret (res_pos3 rfl _ _ rfl (mvEnd (bR2) (by omega) (hB2)).1) rfl ⟨rfl, (mvEnd (bR2) (by omega) (hB2)).2⟩
set_option maxRecDepth 100000 in
set_option maxHeartbeats 4000000 in
theorem apply_moves (s : ByteArray) (side clock full : Int) (a b c x k : Nat) (w : World) (hc : (checkN s side clock full : Int) = 0) (h : isM s side a b = true) (ha : a < 90) (hbb : b < 90) (hs : s.size = 90) (hx : bAt s b = x) (hk : kindN x = k) (hkn : ((k : Int) == 75) = false) (hab : a ≠ b) (hside : side = 0 ∨ side = 1) (h0 : 0 ≤ clock) (h1 : clock ≤ 120) (h2 : 1 ≤ full) (h3 : full ≤ 9999) (hcc : bAt s a = c) :
    Calls Tryz.prog 79 #[.agg #[.string s, .int .i64 side, .int .i64 clock, .int .i64 full], .agg #[.int .i64 (a : Int), .int .i64 (b : Int)]] w (Gives w (.tuple #[.agg #[.string (movedS s a b c), .int .i64 (1 - side), .int .i64 (clockA s clock b), .int .i64 (fullA side full)], .int .u8 (takenN s b : Nat), .int .i64 0])) := by
  unfold Gives
  obtain ⟨W1, hW1⟩ : ∃ W1, ((w.alloc (.cells #[.string s, .int .i64 side, .int .i64 clock, .int .i64 full] 23)).alloc (.cells #[.int .i64 (a : Int), .int .i64 (b : Int)] 54)).alloc (.cells #[.string ⟨#[]⟩, .int .i64 0, .int .i64 0, .int .i64 0] 23) = W1 := ⟨_, rfl⟩
  obtain ⟨hB, bP, bM, bR⟩ := ap_start hW1
  obtain ⟨p0, p1, p2, p3⟩ := ppos_cells bP
  have HC := Lib.hid hc
  have HM := Lib.hid h
  have HW := Lib.hid hW1
  clear hc h hW1
  have hbs : b < s.size := by omega
  have hbk : s[b].toNat = x := (bAt_eq s b hbs).trans hx
  have hb0 : (0 : Int) ≤ (b : Int) := by omega
  have hb9 : (b : Int) < 90 := by omega
  have HK := Lib.hid hk
  have HMV := Lib.hid fun W => moved_is s side clock full a b c x W hs ha hbb hab hside h0 h1 h2 h3 hcc hx
  clear hx hk hside
  obtain ⟨m0, m1⟩ : W1.cell? ⟨w.heap.size + 1, 0, none⟩ = some (.int .i64 (a : Int)) ∧ W1.cell? ⟨w.heap.size + 1, 1, none⟩ = some (.int .i64 (b : Int)) := ⟨bM.cell 0, bM.cell 1⟩
  go_enter Tryz.func79, Tryz.ntmps79
  go_wp2_with fail
  rw [HW.out]
  go_wp2_with fail
  refine (check_is s side clock full 0 _ HC.out).mono ?_
  rintro e w1 ⟨rfl, hb⟩
  have bR1 := bR.next hb
  obtain ⟨q0, q1, q2, q3⟩ := ppos_cells (bP.next hb)
  obtain ⟨m0, m1⟩ : w1.cell? ⟨w.heap.size + 1, 0, none⟩ = some (.int .i64 (a : Int)) ∧ w1.cell? ⟨w.heap.size + 1, 1, none⟩ = some (.int .i64 (b : Int)) := ⟨(bM.next hb).cell 0, (bM.next hb).cell 1⟩
  go_wp2_with fail
  refine (isMove_is s side clock full a b true _ HM.out).mono ?_
  rintro e w2 ⟨rfl, hb2⟩
  have hB2 := (hB.trans (hb.mono hB.size)).trans (hb2.mono (hB.trans (hb.mono hB.size)).size)
  have bR2 := bR1.next hb2
  have bP2 := (bP.next hb).next hb2
  have bM2 := (bM.next hb).next hb2
  have t0 : w2.cell? ⟨w.heap.size, 0, none⟩ = some (.string s) := bP2.cell 0
  have t1 : w2.cell? ⟨w.heap.size + 1, 1, none⟩ = some (.int .i64 (b : Int)) := bM2.cell 1
  have t2 : w2.cell? ⟨w.heap.size, 1, none⟩ = some (.int .i64 side) := bP2.cell 1
  have t3 : w2.cell? ⟨w.heap.size, 2, none⟩ = some (.int .i64 clock) := bP2.cell 2
  have t4 : w2.cell? ⟨w.heap.size, 3, none⟩ = some (.int .i64 full) := bP2.cell 3
  have t5 : w2.cell? ⟨w.heap.size + 1, 0, none⟩ = some (.int .i64 (a : Int)) := bM2.cell 0
  go_wp2_with fail
  refine (kind_is x k _ HK.out).mono ?_
  rintro e w3 ⟨rfl, rfl⟩
  go_wp2_with fail
  refine (HMV.out _).mono ?_
  rintro e w4 ⟨rfl, hb4⟩
  obtain ⟨W5, hW5⟩ : ∃ W5, w4.alloc (.cells #[.string (movedS s a b c), .int .i64 (1 - side), .int .i64 (clockA s clock b), .int .i64 (fullA side full)] 23) = W5 := ⟨_, rfl⟩
  have hB4 := hB2.trans (hb4.mono hB2.size)
  have hB5 : Below w.heap.size w W5 := by rw [← hW5]; exact hB4.alloc hB4.size _
  have bR5 : Blk W5 (w.heap.size + 2) 23 #[.string ⟨#[]⟩, .int .i64 0, .int .i64 0, .int .i64 0] := by rw [← hW5]; exact (bR2.next hb4).alloc _
  have bQ5 : Blk W5 w4.heap.size 23 #[.string (movedS s a b c), .int .i64 (1 - side), .int .i64 (clockA s clock b), .int .i64 (fullA side full)] := by rw [← hW5]; exact Blk.new _ _ _ rfl
  obtain ⟨g0, g1, g2, g3⟩ := ppos_cells bR5
  obtain ⟨f0, f1, f2, f3⟩ := ppos_frozen bR5
  obtain ⟨u0, u1, u2, u3⟩ := ppos_cells bQ5
  have n1 : w.heap.size + 1 + 1 ≠ w4.heap.size := by have := (bR2.next hb4).lt; omega
  have n2 : w4.heap.size ≠ w.heap.size + 1 + 1 := fun e => n1 e.symm
  go_wp2_with fail
  refine bodyPost_ret (res_pos3 rfl _ _ rfl (mvEnd (bR5) (by omega) (hB5)).1) rfl ⟨rfl, (mvEnd (bR5) (by omega) (hB5)).2⟩
theorem apply_is (s : ByteArray) (side clock full a b : Int) (v : Value) (w : World) (h : applyV s side clock full a b = v) :
    Calls Tryz.prog 79 #[.agg #[.string s, .int .i64 side, .int .i64 clock, .int .i64 full], .agg #[.int .i64 a, .int .i64 b]] w (Gives w v) := by
  subst h
  unfold applyV
  by_cases hc : checkN s side clock full = 0
  · rw [if_neg (fun e => e hc)]
    have hc' : (checkN s side clock full : Int) = 0 := by rw [hc]; rfl
    have hp := (check_zero hc').1
    cases hm : isM s side a b
    · rw [if_neg (by simp)]
      exact apply_not s side clock full a b w hc' hm
    · obtain ⟨hB, ⟨ha0, ha9⟩, ⟨hb0, hb9⟩, hcan⟩ := isM_parts hm
      obtain ⟨m, rfl⟩ : ∃ m : Nat, a = m := ⟨a.toNat, by omega⟩
      obtain ⟨n, rfl⟩ : ∃ n : Nat, b = n := ⟨b.toNat, by omega⟩
      rw [Int.toNat_natCast, Int.toNat_natCast] at hcan ⊢
      have hz := isB_size hB
      by_cases hk : kindN (bAt s n) = 75
      · rw [if_neg (fun e => e.2 hk)]
        exact apply_king s side clock full m n (bAt s n) w hc' hm (by omega) hz rfl hk
      · rw [if_pos ⟨rfl, hk⟩]
        simp only [partsB, Bool.and_eq_true, Bool.or_eq_true, beq_iff_eq, decide_eq_true_eq] at hp
        exact apply_moves s side clock full m n (bAt s m) (bAt s n) (kindN (bAt s n)) w hc' hm (by omega) (by omega) hz rfl rfl (by simp; omega) (can_self hcan) hp.1.1.1.1.2 hp.1.1.1.2 hp.1.1.2 hp.1.2 hp.2 rfl
  · rw [if_pos hc]
    exact apply_bad s side clock full a b _ w rfl (by simp; omega)
end Go.Proofs.YtpogpjebhnoncaaGreatDoor
namespace Go.Proofs.YtpogpjebhnoncaaGreatDoor
open Go.RowKit Go.Shelf
open M (S)
theorem mv6_set {h k a b : Nat} {x y z : Value} {W : World} (hS : W.cell? ⟨h, 0, none⟩ = some x ∧ W.cell? ⟨h, 1, none⟩ = some y ∧ W.cell? ⟨k, a, none⟩ = some z) (hk : h ≠ k) (hab : a ≠ b) (u : Value) : (W.setCell ⟨k, b, none⟩ u).cell? ⟨h, 0, none⟩ = some x ∧ (W.setCell ⟨k, b, none⟩ u).cell? ⟨h, 1, none⟩ = some y ∧ (W.setCell ⟨k, b, none⟩ u).cell? ⟨k, a, none⟩ = some z := by
  obtain ⟨h0, h1, h2⟩ := hS
  refine ⟨?_, ?_, ?_⟩
  · rw [World.cell?_setCell_other _ _ _ _ (by intro e; injection e with e1; exact hk e1.symm)]
    exact h0
  · rw [World.cell?_setCell_other _ _ _ _ (by intro e; injection e with e1; exact hk e1.symm)]
    exact h1
  · rw [World.cell?_setCell_other _ _ _ _ (by intro e; injection e with _ e2; exact hab e2.symm)]
    exact h2
set_option maxRecDepth 100000 in
set_option maxHeartbeats 4000000 in
theorem rmoved_is (s : ByteArray) (a b c : Nat) (w : World) (hs : s.size = 90) (ha : a < 90) (hb : b < 90) (hab : a ≠ b) (hc : bAt s a = c) :
    Calls Tryz.prog 114 #[.string s, .agg #[.int .i64 (a : Int), .int .i64 (b : Int)]] w (Gives w (.string (movedS s a b c))) := by
  unfold Gives
  obtain ⟨W1, hW1⟩ : ∃ W1, w.alloc (.cells #[.int .i64 (a : Int), .int .i64 (b : Int)] 54) = W1 := ⟨_, rfl⟩
  have hB : Below w.heap.size w W1 := by rw [← hW1]; exact (by repeat (first | exact Below.refl _ _ | (refine Below.setCell ?_ (by first | omega | (simp; done) | (simp; omega) | (simp at *; omega)) _) | (refine Below.alloc ?_ (by first | omega | (simp; done) | (simp; omega) | (simp at *; omega)) _) | refine Below.drew ?_ | (refine below_drewN ?_ _) | (refine Below.trans ?_ (Below.mono (by assumption) (by first | omega | (simp; done) | (simp; omega) | (simp at *; omega))))))
  have bM : Blk W1 w.heap.size 54 #[.int .i64 (a : Int), .int .i64 (b : Int)] := by rw [← hW1]; exact Blk.new _ _ _ rfl
  have hsz : W1.heap.size = w.heap.size + 1 := by rw [← hW1]; simp
  have hk1 : w.heap.size ≠ W1.heap.size := by omega
  have hk3 : w.heap.size ≤ W1.heap.size := by omega
  have HW := Lib.hid hW1
  clear hsz hW1
  obtain ⟨C, W2, hconv, hcell, hfr, hbel⟩ := bytes_of s W1 hs
  have bM2 := bM.next hbel
  have ca := hcell a ha
  have cb := hcell b hb
  rw [hc] at ca
  have hba : b ≠ a := fun e => hab e.symm
  have fa := hfr a ha
  have fb := hfr b hb
  have m0 : W2.cell? ⟨w.heap.size, 0, none⟩ = some (.int .i64 (a : Int)) := bM2.cell 0
  have m1 : W2.cell? ⟨w.heap.size, 1, none⟩ = some (.int .i64 (b : Int)) := bM2.cell 1
  have ha0 : (0 : Int) ≤ (a : Int) := by omega
  have hb0 : (0 : Int) ≤ (b : Int) := by omega
  have ha9 : (a : Int) < 90 := by omega
  have hb9 : (b : Int) < 90 := by omega
  go_enter Tryz.func114, Tryz.ntmps114
  go_wp2_with fail
  rw [HW.out, hconv]
  go_wp2_with fail
  have hS : W2.drew.cell? ⟨w.heap.size, 0, none⟩ = some (.int .i64 (a : Int)) ∧ W2.drew.cell? ⟨w.heap.size, 1, none⟩ = some (.int .i64 (b : Int)) ∧ W2.drew.cell? ⟨W1.heap.size, a, none⟩ = some (.int .u8 (c : Int)) := ⟨m0, m1, ca⟩
  have cb' : W2.drew.cell? ⟨W1.heap.size, b, none⟩ = some (.int .u8 (bAt s b : Nat)) := cb
  have fb' : W2.drew.frozen? ⟨W1.heap.size, b, none⟩ = false := fb
  go_region_held3 (fun W => W.cell? ⟨w.heap.size, 0, none⟩ = some (.int .i64 (a : Int)) ∧ W.cell? ⟨w.heap.size, 1, none⟩ = some (.int .i64 (b : Int)) ∧ W.cell? ⟨W1.heap.size, a, none⟩ = some (.int .u8 (c : Int)))
    (first | exact hS | exact mv6_set (by assumption) hk1 hab _)
    (fail)
  obtain ⟨W3, hW3⟩ : ∃ W3, (W2.setCell ⟨W1.heap.size, b, none⟩ (.int .u8 (c : Int))).drew = W3 := ⟨_, rfl⟩
  rename_i hh
  rw [hW3] at hh ⊢
  obtain ⟨n0, n1, na⟩ := hh
  have fa3 : W3.frozen? ⟨W1.heap.size, a, none⟩ = false := by rw [← hW3]; simpa using fa
  clear hS cb' fb'
  go_wp2_with fail
  have hback : (convert 146 9 (.slice (some ⟨W1.heap.size, 0, none⟩) 90 C)).run Tryz.prog (W3.setCell ⟨W1.heap.size, a, none⟩ (.int .u8 46)) = .ok (.string (movedS s a b c)) (W3.setCell ⟨W1.heap.size, a, none⟩ (.int .u8 46)) := by
    have hlen : s.data.toList.length = 90 := by simpa using hs
    have hmv : movedS s a b c = ⟨((s.data.toList.set a (UInt8.ofNat 46)).set b (UInt8.ofNat c)).toArray⟩ := by simp [movedS, putS]
    rw [hmv]
    refine string_of (W3.setCell ⟨W1.heap.size, a, none⟩ (.int .u8 46)) W1.heap.size C _ (by rw [List.length_set, List.length_set]; exact hlen) fun i hi => ?_
    have hc256 : c < 256 := by rw [← hc]; exact bAt_lt s a
    by_cases e2 : i = a
    · subst e2
      rw [World.cell?_setCell_same' _ _ _ (by rw [na]; rfl), List.getElem_set_ne hba, List.getElem_set_self]
      rfl
    · rw [World.cell?_setCell_other _ _ _ _ (by intro e; injection e with _ e3; exact e2 e3.symm), ← hW3]
      show World.cell? (W2.setCell ⟨W1.heap.size, b, none⟩ (.int .u8 (c : Int))) _ = _
      by_cases e1 : i = b
      · subst e1
        rw [World.cell?_setCell_same' _ _ _ (by rw [cb]; rfl), List.getElem_set_self, UInt8.toNat_ofNat_of_lt' (by omega)]
      · rw [World.cell?_setCell_other _ _ _ _ (by intro e; injection e with _ e3; exact e1 e3.symm), hcell i hi, List.getElem_set_ne (fun e => e1 e.symm), List.getElem_set_ne (fun e => e2 e.symm), bAt_list]
  have hBf : Below w.heap.size w (W3.setCell ⟨W1.heap.size, a, none⟩ (.int .u8 46)) := by
    rw [← hW3]
    exact (((hB.trans (hbel.mono hB.size)).setCell (p := ⟨W1.heap.size, b, none⟩) hk3 _).drew).setCell (p := ⟨W1.heap.size, a, none⟩) hk3 _
  rw [hback]
  clear hback hW3 hcell hfr hconv
  go_wp2
  go_ret
  exact ⟨rfl, hBf⟩
theorem rmoved_any (s : ByteArray) (a b c : Nat) (t : ByteArray) (w : World) (hs : s.size = 90) (ha : a < 90) (hb : b < 90) (hab : a ≠ b) (hc : bAt s a = c) (ht : movedS s a b c = t) :
    Calls Tryz.prog 114 #[.string s, .agg #[.int .i64 (a : Int), .int .i64 (b : Int)]] w (Gives w (.string t)) := by subst ht; exact rmoved_is s a b c w hs ha hb hab hc
end Go.Proofs.YtpogpjebhnoncaaGreatDoor
namespace Go.Proofs.YtpogpjebhnoncaaGreatDoor
open Go.RowKit Go.Shelf
open M (S)
def OwnL (w : World) (l : List Int) (e : Ending) (w' : World) : Prop := ∃ v, e = .returned v ∧ w'.ownsRow w.heap.size 3 1 v l.length (l.map iv) ∧ Below w.heap.size w w'
theorem OwnL.back {w w0 : World} {l : List Int} {e : Ending} {w' : World} (h : OwnL w0 l e w') (hb : Below w.heap.size w w0) : OwnL w l e w' := by
  obtain ⟨v, he, ho, hb1⟩ := h
  exact ⟨v, he, own_mono ho hb.size, hb.trans (hb1.mono hb.size)⟩
theorem list_own (p : Nat → Bool) (w : World) (hT : Tab w) : Calls Tryz.prog 220 #[.agg #[.int .u64 (setOf p 90).lo, .int .u64 (setOf p 90).hi]] w (OwnL w (trues p 90)) :=
  (callsIn_wide.1 (list_in (setOf p 90) w hT)).mono fun _ _ ⟨v, he, ho, hb⟩ => by
    have hl : (trues p 90).length = (setOf p 90).sqs.length := by rw [← sqs_setOf, List.length_map]
    refine ⟨v, he, ?_, hb⟩
    rw [hl, ← sqs_setOf, List.map_map]
    exact ho
set_option maxRecDepth 100000 in
set_option maxHeartbeats 2000000 in
theorem where_pieces_o (s : ByteArray) (side : Int) (g : Nat) (w : World) (hT : Tab w) (bC : Blk w g 3 #[.int .i64 side]) :
    Calls Tryz.prog 226 #[.string s, .func (.func 227) #[] #[.pointer (some ⟨g, 0, none⟩)]] w (OwnL w (piecesL s side)) := by
  unfold piecesL
  cases hb : isB s
  · have B := Lib.hid hb
    rw [if_neg (by simp)]
    clear hb
    go_enter Tryz.func226, Tryz.ntmps226
    go_wp2_with fail
    refine (is_any _ _).mono ?_
    rintro e w' ⟨rfl, rfl⟩
    rw [B.out]
    go_wp2
    go_ret
    exact ⟨_, rfl, by simpa using World.ownsRow_nil w w.heap.size 3 1, Below.refl _ _⟩
  · have hs := isB_size hb
    have hs1 : 90 ≤ s.size := by omega
    have B := Lib.hid hb
    rw [if_pos rfl]
    clear hb hs
    go_enter Tryz.func226, Tryz.ntmps226
    go_wp2_with fail
    refine (is_any _ _).mono ?_
    rintro e w' ⟨rfl, rfl⟩
    rw [B.out]
    go_wp2
    obtain ⟨W0, hW0⟩ : ∃ W0, w.alloc (.cells #[.int .u64 0, .int .u64 0] 206) = W0 := ⟨_, rfl⟩
    have hb0 : Below w.heap.size w W0 := by rw [← hW0]; exact (by repeat (first | exact Below.refl _ _ | (refine Below.setCell ?_ (by first | omega | (simp; done) | (simp; omega) | (simp at *; omega)) _) | (refine Below.alloc ?_ (by first | omega | (simp; done) | (simp; omega) | (simp at *; omega)) _) | refine Below.drew ?_ | (refine below_drewN ?_ _) | (refine Below.trans ?_ (Below.mono (by assumption) (by first | omega | (simp; done) | (simp; omega) | (simp at *; omega))))))
    have bT : Blk W0 w.heap.size 206 (svc (setOf (fun k => ofSide (bAt s k) side) 0)) := by rw [← hW0]; exact Blk.new _ _ _ rfl
    have bC0 : Blk W0 g 3 #[.int .i64 side] := bC.next hb0
    have hT0 := hT.next hb0
    have hT0g := hT.lt
    have hgl := bC.lt
    rw [hW0]
    clear hW0 bC hT
    go_loopw [6, 10] (fun _ i wr => ∃ k : Nat, k ≤ 90 ∧ i = .int .i64 k ∧ Blk wr w.heap.size 206 (svc (setOf (fun k => ofSide (bAt s k) side) k)) ∧ Blk wr g 3 #[.int .i64 side] ∧ Tab wr ∧ Below w.heap.size w wr) (fun _ i _ => 90 - (intOf i).toNat)
    case atStart => exact ⟨0, by omega, rfl, bT, bC0, hT0, hb0⟩
    case round =>
      obtain ⟨k, hk, rfl, bT, bC, hT, hB⟩ := hrel
      have t0 := bT.cell 0
      have t1 := bT.cell 1
      have cg := bC.cell 0
      simp only [List.getElem?_toArray, List.getElem?_cons_zero, List.getElem?_cons_succ] at t0 t1 cg
      by_cases hlt : k < 90
      · have hks : k < s.size := by omega
        have hbk := Lib.hid (bAt_eq s k hks)
        have hst := setOf_succ (fun k => ofSide (bAt s k) side) k
        go_wp2_with fail
        rw [hbk.out]
        refine (pieces1_any (bAt s k) side g _ cg).mono ?_
        rintro e w1 ⟨rfl, hb1⟩
        have bT1 := bT.next hb1
        have bC1 := bC.next hb1
        have hT1 := hT.next hb1
        have hB1 := hB.trans (hb1.mono hB.size)
        clear t0 t1 cg
        have t0 := bT1.cell 0
        have t1 := bT1.cell 1
        simp only [List.getElem?_toArray, List.getElem?_cons_zero, List.getElem?_cons_succ] at t0 t1
        cases hp : ofSide (bAt s k) side
        · rw [hp, if_neg (by simp)] at hst
          have Hst := Lib.hid hst
          clear hst hp
          go_wp2_with fail
          go_roundw
          case rel => exact ⟨k + 1, by omega, by go_num, by rw [Hst.out]; exact bT1, bC1, hT1, hB1⟩
          case measure => simp [intOf]; omega
        · rw [hp, if_pos rfl] at hst
          have Hst := Lib.hid hst
          clear hst hp
          go_wp2_with fail
          refine (with_any (setOf (fun k => ofSide (bAt s k) side) k) k _).mono ?_
          rintro e w2 ⟨rfl, hb2⟩
          have bT2 := bT1.next hb2
          have q0 := bT2.cell 0
          have q1 := bT2.cell 1
          have f0 := bT2.frozen 0
          have f1 := bT2.frozen 1
          simp only [List.getElem?_toArray, List.getElem?_cons_zero, List.getElem?_cons_succ] at q0 q1
          clear t0 t1
          go_wp2
          go_roundw
          case rel =>
            have hgw : g ≠ w.heap.size := by omega
            exact ⟨k + 1, by omega, by go_num, by rw [Hst.out]; exact blk_two bT2 _ _, ((bC1.next hb2).far hgw _).far hgw _, (hT1.next hb2).below (((Below.refl w.heap.size w2).setCell (p := ⟨w.heap.size, 0, none⟩) (Nat.le_refl _) _).setCell (p := ⟨w.heap.size, 1, none⟩) (Nat.le_refl _) _) (Nat.lt_of_lt_of_le hT0g (Nat.le_refl _)), ((hB1.trans (hb2.mono hB1.size)).setCell (p := ⟨w.heap.size, 0, none⟩) (Nat.le_refl _) _).setCell (p := ⟨w.heap.size, 1, none⟩) (Nat.le_refl _) _⟩
          case measure => simp [intOf]; omega
      · obtain rfl : k = 90 := by omega
        go_wp2_with fail
        refine (list_own _ _ hT).mono ?_
        rintro e w1 ⟨v, rfl, ho, hb1⟩
        go_wp2
        go_ret
        exact ⟨v, rfl, own_mono ho hB.size, hB.trans (hb1.mono hB.size)⟩
set_option maxHeartbeats 1000000 in
theorem pieces_own (s : ByteArray) (side : Int) (w : World) (hT : Tab w) : Calls Tryz.prog 182 #[.string s, .int .i64 side] w (OwnL w (piecesL s side)) := by
  have hb0 : Below w.heap.size w (w.alloc (.cells #[.int .i64 side] 3)) := (by repeat (first | exact Below.refl _ _ | (refine Below.setCell ?_ (by first | omega | (simp; done) | (simp; omega) | (simp at *; omega)) _) | (refine Below.alloc ?_ (by first | omega | (simp; done) | (simp; omega) | (simp at *; omega)) _) | refine Below.drew ?_ | (refine below_drewN ?_ _) | (refine Below.trans ?_ (Below.mono (by assumption) (by first | omega | (simp; done) | (simp; omega) | (simp at *; omega))))))
  have bC : Blk (w.alloc (.cells #[.int .i64 side] 3)) w.heap.size 3 #[.int .i64 side] := Blk.new _ _ _ rfl
  have hw := where_pieces_o s side w.heap.size (w.alloc (.cells #[.int .i64 side] 3)) (hT.next hb0) bC
  have Hw := Lib.hid (hw.mono fun e w' (k : OwnL _ _ e w') => (k.back hb0 : OwnL w (piecesL s side) e w'))
  clear hw hb0 bC
  go_enter Tryz.func182, Tryz.ntmps182
  go_wp2_with fail
  refine Hw.out.mono ?_
  rintro e w1 ⟨v, rfl, ho, hb⟩
  go_wp2
  go_ret
  exact ⟨v, rfl, ho, hb⟩
end Go.Proofs.YtpogpjebhnoncaaGreatDoor
namespace Go.Proofs.YtpogpjebhnoncaaGreatDoor
open Go.RowKit Go.Shelf
open M (S)
abbrev encI : Int → List Value := fun x => [iv x]
theorem encI_len (x : Int) : (encI x).length = 1 := rfl
theorem encI_flat (l : List Int) : l.flatMap encI = l.map iv := by
  induction l with
  | nil => rfl
  | cons x l ih => rw [List.flatMap_cons, ih]; rfl
def PredOn {α : Type} (fn : Nat) (lb : Array Value) (enc : α → Value) (p : α → Bool) (l : List α) (Wb : World) : Prop :=
  ∀ (W : World) (x : α), x ∈ l → Below Wb.heap.size Wb W → Calls Tryz.prog fn (#[enc x] ++ lb) W fun e w' => e = .returned (.bool (p x)) ∧ Below W.heap.size W w'
def FirstAt {α : Type} (p : α → Bool) (l : List α) (e : Ending) : Prop :=
  (e = .returned (.int .i64 (-1)) ∧ ∀ x ∈ l, p x = false) ∨ ∃ (i : Nat) (hi : i < l.length), e = .returned (.int .i64 (i : Int)) ∧ p l[i] = true ∧ ∀ t (ht : t < i), p l[t] = false
set_option maxHeartbeats 2000000 in
theorem idx_ints (l : List Int) (p : Int → Bool) (fn : Nat) (lb : Array Value) (eg : ∀ args w, (callFunc fn args).run Tryz.prog w = .ok (.enter fn args) w) (g n cap : Nat) (Wb W : World) (hp : PredOn fn lb iv p l Wb) (hr : RowAt W Wb.heap.size 3 1 g n cap (l.map iv)) (hn : l.length = n) (hm : n ≤ 1000000) (hb : Below Wb.heap.size Wb W) :
    Calls Tryz.prog 212 #[.slice (some ⟨g, 0, none⟩) n cap, .func (.func fn) #[] lb] W fun e w' => FirstAt p l e ∧ Below W.heap.size W w' := by
  have HN := Lib.hid hn
  have HP := Lib.hid hp
  clear hn hp
  go_enter Tryz.func212, Tryz.ntmps212
  go_wp2
  go_loopg [5, 8] n (fun gg _ s8 wr => ∃ kk : Nat, kk ≤ n ∧ n - kk ≤ gg ∧ s8 = .int .i64 kk ∧ Below W.heap.size W wr ∧ Hid (∀ j (hj : j < l.length), j < kk → p l[j] = false))
  case atStart => exact ⟨0, Nat.zero_le _, by omega, rfl, Below.refl _ _, fun j _ hj => absurd hj (Nat.not_lt_zero _)⟩
  case round =>
    obtain ⟨kk, hkk, hg, rfl, BW, NO⟩ := hrel
    by_cases hlt : kk < n
    · have hltz : (kk : Int) < (n : Int) := by omega
      have hkl : kk < l.length := by rw [HN.out]; exact hlt
      have hR := hr.next BW
      have hcell : wr.cell? ⟨g, kk, none⟩ = some (iv l[kk]) := by
        rw [hR.cell (by omega), List.getElem?_map, List.getElem?_eq_getElem hkl]
        rfl
      have hcall := HP.out wr l[kk] (List.getElem_mem hkl) (hb.trans (BW.mono hb.size))
      obtain ⟨y, hy⟩ : ∃ y, l[kk] = y := ⟨_, rfl⟩
      have HY := Lib.hid hy
      rw [hy] at hcell hcall
      clear hy hR
      cases hq : p y
      · rw [hq] at hcall
        have HQ := Lib.hid hq
        clear hq
        go_wp2_with fail
        go_at_fn fn
        refine hcall.mono ?_
        rintro e w' ⟨rfl, hb'⟩
        go_wp2_with fail
        go_roundg (n - (kk + 1))
        case measure => omega
        case rel =>
          refine ⟨kk + 1, by omega, by omega, by go_num, BW.trans (hb'.mono BW.size), ?_⟩
          show ∀ j (hj : j < l.length), j < kk + 1 → _
          intro j hj hjk
          by_cases e : j = kk
          · subst e
            rw [HY.out]
            exact HQ.out
          · exact NO.out j hj (by omega)
      · rw [hq] at hcall
        have HQ := Lib.hid hq
        clear hq
        go_wp2_with fail
        go_at_fn fn
        refine hcall.mono ?_
        rintro e w' ⟨rfl, hb'⟩
        go_wp2_with fail
        go_ret
        exact ⟨.inr ⟨kk, hkl, rfl, by rw [HY.out]; exact HQ.out, fun t ht => NO.out t (by omega) ht⟩, BW.trans (hb'.mono BW.size)⟩
    · have hltz : ¬ (kk : Int) < (n : Int) := by omega
      obtain rfl : kk = n := by omega
      go_wp2
      go_ret
      refine ⟨.inl ⟨rfl, fun x hx => ?_⟩, BW⟩
      obtain ⟨j, hj, rfl⟩ := List.mem_iff_getElem.1 hx
      exact NO.out j hj (by rw [← HN.out]; exact hj)
set_option maxRecDepth 100000 in
set_option maxHeartbeats 4000000 in
theorem del_ints (l : List Int) (p : Int → Bool) (fn : Nat) (lb : Array Value) (eg : ∀ args w, (callFunc fn args).run Tryz.prog w = .ok (.enter fn args) w) (v : Value) (n : Nat) (Wb W : World) (hp : PredOn fn lb iv p l Wb) (hown : W.ownsRow Wb.heap.size 3 1 v n (l.map iv)) (hn : l.length = n) (hm : n ≤ 1000000) (hb : Below Wb.heap.size Wb W) :
    Calls Tryz.prog 168 #[v, .func (.func fn) #[] lb] W fun e w' => ∃ v', e = .returned v' ∧ w'.ownsRow Wb.heap.size 3 1 v' (l.filter fun x => !p x).length ((l.filter fun x => !p x).map iv) ∧ Below Wb.heap.size Wb w' := by
  rcases row_of_own hown with ⟨rfl, rfl⟩ | ⟨g, cap, rfl, hrow⟩
  · have hl : l = [] := List.eq_nil_of_length_eq_zero hn
    subst hl
    clear hown hn
    go_enter Tryz.func168, Tryz.ntmps168
    go_wp2_with fail
    refine (Tryz.slices_IndexFunc_empty (α := Fin 90) none 0 _ _).mono ?_
    rintro e w1 ⟨rfl, rfl⟩
    go_wp2
    go_ret
    exact ⟨_, rfl, by simpa using World.ownsRow_nil _ _ 3 1, hb⟩
  · have HP := Lib.hid hp
    have HN := Lib.hid hn
    have hidx := Lib.hid (idx_ints l p fn lb eg g n cap Wb W hp hrow hn hm hb)
    have hcap : n ≤ cap := hrow.2.2.1
    have hmax : cap ≤ maxLen := hrow.2.2.2.1
    clear hown hp hn
    go_enter Tryz.func168, Tryz.ntmps168
    go_wp2_with fail
    refine hidx.out.mono ?_
    rintro e w1 ⟨hres, hb1⟩
    have hrow1 := hrow.next hb1
    have hB1 := hb.trans (hb1.mono hb.size)
    rcases hres with ⟨rfl, hall⟩ | ⟨i0, hi0, rfl, ht, hne⟩
    · have hf : (l.filter fun x => !p x) = l := by
        rw [List.filter_eq_self]
        intro a ha
        rw [hall a ha]
        rfl
      have HF := Lib.hid hf
      clear hall hf
      go_wp2
      go_ret
      exact ⟨_, rfl, by rw [HF.out, HN.out]; exact hrow1.own, hB1⟩
    · have hi0n : i0 < n := by rw [← HN.out]; exact hi0
      have hmid := Lib.hid (Mid.start (enc := encI) (k := 1) encI_len hi0 ht hne)
      rw [encI_flat] at hmid
      have hne1 : ((i0 : Int) == -1) = false := by rw [beq_eq_false_iff_ne]; omega
      clear ht hne hi0
      go_wp2_with fail
      go_loopg [5, 6, 7] n (fun gg s5 s6 _ wr => ∃ (i j : Nat) (xs : List Value), s5 = .int .i64 i ∧ s6 = .int .i64 j ∧ j ≤ n ∧ n - j ≤ gg ∧ i < j ∧ RowAt wr Wb.heap.size 3 1 g n cap xs ∧ Hid (Mid encI 1 p l i j xs) ∧ Below Wb.heap.size Wb wr)
      case atStart => exact ⟨i0, i0 + 1, _, rfl, by go_num, by omega, by omega, by omega, hrow1, hmid, hB1⟩
      case round =>
        obtain ⟨i, j, xs, rfl, rfl, hjn, hgg, hij, hR, HM, hB⟩ := hrel
        by_cases hlt : j < n
        · have hltz : (j : Int) < (n : Int) := by omega
          have hjl : j < l.length := by rw [HN.out]; exact hlt
          obtain ⟨y, hy⟩ : ∃ y, l[j] = y := ⟨_, rfl⟩
          have hcj : wr.cell? ⟨g, j, none⟩ = some (iv y) := by
            rw [hR.cell (by omega)]
            have := HM.out.at_ encI_len hjl (o := 0) (by omega)
            rw [Nat.mul_one, Nat.add_zero] at this
            rw [this, hy]
            rfl
          have hcall := HP.out wr l[j] (List.getElem_mem hjl) hB
          rw [hy] at hcall
          have HY := Lib.hid hy
          clear hy
          cases hq : p y
          · rw [hq] at hcall
            have hk2 := Lib.hid (HM.out.keep encI_len hij hjl (by rw [HY.out]; exact hq))
            rw [HY.out] at hk2
            clear hq
            go_wp2_with fail
            go_at_fn fn
            refine hcall.mono ?_
            rintro e w' ⟨rfl, hb'⟩
            have hR' := hR.next hb'
            have hB' := hB.trans (hb'.mono hB.size)
            obtain ⟨old, hold⟩ : ∃ old, w'.cell? ⟨g, i, none⟩ = some old := by
              rw [hR'.cell (by omega)]
              exact ⟨_, List.getElem?_eq_getElem (by rw [hR'.1]; omega)⟩
            have hfz := hR'.frozen i
            have hi0' : (0 : Int) ≤ (i : Int) := by omega
            have hin' : (i : Int) < (n : Int) := by omega
            go_wp2_with fail
            go_roundg (n - (j + 1))
            case measure => omega
            case rel =>
              refine ⟨i + 1, j + 1, _, by go_num, by go_num, by omega, Nat.le_refl _, by omega, hR'.set i (iv y), ?_, hR'.below hB' i _⟩
              have := hk2.out
              rw [Nat.mul_one] at this
              exact this
          · rw [hq] at hcall
            have hk2 := Lib.hid (HM.out.skip encI_len hjl (by rw [HY.out]; exact hq))
            clear hq
            go_wp2_with fail
            go_at_fn fn
            refine hcall.mono ?_
            rintro e w' ⟨rfl, hb'⟩
            go_wp2_with fail
            go_roundg (n - (j + 1))
            case measure => omega
            case rel => exact ⟨i, j + 1, xs, rfl, by go_num, by omega, Nat.le_refl _, by omega, hR.next hb', hk2, hB.trans (hb'.mono hB.size)⟩
        · obtain rfl : j = n := by omega
          have hltz : ¬ (j : Int) < (j : Int) := by omega
          have hdone := HM.out
          rw [show j = l.length from HN.out.symm] at hdone
          obtain ⟨hi1, hi2⟩ := hdone.done encI_len
          rw [Nat.mul_one, encI_flat] at hi2
          have HI1 := Lib.hid hi1
          have HI2 := Lib.hid hi2
          obtain ⟨ys, hR2, hy2, hB2⟩ := RowAt.sets (List.replicate (j - i) (.int .i64 0)) i wr xs hR hB
          have HR2 := Lib.hid hR2
          have HB2 := Lib.hid hB2
          have hcl : ∀ ty, (Builtin.clear_ #[152] ty #[.slice (some ⟨g, i, none⟩) (j - i) (cap - i)]).run Tryz.prog wr = .ok (.tuple #[]) (wr.setCells g i (List.replicate (j - i) (.int .i64 0))) :=
            fun ty => Lib.run_clear_slice wr _ _ ty _ Tryz.underlying152 Tryz.zeroValue3 rfl rfl g i _ _ (by omega) (fun t ht => by rw [hR.cell (by omega), List.getElem?_eq_getElem (by rw [hR.1]; omega)]; rfl) (fun t _ => hR.frozen _)
          have hi0' : (0 : Int) ≤ (i : Int) := by omega
          have hin' : (i : Int) ≤ (j : Int) := by omega
          clear hdone hi1 hi2 hR2 hB2
          go_wp2
          go_ret
          refine ⟨_, rfl, ?_, HB2.out⟩
          have hcut := HR2.out.cut (i := i) (by omega)
          rw [Nat.mul_one, hy2, HI2.out, HI1.out] at hcut
          have := hcut.own
          rw [← HI1.out] at this ⊢
          exact this
set_option maxHeartbeats 1000000 in
set_option maxRecDepth 100000 in
theorem lite_index (s : ByteArray) (c : Int) (w : World) : Calls Tryz.prog 224 #[.string s, .int .u8 c] w (fun e w' => e = .returned (.int .i64 (Lib.indexByte s.data.toList c.toNat.toUInt8)) ∧ w = w') := by
  go_enter Tryz.func224, Tryz.ntmps224
  go_wp2
  rw [run_callFunc_extern Tryz.func258 (by kernel_rfl) (by kernel_rfl) (by kernel_rfl) (e := Extern.BytealgIndexByte.indexByte) (by kernel_rfl), Lib.run_indexByteString]
  simp only [Result.andThen]
  rw [Oper.upon_value]
  go_wp2
  go_ret
  exact ⟨rfl, rfl⟩
theorem byte_index (s : ByteArray) (c : Int) (w : World) : Calls Tryz.prog 176 #[.string s, .int .u8 c] w (fun e w' => e = .returned (.int .i64 (Lib.indexByte s.data.toList c.toNat.toUInt8)) ∧ w = w') := by
  go_enter Tryz.func176, Tryz.ntmps176
  go_wp2_with fail
  refine (lite_index s c _).mono ?_
  rintro e w1 ⟨rfl, rfl⟩
  go_wp2
  go_ret
  exact ⟨rfl, rfl⟩
end Go.Proofs.YtpogpjebhnoncaaGreatDoor
