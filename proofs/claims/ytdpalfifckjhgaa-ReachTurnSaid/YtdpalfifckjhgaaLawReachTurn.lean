/- Seen from the other side it is the same: the call answers true. -/
import Derived.Test.YtdpalfifckjhgaaLive5
namespace Go.Proofs.Ytdpalfifckjhgaa.rturn
open Go.RowKit Go.Shelf
open M (S)

theorem rturn5_is (s t : ByteArray) (w : World) (h : turnB s = t) : Calls Try.prog 17 #[.string s] w (Gives w (.string t)) := by subst h; exact rturn_any s w
set_option maxRecDepth 100000 in
set_option maxHeartbeats 4000000 in
theorem large (s : ByteArray) (a b : Int) (w : World) (hs : 200 < s.size) : Calls Try.prog 4 #[.string s, .int .i64 a, .int .i64 b] w (Gives w (.bool true)) := by
  unfold Gives
  have hd : decide (200 < (s.size : Int)) = true := by simp; omega
  clear hs
  go_enter Try.func4, Try.ntmps4
  go_wp2_with fail
  refine (live5_any _).mono ?_
  rintro e w1 ⟨rfl, hb⟩
  have hB := hb
  clear hb
  go_wp2
  go_ret
  exact ⟨rfl, hB⟩
set_option maxRecDepth 100000 in
set_option maxHeartbeats 4000000 in
theorem alow (s : ByteArray) (a b : Int) (w : World) (hs : s.size ≤ 200) (h : a < 0) : Calls Try.prog 4 #[.string s, .int .i64 a, .int .i64 b] w (Gives w (.bool true)) := by
  unfold Gives
  have hd : decide (200 < (s.size : Int)) = false := by simp; omega
  clear hs
  go_enter Try.func4, Try.ntmps4
  go_wp2_with fail
  refine (live5_any _).mono ?_
  rintro e w1 ⟨rfl, hb⟩
  have hB := hb
  clear hb
  go_wp2
  go_ret
  exact ⟨rfl, hB⟩
set_option maxRecDepth 100000 in
set_option maxHeartbeats 4000000 in
theorem ahigh (s : ByteArray) (a b : Int) (w : World) (hs : s.size ≤ 200) (h0 : 0 ≤ a) (h : 89 < a) : Calls Try.prog 4 #[.string s, .int .i64 a, .int .i64 b] w (Gives w (.bool true)) := by
  unfold Gives
  have hd : decide (200 < (s.size : Int)) = false := by simp; omega
  clear hs
  go_enter Try.func4, Try.ntmps4
  go_wp2_with fail
  refine (live5_any _).mono ?_
  rintro e w1 ⟨rfl, hb⟩
  have hB := hb
  clear hb
  go_wp2
  go_ret
  exact ⟨rfl, hB⟩
set_option maxRecDepth 100000 in
set_option maxHeartbeats 4000000 in
theorem blow (s : ByteArray) (a b : Int) (w : World) (hs : s.size ≤ 200) (h0 : 0 ≤ a) (h1 : a < 90) (h : b < 0) : Calls Try.prog 4 #[.string s, .int .i64 a, .int .i64 b] w (Gives w (.bool true)) := by
  unfold Gives
  have hd : decide (200 < (s.size : Int)) = false := by simp; omega
  clear hs
  go_enter Try.func4, Try.ntmps4
  go_wp2_with fail
  refine (live5_any _).mono ?_
  rintro e w1 ⟨rfl, hb⟩
  have hB := hb
  clear hb
  go_wp2
  go_ret
  exact ⟨rfl, hB⟩
set_option maxRecDepth 100000 in
set_option maxHeartbeats 4000000 in
theorem bhigh (s : ByteArray) (a b : Int) (w : World) (hs : s.size ≤ 200) (h0 : 0 ≤ a) (h1 : a < 90) (g0 : 0 ≤ b) (h : 89 < b) : Calls Try.prog 4 #[.string s, .int .i64 a, .int .i64 b] w (Gives w (.bool true)) := by
  unfold Gives
  have hd : decide (200 < (s.size : Int)) = false := by simp; omega
  clear hs
  go_enter Try.func4, Try.ntmps4
  go_wp2_with fail
  refine (live5_any _).mono ?_
  rintro e w1 ⟨rfl, hb⟩
  have hB := hb
  clear hb
  go_wp2
  go_ret
  exact ⟨rfl, hB⟩
theorem turn_none {s : ByteArray} (h : isB s = false) : turnB s = ByteArray.empty := by unfold turnB; rw [h]; rfl
theorem isB_empty : isB ByteArray.empty = false := by decide +kernel
set_option maxRecDepth 100000 in
set_option maxHeartbeats 4000000 in
theorem small (s : ByteArray) (a b : Nat) (w : World) (hs : s.size ≤ 200) (ha : a < 90) (hb : b < 90) : Calls Try.prog 4 #[.string s, .int .i64 (a : Int), .int .i64 (b : Int)] w (Gives w (.bool true)) := by
  unfold Gives
  have hd : decide (200 < (s.size : Int)) = false := by simp; omega
  clear hs
  have ea : (89 - (a : Int)) = ((89 - a : Nat) : Int) := by omega
  have eb : (89 - (b : Int)) = ((89 - b : Nat) : Int) := by omega
  have qa : sqI (a : Int) = true := sqI_true (by omega)
  have qb : sqI (b : Int) = true := sqI_true (by omega)
  have qa' : sqI ((89 - a : Nat) : Int) = true := sqI_true (by omega)
  have qb' : sqI ((89 - b : Nat) : Int) = true := sqI_true (by omega)
  have hc2 : canI (turnB s) (89 - (a : Int)) (89 - (b : Int)) = canI s a b := by
    rw [ea, eb]
    unfold canI
    rw [qa, qb, qa', qb']
    cases h : isB s
    · rw [turn_none h, isB_empty]
      rfl
    · rw [turn_is_board h]
      exact can_turn h ha hb
  have hk2 : betweenV (turnB s) (89 - (a : Int)) (89 - (b : Int)) = betweenV s a b := by
    rw [ea, eb]
    unfold betweenV
    rw [qa, qb, qa', qb']
    cases h : isB s
    · rw [turn_none h, isB_empty]
      rfl
    · rw [turn_is_board h]
      exact betweenI_turn h ha hb
  have hk3 : betweenV s b a = betweenV s a b := by
    unfold betweenV
    rw [qa, qb]
    cases isB s
    · rfl
    · exact betweenI_swap s b a
  obtain ⟨c, hc⟩ : ∃ c, canI s a b = c := ⟨_, rfl⟩
  obtain ⟨k, hk⟩ : ∃ k, betweenV s a b = k := ⟨_, rfl⟩
  rw [hc] at hc2
  rw [hk] at hk2 hk3
  obtain ⟨t, ht⟩ : ∃ t, turnB s = t := ⟨_, rfl⟩
  rw [ht] at hc2 hk2
  have Ht := Lib.hid ht
  have Hc := Lib.hid hc
  have Hk := Lib.hid hk
  have Hc2 := Lib.hid hc2
  have Hk2 := Lib.hid hk2
  have Hk3 := Lib.hid hk3
  clear hc hk hc2 hk2 hk3 ht ea eb qa qb qa' qb'
  go_enter Try.func4, Try.ntmps4
  go_wp2_with fail
  refine (rturn5_is s t _ Ht.out).mono ?_
  rintro e w1 ⟨rfl, hb⟩
  have hB := hb
  clear hb
  go_wp2_with fail
  refine (can_is5 s _ _ c _ Hc.out).mono ?_
  rintro e w2 ⟨rfl, hb⟩
  replace hB := hB.trans (hb.mono hB.size)
  clear hb
  go_wp2_with fail
  refine (can_is5 t _ _ c _ Hc2.out).mono ?_
  rintro e w3 ⟨rfl, hb⟩
  replace hB := hB.trans (hb.mono hB.size)
  clear hb
  go_wp2_with fail
  refine (between_is5 s _ _ k _ Hk.out).mono ?_
  rintro e w4' ⟨rfl, rfl⟩
  go_wp2_with fail
  refine (between_is5 t _ _ k _ Hk2.out).mono ?_
  rintro e w5' ⟨rfl, rfl⟩
  go_wp2_with fail
  refine (between_is5 s _ _ k _ Hk.out).mono ?_
  rintro e w6' ⟨rfl, rfl⟩
  go_wp2_with fail
  refine (between_is5 s _ _ k _ Hk3.out).mono ?_
  rintro e w7' ⟨rfl, rfl⟩
  go_wp2_with fail
  refine (live5_any _).mono ?_
  rintro e w8 ⟨rfl, hb⟩
  replace hB := hB.trans (hb.mono hB.size)
  clear hb
  go_wp2
  go_ret
  exact ⟨rfl, hB⟩
theorem walk (s : ByteArray) (a b : Int) (w : World) : Calls Try.prog 4 #[.string s, .int .i64 a, .int .i64 b] w (Gives w (.bool true)) := by
  by_cases hs : s.size ≤ 200
  · by_cases h1 : a < 0
    · exact alow s a b w hs h1
    by_cases h2 : 89 < a
    · exact ahigh s a b w hs (by omega) h2
    by_cases h3 : b < 0
    · exact blow s a b w hs (by omega) (by omega) h3
    by_cases h4 : 89 < b
    · exact bhigh s a b w hs (by omega) (by omega) (by omega) h4
    obtain ⟨m, rfl⟩ : ∃ m : Nat, a = m := ⟨a.toNat, by omega⟩
    obtain ⟨n, rfl⟩ : ∃ n : Nat, b = n := ⟨b.toNat, by omega⟩
    exact small s m n w hs (by omega) (by omega)
  · exact large s a b w (by omega)
end Go.Proofs.Ytdpalfifckjhgaa.rturn
