/- What stands in between stops a chariot; a cannon takes over just one: the call answers true. -/
import Derived.Test.YtdpalfifckjhgaaLive5
namespace Go.Proofs.Ytdpalfifckjhgaa.rblock
open Go.RowKit Go.Shelf
open M (S)

theorem put5_as (s t : ByteArray) (n : Int) (c : Nat) (w : World) (hc : c < 256) (h : putB s n c = t) : Calls Try.prog 21 #[.string s, .int .i64 n, .int .u8 (c : Int)] w (Gives w (.string t)) := by subst h; exact put_is s n c w hc
set_option maxRecDepth 100000 in
set_option maxHeartbeats 4000000 in
theorem large (s : ByteArray) (a b : Int) (w : World) (k : Int) (hs : 200 < s.size) (N : Hid (betweenV s a b = k)) : Calls Try.prog 6 #[.string s, .int .i64 a, .int .i64 b] w (Gives w (.bool true)) := by
  unfold Gives
  have hd : decide (200 < (s.size : Int)) = true := by simp; omega
  clear hs
  go_enter Try.func6, Try.ntmps6
  go_wp2_with fail
  refine (between_is5 s a b _ _ N.out).mono ?_
  rintro e w1' ⟨rfl, rfl⟩
  go_wp2_with fail
  refine (live5_any _).mono ?_
  rintro e w2 ⟨rfl, hb⟩
  have hB := hb
  clear hb
  go_wp2
  go_ret
  exact ⟨rfl, hB⟩
set_option maxRecDepth 100000 in
set_option maxHeartbeats 4000000 in
theorem neg (s : ByteArray) (a b : Int) (w : World) (k : Int) (hs : s.size ≤ 200) (hk : k < 0) (N : Hid (betweenV s a b = k)) : Calls Try.prog 6 #[.string s, .int .i64 a, .int .i64 b] w (Gives w (.bool true)) := by
  unfold Gives
  have hd : decide (200 < (s.size : Int)) = false := by simp; omega
  clear hs
  go_enter Try.func6, Try.ntmps6
  go_wp2_with fail
  refine (between_is5 s a b _ _ N.out).mono ?_
  rintro e w1' ⟨rfl, rfl⟩
  go_wp2_with fail
  refine (live5_any _).mono ?_
  rintro e w2 ⟨rfl, hb⟩
  have hB := hb
  clear hb
  go_wp2
  go_ret
  exact ⟨rfl, hB⟩
set_option maxRecDepth 100000 in
set_option maxHeartbeats 4000000 in
theorem yes (s r c : ByteArray) (a b : Int) (x : Nat) (n : Int) (w : World) (hs : s.size ≤ 200) (h0 : 0 ≤ n) (N : Hid (betweenV s a b = n)) (X : Hid (atB s b = x)) (hx : x = 46 ∨ (x ≠ 46 ∧ sideN x = 1)) (R : Hid (putB s a 82 = r)) (C : Hid (putB s a 67 = c)) (V : Hid (canI r a b = (n == 0))) (U : Hid (canI c a b = ((x == 46 && n == 0) || (x != 46 && n == 1)))) : Calls Try.prog 6 #[.string s, .int .i64 a, .int .i64 b] w (Gives w (.bool true)) := by
  unfold Gives
  have hd : decide (200 < (s.size : Int)) = false := by simp; omega
  have hd2 : decide (n < 0) = false := by simp; omega
  clear hs
  have hn : n = 0 ∨ n = 1 ∨ (n ≠ 0 ∧ n ≠ 1) := by omega
  rcases hx with rfl | ⟨hx, hy⟩
  · rcases hn with rfl | rfl | hn
    · have V1 : Hid (canI r a b = true) := by show _ = _; rw [V.out]; rfl
      have U1 : Hid (canI c a b = true) := by show _ = _; rw [U.out]; simp
      clear V U
      go_enter Try.func6, Try.ntmps6
      go_wp2_with fail
      refine (between_is5 s a b _ _ N.out).mono ?_
      rintro e w1' ⟨rfl, rfl⟩
      go_wp2_with fail
      refine (at_is s b _ _ X.out).mono ?_
      rintro e w2' ⟨rfl, rfl⟩
      go_wp2_with fail
      refine (put5_as s r a 82 _ (by decide) R.out).mono ?_
      rintro e w3 ⟨rfl, hb⟩
      have hB := hb
      clear hb
      go_wp2_with fail
      refine (put5_as s c a 67 _ (by decide) C.out).mono ?_
      rintro e w4 ⟨rfl, hb⟩
      replace hB := hB.trans (hb.mono hB.size)
      clear hb
      go_wp2_with fail
      refine (can_is5 r a b _ _ V1.out).mono ?_
      rintro e w5 ⟨rfl, hb⟩
      replace hB := hB.trans (hb.mono hB.size)
      clear hb
      go_wp2_with fail
      refine (can_is5 c a b _ _ U1.out).mono ?_
      rintro e w6 ⟨rfl, hb⟩
      replace hB := hB.trans (hb.mono hB.size)
      clear hb
      go_wp2_with fail
      refine (live5_any _).mono ?_
      rintro e w7 ⟨rfl, hb⟩
      replace hB := hB.trans (hb.mono hB.size)
      clear hb
      go_wp2
      go_ret
      exact ⟨rfl, hB⟩
    · have V1 : Hid (canI r a b = false) := by show _ = _; rw [V.out]; rfl
      have U1 : Hid (canI c a b = false) := by show _ = _; rw [U.out]; simp
      clear V U
      go_enter Try.func6, Try.ntmps6
      go_wp2_with fail
      refine (between_is5 s a b _ _ N.out).mono ?_
      rintro e w1' ⟨rfl, rfl⟩
      go_wp2_with fail
      refine (at_is s b _ _ X.out).mono ?_
      rintro e w2' ⟨rfl, rfl⟩
      go_wp2_with fail
      refine (put5_as s r a 82 _ (by decide) R.out).mono ?_
      rintro e w3 ⟨rfl, hb⟩
      have hB := hb
      clear hb
      go_wp2_with fail
      refine (put5_as s c a 67 _ (by decide) C.out).mono ?_
      rintro e w4 ⟨rfl, hb⟩
      replace hB := hB.trans (hb.mono hB.size)
      clear hb
      go_wp2_with fail
      refine (can_is5 r a b _ _ V1.out).mono ?_
      rintro e w5 ⟨rfl, hb⟩
      replace hB := hB.trans (hb.mono hB.size)
      clear hb
      go_wp2_with fail
      refine (can_is5 c a b _ _ U1.out).mono ?_
      rintro e w6 ⟨rfl, hb⟩
      replace hB := hB.trans (hb.mono hB.size)
      clear hb
      go_wp2_with fail
      refine (live5_any _).mono ?_
      rintro e w7 ⟨rfl, hb⟩
      replace hB := hB.trans (hb.mono hB.size)
      clear hb
      go_wp2
      go_ret
      exact ⟨rfl, hB⟩
    · have q0 : (n == 0) = false := by rw [beq_eq_false_iff_ne]; exact hn.1
      have q1 : (n == 1) = false := by rw [beq_eq_false_iff_ne]; exact hn.2
      have V1 : Hid (canI r a b = false) := by show _ = _; rw [V.out]; exact q0
      have U1 : Hid (canI c a b = false) := by show _ = _; rw [U.out]; simp [hn.1]
      clear hn
      clear V U
      go_enter Try.func6, Try.ntmps6
      go_wp2_with fail
      refine (between_is5 s a b _ _ N.out).mono ?_
      rintro e w1' ⟨rfl, rfl⟩
      go_wp2_with fail
      refine (at_is s b _ _ X.out).mono ?_
      rintro e w2' ⟨rfl, rfl⟩
      go_wp2_with fail
      refine (put5_as s r a 82 _ (by decide) R.out).mono ?_
      rintro e w3 ⟨rfl, hb⟩
      have hB := hb
      clear hb
      go_wp2_with fail
      refine (put5_as s c a 67 _ (by decide) C.out).mono ?_
      rintro e w4 ⟨rfl, hb⟩
      replace hB := hB.trans (hb.mono hB.size)
      clear hb
      go_wp2_with fail
      refine (can_is5 r a b _ _ V1.out).mono ?_
      rintro e w5 ⟨rfl, hb⟩
      replace hB := hB.trans (hb.mono hB.size)
      clear hb
      go_wp2_with fail
      refine (can_is5 c a b _ _ U1.out).mono ?_
      rintro e w6 ⟨rfl, hb⟩
      replace hB := hB.trans (hb.mono hB.size)
      clear hb
      go_wp2_with fail
      refine (live5_any _).mono ?_
      rintro e w7 ⟨rfl, hb⟩
      replace hB := hB.trans (hb.mono hB.size)
      clear hb
      go_wp2
      go_ret
      exact ⟨rfl, hB⟩
  · rcases hn with rfl | rfl | hn
    · have e46 : (x == 46) = false := by rw [beq_eq_false_iff_ne]; exact hx
      have V1 : Hid (canI r a b = true) := by show _ = _; rw [V.out]; rfl
      have U1 : Hid (canI c a b = false) := by show _ = _; rw [U.out]; simp [hx]
      have e0 : ((x : Int) == 46) = false := by rw [beq_eq_false_iff_ne]; omega
      have e1 : ((x : Int) != 46) = true := by rw [bne_iff_ne]; omega
      have Hy := Lib.hid hy
      clear hx hy e46
      clear V U
      go_enter Try.func6, Try.ntmps6
      go_wp2_with fail
      refine (between_is5 s a b _ _ N.out).mono ?_
      rintro e w1' ⟨rfl, rfl⟩
      go_wp2_with fail
      refine (at_is s b _ _ X.out).mono ?_
      rintro e w2' ⟨rfl, rfl⟩
      go_wp2_with fail
      refine (side_is x 1 _ Hy.out).mono ?_
      rintro e w3' ⟨rfl, rfl⟩
      go_wp2_with fail
      refine (put5_as s r a 82 _ (by decide) R.out).mono ?_
      rintro e w4 ⟨rfl, hb⟩
      have hB := hb
      clear hb
      go_wp2_with fail
      refine (put5_as s c a 67 _ (by decide) C.out).mono ?_
      rintro e w5 ⟨rfl, hb⟩
      replace hB := hB.trans (hb.mono hB.size)
      clear hb
      go_wp2_with fail
      refine (can_is5 r a b _ _ V1.out).mono ?_
      rintro e w6 ⟨rfl, hb⟩
      replace hB := hB.trans (hb.mono hB.size)
      clear hb
      go_wp2_with fail
      refine (can_is5 c a b _ _ U1.out).mono ?_
      rintro e w7 ⟨rfl, hb⟩
      replace hB := hB.trans (hb.mono hB.size)
      clear hb
      go_wp2_with fail
      refine (live5_any _).mono ?_
      rintro e w8 ⟨rfl, hb⟩
      replace hB := hB.trans (hb.mono hB.size)
      clear hb
      go_wp2
      go_ret
      exact ⟨rfl, hB⟩
    · have e46 : (x == 46) = false := by rw [beq_eq_false_iff_ne]; exact hx
      have V1 : Hid (canI r a b = false) := by show _ = _; rw [V.out]; rfl
      have U1 : Hid (canI c a b = true) := by show _ = _; rw [U.out]; simp [hx]
      have e0 : ((x : Int) == 46) = false := by rw [beq_eq_false_iff_ne]; omega
      have e1 : ((x : Int) != 46) = true := by rw [bne_iff_ne]; omega
      have Hy := Lib.hid hy
      clear hx hy e46
      clear V U
      go_enter Try.func6, Try.ntmps6
      go_wp2_with fail
      refine (between_is5 s a b _ _ N.out).mono ?_
      rintro e w1' ⟨rfl, rfl⟩
      go_wp2_with fail
      refine (at_is s b _ _ X.out).mono ?_
      rintro e w2' ⟨rfl, rfl⟩
      go_wp2_with fail
      refine (side_is x 1 _ Hy.out).mono ?_
      rintro e w3' ⟨rfl, rfl⟩
      go_wp2_with fail
      refine (put5_as s r a 82 _ (by decide) R.out).mono ?_
      rintro e w4 ⟨rfl, hb⟩
      have hB := hb
      clear hb
      go_wp2_with fail
      refine (put5_as s c a 67 _ (by decide) C.out).mono ?_
      rintro e w5 ⟨rfl, hb⟩
      replace hB := hB.trans (hb.mono hB.size)
      clear hb
      go_wp2_with fail
      refine (can_is5 r a b _ _ V1.out).mono ?_
      rintro e w6 ⟨rfl, hb⟩
      replace hB := hB.trans (hb.mono hB.size)
      clear hb
      go_wp2_with fail
      refine (can_is5 c a b _ _ U1.out).mono ?_
      rintro e w7 ⟨rfl, hb⟩
      replace hB := hB.trans (hb.mono hB.size)
      clear hb
      go_wp2_with fail
      refine (live5_any _).mono ?_
      rintro e w8 ⟨rfl, hb⟩
      replace hB := hB.trans (hb.mono hB.size)
      clear hb
      go_wp2
      go_ret
      exact ⟨rfl, hB⟩
    · have q0 : (n == 0) = false := by rw [beq_eq_false_iff_ne]; exact hn.1
      have q1 : (n == 1) = false := by rw [beq_eq_false_iff_ne]; exact hn.2
      have e46 : (x == 46) = false := by rw [beq_eq_false_iff_ne]; exact hx
      have V1 : Hid (canI r a b = false) := by show _ = _; rw [V.out]; exact q0
      have U1 : Hid (canI c a b = false) := by show _ = _; rw [U.out]; simp [hx, hn.1, hn.2]
      have e0 : ((x : Int) == 46) = false := by rw [beq_eq_false_iff_ne]; omega
      have e1 : ((x : Int) != 46) = true := by rw [bne_iff_ne]; omega
      have Hy := Lib.hid hy
      clear hx hy e46
      clear hn
      clear V U
      go_enter Try.func6, Try.ntmps6
      go_wp2_with fail
      refine (between_is5 s a b _ _ N.out).mono ?_
      rintro e w1' ⟨rfl, rfl⟩
      go_wp2_with fail
      refine (at_is s b _ _ X.out).mono ?_
      rintro e w2' ⟨rfl, rfl⟩
      go_wp2_with fail
      refine (side_is x 1 _ Hy.out).mono ?_
      rintro e w3' ⟨rfl, rfl⟩
      go_wp2_with fail
      refine (put5_as s r a 82 _ (by decide) R.out).mono ?_
      rintro e w4 ⟨rfl, hb⟩
      have hB := hb
      clear hb
      go_wp2_with fail
      refine (put5_as s c a 67 _ (by decide) C.out).mono ?_
      rintro e w5 ⟨rfl, hb⟩
      replace hB := hB.trans (hb.mono hB.size)
      clear hb
      go_wp2_with fail
      refine (can_is5 r a b _ _ V1.out).mono ?_
      rintro e w6 ⟨rfl, hb⟩
      replace hB := hB.trans (hb.mono hB.size)
      clear hb
      go_wp2_with fail
      refine (can_is5 c a b _ _ U1.out).mono ?_
      rintro e w7 ⟨rfl, hb⟩
      replace hB := hB.trans (hb.mono hB.size)
      clear hb
      go_wp2_with fail
      refine (live5_any _).mono ?_
      rintro e w8 ⟨rfl, hb⟩
      replace hB := hB.trans (hb.mono hB.size)
      clear hb
      go_wp2
      go_ret
      exact ⟨rfl, hB⟩
set_option maxRecDepth 100000 in
set_option maxHeartbeats 4000000 in
theorem no (s r : ByteArray) (a b : Int) (x : Nat) (n y : Int) (w : World) (hs : s.size ≤ 200) (h0 : 0 ≤ n) (N : Hid (betweenV s a b = n)) (X : Hid (atB s b = x)) (hx : x ≠ 46) (Y : Hid (sideN x = y)) (hy : y ≠ 1) (R : Hid (putB s a 82 = r)) (V : Hid (canI r a b = false)) : Calls Try.prog 6 #[.string s, .int .i64 a, .int .i64 b] w (Gives w (.bool true)) := by
  unfold Gives
  have hd : decide (200 < (s.size : Int)) = false := by simp; omega
  have hd2 : decide (n < 0) = false := by simp; omega
  have e0 : ((x : Int) == 46) = false := by rw [beq_eq_false_iff_ne]; omega
  have e1 : (y == 1) = false := by rw [beq_eq_false_iff_ne]; exact hy
  clear hs hx hy
  go_enter Try.func6, Try.ntmps6
  go_wp2_with fail
  refine (between_is5 s a b _ _ N.out).mono ?_
  rintro e w1' ⟨rfl, rfl⟩
  go_wp2_with fail
  refine (at_is s b _ _ X.out).mono ?_
  rintro e w2' ⟨rfl, rfl⟩
  go_wp2_with fail
  refine (side_is x _ _ Y.out).mono ?_
  rintro e w3' ⟨rfl, rfl⟩
  go_wp2_with fail
  refine (put5_as s r a 82 _ (by decide) R.out).mono ?_
  rintro e w4 ⟨rfl, hb⟩
  have hB := hb
  clear hb
  go_wp2_with fail
  refine (can_is5 r a b _ _ V.out).mono ?_
  rintro e w5 ⟨rfl, hb⟩
  replace hB := hB.trans (hb.mono hB.size)
  clear hb
  go_wp2_with fail
  refine (live5_any _).mono ?_
  rintro e w6 ⟨rfl, hb⟩
  replace hB := hB.trans (hb.mono hB.size)
  clear hb
  go_wp2
  go_ret
  exact ⟨rfl, hB⟩
theorem walk (s : ByteArray) (a b : Int) (w : World) : Calls Try.prog 6 #[.string s, .int .i64 a, .int .i64 b] w (Gives w (.bool true)) := by
  by_cases hs : 200 < s.size
  · exact large s a b w _ hs (rfl : betweenV s a b = _)
  by_cases hk : betweenV s a b < 0
  · exact neg s a b w _ (by omega) hk (rfl : betweenV s a b = _)
  have hall : isB s = true ∧ sqI a = true ∧ sqI b = true := by
    unfold betweenV at hk
    cases h1 : isB s <;> cases h2 : sqI a <;> cases h3 : sqI b <;> simp_all
  obtain ⟨hi, ha, hb⟩ := hall
  obtain ⟨a0, a1⟩ := sqI_in ha
  obtain ⟨b0, b1⟩ := sqI_in hb
  obtain ⟨m, rfl⟩ : ∃ m : Nat, a = m := ⟨a.toNat, by omega⟩
  obtain ⟨k, rfl⟩ : ∃ k : Nat, b = k := ⟨b.toNat, by omega⟩
  have hm : m < 90 := by omega
  have hk90 : k < 90 := by omega
  have hv : betweenV s m k = betweenI s m k := by unfold betweenV; rw [hi, ha, hb]; rfl
  have hl : lineB m k = true := by
    cases e : lineB m k
    · rw [hv, betweenI, e] at hk
      simp at hk
    · rfl
  have hv2 : betweenV s m k = betweenN s m k := by rw [hv, betweenI, hl, if_pos rfl]
  have hat : atB s (k : Int) = bAt s k := by unfold atB; rw [if_pos ⟨hi, hb⟩]; rfl
  have hput : ∀ c : Nat, fillB c = true → putB s (m : Int) c = putS s m c := fun c hc => by unfold putB; rw [if_pos ⟨hi, ha, hc⟩]; rfl
  have hcan : ∀ c : Nat, c < 256 → fillB c = true → canI (putB s (m : Int) c) m k = canB (putS s m c) m k := fun c hc hf => by
    rw [hput c hf]
    unfold canI
    rw [put_is_board hi m c hc hf, ha, hb]
    rfl
  have h0 : 0 ≤ betweenV s m k := by omega
  by_cases hx : bAt s k = 46 ∨ (bAt s k ≠ 46 ∧ sideN (bAt s k) = 1)
  · have hne : sideN (bAt s k) ≠ 0 := by
      rcases hx with e | ⟨_, e⟩ <;> rw [e] <;> decide
    refine yes s _ _ m k (bAt s k) _ w (by omega) h0 (rfl : betweenV s m k = _) hat hx (rfl : putB s m 82 = _) (rfl : putB s m 67 = _) ?_ ?_
    · show _ = _
      rw [hcan 82 (by decide) (by decide), can_chariot hi hk90 hm hl hne, hv2, Bool.eq_iff_iff, beq_iff_eq, beq_iff_eq]
      omega
    · show _ = _
      rw [hcan 67 (by decide) (by decide), can_cannon hi hk90 hm hl hne, hv2]
      have e0 : (betweenN s m k == 0) = ((betweenN s m k : Int) == 0) := by rw [Bool.eq_iff_iff, beq_iff_eq, beq_iff_eq]; omega
      have e1 : (betweenN s m k == 1) = ((betweenN s m k : Int) == 1) := by rw [Bool.eq_iff_iff, beq_iff_eq, beq_iff_eq]; omega
      rw [e0, e1]
  · have hf := isB_fill hi k hk90
    rw [fill_side] at hf
    have h46 : bAt s k ≠ 46 := fun e => hx (.inl e)
    have hs0 : sideN (bAt s k) = 0 := by
      have h1 : sideN (bAt s k) ≠ 1 := fun e => hx (.inr ⟨h46, e⟩)
      simp only [Bool.or_eq_true, beq_iff_eq, h46, false_or, decide_eq_true_eq] at hf
      rcases side_cases01 hf with e | e
      · exact e
      · exact absurd e h1
    have hne : k ≠ m := by
      intro e
      subst e
      simp [lineB] at hl
    refine no s _ m k (bAt s k) _ _ w (by omega) h0 (rfl : betweenV s m k = _) hat h46 (rfl : sideN (bAt s k) = _) (by omega) (rfl : putB s m 82 = _) ?_
    show _ = _
    rw [hcan 82 (by decide) (by decide), can_chariot_own hi hk90 hm hne hs0]
end Go.Proofs.Ytdpalfifckjhgaa.rblock
