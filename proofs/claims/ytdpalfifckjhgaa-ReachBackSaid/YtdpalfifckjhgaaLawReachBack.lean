/- A general, an advisor, an elephant, and a chariot reach back where they came from, over a board on which they went; a cannon, too, that took nothing: the call answers true. -/
import Derived.Test.YtdpalfifckjhgaaLive5
namespace Go.Proofs.Ytdpalfifckjhgaa.rback
open Go.RowKit Go.Shelf
open M (S)

theorem put5_as (s t : ByteArray) (n : Int) (c : Nat) (w : World) (hc : c < 256) (h : putB s n c = t) : Calls Try.prog 21 #[.string s, .int .i64 n, .int .u8 (c : Int)] w (Gives w (.string t)) := by subst h; exact put_is s n c w hc
set_option maxRecDepth 100000 in
set_option maxHeartbeats 4000000 in
theorem large (s : ByteArray) (a b : Int) (w : World) (hs : 200 < s.size) : Calls Try.prog 5 #[.string s, .int .i64 a, .int .i64 b] w (Gives w (.bool true)) := by
  unfold Gives
  have hd : decide (200 < (s.size : Int)) = true := by simp; omega
  clear hs
  go_enter Try.func5, Try.ntmps5
  go_wp2_with fail
  refine (live5_any _).mono ?_
  rintro e w1 ⟨rfl, hb⟩
  have hB := hb
  clear hb
  go_wp2
  go_ret
  exact ⟨rfl, hB⟩
set_option maxRecDepth 100000 in
set_option maxHeartbeats 4000000 in
theorem cannot (s : ByteArray) (a b : Int) (w : World) (hs : s.size ≤ 200) (C : Hid (canI s a b = false)) : Calls Try.prog 5 #[.string s, .int .i64 a, .int .i64 b] w (Gives w (.bool true)) := by
  unfold Gives
  have hd : decide (200 < (s.size : Int)) = false := by simp; omega
  clear hs
  go_enter Try.func5, Try.ntmps5
  go_wp2_with fail
  refine (can_is5 s a b _ _ C.out).mono ?_
  rintro e w1 ⟨rfl, hb⟩
  have hB := hb
  clear hb
  go_wp2_with fail
  refine (live5_any _).mono ?_
  rintro e w2 ⟨rfl, hb⟩
  replace hB := hB.trans (hb.mono hB.size)
  clear hb
  go_wp2
  go_ret
  exact ⟨rfl, hB⟩
set_option maxRecDepth 100000 in
set_option maxHeartbeats 4000000 in
theorem leaves (s : ByteArray) (a b : Int) (c x k : Nat) (w : World) (hs : s.size ≤ 200) (C : Hid (canI s a b = true)) (Y : Hid (atB s a = c)) (X : Hid (atB s b = x)) (K : Hid (kindN c = k)) (hk : ((k : Int) == 78) = true ∨ (((k : Int) == 78) = false ∧ ((k : Int) == 80) = true) ∨ (((k : Int) == 78) = false ∧ ((k : Int) == 80) = false ∧ ((k : Int) == 67) = true ∧ ((x : Int) != 46) = true)) : Calls Try.prog 5 #[.string s, .int .i64 a, .int .i64 b] w (Gives w (.bool true)) := by
  unfold Gives
  have hd : decide (200 < (s.size : Int)) = false := by simp; omega
  clear hs
  rcases hk with h1 | ⟨h1, h2⟩ | ⟨h1, h2, h3, h4⟩
  all_goals
    go_enter Try.func5, Try.ntmps5
    go_wp2_with fail
    refine (can_is5 s a b _ _ C.out).mono ?_
    rintro e w1 ⟨rfl, hb⟩
    have hB := hb
    clear hb
    go_wp2_with fail
    refine (at_is s a _ _ Y.out).mono ?_
    rintro e w2' ⟨rfl, rfl⟩
    go_wp2_with fail
    refine (at_is s b _ _ X.out).mono ?_
    rintro e w3' ⟨rfl, rfl⟩
    go_wp2_with fail
    refine (kind_is c _ _ K.out).mono ?_
    rintro e w4' ⟨rfl, rfl⟩
    go_wp2_with fail
    refine (live5_any _).mono ?_
    rintro e w5 ⟨rfl, hb⟩
    replace hB := hB.trans (hb.mono hB.size)
    clear hb
    go_wp2
    go_ret
    exact ⟨rfl, hB⟩
set_option maxRecDepth 100000 in
set_option maxHeartbeats 4000000 in
theorem mayNot (s : ByteArray) (a b : Int) (c x k : Nat) (w : World) (hs : s.size ≤ 200) (C : Hid (canI s a b = true)) (Y : Hid (atB s a = c)) (X : Hid (atB s b = x)) (K : Hid (kindN c = k)) (h1 : ((k : Int) == 78) = false) (h2 : ((k : Int) == 80) = false) (hk : ((k : Int) == 67) = false ∨ (((k : Int) == 67) = true ∧ ((x : Int) != 46) = false)) (M : Hid (mayB c a = false)) : Calls Try.prog 5 #[.string s, .int .i64 a, .int .i64 b] w (Gives w (.bool true)) := by
  unfold Gives
  have hd : decide (200 < (s.size : Int)) = false := by simp; omega
  clear hs
  rcases hk with h3 | ⟨h3, h4⟩
  all_goals
    go_enter Try.func5, Try.ntmps5
    go_wp2_with fail
    refine (can_is5 s a b _ _ C.out).mono ?_
    rintro e w1 ⟨rfl, hb⟩
    have hB := hb
    clear hb
    go_wp2_with fail
    refine (at_is s a _ _ Y.out).mono ?_
    rintro e w2' ⟨rfl, rfl⟩
    go_wp2_with fail
    refine (at_is s b _ _ X.out).mono ?_
    rintro e w3' ⟨rfl, rfl⟩
    go_wp2_with fail
    refine (kind_is c _ _ K.out).mono ?_
    rintro e w4' ⟨rfl, rfl⟩
    go_wp2_with fail
    refine (may_is c a false _ M.out).mono ?_
    rintro e w5 ⟨rfl, hb⟩
    replace hB := hB.trans (hb.mono hB.size)
    clear hb
    go_wp2_with fail
    refine (live5_any _).mono ?_
    rintro e w6 ⟨rfl, hb⟩
    replace hB := hB.trans (hb.mono hB.size)
    clear hb
    go_wp2
    go_ret
    exact ⟨rfl, hB⟩
set_option maxRecDepth 100000 in
set_option maxHeartbeats 4000000 in
theorem may (s : ByteArray) (a b : Int) (c x k : Nat) (w : World) (hs : s.size ≤ 200) (C : Hid (canI s a b = true)) (Y : Hid (atB s a = c)) (X : Hid (atB s b = x)) (K : Hid (kindN c = k)) (h1 : ((k : Int) == 78) = false) (h2 : ((k : Int) == 80) = false) (hk : ((k : Int) == 67) = false ∨ (((k : Int) == 67) = true ∧ ((x : Int) != 46) = false)) (M : Hid (mayB c a = true)) (u v : ByteArray) (hc : c < 256) (U : Hid (putB s a 46 = u)) (V : Hid (putB u b c = v)) (Z : Hid (canI v b a = true)) : Calls Try.prog 5 #[.string s, .int .i64 a, .int .i64 b] w (Gives w (.bool true)) := by
  unfold Gives
  have hd : decide (200 < (s.size : Int)) = false := by simp; omega
  clear hs
  rcases hk with h3 | ⟨h3, h4⟩
  all_goals
    go_enter Try.func5, Try.ntmps5
    go_wp2_with fail
    refine (can_is5 s a b _ _ C.out).mono ?_
    rintro e w1 ⟨rfl, hb⟩
    have hB := hb
    clear hb
    go_wp2_with fail
    refine (at_is s a _ _ Y.out).mono ?_
    rintro e w2' ⟨rfl, rfl⟩
    go_wp2_with fail
    refine (at_is s b _ _ X.out).mono ?_
    rintro e w3' ⟨rfl, rfl⟩
    go_wp2_with fail
    refine (kind_is c _ _ K.out).mono ?_
    rintro e w4' ⟨rfl, rfl⟩
    go_wp2_with fail
    refine (may_is c a true _ M.out).mono ?_
    rintro e w5 ⟨rfl, hb⟩
    replace hB := hB.trans (hb.mono hB.size)
    clear hb
    go_wp2_with fail
    refine (put5_as s u a 46 _ (by decide) U.out).mono ?_
    rintro e w6 ⟨rfl, hb⟩
    replace hB := hB.trans (hb.mono hB.size)
    clear hb
    go_wp2_with fail
    refine (put5_as u v b c _ hc V.out).mono ?_
    rintro e w7 ⟨rfl, hb⟩
    replace hB := hB.trans (hb.mono hB.size)
    clear hb
    go_wp2_with fail
    refine (can_is5 v b a _ _ Z.out).mono ?_
    rintro e w8 ⟨rfl, hb⟩
    replace hB := hB.trans (hb.mono hB.size)
    clear hb
    go_wp2_with fail
    refine (live5_any _).mono ?_
    rintro e w9 ⟨rfl, hb⟩
    replace hB := hB.trans (hb.mono hB.size)
    clear hb
    go_wp2
    go_ret
    exact ⟨rfl, hB⟩
theorem walk (s : ByteArray) (a b : Int) (w : World) : Calls Try.prog 5 #[.string s, .int .i64 a, .int .i64 b] w (Gives w (.bool true)) := by
  by_cases hs : 200 < s.size
  · exact large s a b w hs
  have hs2 : s.size ≤ 200 := by omega
  cases hc : canI s a b
  · exact cannot s a b w hs2 hc
  have hall : isB s = true ∧ sqI a = true ∧ sqI b = true := by
    unfold canI at hc
    simp only [Bool.and_eq_true] at hc
    exact ⟨hc.1.1.1, hc.1.1.2, hc.1.2⟩
  obtain ⟨hi, ha, hb⟩ := hall
  obtain ⟨a0, a1⟩ := sqI_in ha
  obtain ⟨b0, b1⟩ := sqI_in hb
  obtain ⟨m, rfl⟩ : ∃ m : Nat, a = m := ⟨a.toNat, by omega⟩
  obtain ⟨n, rfl⟩ : ∃ n : Nat, b = n := ⟨b.toNat, by omega⟩
  have hm : m < 90 := by omega
  have hn : n < 90 := by omega
  have hcb : canB s m n = true := by
    unfold canI at hc
    simp only [Bool.and_eq_true] at hc
    exact hc.2
  have hya : atB s (m : Int) = bAt s m := by unfold atB; rw [if_pos ⟨hi, ha⟩]; rfl
  have hxb : atB s (n : Int) = bAt s n := by unfold atB; rw [if_pos ⟨hi, hb⟩]; rfl
  by_cases hl : kindN (bAt s m) = 78 ∨ kindN (bAt s m) = 80 ∨ (kindN (bAt s m) = 67 ∧ bAt s n ≠ 46)
  · refine leaves s m n (bAt s m) (bAt s n) (kindN (bAt s m)) w hs2 hc hya hxb rfl ?_
    rcases hl with e | e | ⟨e, e2⟩
    · exact .inl (by rw [e]; rfl)
    · exact .inr (.inl (by rw [e]; exact ⟨rfl, rfl⟩))
    · exact .inr (.inr (by rw [e]; exact ⟨rfl, rfl, rfl, by rw [bne_iff_ne]; omega⟩))
  have h78 : kindN (bAt s m) ≠ 78 := fun e => hl (.inl e)
  have h80 : kindN (bAt s m) ≠ 80 := fun e => hl (.inr (.inl e))
  have h67 : kindN (bAt s m) = 67 → bAt s n = 46 := fun e => Classical.byContradiction fun e2 => hl (.inr (.inr ⟨e, e2⟩))
  have q1 : ((kindN (bAt s m) : Int) == 78) = false := by rw [beq_eq_false_iff_ne]; omega
  have q2 : ((kindN (bAt s m) : Int) == 80) = false := by rw [beq_eq_false_iff_ne]; omega
  have q3 : ((kindN (bAt s m) : Int) == 67) = false ∨ (((kindN (bAt s m) : Int) == 67) = true ∧ ((bAt s n : Int) != 46) = false) := by
    by_cases e : kindN (bAt s m) = 67
    · exact .inr ⟨by rw [e]; rfl, by rw [h67 e]; rfl⟩
    · exact .inl (by rw [beq_eq_false_iff_ne]; omega)
  cases hmay : mayB (bAt s m) (m : Int)
  · exact mayNot s m n _ _ _ w hs2 hc hya hxb rfl q1 q2 q3 hmay
  · have hlt := bAt_lt s m
    have hf := isB_fill hi m hm
    have hu : putB s (m : Int) 46 = putS s m 46 := by unfold putB; rw [if_pos ⟨hi, ha, by decide⟩]; rfl
    have hi2 := put_is_board hi m 46 (by decide) (by decide)
    have hv : putB (putS s m 46) (n : Int) (bAt s m) = movedS s m n (bAt s m) := by unfold putB; rw [if_pos ⟨hi2, hb, hf⟩]; rfl
    refine may s m n _ _ _ w hs2 hc hya hxb rfl q1 q2 q3 hmay _ _ hlt hu hv ?_
    show _ = _
    unfold canI
    rw [moved_board hi hlt hf, ha, hb]
    exact can_back hi hm hn hcb h78 h80 h67 hmay
end Go.Proofs.Ytdpalfifckjhgaa.rback
