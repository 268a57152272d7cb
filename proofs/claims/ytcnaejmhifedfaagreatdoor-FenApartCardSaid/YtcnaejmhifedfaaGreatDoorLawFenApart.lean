/- Positions that are right, and not the same, have unlike texts: the call answers true. -/
import Derived.Test.YtcnaejmhifedfaaGreatDoorFenL
import Derived.Test.YtcnaejmhifedfaaGreatDoorFenG
namespace Go.Proofs.YtcnaejmhifedfaaGreatDoor.apart
open Go.RowKit Go.Shelf
open M (S)

set_option maxHeartbeats 4000000 in
theorem large1 (s t : ByteArray) (a b c x y z : Int) (w : World) (hE : Env w) (hs : 200 < s.size) : Calls Tryz.prog 9 #[.agg #[.string s, .int .i64 a, .int .i64 b, .int .i64 c], .agg #[.string t, .int .i64 x, .int .i64 y, .int .i64 z]] w (Gives w (.bool true)) := by
  unfold Gives
  have hA : Below w.heap.size w ((w.alloc (.cells #[.string s, .int .i64 a, .int .i64 b, .int .i64 c] 24)).alloc (.cells #[.string t, .int .i64 x, .int .i64 y, .int .i64 z] 24)) := (by repeat (first | exact Below.refl _ _ | (refine Below.setCell ?_ (by first | omega | (simp; done) | (simp; omega) | (simp at *; omega)) _) | (refine Below.alloc ?_ (by first | omega | (simp; done) | (simp; omega) | (simp at *; omega)) _) | refine Below.drew ?_ | (refine below_drewN ?_ _) | (refine Below.trans ?_ (Below.mono (by assumption) (by first | omega | (simp; done) | (simp; omega) | (simp at *; omega))))))
  have HA := Lib.hid hA
  clear hA
  have hd : decide (200 < (s.size : Int)) = true := by simp; omega
  go_enter Tryz.func9, Tryz.ntmps9
  go_wp2_with fail
  refine (live4_any _ (hE.next HA.out)).mono ?_
  rintro e w1 ⟨rfl, hb⟩
  go_wp2
  go_ret
  exact ⟨rfl, HA.out.trans (hb.mono HA.out.size)⟩
set_option maxHeartbeats 4000000 in
theorem large2 (s t : ByteArray) (a b c x y z : Int) (w : World) (hE : Env w) (hs : s.size ≤ 200) (ht : 200 < t.size) : Calls Tryz.prog 9 #[.agg #[.string s, .int .i64 a, .int .i64 b, .int .i64 c], .agg #[.string t, .int .i64 x, .int .i64 y, .int .i64 z]] w (Gives w (.bool true)) := by
  unfold Gives
  have hA : Below w.heap.size w ((w.alloc (.cells #[.string s, .int .i64 a, .int .i64 b, .int .i64 c] 24)).alloc (.cells #[.string t, .int .i64 x, .int .i64 y, .int .i64 z] 24)) := (by repeat (first | exact Below.refl _ _ | (refine Below.setCell ?_ (by first | omega | (simp; done) | (simp; omega) | (simp at *; omega)) _) | (refine Below.alloc ?_ (by first | omega | (simp; done) | (simp; omega) | (simp at *; omega)) _) | refine Below.drew ?_ | (refine below_drewN ?_ _) | (refine Below.trans ?_ (Below.mono (by assumption) (by first | omega | (simp; done) | (simp; omega) | (simp at *; omega))))))
  have HA := Lib.hid hA
  clear hA
  have hd : decide (200 < (s.size : Int)) = false := by simp; omega
  have hd2 : decide (200 < (t.size : Int)) = true := by simp; omega
  go_enter Tryz.func9, Tryz.ntmps9
  go_wp2_with fail
  refine (live4_any _ (hE.next HA.out)).mono ?_
  rintro e w1 ⟨rfl, hb⟩
  go_wp2
  go_ret
  exact ⟨rfl, HA.out.trans (hb.mono HA.out.size)⟩
theorem two_pos {w W : World} {t t' : TypeId} {cs cs' : Array Value} (hb : Below ((w.alloc (.cells cs' t')).alloc (.cells cs t)).heap.size ((w.alloc (.cells cs' t')).alloc (.cells cs t)) W) : Blk W (w.heap.size + 1) t cs ∧ Blk W w.heap.size t' cs' ∧ Below w.heap.size w W := two_zero hb
theorem print_formA (s : ByteArray) (side clock full : Int) : ∃ (T : ByteArray) (k : Int), printV s side clock full = .tuple #[.string T, .int .i64 k] ∧ (checkN s side clock full : Int) = k ∧ ((checkN s side clock full : Int) = 0 → T = bs (F.printL (posP s side clock full))) := by
  unfold printV
  by_cases h : (checkN s side clock full : Int) = 0
  · rw [if_pos h]
    exact ⟨_, _, rfl, h, fun _ => rfl⟩
  · rw [if_neg h]
    exact ⟨_, _, rfl, rfl, fun h' => absurd h' h⟩
set_option maxRecDepth 100000 in
set_option maxHeartbeats 8000000 in
theorem small (s t : ByteArray) (a b c x y z : Int) (X Y : ByteArray) (k m : Int) (w : World) (hE : Env w) (hs : s.size ≤ 200) (ht : t.size ≤ 200) (P : Hid (printV s a b c = .tuple #[.string X, .int .i64 k])) (Q : Hid (printV t x y z = .tuple #[.string Y, .int .i64 m])) (hcase : (k != 0) = true ∨ ((k != 0) = false ∧ (m != 0) = true) ∨ ((k != 0) = false ∧ (m != 0) = false ∧ ((X.toList == Y.toList) = true ∧ s = t ∧ a = x ∧ b = y ∧ c = z)) ∨ ((k != 0) = false ∧ (m != 0) = false ∧ ((X.toList == Y.toList) = false ∧ ((s.toList == t.toList) = false ∨ ((s.toList == t.toList) = true ∧ (a == x) = false) ∨ ((s.toList == t.toList) = true ∧ (a == x) = true ∧ (b == y) = false) ∨ ((s.toList == t.toList) = true ∧ (a == x) = true ∧ (b == y) = true ∧ (c == z) = false))))) : Calls Tryz.prog 9 #[.agg #[.string s, .int .i64 a, .int .i64 b, .int .i64 c], .agg #[.string t, .int .i64 x, .int .i64 y, .int .i64 z]] w (Gives w (.bool true)) := by
  unfold Gives
  have hA : Below w.heap.size w ((w.alloc (.cells #[.string s, .int .i64 a, .int .i64 b, .int .i64 c] 24)).alloc (.cells #[.string t, .int .i64 x, .int .i64 y, .int .i64 z] 24)) := (by repeat (first | exact Below.refl _ _ | (refine Below.setCell ?_ (by first | omega | (simp; done) | (simp; omega) | (simp at *; omega)) _) | (refine Below.alloc ?_ (by first | omega | (simp; done) | (simp; omega) | (simp at *; omega)) _) | refine Below.drew ?_ | (refine below_drewN ?_ _) | (refine Below.trans ?_ (Below.mono (by assumption) (by first | omega | (simp; done) | (simp; omega) | (simp at *; omega))))))
  have HA := Lib.hid hA
  clear hA
  have hd : decide (200 < (s.size : Int)) = false := by simp; omega
  have hd2 : decide (200 < (t.size : Int)) = false := by simp; omega
  rcases hcase with h | ⟨h, h2⟩ | ⟨h, h2, hxy, rfl, rfl, rfl, rfl⟩ | ⟨h, h2, hxy, hst | ⟨hst, hst2⟩ | ⟨hst, hst2, hst3⟩ | ⟨hst, hst2, hst3, hst4⟩⟩
  all_goals
    go_enter Tryz.func9, Tryz.ntmps9
    go_wp2_with fail
    refine (print_is s a b c _ _ (hE.next HA.out) P.out).mono ?_
    rintro e w1 ⟨rfl, hb⟩
    obtain ⟨bQ, bP, hB⟩ := two_pos hb
    replace hE := (hE.next HA.out).next hb
    clear hb
    obtain ⟨q0, q1, q2, q3⟩ := pos_cells bQ
    go_wp2_with fail
    refine (print_is _ _ _ _ _ _ hE Q.out).mono ?_
    clear q0 q1 q2 q3
    rintro e w2 ⟨rfl, hb⟩
    replace bP := bP.next hb
    replace bQ := bQ.next hb
    replace hB := hB.trans (hb.mono hB.size)
    replace hE := hE.next hb
    clear hb
    obtain ⟨q0, q1, q2, q3⟩ := pos_cells bQ
    obtain ⟨p0, p1, p2, p3⟩ := pos_cells bP
    go_wp2_with fail
    refine (live4_any _ hE).mono ?_
    rintro e w9 ⟨rfl, hb⟩
    go_wp2
    go_ret
    exact ⟨rfl, hB.trans (hb.mono hB.size)⟩
theorem toList_iff (X Y : ByteArray) : (X.toList == Y.toList) = decide (X = Y) := by
  rw [ByteArray.toList_eq, ByteArray.toList_eq, Bool.eq_iff_iff, beq_iff_eq, decide_eq_true_iff]
  constructor
  · intro h
    rw [← bs_back X, ← bs_back Y, h]
  · intro h
    rw [h]
theorem walk (s t : ByteArray) (a b c x y z : Int) (w : World) (hE : Env w) : Calls Tryz.prog 9 #[.agg #[.string s, .int .i64 a, .int .i64 b, .int .i64 c], .agg #[.string t, .int .i64 x, .int .i64 y, .int .i64 z]] w (Gives w (.bool true)) := by
  by_cases hs : s.size ≤ 200
  · by_cases ht : t.size ≤ 200
    · obtain ⟨X, k, hP, hk, hX⟩ := print_formA s a b c
      obtain ⟨Y, m, hQ, hm, hY⟩ := print_formA t x y z
      refine small s t a b c x y z X Y k m w hE hs ht hP hQ ?_
      by_cases h1 : k = 0
      · subst h1
        by_cases h2 : m = 0
        · subst h2
          right; right
          by_cases he : X = Y
          · left
            refine ⟨rfl, rfl, by rw [toList_iff]; simpa using he, ?_⟩
            rw [hX hk, hY hm] at he
            have := congrArg (·.data.toList) he
            simp only [bs_data] at this
            exact print_same hk hm this
          · right
            refine ⟨rfl, rfl, by rw [toList_iff]; simpa using he, ?_⟩
            rw [toList_iff]
            by_cases e1 : s = t
            · by_cases e2 : a = x
              · by_cases e3 : b = y
                · by_cases e4 : c = z
                  · exfalso
                    subst e1 e2 e3 e4
                    exact he ((hX hk).trans (hY hm).symm)
                  · exact .inr (.inr (.inr ⟨by simpa using e1, by simpa using e2, by simpa using e3, by simpa using e4⟩))
                · exact .inr (.inr (.inl ⟨by simpa using e1, by simpa using e2, by simpa using e3⟩))
              · exact .inr (.inl ⟨by simpa using e1, by simpa using e2⟩)
            · exact .inl (by simpa using e1)
        · exact .inr (.inl ⟨rfl, by rw [bne_iff_ne]; exact h2⟩)
      · exact .inl (by rw [bne_iff_ne]; exact h1)
    · exact large2 s t a b c x y z w hE hs (by omega)
  · exact large1 s t a b c x y z w hE (by omega)
end Go.Proofs.YtcnaejmhifedfaaGreatDoor.apart
