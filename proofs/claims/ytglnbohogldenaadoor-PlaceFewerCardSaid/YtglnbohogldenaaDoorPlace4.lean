/- Where pieces may stand, for every byte and every number, whole; all such squares; how many there may be. -/
import Derived.Test.YtglnbohogldenaaDoorPlace3
namespace Go.Proofs.YtglnbohogldenaaDoor
open Go.RowKit Go.Shelf
open M (S)

theorem side_kind {c : Nat} (h : 0 ≤ sideN c) : kindN c = 75 ∨ kindN c = 65 ∨ kindN c = 66 ∨ kindN c = 78 ∨ kindN c = 82 ∨ kindN c = 67 ∨ kindN c = 80 := by
  rcases byte_cases c with ⟨kb, kr, _⟩ | rfl | rfl | rfl | rfl | rfl | rfl | rfl | rfl | rfl | rfl | rfl | rfl | rfl | rfl
  · have : sideN c = -1 := by simp [sideN, kb, kr]
    omega
  all_goals decide
theorem may_any (c : Nat) (n : Int) (w : World) : Calls Tryd.prog 9 #[.int .u8 (c : Int), .int .i64 n] w (Gives w (.bool (mayB c n))) := by
  cases h : realB n (sideN c)
  · rw [mayB, h]
    exact may_no c n w h
  · have hs : 0 ≤ sideN c := by
      rcases (real_parts h).2 with e | e <;> omega
    rw [mayB, h, Bool.true_and]
    rcases side_kind hs with hk | hk | hk | hk | hk | hk | hk
    · rw [hk]; exact may_75 c n _ _ _ w h rfl hk rfl rfl
    · rw [hk]; exact may_65 c n _ _ _ w h rfl hk rfl rfl
    · rw [hk]; exact may_66 c n _ _ _ w h rfl hk rfl rfl
    · rw [hk]; exact may_78 c n _ _ _ w h rfl hk rfl rfl
    · rw [hk]; exact may_82 c n _ _ _ w h rfl hk rfl rfl
    · rw [hk]; exact may_67 c n _ _ _ w h rfl hk rfl rfl
    · rw [hk]; exact may_80 c n _ _ _ w h rfl hk rfl rfl
theorem may_is (c : Nat) (n : Int) (b : Bool) (w : World) (h : mayB c n = b) : Calls Tryd.prog 9 #[.int .u8 (c : Int), .int .i64 n] w (Gives w (.bool b)) := by subst h; exact may_any c n w
set_option maxHeartbeats 1000000 in
theorem palace_any (n side : Int) (w : World) : Calls Tryd.prog 16 #[.int .i64 n, .int .i64 side] w (Gives w (.bool (palaceB n side))) := by
  cases h : realB n side
  · have K : Hid (palaceB n side = false) := by show _ = _; rw [palaceB, h]; rfl
    have H := Lib.hid h
    clear h
    rw [K.out]
    unfold Gives
    go_enter Tryd.func16, Tryd.ntmps16
    go_wp2_with fail
    refine (seen_no n side _ H.out).mono ?_
    rintro e w1 ⟨rfl, hb⟩
    have hz := hb.size
    go_wp2
    go_ret
    exact ⟨rfl, (by repeat (first | exact Below.refl _ _ | (refine Below.setCell ?_ (by first | omega | (simp; done) | (simp; omega) | (simp at *; omega)) _) | (refine Below.alloc ?_ (by first | omega | (simp; done) | (simp; omega) | (simp at *; omega)) _) | refine Below.drew ?_ | (refine below_drewN ?_ _) | (refine Below.trans ?_ (Below.mono (by assumption) (by first | omega | (simp; done) | (simp; omega) | (simp at *; omega))))))⟩
  · have K : Hid (palaceB n side = inP (seenF n side) (seenR n side)) := by show _ = _; rw [palaceB, h]; rfl
    have H := Lib.hid h
    clear h
    rw [K.out]
    unfold Gives
    go_enter Tryd.func16, Tryd.ntmps16
    go_wp2_with fail
    refine (seen_yes n side _ H.out).mono ?_
    rintro e w1 ⟨rfl, hb⟩
    have hz := hb.size
    go_wp2_with fail
    refine (inPalace_any _ _ _).mono ?_
    rintro e w2 ⟨rfl, hb2⟩
    go_wp2
    go_ret
    exact ⟨rfl, (hb.alloc hz _).trans (hb2.mono (by simp; omega))⟩
theorem palace_is (n side : Int) (b : Bool) (w : World) (h : palaceB n side = b) : Calls Tryd.prog 16 #[.int .i64 n, .int .i64 side] w (Gives w (.bool b)) := by subst h; exact palace_any n side w
set_option maxHeartbeats 1000000 in
theorem over_any (n side : Int) (w : World) : Calls Tryd.prog 18 #[.int .i64 n, .int .i64 side] w (Gives w (.bool (overB n side))) := by
  cases h : realB n side
  · have K : Hid (overB n side = false) := by show _ = _; rw [overB, h]; rfl
    have H := Lib.hid h
    clear h
    rw [K.out]
    unfold Gives
    go_enter Tryd.func18, Tryd.ntmps18
    go_wp2_with fail
    refine (seen_no n side _ H.out).mono ?_
    rintro e w1 ⟨rfl, hb⟩
    have hz := hb.size
    go_wp2
    go_ret
    exact ⟨rfl, (by repeat (first | exact Below.refl _ _ | (refine Below.setCell ?_ (by first | omega | (simp; done) | (simp; omega) | (simp at *; omega)) _) | (refine Below.alloc ?_ (by first | omega | (simp; done) | (simp; omega) | (simp at *; omega)) _) | refine Below.drew ?_ | (refine below_drewN ?_ _) | (refine Below.trans ?_ (Below.mono (by assumption) (by first | omega | (simp; done) | (simp; omega) | (simp at *; omega))))))⟩
  · have K : Hid (overB n side = decide (5 ≤ seenR n side)) := by show _ = _; rw [overB, h]; rfl
    have H := Lib.hid h
    clear h
    rw [K.out]
    unfold Gives
    go_enter Tryd.func18, Tryd.ntmps18
    go_wp2_with fail
    refine (seen_yes n side _ H.out).mono ?_
    rintro e w1 ⟨rfl, hb⟩
    have hz := hb.size
    go_wp2_with fail
    refine (isOver_any _ _ _).mono ?_
    rintro e w2 ⟨rfl, hb2⟩
    go_wp2
    go_ret
    exact ⟨rfl, (hb.alloc hz _).trans (hb2.mono (by simp; omega))⟩
theorem over_is (n side : Int) (b : Bool) (w : World) (h : overB n side = b) : Calls Tryd.prog 18 #[.int .i64 n, .int .i64 side] w (Gives w (.bool b)) := by subst h; exact over_any n side w
theorem most_cases (c : Nat) : kindN c = 0 ∨ kindN c = 75 ∨ kindN c = 80 ∨ (kindN c ≠ 0 ∧ kindN c ≠ 75 ∧ kindN c ≠ 80) := by omega
set_option maxHeartbeats 1000000 in
theorem most_any (c : Nat) (w : World) : Calls Tryd.prog 14 #[.int .u8 (c : Int)] w (Says w (.int .i64 (mostN c : Nat))) := by
  unfold Says
  rcases most_cases c with h | h | h | ⟨h0, h1, h2⟩
  · have K : Hid (mostN c = 0) := by show _ = _; rw [mostN, h]; rfl
    have H := Lib.hid h
    clear h
    go_enter Tryd.func14, Tryd.ntmps14
    go_wp2_with fail
    refine (kind_any c _).mono ?_
    rintro e w1 ⟨rfl, rfl⟩
    rw [H.out]
    go_wp2
    go_ret
    exact ⟨by rw [K.out]; rfl, rfl⟩
  · have K : Hid (mostN c = 1) := by show _ = _; rw [mostN, h]; rfl
    have H := Lib.hid h
    clear h
    go_enter Tryd.func14, Tryd.ntmps14
    go_wp2_with fail
    refine (kind_any c _).mono ?_
    rintro e w1 ⟨rfl, rfl⟩
    rw [H.out]
    go_wp2
    go_ret
    exact ⟨by rw [K.out]; rfl, rfl⟩
  · have K : Hid (mostN c = 5) := by show _ = _; rw [mostN, h]; rfl
    have H := Lib.hid h
    clear h
    go_enter Tryd.func14, Tryd.ntmps14
    go_wp2_with fail
    refine (kind_any c _).mono ?_
    rintro e w1 ⟨rfl, rfl⟩
    rw [H.out]
    go_wp2
    go_ret
    exact ⟨by rw [K.out]; rfl, rfl⟩
  · have K : Hid (mostN c = 2) := by show _ = _; rw [mostN, if_neg h0, if_neg h1, if_neg h2]
    have e0 : ((kindN c : Int) == 0) = false := by rw [beq_eq_false_iff_ne]; omega
    have e1 : ((kindN c : Int) == 75) = false := by rw [beq_eq_false_iff_ne]; omega
    have e2 : ((kindN c : Int) == 80) = false := by rw [beq_eq_false_iff_ne]; omega
    clear h0 h1 h2
    go_enter Tryd.func14, Tryd.ntmps14
    go_wp2_with fail
    refine (kind_any c _).mono ?_
    rintro e w1 ⟨rfl, rfl⟩
    go_wp2
    go_ret
    exact ⟨by rw [K.out]; rfl, rfl⟩
theorem most_is (c k : Nat) (w : World) (h : mostN c = k) : Calls Tryd.prog 14 #[.int .u8 (c : Int)] w (Says w (.int .i64 (k : Int))) := by subst h; exact most_any c w
/-- The squares on which a piece may stand. -/
def pointsL (c : Nat) : List Int := trues (fun k => mayB c k) 90
set_option maxRecDepth 100000 in
set_option maxHeartbeats 2000000 in
theorem points_any (c : Nat) (w : World) (hT : Tab w) : Calls Tryd.prog 12 #[.int .u8 (c : Int)] w (GivesL w (pointsL c)) := by
  unfold pointsL
  go_enter Tryd.func12, Tryd.ntmps12
  go_wp2_with fail
  obtain ⟨W0, hW0⟩ : ∃ W0, w.alloc (.cells #[.int .u64 0, .int .u64 0] 55) = W0 := ⟨_, rfl⟩
  have hb0 : Below w.heap.size w W0 := by rw [← hW0]; exact (by repeat (first | exact Below.refl _ _ | (refine Below.setCell ?_ (by first | omega | (simp; done) | (simp; omega) | (simp at *; omega)) _) | (refine Below.alloc ?_ (by first | omega | (simp; done) | (simp; omega) | (simp at *; omega)) _) | refine Below.drew ?_ | (refine below_drewN ?_ _) | (refine Below.trans ?_ (Below.mono (by assumption) (by first | omega | (simp; done) | (simp; omega) | (simp at *; omega))))))
  have bT : Blk W0 w.heap.size 55 (svc (setOf (fun k => mayB c k) 0)) := by rw [← hW0]; exact Blk.new _ _ _ rfl
  have hT0 := hT.next hb0
  have hT0g := hT.lt
  rw [hW0]
  clear hW0 hT
  go_loopw [4, 5] (fun _ i wr => ∃ k : Nat, k ≤ 90 ∧ i = .int .i64 k ∧ Blk wr w.heap.size 55 (svc (setOf (fun k => mayB c k) k)) ∧ Tab wr ∧ Below w.heap.size w wr) (fun _ i _ => 90 - (intOf i).toNat)
  case atStart => exact ⟨0, by omega, rfl, bT, hT0, hb0⟩
  case round =>
    obtain ⟨k, hk, rfl, bT, hT, hB⟩ := hrel
    by_cases hlt : k < 90
    · have hst := setOf_succ (fun k => mayB c k) k
      go_wp2_with fail
      refine (may_any c k _).mono ?_
      rintro e w1 ⟨rfl, hb1⟩
      have bT1 := bT.next hb1
      have hT1 := hT.next hb1
      have hB1 := hB.trans (hb1.mono hB.size)
      have t0 := bT1.cell 0
      have t1 := bT1.cell 1
      simp only [List.getElem?_toArray, List.getElem?_cons_zero, List.getElem?_cons_succ] at t0 t1
      cases hp : mayB c k
      · rw [hp, if_neg (by simp)] at hst
        have Hst := Lib.hid hst
        clear hst hp
        go_wp2_with fail
        go_roundw
        case rel => exact ⟨k + 1, by omega, by go_num, by rw [Hst.out]; exact bT1, hT1, hB1⟩
        case measure => simp [intOf]; omega
      · rw [hp, if_pos rfl] at hst
        have Hst := Lib.hid hst
        clear hst hp
        go_wp2_with fail
        refine (with_any (setOf (fun k => mayB c k) k) k _).mono ?_
        rintro e w2 ⟨rfl, hb2⟩
        have bT2 := bT1.next hb2
        have q0 := bT2.cell 0
        have q1 := bT2.cell 1
        have f0 := bT2.frozen 0
        have f1 := bT2.frozen 1
        simp only [List.getElem?_toArray, List.getElem?_cons_zero, List.getElem?_cons_succ] at q0 q1
        clear t0 t1
        go_wp2
        go_roundw
        case rel =>
          exact ⟨k + 1, by omega, by go_num, by rw [Hst.out]; exact blk_two bT2 _ _, (hT1.next hb2).below (((Below.refl w.heap.size w2).setCell (p := ⟨w.heap.size, 0, none⟩) (Nat.le_refl _) _).setCell (p := ⟨w.heap.size, 1, none⟩) (Nat.le_refl _) _) (Nat.lt_of_lt_of_le hT0g (Nat.le_refl _)), ((hB1.trans (hb2.mono hB1.size)).setCell (p := ⟨w.heap.size, 0, none⟩) (Nat.le_refl _) _).setCell (p := ⟨w.heap.size, 1, none⟩) (Nat.le_refl _) _⟩
        case measure => simp [intOf]; omega
    · obtain rfl : k = 90 := by omega
      have t0 := bT.cell 0
      have t1 := bT.cell 1
      simp only [List.getElem?_toArray, List.getElem?_cons_zero, List.getElem?_cons_succ] at t0 t1
      go_wp2_with fail
      refine (list_setOf _ _ hT).mono ?_
      rintro e w1 ⟨A, c1, rfl, hr, hb1⟩
      go_wp2
      go_ret
      exact ⟨A, c1, rfl, hr, hB.trans (hb1.mono hB.size)⟩
theorem points_is (c n : Nat) (l : List Int) (w : World) (hT : Tab w) (h : pointsL c = l) (hn : l.length = n) : Calls Tryd.prog 12 #[.int .u8 (c : Int)] w (GivesN w l n) := by subst h; subst hn; exact points_any c w hT
end Go.Proofs.YtglnbohogldenaaDoor
