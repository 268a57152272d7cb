/- Of a right position the side whose move it is could make just what it may make: the call answers true. -/
import Derived.Test.YtnpenlmlggpemaaGreatDoorLawGuardTells
import Derived.Test.YtnpenlmlggpemaaGreatDoorGuardH
namespace Go.Proofs.YtnpenlmlggpemaaGreatDoor.gmoves
open Go.RowKit Go.Shelf
open M (S)
open gtells (takes_m same_hid)

/-- What a round keeps: the position's cells, the move's. -/
def PM (w : World) (s : ByteArray) (y z u a b : Int) (W : World) : Prop := W.cell? ⟨w.heap.size, 0, none⟩ = some (.string s) ∧ W.cell? ⟨w.heap.size, 1, none⟩ = some (.int .i64 y) ∧ W.cell? ⟨w.heap.size, 2, none⟩ = some (.int .i64 z) ∧ W.cell? ⟨w.heap.size, 3, none⟩ = some (.int .i64 u) ∧ W.cell? ⟨w.heap.size + 1, 0, none⟩ = some (.int .i64 a) ∧ W.cell? ⟨w.heap.size + 1, 1, none⟩ = some (.int .i64 b) ∧ Tab W ∧ Below w.heap.size w W
theorem PM.next {w : World} {s : ByteArray} {y z u a b : Int} {W W' : World} (h : PM w s y z u a b W) (hb : Below W.heap.size W W') : PM w s y z u a b W' := by
  obtain ⟨h0, h1, h2, h3, h4, h5, h6, h7⟩ := h
  exact ⟨(hb.cell (p := ⟨w.heap.size, 0, none⟩) (cell_lt h0)).trans h0, (hb.cell (p := ⟨w.heap.size, 1, none⟩) (cell_lt h1)).trans h1, (hb.cell (p := ⟨w.heap.size, 2, none⟩) (cell_lt h2)).trans h2, (hb.cell (p := ⟨w.heap.size, 3, none⟩) (cell_lt h3)).trans h3, (hb.cell (p := ⟨w.heap.size + 1, 0, none⟩) (cell_lt h4)).trans h4, (hb.cell (p := ⟨w.heap.size + 1, 1, none⟩) (cell_lt h5)).trans h5, h6.next hb, h7.trans (hb.mono h7.size)⟩
theorem PM.start (w : World) (s : ByteArray) (y z u a b : Int) (hT : Tab w) : PM w s y z u a b ((w.alloc (.cells #[.string s, .int .i64 y, .int .i64 z, .int .i64 u] 31)).alloc (.cells #[.int .i64 a, .int .i64 b] 23)) := by
  obtain ⟨W0, hW0⟩ : ∃ W0, (w.alloc (.cells #[.string s, .int .i64 y, .int .i64 z, .int .i64 u] 31)).alloc (.cells #[.int .i64 a, .int .i64 b] 23) = W0 := ⟨_, rfl⟩
  have hB : Below w.heap.size w W0 := by rw [← hW0]; exact (by repeat (first | exact Below.refl _ _ | (refine Below.setCell ?_ (by first | omega | (simp; done) | (simp; omega) | (simp at *; omega)) _) | (refine Below.alloc ?_ (by first | omega | (simp; done) | (simp; omega) | (simp at *; omega)) _) | refine Below.drew ?_ | (refine below_drewN ?_ _) | (refine Below.trans ?_ (Below.mono (by assumption) (by first | omega | (simp; done) | (simp; omega) | (simp at *; omega))))))
  have bP : Blk W0 w.heap.size 31 #[.string s, .int .i64 y, .int .i64 z, .int .i64 u] := by rw [← hW0]; exact (Blk.new _ _ _ rfl).alloc _
  have bM : Blk W0 (w.heap.size + 1) 23 #[.int .i64 a, .int .i64 b] := by rw [← hW0]; exact Blk.new _ _ _ (by simp)
  rw [hW0]
  exact ⟨bP.cell 0, bP.cell 1, bP.cell 2, bP.cell 3, bM.cell 0, bM.cell 1, hT.below hB hT.lt, hB⟩
abbrev GS (w w1 : World) (s : ByteArray) (y z u a b : Int) (g1 i0 i1 : Nat) (i j : Nat) (W : World) : Prop := W.cell? ⟨w.heap.size, 0, none⟩ = some (.string s) ∧ W.cell? ⟨w.heap.size, 1, none⟩ = some (.int .i64 y) ∧ W.cell? ⟨g1, i0, none⟩ = some (.int .i64 (i : Int)) ∧ W.cell? ⟨g1, i1, none⟩ = some (.int .i64 (j : Int)) ∧ Hid (PM w s y z u a b W) ∧ Below w1.heap.size w1 W
theorem gm_keep {w w1 : World} {s : ByteArray} {y z u a b : Int} {g1 i0 i1 i j : Nat} {W W' : World} (h : GS w w1 s y z u a b g1 i0 i1 i j W) (hb : Below W.heap.size W W') : GS w w1 s y z u a b g1 i0 i1 i j W' := by
  obtain ⟨h0, h1, h2, h3, h4, h5⟩ := h
  exact ⟨(hb.cell (p := ⟨w.heap.size, 0, none⟩) (cell_lt h0)).trans h0, (hb.cell (p := ⟨w.heap.size, 1, none⟩) (cell_lt h1)).trans h1, (hb.cell (p := ⟨g1, i0, none⟩) (cell_lt h2)).trans h2, (hb.cell (p := ⟨g1, i1, none⟩) (cell_lt h3)).trans h3, Lib.hid (h4.out.next hb), h5.trans (hb.mono h5.size)⟩
theorem gm_tab {w w1 : World} {s : ByteArray} {y z u a b : Int} {g1 i0 i1 i j : Nat} {W : World} (h : GS w w1 s y z u a b g1 i0 i1 i j W) : Tab W := h.2.2.2.2.1.out.2.2.2.2.2.2.1
theorem gm_pm {w w1 : World} {s : ByteArray} {y z u a b : Int} {g1 i0 i1 i j : Nat} {W : World} (h : GS w w1 s y z u a b g1 i0 i1 i j W) : Hid (PM w s y z u a b W) := h.2.2.2.2.1
theorem gm_below {w w1 : World} {s : ByteArray} {y z u a b : Int} {g1 i0 i1 i j : Nat} {W : World} (h : GS w w1 s y z u a b g1 i0 i1 i j W) : Below w1.heap.size w1 W := h.2.2.2.2.2
theorem gm_tab2 {w : World} {s : ByteArray} {y z u a b : Int} {W : World} (h : PM w s y z u a b W) : Tab W := h.2.2.2.2.2.2.1
theorem gm_below2 {w : World} {s : ByteArray} {y z u a b : Int} {W : World} (h : PM w s y z u a b W) : Below w.heap.size w W := h.2.2.2.2.2.2.2
set_option maxRecDepth 100000 in
set_option maxHeartbeats 8000000 in
theorem large (s : ByteArray) (y z u a b : Int) (w : World) (hT : Tab w) (hs : 200 < s.size) : Calls Tryz.prog 4 #[.agg #[.string s, .int .i64 y, .int .i64 z, .int .i64 u], .agg #[.int .i64 a, .int .i64 b]] w (Gives w (.bool true)) := by
  unfold Gives
  have hd : decide (200 < (s.size : Int)) = true := by simp; omega
  have hP := Lib.hid (PM.start w s y z u a b hT)
  clear hs
  go_enter Tryz.func4, Tryz.ntmps4
  go_wp2_with fail
  refine (live15_any _ hP.out.2.2.2.2.2.2.1).mono ?_
  rintro e w9 ⟨rfl, hb⟩
  have hB := (hP.out.next hb).2.2.2.2.2.2.2
  go_wp2
  go_ret
  exact ⟨rfl, hB⟩
set_option maxRecDepth 100000 in
set_option maxHeartbeats 8000000 in
theorem none_ (s : ByteArray) (y z u a b : Int) (w : World) (hT : Tab w) (hs : s.size ≤ 200) (hn : legalV s y z u = []) : Calls Tryz.prog 4 #[.agg #[.string s, .int .i64 y, .int .i64 z, .int .i64 u], .agg #[.int .i64 a, .int .i64 b]] w (Gives w (.bool true)) := by
  unfold Gives
  have hd : decide (200 < (s.size : Int)) = false := by simp; omega
  have hP0 := PM.start w s y z u a b hT
  have HL := Lib.hid hn
  clear hs hn
  obtain ⟨W0, hW0⟩ : ∃ W0, (w.alloc (.cells #[.string s, .int .i64 y, .int .i64 z, .int .i64 u] 31)).alloc (.cells #[.int .i64 a, .int .i64 b] 23) = W0 := ⟨_, rfl⟩
  rw [hW0] at hP0
  have HW := Lib.hid hW0
  have hP := Lib.hid hP0
  clear hW0 hP0
  go_enter Tryz.func4, Tryz.ntmps4
  go_wp2_with fail
  rw [HW.out]
  refine (rlmoves_is s y z u [] 0 _ HL.out rfl).mono ?_
  rintro e w1 ⟨A, c, rfl, hr, hb⟩
  have hP1 := Lib.hid (hP.out.next hb)
  clear hb hr
  go_wp2_with fail
  refine (live15_any _ hP1.out.2.2.2.2.2.2.1).mono ?_
  rintro e w9 ⟨rfl, hb⟩
  have hB := (hP1.out.next hb).2.2.2.2.2.2.2
  go_wp2
  go_ret
  exact ⟨rfl, hB⟩
set_option maxRecDepth 100000 in
set_option maxHeartbeats 8000000 in
theorem some_ (s : ByteArray) (y z u a b : Int) (n : Nat) (w : World) (hT : Tab w) (hs : s.size ≤ 200) (hw : wellN s y z u = 0) (hn : (legalV s y z u).length = n) (hn0 : 0 < n) : Calls Tryz.prog 4 #[.agg #[.string s, .int .i64 y, .int .i64 z, .int .i64 u], .agg #[.int .i64 a, .int .i64 b]] w (Gives w (.bool true)) := by
  unfold Gives
  have hd : decide (200 < (s.size : Int)) = false := by simp; omega
  have hP0 := PM.start w s y z u a b hT
  obtain ⟨L, hL⟩ : ∃ L, legalV s y z u = L := ⟨_, rfl⟩
  rw [hL] at hn
  have hn81 : n ≤ 8100 := by rw [← hn, ← hL]; exact legalV_len s y z u
  obtain ⟨C, hC⟩ : ∃ C, legalC s y z u = C := ⟨_, rfl⟩
  obtain ⟨q, hq⟩ : ∃ q, C.length = q := ⟨_, rfl⟩
  have hq81 : q ≤ 8100 := by
    have h1 : (legalC s y z u).length ≤ (legalV s y z u).length := List.length_filter_le _ _
    rw [hC, hq, hL, hn] at h1
    omega
  have hTC : takesG s y = C := by rw [takes_caps hw, hC]
  have HEACH : Hid (∀ k (hk : k < L.length), couldI s y (L[k].1 : Int) (L[k].2 : Int) = true) := fun k hk => could_each hw (by
    rw [hL]
    exact List.getElem_mem hk)
  obtain ⟨x, hx⟩ : ∃ x, couldI s y a b = x := ⟨_, rfl⟩
  have HX := Lib.hid hx
  have HH : Hid (hasI L a b = x) := by
    show _ = _
    rw [← hx, could_has hw, hL]
  have HL := Lib.hid hL
  have HN := Lib.hid hn
  have HC := Lib.hid hC
  have HQ := Lib.hid hq
  have HTC := Lib.hid hTC
  have HCQ : Hid (C.length = q ∧ q ≤ 1000000) := ⟨hq, by omega⟩
  have e1 : (x == x) = true := by cases x <;> rfl
  clear hs hn hL hC hq hTC hx hw
  obtain ⟨W0, hW0⟩ : ∃ W0, (w.alloc (.cells #[.string s, .int .i64 y, .int .i64 z, .int .i64 u] 31)).alloc (.cells #[.int .i64 a, .int .i64 b] 23) = W0 := ⟨_, rfl⟩
  rw [hW0] at hP0
  have HW := Lib.hid hW0
  have hP := Lib.hid hP0
  clear hW0 hP0
  have n0 : ((n : Int) == 0) = false := by rw [beq_eq_false_iff_ne]; omega
  go_enter Tryz.func4, Tryz.ntmps4
  go_wp2_with fail
  rw [HW.out]
  refine (rlmoves_is s y z u L n _ HL.out HN.out).mono ?_
  rintro e w1 ⟨A, c, rfl, hr, hb⟩
  have hP1 := Lib.hid (hP.out.next hb)
  clear hb
  go_wp2_with fail
  go_loopw [6] (fun i wr => ∃ k : Nat, k ≤ n ∧ i = .int .i64 k ∧ Hid (PM w s y z u a b wr) ∧ Below w1.heap.size w1 wr) (fun i _ => n - (intOf i).toNat)
  case atStart => exact ⟨0, Nat.zero_le _, rfl, hP1, Below.refl _ _⟩
  case round =>
    obtain ⟨k, hk, rfl, hPk, hB⟩ := hrel
    by_cases hlt : k < n
    · have hkl : k < L.length := by rw [HN.out]; exact hlt
      obtain ⟨g1, o1, rfl, d0, d1⟩ := hr.move hkl
      have hc := HEACH.out k hkl
      obtain ⟨⟨i, j⟩, huv⟩ : ∃ x, L[k] = x := ⟨_, rfl⟩
      rw [huv] at d0 d1 hc
      have HCK := Lib.hid hc
      have f0 := (hB.cell (p := ⟨g1, o1 + k * 2, none⟩) (cell_lt d0)).trans d0
      have f1 := (hB.cell (p := ⟨g1, o1 + k * 2 + 1, none⟩) (cell_lt d1)).trans d1
      have b1 : (k : Int) < (n : Int) := by omega
      have hS : wr.drew.cell? ⟨w.heap.size, 0, none⟩ = some (.string s) ∧ wr.drew.cell? ⟨w.heap.size, 1, none⟩ = some (.int .i64 y) ∧ wr.drew.cell? ⟨g1, o1 + k * 2, none⟩ = some (.int .i64 (i : Int)) ∧ wr.drew.cell? ⟨g1, o1 + k * 2 + 1, none⟩ = some (.int .i64 (j : Int)) ∧ Hid (PM w s y z u a b wr.drew) ∧ Below w1.heap.size w1 wr.drew := ⟨hPk.out.1, hPk.out.2.1, f0, f1, Lib.hid (hPk.out.next (Below.refl _ _).drew), hB.drew⟩
      clear huv hc d0 d1
      go_wp2_with fail
      go_region_held3 (fun W => W.cell? ⟨w.heap.size, 0, none⟩ = some (.string s) ∧ W.cell? ⟨w.heap.size, 1, none⟩ = some (.int .i64 y) ∧ W.cell? ⟨g1, o1 + k * 2, none⟩ = some (.int .i64 (i : Int)) ∧ W.cell? ⟨g1, o1 + k * 2 + 1, none⟩ = some (.int .i64 (j : Int)) ∧ Hid (PM w s y z u a b W) ∧ Below w1.heap.size w1 W)
        (first | exact hS | exact gm_keep (by assumption) hb)
        (first | (go_at_call 15; refine (gcan_is s y i j true _ ?_ HCK.out).mono ?_; (exact gm_tab (by assumption)); rintro e w2 ⟨rfl, hb⟩))
      all_goals
        go_wp2
        go_roundw
        case rel => exact ⟨k + 1, by omega, by go_num, gm_pm (by assumption), gm_below (by assumption)⟩
        case measure => simp [intOf]; omega
    · obtain rfl : k = n := by omega
      have hr2 := hr.next hB
      have rd : Rd wr.drew A (mvs L) := hr2.next (Below.refl _ _).drew
      have hS : wr.drew.cell? ⟨w.heap.size, 0, none⟩ = some (.string s) ∧ wr.drew.cell? ⟨w.heap.size, 1, none⟩ = some (.int .i64 y) ∧ wr.drew.cell? ⟨w.heap.size, 2, none⟩ = some (.int .i64 z) ∧ wr.drew.cell? ⟨w.heap.size, 3, none⟩ = some (.int .i64 u) ∧ wr.drew.cell? ⟨w.heap.size + 1, 0, none⟩ = some (.int .i64 a) ∧ wr.drew.cell? ⟨w.heap.size + 1, 1, none⟩ = some (.int .i64 b) ∧ Tab wr.drew ∧ Below w.heap.size w wr.drew := hPk.out.next (Below.refl _ _).drew
      clear hr hr2 hB hPk
      go_wp2_with fail
      go_region_held3 (fun W => W.cell? ⟨w.heap.size, 0, none⟩ = some (.string s) ∧ W.cell? ⟨w.heap.size, 1, none⟩ = some (.int .i64 y) ∧ W.cell? ⟨w.heap.size, 2, none⟩ = some (.int .i64 z) ∧ W.cell? ⟨w.heap.size, 3, none⟩ = some (.int .i64 u) ∧ W.cell? ⟨w.heap.size + 1, 0, none⟩ = some (.int .i64 a) ∧ W.cell? ⟨w.heap.size + 1, 1, none⟩ = some (.int .i64 b) ∧ Tab W ∧ Below w.heap.size w W)
        (first | exact hS | exact PM.next (by assumption) hb)
        (first
          | (go_at_call 15; refine (gcan_is s y a b x _ ?_ HX.out).mono ?_; (exact gm_tab2 (by assumption)); rintro e w2 ⟨rfl, hb⟩; replace rd := rd.next hb)
          | (go_at_call 20; refine (hasI_is A L k _ a b x _ rd HN.out (by omega) HH.out).mono ?_; rintro e w3 ⟨rfl, hb⟩)
          | (go_at_call 13; refine (takes_m s y C q _ ?_ HTC.out HQ.out).mono ?_; (exact gm_tab2 (by assumption)); rintro e w4 ⟨A1, k1, rfl, rd1, hb⟩)
          | (go_at_call 21; refine (rlcaps_is s y z u L C q k _ HL.out HN.out HC.out HQ.out).mono ?_; rintro e w5 ⟨A2, k2, rfl, rd2, hb⟩; replace rd1 := rd1.next hb)
          | (go_at_call 12; refine (same_hid _ _ C q _ _ _ (by assumption) (by assumption) HCQ).mono ?_; rintro e w6 ⟨rfl, hb⟩)
          | (go_at_call 11; refine (live15_any _ ?_).mono ?_; (exact gm_tab2 (by assumption)); rintro e w7 ⟨rfl, hb⟩))
      all_goals
        go_wp2
        go_ret
        exact ⟨rfl, gm_below2 (by assumption)⟩
theorem walk (s : ByteArray) (y z u a b : Int) (w : World) (hT : Tab w) : Calls Tryz.prog 4 #[.agg #[.string s, .int .i64 y, .int .i64 z, .int .i64 u], .agg #[.int .i64 a, .int .i64 b]] w (Gives w (.bool true)) := by
  by_cases hs : s.size ≤ 200
  · by_cases hn : legalV s y z u = []
    · exact none_ s y z u a b w hT hs hn
    · refine some_ s y z u a b _ w hT hs ?_ rfl (List.length_pos_iff.2 hn)
      by_cases hw : wellN s y z u = 0
      · exact hw
      · exact absurd (by rw [legal_same, if_neg hw]) hn
  · exact large s y z u a b w hT (by omega)
end Go.Proofs.YtnpenlmlggpemaaGreatDoor.gmoves
