/- What guard's Can answers. -/
import Derived.Test.YtnkbilikkbaeeaaGreatDoorGuardA
import Derived.Test.YtnkbilikkbaeeaaGreatDoorCheckM
import Derived.Test.YtnkbilikkbaeeaaGreatDoorRefP5
namespace Go.Proofs.YtnkbilikkbaeeaaGreatDoor
open Go.RowKit Go.Shelf
open M (S)

theorem gother_is (side k : Int) (w : World) (h0 : 0 ≤ side) (h1 : side ≤ 1) (hk : 1 - side = k) : Calls Tryz.prog 49 #[.int .i64 side] w (Says w (.int .i64 k)) := by
  unfold Says
  subst hk
  go_enter Tryz.func49, Tryz.ntmps49
  go_wp2
  go_ret
  exact ⟨by go_num, rfl⟩
theorem gother_some (side : Int) (w : World) : Calls Tryz.prog 49 #[.int .i64 side] w fun e w' => ∃ k, e = .returned (.int .i64 k) ∧ w = w' := by
  go_enter Tryz.func49, Tryz.ntmps49
  go_wp2
  go_ret
  exact ⟨_, rfl, rfl⟩
theorem gside_g (c : Nat) (k : Int) (w : World) (h : sideN c = k) : Calls Tryz.prog 20 #[.int .u8 (c : Int)] w (Gives w (.int .i64 k)) := (side_is c k w h).mono fun _ _ ⟨a, b⟩ => ⟨a, b ▸ Below.refl _ _⟩
theorem gkind_g (c k : Nat) (w : World) (h : kindN c = k) : Calls Tryz.prog 21 #[.int .u8 (c : Int)] w (Gives w (.int .u8 (k : Int))) := (kind_is c k w h).mono fun _ _ ⟨a, b⟩ => ⟨a, b ▸ Below.refl _ _⟩
theorem mv2_keep {w : World} {p0 p1 : Value} {g : Nat} {W W' : World} (hS : W.cell? ⟨g, 0, none⟩ = some p0 ∧ W.cell? ⟨g, 1, none⟩ = some p1 ∧ Below w.heap.size w W) (hb : Below W.heap.size W W') :
    W'.cell? ⟨g, 0, none⟩ = some p0 ∧ W'.cell? ⟨g, 1, none⟩ = some p1 ∧ Below w.heap.size w W' := by
  obtain ⟨h0, h1, h4⟩ := hS
  exact ⟨(hb.cell (p := ⟨g, 0, none⟩) (cell_lt h0)).trans h0, (hb.cell (p := ⟨g, 1, none⟩) (cell_lt h1)).trans h1, h4.trans (hb.mono h4.size)⟩
theorem behind_put {s : ByteArray} (hs : isB s = true) {a b : Nat} (ha : a < 90) (hb : b < 90) : putB (putB s (a : Int) 46) (b : Int) (bAt s a) = behindS s (a, b) := by
  have e1 : putB s (a : Int) 46 = putS s a 46 := by
    unfold putB
    rw [if_pos ⟨hs, sqI_true (by omega), by decide⟩, Int.toNat_natCast]
  rw [e1]
  unfold putB
  rw [if_pos ⟨put_is_board hs a 46 (by decide) (by decide), sqI_true (by omega), isB_fill hs a ha⟩, Int.toNat_natCast]
  rfl
set_option maxRecDepth 100000 in
set_option maxHeartbeats 4000000 in
theorem gmoved_is (s q : ByteArray) (a b : Nat) (w : World) (hs : isB s = true) (ha : a < 90) (hb : b < 90) (hq : behindS s (a, b) = q) : Calls Tryz.prog 125 #[.string s, .agg #[.int .i64 (a : Int), .int .i64 (b : Int)]] w (Gives w (.string q)) := by
  unfold Gives
  obtain ⟨W0, hW0⟩ : ∃ W0, w.alloc (.cells #[.int .i64 (a : Int), .int .i64 (b : Int)] 28) = W0 := ⟨_, rfl⟩
  have hB : Below w.heap.size w W0 := by rw [← hW0]; exact (by repeat (first | exact Below.refl _ _ | (refine Below.setCell ?_ (by first | omega | (simp; done) | (simp; omega) | (simp at *; omega)) _) | (refine Below.alloc ?_ (by first | omega | (simp; done) | (simp; omega) | (simp at *; omega)) _) | refine Below.drew ?_ | (refine below_drewN ?_ _) | (refine Below.trans ?_ (Below.mono (by assumption) (by first | omega | (simp; done) | (simp; omega) | (simp at *; omega))))))
  have bM : Blk W0 w.heap.size 28 #[.int .i64 (a : Int), .int .i64 (b : Int)] := by rw [← hW0]; exact Blk.new _ _ _ rfl
  have hS : W0.drew.cell? ⟨w.heap.size, 0, none⟩ = some (.int .i64 (a : Int)) ∧ W0.drew.cell? ⟨w.heap.size, 1, none⟩ = some (.int .i64 (b : Int)) ∧ Below w.heap.size w W0.drew := ⟨bM.cell 0, bM.cell 1, hB.drew⟩
  obtain ⟨c, hc⟩ : ∃ c, bAt s a = c := ⟨_, rfl⟩
  have hz := isB_size hs
  have has : a < s.size := by omega
  have hbk : s[a].toNat = c := (bAt_eq s a has).trans hc
  have hc8 : c < 256 := by rw [← hc]; exact bAt_lt s a
  obtain ⟨t, ht⟩ : ∃ t, putB s (a : Int) 46 = t := ⟨_, rfl⟩
  have hq2 : putB t (b : Int) c = q := by rw [← ht, ← hc, ← hq]; exact behind_put hs ha hb
  have HW := Lib.hid hW0
  have H1 := Lib.hid ht
  have H2 := Lib.hid hq2
  clear hW0 hB bM hs hc hz ht hq2 hq ha hb
  go_enter Tryz.func125, Tryz.ntmps125
  go_wp2_with fail
  rw [HW.out]
  go_region_held3 (fun W => W.cell? ⟨w.heap.size, 0, none⟩ = some (.int .i64 (a : Int)) ∧ W.cell? ⟨w.heap.size, 1, none⟩ = some (.int .i64 (b : Int)) ∧ Below w.heap.size w W)
    (first | exact hS | exact mv2_keep (by assumption) hb)
    (first | (go_at_call 105; refine (put_as _ _ _ _ _ (by first | decide | assumption) (by first | with_reducible exact H1.out | with_reducible exact H2.out)).mono ?_; rintro e w1 ⟨rfl, hb⟩))
  all_goals
    go_wp2
    go_ret
    exact ⟨rfl, (by assumption : _ ∧ _ ∧ Below w.heap.size w _).2.2⟩
set_option maxRecDepth 100000 in
set_option maxHeartbeats 4000000 in
theorem gcan_far (s : ByteArray) (side a b : Int) (w : World) (h : canI s a b = false) : Calls Tryz.prog 84 #[.string s, .int .i64 side, .agg #[.int .i64 a, .int .i64 b]] w (Gives w (.bool false)) := by
  unfold Gives
  obtain ⟨W0, hW0⟩ : ∃ W0, w.alloc (.cells #[.int .i64 a, .int .i64 b] 28) = W0 := ⟨_, rfl⟩
  have hB : Below w.heap.size w W0 := by rw [← hW0]; exact (by repeat (first | exact Below.refl _ _ | (refine Below.setCell ?_ (by first | omega | (simp; done) | (simp; omega) | (simp at *; omega)) _) | (refine Below.alloc ?_ (by first | omega | (simp; done) | (simp; omega) | (simp at *; omega)) _) | refine Below.drew ?_ | (refine below_drewN ?_ _) | (refine Below.trans ?_ (Below.mono (by assumption) (by first | omega | (simp; done) | (simp; omega) | (simp at *; omega))))))
  have bM : Blk W0 w.heap.size 28 #[.int .i64 a, .int .i64 b] := by rw [← hW0]; exact Blk.new _ _ _ rfl
  have hS : W0.cell? ⟨w.heap.size, 0, none⟩ = some (.int .i64 a) ∧ W0.cell? ⟨w.heap.size, 1, none⟩ = some (.int .i64 b) ∧ Below w.heap.size w W0 := ⟨bM.cell 0, bM.cell 1, hB⟩
  have HW := Lib.hid hW0
  have HC := Lib.hid h
  clear hW0 hB bM h
  go_enter Tryz.func84, Tryz.ntmps84
  go_wp2_with fail
  rw [HW.out]
  obtain ⟨m0, m1, hB⟩ := hS
  refine (can_is5 s a b _ _ HC.out).mono ?_
  rintro e w2 ⟨rfl, hb⟩
  obtain ⟨m0, m1, hB⟩ := mv2_keep ⟨m0, m1, hB⟩ hb
  clear hb
  go_wp2
  go_ret
  exact ⟨rfl, hB⟩
set_option maxRecDepth 100000 in
set_option maxHeartbeats 4000000 in
theorem gcan_side (s : ByteArray) (side y : Int) (a b c : Nat) (w : World) (h : canI s (a : Int) (b : Int) = true) (has : a < s.size) (hbk : s[a].toNat = c) (hy : sideN c = y) (hne : y ≠ side) : Calls Tryz.prog 84 #[.string s, .int .i64 side, .agg #[.int .i64 (a : Int), .int .i64 (b : Int)]] w (Gives w (.bool false)) := by
  unfold Gives
  obtain ⟨W0, hW0⟩ : ∃ W0, w.alloc (.cells #[.int .i64 (a : Int), .int .i64 (b : Int)] 28) = W0 := ⟨_, rfl⟩
  have hB : Below w.heap.size w W0 := by rw [← hW0]; exact (by repeat (first | exact Below.refl _ _ | (refine Below.setCell ?_ (by first | omega | (simp; done) | (simp; omega) | (simp at *; omega)) _) | (refine Below.alloc ?_ (by first | omega | (simp; done) | (simp; omega) | (simp at *; omega)) _) | refine Below.drew ?_ | (refine below_drewN ?_ _) | (refine Below.trans ?_ (Below.mono (by assumption) (by first | omega | (simp; done) | (simp; omega) | (simp at *; omega))))))
  have bM : Blk W0 w.heap.size 28 #[.int .i64 (a : Int), .int .i64 (b : Int)] := by rw [← hW0]; exact Blk.new _ _ _ rfl
  have hS : W0.cell? ⟨w.heap.size, 0, none⟩ = some (.int .i64 (a : Int)) ∧ W0.cell? ⟨w.heap.size, 1, none⟩ = some (.int .i64 (b : Int)) ∧ Below w.heap.size w W0 := ⟨bM.cell 0, bM.cell 1, hB⟩
  have n1 : (y != side) = true := by rw [bne_iff_ne]; exact hne
  have HW := Lib.hid hW0
  have HC := Lib.hid h
  have HY := Lib.hid hy
  clear hW0 hB bM h hy hne
  go_enter Tryz.func84, Tryz.ntmps84
  go_wp2_with fail
  rw [HW.out]
  obtain ⟨m0, m1, hB⟩ := hS
  refine (can_is5 s a b _ _ HC.out).mono ?_
  rintro e w2 ⟨rfl, hb⟩
  obtain ⟨m0, m1, hB⟩ := mv2_keep ⟨m0, m1, hB⟩ hb
  clear hb
  go_wp2_with fail
  refine (gside_g c y _ HY.out).mono ?_
  rintro e w3 ⟨rfl, hb⟩
  replace m0 := (hb.cell (p := ⟨w.heap.size, 0, none⟩) (cell_lt m0)).trans m0
  replace m1 := (hb.cell (p := ⟨w.heap.size, 1, none⟩) (cell_lt m1)).trans m1
  replace hB := hB.trans (hb.mono hB.size)
  clear hb
  go_wp2
  go_ret
  exact ⟨rfl, hB⟩
set_option maxRecDepth 100000 in
set_option maxHeartbeats 8000000 in
theorem gcan_king (s : ByteArray) (side : Int) (a b c d k : Nat) (w : World) (h : canI s (a : Int) (b : Int) = true) (has : a < s.size) (hbs : b < s.size) (hbk : s[a].toNat = c) (hbd : s[b].toNat = d) (hy : sideN c = side) (hkd : kindN d = k) (hk75 : k = 75) : Calls Tryz.prog 84 #[.string s, .int .i64 side, .agg #[.int .i64 (a : Int), .int .i64 (b : Int)]] w (Gives w (.bool false)) := by
  unfold Gives
  obtain ⟨W0, hW0⟩ : ∃ W0, w.alloc (.cells #[.int .i64 (a : Int), .int .i64 (b : Int)] 28) = W0 := ⟨_, rfl⟩
  have hB : Below w.heap.size w W0 := by rw [← hW0]; exact (by repeat (first | exact Below.refl _ _ | (refine Below.setCell ?_ (by first | omega | (simp; done) | (simp; omega) | (simp at *; omega)) _) | (refine Below.alloc ?_ (by first | omega | (simp; done) | (simp; omega) | (simp at *; omega)) _) | refine Below.drew ?_ | (refine below_drewN ?_ _) | (refine Below.trans ?_ (Below.mono (by assumption) (by first | omega | (simp; done) | (simp; omega) | (simp at *; omega))))))
  have bM : Blk W0 w.heap.size 28 #[.int .i64 (a : Int), .int .i64 (b : Int)] := by rw [← hW0]; exact Blk.new _ _ _ rfl
  have hS : W0.cell? ⟨w.heap.size, 0, none⟩ = some (.int .i64 (a : Int)) ∧ W0.cell? ⟨w.heap.size, 1, none⟩ = some (.int .i64 (b : Int)) ∧ Below w.heap.size w W0 := ⟨bM.cell 0, bM.cell 1, hB⟩
  have n1 : (side != side) = false := by simp
  have n2 : ((k : Int) == 75) = true := by rw [beq_iff_eq]; omega
  have HW := Lib.hid hW0
  have HC := Lib.hid h
  have HY := Lib.hid hy
  have HK := Lib.hid hkd
  clear hW0 hB bM h hy hkd hk75
  go_enter Tryz.func84, Tryz.ntmps84
  go_wp2_with fail
  rw [HW.out]
  obtain ⟨m0, m1, hB⟩ := hS
  refine (can_is5 s a b _ _ HC.out).mono ?_
  rintro e w2 ⟨rfl, hb⟩
  obtain ⟨m0, m1, hB⟩ := mv2_keep ⟨m0, m1, hB⟩ hb
  clear hb
  go_wp2_with fail
  refine (gside_g c side _ HY.out).mono ?_
  rintro e w3 ⟨rfl, hb⟩
  replace m0 := (hb.cell (p := ⟨w.heap.size, 0, none⟩) (cell_lt m0)).trans m0
  replace m1 := (hb.cell (p := ⟨w.heap.size, 1, none⟩) (cell_lt m1)).trans m1
  replace hB := hB.trans (hb.mono hB.size)
  clear hb
  go_wp2_with fail
  refine (gkind_g d k _ HK.out).mono ?_
  rintro e w4 ⟨rfl, hb⟩
  replace m0 := (hb.cell (p := ⟨w.heap.size, 0, none⟩) (cell_lt m0)).trans m0
  replace m1 := (hb.cell (p := ⟨w.heap.size, 1, none⟩) (cell_lt m1)).trans m1
  replace hB := hB.trans (hb.mono hB.size)
  clear hb
  go_wp2
  go_ret
  exact ⟨rfl, hB⟩
set_option maxRecDepth 100000 in
set_option maxHeartbeats 8000000 in
theorem gcan_goes (s q : ByteArray) (side : Int) (a b c d k : Nat) (f i : Bool) (w : World) (hT : Tab w) (h : canI s (a : Int) (b : Int) = true) (hs : isB s = true) (ha : a < 90) (hb9 : b < 90) (has : a < s.size) (hbs : b < s.size) (hbk : s[a].toNat = c) (hbd : s[b].toNat = d) (hy : sideN c = side) (hkd : kindN d = k) (hk75 : k ≠ 75) (hq : behindS s (a, b) = q) (hf : facingB q = f) (hi : inB q side = i) : Calls Tryz.prog 84 #[.string s, .int .i64 side, .agg #[.int .i64 (a : Int), .int .i64 (b : Int)]] w (Gives w (.bool (!f && !i))) := by
  unfold Gives
  obtain ⟨W0, hW0⟩ : ∃ W0, w.alloc (.cells #[.int .i64 (a : Int), .int .i64 (b : Int)] 28) = W0 := ⟨_, rfl⟩
  have hB : Below w.heap.size w W0 := by rw [← hW0]; exact (by repeat (first | exact Below.refl _ _ | (refine Below.setCell ?_ (by first | omega | (simp; done) | (simp; omega) | (simp at *; omega)) _) | (refine Below.alloc ?_ (by first | omega | (simp; done) | (simp; omega) | (simp at *; omega)) _) | refine Below.drew ?_ | (refine below_drewN ?_ _) | (refine Below.trans ?_ (Below.mono (by assumption) (by first | omega | (simp; done) | (simp; omega) | (simp at *; omega))))))
  have bM : Blk W0 w.heap.size 28 #[.int .i64 (a : Int), .int .i64 (b : Int)] := by rw [← hW0]; exact Blk.new _ _ _ rfl
  have hS : W0.cell? ⟨w.heap.size, 0, none⟩ = some (.int .i64 (a : Int)) ∧ W0.cell? ⟨w.heap.size, 1, none⟩ = some (.int .i64 (b : Int)) ∧ Below w.heap.size w W0 := ⟨bM.cell 0, bM.cell 1, hB⟩
  have n1 : (side != side) = false := by simp
  have n2 : ((k : Int) == 75) = false := by rw [beq_eq_false_iff_ne]; omega
  have HW := Lib.hid hW0
  have HC := Lib.hid h
  have HY := Lib.hid hy
  have HK := Lib.hid hkd
  have HQ := Lib.hid (fun W => gmoved_is s q a b W hs ha hb9 hq)
  have HF := Lib.hid hf
  have HI := Lib.hid hi
  clear hW0 hB bM h hy hkd hk75 hs hq hf hi
  go_enter Tryz.func84, Tryz.ntmps84
  go_wp2_with fail
  rw [HW.out]
  obtain ⟨m0, m1, hB⟩ := hS
  refine (can_is5 s a b _ _ HC.out).mono ?_
  rintro e w2 ⟨rfl, hb⟩
  obtain ⟨m0, m1, hB⟩ := mv2_keep ⟨m0, m1, hB⟩ hb
  clear hb
  go_wp2_with fail
  refine (gside_g c side _ HY.out).mono ?_
  rintro e w3 ⟨rfl, hb⟩
  replace m0 := (hb.cell (p := ⟨w.heap.size, 0, none⟩) (cell_lt m0)).trans m0
  replace m1 := (hb.cell (p := ⟨w.heap.size, 1, none⟩) (cell_lt m1)).trans m1
  replace hB := hB.trans (hb.mono hB.size)
  clear hb
  go_wp2_with fail
  refine (gkind_g d k _ HK.out).mono ?_
  rintro e w4 ⟨rfl, hb⟩
  replace m0 := (hb.cell (p := ⟨w.heap.size, 0, none⟩) (cell_lt m0)).trans m0
  replace m1 := (hb.cell (p := ⟨w.heap.size, 1, none⟩) (cell_lt m1)).trans m1
  replace hB := hB.trans (hb.mono hB.size)
  clear hb
  go_wp2_with fail
  refine (HQ.out _).mono ?_
  rintro e w5 ⟨rfl, hb⟩
  replace hB := hB.trans (hb.mono hB.size)
  clear hb m0 m1
  cases f
  · go_wp2_with fail
    refine (facing_is q false _ HF.out).mono ?_
    rintro e w6 ⟨rfl, rfl⟩
    go_wp2_with fail
    refine (in_is q side i _ (hT.below hB hT.lt) HI.out).mono ?_
    rintro e w7 ⟨rfl, hb⟩
    go_wp2
    go_ret
    exact ⟨rfl, hB.trans (hb.mono hB.size)⟩
  · go_wp2_with fail
    refine (facing_is q true _ HF.out).mono ?_
    rintro e w6 ⟨rfl, rfl⟩
    go_wp2
    go_ret
    exact ⟨rfl, hB⟩
theorem gcan_any (s : ByteArray) (side a b : Int) (w : World) (hT : Tab w) : Calls Tryz.prog 84 #[.string s, .int .i64 side, .agg #[.int .i64 a, .int .i64 b]] w (Gives w (.bool (couldI s side a b))) := by
  cases hc : canI s a b
  · have : couldI s side a b = false := by
      cases e : couldI s side a b
      · rfl
      · obtain ⟨h1, h2, h3, h4⟩ := couldI_parts e
        have : canI s a b = true := by
          unfold canI
          rw [h1, sqI_true h2, sqI_true h3, (could_parts.1 h4).2.1]
          rfl
        rw [hc] at this
        cases this
    rw [this]
    exact gcan_far s side a b w hc
  · obtain ⟨hi, ha, hb, hcan⟩ : isB s = true ∧ sqI a = true ∧ sqI b = true ∧ canB s a.toNat b.toNat = true := by
      unfold canI at hc
      simp only [Bool.and_eq_true] at hc
      exact ⟨hc.1.1.1, hc.1.1.2, hc.1.2, hc.2⟩
    obtain ⟨a0, a1⟩ := sqI_iff.1 ha
    obtain ⟨b0, b1⟩ := sqI_iff.1 hb
    obtain ⟨x, rfl⟩ : ∃ x : Nat, a = x := ⟨a.toNat, by omega⟩
    obtain ⟨y, rfl⟩ : ∃ y : Nat, b = y := ⟨b.toNat, by omega⟩
    have hz := isB_size hi
    have hx : x < 90 := by omega
    have hy : y < 90 := by omega
    rw [couldI_nat hi hx hy]
    simp only [Int.toNat_natCast] at hcan
    have hxb := bAt_eq s x (by omega)
    have hyb := bAt_eq s y (by omega)
    by_cases hsd : sideN (bAt s x) = side
    · by_cases hk : kindN (bAt s y) = 75
      · have : couldB s side x y = false := by
          cases e : couldB s side x y
          · rfl
          · exact absurd hk (could_parts.1 e).2.2.1
        rw [this]
        exact gcan_king s side x y _ _ _ w hc (by omega) (by omega) hxb hyb hsd rfl hk
      · have : couldB s side x y = (!facingB (behindS s (x, y)) && !inB (behindS s (x, y)) side) := by
          unfold couldB legalB
          rw [hsd, hcan, beq_self_eq_true, Bool.true_and, Bool.true_and]
          show ((kindN (bAt s y) != 75) && _) = _
          rw [show (kindN (bAt s y) != 75) = true by rw [bne_iff_ne]; exact hk, Bool.true_and]
          rfl
        rw [this]
        exact gcan_goes s _ side x y _ _ _ _ _ w hT hc hi hx hy (by omega) (by omega) hxb hyb hsd rfl hk rfl rfl rfl
    · have : couldB s side x y = false := by
        cases e : couldB s side x y
        · rfl
        · exact absurd (could_parts.1 e).1 hsd
      rw [this]
      exact gcan_side s side _ x y _ w hc (by omega) hxb rfl hsd
theorem gcan_is (s : ByteArray) (side a b : Int) (v : Bool) (w : World) (hT : Tab w) (h : couldI s side a b = v) : Calls Tryz.prog 84 #[.string s, .int .i64 side, .agg #[.int .i64 a, .int .i64 b]] w (Gives w (.bool v)) := by subst h; exact gcan_any s side a b w hT
end Go.Proofs.YtnkbilikkbaeeaaGreatDoor
