/- The document's own answers of layer 15: Can, Guarded. -/
import Derived.Test.YtnkbilikkbaeeaaGreatDoorGuardR
namespace Go.Proofs.YtnkbilikkbaeeaaGreatDoor
open Go.RowKit Go.Shelf
open M (S)

theorem gs_keep {w : World} {p0 p1 : Value} {g : Nat} {W W' : World} (h0 : W.cell? ⟨g, 0, none⟩ = some p0) (h1 : W.cell? ⟨g, 1, none⟩ = some p1) (h : Below w.heap.size w W) (hb : Below W.heap.size W W') : W'.cell? ⟨g, 0, none⟩ = some p0 ∧ W'.cell? ⟨g, 1, none⟩ = some p1 ∧ Below w.heap.size w W' :=
  ⟨(hb.cell (p := ⟨g, 0, none⟩) (cell_lt h0)).trans h0, (hb.cell (p := ⟨g, 1, none⟩) (cell_lt h1)).trans h1, h.trans (hb.mono h.size)⟩
theorem rkind_s (c k : Nat) (w : World) (h : kindN c = k) : Calls Tryz.prog 96 #[.int .u8 (c : Int)] w (Says w (.int .u8 (k : Int))) := by subst h; exact rkind_any c w
theorem rside_s (c : Nat) (k : Int) (w : World) (h : sideN c = k) : Calls Tryz.prog 103 #[.int .u8 (c : Int)] w (Says w (.int .i64 k)) := by subst h; exact rside_any c w
set_option maxRecDepth 100000 in
set_option maxHeartbeats 4000000 in
theorem rgcan_no (s : ByteArray) (side a b : Int) (w : World) (h : isB s = false ∨ side < 0 ∨ 1 < side ∨ a < 0 ∨ 89 < a ∨ b < 0 ∨ 89 < b) : Calls Tryz.prog 193 #[.string s, .int .i64 side, .agg #[.int .i64 a, .int .i64 b]] w (Gives w (.bool false)) := by
  unfold Gives
  obtain ⟨W0, hW0⟩ : ∃ W0, w.alloc (.cells #[.int .i64 a, .int .i64 b] 28) = W0 := ⟨_, rfl⟩
  have hB : Below w.heap.size w W0 := by rw [← hW0]; exact (by repeat (first | exact Below.refl _ _ | (refine Below.setCell ?_ (by first | omega | (simp; done) | (simp; omega) | (simp at *; omega)) _) | (refine Below.alloc ?_ (by first | omega | (simp; done) | (simp; omega) | (simp at *; omega)) _) | refine Below.drew ?_ | (refine below_drewN ?_ _) | (refine Below.trans ?_ (Below.mono (by assumption) (by first | omega | (simp; done) | (simp; omega) | (simp at *; omega))))))
  have bM : Blk W0 w.heap.size 28 #[.int .i64 a, .int .i64 b] := by rw [← hW0]; exact Blk.new _ _ _ rfl
  have m0 : W0.cell? ⟨w.heap.size, 0, none⟩ = some (.int .i64 a) := bM.cell 0
  have m1 : W0.cell? ⟨w.heap.size, 1, none⟩ = some (.int .i64 b) := bM.cell 1
  have HW := Lib.hid hW0
  clear hW0 bM
  obtain ⟨k, hk⟩ : ∃ k, isB s = k := ⟨_, rfl⟩
  have HK := Lib.hid hk
  rw [hk] at h
  clear hk
  cases k
  · clear h
    go_enter Tryz.func193, Tryz.ntmps193
    go_wp2_with fail
    rw [HW.out]
    refine (ris5_is s false _ HK.out).mono ?_
    rintro e w1 ⟨rfl, rfl⟩
    go_wp2
    go_ret
    exact ⟨rfl, hB⟩
  · have h : side < 0 ∨ 1 < side ∨ a < 0 ∨ 89 < a ∨ b < 0 ∨ 89 < b := by simpa using h
    by_cases c1 : side < 0
    · clear h
      go_enter Tryz.func193, Tryz.ntmps193
      go_wp2_with fail
      rw [HW.out]
      refine (ris5_is s true _ HK.out).mono ?_
      rintro e w1 ⟨rfl, rfl⟩
      go_wp2
      go_ret
      exact ⟨rfl, hB⟩
    · by_cases c2 : 1 < side
      · clear h
        go_enter Tryz.func193, Tryz.ntmps193
        go_wp2_with fail
        rw [HW.out]
        refine (ris5_is s true _ HK.out).mono ?_
        rintro e w1 ⟨rfl, rfl⟩
        go_wp2
        go_ret
        exact ⟨rfl, hB⟩
      · by_cases c3 : a < 0
        · clear h
          go_enter Tryz.func193, Tryz.ntmps193
          go_wp2_with fail
          rw [HW.out]
          refine (ris5_is s true _ HK.out).mono ?_
          rintro e w1 ⟨rfl, rfl⟩
          go_wp2
          go_ret
          exact ⟨rfl, hB⟩
        · by_cases c4 : 89 < a
          · clear h
            go_enter Tryz.func193, Tryz.ntmps193
            go_wp2_with fail
            rw [HW.out]
            refine (ris5_is s true _ HK.out).mono ?_
            rintro e w1 ⟨rfl, rfl⟩
            go_wp2
            go_ret
            exact ⟨rfl, hB⟩
          · by_cases c5 : b < 0
            · clear h
              go_enter Tryz.func193, Tryz.ntmps193
              go_wp2_with fail
              rw [HW.out]
              refine (ris5_is s true _ HK.out).mono ?_
              rintro e w1 ⟨rfl, rfl⟩
              go_wp2
              go_ret
              exact ⟨rfl, hB⟩
            · have c6 : 89 < b := by omega
              clear h
              go_enter Tryz.func193, Tryz.ntmps193
              go_wp2_with fail
              rw [HW.out]
              refine (ris5_is s true _ HK.out).mono ?_
              rintro e w1 ⟨rfl, rfl⟩
              go_wp2
              go_ret
              exact ⟨rfl, hB⟩
set_option maxRecDepth 100000 in
set_option maxHeartbeats 8000000 in
theorem rgcan_yes (s q : ByteArray) (side y : Int) (a b c d k : Nat) (g f : Bool) (w : World) (hs : isB s = true) (h0 : 0 ≤ side) (h1 : side ≤ 1) (ha : a < 90) (hb : b < 90) (hc : bAt s a = c) (hy : sideN c = y) (hg : y = side → canB s a b = g) (hd : bAt s b = d) (hk : kindN d = k) (hq : y = side → g = true → behindS s (a, b) = q ∧ a ≠ b) (hf : safeB q side = f) (v : Bool) (hv : v = ((y == side) && g && (!((k : Int) == 75)) && f)) : Calls Tryz.prog 193 #[.string s, .int .i64 side, .agg #[.int .i64 (a : Int), .int .i64 (b : Int)]] w (Gives w (.bool v)) := by
  unfold Gives
  obtain ⟨W0, hW0⟩ : ∃ W0, w.alloc (.cells #[.int .i64 (a : Int), .int .i64 (b : Int)] 28) = W0 := ⟨_, rfl⟩
  have hB : Below w.heap.size w W0 := by rw [← hW0]; exact (by repeat (first | exact Below.refl _ _ | (refine Below.setCell ?_ (by first | omega | (simp; done) | (simp; omega) | (simp at *; omega)) _) | (refine Below.alloc ?_ (by first | omega | (simp; done) | (simp; omega) | (simp at *; omega)) _) | refine Below.drew ?_ | (refine below_drewN ?_ _) | (refine Below.trans ?_ (Below.mono (by assumption) (by first | omega | (simp; done) | (simp; omega) | (simp at *; omega))))))
  have bM : Blk W0 w.heap.size 28 #[.int .i64 (a : Int), .int .i64 (b : Int)] := by rw [← hW0]; exact Blk.new _ _ _ rfl
  have m0 : W0.cell? ⟨w.heap.size, 0, none⟩ = some (.int .i64 (a : Int)) := bM.cell 0
  have m1 : W0.cell? ⟨w.heap.size, 1, none⟩ = some (.int .i64 (b : Int)) := bM.cell 1
  have hz := isB_size hs
  have has : a < s.size := by omega
  have hbs : b < s.size := by omega
  have hbk : s[a].toNat = c := (bAt_eq s a has).trans hc
  have hbd : s[b].toNat = d := (bAt_eq s b hbs).trans hd
  have HW := Lib.hid hW0
  have HK := Lib.hid hs
  have HY := Lib.hid hy
  have HKD := Lib.hid hk
  have HZ := Lib.hid hz
  have HF := Lib.hid hf
  have HV := Lib.hid hv
  have HQ := Lib.hid hq
  clear hW0 bM hs hy hk hz hf hv hc hd hq
  have a0 : ¬ (a : Int) < 0 := by omega
  have a1 : ¬ 89 < (a : Int) := by omega
  have b0 : ¬ (b : Int) < 0 := by omega
  have b1 : ¬ 89 < (b : Int) := by omega
  have s0 : ¬ side < 0 := by omega
  have s1 : ¬ 1 < side := by omega
  by_cases hys : y = side
  · subst hys
    have HG := Lib.hid (hg rfl)
    clear hg
    have n1 : (y != y) = false := by simp
    cases g
    · go_enter Tryz.func193, Tryz.ntmps193
      go_wp2_with fail
      rw [HW.out]
      refine (ris5_is s true _ HK.out).mono ?_
      rintro e w1 ⟨rfl, rfl⟩
      go_wp2_with fail
      refine (rside_s c y _ HY.out).mono ?_
      rintro e w1 ⟨rfl, rfl⟩
      go_wp2_with fail
      refine (fast_is s a b false _ (by rw [HZ.out]; decide) ha hb HG.out).mono ?_
      rintro e w1 ⟨rfl, rfl⟩
      go_wp2
      go_ret
      exact ⟨by rw [HV.out]; simp, hB⟩
    · by_cases h75 : k = 75
      · have n2 : ((k : Int) == 75) = true := by rw [beq_iff_eq]; omega
        go_enter Tryz.func193, Tryz.ntmps193
        go_wp2_with fail
        rw [HW.out]
        refine (ris5_is s true _ HK.out).mono ?_
        rintro e w1 ⟨rfl, rfl⟩
        go_wp2_with fail
        refine (rside_s c y _ HY.out).mono ?_
        rintro e w1 ⟨rfl, rfl⟩
        go_wp2_with fail
        refine (fast_is s a b true _ (by rw [HZ.out]; decide) ha hb HG.out).mono ?_
        rintro e w1 ⟨rfl, rfl⟩
        go_wp2_with fail
        refine (rkind_s d k _ HKD.out).mono ?_
        rintro e w1 ⟨rfl, rfl⟩
        go_wp2
        go_ret
        exact ⟨by rw [HV.out, n2]; simp, hB⟩
      · have n2 : ((k : Int) == 75) = false := by rw [beq_eq_false_iff_ne]; omega
        obtain ⟨hq1, hq2⟩ := HQ.out rfl rfl
        have HM := Lib.hid (fun W => rmoved_any s a b _ q W HZ.out ha hb hq2 rfl hq1)
        clear hq1
        go_enter Tryz.func193, Tryz.ntmps193
        go_wp2_with fail
        rw [HW.out]
        refine (ris5_is s true _ HK.out).mono ?_
        rintro e w1 ⟨rfl, rfl⟩
        go_wp2_with fail
        refine (rside_s c y _ HY.out).mono ?_
        rintro e w1 ⟨rfl, rfl⟩
        go_wp2_with fail
        refine (fast_is s a b true _ (by rw [HZ.out]; decide) ha hb HG.out).mono ?_
        rintro e w1 ⟨rfl, rfl⟩
        go_wp2_with fail
        refine (rkind_s d k _ HKD.out).mono ?_
        rintro e w1 ⟨rfl, rfl⟩
        go_wp2_with fail
        refine (HM.out _).mono ?_
        rintro e w2 ⟨rfl, hb2⟩
        have hB2 := hB.trans (hb2.mono hB.size)
        clear hb2 m0 m1
        go_wp2_with fail
        refine (rsafe_is q y f _ HF.out).mono ?_
        rintro e w3 ⟨rfl, hb3⟩
        go_wp2
        go_ret
        exact ⟨by rw [HV.out, n2]; simp, hB2.trans (hb3.mono hB2.size)⟩
  · have n1 : (y != side) = true := by rw [bne_iff_ne]; exact hys
    have n3 : (y == side) = false := by rw [beq_eq_false_iff_ne]; exact hys
    clear hg hys
    go_enter Tryz.func193, Tryz.ntmps193
    go_wp2_with fail
    rw [HW.out]
    refine (ris5_is s true _ HK.out).mono ?_
    rintro e w1 ⟨rfl, rfl⟩
    go_wp2_with fail
    refine (rside_s c y _ HY.out).mono ?_
    rintro e w1 ⟨rfl, rfl⟩
    go_wp2
    go_ret
    exact ⟨by rw [HV.out, n3]; simp, hB⟩
theorem rgcan_any (s : ByteArray) (side a b : Int) (w : World) : Calls Tryz.prog 193 #[.string s, .int .i64 side, .agg #[.int .i64 a, .int .i64 b]] w (Gives w (.bool (couldI s side a b))) := by
  by_cases h : isB s = true ∧ 0 ≤ side ∧ side ≤ 1 ∧ 0 ≤ a ∧ a ≤ 89 ∧ 0 ≤ b ∧ b ≤ 89
  · obtain ⟨hs, s0, s1, a0, a1, b0, b1⟩ := h
    obtain ⟨x, rfl⟩ : ∃ x : Nat, a = x := ⟨a.toNat, by omega⟩
    obtain ⟨y, rfl⟩ : ∃ y : Nat, b = y := ⟨b.toNat, by omega⟩
    have hx : x < 90 := by omega
    have hy : y < 90 := by omega
    rw [couldI_nat hs hx hy]
    refine rgcan_yes s (behindS s (x, y)) side _ x y _ _ _ (canB s x y) _ w hs s0 s1 hx hy rfl rfl (fun _ => rfl) rfl rfl (fun _ h => ⟨rfl, can_self h⟩) rfl _ ?_
    unfold couldB legalB
    have e : (!(((kindN (bAt s y) : Nat) : Int) == 75)) = (kindN (bAt s y) != 75) := by
      rw [Bool.eq_iff_iff, Bool.not_eq_true', beq_eq_false_iff_ne, bne_iff_ne]
      omega
    show ((sideN (bAt s x) == side) && canB s x y && ((kindN (bAt s y) != 75) && safeB (behindS s (x, y)) side)) = _
    rw [e, Bool.and_assoc, Bool.and_assoc, Bool.and_assoc]
  · have hf : couldI s side a b = false := by
      cases e : couldI s side a b
      · rfl
      · obtain ⟨h1, h2, h3, h4⟩ := couldI_parts e
        have := could_sides h4
        exact absurd ⟨h1, by omega, by omega, h2.1, by omega, h3.1, by omega⟩ h
    rw [hf]
    refine rgcan_no s side a b w ?_
    cases hs : isB s
    · exact .inl rfl
    · right
      rw [hs] at h
      by_cases c1 : side < 0
      · exact .inl c1
      · by_cases c2 : 1 < side
        · exact .inr (.inl c2)
        · by_cases c3 : a < 0
          · exact .inr (.inr (.inl c3))
          · by_cases c4 : 89 < a
            · exact .inr (.inr (.inr (.inl c4)))
            · by_cases c5 : b < 0
              · exact .inr (.inr (.inr (.inr (.inl c5))))
              · exact .inr (.inr (.inr (.inr (.inr (by
                  by_cases c6 : b ≤ 89
                  · exact absurd ⟨rfl, by omega, by omega, by omega, by omega, by omega, c6⟩ h
                  · omega)))))
theorem rgcan_is (s : ByteArray) (side a b : Int) (v : Bool) (w : World) (h : couldI s side a b = v) : Calls Tryz.prog 193 #[.string s, .int .i64 side, .agg #[.int .i64 a, .int .i64 b]] w (Gives w (.bool v)) := by subst h; exact rgcan_any s side a b w
end Go.Proofs.YtnkbilikkbaeeaaGreatDoor
