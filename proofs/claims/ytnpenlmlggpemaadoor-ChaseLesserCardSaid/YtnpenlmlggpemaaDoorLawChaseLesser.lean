/- A pawn and a general threaten nothing; a chariot that is guarded is threatened by a horse, or a cannon, alone: the call answers true. -/
import Derived.Test.YtnpenlmlggpemaaDoorChaseV
namespace Go.Proofs.YtnpenlmlggpemaaDoor.clesser
open Go.RowKit Go.Shelf
open M (S)

theorem lesser {s : ByteArray} {a b : Int} (h : threatI s a b = true) : kindN (atB s a) ≠ 75 ∧ kindN (atB s a) ≠ 80 ∧ kindN (atB s a) ≠ 0 ∧ kindN (atB s b) ≠ 0 ∧ kindN (atB s b) ≠ 75 ∧ (guardI s a b = true → kindN (atB s b) = 82 ∧ (kindN (atB s a) = 78 ∨ kindN (atB s a) = 67)) := by
  unfold threatI at h
  simp only [Bool.and_eq_true] at h
  obtain ⟨⟨⟨hs, ha⟩, hb⟩, ht⟩ := h
  have e1 : atB s a = bAt s a.toNat := by unfold atB; rw [if_pos ⟨hs, ha⟩]
  have e2 : atB s b = bAt s b.toNat := by unfold atB; rw [if_pos ⟨hs, hb⟩]
  obtain ⟨a0, a1⟩ := sqI_iff.1 ha
  obtain ⟨b0, b1⟩ := sqI_iff.1 hb
  obtain ⟨m, rfl⟩ : ∃ m : Nat, a = m := ⟨a.toNat, by omega⟩
  obtain ⟨n, rfl⟩ : ∃ n : Nat, b = n := ⟨b.toNat, by omega⟩
  have hm : m < 90 := by omega
  have hn : n < 90 := by omega
  rw [e1, e2, guardI_nat hs hm hn]
  simp only [Int.toNat_natCast] at ht ⊢
  obtain ⟨h46, hc, hmo, hw, _⟩ := threat_parts.1 ht
  have hsd := could_sides hc
  have hto := could_to hs hn hc h46
  unfold momentB at hmo
  simp only [Bool.and_eq_true, bne_iff_ne] at hmo
  refine ⟨hmo.1.1, hmo.1.2, (side_kind0 _).1 (by omega), (side_kind0 _).1 (by omega), (could_parts.1 hc).2.2.1, fun hg => ?_⟩
  unfold worthB at hw
  rw [hg] at hw
  simp only [Bool.not_true, Bool.or_false, Bool.and_eq_true, Bool.or_eq_true, beq_iff_eq] at hw
  exact ⟨hw.2, hw.1⟩
theorem mvl_cells {W : World} {g : Nat} {t : TypeId} {a b : Value} (h : Blk W g t #[a, b]) : W.cell? ⟨g, 0, none⟩ = some a ∧ W.cell? ⟨g, 1, none⟩ = some b := ⟨h.cell 0, h.cell 1⟩
set_option maxRecDepth 100000 in
set_option maxHeartbeats 8000000 in
theorem large (s : ByteArray) (a b : Int) (w : World) (hT : Tab w) (hs : 200 < s.size) : Calls Tryd.prog 6 #[.string s, .agg #[.int .i64 a, .int .i64 b]] w (Gives w (.bool true)) := by
  unfold Gives
  obtain ⟨W0, hW0⟩ : ∃ W0, w.alloc (.cells #[.int .i64 a, .int .i64 b] 29) = W0 := ⟨_, rfl⟩
  have hB : Below w.heap.size w W0 := by rw [← hW0]; exact below_new _ _
  have bM : Blk W0 w.heap.size 29 #[.int .i64 a, .int .i64 b] := by rw [← hW0]; exact Blk.new _ _ _ rfl
  replace hT := hT.below hB hT.lt
  obtain ⟨m0, m1⟩ := mvl_cells bM
  have HW := Lib.hid hW0
  clear hW0
  have hd : decide (200 < (s.size : Int)) = true := by simp; omega
  clear hs
  go_enter Tryd.func6, Tryd.ntmps6
  go_wp2_with fail
  rw [HW.out]
  refine (live16_any _ hT).mono ?_
  rintro e w9 ⟨rfl, hb⟩
  go_wp2
  go_ret
  exact ⟨rfl, hB.trans (hb.mono hB.size)⟩
set_option maxRecDepth 100000 in
set_option maxHeartbeats 8000000 in
theorem quiet (s : ByteArray) (a b : Int) (w : World) (hT : Tab w) (hs : s.size ≤ 200) (h : threatI s a b = false) : Calls Tryd.prog 6 #[.string s, .agg #[.int .i64 a, .int .i64 b]] w (Gives w (.bool true)) := by
  unfold Gives
  obtain ⟨W0, hW0⟩ : ∃ W0, w.alloc (.cells #[.int .i64 a, .int .i64 b] 29) = W0 := ⟨_, rfl⟩
  have hB : Below w.heap.size w W0 := by rw [← hW0]; exact below_new _ _
  have bM : Blk W0 w.heap.size 29 #[.int .i64 a, .int .i64 b] := by rw [← hW0]; exact Blk.new _ _ _ rfl
  replace hT := hT.below hB hT.lt
  obtain ⟨m0, m1⟩ := mvl_cells bM
  have HW := Lib.hid hW0
  clear hW0
  have hd : decide (200 < (s.size : Int)) = false := by simp; omega
  have HH := Lib.hid h
  clear hs h
  go_enter Tryd.func6, Tryd.ntmps6
  go_wp2_with fail
  rw [HW.out]
  refine (threat_is s a b false _ hT HH.out).mono ?_
  rintro e w1 ⟨rfl, hb⟩
  replace bM := bM.next hb
  replace hT := hT.next hb
  replace hB := hB.trans (hb.mono hB.size)
  clear hb m0 m1
  obtain ⟨m0, m1⟩ := mvl_cells bM
  go_wp2_with fail
  refine (live16_any _ hT).mono ?_
  rintro e w9 ⟨rfl, hb⟩
  go_wp2
  go_ret
  exact ⟨rfl, hB.trans (hb.mono hB.size)⟩
set_option maxRecDepth 100000 in
set_option maxHeartbeats 8000000 in
theorem loud (s : ByteArray) (a b : Int) (w : World) (hT : Tab w) (hs : s.size ≤ 200) (h : threatI s a b = true) (x y k l : Nat) (g : Bool) (hx : atB s a = x) (hy : atB s b = y) (hk : kindN x = k) (hl : kindN y = l) (hg : guardI s a b = g) : Calls Tryd.prog 6 #[.string s, .agg #[.int .i64 a, .int .i64 b]] w (Gives w (.bool true)) := by
  unfold Gives
  obtain ⟨W0, hW0⟩ : ∃ W0, w.alloc (.cells #[.int .i64 a, .int .i64 b] 29) = W0 := ⟨_, rfl⟩
  have hB : Below w.heap.size w W0 := by rw [← hW0]; exact below_new _ _
  have bM : Blk W0 w.heap.size 29 #[.int .i64 a, .int .i64 b] := by rw [← hW0]; exact Blk.new _ _ _ rfl
  replace hT := hT.below hB hT.lt
  obtain ⟨m0, m1⟩ := mvl_cells bM
  have HW := Lib.hid hW0
  clear hW0
  have hd : decide (200 < (s.size : Int)) = false := by simp; omega
  obtain ⟨h1, h2, h3, h4, h5, h6⟩ := lesser h
  rw [hx, hk] at h1 h2 h3
  rw [hy, hl] at h4 h5
  rw [hx, hy, hk, hl, hg] at h6
  have HH := Lib.hid h
  have HX := Lib.hid hx
  have HY := Lib.hid hy
  have HK := Lib.hid hk
  have HL := Lib.hid hl
  have HG := Lib.hid hg
  have k75 : ((k : Int) == 75) = false := by rw [beq_eq_false_iff_ne]; omega
  have k80 : ((k : Int) == 80) = false := by rw [beq_eq_false_iff_ne]; omega
  have k0 : ((k : Int) == 0) = false := by rw [beq_eq_false_iff_ne]; omega
  have l0 : ((l : Int) == 0) = false := by rw [beq_eq_false_iff_ne]; omega
  have l75 : ((l : Int) == 75) = false := by rw [beq_eq_false_iff_ne]; omega
  clear hs h hx hy hk hl hg h1 h2 h3 h4 h5
  cases g
  · clear h6
    go_enter Tryd.func6, Tryd.ntmps6
    go_wp2_with fail
    rw [HW.out]
    refine (threat_is s a b true _ hT HH.out).mono ?_
    rintro e w1 ⟨rfl, hb⟩
    replace bM := bM.next hb
    replace hT := hT.next hb
    replace hB := hB.trans (hb.mono hB.size)
    clear hb m0 m1
    obtain ⟨m0, m1⟩ := mvl_cells bM
    go_wp2_with fail
    refine (at_h s a x _ HX).mono ?_
    rintro e w2 ⟨rfl, rfl⟩
    go_wp2_with fail
    refine (kind_g x k _ HK.out).mono ?_
    rintro e w3 ⟨rfl, hb⟩
    replace bM := bM.next hb
    replace hT := hT.next hb
    replace hB := hB.trans (hb.mono hB.size)
    clear hb m0 m1
    obtain ⟨m0, m1⟩ := mvl_cells bM
    go_wp2_with fail
    refine (at_h s b y _ HY).mono ?_
    rintro e w4 ⟨rfl, rfl⟩
    go_wp2_with fail
    refine (kind_g y l _ HL.out).mono ?_
    rintro e w5 ⟨rfl, hb⟩
    replace bM := bM.next hb
    replace hT := hT.next hb
    replace hB := hB.trans (hb.mono hB.size)
    clear hb m0 m1
    obtain ⟨m0, m1⟩ := mvl_cells bM
    go_wp2_with fail
    refine (gguard_is s a b false _ hT HG.out).mono ?_
    rintro e w6 ⟨rfl, hb⟩
    replace bM := bM.next hb
    replace hT := hT.next hb
    replace hB := hB.trans (hb.mono hB.size)
    clear hb m0 m1
    obtain ⟨m0, m1⟩ := mvl_cells bM
    clear m0 m1
    go_wp2_with fail
    refine (live16_any _ hT).mono ?_
    rintro e w9 ⟨rfl, hb⟩
    go_wp2
    go_ret
    exact ⟨rfl, hB.trans (hb.mono hB.size)⟩
  · obtain ⟨h82, hkk⟩ := h6 rfl
    have l82 : ((l : Int) == 82) = true := by rw [beq_iff_eq]; omega
    by_cases h78 : k = 78
    · have k78 : ((k : Int) == 78) = true := by rw [beq_iff_eq]; omega
      clear h6 h82 hkk h78
      go_enter Tryd.func6, Tryd.ntmps6
      go_wp2_with fail
      rw [HW.out]
      refine (threat_is s a b true _ hT HH.out).mono ?_
      rintro e w1 ⟨rfl, hb⟩
      replace bM := bM.next hb
      replace hT := hT.next hb
      replace hB := hB.trans (hb.mono hB.size)
      clear hb m0 m1
      obtain ⟨m0, m1⟩ := mvl_cells bM
      go_wp2_with fail
      refine (at_h s a x _ HX).mono ?_
      rintro e w2 ⟨rfl, rfl⟩
      go_wp2_with fail
      refine (kind_g x k _ HK.out).mono ?_
      rintro e w3 ⟨rfl, hb⟩
      replace bM := bM.next hb
      replace hT := hT.next hb
      replace hB := hB.trans (hb.mono hB.size)
      clear hb m0 m1
      obtain ⟨m0, m1⟩ := mvl_cells bM
      go_wp2_with fail
      refine (at_h s b y _ HY).mono ?_
      rintro e w4 ⟨rfl, rfl⟩
      go_wp2_with fail
      refine (kind_g y l _ HL.out).mono ?_
      rintro e w5 ⟨rfl, hb⟩
      replace bM := bM.next hb
      replace hT := hT.next hb
      replace hB := hB.trans (hb.mono hB.size)
      clear hb m0 m1
      obtain ⟨m0, m1⟩ := mvl_cells bM
      go_wp2_with fail
      refine (gguard_is s a b true _ hT HG.out).mono ?_
      rintro e w6 ⟨rfl, hb⟩
      replace bM := bM.next hb
      replace hT := hT.next hb
      replace hB := hB.trans (hb.mono hB.size)
      clear hb m0 m1
      obtain ⟨m0, m1⟩ := mvl_cells bM
      clear m0 m1
      go_wp2_with fail
      refine (live16_any _ hT).mono ?_
      rintro e w9 ⟨rfl, hb⟩
      go_wp2
      go_ret
      exact ⟨rfl, hB.trans (hb.mono hB.size)⟩
    · have k78 : ((k : Int) == 78) = false := by rw [beq_eq_false_iff_ne]; omega
      have k67 : ((k : Int) == 67) = true := by rw [beq_iff_eq]; omega
      clear h6 h82 hkk h78
      go_enter Tryd.func6, Tryd.ntmps6
      go_wp2_with fail
      rw [HW.out]
      refine (threat_is s a b true _ hT HH.out).mono ?_
      rintro e w1 ⟨rfl, hb⟩
      replace bM := bM.next hb
      replace hT := hT.next hb
      replace hB := hB.trans (hb.mono hB.size)
      clear hb m0 m1
      obtain ⟨m0, m1⟩ := mvl_cells bM
      go_wp2_with fail
      refine (at_h s a x _ HX).mono ?_
      rintro e w2 ⟨rfl, rfl⟩
      go_wp2_with fail
      refine (kind_g x k _ HK.out).mono ?_
      rintro e w3 ⟨rfl, hb⟩
      replace bM := bM.next hb
      replace hT := hT.next hb
      replace hB := hB.trans (hb.mono hB.size)
      clear hb m0 m1
      obtain ⟨m0, m1⟩ := mvl_cells bM
      go_wp2_with fail
      refine (at_h s b y _ HY).mono ?_
      rintro e w4 ⟨rfl, rfl⟩
      go_wp2_with fail
      refine (kind_g y l _ HL.out).mono ?_
      rintro e w5 ⟨rfl, hb⟩
      replace bM := bM.next hb
      replace hT := hT.next hb
      replace hB := hB.trans (hb.mono hB.size)
      clear hb m0 m1
      obtain ⟨m0, m1⟩ := mvl_cells bM
      go_wp2_with fail
      refine (gguard_is s a b true _ hT HG.out).mono ?_
      rintro e w6 ⟨rfl, hb⟩
      replace bM := bM.next hb
      replace hT := hT.next hb
      replace hB := hB.trans (hb.mono hB.size)
      clear hb m0 m1
      obtain ⟨m0, m1⟩ := mvl_cells bM
      clear m0 m1
      go_wp2_with fail
      refine (live16_any _ hT).mono ?_
      rintro e w9 ⟨rfl, hb⟩
      go_wp2
      go_ret
      exact ⟨rfl, hB.trans (hb.mono hB.size)⟩
theorem walk (s : ByteArray) (a b : Int) (w : World) (hT : Tab w) : Calls Tryd.prog 6 #[.string s, .agg #[.int .i64 a, .int .i64 b]] w (Gives w (.bool true)) := by
  by_cases hs : s.size ≤ 200
  · cases h : threatI s a b
    · exact quiet s a b w hT hs h
    · exact loud s a b w hT hs h _ _ _ _ _ rfl rfl rfl rfl rfl
  · exact large s a b w hT (by omega)
end Go.Proofs.YtnpenlmlggpemaaDoor.clesser
