/- The document's own Guarded. -/
import Derived.Test.YtnkbilikkbaeeaaGreatDoorGuardS
namespace Go.Proofs.YtnkbilikkbaeeaaGreatDoor
open Go.RowKit Go.Shelf
open M (S)

theorem gu_keep {w : World} {p0 p1 : Value} {g : Nat} {W W' : World} (hS : W.cell? ⟨g, 0, none⟩ = some p0 ∧ W.cell? ⟨g, 1, none⟩ = some p1 ∧ Below w.heap.size w W) (hb : Below W.heap.size W W') :
    W'.cell? ⟨g, 0, none⟩ = some p0 ∧ W'.cell? ⟨g, 1, none⟩ = some p1 ∧ Below w.heap.size w W' := by
  obtain ⟨h0, h1, h4⟩ := hS
  exact gs_keep h0 h1 h4 hb
set_option maxRecDepth 100000 in
set_option maxHeartbeats 4000000 in
theorem rgguard_no (s : ByteArray) (a b : Int) (w : World) (h : isB s = false ∨ a < 0 ∨ 89 < a) : Calls Tryz.prog 194 #[.string s, .agg #[.int .i64 a, .int .i64 b]] w (Gives w (.bool false)) := by
  unfold Gives
  obtain ⟨W0, hW0⟩ : ∃ W0, w.alloc (.cells #[.int .i64 a, .int .i64 b] 28) = W0 := ⟨_, rfl⟩
  have hB : Below w.heap.size w W0 := by rw [← hW0]; exact (by repeat (first | exact Below.refl _ _ | (refine Below.setCell ?_ (by first | omega | (simp; done) | (simp; omega) | (simp at *; omega)) _) | (refine Below.alloc ?_ (by first | omega | (simp; done) | (simp; omega) | (simp at *; omega)) _) | refine Below.drew ?_ | (refine below_drewN ?_ _) | (refine Below.trans ?_ (Below.mono (by assumption) (by first | omega | (simp; done) | (simp; omega) | (simp at *; omega))))))
  have bM : Blk W0 w.heap.size 28 #[.int .i64 a, .int .i64 b] := by rw [← hW0]; exact Blk.new _ _ _ rfl
  have m0 : W0.cell? ⟨w.heap.size, 0, none⟩ = some (.int .i64 a) := bM.cell 0
  have HW := Lib.hid hW0
  clear hW0 bM
  obtain ⟨k, hk⟩ : ∃ k, isB s = k := ⟨_, rfl⟩
  have HK := Lib.hid hk
  rw [hk] at h
  clear hk
  cases k
  · clear h
    go_enter Tryz.func194, Tryz.ntmps194
    go_wp2_with fail
    rw [HW.out]
    refine (ris5_is s false _ HK.out).mono ?_
    rintro e w1 ⟨rfl, rfl⟩
    go_wp2
    go_ret
    exact ⟨rfl, hB⟩
  · have h : a < 0 ∨ 89 < a := by simpa using h
    by_cases c3 : a < 0
    · clear h
      go_enter Tryz.func194, Tryz.ntmps194
      go_wp2_with fail
      rw [HW.out]
      refine (ris5_is s true _ HK.out).mono ?_
      rintro e w1 ⟨rfl, rfl⟩
      go_wp2
      go_ret
      exact ⟨rfl, hB⟩
    · have c4 : 89 < a := by omega
      clear h
      go_enter Tryz.func194, Tryz.ntmps194
      go_wp2_with fail
      rw [HW.out]
      refine (ris5_is s true _ HK.out).mono ?_
      rintro e w1 ⟨rfl, rfl⟩
      go_wp2
      go_ret
      exact ⟨rfl, hB⟩
set_option maxRecDepth 100000 in
set_option maxHeartbeats 4000000 in
theorem rgguard_not (s : ByteArray) (a c : Nat) (b y : Int) (w : World) (hs : isB s = true) (ha : a < 90) (hc : bAt s a = c) (hy : sideN c = y) (h : couldI s y (a : Int) b = false) : Calls Tryz.prog 194 #[.string s, .agg #[.int .i64 (a : Int), .int .i64 b]] w (Gives w (.bool false)) := by
  unfold Gives
  obtain ⟨W0, hW0⟩ : ∃ W0, w.alloc (.cells #[.int .i64 (a : Int), .int .i64 b] 28) = W0 := ⟨_, rfl⟩
  have hB : Below w.heap.size w W0 := by rw [← hW0]; exact (by repeat (first | exact Below.refl _ _ | (refine Below.setCell ?_ (by first | omega | (simp; done) | (simp; omega) | (simp at *; omega)) _) | (refine Below.alloc ?_ (by first | omega | (simp; done) | (simp; omega) | (simp at *; omega)) _) | refine Below.drew ?_ | (refine below_drewN ?_ _) | (refine Below.trans ?_ (Below.mono (by assumption) (by first | omega | (simp; done) | (simp; omega) | (simp at *; omega))))))
  have bM : Blk W0 w.heap.size 28 #[.int .i64 (a : Int), .int .i64 b] := by rw [← hW0]; exact Blk.new _ _ _ rfl
  have m0 : W0.cell? ⟨w.heap.size, 0, none⟩ = some (.int .i64 (a : Int)) := bM.cell 0
  have m1 : W0.cell? ⟨w.heap.size, 1, none⟩ = some (.int .i64 b) := bM.cell 1
  have hz := isB_size hs
  have has : a < s.size := by omega
  have hbk : s[a].toNat = c := (bAt_eq s a has).trans hc
  have a0 : ¬ (a : Int) < 0 := by omega
  have a1 : ¬ 89 < (a : Int) := by omega
  have HW := Lib.hid hW0
  have HK := Lib.hid hs
  have HY := Lib.hid hy
  have HN := Lib.hid h
  clear hW0 bM hs hz hc hy h
  go_enter Tryz.func194, Tryz.ntmps194
  go_wp2_with fail
  rw [HW.out]
  refine (ris5_is s true _ HK.out).mono ?_
  rintro e w1 ⟨rfl, rfl⟩
  go_wp2_with fail
  refine (rside_s c y _ HY.out).mono ?_
  rintro e w1 ⟨rfl, rfl⟩
  go_wp2_with fail
  refine (rgcan_is s y a b false _ HN.out).mono ?_
  rintro e w2 ⟨rfl, hb⟩
  go_wp2
  go_ret
  exact ⟨rfl, hB.trans (hb.mono hB.size)⟩
set_option maxRecDepth 100000 in
set_option maxHeartbeats 8000000 in
theorem rgguard_yes (s q : ByteArray) (a b c : Nat) (y z : Int) (r : Bool) (w : World) (hs : isB s = true) (ha : a < 90) (hb9 : b < 90) (hab : a ≠ b) (hc : bAt s a = c) (hy : sideN c = y) (h : couldI s y (a : Int) (b : Int) = true) (y0 : 0 ≤ y) (y1 : y ≤ 1) (hz : 1 - y = z) (hq : behindS s (a, b) = q) (hqb : isB q = true) (hr : againB q z b = r) :
    Calls Tryz.prog 194 #[.string s, .agg #[.int .i64 (a : Int), .int .i64 (b : Int)]] w (Gives w (.bool r)) := by
  unfold Gives
  obtain ⟨W0, hW0⟩ : ∃ W0, w.alloc (.cells #[.int .i64 (a : Int), .int .i64 (b : Int)] 28) = W0 := ⟨_, rfl⟩
  have hB : Below w.heap.size w W0 := by rw [← hW0]; exact (by repeat (first | exact Below.refl _ _ | (refine Below.setCell ?_ (by first | omega | (simp; done) | (simp; omega) | (simp at *; omega)) _) | (refine Below.alloc ?_ (by first | omega | (simp; done) | (simp; omega) | (simp at *; omega)) _) | refine Below.drew ?_ | (refine below_drewN ?_ _) | (refine Below.trans ?_ (Below.mono (by assumption) (by first | omega | (simp; done) | (simp; omega) | (simp at *; omega))))))
  have bM : Blk W0 w.heap.size 28 #[.int .i64 (a : Int), .int .i64 (b : Int)] := by rw [← hW0]; exact Blk.new _ _ _ rfl
  have m0 : W0.cell? ⟨w.heap.size, 0, none⟩ = some (.int .i64 (a : Int)) := bM.cell 0
  have m1 : W0.cell? ⟨w.heap.size, 1, none⟩ = some (.int .i64 (b : Int)) := bM.cell 1
  have hz0 := isB_size hs
  have hqz := isB_size hqb
  have has : a < s.size := by omega
  have hbk : s[a].toNat = c := (bAt_eq s a has).trans hc
  have a0 : ¬ (a : Int) < 0 := by omega
  have a1 : ¬ 89 < (a : Int) := by omega
  have HW := Lib.hid hW0
  have HK := Lib.hid hs
  have HY := Lib.hid hy
  have HN := Lib.hid h
  have HZ := Lib.hid hz
  have HQZ := Lib.hid hqz
  have HQB := Lib.hid hqb
  have HR := Lib.hid hr
  have HM := Lib.hid (fun W => rmoved_any s a b _ q W hz0 ha hb9 hab rfl hq)
  clear hW0 bM hs hz0 hqz hc hy h hz hq hr hqb
  go_enter Tryz.func194, Tryz.ntmps194
  go_wp2_with fail
  rw [HW.out]
  refine (ris5_is s true _ HK.out).mono ?_
  rintro e w1 ⟨rfl, rfl⟩
  go_wp2_with fail
  refine (rside_s c y _ HY.out).mono ?_
  rintro e w1 ⟨rfl, rfl⟩
  go_wp2_with fail
  refine (rgcan_is s y a b true _ HN.out).mono ?_
  rintro e w2 ⟨rfl, hb⟩
  obtain ⟨m0, m1, hB⟩ := gs_keep m0 m1 hB hb
  clear hb
  go_wp2_with fail
  refine (HM.out _).mono ?_
  rintro e w3 ⟨rfl, hb⟩
  obtain ⟨m0, m1, hB⟩ := gs_keep m0 m1 hB hb
  clear hb
  go_wp2_with fail
  go_loopw [7] (fun i wr => ∃ k : Nat, k ≤ 90 ∧ i = .int .i64 k ∧ wr.cell? ⟨w.heap.size, 0, none⟩ = some (.int .i64 (a : Int)) ∧ wr.cell? ⟨w.heap.size, 1, none⟩ = some (.int .i64 (b : Int)) ∧ Below w.heap.size w wr ∧ Hid (∀ j : Nat, j < k → couldB q z j b = false)) (fun i _ => 90 - (intOf i).toNat)
  case atStart => exact ⟨0, Nat.zero_le _, rfl, m0, m1, hB, fun j hj => absurd hj (Nat.not_lt_zero _)⟩
  case round =>
    obtain ⟨k, hk, rfl, n0, n1, hBr, hno⟩ := hrel
    by_cases hlt : k < 90
    · have hkq : k < q.size := by rw [HQZ.out]; exact hlt
      obtain ⟨d, hd⟩ : ∃ d, bAt q k = d := ⟨_, rfl⟩
      have hbd : q[k].toNat = d := (bAt_eq q k hkq).trans hd
      obtain ⟨t, ht⟩ : ∃ t, sideN d = t := ⟨_, rfl⟩
      have HT := Lib.hid ht
      have b1 : (k : Int) < 90 := by omega
      have hz1 := HZ.out
      by_cases htz : t = z
      · obtain ⟨v, hv⟩ : ∃ v, couldB q z k b = v := ⟨_, rfl⟩
        have HV : Hid (couldI q z (k : Int) (b : Int) = v) := by
          show _ = _
          rw [couldI_nat HQB.out hlt hb9, hv]
        have HVB := Lib.hid hv
        have e1 : (t == 1 - y) = true := by rw [beq_iff_eq]; omega
        clear hd ht htz hv hz1
        cases v
        · go_wp2_with fail
          refine (rside_s d t _ HT.out).mono ?_
          rintro e w4 ⟨rfl, rfl⟩
          go_wp2_with fail
          rw [HZ.out]
          refine (rgcan_is q z k b false _ HV.out).mono ?_
          rintro e w5 ⟨rfl, hb⟩
          have hk5 := gs_keep n0 n1 hBr hb
          clear n0 n1 hBr
          go_wp2
          go_roundw
          case rel =>
            refine ⟨k + 1, by omega, by go_num, hk5.1, hk5.2.1, hk5.2.2, ?_⟩
            show ∀ j : Nat, j < k + 1 → _
            intro j hj
            by_cases e : j = k
            · rw [e]
              exact HVB.out
            · exact hno.out j (by omega)
          case measure => simp [intOf]; omega
        · have hfin : Hid (r = true) := by
            show _ = _
            rw [← HR.out]
            unfold againB
            rw [List.any_eq_true]
            exact ⟨k, List.mem_range.2 hlt, HVB.out⟩
          go_wp2_with fail
          refine (rside_s d t _ HT.out).mono ?_
          rintro e w4 ⟨rfl, rfl⟩
          go_wp2_with fail
          rw [HZ.out]
          refine (rgcan_is q z k b true _ HV.out).mono ?_
          rintro e w5 ⟨rfl, hb⟩
          have hk5 := gs_keep n0 n1 hBr hb
          clear n0 n1 hBr
          go_wp2
          go_ret
          exact ⟨by rw [hfin.out]; rfl, hk5.2.2⟩
      · have HVB : Hid (couldB q z k b = false) := by
          show _ = _
          cases e : couldB q z k b
          · rfl
          · have := (could_parts.1 e).1
            rw [hd, ht] at this
            exact absurd this htz
        have e1 : (t == 1 - y) = false := by rw [beq_eq_false_iff_ne]; omega
        clear hd ht htz hz1
        go_wp2_with fail
        refine (rside_s d t _ HT.out).mono ?_
        rintro e w4 ⟨rfl, rfl⟩
        go_wp2
        go_roundw
        case rel =>
          refine ⟨k + 1, by omega, by go_num, n0, n1, hBr, ?_⟩
          show ∀ j : Nat, j < k + 1 → _
          intro j hj
          by_cases e : j = k
          · rw [e]
            exact HVB.out
          · exact hno.out j (by omega)
        case measure => simp [intOf]; omega
    · obtain rfl : k = 90 := by omega
      have hfin : Hid (r = false) := by
        show _ = _
        rw [← HR.out]
        unfold againB
        rw [List.any_eq_false]
        intro j hj
        rw [hno.out j (List.mem_range.1 hj)]
        decide
      go_wp2
      go_ret
      exact ⟨by rw [hfin.out]; rfl, hBr⟩
theorem rgguard_any (s : ByteArray) (a b : Int) (w : World) : Calls Tryz.prog 194 #[.string s, .agg #[.int .i64 a, .int .i64 b]] w (Gives w (.bool (guardI s a b))) := by
  by_cases h : isB s = true ∧ 0 ≤ a ∧ a ≤ 89
  · obtain ⟨hs, a0, a1⟩ := h
    obtain ⟨x, rfl⟩ : ∃ x : Nat, a = x := ⟨a.toNat, by omega⟩
    have hx : x < 90 := by omega
    cases hc : couldI s (sideN (bAt s x)) (x : Int) b
    · have hg : guardI s (x : Int) b = false := by
        cases e : guardI s (x : Int) b
        · rfl
        · have h1 := guardI_could e
          rw [Int.toNat_natCast, hc] at h1
          cases h1
      rw [hg]
      exact rgguard_not s x _ b _ w hs hx rfl rfl hc
    · obtain ⟨_, _, ⟨b0, b1⟩, h4⟩ := couldI_parts hc
      obtain ⟨y, rfl⟩ : ∃ y : Nat, b = y := ⟨b.toNat, by omega⟩
      have hy : y < 90 := by omega
      simp only [Int.toNat_natCast] at h4
      have hsd := could_sides h4
      have hv : guardI s (x : Int) (y : Int) = againB (behindS s (x, y)) (1 - sideN (bAt s x)) y := by
        rw [guardI_nat hs hx hy]
        unfold guardB
        rw [h4, Bool.true_and]
      rw [hv]
      exact rgguard_yes s _ x y _ _ _ _ w hs hx hy (can_self (could_parts.1 h4).2.1) rfl rfl hc (by omega) (by omega) rfl rfl (moved_board hs (bAt_lt s x) (isB_fill hs x hx)) rfl
  · have hg : guardI s a b = false := by
      cases e : guardI s a b
      · rfl
      · obtain ⟨h1, h2, _, _⟩ := couldI_parts (guardI_could e)
        exact absurd ⟨h1, h2.1, by omega⟩ h
    rw [hg]
    refine rgguard_no s a b w ?_
    cases hs : isB s
    · exact .inl rfl
    · rw [hs] at h
      by_cases c3 : a < 0
      · exact .inr (.inl c3)
      · exact .inr (.inr (by
          by_cases c4 : a ≤ 89
          · exact absurd ⟨rfl, by omega, c4⟩ h
          · omega))
theorem rgguard_is (s : ByteArray) (a b : Int) (v : Bool) (w : World) (h : guardI s a b = v) : Calls Tryz.prog 194 #[.string s, .agg #[.int .i64 a, .int .i64 b]] w (Gives w (.bool v)) := by subst h; exact rgguard_any s a b w
end Go.Proofs.YtnkbilikkbaeeaaGreatDoor
