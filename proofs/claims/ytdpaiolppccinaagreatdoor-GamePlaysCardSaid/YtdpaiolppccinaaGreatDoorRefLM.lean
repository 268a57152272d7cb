/- Merged: RefL RefL2 RefL3 RefL4. -/
import Derived.Test.YtdpaiolppccinaaGreatDoorCheckM
import Derived.Test.YtdpaiolppccinaaGreatDoorPseudoM
import Derived.Test.YtdpaiolppccinaaGreatDoorLegalM

namespace Go.Proofs.YtdpaiolppccinaaGreatDoor
open Go.RowKit Go.Shelf
open M (S)

set_option maxRecDepth 100000 in
set_option maxHeartbeats 2000000 in
theorem rsafe_is (s : ByteArray) (side : Int) (r : Bool) (w : World) (h : safeB s side = r) : Calls Tryz.prog 39 #[.string s, .int .i64 side] w (Gives w (.bool r)) := by
  unfold Gives
  obtain ⟨f, hf⟩ : ∃ f, facingB s = f := ⟨_, rfl⟩
  obtain ⟨i, hi⟩ : ∃ i, inB s side = i := ⟨_, rfl⟩
  have HF := Lib.hid hf
  have HI := Lib.hid hi
  have HR : Hid ((!f && !i) = r) := by show _ = _; rw [← h, safeB, hf, hi]
  clear hf hi h
  cases f
  · go_enter Tryz.func39, Tryz.ntmps39
    go_wp2_with fail
    refine (rfacing_is s false _ HF.out).mono ?_
    rintro e w1 ⟨rfl, hb⟩
    go_wp2_with fail
    refine (rin_is s side i _ HI.out).mono ?_
    rintro e w2 ⟨rfl, hb2⟩
    go_wp2
    go_ret
    exact ⟨by rw [← HR.out]; rfl, hb.trans (hb2.mono hb.size)⟩
  · go_enter Tryz.func39, Tryz.ntmps39
    go_wp2_with fail
    refine (rfacing_is s true _ HF.out).mono ?_
    rintro e w1 ⟨rfl, hb⟩
    go_wp2
    go_ret
    exact ⟨by rw [← HR.out]; rfl, hb⟩
end Go.Proofs.YtdpaiolppccinaaGreatDoor

namespace Go.Proofs.YtdpaiolppccinaaGreatDoor
open Go.RowKit Go.Shelf
open M (S)

/-- Those of the first k moves that may be made. -/
def legalTo (s : ByteArray) (side : Int) (l : List (Nat × Nat)) (k : Nat) : List (Nat × Nat) := (l.take k).filter (legalB s side)
theorem legalTo_succ {s : ByteArray} {side : Int} {l : List (Nat × Nat)} {k : Nat} (h : k < l.length) : legalTo s side l (k + 1) = if legalB s side l[k] then legalTo s side l k ++ [l[k]] else legalTo s side l k := by
  unfold legalTo
  rw [List.take_succ_eq_append_getElem h, List.filter_append]
  cases e : legalB s side l[k] <;> simp [e]
theorem legalTo_len (s : ByteArray) (side : Int) (l : List (Nat × Nat)) (k : Nat) : (legalTo s side l k).length ≤ k := by
  unfold legalTo
  exact Nat.le_trans (List.length_filter_le _ _) (by simp; omega)
end Go.Proofs.YtdpaiolppccinaaGreatDoor

namespace Go.Proofs.YtdpaiolppccinaaGreatDoor
open Go.RowKit Go.Shelf
open M (S)

theorem legalV_lt {s : ByteArray} {side clock full : Int} {m : Nat × Nat} (h : m ∈ legalV s side clock full) : m.1 < 90 ∧ m.2 < 90 := by
  unfold legalV at h
  split at h
  · exact movesV_lt (List.mem_filter.1 h).1
  · simp at h
theorem well_size {s : ByteArray} {side clock full : Int} (h : wellN s side clock full = 0) : s.size = 90 := isB_size (parts_board (check_zero (well_zero h).1).1)
end Go.Proofs.YtdpaiolppccinaaGreatDoor

namespace Go.Proofs.YtdpaiolppccinaaGreatDoor
open Go.RowKit Go.Shelf
open M (S)

theorem leaves_safe {s : ByteArray} {side clock full a b : Int} (hc : (checkN s side clock full : Int) = 0) (h : isM s side a b = true ∧ kindN (bAt s b.toNat) ≠ 75) : leavesI s side clock full a b = safeB (movedS s a.toNat b.toNat (bAt s a.toNat)) side := by
  rw [leaves_good h]
  have h1 := h.1
  unfold isM canI at h1
  simp only [Bool.and_eq_true] at h1
  obtain ⟨⟨⟨⟨_, ha⟩, hb⟩, hcan⟩, _⟩ := h1
  have ha2 : a.toNat < 90 := by
    unfold sqI at ha
    simp only [Bool.and_eq_true, decide_eq_true_eq] at ha
    omega
  have hb2 : b.toNat < 90 := by
    unfold sqI at hb
    simp only [Bool.and_eq_true, decide_eq_true_eq] at hb
    omega
  rw [Bool.eq_iff_iff, beq_iff_eq]
  exact well_behind hc ha2 hb2 hcan h.2
set_option maxRecDepth 100000 in
set_option maxHeartbeats 4000000 in
theorem rmake_bad (s : ByteArray) (side clock full a b k : Int) (w : World) (hk : wellN s side clock full = k) (h0 : (k != 0) = true) :
    Calls Tryz.prog 25 #[.agg #[.string s, .int .i64 side, .int .i64 clock, .int .i64 full], .agg #[.int .i64 a, .int .i64 b]] w (Gives w (noneV k)) := by
  unfold Gives noneV
  obtain ⟨W1, hW1⟩ : ∃ W1, ((w.alloc (.cells #[.string s, .int .i64 side, .int .i64 clock, .int .i64 full] 23)).alloc (.cells #[.int .i64 a, .int .i64 b] 34)).alloc (.cells #[.string ⟨#[]⟩, .int .i64 0, .int .i64 0, .int .i64 0] 23) = W1 := ⟨_, rfl⟩
  obtain ⟨hB, bP, bM, bR⟩ := ap_start hW1
  obtain ⟨p0, p1, p2, p3⟩ := ppos_cells bP
  have HC := Lib.hid hk
  have HW := Lib.hid hW1
  clear hk hW1
  go_enter Tryz.func25, Tryz.ntmps25
  go_wp2_with fail
  rw [HW.out]
  have f0 := ppos_frozen bR
  go_wp2_with fail
  refine (rwell_is s side clock full k _ HC.out).mono ?_
  rintro e w1 ⟨rfl, hb⟩
  have bR1 := bR.next hb
  obtain ⟨g0, g1, g2, g3⟩ := ppos_cells bR1
  obtain ⟨f0, f1, f2, f3⟩ := ppos_frozen bR1
  go_wp2_with fail
  refine bodyPost_ret (res_pos3 rfl _ _ rfl (mvEnd (bR1) (by omega) (hB.trans (hb.mono hB.size))).1) rfl ⟨rfl, (mvEnd (bR1) (by omega) (hB.trans (hb.mono hB.size))).2⟩
set_option maxRecDepth 100000 in
set_option maxHeartbeats 1500000 in
theorem rmake_none (s : ByteArray) (side clock full a b : Int) (w : World) (HA : Hid (∀ W, Calls Tryz.prog 38 #[.agg #[.string s, .int .i64 side, .int .i64 clock, .int .i64 full], .agg #[.int .i64 a, .int .i64 b]] W (Gives W (applyV s side clock full a b)))) (hk : wellN s side clock full = 0) (h : ¬ (isM s side a b = true ∧ kindN (bAt s b.toNat) ≠ 75)) :
    Calls Tryz.prog 25 #[.agg #[.string s, .int .i64 side, .int .i64 clock, .int .i64 full], .agg #[.int .i64 a, .int .i64 b]] w (Gives w (noneV 7)) := by
  have hV := apply_bad_value (well_check hk) h
  unfold noneV at hV
  unfold Gives noneV
  obtain ⟨W1, hW1⟩ : ∃ W1, ((w.alloc (.cells #[.string s, .int .i64 side, .int .i64 clock, .int .i64 full] 23)).alloc (.cells #[.int .i64 a, .int .i64 b] 34)).alloc (.cells #[.string ⟨#[]⟩, .int .i64 0, .int .i64 0, .int .i64 0] 23) = W1 := ⟨_, rfl⟩
  obtain ⟨hB, bP, bM, bR⟩ := ap_start hW1
  obtain ⟨p0, p1, p2, p3⟩ := ppos_cells bP
  have HC := Lib.hid hk
  rw [hV] at HA
  have HW := Lib.hid hW1
  clear hk hW1 h hV
  go_enter Tryz.func25, Tryz.ntmps25
  go_wp2_with fail
  rw [HW.out]
  have f0 := ppos_frozen bR
  go_wp2_with fail
  refine (rwell_is s side clock full 0 _ HC.out).mono ?_
  rintro e w1 ⟨rfl, hb⟩
  have hB1 := hB.trans (hb.mono hB.size)
  have bR1 := bR.next hb
  have bM1 := bM.next hb
  obtain ⟨q0, q1, q2, q3⟩ := ppos_cells (bP.next hb)
  have m0 : w1.cell? ⟨w.heap.size + 1, 0, none⟩ = some (.int .i64 a) := bM1.cell 0
  have m1 : w1.cell? ⟨w.heap.size + 1, 1, none⟩ = some (.int .i64 b) := bM1.cell 1
  clear hb bP bM p0 p1 p2 p3
  go_wp2_with fail
  refine (HA.out _).mono ?_
  rintro e w2 ⟨rfl, hb⟩
  have hB2 := hB1.trans (hb.mono hB1.size)
  have bR2 := bR1.next hb
  clear hb q0 q1 q2 q3 m0 m1 bR1 bM1 f0
  obtain ⟨W3, hW3⟩ : ∃ W3, w2.alloc (.cells #[.string ⟨#[]⟩, .int .i64 0, .int .i64 0, .int .i64 0] 23) = W3 := ⟨_, rfl⟩
  have hb3 : Below w2.heap.size w2 W3 := by rw [← hW3]; exact (by repeat (first | exact Below.refl _ _ | (refine Below.setCell ?_ (by first | omega | (simp; done) | (simp; omega) | (simp at *; omega)) _) | (refine Below.alloc ?_ (by first | omega | (simp; done) | (simp; omega) | (simp at *; omega)) _) | refine Below.drew ?_ | (refine below_drewN ?_ _) | (refine Below.trans ?_ (Below.mono (by assumption) (by first | omega | (simp; done) | (simp; omega) | (simp at *; omega))))))
  have bQ : Blk W3 w2.heap.size 23 #[.string ⟨#[]⟩, .int .i64 0, .int .i64 0, .int .i64 0] := by rw [← hW3]; exact Blk.new _ _ _ rfl
  have bR3 := bR2.next hb3
  have hB3 := hB2.trans (hb3.mono hB2.size)
  have hlt := bR2.lt
  have hBs := hB2.size
  have nq : w.heap.size + 2 ≠ w2.heap.size := by omega
  have nq1 : w.heap.size + 1 + 1 ≠ w2.heap.size := by omega
  have nq2 : w2.heap.size ≠ w.heap.size + 1 + 1 := by omega
  obtain ⟨q0, q1, q2, q3⟩ := ppos_cells bQ
  obtain ⟨z0, z1, z2, z3⟩ := ppos_frozen bQ
  obtain ⟨g0, g1, g2, g3⟩ := ppos_cells bR3
  obtain ⟨f0, f1, f2, f3⟩ := ppos_frozen bR3
  obtain ⟨W4, hW4⟩ : ∃ W4, (((W3.setCell ⟨w2.heap.size, 0, none⟩ (.string ⟨#[]⟩)).setCell ⟨w2.heap.size, 1, none⟩ (.int .i64 0)).setCell ⟨w2.heap.size, 2, none⟩ (.int .i64 0)).setCell ⟨w2.heap.size, 3, none⟩ (.int .i64 0) = W4 := ⟨_, rfl⟩
  have bR4 : Blk W4 (w.heap.size + 2) 23 #[.string ⟨#[]⟩, .int .i64 0, .int .i64 0, .int .i64 0] := by rw [← hW4]; exact (((bR3.far (p := ⟨w2.heap.size, 0, none⟩) nq _).far (p := ⟨w2.heap.size, 1, none⟩) nq _).far (p := ⟨w2.heap.size, 2, none⟩) nq _).far (p := ⟨w2.heap.size, 3, none⟩) nq _
  have hB4 : Below w.heap.size w W4 := by rw [← hW4]; exact (((hB3.setCell (p := ⟨w2.heap.size, 0, none⟩) hBs _).setCell (p := ⟨w2.heap.size, 1, none⟩) hBs _).setCell (p := ⟨w2.heap.size, 2, none⟩) hBs _).setCell (p := ⟨w2.heap.size, 3, none⟩) hBs _
  obtain ⟨j0, j1, j2, j3⟩ := ppos_cells bR4
  obtain ⟨k0, k1, k2, k3⟩ := ppos_frozen bR4
  have HR3 := Lib.hid bR3
  have HB3 := Lib.hid hB3
  have HR4 := Lib.hid bR4
  have HB4 := Lib.hid hB4
  clear hb3 bQ bR3 hB3 bR4 hB4 bR2
  go_wp2_with fail
  subst hW4
  refine bodyPost_ret (res_pos3 rfl _ _ rfl (mvEnd (HR4.out) (by omega) (HB4.out)).1) rfl ⟨rfl, (mvEnd (HR4.out) (by omega) (HB4.out)).2⟩
set_option maxRecDepth 100000 in
set_option maxHeartbeats 4000000 in
theorem rmake_good (s : ByteArray) (side clock full a b : Int) (q : ByteArray) (y z u t : Int) (f : Bool) (w : World) (HA : Hid (∀ W, Calls Tryz.prog 38 #[.agg #[.string s, .int .i64 side, .int .i64 clock, .int .i64 full], .agg #[.int .i64 a, .int .i64 b]] W (Gives W (applyV s side clock full a b)))) (hk : wellN s side clock full = 0) (hV : applyV s side clock full a b = .tuple #[.agg #[.string q, .int .i64 y, .int .i64 z, .int .i64 u], .int .u8 t, .int .i64 0]) (hq : safeB q side = f) (V : Value) (hR : V = if f then .tuple #[.agg #[.string q, .int .i64 y, .int .i64 z, .int .i64 u], .int .u8 t, .int .i64 0] else noneV 7) :
    Calls Tryz.prog 25 #[.agg #[.string s, .int .i64 side, .int .i64 clock, .int .i64 full], .agg #[.int .i64 a, .int .i64 b]] w (Gives w V) := by
  unfold Gives
  have HRV := Lib.hid hR
  clear hR
  obtain ⟨W1, hW1⟩ : ∃ W1, ((w.alloc (.cells #[.string s, .int .i64 side, .int .i64 clock, .int .i64 full] 23)).alloc (.cells #[.int .i64 a, .int .i64 b] 34)).alloc (.cells #[.string ⟨#[]⟩, .int .i64 0, .int .i64 0, .int .i64 0] 23) = W1 := ⟨_, rfl⟩
  obtain ⟨hB, bP, bM, bR⟩ := ap_start hW1
  obtain ⟨p0, p1, p2, p3⟩ := ppos_cells bP
  have HC := Lib.hid hk
  rw [hV] at HA
  have HQ := Lib.hid hq
  have HW := Lib.hid hW1
  clear hk hW1 hV hq
  go_enter Tryz.func25, Tryz.ntmps25
  go_wp2_with fail
  rw [HW.out]
  have f0 := ppos_frozen bR
  go_wp2_with fail
  refine (rwell_is s side clock full 0 _ HC.out).mono ?_
  rintro e w1 ⟨rfl, hb⟩
  have hB1 := hB.trans (hb.mono hB.size)
  have bR1 := bR.next hb
  have bM1 := bM.next hb
  have bP1 := bP.next hb
  obtain ⟨q0, q1, q2, q3⟩ := ppos_cells (bP.next hb)
  have m0 : w1.cell? ⟨w.heap.size + 1, 0, none⟩ = some (.int .i64 a) := bM1.cell 0
  have m1 : w1.cell? ⟨w.heap.size + 1, 1, none⟩ = some (.int .i64 b) := bM1.cell 1
  clear hb bP bM p0 p1 p2 p3
  go_wp2_with fail
  refine (HA.out _).mono ?_
  rintro e w2 ⟨rfl, hb⟩
  have hB2 := hB1.trans (hb.mono hB1.size)
  have bR2 := bR1.next hb
  have bP2 := bP1.next hb
  clear hb q0 q1 q2 q3 m0 m1 bR1 bM1 f0
  obtain ⟨W3, hW3⟩ : ∃ W3, w2.alloc (.cells #[.string q, .int .i64 y, .int .i64 z, .int .i64 u] 23) = W3 := ⟨_, rfl⟩
  have hb3 : Below w2.heap.size w2 W3 := by rw [← hW3]; exact (by repeat (first | exact Below.refl _ _ | (refine Below.setCell ?_ (by first | omega | (simp; done) | (simp; omega) | (simp at *; omega)) _) | (refine Below.alloc ?_ (by first | omega | (simp; done) | (simp; omega) | (simp at *; omega)) _) | refine Below.drew ?_ | (refine below_drewN ?_ _) | (refine Below.trans ?_ (Below.mono (by assumption) (by first | omega | (simp; done) | (simp; omega) | (simp at *; omega))))))
  have bQ : Blk W3 w2.heap.size 23 #[.string q, .int .i64 y, .int .i64 z, .int .i64 u] := by rw [← hW3]; exact Blk.new _ _ _ rfl
  have bR3 := bR2.next hb3
  obtain ⟨n0, n1, n2, n3⟩ := ppos_cells (bP2.next hb3)
  have hB3 := hB2.trans (hb3.mono hB2.size)
  have hlt := bR2.lt
  have nq1 : w.heap.size + 1 + 1 ≠ w2.heap.size := by omega
  have nq2 : w2.heap.size ≠ w.heap.size + 1 + 1 := by omega
  obtain ⟨q0, q1, q2, q3⟩ := ppos_cells bQ
  clear hb3 bR2
  go_wp2_with fail
  refine (rsafe_is q side f _ HQ.out).mono ?_
  rintro e w4 ⟨rfl, hb⟩
  clear n0 n1 n2 n3 bP1 bP2
  have bR4 := bR3.next hb
  have bQ4 := bQ.next hb
  have hB4 := hB3.trans (hb.mono hB3.size)
  clear hb q0 q1 q2 q3 bQ bR3 hB3 hW3
  obtain ⟨q0, q1, q2, q3⟩ := ppos_cells bQ4
  obtain ⟨g0, g1, g2, g3⟩ := ppos_cells bR4
  obtain ⟨f0, f1, f2, f3⟩ := ppos_frozen bR4
  cases f
  · have HRN : Hid (V = noneV 7) := by show _ = _; rw [HRV.out]; rfl
    go_wp2_with fail
    refine bodyPost_ret (res_pos3 rfl _ _ rfl (mvEnd bR4 (by omega) hB4).1) rfl ⟨by rw [HRN.out]; rfl, (mvEnd bR4 (by omega) hB4).2⟩
  · have HRP : Hid (V = .tuple #[.agg #[.string q, .int .i64 y, .int .i64 z, .int .i64 u], .int .u8 t, .int .i64 0]) := by show _ = _; rw [HRV.out]; rfl
    go_wp2_with fail
    refine bodyPost_ret (res_pos3 rfl _ _ rfl (mvEnd bR4 (by omega) hB4).1) rfl ⟨by rw [HRP.out]; rfl, (mvEnd bR4 (by omega) hB4).2⟩
theorem rmake_any (s : ByteArray) (side clock full a b : Int) (w : World) (HA : Hid (∀ W, Calls Tryz.prog 38 #[.agg #[.string s, .int .i64 side, .int .i64 clock, .int .i64 full], .agg #[.int .i64 a, .int .i64 b]] W (Gives W (applyV s side clock full a b)))) :
    Calls Tryz.prog 25 #[.agg #[.string s, .int .i64 side, .int .i64 clock, .int .i64 full], .agg #[.int .i64 a, .int .i64 b]] w (Gives w (makeV s side clock full a b)) := by
  unfold makeV
  by_cases hk : wellN s side clock full = 0
  · rw [if_pos hk]
    by_cases h : isM s side a b = true ∧ kindN (bAt s b.toNat) ≠ 75
    · have := rmake_good s side clock full a b _ _ _ _ _ _ w HA hk (apply_good_value (well_check hk) h) rfl _ rfl
      rw [leaves_safe (well_zero hk).1 h, apply_good_value (well_check hk) h]
      exact this
    · rw [leaves_bad h, if_neg (by simp)]
      exact rmake_none s side clock full a b w HA hk h
  · rw [if_neg hk]
    exact rmake_bad s side clock full a b _ w rfl (by rw [bne_iff_ne]; exact hk)
end Go.Proofs.YtdpaiolppccinaaGreatDoor
