/- A position's key, the other side to move, is that and Turn; clock and number are of no moment: the call answers true. -/
import Derived.Test.YtocdmnkmepplcaaKeyL
namespace Go.Proofs.Ytocdmnkmepplcaa.ksides
open Go.RowKit Go.Shelf
open M (S)

set_option maxRecDepth 100000 in
set_option maxHeartbeats 4000000 in
theorem large (s : ByteArray) (side ck fl n m : Int) (w : World) (hs : 200 < s.size) : Calls Try.prog 8 #[.agg #[.string s, .int .i64 side, .int .i64 ck, .int .i64 fl], .int .i64 n, .int .i64 m] w (Gives w (.bool true)) := by
  unfold Gives
  have hd : decide (200 < (s.size : Int)) = true := by simp; omega
  clear hs
  have hB : Below w.heap.size w (w.alloc (.cells #[.string s, .int .i64 side, .int .i64 ck, .int .i64 fl] 29)) := (by repeat (first | exact Below.refl _ _ | (refine Below.setCell ?_ (by first | omega | (simp; done) | (simp; omega) | (simp at *; omega)) _) | (refine Below.alloc ?_ (by first | omega | (simp; done) | (simp; omega) | (simp at *; omega)) _) | refine Below.drew ?_ | (refine below_drewN ?_ _) | (refine Below.trans ?_ (Below.mono (by assumption) (by first | omega | (simp; done) | (simp; omega) | (simp at *; omega))))))
  go_enter Try.func8, Try.ntmps8
  go_wp2_with fail
  refine (live10_any _).mono ?_
  rintro e w1 ⟨rfl, hb⟩
  go_wp2
  go_ret
  exact ⟨rfl, hB.trans (hb.mono hB.size)⟩
set_option maxRecDepth 100000 in
set_option maxHeartbeats 4000000 in
theorem short (s : ByteArray) (side ck fl n m : Int) (w : World) (hs : s.size ≤ 200) (h9 : s.size ≠ 90) : Calls Try.prog 8 #[.agg #[.string s, .int .i64 side, .int .i64 ck, .int .i64 fl], .int .i64 n, .int .i64 m] w (Gives w (.bool true)) := by
  unfold Gives
  have hd : decide (200 < (s.size : Int)) = false := by simp; omega
  have h90 : ((s.size : Int) != 90) = true := by rw [bne_iff_ne]; omega
  clear hs h9
  have hB : Below w.heap.size w (w.alloc (.cells #[.string s, .int .i64 side, .int .i64 ck, .int .i64 fl] 29)) := (by repeat (first | exact Below.refl _ _ | (refine Below.setCell ?_ (by first | omega | (simp; done) | (simp; omega) | (simp at *; omega)) _) | (refine Below.alloc ?_ (by first | omega | (simp; done) | (simp; omega) | (simp at *; omega)) _) | refine Below.drew ?_ | (refine below_drewN ?_ _) | (refine Below.trans ?_ (Below.mono (by assumption) (by first | omega | (simp; done) | (simp; omega) | (simp at *; omega))))))
  go_enter Try.func8, Try.ntmps8
  go_wp2_with fail
  refine (live10_any _).mono ?_
  rintro e w1 ⟨rfl, hb⟩
  go_wp2
  go_ret
  exact ⟨rfl, hB.trans (hb.mono hB.size)⟩
set_option maxRecDepth 100000 in
set_option maxHeartbeats 4000000 in
theorem below (s : ByteArray) (side ck fl n m : Int) (w : World) (hz : (s.size : Int) = 90) (hsd : side < 0) : Calls Try.prog 8 #[.agg #[.string s, .int .i64 side, .int .i64 ck, .int .i64 fl], .int .i64 n, .int .i64 m] w (Gives w (.bool true)) := by
  unfold Gives
  have hd : decide (200 < (s.size : Int)) = false := by rw [hz]; rfl
  have h90 : ((s.size : Int) != 90) = false := by rw [hz]; rfl
  have h0 : decide (side < 0) = true := by simpa using hsd
  clear hz hsd
  have hB : Below w.heap.size w (w.alloc (.cells #[.string s, .int .i64 side, .int .i64 ck, .int .i64 fl] 29)) := (by repeat (first | exact Below.refl _ _ | (refine Below.setCell ?_ (by first | omega | (simp; done) | (simp; omega) | (simp at *; omega)) _) | (refine Below.alloc ?_ (by first | omega | (simp; done) | (simp; omega) | (simp at *; omega)) _) | refine Below.drew ?_ | (refine below_drewN ?_ _) | (refine Below.trans ?_ (Below.mono (by assumption) (by first | omega | (simp; done) | (simp; omega) | (simp at *; omega))))))
  go_enter Try.func8, Try.ntmps8
  go_wp2_with fail
  refine (live10_any _).mono ?_
  rintro e w1 ⟨rfl, hb⟩
  go_wp2
  go_ret
  exact ⟨rfl, hB.trans (hb.mono hB.size)⟩
set_option maxRecDepth 100000 in
set_option maxHeartbeats 4000000 in
theorem above (s : ByteArray) (side ck fl n m : Int) (w : World) (hz : (s.size : Int) = 90) (hsd : 1 < side) : Calls Try.prog 8 #[.agg #[.string s, .int .i64 side, .int .i64 ck, .int .i64 fl], .int .i64 n, .int .i64 m] w (Gives w (.bool true)) := by
  unfold Gives
  have hd : decide (200 < (s.size : Int)) = false := by rw [hz]; rfl
  have h90 : ((s.size : Int) != 90) = false := by rw [hz]; rfl
  have h0 : decide (side < 0) = false := by simp; omega
  have h1 : decide (1 < side) = true := by simpa using hsd
  clear hz hsd
  have hB : Below w.heap.size w (w.alloc (.cells #[.string s, .int .i64 side, .int .i64 ck, .int .i64 fl] 29)) := (by repeat (first | exact Below.refl _ _ | (refine Below.setCell ?_ (by first | omega | (simp; done) | (simp; omega) | (simp at *; omega)) _) | (refine Below.alloc ?_ (by first | omega | (simp; done) | (simp; omega) | (simp at *; omega)) _) | refine Below.drew ?_ | (refine below_drewN ?_ _) | (refine Below.trans ?_ (Below.mono (by assumption) (by first | omega | (simp; done) | (simp; omega) | (simp at *; omega))))))
  go_enter Try.func8, Try.ntmps8
  go_wp2_with fail
  refine (live10_any _).mono ?_
  rintro e w1 ⟨rfl, hb⟩
  go_wp2
  go_ret
  exact ⟨rfl, hB.trans (hb.mono hB.size)⟩
theorem eight_keep {s : ByteArray} {side ck fl n m sd : Int} {w W W' : World} (h : W.cell? ⟨w.heap.size, 0, none⟩ = some (.string s) ∧ W.cell? ⟨w.heap.size, 1, none⟩ = some (.int .i64 side) ∧ W.cell? ⟨w.heap.size, 2, none⟩ = some (.int .i64 ck) ∧ W.cell? ⟨w.heap.size, 3, none⟩ = some (.int .i64 fl) ∧ W.cell? ⟨w.heap.size + 1, 0, none⟩ = some (.string s) ∧ W.cell? ⟨w.heap.size + 1, 1, none⟩ = some (.int .i64 sd) ∧ W.cell? ⟨w.heap.size + 1, 2, none⟩ = some (.int .i64 n) ∧ W.cell? ⟨w.heap.size + 1, 3, none⟩ = some (.int .i64 m) ∧ Below w.heap.size w W) (hb : Below W.heap.size W W') : W'.cell? ⟨w.heap.size, 0, none⟩ = some (.string s) ∧ W'.cell? ⟨w.heap.size, 1, none⟩ = some (.int .i64 side) ∧ W'.cell? ⟨w.heap.size, 2, none⟩ = some (.int .i64 ck) ∧ W'.cell? ⟨w.heap.size, 3, none⟩ = some (.int .i64 fl) ∧ W'.cell? ⟨w.heap.size + 1, 0, none⟩ = some (.string s) ∧ W'.cell? ⟨w.heap.size + 1, 1, none⟩ = some (.int .i64 sd) ∧ W'.cell? ⟨w.heap.size + 1, 2, none⟩ = some (.int .i64 n) ∧ W'.cell? ⟨w.heap.size + 1, 3, none⟩ = some (.int .i64 m) ∧ Below w.heap.size w W' := by
  obtain ⟨h0, h1, h2, h3, h4, h5, h6, h7, h8⟩ := h
  exact ⟨(hb.cell (p := ⟨w.heap.size, 0, none⟩) (cell_lt h0)).trans h0, (hb.cell (p := ⟨w.heap.size, 1, none⟩) (cell_lt h1)).trans h1, (hb.cell (p := ⟨w.heap.size, 2, none⟩) (cell_lt h2)).trans h2, (hb.cell (p := ⟨w.heap.size, 3, none⟩) (cell_lt h3)).trans h3, (hb.cell (p := ⟨w.heap.size + 1, 0, none⟩) (cell_lt h4)).trans h4, (hb.cell (p := ⟨w.heap.size + 1, 1, none⟩) (cell_lt h5)).trans h5, (hb.cell (p := ⟨w.heap.size + 1, 2, none⟩) (cell_lt h6)).trans h6, (hb.cell (p := ⟨w.heap.size + 1, 3, none⟩) (cell_lt h7)).trans h7, h8.trans (hb.mono h8.size)⟩
theorem nine_keep {s : ByteArray} {side ck fl n m sd : Int} {w W0 W W' : World} (h : (W.cell? ⟨w.heap.size, 0, none⟩ = some (.string s) ∧ W.cell? ⟨w.heap.size, 1, none⟩ = some (.int .i64 side) ∧ W.cell? ⟨w.heap.size, 2, none⟩ = some (.int .i64 ck) ∧ W.cell? ⟨w.heap.size, 3, none⟩ = some (.int .i64 fl) ∧ W.cell? ⟨w.heap.size + 1, 0, none⟩ = some (.string s) ∧ W.cell? ⟨w.heap.size + 1, 1, none⟩ = some (.int .i64 sd) ∧ W.cell? ⟨w.heap.size + 1, 2, none⟩ = some (.int .i64 n) ∧ W.cell? ⟨w.heap.size + 1, 3, none⟩ = some (.int .i64 m) ∧ Below w.heap.size w W) ∧ Below W0.heap.size W0 W) (hb : Below W.heap.size W W') : (W'.cell? ⟨w.heap.size, 0, none⟩ = some (.string s) ∧ W'.cell? ⟨w.heap.size, 1, none⟩ = some (.int .i64 side) ∧ W'.cell? ⟨w.heap.size, 2, none⟩ = some (.int .i64 ck) ∧ W'.cell? ⟨w.heap.size, 3, none⟩ = some (.int .i64 fl) ∧ W'.cell? ⟨w.heap.size + 1, 0, none⟩ = some (.string s) ∧ W'.cell? ⟨w.heap.size + 1, 1, none⟩ = some (.int .i64 sd) ∧ W'.cell? ⟨w.heap.size + 1, 2, none⟩ = some (.int .i64 n) ∧ W'.cell? ⟨w.heap.size + 1, 3, none⟩ = some (.int .i64 m) ∧ Below w.heap.size w W') ∧ Below W0.heap.size W0 W' := ⟨eight_keep h.1 hb, h.2.trans (hb.mono h.2.size)⟩
theorem eight_below {s : ByteArray} {side ck fl n m sd : Int} {w W : World} (h : W.cell? ⟨w.heap.size, 0, none⟩ = some (.string s) ∧ W.cell? ⟨w.heap.size, 1, none⟩ = some (.int .i64 side) ∧ W.cell? ⟨w.heap.size, 2, none⟩ = some (.int .i64 ck) ∧ W.cell? ⟨w.heap.size, 3, none⟩ = some (.int .i64 fl) ∧ W.cell? ⟨w.heap.size + 1, 0, none⟩ = some (.string s) ∧ W.cell? ⟨w.heap.size + 1, 1, none⟩ = some (.int .i64 sd) ∧ W.cell? ⟨w.heap.size + 1, 2, none⟩ = some (.int .i64 n) ∧ W.cell? ⟨w.heap.size + 1, 3, none⟩ = some (.int .i64 m) ∧ Below w.heap.size w W) : Below w.heap.size w W := h.2.2.2.2.2.2.2.2
set_option maxRecDepth 100000 in
set_option maxHeartbeats 4000000 in
theorem good (s : ByteArray) (side ck fl n m : Int) (w : World) (hz : (s.size : Int) = 90) (hsd : side = 0 ∨ side = 1) : Calls Try.prog 8 #[.agg #[.string s, .int .i64 side, .int .i64 ck, .int .i64 fl], .int .i64 n, .int .i64 m] w (Gives w (.bool true)) := by
  unfold Gives
  have hd : decide (200 < (s.size : Int)) = false := by rw [hz]; rfl
  have h90 : ((s.size : Int) != 90) = false := by rw [hz]; rfl
  have h0 : decide (side < 0) = false := by simp; omega
  have h1 : decide (1 < side) = false := by simp; omega
  obtain ⟨o, ho⟩ : ∃ o : Int, 1 - side = o := ⟨_, rfl⟩
  have ho1 : IntKind.i64.wrap (1 - side) = o := by rw [ho]; exact IntWalk.i64_in _ (by omega)
  obtain ⟨A, hA⟩ : ∃ A, keyB s side = A := ⟨_, rfl⟩
  obtain ⟨B, hB⟩ : ∃ B, keyB s o = B := ⟨_, rfl⟩
  obtain ⟨t, ht⟩ : ∃ t, turnK = t := ⟨_, rfl⟩
  have lA : A < 18446744073709551616 := by rw [← hA]; exact key_lt _ _
  have lB : B < 18446744073709551616 := by rw [← hB]; exact key_lt _ _
  have key : (isB s = false ∧ A = 0 ∧ B = 0) ∨ (A ^^^ B = t ∧ ¬ (A = 0 ∧ B = 0)) := by
    cases hb : isB s
    · refine .inl ⟨rfl, ?_, ?_⟩
      · rw [← hA]; unfold keyB; rw [hb]; rfl
      · rw [← hB]; unfold keyB; rw [hb]; rfl
    · have hx : A ^^^ B = t := by
        rw [← hA, ← hB, ← ht]
        rcases hsd with rfl | rfl
        · rw [← ho]; exact key_sides s hb
        · rw [← ho, Nat.xor_comm]; exact key_sides s hb
      refine .inr ⟨hx, ?_⟩
      rintro ⟨rfl, rfl⟩
      exact turn_some (by rw [ht, ← hx]; rfl)
  have HA := Lib.hid hA
  have HB := Lib.hid hB
  have HT := Lib.hid ht
  have KEY := Lib.hid key
  clear hA hB ht key hz hsd ho
  go_enter Try.func8, Try.ntmps8
  go_wp2_with fail
  obtain ⟨W0, hW0⟩ : ∃ W0, (w.alloc (.cells #[.string s, .int .i64 side, .int .i64 ck, .int .i64 fl] 29)).alloc (.cells #[.string s, .int .i64 side, .int .i64 n, .int .i64 m] 29) = W0 := ⟨_, rfl⟩
  have hBw : Below w.heap.size w W0 := by rw [← hW0]; exact (by repeat (first | exact Below.refl _ _ | (refine Below.setCell ?_ (by first | omega | (simp; done) | (simp; omega) | (simp at *; omega)) _) | (refine Below.alloc ?_ (by first | omega | (simp; done) | (simp; omega) | (simp at *; omega)) _) | refine Below.drew ?_ | (refine below_drewN ?_ _) | (refine Below.trans ?_ (Below.mono (by assumption) (by first | omega | (simp; done) | (simp; omega) | (simp at *; omega))))))
  have bP : Blk W0 w.heap.size 29 #[.string s, .int .i64 side, .int .i64 ck, .int .i64 fl] := by rw [← hW0]; exact (Blk.new _ _ _ rfl).alloc _
  have bQ : Blk W0 (w.heap.size + 1) 29 #[.string s, .int .i64 side, .int .i64 n, .int .i64 m] := by rw [← hW0]; exact Blk.new _ _ _ (by simp)
  rw [hW0]
  clear hW0
  obtain ⟨p0, p1, p2, p3⟩ := kpos_cells bP
  obtain ⟨q0, q1, q2, q3⟩ := kpos_cells bQ
  have hS : W0.drew.cell? ⟨w.heap.size, 0, none⟩ = some (.string s) ∧ W0.drew.cell? ⟨w.heap.size, 1, none⟩ = some (.int .i64 side) ∧ W0.drew.cell? ⟨w.heap.size, 2, none⟩ = some (.int .i64 ck) ∧ W0.drew.cell? ⟨w.heap.size, 3, none⟩ = some (.int .i64 fl) ∧ W0.drew.cell? ⟨w.heap.size + 1, 0, none⟩ = some (.string s) ∧ W0.drew.cell? ⟨w.heap.size + 1, 1, none⟩ = some (.int .i64 side) ∧ W0.drew.cell? ⟨w.heap.size + 1, 2, none⟩ = some (.int .i64 n) ∧ W0.drew.cell? ⟨w.heap.size + 1, 3, none⟩ = some (.int .i64 m) ∧ Below w.heap.size w W0.drew := ⟨p0, p1, p2, p3, q0, q1, q2, q3, hBw.drew⟩
  clear p0 p1 p2 p3 q0 q1 q2 q3
  go_region_held3 (fun W => (W.cell? ⟨w.heap.size, 0, none⟩ = some (.string s) ∧ W.cell? ⟨w.heap.size, 1, none⟩ = some (.int .i64 side) ∧ W.cell? ⟨w.heap.size, 2, none⟩ = some (.int .i64 ck) ∧ W.cell? ⟨w.heap.size, 3, none⟩ = some (.int .i64 fl) ∧ W.cell? ⟨w.heap.size + 1, 0, none⟩ = some (.string s) ∧ W.cell? ⟨w.heap.size + 1, 1, none⟩ = some (.int .i64 side) ∧ W.cell? ⟨w.heap.size + 1, 2, none⟩ = some (.int .i64 n) ∧ W.cell? ⟨w.heap.size + 1, 3, none⟩ = some (.int .i64 m) ∧ Below w.heap.size w W) ∧ Below W0.heap.size W0 W)
    (first | exact ⟨hS, (Below.refl _ _).drew⟩ | with_reducible assumption | exact nine_keep (by assumption) hb)
    (first
      | (go_at_call 17; refine (kof_is s side _ _ A _ HA.out).mono ?_; rintro e w1 ⟨rfl, hb⟩))
  obtain ⟨_, hR⟩ := (show _ ∧ Below W0.heap.size W0 w1 from by assumption)
  have bP1 := bP.next hR
  have bQ1 := bQ.next hR
  have hB1 := hBw.trans (hR.mono hBw.size)
  clear hS hR bP bQ hBw
  have f1 := bQ1.frozen 1
  obtain ⟨p0, p1, p2, p3⟩ := kpos_cells bP1
  obtain ⟨q0, q1, q2, q3⟩ := kpos_cells bQ1
  obtain ⟨W2, hW2⟩ : ∃ W2, w1.setCell ⟨w.heap.size + 1, 1, none⟩ (.int .i64 o) = W2 := ⟨_, rfl⟩
  have bP2 : Blk W2 w.heap.size 29 #[.string s, .int .i64 side, .int .i64 ck, .int .i64 fl] := by rw [← hW2]; exact bP1.far (by simp) _
  have bQ2 : Blk W2 (w.heap.size + 1) 29 #[.string s, .int .i64 o, .int .i64 n, .int .i64 m] := by rw [← hW2]; exact bQ1.set_ 1 _
  have hB2 : Below w.heap.size w W2 := by rw [← hW2]; exact hB1.setCell (p := ⟨w.heap.size + 1, 1, none⟩) (by simp) _
  obtain ⟨r0, r1, r2, r3⟩ := kpos_cells bP2
  obtain ⟨u0, u1, u2, u3⟩ := kpos_cells bQ2
  go_wp2_with fail
  clear hW2 p0 p1 p2 p3 q0 q1 q2 q3 r0 r1 r2 r3 u0 u1 u2 u3 f1 bP1 bQ1 hB1
  refine (kof_is s side ck fl A _ HA.out).mono ?_
  rintro e w3 ⟨rfl, hb⟩
  have bP3 := bP2.next hb
  have bQ3 := bQ2.next hb
  have hB3 := hB2.trans (hb.mono hB2.size)
  clear hb bP2 bQ2 hB2
  obtain ⟨p0, p1, p2, p3⟩ := kpos_cells bP3
  obtain ⟨q0, q1, q2, q3⟩ := kpos_cells bQ3
  rcases KEY.out with ⟨_, rfl, rfl⟩ | ⟨hx, hne⟩
  · go_wp2_with fail
    refine (kof_is s o n m 0 _ HB.out).mono ?_
    rintro e w4 ⟨rfl, hb⟩
    have hB4 := hB3.trans (hb.mono hB3.size)
    go_wp2_with fail
    refine (live10_any _).mono ?_
    rintro e w5 ⟨rfl, hb5⟩
    go_wp2
    go_ret
    exact ⟨rfl, hB4.trans (hb5.mono hB4.size)⟩
  · have xab : bits .xor .u64 (A : Int) (B : Int) = (t : Int) := by rw [u64_xor_nat _ _ lA lB, hx]
    clear hx KEY lA lB
    by_cases hA0 : A = 0
    · have e0 : ((A : Int) == 0) = true := by rw [hA0]; rfl
      have e1 : ((B : Int) == 0) = false := by rw [beq_eq_false_iff_ne]; intro h; exact hne ⟨hA0, by omega⟩
      clear hA0 hne
      go_wp2_with fail
      refine (kof_is s o n m B _ HB.out).mono ?_
      rintro e w4 ⟨rfl, hb⟩
      have bP4 := bP3.next hb
      have bQ4 := bQ3.next hb
      have hB4 := hB3.trans (hb.mono hB3.size)
      clear hb p0 p1 p2 p3 q0 q1 q2 q3 bP3 bQ3 hB3
      obtain ⟨p0, p1, p2, p3⟩ := kpos_cells bP4
      obtain ⟨q0, q1, q2, q3⟩ := kpos_cells bQ4
      have hS : w4.drew.cell? ⟨w.heap.size, 0, none⟩ = some (.string s) ∧ w4.drew.cell? ⟨w.heap.size, 1, none⟩ = some (.int .i64 side) ∧ w4.drew.cell? ⟨w.heap.size, 2, none⟩ = some (.int .i64 ck) ∧ w4.drew.cell? ⟨w.heap.size, 3, none⟩ = some (.int .i64 fl) ∧ w4.drew.cell? ⟨w.heap.size + 1, 0, none⟩ = some (.string s) ∧ w4.drew.cell? ⟨w.heap.size + 1, 1, none⟩ = some (.int .i64 o) ∧ w4.drew.cell? ⟨w.heap.size + 1, 2, none⟩ = some (.int .i64 n) ∧ w4.drew.cell? ⟨w.heap.size + 1, 3, none⟩ = some (.int .i64 m) ∧ Below w.heap.size w w4.drew := ⟨p0, p1, p2, p3, q0, q1, q2, q3, hB4.drew⟩
      go_wp2_with fail
      clear p0 p1 p2 p3 q0 q1 q2 q3
      refine wp_region_held_drew (S := fun W => W.cell? ⟨w.heap.size, 0, none⟩ = some (.string s) ∧ W.cell? ⟨w.heap.size, 1, none⟩ = some (.int .i64 side) ∧ W.cell? ⟨w.heap.size, 2, none⟩ = some (.int .i64 ck) ∧ W.cell? ⟨w.heap.size, 3, none⟩ = some (.int .i64 fl) ∧ W.cell? ⟨w.heap.size + 1, 0, none⟩ = some (.string s) ∧ W.cell? ⟨w.heap.size + 1, 1, none⟩ = some (.int .i64 o) ∧ W.cell? ⟨w.heap.size + 1, 2, none⟩ = some (.int .i64 n) ∧ W.cell? ⟨w.heap.size + 1, 3, none⟩ = some (.int .i64 m) ∧ Below w.heap.size w W) (by kernel_rfl) (hS) (fun hHeld => ?_)
      refine wpAnyH_take (i := 0) (oi := { dst := some 56, op := Op.move (Operand.tmp 8), type := 4, pos := "law.go:97", after := #[], guard := none }) (v := ?_) rfl (by kernel_rfl) (by kernel_rfl) (by kernel_rfl) (fun _ _ _ h => h) (Or.inl ⟨by rfl, ?_⟩) (by assumption) ?_
      case refine_2 =>
        intro w hSw
        (try dsimp only at hSw)
        (try go_simp)
        all_goals (with_reducible rfl)
      try simp only [Act.put, List.setIfInBounds_toArray, List.set_cons_zero, List.set_cons_succ]
      refine wpAnyH_take (i := 1) (oi := { dst := some 57, op := Op.move (Operand.tmp 56), type := 4, pos := "law.go:97", after := #[{ on := 0, ground := Ground.data }], guard := none }) (v := ?_) rfl (by kernel_rfl) (by kernel_rfl) (by kernel_rfl) (fun _ _ _ h => h) (Or.inl ⟨by rfl, ?_⟩) (by assumption) ?_
      case refine_2 =>
        intro w hSw
        (try dsimp only at hSw)
        (try go_simp)
        all_goals (with_reducible rfl)
      try simp only [Act.put, List.setIfInBounds_toArray, List.set_cons_zero, List.set_cons_succ]
      refine wpAnyH_take (i := 2) (oi := { dst := some 58, op := Op.load 29 (Operand.tmp 3), type := 29, pos := "law.go:97", after := #[{ on := 1, ground := Ground.guard }], guard := some (1, true) }) (v := ?_) rfl (by kernel_rfl) (by kernel_rfl) (by kernel_rfl) (fun _ _ _ h => h) (Or.inl ⟨by rfl, ?_⟩) (by assumption) ?_
      case refine_2 =>
        intro w hSw
        (try dsimp only at hSw)
        (try go_simp)
        all_goals (with_reducible rfl)
      try simp only [Act.put, List.setIfInBounds_toArray, List.set_cons_zero, List.set_cons_succ]
      refine wpAnyH_take (i := 4) (oi := { dst := some 60, op := Op.load 29 (Operand.tmp 7), type := 29, pos := "law.go:97", after := #[{ on := 1, ground := Ground.guard }], guard := some (1, true) }) (v := ?_) rfl (by kernel_rfl) (by kernel_rfl) (by kernel_rfl) (fun _ _ _ h => h) (Or.inl ⟨by rfl, ?_⟩) (by assumption) ?_
      case refine_2 =>
        intro w hSw
        (try dsimp only at hSw)
        (try go_simp)
        all_goals (with_reducible rfl)
      try simp only [Act.put, List.setIfInBounds_toArray, List.set_cons_zero, List.set_cons_succ]
      refine wpAnyH_ready (rs := [3]) (by kernel_rfl) (by simp) (AllReadyH.cons (o := { dst := some 59, op := Op.call { callee := Callee.value (Operand.func 17), args := #[Operand.tmp 58], argTypes := #[29] }, type := 22, pos := "law.go:97", after := #[{ on := 2, ground := Ground.data }, { on := 1, ground := Ground.chain }, { on := 1, ground := Ground.guard }], guard := some (1, true) }) rfl (fun K hK => ?_) AllReadyH.nil)
      go_simp
      refine (kof_is s side ck fl A _ HA.out).mono ?_; rintro e w8 ⟨rfl, hb⟩
      refine hK.out _ _ ?_ (fun hHeld => ?_)
      · first | with_reducible assumption | exact eight_keep (by assumption) hb
      clear hK K
      refine wpAnyH_ready (rs := [5]) (by kernel_rfl) (by simp) (AllReadyH.cons (o := { dst := some 61, op := Op.call { callee := Callee.value (Operand.func 17), args := #[Operand.tmp 60], argTypes := #[29] }, type := 22, pos := "law.go:97", after := #[{ on := 4, ground := Ground.data }, { on := 3, ground := Ground.chain }, { on := 1, ground := Ground.guard }], guard := some (1, true) }) rfl (fun K hK => ?_) AllReadyH.nil)
      go_simp
      refine (kof_is s o n m B _ HB.out).mono ?_; rintro e w8 ⟨rfl, hb⟩
      refine hK.out _ _ ?_ (fun hHeld => ?_)
      · first | with_reducible assumption | exact eight_keep (by assumption) hb
      clear hK K
      refine wpAnyH_take (i := 6) (oi := { dst := some 62, op := Op.binOp BinOp.xor 22 (Operand.tmp 59) (Operand.tmp 61) 22, type := 22, pos := "law.go:97", after := #[{ on := 3, ground := Ground.data }, { on := 5, ground := Ground.data }, { on := 1, ground := Ground.guard }], guard := some (1, true) }) (v := ?_) rfl (by kernel_rfl) (by kernel_rfl) (by kernel_rfl) (fun _ _ _ h => h) (Or.inl ⟨by rfl, ?_⟩) (by assumption) ?_
      case refine_2 =>
        intro w hSw
        (try dsimp only at hSw)
        (try go_simp)
        all_goals (with_reducible rfl)
      try simp only [Act.put, List.setIfInBounds_toArray, List.set_cons_zero, List.set_cons_succ]
      refine wpAnyH_ready (rs := [7]) (by kernel_rfl) (by simp) (AllReadyH.cons (o := { dst := some 63, op := Op.call { callee := Callee.value (Operand.func 14), args := #[], argTypes := #[] }, type := 22, pos := "law.go:97", after := #[{ on := 5, ground := Ground.chain }, { on := 1, ground := Ground.guard }], guard := some (1, true) }) rfl (fun K hK => ?_) AllReadyH.nil)
      go_simp
      refine (kturn_is t _ HT.out).mono ?_; rintro e w8 ⟨rfl, hb⟩
      refine hK.out _ _ ?_ (fun hHeld => ?_)
      · first | with_reducible assumption | exact eight_keep (by assumption) hb
      clear hK K
      refine wpAnyH_take (i := 8) (oi := { dst := some 64, op := Op.binOp BinOp.eql 22 (Operand.tmp 62) (Operand.tmp 63) 22, type := 4, pos := "law.go:97", after := #[{ on := 6, ground := Ground.data }, { on := 7, ground := Ground.data }, { on := 1, ground := Ground.guard }], guard := some (1, true) }) (v := ?_) rfl (by kernel_rfl) (by kernel_rfl) (by kernel_rfl) (fun _ _ _ h => h) (Or.inl ⟨by rfl, ?_⟩) (by assumption) ?_
      case refine_2 =>
        intro w hSw
        (try dsimp only at hSw)
        (try go_simp)
        all_goals (with_reducible rfl)
      try simp only [Act.put, List.setIfInBounds_toArray, List.set_cons_zero, List.set_cons_succ]
      refine wpAnyH_take (i := 9) (oi := { dst := some 65, op := Op.pick (Operand.tmp 57) (Operand.tmp 64) (Operand.const (Value.bool false)), type := 4, pos := "law.go:97", after := #[{ on := 1, ground := Ground.data }, { on := 8, ground := Ground.data }], guard := none }) (v := ?_) rfl (by kernel_rfl) (by kernel_rfl) (by kernel_rfl) (fun _ _ _ h => h) (Or.inl ⟨by rfl, ?_⟩) (by assumption) ?_
      case refine_2 =>
        intro w hSw
        (try dsimp only at hSw)
        (try go_simp)
        all_goals (with_reducible rfl)
      try simp only [Act.put, List.setIfInBounds_toArray, List.set_cons_zero, List.set_cons_succ]
      refine wpAnyH_take (i := 10) (oi := { dst := some 66, op := Op.move (Operand.tmp 65), type := 4, pos := "law.go:97", after := #[{ on := 9, ground := Ground.data }, { on := 7, ground := Ground.chain }], guard := none }) (v := ?_) rfl (by kernel_rfl) (by kernel_rfl) (by kernel_rfl) (fun _ _ _ h => h) (Or.inl ⟨by rfl, ?_⟩) (by assumption) ?_
      case refine_2 =>
        intro w hSw
        (try dsimp only at hSw)
        (try go_simp)
        all_goals (with_reducible rfl)
      try simp only [Act.put, List.setIfInBounds_toArray, List.set_cons_zero, List.set_cons_succ]
      refine wpAnyH_ready (rs := [11]) (by kernel_rfl) (by simp) (AllReadyH.cons (o := { dst := some 67, op := Op.call { callee := Callee.value (Operand.func 16), args := #[], argTypes := #[] }, type := 4, pos := "law.go:97", after := #[{ on := 10, ground := Ground.chain }, { on := 10, ground := Ground.guard }], guard := some (10, true) }) rfl (fun K hK => ?_) AllReadyH.nil)
      go_simp
      refine (live10_any _).mono ?_; rintro e w8 ⟨rfl, hb⟩
      refine hK.out _ _ ?_ (fun hHeld => ?_)
      · first | with_reducible assumption | exact eight_keep (by assumption) hb
      clear hK K
      refine wpAnyH_take (i := 12) (oi := { dst := some 68, op := Op.pick (Operand.tmp 66) (Operand.tmp 67) (Operand.const (Value.bool false)), type := 4, pos := "law.go:97", after := #[{ on := 10, ground := Ground.data }, { on := 11, ground := Ground.data }], guard := none }) (v := ?_) rfl (by kernel_rfl) (by kernel_rfl) (by kernel_rfl) (fun _ _ _ h => h) (Or.inl ⟨by rfl, ?_⟩) (by assumption) ?_
      case refine_2 =>
        intro w hSw
        (try dsimp only at hSw)
        (try go_simp)
        all_goals (with_reducible rfl)
      try simp only [Act.put, List.setIfInBounds_toArray, List.set_cons_zero, List.set_cons_succ]
      refine wpAnyH_take (i := 13) (oi := { dst := some 6, op := Op.assign (Operand.tmp 68), type := 4, pos := "law.go:97", after := #[{ on := 12, ground := Ground.data }, { on := 11, ground := Ground.chain }, { on := 0, ground := Ground.phase }, { on := 1, ground := Ground.phase }, { on := 2, ground := Ground.phase }, { on := 3, ground := Ground.phase }, { on := 4, ground := Ground.phase }, { on := 5, ground := Ground.phase }, { on := 6, ground := Ground.phase }, { on := 7, ground := Ground.phase }, { on := 8, ground := Ground.phase }, { on := 9, ground := Ground.phase }, { on := 10, ground := Ground.phase }, { on := 11, ground := Ground.phase }, { on := 12, ground := Ground.phase }], guard := none }) (v := ?_) rfl (by kernel_rfl) (by kernel_rfl) (by kernel_rfl) (fun _ _ _ h => h) (Or.inl ⟨by rfl, ?_⟩) (by assumption) ?_
      case refine_2 =>
        intro w hSw
        (try dsimp only at hSw)
        (try go_simp)
        all_goals (with_reducible rfl)
      try simp only [Act.put, List.setIfInBounds_toArray, List.set_cons_zero, List.set_cons_succ]
      refine wpAnyH_done (by kernel_rfl) ?_ _
      go_wp2
      go_ret
      exact ⟨rfl, eight_below (by assumption)⟩
    · have e0 : ((A : Int) == 0) = false := by simp; omega
      clear hA0 hne
      have hS : w3.drew.cell? ⟨w.heap.size, 0, none⟩ = some (.string s) ∧ w3.drew.cell? ⟨w.heap.size, 1, none⟩ = some (.int .i64 side) ∧ w3.drew.cell? ⟨w.heap.size, 2, none⟩ = some (.int .i64 ck) ∧ w3.drew.cell? ⟨w.heap.size, 3, none⟩ = some (.int .i64 fl) ∧ w3.drew.cell? ⟨w.heap.size + 1, 0, none⟩ = some (.string s) ∧ w3.drew.cell? ⟨w.heap.size + 1, 1, none⟩ = some (.int .i64 o) ∧ w3.drew.cell? ⟨w.heap.size + 1, 2, none⟩ = some (.int .i64 n) ∧ w3.drew.cell? ⟨w.heap.size + 1, 3, none⟩ = some (.int .i64 m) ∧ Below w.heap.size w w3.drew := ⟨p0, p1, p2, p3, q0, q1, q2, q3, hB3.drew⟩
      go_wp2_with fail
      clear p0 p1 p2 p3 q0 q1 q2 q3
      refine wp_region_held_drew (S := fun W => W.cell? ⟨w.heap.size, 0, none⟩ = some (.string s) ∧ W.cell? ⟨w.heap.size, 1, none⟩ = some (.int .i64 side) ∧ W.cell? ⟨w.heap.size, 2, none⟩ = some (.int .i64 ck) ∧ W.cell? ⟨w.heap.size, 3, none⟩ = some (.int .i64 fl) ∧ W.cell? ⟨w.heap.size + 1, 0, none⟩ = some (.string s) ∧ W.cell? ⟨w.heap.size + 1, 1, none⟩ = some (.int .i64 o) ∧ W.cell? ⟨w.heap.size + 1, 2, none⟩ = some (.int .i64 n) ∧ W.cell? ⟨w.heap.size + 1, 3, none⟩ = some (.int .i64 m) ∧ Below w.heap.size w W) (by kernel_rfl) (hS) (fun hHeld => ?_)
      refine wpAnyH_take (i := 0) (oi := { dst := some 56, op := Op.move (Operand.tmp 8), type := 4, pos := "law.go:97", after := #[], guard := none }) (v := ?_) rfl (by kernel_rfl) (by kernel_rfl) (by kernel_rfl) (fun _ _ _ h => h) (Or.inl ⟨by rfl, ?_⟩) (by assumption) ?_
      case refine_2 =>
        intro w hSw
        (try dsimp only at hSw)
        (try go_simp)
        all_goals (with_reducible rfl)
      try simp only [Act.put, List.setIfInBounds_toArray, List.set_cons_zero, List.set_cons_succ]
      refine wpAnyH_take (i := 1) (oi := { dst := some 57, op := Op.move (Operand.tmp 56), type := 4, pos := "law.go:97", after := #[{ on := 0, ground := Ground.data }], guard := none }) (v := ?_) rfl (by kernel_rfl) (by kernel_rfl) (by kernel_rfl) (fun _ _ _ h => h) (Or.inl ⟨by rfl, ?_⟩) (by assumption) ?_
      case refine_2 =>
        intro w hSw
        (try dsimp only at hSw)
        (try go_simp)
        all_goals (with_reducible rfl)
      try simp only [Act.put, List.setIfInBounds_toArray, List.set_cons_zero, List.set_cons_succ]
      refine wpAnyH_take (i := 2) (oi := { dst := some 58, op := Op.load 29 (Operand.tmp 3), type := 29, pos := "law.go:97", after := #[{ on := 1, ground := Ground.guard }], guard := some (1, true) }) (v := ?_) rfl (by kernel_rfl) (by kernel_rfl) (by kernel_rfl) (fun _ _ _ h => h) (Or.inl ⟨by rfl, ?_⟩) (by assumption) ?_
      case refine_2 =>
        intro w hSw
        (try dsimp only at hSw)
        (try go_simp)
        all_goals (with_reducible rfl)
      try simp only [Act.put, List.setIfInBounds_toArray, List.set_cons_zero, List.set_cons_succ]
      refine wpAnyH_take (i := 4) (oi := { dst := some 60, op := Op.load 29 (Operand.tmp 7), type := 29, pos := "law.go:97", after := #[{ on := 1, ground := Ground.guard }], guard := some (1, true) }) (v := ?_) rfl (by kernel_rfl) (by kernel_rfl) (by kernel_rfl) (fun _ _ _ h => h) (Or.inl ⟨by rfl, ?_⟩) (by assumption) ?_
      case refine_2 =>
        intro w hSw
        (try dsimp only at hSw)
        (try go_simp)
        all_goals (with_reducible rfl)
      try simp only [Act.put, List.setIfInBounds_toArray, List.set_cons_zero, List.set_cons_succ]
      refine wpAnyH_ready (rs := [3]) (by kernel_rfl) (by simp) (AllReadyH.cons (o := { dst := some 59, op := Op.call { callee := Callee.value (Operand.func 17), args := #[Operand.tmp 58], argTypes := #[29] }, type := 22, pos := "law.go:97", after := #[{ on := 2, ground := Ground.data }, { on := 1, ground := Ground.chain }, { on := 1, ground := Ground.guard }], guard := some (1, true) }) rfl (fun K hK => ?_) AllReadyH.nil)
      go_simp
      refine (kof_is s side ck fl A _ HA.out).mono ?_; rintro e w8 ⟨rfl, hb⟩
      refine hK.out _ _ ?_ (fun hHeld => ?_)
      · first | with_reducible assumption | exact eight_keep (by assumption) hb
      clear hK K
      refine wpAnyH_ready (rs := [5]) (by kernel_rfl) (by simp) (AllReadyH.cons (o := { dst := some 61, op := Op.call { callee := Callee.value (Operand.func 17), args := #[Operand.tmp 60], argTypes := #[29] }, type := 22, pos := "law.go:97", after := #[{ on := 4, ground := Ground.data }, { on := 3, ground := Ground.chain }, { on := 1, ground := Ground.guard }], guard := some (1, true) }) rfl (fun K hK => ?_) AllReadyH.nil)
      go_simp
      refine (kof_is s o n m B _ HB.out).mono ?_; rintro e w8 ⟨rfl, hb⟩
      refine hK.out _ _ ?_ (fun hHeld => ?_)
      · first | with_reducible assumption | exact eight_keep (by assumption) hb
      clear hK K
      refine wpAnyH_take (i := 6) (oi := { dst := some 62, op := Op.binOp BinOp.xor 22 (Operand.tmp 59) (Operand.tmp 61) 22, type := 22, pos := "law.go:97", after := #[{ on := 3, ground := Ground.data }, { on := 5, ground := Ground.data }, { on := 1, ground := Ground.guard }], guard := some (1, true) }) (v := ?_) rfl (by kernel_rfl) (by kernel_rfl) (by kernel_rfl) (fun _ _ _ h => h) (Or.inl ⟨by rfl, ?_⟩) (by assumption) ?_
      case refine_2 =>
        intro w hSw
        (try dsimp only at hSw)
        (try go_simp)
        all_goals (with_reducible rfl)
      try simp only [Act.put, List.setIfInBounds_toArray, List.set_cons_zero, List.set_cons_succ]
      refine wpAnyH_ready (rs := [7]) (by kernel_rfl) (by simp) (AllReadyH.cons (o := { dst := some 63, op := Op.call { callee := Callee.value (Operand.func 14), args := #[], argTypes := #[] }, type := 22, pos := "law.go:97", after := #[{ on := 5, ground := Ground.chain }, { on := 1, ground := Ground.guard }], guard := some (1, true) }) rfl (fun K hK => ?_) AllReadyH.nil)
      go_simp
      refine (kturn_is t _ HT.out).mono ?_; rintro e w8 ⟨rfl, hb⟩
      refine hK.out _ _ ?_ (fun hHeld => ?_)
      · first | with_reducible assumption | exact eight_keep (by assumption) hb
      clear hK K
      refine wpAnyH_take (i := 8) (oi := { dst := some 64, op := Op.binOp BinOp.eql 22 (Operand.tmp 62) (Operand.tmp 63) 22, type := 4, pos := "law.go:97", after := #[{ on := 6, ground := Ground.data }, { on := 7, ground := Ground.data }, { on := 1, ground := Ground.guard }], guard := some (1, true) }) (v := ?_) rfl (by kernel_rfl) (by kernel_rfl) (by kernel_rfl) (fun _ _ _ h => h) (Or.inl ⟨by rfl, ?_⟩) (by assumption) ?_
      case refine_2 =>
        intro w hSw
        (try dsimp only at hSw)
        (try go_simp)
        all_goals (with_reducible rfl)
      try simp only [Act.put, List.setIfInBounds_toArray, List.set_cons_zero, List.set_cons_succ]
      refine wpAnyH_take (i := 9) (oi := { dst := some 65, op := Op.pick (Operand.tmp 57) (Operand.tmp 64) (Operand.const (Value.bool false)), type := 4, pos := "law.go:97", after := #[{ on := 1, ground := Ground.data }, { on := 8, ground := Ground.data }], guard := none }) (v := ?_) rfl (by kernel_rfl) (by kernel_rfl) (by kernel_rfl) (fun _ _ _ h => h) (Or.inl ⟨by rfl, ?_⟩) (by assumption) ?_
      case refine_2 =>
        intro w hSw
        (try dsimp only at hSw)
        (try go_simp)
        all_goals (with_reducible rfl)
      try simp only [Act.put, List.setIfInBounds_toArray, List.set_cons_zero, List.set_cons_succ]
      refine wpAnyH_take (i := 10) (oi := { dst := some 66, op := Op.move (Operand.tmp 65), type := 4, pos := "law.go:97", after := #[{ on := 9, ground := Ground.data }, { on := 7, ground := Ground.chain }], guard := none }) (v := ?_) rfl (by kernel_rfl) (by kernel_rfl) (by kernel_rfl) (fun _ _ _ h => h) (Or.inl ⟨by rfl, ?_⟩) (by assumption) ?_
      case refine_2 =>
        intro w hSw
        (try dsimp only at hSw)
        (try go_simp)
        all_goals (with_reducible rfl)
      try simp only [Act.put, List.setIfInBounds_toArray, List.set_cons_zero, List.set_cons_succ]
      refine wpAnyH_ready (rs := [11]) (by kernel_rfl) (by simp) (AllReadyH.cons (o := { dst := some 67, op := Op.call { callee := Callee.value (Operand.func 16), args := #[], argTypes := #[] }, type := 4, pos := "law.go:97", after := #[{ on := 10, ground := Ground.chain }, { on := 10, ground := Ground.guard }], guard := some (10, true) }) rfl (fun K hK => ?_) AllReadyH.nil)
      go_simp
      refine (live10_any _).mono ?_; rintro e w8 ⟨rfl, hb⟩
      refine hK.out _ _ ?_ (fun hHeld => ?_)
      · first | with_reducible assumption | exact eight_keep (by assumption) hb
      clear hK K
      refine wpAnyH_take (i := 12) (oi := { dst := some 68, op := Op.pick (Operand.tmp 66) (Operand.tmp 67) (Operand.const (Value.bool false)), type := 4, pos := "law.go:97", after := #[{ on := 10, ground := Ground.data }, { on := 11, ground := Ground.data }], guard := none }) (v := ?_) rfl (by kernel_rfl) (by kernel_rfl) (by kernel_rfl) (fun _ _ _ h => h) (Or.inl ⟨by rfl, ?_⟩) (by assumption) ?_
      case refine_2 =>
        intro w hSw
        (try dsimp only at hSw)
        (try go_simp)
        all_goals (with_reducible rfl)
      try simp only [Act.put, List.setIfInBounds_toArray, List.set_cons_zero, List.set_cons_succ]
      refine wpAnyH_take (i := 13) (oi := { dst := some 6, op := Op.assign (Operand.tmp 68), type := 4, pos := "law.go:97", after := #[{ on := 12, ground := Ground.data }, { on := 11, ground := Ground.chain }, { on := 0, ground := Ground.phase }, { on := 1, ground := Ground.phase }, { on := 2, ground := Ground.phase }, { on := 3, ground := Ground.phase }, { on := 4, ground := Ground.phase }, { on := 5, ground := Ground.phase }, { on := 6, ground := Ground.phase }, { on := 7, ground := Ground.phase }, { on := 8, ground := Ground.phase }, { on := 9, ground := Ground.phase }, { on := 10, ground := Ground.phase }, { on := 11, ground := Ground.phase }, { on := 12, ground := Ground.phase }], guard := none }) (v := ?_) rfl (by kernel_rfl) (by kernel_rfl) (by kernel_rfl) (fun _ _ _ h => h) (Or.inl ⟨by rfl, ?_⟩) (by assumption) ?_
      case refine_2 =>
        intro w hSw
        (try dsimp only at hSw)
        (try go_simp)
        all_goals (with_reducible rfl)
      try simp only [Act.put, List.setIfInBounds_toArray, List.set_cons_zero, List.set_cons_succ]
      refine wpAnyH_done (by kernel_rfl) ?_ _
      go_wp2
      go_ret
      exact ⟨rfl, eight_below (by assumption)⟩
theorem walk (s : ByteArray) (side ck fl n m : Int) (w : World) : Calls Try.prog 8 #[.agg #[.string s, .int .i64 side, .int .i64 ck, .int .i64 fl], .int .i64 n, .int .i64 m] w (Gives w (.bool true)) := by
  by_cases h1 : 200 < s.size
  · exact large s side ck fl n m w h1
  · by_cases h2 : s.size = 90
    · by_cases h3 : side < 0
      · exact below s side ck fl n m w (by omega) h3
      · by_cases h4 : 1 < side
        · exact above s side ck fl n m w (by omega) h4
        · exact good s side ck fl n m w (by omega) (by omega)
    · exact short s side ck fl n m w (by omega) h2
end Go.Proofs.Ytocdmnkmepplcaa.ksides
