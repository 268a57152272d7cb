/- A position that is right, the other side to move, is right just if the general of this side is not attacked: the call answers true. -/
import Derived.Test.YtbfkkedcjodceaaDoorLive7
import Derived.Test.YtbfkkedcjodceaaDoorLegalA
namespace Go.Proofs.YtbfkkedcjodceaaDoor.cright
open Go.RowKit Go.Shelf
open M (S)

theorem pfrz {W : World} {g : Nat} {t : TypeId} {cs : Array Value} (h : Blk W g t cs) : W.frozen? ⟨g, 0, none⟩ = false ∧ W.frozen? ⟨g, 1, none⟩ = false ∧ W.frozen? ⟨g, 2, none⟩ = false ∧ W.frozen? ⟨g, 3, none⟩ = false := ⟨h.frozen 0, h.frozen 1, h.frozen 2, h.frozen 3⟩
set_option maxRecDepth 100000 in
set_option maxHeartbeats 8000000 in
theorem large (s : ByteArray) (side clock full : Int)  (w : World) (hT : Tab w) (hs : 200 < s.size) : Calls Tryd.prog 15 #[.agg #[.string s, .int .i64 side, .int .i64 clock, .int .i64 full]] w (Gives w (.bool true)) := by
  unfold Gives
  have hd : decide (200 < (s.size : Int)) = true := by simp; omega
  clear hs
  go_enter Tryd.func15, Tryd.ntmps15
  go_wp2_with fail
  obtain ⟨W0, hW0⟩ : ∃ W0, w.alloc (.cells #[.string s, .int .i64 side, .int .i64 clock, .int .i64 full] 23) = W0 := ⟨_, rfl⟩
  have hB : Below w.heap.size w W0 := by rw [← hW0]; exact (by repeat (first | exact Below.refl _ _ | (refine Below.setCell ?_ (by first | omega | (simp; done) | (simp; omega) | (simp at *; omega)) _) | (refine Below.alloc ?_ (by first | omega | (simp; done) | (simp; omega) | (simp at *; omega)) _) | refine Below.drew ?_ | (refine below_drewN ?_ _) | (refine Below.trans ?_ (Below.mono (by assumption) (by first | omega | (simp; done) | (simp; omega) | (simp at *; omega))))))
  have bP : Blk W0 w.heap.size 23 #[.string s, .int .i64 side, .int .i64 clock, .int .i64 full] := by rw [← hW0]; exact Blk.new _ _ _ rfl
  replace hT := hT.below hB hT.lt
  rw [hW0]
  clear hW0
  refine (live7_any _ hT).mono ?_
  rintro e w9 ⟨rfl, hb⟩
  go_wp2
  go_ret
  exact ⟨rfl, hB.trans (hb.mono hB.size)⟩
set_option maxRecDepth 100000 in
set_option maxHeartbeats 8000000 in
theorem bad (s : ByteArray) (side clock full : Int)  (w : World) (hT : Tab w) (k : Int) (hs : s.size ≤ 200) (hk : wellN s side clock full = k) (h0 : (k != 0) = true) : Calls Tryd.prog 15 #[.agg #[.string s, .int .i64 side, .int .i64 clock, .int .i64 full]] w (Gives w (.bool true)) := by
  unfold Gives
  have hd : decide (200 < (s.size : Int)) = false := by simp; omega
  have K := Lib.hid hk
  clear hs hk
  go_enter Tryd.func15, Tryd.ntmps15
  go_wp2_with fail
  obtain ⟨W0, hW0⟩ : ∃ W0, w.alloc (.cells #[.string s, .int .i64 side, .int .i64 clock, .int .i64 full] 23) = W0 := ⟨_, rfl⟩
  have hB : Below w.heap.size w W0 := by rw [← hW0]; exact (by repeat (first | exact Below.refl _ _ | (refine Below.setCell ?_ (by first | omega | (simp; done) | (simp; omega) | (simp at *; omega)) _) | (refine Below.alloc ?_ (by first | omega | (simp; done) | (simp; omega) | (simp at *; omega)) _) | refine Below.drew ?_ | (refine below_drewN ?_ _) | (refine Below.trans ?_ (Below.mono (by assumption) (by first | omega | (simp; done) | (simp; omega) | (simp at *; omega))))))
  have bP : Blk W0 w.heap.size 23 #[.string s, .int .i64 side, .int .i64 clock, .int .i64 full] := by rw [← hW0]; exact Blk.new _ _ _ rfl
  replace hT := hT.below hB hT.lt
  rw [hW0]
  clear hW0
  refine (well_is s side clock full k _ hT K.out).mono ?_
  rintro e w2 ⟨rfl, hb⟩
  replace hT := hT.next hb
  replace bP := bP.next hb
  replace hB := hB.trans (hb.mono hB.size)
  clear hb
  go_wp2_with fail
  refine (live7_any _ hT).mono ?_
  rintro e w9 ⟨rfl, hb⟩
  go_wp2
  go_ret
  exact ⟨rfl, hB.trans (hb.mono hB.size)⟩
set_option maxRecDepth 100000 in
set_option maxHeartbeats 8000000 in
theorem good (s : ByteArray) (side clock full : Int)  (w : World) (hT : Tab w) (hs : s.size ≤ 200) (hk : wellN s side clock full = 0) (v : Bool) (hv : inB s side = v) : Calls Tryd.prog 15 #[.agg #[.string s, .int .i64 side, .int .i64 clock, .int .i64 full]] w (Gives w (.bool true)) := by
  unfold Gives
  have hd : decide (200 < (s.size : Int)) = false := by simp; omega
  obtain ⟨hk0, _, _⟩ := well_zero hk
  obtain ⟨hside, _⟩ := check_other hk0
  have hw2 := well_other hk
  rw [hv] at hw2
  obtain ⟨o, ho⟩ : ∃ o : Int, 1 - side = o := ⟨_, rfl⟩
  rw [ho] at hw2
  have i0 : IntKind.i64.wrap o = o := IntWalk.i64_in _ (by omega)
  have i1 : IntKind.i64.wrap (1 - side) = o := by rw [ho]; exact i0
  have HC := Lib.hid hk
  have HV := Lib.hid hv
  have HW2 := Lib.hid hw2
  clear hs hk hk0 hside hv hw2
  go_enter Tryd.func15, Tryd.ntmps15
  go_wp2_with fail
  obtain ⟨W0, hW0⟩ : ∃ W0, w.alloc (.cells #[.string s, .int .i64 side, .int .i64 clock, .int .i64 full] 23) = W0 := ⟨_, rfl⟩
  have hB : Below w.heap.size w W0 := by rw [← hW0]; exact (by repeat (first | exact Below.refl _ _ | (refine Below.setCell ?_ (by first | omega | (simp; done) | (simp; omega) | (simp at *; omega)) _) | (refine Below.alloc ?_ (by first | omega | (simp; done) | (simp; omega) | (simp at *; omega)) _) | refine Below.drew ?_ | (refine below_drewN ?_ _) | (refine Below.trans ?_ (Below.mono (by assumption) (by first | omega | (simp; done) | (simp; omega) | (simp at *; omega))))))
  have bP : Blk W0 w.heap.size 23 #[.string s, .int .i64 side, .int .i64 clock, .int .i64 full] := by rw [← hW0]; exact Blk.new _ _ _ rfl
  replace hT := hT.below hB hT.lt
  rw [hW0]
  clear hW0
  refine (well_is s side clock full 0 _ hT HC.out).mono ?_
  rintro e w3 ⟨rfl, hb⟩
  have bP3 := bP.next hb
  have hT3 := hT.next hb
  have hB3 := hB.trans (hb.mono hB.size)
  clear bP hT hB hb
  obtain ⟨W4, hW4⟩ : ∃ W4, w3.alloc (.cells #[.string s, .int .i64 side, .int .i64 clock, .int .i64 full] 23) = W4 := ⟨_, rfl⟩
  have hb4 : Below w3.heap.size w3 W4 := by rw [← hW4]; exact (by repeat (first | exact Below.refl _ _ | (refine Below.setCell ?_ (by first | omega | (simp; done) | (simp; omega) | (simp at *; omega)) _) | (refine Below.alloc ?_ (by first | omega | (simp; done) | (simp; omega) | (simp at *; omega)) _) | refine Below.drew ?_ | (refine below_drewN ?_ _) | (refine Below.trans ?_ (Below.mono (by assumption) (by first | omega | (simp; done) | (simp; omega) | (simp at *; omega))))))
  have bQ : Blk W4 w3.heap.size 23 #[.string s, .int .i64 side, .int .i64 clock, .int .i64 full] := by rw [← hW4]; exact Blk.new _ _ _ rfl
  have nq : w.heap.size ≠ w3.heap.size := by have := bP3.lt; omega
  have nq' : w3.heap.size ≠ w.heap.size := fun e => nq e.symm
  have bP4 := bP3.next hb4
  obtain ⟨x0, x1, x2, x3⟩ := ppos_cells7 bP3
  obtain ⟨p0, p1, p2, p3⟩ := ppos_cells7 bP4
  obtain ⟨q0, q1, q2, q3⟩ := ppos_cells7 bQ
  obtain ⟨f0, f1, f2, f3⟩ := pfrz bQ
  obtain ⟨W5, hW5⟩ : ∃ W5, W4.setCell ⟨w3.heap.size, 1, none⟩ (.int .i64 o) = W5 := ⟨_, rfl⟩
  have hb5 : Below w3.heap.size w3 W5 := by rw [← hW5]; exact hb4.setCell (p := ⟨w3.heap.size, 1, none⟩) (Nat.le_refl _) _
  have bQ5 : Blk W5 w3.heap.size 23 #[.string s, .int .i64 o, .int .i64 clock, .int .i64 full] := by rw [← hW5]; exact bQ.set_ 1 (.int .i64 o)
  have bP5 := bP3.next hb5
  have hT5 := hT3.next hb5
  have hB5 := hB3.trans (hb5.mono hB3.size)
  obtain ⟨y0, y1, y2, y3⟩ := ppos_cells7 bQ5
  clear hb4 bQ bP4 bP3 hT3 hB3 hb5
  go_wp2_with fail
  refine (well_is s o clock full _ _ hT5 HW2.out).mono ?_
  rintro e w6 ⟨rfl, hb⟩
  have bP6 := bP5.next hb
  have hT6 := hT5.next hb
  have hB6 := hB5.trans (hb.mono hB5.size)
  clear hb p0 p1 p2 p3 q0 q1 q2 q3 f0 f1 f2 f3 x0 x1 x2 x3 y0 y1 y2 y3 hW4 hW5 bQ5 bP5 hT5 hB5
  obtain ⟨p0, p1, p2, p3⟩ := ppos_cells7 bP6
  have hS : w6.drew.cell? ⟨w.heap.size, 0, none⟩ = some (.string s) ∧ w6.drew.cell? ⟨w.heap.size, 1, none⟩ = some (.int .i64 side) ∧ w6.drew.cell? ⟨w.heap.size, 2, none⟩ = some (.int .i64 clock) ∧ w6.drew.cell? ⟨w.heap.size, 3, none⟩ = some (.int .i64 full) ∧ Tab w6.drew ∧ Below w.heap.size w w6.drew := ⟨p0, p1, p2, p3, hT6.next (Below.refl _ _).drew, hB6.drew⟩
  clear hS
  cases v
  all_goals
    first | simp only [Bool.false_eq_true, if_false] | simp only [if_true]
    go_wp2_with fail
    refine (in_is s side _ _ hT6 HV.out).mono ?_
    rintro e w7 ⟨rfl, hb⟩
    replace hT6 := hT6.next hb
    replace hB6 := hB6.trans (hb.mono hB6.size)
    clear hb
    go_wp2_with fail
    refine (live7_any _ hT6).mono ?_
    rintro e w8 ⟨rfl, hb⟩
    go_wp2
    go_ret
    exact ⟨rfl, hB6.trans (hb.mono hB6.size)⟩
theorem walk (s : ByteArray) (side clock full : Int) (w : World) (hT : Tab w) : Calls Tryd.prog 15 #[.agg #[.string s, .int .i64 side, .int .i64 clock, .int .i64 full]] w (Gives w (.bool true)) := by
  by_cases hs : s.size ≤ 200
  · by_cases hk : wellN s side clock full = 0
    · exact good s side clock full w hT hs hk _ rfl
    · exact bad s side clock full w hT _ hs rfl (by rw [bne_iff_ne]; exact hk)
  · exact large s side clock full w hT (by omega)
end Go.Proofs.YtbfkkedcjodceaaDoor.cright
