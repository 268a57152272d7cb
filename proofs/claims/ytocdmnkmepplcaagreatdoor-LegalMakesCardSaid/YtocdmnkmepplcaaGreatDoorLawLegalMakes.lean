/- Any position behind any move that may be made, or why it may not be made: the call answers true. -/
import Derived.Test.YtocdmnkmepplcaaGreatDoorLive8M
import Derived.Test.YtocdmnkmepplcaaGreatDoorRefLM
import Derived.Test.YtocdmnkmepplcaaGreatDoorPseudoN
namespace Go.Proofs.YtocdmnkmepplcaaGreatDoor.lmakes
open Go.RowKit Go.Shelf
open M (S)

set_option maxRecDepth 100000 in
set_option maxHeartbeats 4000000 in
theorem large (s : ByteArray) (side clock full a b : Int) (w : World) (hT : Tab w) (hs : 200 < s.size) : Calls Tryz.prog 3 #[.agg #[.string s, .int .i64 side, .int .i64 clock, .int .i64 full], .agg #[.int .i64 a, .int .i64 b]] w (Gives w (.bool true)) := by
  unfold Gives
  have hd : decide (200 < (s.size : Int)) = true := by simp; omega
  clear hs
  obtain ⟨W0, hW0⟩ : ∃ W0, (w.alloc (.cells #[.string s, .int .i64 side, .int .i64 clock, .int .i64 full] 23)).alloc (.cells #[.int .i64 a, .int .i64 b] 25) = W0 := ⟨_, rfl⟩
  have hB : Below w.heap.size w W0 := by rw [← hW0]; exact (by repeat (first | exact Below.refl _ _ | (refine Below.setCell ?_ (by first | omega | (simp; done) | (simp; omega) | (simp at *; omega)) _) | (refine Below.alloc ?_ (by first | omega | (simp; done) | (simp; omega) | (simp at *; omega)) _) | refine Below.drew ?_ | (refine below_drewN ?_ _) | (refine Below.trans ?_ (Below.mono (by assumption) (by first | omega | (simp; done) | (simp; omega) | (simp at *; omega))))))
  have hT0 := hT.next hB
  have HW := Lib.hid hW0
  clear hW0
  go_enter Tryz.func3, Tryz.ntmps3
  go_wp2_with fail
  rw [HW.out]
  refine (live8_any _ hT0).mono ?_
  rintro e w1 ⟨rfl, hb⟩
  replace hB := hB.trans (hb.mono hB.size)
  clear hb
  go_wp2
  go_ret
  exact ⟨rfl, hB⟩
theorem rmake_is (s : ByteArray) (side clock full a b : Int) (v : Value) (w : World) (h : makeV s side clock full a b = v) : Calls Tryz.prog 10 #[.agg #[.string s, .int .i64 side, .int .i64 clock, .int .i64 full], .agg #[.int .i64 a, .int .i64 b]] w (Gives w v) := by
  subst h
  exact rmake_any s side clock full a b w (Lib.hid fun W => rapply_is s side clock full a b _ W rfl)
set_option maxRecDepth 100000 in
set_option maxHeartbeats 4000000 in
theorem small (s : ByteArray) (side clock full a b : Int) (w : World) (hT : Tab w) (hs : s.size ≤ 200) : Calls Tryz.prog 3 #[.agg #[.string s, .int .i64 side, .int .i64 clock, .int .i64 full], .agg #[.int .i64 a, .int .i64 b]] w (Gives w (.bool true)) := by
  unfold Gives
  have hd : decide (200 < (s.size : Int)) = false := by simp; omega
  clear hs
  obtain ⟨x, y, z, u, t, er, hV, hI⟩ := makeV_parts s side clock full a b
  have HV := Lib.hid hV
  have HI := Lib.hid hI.symm
  clear hV hI
  obtain ⟨W0, hW0⟩ : ∃ W0, (w.alloc (.cells #[.string s, .int .i64 side, .int .i64 clock, .int .i64 full] 23)).alloc (.cells #[.int .i64 a, .int .i64 b] 25) = W0 := ⟨_, rfl⟩
  have hB : Below w.heap.size w W0 := by rw [← hW0]; exact (by repeat (first | exact Below.refl _ _ | (refine Below.setCell ?_ (by first | omega | (simp; done) | (simp; omega) | (simp at *; omega)) _) | (refine Below.alloc ?_ (by first | omega | (simp; done) | (simp; omega) | (simp at *; omega)) _) | refine Below.drew ?_ | (refine below_drewN ?_ _) | (refine Below.trans ?_ (Below.mono (by assumption) (by first | omega | (simp; done) | (simp; omega) | (simp at *; omega))))))
  have bP : Blk W0 w.heap.size 23 #[.string s, .int .i64 side, .int .i64 clock, .int .i64 full] := by rw [← hW0]; exact (Blk.new _ _ _ rfl).alloc _
  have bM : Blk W0 (w.heap.size + 1) 25 #[.int .i64 a, .int .i64 b] := by rw [← hW0]; exact Blk.new _ _ _ (by simp)
  have hT0 := hT.next hB
  have HW := Lib.hid hW0
  clear hW0
  obtain ⟨p0, p1, p2, p3⟩ := ppos_cells bP
  have m0 : W0.cell? ⟨w.heap.size + 1, 0, none⟩ = some (.int .i64 a) := bM.cell 0
  have m1 : W0.cell? ⟨w.heap.size + 1, 1, none⟩ = some (.int .i64 b) := bM.cell 1
  go_enter Tryz.func3, Tryz.ntmps3
  go_wp2_with fail
  rw [HW.out]
  refine (make_is s side clock full a b _ _ hT0 HV.out).mono ?_
  rintro e w1 ⟨rfl, hb⟩
  clear HW p0 p1 p2 p3 m0 m1
  replace hT := hT0.next hb
  replace bP := bP.next hb
  replace bM := bM.next hb
  replace hB := hB.trans (hb.mono hB.size)
  clear hb hT0
  obtain ⟨W2, hW2⟩ : ∃ W2, w1.alloc (.cells #[.string x, .int .i64 y, .int .i64 z, .int .i64 u] 23) = W2 := ⟨_, rfl⟩
  have hb2 : Below w1.heap.size w1 W2 := by rw [← hW2]; exact (by repeat (first | exact Below.refl _ _ | (refine Below.setCell ?_ (by first | omega | (simp; done) | (simp; omega) | (simp at *; omega)) _) | (refine Below.alloc ?_ (by first | omega | (simp; done) | (simp; omega) | (simp at *; omega)) _) | refine Below.drew ?_ | (refine below_drewN ?_ _) | (refine Below.trans ?_ (Below.mono (by assumption) (by first | omega | (simp; done) | (simp; omega) | (simp at *; omega))))))
  have bQ : Blk W2 w1.heap.size 23 #[.string x, .int .i64 y, .int .i64 z, .int .i64 u] := by rw [← hW2]; exact Blk.new _ _ _ rfl
  replace hT := hT.next hb2
  replace bP := bP.next hb2
  replace bM := bM.next hb2
  replace hB := hB.trans (hb2.mono hB.size)
  obtain ⟨p0, p1, p2, p3⟩ := ppos_cells bP
  have m0 : W2.cell? ⟨w.heap.size + 1, 0, none⟩ = some (.int .i64 a) := bM.cell 0
  have m1 : W2.cell? ⟨w.heap.size + 1, 1, none⟩ = some (.int .i64 b) := bM.cell 1
  go_wp2_with fail
  refine (rmake_is s side clock full a b _ _ HV.out).mono ?_
  rintro e w3 ⟨rfl, hb⟩
  clear hW2 p0 p1 p2 p3 m0 m1 hb2
  replace hT := hT.next hb
  replace bQ := bQ.next hb
  replace bP := bP.next hb
  replace bM := bM.next hb
  replace hB := hB.trans (hb.mono hB.size)
  clear hb
  obtain ⟨W4, hW4⟩ : ∃ W4, w3.alloc (.cells #[.string x, .int .i64 y, .int .i64 z, .int .i64 u] 23) = W4 := ⟨_, rfl⟩
  have hb4 : Below w3.heap.size w3 W4 := by rw [← hW4]; exact (by repeat (first | exact Below.refl _ _ | (refine Below.setCell ?_ (by first | omega | (simp; done) | (simp; omega) | (simp at *; omega)) _) | (refine Below.alloc ?_ (by first | omega | (simp; done) | (simp; omega) | (simp at *; omega)) _) | refine Below.drew ?_ | (refine below_drewN ?_ _) | (refine Below.trans ?_ (Below.mono (by assumption) (by first | omega | (simp; done) | (simp; omega) | (simp at *; omega))))))
  have bR : Blk W4 w3.heap.size 23 #[.string x, .int .i64 y, .int .i64 z, .int .i64 u] := by rw [← hW4]; exact Blk.new _ _ _ rfl
  replace hT := hT.next hb4
  replace bQ := bQ.next hb4
  replace bP := bP.next hb4
  replace bM := bM.next hb4
  replace hB := hB.trans (hb4.mono hB.size)
  clear hb4
  obtain ⟨p0, p1, p2, p3⟩ := ppos_cells bP
  have m0 : W4.cell? ⟨w.heap.size + 1, 0, none⟩ = some (.int .i64 a) := bM.cell 0
  have m1 : W4.cell? ⟨w.heap.size + 1, 1, none⟩ = some (.int .i64 b) := bM.cell 1
  obtain ⟨q0, q1, q2, q3⟩ := ppos_cells bQ
  obtain ⟨r0, r1, r2, r3⟩ := ppos_cells bR
  go_wp2_with fail
  refine (lis_is s side clock full a b _ _ hT HI.out).mono ?_
  rintro e w6 ⟨rfl, hb⟩
  replace hT := hT.next hb
  replace hB := hB.trans (hb.mono hB.size)
  clear hb
  go_wp2_with fail
  refine (live8_any _ hT).mono ?_
  rintro e w5 ⟨rfl, hb⟩
  replace hB := hB.trans (hb.mono hB.size)
  clear hb
  go_wp2
  go_ret
  exact ⟨rfl, hB⟩
theorem walk (s : ByteArray) (side clock full a b : Int) (w : World) (hT : Tab w) : Calls Tryz.prog 3 #[.agg #[.string s, .int .i64 side, .int .i64 clock, .int .i64 full], .agg #[.int .i64 a, .int .i64 b]] w (Gives w (.bool true)) := by
  by_cases hs : s.size ≤ 200
  · exact small s side clock full a b w hT hs
  · exact large s side clock full a b w hT (by omega)
end Go.Proofs.YtocdmnkmepplcaaGreatDoor.lmakes
