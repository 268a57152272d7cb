/- The key of any position: the call answers true. -/
import Derived.Test.YtocdmnkmepplcaaKeyL
namespace Go.Proofs.Ytocdmnkmepplcaa.kof
open Go.RowKit Go.Shelf
open M (S)

theorem pos_keep {w : World} {g : Nat} {s : ByteArray} {side clock full : Int} {W W' : World} (h : W.cell? ⟨g, 0, none⟩ = some (.string s) ∧ W.cell? ⟨g, 1, none⟩ = some (.int .i64 side) ∧ W.cell? ⟨g, 2, none⟩ = some (.int .i64 clock) ∧ W.cell? ⟨g, 3, none⟩ = some (.int .i64 full) ∧ Below w.heap.size w W) (hb : Below W.heap.size W W') : W'.cell? ⟨g, 0, none⟩ = some (.string s) ∧ W'.cell? ⟨g, 1, none⟩ = some (.int .i64 side) ∧ W'.cell? ⟨g, 2, none⟩ = some (.int .i64 clock) ∧ W'.cell? ⟨g, 3, none⟩ = some (.int .i64 full) ∧ Below w.heap.size w W' := by
  obtain ⟨h0, h1, h2, h3, h5⟩ := h
  exact ⟨(hb.cell (p := ⟨g, 0, none⟩) (cell_lt h0)).trans h0, (hb.cell (p := ⟨g, 1, none⟩) (cell_lt h1)).trans h1, (hb.cell (p := ⟨g, 2, none⟩) (cell_lt h2)).trans h2, (hb.cell (p := ⟨g, 3, none⟩) (cell_lt h3)).trans h3, h5.trans (hb.mono h5.size)⟩
theorem pos_below {w : World} {g : Nat} {s : ByteArray} {side clock full : Int} {W : World} (h : W.cell? ⟨g, 0, none⟩ = some (.string s) ∧ W.cell? ⟨g, 1, none⟩ = some (.int .i64 side) ∧ W.cell? ⟨g, 2, none⟩ = some (.int .i64 clock) ∧ W.cell? ⟨g, 3, none⟩ = some (.int .i64 full) ∧ Below w.heap.size w W) : Below w.heap.size w W := h.2.2.2.2
set_option maxRecDepth 100000 in
set_option maxHeartbeats 4000000 in
theorem large (s : ByteArray) (side clock full : Int) (w : World) (hs : 200 < s.size) : Calls Try.prog 4 #[.agg #[.string s, .int .i64 side, .int .i64 clock, .int .i64 full]] w (Gives w (.bool true)) := by
  unfold Gives
  have hd : decide (200 < (s.size : Int)) = true := by simp; omega
  clear hs
  go_enter Try.func4, Try.ntmps4
  go_wp2_with fail
  have hB : Below w.heap.size w (w.alloc (.cells #[.string s, .int .i64 side, .int .i64 clock, .int .i64 full] 29)) := (by repeat (first | exact Below.refl _ _ | (refine Below.setCell ?_ (by first | omega | (simp; done) | (simp; omega) | (simp at *; omega)) _) | (refine Below.alloc ?_ (by first | omega | (simp; done) | (simp; omega) | (simp at *; omega)) _) | refine Below.drew ?_ | (refine below_drewN ?_ _) | (refine Below.trans ?_ (Below.mono (by assumption) (by first | omega | (simp; done) | (simp; omega) | (simp at *; omega))))))
  refine (live10_any _).mono ?_
  rintro e w1 ⟨rfl, hb⟩
  go_wp2
  go_ret
  exact ⟨rfl, hB.trans (hb.mono hB.size)⟩
set_option maxRecDepth 100000 in
set_option maxHeartbeats 4000000 in
theorem small (s : ByteArray) (side clock full : Int) (w : World) (hs : s.size ≤ 200) : Calls Try.prog 4 #[.agg #[.string s, .int .i64 side, .int .i64 clock, .int .i64 full]] w (Gives w (.bool true)) := by
  unfold Gives
  have hd : decide (200 < (s.size : Int)) = false := by simp; omega
  obtain ⟨k, hk⟩ : ∃ k, keyB s side = k := ⟨_, rfl⟩
  have HK := Lib.hid hk
  have hR : ∀ W, Calls Try.prog 18 #[.agg #[.string s, .int .i64 side, .int .i64 clock, .int .i64 full]] W (Gives W (.int .u64 (k : Int))) := fun W => by rw [← hk]; exact rof10_any s side clock full W
  have HR := Lib.hid hR
  clear hs hk hR
  obtain ⟨W0, hW0⟩ : ∃ W0, w.alloc (.cells #[.string s, .int .i64 side, .int .i64 clock, .int .i64 full] 29) = W0 := ⟨_, rfl⟩
  have hB : Below w.heap.size w W0 := by rw [← hW0]; exact (by repeat (first | exact Below.refl _ _ | (refine Below.setCell ?_ (by first | omega | (simp; done) | (simp; omega) | (simp at *; omega)) _) | (refine Below.alloc ?_ (by first | omega | (simp; done) | (simp; omega) | (simp at *; omega)) _) | refine Below.drew ?_ | (refine below_drewN ?_ _) | (refine Below.trans ?_ (Below.mono (by assumption) (by first | omega | (simp; done) | (simp; omega) | (simp at *; omega))))))
  have bP : Blk W0 w.heap.size 29 #[.string s, .int .i64 side, .int .i64 clock, .int .i64 full] := by rw [← hW0]; exact Blk.new _ _ _ rfl
  have HW := Lib.hid hW0
  clear hW0
  obtain ⟨p0, p1, p2, p3⟩ := kpos_cells bP
  have hS : W0.drew.cell? ⟨w.heap.size, 0, none⟩ = some (.string s) ∧ W0.drew.cell? ⟨w.heap.size, 1, none⟩ = some (.int .i64 side) ∧ W0.drew.cell? ⟨w.heap.size, 2, none⟩ = some (.int .i64 clock) ∧ W0.drew.cell? ⟨w.heap.size, 3, none⟩ = some (.int .i64 full) ∧ Below w.heap.size w W0.drew := ⟨p0, p1, p2, p3, hB.drew⟩
  go_enter Try.func4, Try.ntmps4
  go_wp2_with fail
  rw [HW.out]
  clear bP hB
  go_wp2_with fail
  clear p0 p1 p2 p3
  go_region_held3 (fun W => W.cell? ⟨w.heap.size, 0, none⟩ = some (.string s) ∧ W.cell? ⟨w.heap.size, 1, none⟩ = some (.int .i64 side) ∧ W.cell? ⟨w.heap.size, 2, none⟩ = some (.int .i64 clock) ∧ W.cell? ⟨w.heap.size, 3, none⟩ = some (.int .i64 full) ∧ Below w.heap.size w W)
    (first | exact hS | with_reducible assumption | exact pos_keep (by assumption) hb)
    (first
      | (go_at_call 17; refine (kof_is s side clock full k _ HK.out).mono ?_; rintro e w1 ⟨rfl, hb⟩)
      | (go_at_call 18; refine (HR.out _).mono ?_; rintro e w1 ⟨rfl, hb⟩)
      | (go_at_call 16; refine (live10_any _).mono ?_; rintro e w1 ⟨rfl, hb⟩))
  all_goals go_wp2
  all_goals (go_ret; exact ⟨rfl, pos_below (by assumption)⟩)
theorem walk (s : ByteArray) (side clock full : Int) (w : World) : Calls Try.prog 4 #[.agg #[.string s, .int .i64 side, .int .i64 clock, .int .i64 full]] w (Gives w (.bool true)) := by
  by_cases hs : s.size ≤ 200
  · exact small s side clock full w hs
  · exact large s side clock full w (by omega)
end Go.Proofs.Ytocdmnkmepplcaa.kof
