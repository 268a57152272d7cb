/- What the calls on a game answer, and how they leave it: New, Pieces, Past, Copy; a step put and taken. -/
import Derived.Test.YtelngcfpnbeakaaGreatDoorGameA
namespace Go.Proofs.YtelngcfpnbeakaaGreatDoor
open Go.RowKit Go.Shelf
open M (S)

theorem below_one (w : World) (o : Obj) : Below w.heap.size w (w.alloc o) := (Below.refl _ _).alloc (Nat.le_refl _) _
set_option maxHeartbeats 2000000 in
theorem new_bad (s : ByteArray) (y z u k : Int) (w : World) (hT : Tab w) (hk : wellN s y z u = k) (h0 : (k != 0) = true) :
    Calls Tryz.prog 19 #[.agg #[.string s, .int .i64 y, .int .i64 z, .int .i64 u]] w (Gives w (.tuple #[.pointer none, .int .i64 k])) := by
  unfold Gives
  obtain ⟨W0, hW0⟩ : ∃ W0, w.alloc (.cells #[.string s, .int .i64 y, .int .i64 z, .int .i64 u] 23) = W0 := ⟨_, rfl⟩
  have hB : Below w.heap.size w W0 := by rw [← hW0]; exact (by repeat (first | exact Below.refl _ _ | (refine Below.setCell ?_ (by first | omega | (simp; done) | (simp; omega) | (simp at *; omega)) _) | (refine Below.alloc ?_ (by first | omega | (simp; done) | (simp; omega) | (simp at *; omega)) _) | refine Below.drew ?_ | (refine below_drewN ?_ _) | (refine Below.trans ?_ (Below.mono (by assumption) (by first | omega | (simp; done) | (simp; omega) | (simp at *; omega))))))
  have bP : Blk W0 w.heap.size 23 #[.string s, .int .i64 y, .int .i64 z, .int .i64 u] := by rw [← hW0]; exact Blk.new _ _ _ rfl
  obtain ⟨p0, p1, p2, p3⟩ := ppos_cells bP
  have HW := Lib.hid hW0
  have HK := Lib.hid hk
  clear hW0 hk
  go_enter Tryz.func19, Tryz.ntmps19
  go_wp2_with fail
  rw [HW.out]
  go_wp2_with fail
  refine (well_is s y z u k _ (hT.next hB) HK.out).mono ?_
  rintro e w1 ⟨rfl, hb⟩
  go_wp2
  go_ret2
  exact ⟨rfl, hB.trans (hb.mono hB.size)⟩
set_option maxHeartbeats 2000000 in
theorem new_is (s : ByteArray) (y z u : Int) (w : World) (hT : Tab w) (hk : wellN s y z u = 0) :
    Calls Tryz.prog 19 #[.agg #[.string s, .int .i64 y, .int .i64 z, .int .i64 u]] w fun e w' => ∃ g, e = .returned (.tuple #[.pointer (some ⟨g, 0, none⟩), .int .i64 0]) ∧ w.heap.size ≤ g ∧ Blk w' g 63 #[.slice none 0 0, .string s, .int .i64 y, .int .i64 z, .int .i64 u] ∧ Below w.heap.size w w' := by
  obtain ⟨W0, hW0⟩ : ∃ W0, w.alloc (.cells #[.string s, .int .i64 y, .int .i64 z, .int .i64 u] 23) = W0 := ⟨_, rfl⟩
  have hB : Below w.heap.size w W0 := by rw [← hW0]; exact (by repeat (first | exact Below.refl _ _ | (refine Below.setCell ?_ (by first | omega | (simp; done) | (simp; omega) | (simp at *; omega)) _) | (refine Below.alloc ?_ (by first | omega | (simp; done) | (simp; omega) | (simp at *; omega)) _) | refine Below.drew ?_ | (refine below_drewN ?_ _) | (refine Below.trans ?_ (Below.mono (by assumption) (by first | omega | (simp; done) | (simp; omega) | (simp at *; omega))))))
  have bP : Blk W0 w.heap.size 23 #[.string s, .int .i64 y, .int .i64 z, .int .i64 u] := by rw [← hW0]; exact Blk.new _ _ _ rfl
  obtain ⟨p0, p1, p2, p3⟩ := ppos_cells bP
  have HW := Lib.hid hW0
  have HK := Lib.hid hk
  clear hW0 hk
  go_enter Tryz.func19, Tryz.ntmps19
  go_wp2_with fail
  rw [HW.out]
  go_wp2_with fail
  refine (well_is s y z u 0 _ (hT.next hB) HK.out).mono ?_
  rintro e w1 ⟨rfl, hb⟩
  have hB1 := hB.trans (hb.mono hB.size)
  obtain ⟨q0, q1, q2, q3⟩ := ppos_cells (bP.next hb)
  go_wp2_with fail
  go_ret2
  exact ⟨w1.heap.size, rfl, hB1.size, Blk.new _ _ _ rfl, hB1.alloc hB1.size _⟩
end Go.Proofs.YtelngcfpnbeakaaGreatDoor
