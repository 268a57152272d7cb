/- A game that is none plays nothing: the call answers true. -/
import Derived.Test.YtocdmnkmepplcaaGreatDoorGameL
import Derived.Test.YtocdmnkmepplcaaGreatDoorRefLM
namespace Go.Proofs.YtocdmnkmepplcaaGreatDoor.gnil
open Go.RowKit Go.Shelf
open M (S)

theorem no_moves : legalV ⟨#[]⟩ 0 0 0 = [] := by
  unfold legalV
  rw [if_neg (by rw [live9_none]; decide)]
set_option maxRecDepth 100000 in
set_option maxHeartbeats 4000000 in
theorem walk (a b : Int) (w : World) (hT : Tab w) : Calls Tryz.prog 7 #[.agg #[.int .i64 a, .int .i64 b]] w (Gives w (.bool true)) := by
  unfold Gives
  obtain ⟨W0, hW0⟩ : ∃ W0, w.alloc (.cells #[.int .i64 a, .int .i64 b] 25) = W0 := ⟨_, rfl⟩
  have hB : Below w.heap.size w W0 := by rw [← hW0]; exact (by repeat (first | exact Below.refl _ _ | (refine Below.setCell ?_ (by first | omega | (simp; done) | (simp; omega) | (simp at *; omega)) _) | (refine Below.alloc ?_ (by first | omega | (simp; done) | (simp; omega) | (simp at *; omega)) _) | refine Below.drew ?_ | (refine below_drewN ?_ _) | (refine Below.trans ?_ (Below.mono (by assumption) (by first | omega | (simp; done) | (simp; omega) | (simp at *; omega))))))
  have bM : Blk W0 w.heap.size 25 #[.int .i64 a, .int .i64 b] := by rw [← hW0]; exact Blk.new _ _ _ rfl
  have m0 : W0.cell? ⟨w.heap.size, 0, none⟩ = some (.int .i64 a) := bM.cell 0
  have m1 : W0.cell? ⟨w.heap.size, 1, none⟩ = some (.int .i64 b) := bM.cell 1
  have HW := Lib.hid hW0
  clear hW0 bM
  go_enter Tryz.func7, Tryz.ntmps7
  go_wp2_with fail
  rw [HW.out]
  try go_wp2_with fail
  refine (gmake_nil a b _).mono ?_
  rintro e w1 ⟨rfl, hb⟩
  replace hB := hB.trans (hb.mono hB.size)
  clear hb m0 m1
  go_wp2_with fail
  refine (unmake_nil _).mono ?_
  rintro e w2 ⟨rfl, rfl⟩
  go_wp2_with fail
  refine (position_nil _).mono ?_
  rintro e w3 ⟨rfl, hb⟩
  replace hB := hB.trans (hb.mono hB.size)
  clear hb
  go_wp2_with fail
  refine (plies_nil _).mono ?_
  rintro e w4 ⟨rfl, rfl⟩
  go_wp2_with fail
  refine (past_nil _).mono ?_
  rintro e w5 ⟨rfl, rfl⟩
  go_wp2_with fail
  refine (gpieces_nil 0 _).mono ?_
  rintro e w6 ⟨rfl, rfl⟩
  go_wp2_with fail
  refine (copy_nil _).mono ?_
  rintro e w7 ⟨rfl, rfl⟩
  go_wp2_with fail
  refine (rlmoves_is ⟨#[]⟩ 0 0 0 [] 0 _ no_moves rfl).mono ?_
  rintro e w8 ⟨A, c, rfl, _, hb⟩
  replace hB := hB.trans (hb.mono hB.size)
  clear hb
  go_wp2_with fail
  refine (live9_any _ (hT.next hB)).mono ?_
  rintro e w9 ⟨rfl, hb⟩
  go_wp2
  go_ret
  exact ⟨rfl, hB.trans (hb.mono hB.size)⟩
end Go.Proofs.YtocdmnkmepplcaaGreatDoor.gnil
