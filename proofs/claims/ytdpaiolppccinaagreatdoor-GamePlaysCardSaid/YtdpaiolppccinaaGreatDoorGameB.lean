/- What the calls on a game answer, and how they leave it: New, Pieces, Past, Copy; a step put and taken. -/
import Derived.Test.YtdpaiolppccinaaGreatDoorGameA
namespace Go.Proofs.YtdpaiolppccinaaGreatDoor
open Go.RowKit Go.Shelf
open M (S)

theorem below_one (w : World) (o : Obj) : Below w.heap.size w (w.alloc o) := (Below.refl _ _).alloc (Nat.le_refl _) _
theorem gpieces_nil (side : Int) (w : World) : Calls Tryz.prog 17 #[.pointer none, .int .i64 side] w fun e w' => e = .returned (.slice none 0 0) ∧ w = w' := by
  go_enter Tryz.func17, Tryz.ntmps17
  go_wp2
  go_ret
  exact ⟨rfl, rfl⟩
set_option maxHeartbeats 1000000 in
theorem gpieces_is {n₀ : Nat} {w : World} {g : Nat} {v : Value} {st : List Stp} {now : Po} (h : GAt n₀ w g v st now) (hT : Tab w) (side : Int) (n : Nat) (hn : (piecesL now.s side).length = n) : Calls Tryz.prog 17 #[.pointer (some ⟨g, 0, none⟩), .int .i64 side] w (GivesN w (piecesL now.s side) n) := by
  unfold GivesN
  obtain ⟨g0, g1, g2, g3, g4⟩ := gcells h.blk
  have HN := Lib.hid hn
  clear hn h
  go_enter Tryz.func17, Tryz.ntmps17
  go_wp2_with fail
  refine (pieces_is now.s side n _ hT HN.out).mono ?_
  rintro e w1 ⟨A, c, rfl, rd, hb⟩
  go_wp2
  go_ret
  exact ⟨A, c, rfl, rd, hb⟩
theorem past_nil (w : World) : Calls Tryz.prog 15 #[.pointer none] w fun e w' => e = .returned (.slice none 0 0) ∧ w = w' := by
  go_enter Tryz.func15, Tryz.ntmps15
  go_wp2
  go_ret
  exact ⟨rfl, rfl⟩
theorem make0 (w : World) : (Instr.makeSlice 42 (.int .i64 0) (.int .i64 0)).run Tryz.prog w = .ok (.slice (some ⟨w.heap.size, 0, none⟩) 0 0) (w.alloc (.cells #[] 34)) := by kernel_rfl
attribute [local go_sem ↓] make0 in
set_option maxRecDepth 100000 in
set_option maxHeartbeats 2000000 in
theorem moves_none {n₀ : Nat} {w : World} {g : Nat} {v : Value} {now : Po} (h : GAt n₀ w g v [] now) : Calls Tryz.prog 26 #[.pointer (some ⟨g, 0, none⟩)] w fun e w' => ∃ A c, e = .returned (.slice A 0 c) ∧ Below w.heap.size w w' := by
  obtain ⟨A, c, rfl⟩ := h.slice
  have hc := (gcells h.blk).1
  simp only [List.length_nil] at hc
  go_enter Tryz.func26, Tryz.ntmps26
  go_wp2_with fail
  refine (count_is g 0 _ _ _ hc).mono ?_
  rintro e w' ⟨rfl, rfl⟩
  have hca : (w.alloc (.cells #[] 34)).cell? ⟨g, 0, none⟩ = some (.slice A 0 c) := ((below_one w _).cell (p := ⟨g, 0, none⟩) (cell_lt hc)).trans hc
  obtain ⟨W1, hW1⟩ : ∃ W1, w.alloc (.cells #[] 34) = W1 := ⟨_, rfl⟩
  have hB : Below w.heap.size w W1 := by rw [← hW1]; exact (by repeat (first | exact Below.refl _ _ | (refine Below.setCell ?_ (by first | omega | (simp; done) | (simp; omega) | (simp at *; omega)) _) | (refine Below.alloc ?_ (by first | omega | (simp; done) | (simp; omega) | (simp at *; omega)) _) | refine Below.drew ?_ | (refine below_drewN ?_ _) | (refine Below.trans ?_ (Below.mono (by assumption) (by first | omega | (simp; done) | (simp; omega) | (simp at *; omega))))))
  rw [hW1] at hca
  go_wp2_with fail
  clear hca hW1 hc h
  go_loopw [14] (fun i wr => i = .int .i64 0 ∧ Below w.heap.size w wr) (fun _ _ => 0)
  case atStart => exact ⟨rfl, hB⟩
  case round =>
    obtain ⟨rfl, hR⟩ := hrel
    go_wp2
    go_ret
    exact ⟨_, _, rfl, hR⟩
set_option maxHeartbeats 1000000 in
theorem past_none {n₀ : Nat} {w : World} {g : Nat} {v : Value} {now : Po} (h : GAt n₀ w g v [] now) : Calls Tryz.prog 15 #[.pointer (some ⟨g, 0, none⟩)] w fun e w' => ∃ A c, e = .returned (.slice A 0 c) ∧ Below w.heap.size w w' := by
  have hm := moves_none h
  clear h
  go_enter Tryz.func15, Tryz.ntmps15
  go_wp2_with fail
  refine hm.mono ?_
  rintro e w1 ⟨A, c, rfl, hb⟩
  go_wp2
  go_ret
  exact ⟨A, c, rfl, hb⟩
set_option maxHeartbeats 2000000 in
theorem new_bad (s : ByteArray) (y z u k : Int) (w : World) (hT : Tab w) (hk : wellN s y z u = k) (h0 : (k != 0) = true) :
    Calls Tryz.prog 5 #[.agg #[.string s, .int .i64 y, .int .i64 z, .int .i64 u]] w (Gives w (.tuple #[.pointer none, .int .i64 k])) := by
  unfold Gives
  obtain ⟨W0, hW0⟩ : ∃ W0, w.alloc (.cells #[.string s, .int .i64 y, .int .i64 z, .int .i64 u] 23) = W0 := ⟨_, rfl⟩
  have hB : Below w.heap.size w W0 := by rw [← hW0]; exact (by repeat (first | exact Below.refl _ _ | (refine Below.setCell ?_ (by first | omega | (simp; done) | (simp; omega) | (simp at *; omega)) _) | (refine Below.alloc ?_ (by first | omega | (simp; done) | (simp; omega) | (simp at *; omega)) _) | refine Below.drew ?_ | (refine below_drewN ?_ _) | (refine Below.trans ?_ (Below.mono (by assumption) (by first | omega | (simp; done) | (simp; omega) | (simp at *; omega))))))
  have bP : Blk W0 w.heap.size 23 #[.string s, .int .i64 y, .int .i64 z, .int .i64 u] := by rw [← hW0]; exact Blk.new _ _ _ rfl
  obtain ⟨p0, p1, p2, p3⟩ := ppos_cells bP
  have HW := Lib.hid hW0
  have HK := Lib.hid hk
  clear hW0 hk
  go_enter Tryz.func5, Tryz.ntmps5
  go_wp2_with fail
  rw [HW.out]
  go_wp2_with fail
  refine (well_is s y z u k _ (hT.next hB) HK.out).mono ?_
  rintro e w1 ⟨rfl, hb⟩
  go_wp2
  go_ret2
  exact ⟨rfl, hB.trans (hb.mono hB.size)⟩
set_option maxHeartbeats 2000000 in
theorem new_is (s : ByteArray) (y z u : Int) (w : World) (hT : Tab w) (hk : wellN s y z u = 0) :
    Calls Tryz.prog 5 #[.agg #[.string s, .int .i64 y, .int .i64 z, .int .i64 u]] w fun e w' => ∃ g, e = .returned (.tuple #[.pointer (some ⟨g, 0, none⟩), .int .i64 0]) ∧ w.heap.size ≤ g ∧ Blk w' g 57 #[.slice none 0 0, .string s, .int .i64 y, .int .i64 z, .int .i64 u] ∧ Below w.heap.size w w' := by
  obtain ⟨W0, hW0⟩ : ∃ W0, w.alloc (.cells #[.string s, .int .i64 y, .int .i64 z, .int .i64 u] 23) = W0 := ⟨_, rfl⟩
  have hB : Below w.heap.size w W0 := by rw [← hW0]; exact (by repeat (first | exact Below.refl _ _ | (refine Below.setCell ?_ (by first | omega | (simp; done) | (simp; omega) | (simp at *; omega)) _) | (refine Below.alloc ?_ (by first | omega | (simp; done) | (simp; omega) | (simp at *; omega)) _) | refine Below.drew ?_ | (refine below_drewN ?_ _) | (refine Below.trans ?_ (Below.mono (by assumption) (by first | omega | (simp; done) | (simp; omega) | (simp at *; omega))))))
  have bP : Blk W0 w.heap.size 23 #[.string s, .int .i64 y, .int .i64 z, .int .i64 u] := by rw [← hW0]; exact Blk.new _ _ _ rfl
  obtain ⟨p0, p1, p2, p3⟩ := ppos_cells bP
  have HW := Lib.hid hW0
  have HK := Lib.hid hk
  clear hW0 hk
  go_enter Tryz.func5, Tryz.ntmps5
  go_wp2_with fail
  rw [HW.out]
  go_wp2_with fail
  refine (well_is s y z u 0 _ (hT.next hB) HK.out).mono ?_
  rintro e w1 ⟨rfl, hb⟩
  have hB1 := hB.trans (hb.mono hB.size)
  obtain ⟨q0, q1, q2, q3⟩ := ppos_cells (bP.next hb)
  go_wp2_with fail
  go_ret2
  exact ⟨w1.heap.size, rfl, hB1.size, Blk.new _ _ _ rfl, hB1.alloc hB1.size _⟩
end Go.Proofs.YtdpaiolppccinaaGreatDoor
