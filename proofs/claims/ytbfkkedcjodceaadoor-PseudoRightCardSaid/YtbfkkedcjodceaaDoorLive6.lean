/- The document's own examples of layer 6 hold. -/
import Derived.Test.YtbfkkedcjodceaaDoorPseudoG
import Derived.Test.YtbfkkedcjodceaaDoorPseudoH
import Derived.Test.YtbfkkedcjodceaaDoorLive3
namespace Go.Proofs.YtbfkkedcjodceaaDoor
open Go.RowKit Go.Shelf
open M (S)

structure Live6 (s : ByteArray) : Prop where
  m : (movesV s 0 0 1).length = 44
  m0 : (movesV s 0 0 1)[0]? = some (0, 9)
  c : (capsV s 0 0 1).length = 2
  a : applyV s 0 0 1 19 82 = .tuple #[.agg #[.string (movedS s 19 82 (bAt s 19)), .int .i64 1, .int .i64 0, .int .i64 1], .int .u8 110, .int .i64 0]
  b : applyV s 0 0 1 0 90 = .tuple #[.agg #[.string ⟨#[]⟩, .int .i64 0, .int .i64 0, .int .i64 0], .int .u8 0, .int .i64 7]
theorem live6_set : Live6 startS := by
  have hc : checkN startS 0 0 1 = 0 := by decide +kernel
  have h1 : isM startS 0 19 82 = true := by decide +kernel
  have h2 : isM startS 0 0 90 = false := by decide +kernel
  have h3 : bAt startS 82 = 110 := by decide +kernel
  refine ⟨?_, ?_, ?_, ?_, ?_⟩
  · decide +kernel
  · decide +kernel
  · decide +kernel
  · rw [applyV, if_neg (fun e => e hc), if_pos ⟨h1, by decide +kernel⟩]
    simp only [show (82 : Int).toNat = 82 from rfl, show (19 : Int).toNat = 19 from rfl, clockA, fullA, takenN, h3]
    rfl
  · rw [applyV, if_neg (fun e => e hc), if_neg (by simp [h2])]
theorem apply_none : applyV ⟨#[]⟩ 0 0 0 0 0 = .tuple #[.agg #[.string ⟨#[]⟩, .int .i64 0, .int .i64 0, .int .i64 0], .int .u8 0, .int .i64 1] := by
  have hc : checkN ⟨#[]⟩ 0 0 0 = 1 := by decide +kernel
  rw [applyV, if_pos (by omega), hc]
  rfl
set_option maxRecDepth 100000 in
set_option maxHeartbeats 4000000 in
theorem live6_any (w : World) (hT : Tab w) : Calls Tryd.prog 16 #[] w (Gives w (.bool true)) := by
  unfold Gives
  have hL := live6_set
  go_enter Tryd.func16, Tryd.ntmps16
  go_wp2_with fail
  have hlit : (⟨#[82, 78, 66, 65, 75, 65, 66, 78, 82, 46, 46, 46, 46, 46, 46, 46, 46, 46, 46, 67, 46, 46, 46, 46, 46, 67, 46, 80, 46, 80, 46, 80, 46, 80, 46, 80, 46, 46, 46, 46, 46, 46, 46, 46, 46, 46, 46, 46, 46, 46, 46, 46, 46, 46, 112, 46, 112, 46, 112, 46, 112, 46, 112, 46, 99, 46, 46, 46, 46, 46, 99, 46, 46, 46, 46, 46, 46, 46, 46, 46, 46, 114, 110, 98, 97, 107, 97, 98, 110, 114]⟩ : ByteArray) = startS := rfl
  simp only [hlit]
  clear hlit
  generalize startS = st at hL ⊢
  have HL := Lib.hid hL
  clear hL
  obtain ⟨W0, hW0⟩ : ∃ W0, w.alloc (.cells #[.string st, .int .i64 0, .int .i64 0, .int .i64 1] 23) = W0 := ⟨_, rfl⟩
  have hB : Below w.heap.size w W0 := by rw [← hW0]; exact (by repeat (first | exact Below.refl _ _ | (refine Below.setCell ?_ (by first | omega | (simp; done) | (simp; omega) | (simp at *; omega)) _) | (refine Below.alloc ?_ (by first | omega | (simp; done) | (simp; omega) | (simp at *; omega)) _) | refine Below.drew ?_ | (refine below_drewN ?_ _) | (refine Below.trans ?_ (Below.mono (by assumption) (by first | omega | (simp; done) | (simp; omega) | (simp at *; omega))))))
  have bP : Blk W0 w.heap.size 23 #[.string st, .int .i64 0, .int .i64 0, .int .i64 1] := by rw [← hW0]; exact Blk.new _ _ _ rfl
  replace hT := hT.next hB
  rw [hW0]
  clear hW0
  refine (moves_is st 0 0 1 _ 44 _ hT rfl HL.out.m).mono ?_
  rintro e w1 ⟨A1, k1, rfl, rd, hb⟩
  replace hT := hT.next hb
  replace bP := bP.next hb
  replace hB := hB.trans (hb.mono hB.size)
  clear hb
  obtain ⟨p0, p1, p2, p3⟩ := ppos_cells bP
  go_wp2_with fail
  refine (caps_is st 0 0 1 _ 2 _ hT rfl HL.out.c).mono ?_
  rintro e w2 ⟨A2, k2, rfl, rk, hb⟩
  replace rd := rd.next hb
  replace bP := bP.next hb
  replace hB := hB.trans (hb.mono hB.size)
  clear hb rk p0 p1 p2 p3 hT
  obtain ⟨p0, p1, p2, p3⟩ := ppos_cells bP
  go_wp2_with fail
  refine (apply_is st 0 0 1 19 82 _ _ HL.out.a).mono ?_
  rintro e w3 ⟨rfl, hb⟩
  replace rd := rd.next hb
  replace bP := bP.next hb
  replace hB := hB.trans (hb.mono hB.size)
  clear hb p0 p1 p2 p3
  obtain ⟨W4, hW4⟩ : ∃ W4, w3.alloc (.cells #[.string (movedS st 19 82 (bAt st 19)), .int .i64 1, .int .i64 0, .int .i64 1] 23) = W4 := ⟨_, rfl⟩
  have hb4 : Below w3.heap.size w3 W4 := by rw [← hW4]; exact (Below.refl _ _).alloc (Nat.le_refl _) _
  have bQ : Blk W4 w3.heap.size 23 #[.string (movedS st 19 82 (bAt st 19)), .int .i64 1, .int .i64 0, .int .i64 1] := by rw [← hW4]; exact Blk.new _ _ _ rfl
  replace rd := rd.next hb4
  replace bP := bP.next hb4
  replace hB := hB.trans (hb4.mono hB.size)
  obtain ⟨p0, p1, p2, p3⟩ := ppos_cells bP
  go_wp2_with fail
  refine (apply_is st 0 0 1 0 90 _ _ HL.out.b).mono ?_
  rintro e w5 ⟨rfl, hb⟩
  replace rd := rd.next hb
  replace bQ := bQ.next hb
  replace bP := bP.next hb
  replace hB := hB.trans (hb.mono hB.size)
  clear hb p0 p1 p2 p3 hW4 hb4
  obtain ⟨p0, p1, p2, p3⟩ := ppos_cells bP
  go_wp2_with fail
  refine (apply_is _ 0 0 0 0 0 _ _ apply_none).mono ?_
  rintro e w6' ⟨rfl, hb⟩
  have hz5 : Below w5.heap.size w5 (w5.alloc (.cells #[.string ⟨#[]⟩, .int .i64 0, .int .i64 0, .int .i64 0] 23)) := (Below.refl _ _).alloc (Nat.le_refl _) _
  replace hb := hz5.trans (hb.mono hz5.size)
  obtain ⟨w6, hW6⟩ : ∃ W, w6'.alloc (.cells #[.string ⟨#[]⟩, .int .i64 0, .int .i64 0, .int .i64 0] 23) = W := ⟨_, rfl⟩
  have hz6 : Below w6'.heap.size w6' w6 := by rw [← hW6]; exact (Below.refl _ _).alloc (Nat.le_refl _) _
  have bZ : Blk w6 w6'.heap.size 23 #[.string ⟨#[]⟩, .int .i64 0, .int .i64 0, .int .i64 0] := by rw [← hW6]; exact Blk.new _ _ _ rfl
  have hn6 : w3.heap.size ≠ w6'.heap.size := by have := (bQ.next hb).lt; omega
  have rd6 := rd.next hb
  have hz : w.heap.size ≤ w6'.heap.size := by have h1 := hB.size; have h2 := hb.size; omega
  replace hb := hb.trans (hz6.mono hb.size)
  replace rd := rd.next hb
  replace bQ := bQ.next hb
  replace bP := bP.next hb
  replace hB := hB.trans (hb.mono hB.size)
  clear hb p0 p1 p2 p3 hz5 hz6
  have hm := HL.out.m
  have h0 : 0 < (movesV st 0 0 1).length := by omega
  have e0 : (movesV st 0 0 1)[0] = (0, 9) := by have := HL.out.m0; rw [List.getElem?_eq_getElem h0] at this; exact Option.some.inj this
  obtain ⟨g, o, rfl, c0, c1⟩ := rd.move h0
  have hng : g ≠ w6'.heap.size := by have := cell_lt (rd6.move_at h0).1; simp only at this; omega
  have hng' : w6'.heap.size ≠ g := fun e => hng e.symm
  rw [e0] at c0 c1
  have c0' : w6.cell? ⟨g, o, none⟩ = some (.int .i64 0) := c0
  have c1' : w6.cell? ⟨g, o + 1, none⟩ = some (.int .i64 9) := by have := c1; rw [Nat.zero_mul, Nat.add_zero] at this; exact this
  obtain ⟨q0, q1, q2, q3⟩ := ppos_cells bQ
  obtain ⟨z0, z1, z2, z3⟩ := ppos_cells bZ
  obtain ⟨f0, f1, f2, f3⟩ := ppos_frozen bZ
  have hn6' : w6'.heap.size ≠ w3.heap.size := fun e => hn6 e.symm
  clear c0 c1 e0 rd bP rd6 bQ bZ hm h0 HL
  go_wp2_with fail
  go_ret
  refine ⟨rfl, ?_⟩
  first | exact hB | exact (((hB.setCell (p := ⟨w6'.heap.size, 0, none⟩) hz _).setCell (p := ⟨w6'.heap.size, 1, none⟩) hz _).setCell (p := ⟨w6'.heap.size, 2, none⟩) hz _).setCell (p := ⟨w6'.heap.size, 3, none⟩) hz _ | exact ((((hB.setCell (p := ⟨w6'.heap.size, 0, none⟩) hz _).setCell (p := ⟨w6'.heap.size, 1, none⟩) hz _).setCell (p := ⟨w6'.heap.size, 2, none⟩) hz _).setCell (p := ⟨w6'.heap.size, 3, none⟩) hz _).drew
end Go.Proofs.YtbfkkedcjodceaaDoor
