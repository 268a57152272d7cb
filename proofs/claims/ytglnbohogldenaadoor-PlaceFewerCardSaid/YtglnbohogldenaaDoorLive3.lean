/- The document's own examples of layer 3 hold. -/
import Derived.Test.YtglnbohogldenaaDoorRefP4
namespace Go.Proofs.YtglnbohogldenaaDoor
open Go.RowKit Go.Shelf
open M (S)

def startS : ByteArray := ⟨#[82, 78, 66, 65, 75, 65, 66, 78, 82, 46, 46, 46, 46, 46, 46, 46, 46, 46, 46, 67, 46, 46, 46, 46, 46, 67, 46, 80, 46, 80, 46, 80, 46, 80, 46, 80, 46, 46, 46, 46, 46, 46, 46, 46, 46, 46, 46, 46, 46, 46, 46, 46, 46, 46, 112, 46, 112, 46, 112, 46, 112, 46, 112, 46, 99, 46, 46, 46, 46, 46, 99, 46, 46, 46, 46, 46, 46, 46, 46, 46, 46, 114, 110, 98, 97, 107, 97, 98, 110, 114]⟩
structure Live3 (s : ByteArray) : Prop where
  c0 : (checkN s 0 0 1 : Int) = 0
  c1 : (checkN s 0 0 0 : Int) = 1
theorem live3_set : Live3 startS := by
  constructor <;> decide +kernel
theorem points_b : pointsL 66 = [2, 6, 18, 22, 26, 38, 42] := by decide +kernel
theorem points_p : (pointsL 112).length = 55 := by decide +kernel

set_option maxRecDepth 100000 in
set_option maxHeartbeats 4000000 in
theorem live3_any (w : World) (hT : Tab w) : Calls Tryd.prog 20 #[] w (Gives w (.bool true)) := by
  unfold Gives
  have hL := live3_set
  go_enter Tryd.func20, Tryd.ntmps20
  go_wp2_with fail
  rw [show (⟨#[82, 78, 66, 65, 75, 65, 66, 78, 82, 46, 46, 46, 46, 46, 46, 46, 46, 46, 46, 67, 46, 46, 46, 46, 46, 67, 46, 80, 46, 80, 46, 80, 46, 80, 46, 80, 46, 46, 46, 46, 46, 46, 46, 46, 46, 46, 46, 46, 46, 46, 46, 46, 46, 46, 112, 46, 112, 46, 112, 46, 112, 46, 112, 46, 99, 46, 46, 46, 46, 46, 99, 46, 46, 46, 46, 46, 46, 46, 46, 46, 46, 114, 110, 98, 97, 107, 97, 98, 110, 114]⟩ : ByteArray) = startS from rfl]
  generalize startS = st at hL ⊢
  obtain ⟨C0, C1⟩ := hL
  have HC0 := Lib.hid C0
  have HC1 := Lib.hid C1
  clear C0 C1
  obtain ⟨W0, hW0⟩ : ∃ W0, (w.alloc (.cells #[.string st, .int .i64 0, .int .i64 0, .int .i64 1] 31)).alloc (.cells #[.string st, .int .i64 0, .int .i64 0, .int .i64 0] 31) = W0 := ⟨_, rfl⟩
  have hB : Below w.heap.size w W0 := by rw [← hW0]; exact (by repeat (first | exact Below.refl _ _ | (refine Below.setCell ?_ (by first | omega | (simp; done) | (simp; omega) | (simp at *; omega)) _) | (refine Below.alloc ?_ (by first | omega | (simp; done) | (simp; omega) | (simp at *; omega)) _) | refine Below.drew ?_ | (refine below_drewN ?_ _) | (refine Below.trans ?_ (Below.mono (by assumption) (by first | omega | (simp; done) | (simp; omega) | (simp at *; omega))))))
  have bP : Blk W0 w.heap.size 31 #[.string st, .int .i64 0, .int .i64 0, .int .i64 1] := by rw [← hW0]; exact (Blk.new _ _ _ rfl).alloc _
  have bQ : Blk W0 (w.heap.size + 1) 31 #[.string st, .int .i64 0, .int .i64 0, .int .i64 0] := by rw [← hW0]; exact Blk.new _ _ _ (by simp)
  replace hT := hT.below hB hT.lt
  rw [hW0]
  clear hW0
  refine (points_is 66 7 _ _ hT points_b rfl).mono ?_
  rintro e w0 ⟨A0, k0, rfl, hr, hb⟩
  replace hT := hT.next hb
  replace bP := bP.next hb
  replace bQ := bQ.next hb
  replace hB := hB.trans (hb.mono hB.size)
  clear hb
  go_wp2_with fail
  refine (ints_true _ _ [2, 6, 18, 22, 26, 38, 42] 7 _ _ _ (hr.next ((Below.refl _ _).alloc (Nat.le_refl _) _)) (rd_lit (Blk.new _ _ _ rfl)) rfl (by decide)).mono ?_
  rintro e w1 ⟨rfl, hb⟩
  replace hb := below_made hb
  replace hT := hT.next hb
  replace bP := bP.next hb
  replace bQ := bQ.next hb
  replace hB := hB.trans (hb.mono hB.size)
  clear hb
  clear hr
  go_wp2_with fail
  refine (points_is 112 55 _ _ hT rfl points_p).mono ?_
  rintro e w2 ⟨A2, k2, rfl, hr, hb⟩
  replace hT := hT.next hb
  replace bP := bP.next hb
  replace bQ := bQ.next hb
  replace hB := hB.trans (hb.mono hB.size)
  clear hb
  clear hr
  go_wp2_with fail
  refine (may_is 75 4 true _ (by decide)).mono ?_
  rintro e w3 ⟨rfl, hb⟩
  replace hT := hT.next hb
  replace bP := bP.next hb
  replace bQ := bQ.next hb
  replace hB := hB.trans (hb.mono hB.size)
  clear hb
  go_wp2_with fail
  refine (may_is 107 4 false _ (by decide)).mono ?_
  rintro e w4 ⟨rfl, hb⟩
  replace hT := hT.next hb
  replace bP := bP.next hb
  replace bQ := bQ.next hb
  replace hB := hB.trans (hb.mono hB.size)
  clear hb
  go_wp2_with fail
  refine (palace_is 84 1 true _ (by decide)).mono ?_
  rintro e w5 ⟨rfl, hb⟩
  replace hT := hT.next hb
  replace bP := bP.next hb
  replace bQ := bQ.next hb
  replace hB := hB.trans (hb.mono hB.size)
  clear hb
  go_wp2_with fail
  refine (palace_is 84 0 false _ (by decide)).mono ?_
  rintro e w6 ⟨rfl, hb⟩
  replace hT := hT.next hb
  replace bP := bP.next hb
  replace bQ := bQ.next hb
  replace hB := hB.trans (hb.mono hB.size)
  clear hb
  go_wp2_with fail
  refine (over_is 45 0 true _ (by decide)).mono ?_
  rintro e w7 ⟨rfl, hb⟩
  replace hT := hT.next hb
  replace bP := bP.next hb
  replace bQ := bQ.next hb
  replace hB := hB.trans (hb.mono hB.size)
  clear hb
  go_wp2_with fail
  refine (over_is 45 1 false _ (by decide)).mono ?_
  rintro e w8 ⟨rfl, hb⟩
  replace hT := hT.next hb
  replace bP := bP.next hb
  replace bQ := bQ.next hb
  replace hB := hB.trans (hb.mono hB.size)
  clear hb
  go_wp2_with fail
  refine (most_is 112 5 _ rfl).mono ?_
  rintro e w9' ⟨rfl, rfl⟩
  go_wp2_with fail
  refine (most_is 46 0 _ rfl).mono ?_
  rintro e w10' ⟨rfl, rfl⟩
  have p0 := bP.cell 0
  have p1 := bP.cell 1
  have p2 := bP.cell 2
  have p3 := bP.cell 3
  simp only [List.getElem?_toArray, List.getElem?_cons_zero, List.getElem?_cons_succ] at p0 p1 p2 p3
  go_wp2_with fail
  refine (check_is st 0 0 1 0 _ HC0.out).mono ?_
  rintro e w11 ⟨rfl, hb⟩
  replace hT := hT.next hb
  replace bP := bP.next hb
  replace bQ := bQ.next hb
  replace hB := hB.trans (hb.mono hB.size)
  clear hb
  clear p0 p1 p2 p3
  have p0 := bQ.cell 0
  have p1 := bQ.cell 1
  have p2 := bQ.cell 2
  have p3 := bQ.cell 3
  simp only [List.getElem?_toArray, List.getElem?_cons_zero, List.getElem?_cons_succ] at p0 p1 p2 p3
  go_wp2_with fail
  refine (check_is st 0 0 0 1 _ HC1.out).mono ?_
  rintro e w12 ⟨rfl, hb⟩
  replace hT := hT.next hb
  replace bP := bP.next hb
  replace bQ := bQ.next hb
  replace hB := hB.trans (hb.mono hB.size)
  clear hb
  go_wp2
  go_ret
  exact ⟨rfl, hB⟩
end Go.Proofs.YtglnbohogldenaaDoor
