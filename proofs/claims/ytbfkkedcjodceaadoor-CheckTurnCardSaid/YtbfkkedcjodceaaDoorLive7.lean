/- The document's own examples of layer 7 hold. -/
import Derived.Test.YtbfkkedcjodceaaDoorCheckF
namespace Go.Proofs.YtbfkkedcjodceaaDoor
open Go.RowKit Go.Shelf
open M (S)

structure Live7 (s : ByteArray) : Prop where
  a1 : attL s 82 0 = [19]
  a2 : attL s 18 0 = [0, 1, 2, 25]
  g1 : generalN s 1 = 85
  f : facingB s = false
  i : inB s 1 = false
  j : inB (putB s 76 82) 1 = true
  w : wellN s 0 0 1 = 0
theorem live7_set : Live7 startS := by
  constructor <;> decide +kernel
theorem gen_none : generalN ⟨#[]⟩ 0 = -1 := by decide +kernel
theorem well_none : wellN ⟨#[]⟩ 0 0 0 = 1 := by decide +kernel
theorem lit7_1 (W : World) : Rd (W.alloc (.cells #[.int .i64 19] 3)) (some ⟨W.heap.size, 0, none⟩) (([19] : List Int).map iv) := rd_lit (xs := [19]) (Blk.new _ _ _ rfl)
theorem lit7_4 (W : World) : Rd (W.alloc (.cells #[.int .i64 0, .int .i64 1, .int .i64 2, .int .i64 25] 3)) (some ⟨W.heap.size, 0, none⟩) (([0, 1, 2, 25] : List Int).map iv) := rd_lit (xs := [0, 1, 2, 25]) (Blk.new _ _ _ rfl)
set_option maxRecDepth 100000 in
set_option maxHeartbeats 4000000 in
theorem live7_any (w : World) (hT : Tab w) : Calls Tryd.prog 31 #[] w (Gives w (.bool true)) := by
  unfold Gives
  have hL := live7_set
  go_enter Tryd.func31, Tryd.ntmps31
  go_wp2_with fail
  have hlit : (⟨#[82, 78, 66, 65, 75, 65, 66, 78, 82, 46, 46, 46, 46, 46, 46, 46, 46, 46, 46, 67, 46, 46, 46, 46, 46, 67, 46, 80, 46, 80, 46, 80, 46, 80, 46, 80, 46, 46, 46, 46, 46, 46, 46, 46, 46, 46, 46, 46, 46, 46, 46, 46, 46, 46, 112, 46, 112, 46, 112, 46, 112, 46, 112, 46, 99, 46, 46, 46, 46, 46, 99, 46, 46, 46, 46, 46, 46, 46, 46, 46, 46, 114, 110, 98, 97, 107, 97, 98, 110, 114]⟩ : ByteArray) = startS := rfl
  simp only [List.append_eq, List.cons_append, List.nil_append] at hlit ⊢
  simp only [hlit]
  clear hlit
  generalize startS = st at hL ⊢
  have HL := Lib.hid hL
  clear hL
  obtain ⟨inS, hin⟩ : ∃ x, putB st 76 82 = x := ⟨_, rfl⟩
  have HI := Lib.hid hin
  clear hin
  obtain ⟨W0, hW0⟩ : ∃ W0, w.alloc (.cells #[.string st, .int .i64 0, .int .i64 0, .int .i64 1] 23) = W0 := ⟨_, rfl⟩
  have hB : Below w.heap.size w W0 := by rw [← hW0]; exact (by repeat (first | exact Below.refl _ _ | (refine Below.setCell ?_ (by first | omega | (simp; done) | (simp; omega) | (simp at *; omega)) _) | (refine Below.alloc ?_ (by first | omega | (simp; done) | (simp; omega) | (simp at *; omega)) _) | refine Below.drew ?_ | (refine below_drewN ?_ _) | (refine Below.trans ?_ (Below.mono (by assumption) (by first | omega | (simp; done) | (simp; omega) | (simp at *; omega))))))
  have bP : Blk W0 w.heap.size 23 #[.string st, .int .i64 0, .int .i64 0, .int .i64 1] := by rw [← hW0]; exact Blk.new _ _ _ rfl
  replace hT := hT.next hB
  rw [hW0]
  clear hW0
  refine (put_as st inS 76 82 _ (by decide) HI.out).mono ?_
  rintro e w1 ⟨rfl, hb⟩
  replace hT := hT.next hb
  replace bP := bP.next hb
  replace hB := hB.trans (hb.mono hB.size)
  clear hb
  go_wp2_with fail
  obtain ⟨p0, p1, p2, p3⟩ := ppos_cells7 bP
  refine (att_as st 82 0 [19] _ hT HL.out.a1).mono ?_
  rintro e w2 ⟨v, rfl, ho, hb⟩
  obtain ⟨A1, k1, rfl⟩ := own_slice ho
  have rd := Rd.own ho
  replace hT := hT.next hb
  replace bP := bP.next hb
  replace hB := hB.trans (hb.mono hB.size)
  clear hb ho p0 p1 p2 p3
  go_wp2_with fail
  refine (ints_true _ _ [19] 1 _ _ _ (rd.next ((Below.refl _ _).alloc (Nat.le_refl _) _)) (lit7_1 _) rfl (by decide)).mono ?_
  rintro e w3 ⟨rfl, hb⟩
  replace hb := below_made hb
  replace hT := hT.next hb
  replace bP := bP.next hb
  replace hB := hB.trans (hb.mono hB.size)
  clear hb rd
  go_wp2_with fail
  refine (att_as st 18 0 [0, 1, 2, 25] _ hT HL.out.a2).mono ?_
  rintro e w4 ⟨v, rfl, ho, hb⟩
  obtain ⟨A1, k1, rfl⟩ := own_slice ho
  have rd := Rd.own ho
  replace hT := hT.next hb
  replace bP := bP.next hb
  replace hB := hB.trans (hb.mono hB.size)
  clear hb ho
  go_wp2_with fail
  refine (ints_true _ _ [0, 1, 2, 25] 4 _ _ _ (rd.next ((Below.refl _ _).alloc (Nat.le_refl _) _)) (lit7_4 _) rfl (by decide)).mono ?_
  rintro e w5 ⟨rfl, hb⟩
  replace hb := below_made hb
  replace hT := hT.next hb
  replace bP := bP.next hb
  replace hB := hB.trans (hb.mono hB.size)
  clear hb rd
  go_wp2_with fail
  refine (general_is st 1 85 _ HL.out.g1).mono ?_
  rintro e w6 ⟨rfl, rfl⟩
  go_wp2_with fail
  refine (general_is _ 0 (-1) _ gen_none).mono ?_
  rintro e w6 ⟨rfl, rfl⟩
  go_wp2_with fail
  refine (facing_is st false _ HL.out.f).mono ?_
  rintro e w6 ⟨rfl, rfl⟩
  go_wp2_with fail
  refine (in_is st 1 false _ hT HL.out.i).mono ?_
  rintro e w6 ⟨rfl, hb⟩
  replace hT := hT.next hb
  replace bP := bP.next hb
  replace hB := hB.trans (hb.mono hB.size)
  clear hb
  go_wp2_with fail
  refine (in_is inS 1 true _ hT (by rw [← HI.out]; exact HL.out.j)).mono ?_
  rintro e w7 ⟨rfl, hb⟩
  replace hT := hT.next hb
  replace bP := bP.next hb
  replace hB := hB.trans (hb.mono hB.size)
  clear hb
  obtain ⟨p0, p1, p2, p3⟩ := ppos_cells7 bP
  go_wp2_with fail
  refine (well_is st 0 0 1 0 _ hT HL.out.w).mono ?_
  rintro e w8 ⟨rfl, hb⟩
  replace hT := hT.next hb
  replace hB := hB.trans (hb.mono hB.size)
  clear hb p0 p1 p2 p3 bP
  go_wp2_with fail
  refine (well_is _ 0 0 0 1 _ ?_ well_none).mono ?_
  · first | exact hT | exact hT.next ((Below.refl _ _).alloc (Nat.le_refl _) _)
  rintro e w9 ⟨rfl, hb⟩
  first | replace hb := below_made hb | skip
  replace hB := hB.trans (hb.mono hB.size)
  clear hb
  go_wp2
  go_ret
  exact ⟨rfl, hB⟩
end Go.Proofs.YtbfkkedcjodceaaDoor
