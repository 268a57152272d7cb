/- The document's own examples of layer 14 hold. -/
import Derived.Test.YtkejhebicibjlaaDoorValueC
namespace Go.Proofs.YtkejhebicibjlaaDoor
open Go.RowKit Go.Shelf
open M (S)

def startV : ByteArray := ⟨#[82, 78, 66, 65, 75, 65, 66, 78, 82, 46, 46, 46, 46, 46, 46, 46, 46, 46, 46, 67, 46, 46, 46, 46, 46, 67, 46, 80, 46, 80, 46, 80, 46, 80, 46, 80, 46, 46, 46, 46, 46, 46, 46, 46, 46, 46, 46, 46, 46, 46, 46, 46, 46, 46, 112, 46, 112, 46, 112, 46, 112, 46, 112, 46, 99, 46, 46, 46, 46, 46, 99, 46, 46, 46, 46, 46, 46, 46, 46, 46, 46, 114, 110, 98, 97, 107, 97, 98, 110, 114]⟩
theorem startV_of : ofV startV 0 = 0 := by decide +kernel
theorem lv_keep {g : Nat} {st : ByteArray} {a b c : Int} {w W W' : World} (h : W.cell? ⟨g, 0, none⟩ = some (.string st) ∧ W.cell? ⟨g, 1, none⟩ = some (.int .i64 a) ∧ W.cell? ⟨g, 2, none⟩ = some (.int .i64 b) ∧ W.cell? ⟨g, 3, none⟩ = some (.int .i64 c) ∧ Below w.heap.size w W) (hb : Below W.heap.size W W') : W'.cell? ⟨g, 0, none⟩ = some (.string st) ∧ W'.cell? ⟨g, 1, none⟩ = some (.int .i64 a) ∧ W'.cell? ⟨g, 2, none⟩ = some (.int .i64 b) ∧ W'.cell? ⟨g, 3, none⟩ = some (.int .i64 c) ∧ Below w.heap.size w W' := by
  obtain ⟨h0, h1, h2, h3, h8⟩ := h
  exact ⟨(hb.cell (p := ⟨g, 0, none⟩) (cell_lt h0)).trans h0, (hb.cell (p := ⟨g, 1, none⟩) (cell_lt h1)).trans h1, (hb.cell (p := ⟨g, 2, none⟩) (cell_lt h2)).trans h2, (hb.cell (p := ⟨g, 3, none⟩) (cell_lt h3)).trans h3, h8.trans (hb.mono h8.size)⟩
theorem lv_below {g : Nat} {st : ByteArray} {a b c : Int} {w W : World} (h : W.cell? ⟨g, 0, none⟩ = some (.string st) ∧ W.cell? ⟨g, 1, none⟩ = some (.int .i64 a) ∧ W.cell? ⟨g, 2, none⟩ = some (.int .i64 b) ∧ W.cell? ⟨g, 3, none⟩ = some (.int .i64 c) ∧ Below w.heap.size w W) : Below w.heap.size w W := h.2.2.2.2
set_option maxRecDepth 100000 in
set_option maxHeartbeats 4000000 in
theorem live14_any (w : World) (hT : Tab w) : Calls Tryd.prog 13 #[] w (Gives w (.bool true)) := by
  unfold Gives
  have HO := Lib.hid startV_of
  have H1 : Hid (kindV 114 = 200) := by show _ = _; decide +kernel
  have H2 : Hid (kindV 46 = 0) := by show _ = _; decide +kernel
  have H3 : Hid (pieceV 80 49 = 80) := by show _ = _; decide +kernel
  have H4 : Hid (pieceV 80 40 = 30) := by show _ = _; decide +kernel
  have H5 : Hid (pieceV 112 40 = 80) := by show _ = _; decide +kernel
  have H6 : Hid (pieceV 110 82 = 91) := by show _ = _; decide +kernel
  have H7 : Hid (pieceV 75 4 = 0) := by show _ = _; decide +kernel
  have H8 : Hid (mvW 0 (pieceV 80 40) (pieceV 80 49) (pieceV 112 49) = -80) := by show _ = _; decide +kernel
  go_enter Tryd.func13, Tryd.ntmps13
  go_wp2_with fail
  have hlit : (⟨#[82, 78, 66, 65, 75, 65, 66, 78, 82, 46, 46, 46, 46, 46, 46, 46, 46, 46, 46, 67, 46, 46, 46, 46, 46, 67, 46, 80, 46, 80, 46, 80, 46, 80, 46, 80, 46, 46, 46, 46, 46, 46, 46, 46, 46, 46, 46, 46, 46, 46, 46, 46, 46, 46, 112, 46, 112, 46, 112, 46, 112, 46, 112, 46, 99, 46, 46, 46, 46, 46, 99, 46, 46, 46, 46, 46, 46, 46, 46, 46, 46, 114, 110, 98, 97, 107, 97, 98, 110, 114]⟩ : ByteArray) = startV := rfl
  simp only [hlit]
  clear hlit
  generalize startV = st at HO ⊢
  obtain ⟨W0, hW0⟩ : ∃ W0, w.alloc (.cells #[.string st, .int .i64 0, .int .i64 0, .int .i64 1] 27) = W0 := ⟨_, rfl⟩
  have hB : Below w.heap.size w W0 := by rw [← hW0]; exact (by repeat (first | exact Below.refl _ _ | (refine Below.setCell ?_ (by first | omega | (simp; done) | (simp; omega) | (simp at *; omega)) _) | (refine Below.alloc ?_ (by first | omega | (simp; done) | (simp; omega) | (simp at *; omega)) _) | refine Below.drew ?_ | (refine below_drewN ?_ _) | (refine Below.trans ?_ (Below.mono (by assumption) (by first | omega | (simp; done) | (simp; omega) | (simp at *; omega))))))
  have bP : Blk W0 w.heap.size 27 #[.string st, .int .i64 0, .int .i64 0, .int .i64 1] := by rw [← hW0]; exact Blk.new _ _ _ rfl
  rw [hW0]
  clear hW0
  clear bP
  refine (vof_is st 0 0 1 0 _ (hT.next hB) HO.out).mono ?_
  rintro e w1 ⟨rfl, hb⟩
  have hB := hB.trans (hb.mono hB.size)
  clear hb
  go_wp2_with fail
  refine (vkind_is 114 200 _ H1.out).mono ?_
  rintro e w1 ⟨rfl, rfl⟩
  go_wp2_with fail
  refine (vkind_is 46 0 _ H2.out).mono ?_
  rintro e w1 ⟨rfl, rfl⟩
  go_wp2_with fail
  refine (vpiece_is 80 49 80 _ H3.out).mono ?_
  rintro e w4 ⟨rfl, hb⟩
  have hB := hB.trans (hb.mono hB.size)
  clear hb
  go_wp2_with fail
  refine (vpiece_is 80 40 30 _ H4.out).mono ?_
  rintro e w5 ⟨rfl, hb⟩
  have hB := hB.trans (hb.mono hB.size)
  clear hb
  go_wp2_with fail
  refine (vpiece_is 112 40 80 _ H5.out).mono ?_
  rintro e w6 ⟨rfl, hb⟩
  have hB := hB.trans (hb.mono hB.size)
  clear hb
  go_wp2_with fail
  refine (vpiece_is 110 82 91 _ H6.out).mono ?_
  rintro e w7 ⟨rfl, hb⟩
  have hB := hB.trans (hb.mono hB.size)
  clear hb
  go_wp2_with fail
  refine (vpiece_is 75 4 0 _ H7.out).mono ?_
  rintro e w8 ⟨rfl, hb⟩
  have hB := hB.trans (hb.mono hB.size)
  clear hb
  go_wp2_with fail
  refine (vmoved_is 0 80 40 49 112 (-80) _ H8.out).mono ?_
  rintro e w9 ⟨rfl, hb⟩
  have hB := hB.trans (hb.mono hB.size)
  clear hb
  go_wp2
  go_ret
  exact ⟨rfl, hB⟩
end Go.Proofs.YtkejhebicibjlaaDoor
