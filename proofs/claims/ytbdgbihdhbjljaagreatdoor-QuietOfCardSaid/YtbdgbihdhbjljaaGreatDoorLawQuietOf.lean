/- What any position is worth when all captures are done; and what of it lies between any bounds: the call answers true. -/
import Derived.Test.YtbdgbihdhbjljaaGreatDoorQuietV
namespace Go.Proofs.YtbdgbihdhbjljaaGreatDoor.qof
open Go.RowKit Go.Shelf
open M (S)

set_option maxRecDepth 100000 in
set_option maxHeartbeats 8000000 in
theorem walk (s : ByteArray) (y z u low high : Int) (w : World) (hT : Tab w) (hlo : i64lo ≤ low) (hhi : high ≤ i64hi) : Calls Tryz.prog 9 #[.agg #[.string s, .int .i64 y, .int .i64 z, .int .i64 u], .int .i64 low, .int .i64 high] w (Gives w (.bool true)) := by
  unfold Gives
  obtain ⟨f, hf⟩ : ∃ f, fewV s 9 = f := ⟨_, rfl⟩
  have HF := Lib.hid hf
  obtain ⟨W0, hW0⟩ : ∃ W0, w.alloc (.cells #[.string s, .int .i64 y, .int .i64 z, .int .i64 u] 23) = W0 := ⟨_, rfl⟩
  have hB : Below w.heap.size w W0 := by rw [← hW0]; exact below_new _ _
  have bP : Blk W0 w.heap.size 23 #[.string s, .int .i64 y, .int .i64 z, .int .i64 u] := by rw [← hW0]; exact Blk.new _ _ _ rfl
  obtain ⟨p0, p1, p2, p3⟩ := vpos_cells bP
  have HT := Lib.hid (hT.next hB)
  have HW := Lib.hid hW0
  have HB := Lib.hid hB
  have HP := Lib.hid bP
  have HLO := Lib.hid hlo
  have HHI := Lib.hid hhi
  clear hW0 hB bP hT hlo hhi
  cases f with
  | false =>
    clear hf
    go_enter Tryz.func9, Tryz.ntmps9
    go_wp2_with fail
    (try rw [HW.out])
    refine (rfew_is s y z u 9 false _ HF.out).mono ?_
    rintro e w1 ⟨rfl, hb1⟩
    have HB1 := Lib.hid (HB.out.trans (hb1.mono HB.out.size))
    have HT1 := Lib.hid (HT.out.next hb1)
    clear hb1 p0 p1 p2 p3
    go_wp2_with fail
    refine (live21_any _ HT1.out).mono ?_
    rintro e w2 ⟨rfl, hb2⟩
    have hb := HB1.out.trans (hb2.mono HB1.out.size)
    go_wp2_with fail
    go_ret
    exact ⟨rfl, hb⟩
  | true =>
    have H9 : Hid (wellN s y z u = 0 → cntP s ≤ 9) := fun hw => few_cnt hf (isB_size (well_side hw).1)
    obtain ⟨v, hv⟩ : ∃ v, quietV s y z u = v := ⟨_, rfl⟩
    obtain ⟨x, hx⟩ : ∃ x, windowV s y z u low high = x := ⟨_, rfl⟩
    have HV := Lib.hid hv
    have HX := Lib.hid hx
    clear hf hv hx
    go_enter Tryz.func9, Tryz.ntmps9
    go_wp2_with fail
    (try rw [HW.out])
    refine (rfew_is s y z u 9 true _ HF.out).mono ?_
    rintro e w1 ⟨rfl, hb1⟩
    have hB1 := HB.out.trans (hb1.mono HB.out.size)
    have hT1 := HT.out.next hb1
    obtain ⟨q0, q1, q2, q3⟩ := vpos_cells (HP.out.next hb1)
    have hS : w1.drew.cell? ⟨w.heap.size, 0, none⟩ = some (.string s) ∧ w1.drew.cell? ⟨w.heap.size, 1, none⟩ = some (.int .i64 y) ∧ w1.drew.cell? ⟨w.heap.size, 2, none⟩ = some (.int .i64 z) ∧ w1.drew.cell? ⟨w.heap.size, 3, none⟩ = some (.int .i64 u) ∧ Tab w1.drew ∧ Below w.heap.size w w1.drew := ⟨q0, q1, q2, q3, hT1.next (Below.refl _ _).drew, hB1.drew⟩
    clear hb1 p0 p1 p2 p3 hB1 hT1 q0 q1 q2 q3
    go_wp2_with fail
    go_region_held3 (fun W => W.cell? ⟨w.heap.size, 0, none⟩ = some (.string s) ∧ W.cell? ⟨w.heap.size, 1, none⟩ = some (.int .i64 y) ∧ W.cell? ⟨w.heap.size, 2, none⟩ = some (.int .i64 z) ∧ W.cell? ⟨w.heap.size, 3, none⟩ = some (.int .i64 u) ∧ Tab W ∧ Below w.heap.size w W)
      (first | exact hS | exact posT_keep (by assumption) hb)
      (first
        | (go_at_call 34; refine (qof_is s y z u v _ ?_ H9.out HV.out).mono ?_; (exact posT_tab (by assumption)); rintro e w2 ⟨rfl, hb⟩)
        | (go_at_call 35; refine (rqof_is s y z u v _ H9.out HV.out).mono ?_; rintro e w2 ⟨rfl, hb⟩)
        | (go_at_call 36; refine (qwindow_is s y z u low high x _ ?_ H9.out HLO.out HHI.out HX.out).mono ?_; (exact posT_tab (by assumption)); rintro e w2 ⟨rfl, hb⟩)
        | (go_at_call 37; refine (rqwindow_is s y z u low high x _ H9.out HX.out).mono ?_; rintro e w2 ⟨rfl, hb⟩)
        | (go_at_call 33; refine (live21_any _ ?_).mono ?_; (exact posT_tab (by assumption)); rintro e w2 ⟨rfl, hb⟩))
    rename_i hh
    have hB := posT_below hh
    clear hh
    go_wp2
    go_ret
    exact ⟨rfl, hB⟩
end Go.Proofs.YtbdgbihdhbjljaaGreatDoor.qof
