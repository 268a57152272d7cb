/- Seen from the other side a position is worth the same when all captures are done: the call answers true. -/
import Derived.Test.YtbdgbihdhbjljaaGreatDoorQuietV
import Derived.Test.YtbdgbihdhbjljaaGreatDoorQuietT
import Derived.Test.YtbdgbihdhbjljaaGreatDoorRefP5
namespace Go.Proofs.YtbdgbihdhbjljaaGreatDoor.qturn
open Go.RowKit Go.Shelf
open M (S)

def TwoP (w : World) (g h : Nat) (s q : ByteArray) (y o z u : Int) (W : World) : Prop := W.cell? ⟨g, 0, none⟩ = some (.string s) ∧ W.cell? ⟨g, 1, none⟩ = some (.int .i64 y) ∧ W.cell? ⟨g, 2, none⟩ = some (.int .i64 z) ∧ W.cell? ⟨g, 3, none⟩ = some (.int .i64 u) ∧ W.cell? ⟨h, 0, none⟩ = some (.string q) ∧ W.cell? ⟨h, 1, none⟩ = some (.int .i64 o) ∧ W.cell? ⟨h, 2, none⟩ = some (.int .i64 z) ∧ W.cell? ⟨h, 3, none⟩ = some (.int .i64 u) ∧ Tab W ∧ Below w.heap.size w W
theorem tp_keep {w : World} {g h : Nat} {s q : ByteArray} {y o z u : Int} {W W' : World} (H : TwoP w g h s q y o z u W) (hb : Below W.heap.size W W') : TwoP w g h s q y o z u W' := by
  obtain ⟨h0, h1, h2, h3, h4, h5, h6, h7, h8, h9⟩ := H
  exact ⟨(hb.cell (cell_lt h0)).trans h0, (hb.cell (cell_lt h1)).trans h1, (hb.cell (cell_lt h2)).trans h2, (hb.cell (cell_lt h3)).trans h3, (hb.cell (cell_lt h4)).trans h4, (hb.cell (cell_lt h5)).trans h5, (hb.cell (cell_lt h6)).trans h6, (hb.cell (cell_lt h7)).trans h7, h8.next hb, h9.trans (hb.mono h9.size)⟩
theorem tp_tab {w : World} {g h : Nat} {s q : ByteArray} {y o z u : Int} {W : World} (H : TwoP w g h s q y o z u W) : Tab W := H.2.2.2.2.2.2.2.2.1
theorem tp_below {w : World} {g h : Nat} {s q : ByteArray} {y o z u : Int} {W : World} (H : TwoP w g h s q y o z u W) : Below w.heap.size w W := H.2.2.2.2.2.2.2.2.2
set_option maxRecDepth 100000 in
set_option maxHeartbeats 8000000 in
theorem walk (s : ByteArray) (y z u low high : Int) (w : World) (hT : Tab w) (hlo : i64lo ≤ low) (hhi : high ≤ i64hi) : Calls Tryz.prog 10 #[.agg #[.string s, .int .i64 y, .int .i64 z, .int .i64 u], .int .i64 low, .int .i64 high] w (Gives w (.bool true)) := by
  unfold Gives
  obtain ⟨f, hf⟩ : ∃ f, fewV s 9 = f := ⟨_, rfl⟩
  obtain ⟨k, hk⟩ : ∃ k, wellN s y z u = k := ⟨_, rfl⟩
  have HF := Lib.hid hf
  have HK := Lib.hid hk
  obtain ⟨W0, hW0⟩ : ∃ W0, w.alloc (.cells #[.string s, .int .i64 y, .int .i64 z, .int .i64 u] 23) = W0 := ⟨_, rfl⟩
  have hB : Below w.heap.size w W0 := by rw [← hW0]; exact below_new _ _
  have bP : Blk W0 w.heap.size 23 #[.string s, .int .i64 y, .int .i64 z, .int .i64 u] := by rw [← hW0]; exact Blk.new _ _ _ rfl
  obtain ⟨p0, p1, p2, p3⟩ := vpos_cells bP
  have HT := Lib.hid (hT.next hB)
  have HW := Lib.hid hW0
  have HB := Lib.hid hB
  have HP := Lib.hid bP
  have HLO := Lib.hid hlo
  have HHI := Lib.hid hhi
  clear hW0 hB bP hT hlo hhi
  cases f with
  | false =>
    clear hf hk
    go_enter Tryz.func10, Tryz.ntmps10
    go_wp2_with fail
    (try rw [HW.out])
    refine (rfew_is s y z u 9 false _ HF.out).mono ?_
    rintro e w1 ⟨rfl, hb1⟩
    have HB1 := Lib.hid (HB.out.trans (hb1.mono HB.out.size))
    have HT1 := Lib.hid (HT.out.next hb1)
    clear hb1 p0 p1 p2 p3
    go_wp2_with fail
    refine (live21_any _ HT1.out).mono ?_
    rintro e w2 ⟨rfl, hb2⟩
    have hb := HB1.out.trans (hb2.mono HB1.out.size)
    go_wp2_with fail
    go_ret
    exact ⟨rfl, hb⟩
  | true =>
    by_cases h0 : k = 0
    · subst h0
      obtain ⟨hs, hy⟩ := well_side hk
      have H9 : Hid (cntP s ≤ 9) := few_cnt hf (isB_size hs)
      obtain ⟨q, hq⟩ : ∃ q, turnB s = q := ⟨_, rfl⟩
      obtain ⟨o, ho⟩ : ∃ o, 1 - y = o := ⟨_, rfl⟩
      have HQ9 : Hid (cntP q ≤ 9) := by show _ ≤ _; rw [← hq, cntP_turn hs]; exact H9.out
      obtain ⟨v, hv⟩ : ∃ v, quietV s y z u = v := ⟨_, rfl⟩
      obtain ⟨x, hx⟩ : ∃ x, windowV s y z u low high = x := ⟨_, rfl⟩
      have HV := Lib.hid hv
      have HX := Lib.hid hx
      have HVQ : Hid (quietV q o z u = v) := by show _ = _; rw [← hq, ← ho, quietV_turn hk, hv]
      have HXQ : Hid (windowV q o z u low high = x) := by
        show _ = _
        rw [← hx]
        unfold windowV
        rw [← hq, ← ho, quietV_turn hk]
      have HTU : Hid (∀ W, Calls Tryz.prog 39 #[.agg #[.string s, .int .i64 y, .int .i64 z, .int .i64 u]] W (Gives W (.agg #[.string q, .int .i64 o, .int .i64 z, .int .i64 u]))) := fun W => by
        have h := rturnP_any s q y z u W (by omega) (by omega) hq
        rw [ho] at h
        exact h
      clear hf hv hx hq ho hs hy hk
      go_enter Tryz.func10, Tryz.ntmps10
      go_wp2_with fail
      (try rw [HW.out])
      refine (rfew_is s y z u 9 true _ HF.out).mono ?_
      rintro e w1 ⟨rfl, hb1⟩
      have HB1 := Lib.hid (HB.out.trans (hb1.mono HB.out.size))
      have HT1 := Lib.hid (HT.out.next hb1)
      have HP1 := Lib.hid (HP.out.next hb1)
      clear hb1 p0 p1 p2 p3
      obtain ⟨p0, p1, p2, p3⟩ := vpos_cells HP1.out
      go_wp2_with fail
      refine (rwell_is s y z u 0 _ HK.out).mono ?_
      rintro e w2 ⟨rfl, hb2⟩
      have HB2 := Lib.hid (HB1.out.trans (hb2.mono HB1.out.size))
      have HT2 := Lib.hid (HT1.out.next hb2)
      have HP2 := Lib.hid (HP1.out.next hb2)
      clear hb2 p0 p1 p2 p3
      obtain ⟨p0, p1, p2, p3⟩ := vpos_cells HP2.out
      go_wp2_with fail
      refine (HTU.out _).mono ?_
      rintro e w3 ⟨rfl, hb3⟩
      have hb3' := HB2.out.trans (hb3.mono HB2.out.size)
      obtain ⟨W4, hW4⟩ : ∃ W4, w3.alloc (.cells #[.string q, .int .i64 o, .int .i64 z, .int .i64 u] 23) = W4 := ⟨_, rfl⟩
      have hb4 : Below w3.heap.size w3 W4 := by rw [← hW4]; exact below_new _ _
      have bQ : Blk W4 w3.heap.size 23 #[.string q, .int .i64 o, .int .i64 z, .int .i64 u] := by rw [← hW4]; exact Blk.new _ _ _ rfl
      obtain ⟨q0, q1, q2, q3⟩ := vpos_cells bQ
      obtain ⟨r0, r1, r2, r3⟩ := vpos_cells ((HP2.out.next hb3).next hb4)
      have hS : TwoP w w.heap.size w3.heap.size s q y o z u W4.drew := ⟨r0, r1, r2, r3, q0, q1, q2, q3, ((HT2.out.next hb3).next hb4).next (Below.refl _ _).drew, (hb3'.trans (hb4.mono hb3'.size)).drew⟩
      unfold TwoP at hS
      have HW4 := Lib.hid hW4
      clear hb3 hb3' hb4 hW4 bQ p0 p1 p2 p3 q0 q1 q2 q3 r0 r1 r2 r3
      go_wp2_with fail
      (try rw [HW4.out])
      go_region_held3 (fun W => W.cell? ⟨w.heap.size, 0, none⟩ = some (.string s) ∧ W.cell? ⟨w.heap.size, 1, none⟩ = some (.int .i64 y) ∧ W.cell? ⟨w.heap.size, 2, none⟩ = some (.int .i64 z) ∧ W.cell? ⟨w.heap.size, 3, none⟩ = some (.int .i64 u) ∧ W.cell? ⟨w3.heap.size, 0, none⟩ = some (.string q) ∧ W.cell? ⟨w3.heap.size, 1, none⟩ = some (.int .i64 o) ∧ W.cell? ⟨w3.heap.size, 2, none⟩ = some (.int .i64 z) ∧ W.cell? ⟨w3.heap.size, 3, none⟩ = some (.int .i64 u) ∧ Tab W ∧ Below w.heap.size w W)
        (first | exact hS | exact tp_keep (by assumption) hb)
        (first
          | (go_at_call 34; refine (qof_is _ _ z u v _ ?_ (fun _ => by first | with_reducible exact H9.out | with_reducible exact HQ9.out) (by first | with_reducible exact HV.out | with_reducible exact HVQ.out)).mono ?_; (exact tp_tab (by assumption)); rintro e w5 ⟨rfl, hb⟩)
          | (go_at_call 36; refine (qwindow_is _ _ z u low high x _ ?_ (fun _ => by first | with_reducible exact H9.out | with_reducible exact HQ9.out) HLO.out HHI.out (by first | with_reducible exact HX.out | with_reducible exact HXQ.out)).mono ?_; (exact tp_tab (by assumption)); rintro e w5 ⟨rfl, hb⟩)
          | (go_at_call 33; refine (live21_any _ ?_).mono ?_; (exact tp_tab (by assumption)); rintro e w5 ⟨rfl, hb⟩))
      rename_i hh
      have hB := tp_below hh
      clear hh
      go_wp2
      go_ret
      exact ⟨rfl, hB⟩
    · have k0 : (k != 0) = true := by rw [bne_iff_ne]; exact h0
      clear hf hk h0
      go_enter Tryz.func10, Tryz.ntmps10
      go_wp2_with fail
      (try rw [HW.out])
      refine (rfew_is s y z u 9 true _ HF.out).mono ?_
      rintro e w1 ⟨rfl, hb1⟩
      have HB1 := Lib.hid (HB.out.trans (hb1.mono HB.out.size))
      have HT1 := Lib.hid (HT.out.next hb1)
      have HP1 := Lib.hid (HP.out.next hb1)
      clear hb1 p0 p1 p2 p3
      obtain ⟨p0, p1, p2, p3⟩ := vpos_cells HP1.out
      go_wp2_with fail
      refine (rwell_is s y z u k _ HK.out).mono ?_
      rintro e w2 ⟨rfl, hb2⟩
      have HB2 := Lib.hid (HB1.out.trans (hb2.mono HB1.out.size))
      have HT2 := Lib.hid (HT1.out.next hb2)
      clear hb2 p0 p1 p2 p3
      go_wp2_with fail
      refine (live21_any _ HT2.out).mono ?_
      rintro e w3 ⟨rfl, hb3⟩
      have hb := HB2.out.trans (hb3.mono HB2.out.size)
      go_wp2_with fail
      go_ret
      exact ⟨rfl, hb⟩
end Go.Proofs.YtbdgbihdhbjljaaGreatDoor.qturn
