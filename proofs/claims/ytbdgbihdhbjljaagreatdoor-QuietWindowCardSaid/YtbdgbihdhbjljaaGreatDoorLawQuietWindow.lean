/- What lies between two bounds lies there; between wider ones it is the same: the call answers true. -/
import Derived.Test.YtbdgbihdhbjljaaGreatDoorQuietV
namespace Go.Proofs.YtbdgbihdhbjljaaGreatDoor.qwin
open Go.RowKit Go.Shelf
open M (S)

set_option maxRecDepth 100000 in
set_option maxHeartbeats 8000000 in
/-- Too many pieces, or bounds of no kind. -/
theorem large (s : ByteArray) (y z u low high : Int) (w : World) (hT : Tab w) (f : Bool) (hf : fewV s 9 = f) (h : f = false ∨ low < -100000 ∨ 100000 < high ∨ high ≤ low) : Calls Tryz.prog 11 #[.agg #[.string s, .int .i64 y, .int .i64 z, .int .i64 u], .int .i64 low, .int .i64 high] w (Gives w (.bool true)) := by
  unfold Gives
  have HF := Lib.hid hf
  obtain ⟨W0, hW0⟩ : ∃ W0, w.alloc (.cells #[.string s, .int .i64 y, .int .i64 z, .int .i64 u] 23) = W0 := ⟨_, rfl⟩
  have hB : Below w.heap.size w W0 := by rw [← hW0]; exact below_new _ _
  have bP : Blk W0 w.heap.size 23 #[.string s, .int .i64 y, .int .i64 z, .int .i64 u] := by rw [← hW0]; exact Blk.new _ _ _ rfl
  obtain ⟨p0, p1, p2, p3⟩ := vpos_cells bP
  have HT := Lib.hid (hT.next hB)
  have HW := Lib.hid hW0
  have HB := Lib.hid hB
  clear hW0 hB bP hT hf
  have hc : (f = false) ∨ (f = true ∧ low < -100000) ∨ (f = true ∧ ¬ low < -100000 ∧ 100000 < high) ∨ (f = true ∧ ¬ low < -100000 ∧ ¬ 100000 < high ∧ high ≤ low) := by
    cases f with
    | false => exact .inl rfl
    | true =>
      have h : low < -100000 ∨ 100000 < high ∨ high ≤ low := by simpa using h
      refine .inr ?_
      by_cases h1 : low < -100000
      · exact .inl ⟨rfl, h1⟩
      · by_cases h2 : 100000 < high
        · exact .inr (.inl ⟨rfl, h1, h2⟩)
        · exact .inr (.inr ⟨rfl, h1, h2, by omega⟩)
  clear h
  rcases hc with rfl | ⟨rfl, h1⟩ | ⟨rfl, h1, h2⟩ | ⟨rfl, h1, h2, h3⟩
  all_goals
    go_enter Tryz.func11, Tryz.ntmps11
    go_wp2_with fail
    (try rw [HW.out])
    refine (rfew_is s y z u 9 _ _ HF.out).mono ?_
    rintro e w1 ⟨rfl, hb1⟩
    have HB1 := Lib.hid (HB.out.trans (hb1.mono HB.out.size))
    have HT1 := Lib.hid (HT.out.next hb1)
    clear hb1 p0 p1 p2 p3
    go_wp2_with fail
    refine (live21_any _ HT1.out).mono ?_
    rintro e w2 ⟨rfl, hb2⟩
    have hb := HB1.out.trans (hb2.mono HB1.out.size)
    go_wp2_with fail
    go_ret
    exact ⟨rfl, hb⟩
set_option maxRecDepth 100000 in
set_option maxHeartbeats 8000000 in
theorem small (s : ByteArray) (y z u low high : Int) (w : World) (hT : Tab w) (hf : fewV s 9 = true) (h1 : ¬ low < -100000) (h2 : ¬ 100000 < high) (h3 : ¬ high ≤ low) : Calls Tryz.prog 11 #[.agg #[.string s, .int .i64 y, .int .i64 z, .int .i64 u], .int .i64 low, .int .i64 high] w (Gives w (.bool true)) := by
  unfold Gives
  have HF := Lib.hid hf
  have h9 : wellN s y z u = 0 → cntP s ≤ 9 := fun hw => few_cnt hf (isB_size (well_side hw).1)
  obtain ⟨l2, hl2⟩ : ∃ l2, low - 50 = l2 := ⟨_, rfl⟩
  obtain ⟨u2, hu2⟩ : ∃ u2, high + 50 = u2 := ⟨_, rfl⟩
  obtain ⟨v, hv⟩ : ∃ v, windowV s y z u low high = v := ⟨_, rfl⟩
  obtain ⟨x, hx⟩ : ∃ x, windowV s y z u l2 u2 = x := ⟨_, rfl⟩
  have hv' := hv
  have hx' := hx
  unfold windowV at hv' hx'
  rw [if_neg h3] at hv'
  rw [if_neg (by omega)] at hx'
  have hcase : (v = low ∧ x ≤ low) ∨ (low < v ∧ v < high ∧ x = v) ∨ (v = high ∧ high ≤ x) := by omega
  have hb1 : low ≤ v := by omega
  have hb2 : v ≤ high := by omega
  have HV := Lib.hid (fun W hTW => qwindow_is s y z u low high v W hTW h9 (by unfold i64lo; omega) (by unfold i64hi; omega) hv)
  have HX := Lib.hid (fun W hTW => qwindow_is s y z u l2 u2 x W hTW h9 (by unfold i64lo; omega) (by unfold i64hi; omega) hx)
  have wl : IntKind.i64.wrap (low - 50) = l2 := by rw [IntWalk.i64_in _ (by omega)]; exact hl2
  have wu : IntKind.i64.wrap (high + 50) = u2 := by rw [IntWalk.i64_in _ (by omega)]; exact hu2
  obtain ⟨W0, hW0⟩ : ∃ W0, w.alloc (.cells #[.string s, .int .i64 y, .int .i64 z, .int .i64 u] 23) = W0 := ⟨_, rfl⟩
  have hB : Below w.heap.size w W0 := by rw [← hW0]; exact below_new _ _
  have bP : Blk W0 w.heap.size 23 #[.string s, .int .i64 y, .int .i64 z, .int .i64 u] := by rw [← hW0]; exact Blk.new _ _ _ rfl
  obtain ⟨p0, p1, p2, p3⟩ := vpos_cells bP
  have HT := Lib.hid (hT.next hB)
  have HW := Lib.hid hW0
  have HB := Lib.hid hB
  have HP := Lib.hid bP
  have n3 : ¬ high ≤ low := h3
  clear hW0 hB bP hT hf h9 hl2 hu2 hv hx hv' hx' h3
  go_enter Tryz.func11, Tryz.ntmps11
  go_wp2_with fail
  (try rw [HW.out])
  refine (rfew_is s y z u 9 _ _ HF.out).mono ?_
  rintro e w1 ⟨rfl, hb1'⟩
  have HB1 := Lib.hid (HB.out.trans (hb1'.mono HB.out.size))
  have HT1 := Lib.hid (HT.out.next hb1')
  have HP1 := Lib.hid (HP.out.next hb1')
  clear hb1' p0 p1 p2 p3
  obtain ⟨p0, p1, p2, p3⟩ := vpos_cells HP1.out
  go_wp2_with fail
  refine (HV.out _ HT1.out).mono ?_
  rintro e w2 ⟨rfl, hb2'⟩
  have HB2 := Lib.hid (HB1.out.trans (hb2'.mono HB1.out.size))
  have HT2 := Lib.hid (HT1.out.next hb2')
  have HP2 := Lib.hid (HP1.out.next hb2')
  clear hb2' p0 p1 p2 p3
  obtain ⟨p0, p1, p2, p3⟩ := vpos_cells HP2.out
  go_wp2_with fail
  refine (HX.out _ HT2.out).mono ?_
  rintro e w3 ⟨rfl, hb3'⟩
  have HB3 := Lib.hid (HB2.out.trans (hb3'.mono HB2.out.size))
  have HT3 := Lib.hid (HT2.out.next hb3')
  clear hb3' p0 p1 p2 p3 wl wu HV HX HF
  have g1 : ¬ v < low := by omega
  have g2 : ¬ high < v := by omega
  rcases hcase with ⟨rfl, c2⟩ | ⟨c1, c2, rfl⟩ | ⟨rfl, c2⟩
  · have k1 : ¬ v < v := by omega
    have k2 : (v != v) = false := by simp
    have k3 : (v != high) = true := by rw [bne_iff_ne]; omega
    go_wp2_with fail
    refine (live21_any _ HT3.out).mono ?_
    rintro e w4 ⟨rfl, hb4⟩
    have hb := HB3.out.trans (hb4.mono HB3.out.size)
    go_wp2_with fail
    go_ret
    exact ⟨rfl, hb⟩
  · have k2 : (x == x) = true := by simp
    go_wp2_with fail
    refine (live21_any _ HT3.out).mono ?_
    rintro e w4 ⟨rfl, hb4⟩
    have hb := HB3.out.trans (hb4.mono HB3.out.size)
    go_wp2_with fail
    go_ret
    exact ⟨rfl, hb⟩
  · have k0 : low < v := by omega
    have k1 : ¬ v < v := by omega
    have k2 : (v != v) = false := by simp
    have k3 : (v != low) = true := by rw [bne_iff_ne]; omega
    go_wp2_with fail
    refine (live21_any _ HT3.out).mono ?_
    rintro e w4 ⟨rfl, hb4⟩
    have hb := HB3.out.trans (hb4.mono HB3.out.size)
    go_wp2_with fail
    go_ret
    exact ⟨rfl, hb⟩
theorem walk (s : ByteArray) (y z u low high : Int) (w : World) (hT : Tab w) : Calls Tryz.prog 11 #[.agg #[.string s, .int .i64 y, .int .i64 z, .int .i64 u], .int .i64 low, .int .i64 high] w (Gives w (.bool true)) := by
  cases hf : fewV s 9 with
  | false => exact large s y z u low high w hT false hf (.inl rfl)
  | true =>
    by_cases h1 : low < -100000
    · exact large s y z u low high w hT true hf (.inr (.inl h1))
    · by_cases h2 : 100000 < high
      · exact large s y z u low high w hT true hf (.inr (.inr (.inl h2)))
      · by_cases h3 : high ≤ low
        · exact large s y z u low high w hT true hf (.inr (.inr (.inr h3)))
        · exact small s y z u low high w hT hf h1 h2 h3
end Go.Proofs.YtbdgbihdhbjljaaGreatDoor.qwin
