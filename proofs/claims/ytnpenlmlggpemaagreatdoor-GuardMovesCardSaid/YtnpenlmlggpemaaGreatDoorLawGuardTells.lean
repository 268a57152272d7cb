/- What any side of any board could take; whether it could make any move; whether that is guarded: the call answers true. -/
import Derived.Test.YtnpenlmlggpemaaGreatDoorGuardV
import Derived.Test.YtnpenlmlggpemaaGreatDoorGuardU
namespace Go.Proofs.YtnpenlmlggpemaaGreatDoor.gtells
open Go.RowKit Go.Shelf
open M (S)

theorem takes_m (s : ByteArray) (side : Int) (l : List (Nat × Nat)) (n : Nat) (w : World) (hT : Tab w) (hl : takesG s side = l) (hn : l.length = n) : Calls Tryz.prog 13 #[.string s, .int .i64 side] w (GivesM w l n) := (gtakes_is s side l n w hT hl hn).mono fun _ _ h => h.gives
theorem same_hid (A B : Option Addr) (l : List (Nat × Nat)) (n c d : Nat) (w : World) (hx : Rd w A (mvs l)) (hy : Rd w B (mvs l)) (h : Hid (l.length = n ∧ n ≤ 1000000)) : Calls Tryz.prog 12 #[.slice A n c, .slice B n d] w (Gives w (.bool true)) := same_true A B l n c d w hx hy h.out.1 h.out.2
theorem gt_keep {w : World} {p0 p1 : Value} {g : Nat} {W W' : World} (hS : W.cell? ⟨g, 0, none⟩ = some p0 ∧ W.cell? ⟨g, 1, none⟩ = some p1 ∧ Tab W ∧ Below w.heap.size w W) (hb : Below W.heap.size W W') :
    W'.cell? ⟨g, 0, none⟩ = some p0 ∧ W'.cell? ⟨g, 1, none⟩ = some p1 ∧ Tab W' ∧ Below w.heap.size w W' := by
  obtain ⟨h0, h1, h2, h4⟩ := hS
  exact ⟨(hb.cell (p := ⟨g, 0, none⟩) (cell_lt h0)).trans h0, (hb.cell (p := ⟨g, 1, none⟩) (cell_lt h1)).trans h1, h2.next hb, h4.trans (hb.mono h4.size)⟩
theorem gt_tab {w : World} {p0 p1 : Value} {g : Nat} {W : World} (hS : W.cell? ⟨g, 0, none⟩ = some p0 ∧ W.cell? ⟨g, 1, none⟩ = some p1 ∧ Tab W ∧ Below w.heap.size w W) : Tab W := hS.2.2.1
theorem gt_below {w : World} {p0 p1 : Value} {g : Nat} {W : World} (hS : W.cell? ⟨g, 0, none⟩ = some p0 ∧ W.cell? ⟨g, 1, none⟩ = some p1 ∧ Tab W ∧ Below w.heap.size w W) : Below w.heap.size w W := hS.2.2.2
set_option maxRecDepth 100000 in
set_option maxHeartbeats 8000000 in
theorem large (s : ByteArray) (side a b : Int) (w : World) (hT : Tab w) (hs : 200 < s.size) : Calls Tryz.prog 3 #[.string s, .int .i64 side, .agg #[.int .i64 a, .int .i64 b]] w (Gives w (.bool true)) := by
  unfold Gives
  have hd : decide (200 < (s.size : Int)) = true := by simp; omega
  clear hs
  go_enter Tryz.func3, Tryz.ntmps3
  go_wp2_with fail
  obtain ⟨W0, hW0⟩ : ∃ W0, w.alloc (.cells #[.int .i64 a, .int .i64 b] 23) = W0 := ⟨_, rfl⟩
  have hB : Below w.heap.size w W0 := by rw [← hW0]; exact (by repeat (first | exact Below.refl _ _ | (refine Below.setCell ?_ (by first | omega | (simp; done) | (simp; omega) | (simp at *; omega)) _) | (refine Below.alloc ?_ (by first | omega | (simp; done) | (simp; omega) | (simp at *; omega)) _) | refine Below.drew ?_ | (refine below_drewN ?_ _) | (refine Below.trans ?_ (Below.mono (by assumption) (by first | omega | (simp; done) | (simp; omega) | (simp at *; omega))))))
  replace hT := hT.below hB hT.lt
  rw [hW0]
  refine (live15_any _ hT).mono ?_
  rintro e w9 ⟨rfl, hb⟩
  go_wp2
  go_ret
  exact ⟨rfl, hB.trans (hb.mono hB.size)⟩
set_option maxRecDepth 100000 in
set_option maxHeartbeats 8000000 in
theorem small (s : ByteArray) (side a b : Int) (w : World) (hT : Tab w) (hs : s.size ≤ 200) : Calls Tryz.prog 3 #[.string s, .int .i64 side, .agg #[.int .i64 a, .int .i64 b]] w (Gives w (.bool true)) := by
  unfold Gives
  have hd : decide (200 < (s.size : Int)) = false := by simp; omega
  clear hs
  obtain ⟨W0, hW0⟩ : ∃ W0, w.alloc (.cells #[.int .i64 a, .int .i64 b] 23) = W0 := ⟨_, rfl⟩
  have hB : Below w.heap.size w W0 := by rw [← hW0]; exact (by repeat (first | exact Below.refl _ _ | (refine Below.setCell ?_ (by first | omega | (simp; done) | (simp; omega) | (simp at *; omega)) _) | (refine Below.alloc ?_ (by first | omega | (simp; done) | (simp; omega) | (simp at *; omega)) _) | refine Below.drew ?_ | (refine below_drewN ?_ _) | (refine Below.trans ?_ (Below.mono (by assumption) (by first | omega | (simp; done) | (simp; omega) | (simp at *; omega))))))
  have bM : Blk W0 w.heap.size 23 #[.int .i64 a, .int .i64 b] := by rw [← hW0]; exact Blk.new _ _ _ rfl
  have m0 : W0.cell? ⟨w.heap.size, 0, none⟩ = some (.int .i64 a) := bM.cell 0
  have m1 : W0.cell? ⟨w.heap.size, 1, none⟩ = some (.int .i64 b) := bM.cell 1
  replace hT := hT.below hB hT.lt
  have HW := Lib.hid hW0
  clear hW0 bM
  obtain ⟨L, hL⟩ : ∃ L, takesG s side = L := ⟨_, rfl⟩
  obtain ⟨n, hn⟩ : ∃ n, L.length = n := ⟨_, rfl⟩
  have hn81 : n ≤ 8100 := by rw [← hn, ← hL]; exact takes_len s side
  have HL := Lib.hid hL
  have HN := Lib.hid hn
  obtain ⟨x, hx⟩ : ∃ x, couldI s side a b = x := ⟨_, rfl⟩
  obtain ⟨z, hz⟩ : ∃ z, guardI s a b = z := ⟨_, rfl⟩
  have HX := Lib.hid hx
  have HQ : Hid (L.length = n ∧ n ≤ 1000000) := ⟨hn, by omega⟩
  have HZ := Lib.hid hz
  have e1 : (x == x) = true := by cases x <;> rfl
  have e2 : (z == z) = true := by cases z <;> rfl
  clear hx hz hL hn
  go_enter Tryz.func3, Tryz.ntmps3
  go_wp2_with fail
  rw [HW.out]
  have hS : W0.drew.cell? ⟨w.heap.size, 0, none⟩ = some (.int .i64 a) ∧ W0.drew.cell? ⟨w.heap.size, 1, none⟩ = some (.int .i64 b) ∧ Tab W0.drew ∧ Below w.heap.size w W0.drew := ⟨m0, m1, hT.next (Below.refl _ _).drew, hB.drew⟩
  clear m0 m1 hT hB
  go_region_held3 (fun W => W.cell? ⟨w.heap.size, 0, none⟩ = some (.int .i64 a) ∧ W.cell? ⟨w.heap.size, 1, none⟩ = some (.int .i64 b) ∧ Tab W ∧ Below w.heap.size w W)
    (first | exact hS | exact gt_keep (by assumption) hb)
    (first
      | (go_at_call 13; refine (takes_m s side L n _ ?_ HL.out HN.out).mono ?_; (exact gt_tab (by assumption)); rintro e w1 ⟨A1, k1, rfl, rd, hb⟩)
      | (go_at_call 14; refine (rgtakes_is s side L n _ HL.out HN.out).mono ?_; rintro e w2 ⟨A2, k2, rfl, re, hb⟩; replace rd := rd.next hb)
      | (go_at_call 12; refine (same_hid _ _ L n _ _ _ (by assumption) (by assumption) HQ).mono ?_; rintro e w3 ⟨rfl, hb⟩)
      | (go_at_call 15; refine (gcan_is s side a b x _ ?_ HX.out).mono ?_; (exact gt_tab (by assumption)); rintro e w4 ⟨rfl, hb⟩)
      | (go_at_call 16; refine (rgcan_is s side a b x _ HX.out).mono ?_; rintro e w5 ⟨rfl, hb⟩)
      | (go_at_call 17; refine (gguard_is s a b z _ ?_ HZ.out).mono ?_; (exact gt_tab (by assumption)); rintro e w4 ⟨rfl, hb⟩)
      | (go_at_call 18; refine (rgguard_is s a b z _ HZ.out).mono ?_; rintro e w5 ⟨rfl, hb⟩)
      | (go_at_call 11; refine (live15_any _ ?_).mono ?_; (exact gt_tab (by assumption)); rintro e w6 ⟨rfl, hb⟩))
  all_goals
    go_wp2
    go_ret
    exact ⟨rfl, gt_below (by assumption)⟩
theorem walk (s : ByteArray) (side a b : Int) (w : World) (hT : Tab w) : Calls Tryz.prog 3 #[.string s, .int .i64 side, .agg #[.int .i64 a, .int .i64 b]] w (Gives w (.bool true)) := by
  by_cases hs : s.size ≤ 200
  · exact small s side a b w hT hs
  · exact large s side a b w hT (by omega)
end Go.Proofs.YtnpenlmlggpemaaGreatDoor.gtells
