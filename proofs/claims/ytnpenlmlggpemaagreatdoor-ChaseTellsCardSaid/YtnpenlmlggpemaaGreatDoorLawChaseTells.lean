/- Whether any capture on any board threatens; what any side chases: the call answers true. -/
import Derived.Test.YtnpenlmlggpemaaGreatDoorChaseV
import Derived.Test.YtnpenlmlggpemaaGreatDoorChaseN
namespace Go.Proofs.YtnpenlmlggpemaaGreatDoor.ctells
open Go.RowKit Go.Shelf
open M (S)

theorem all_g (s : ByteArray) (side : Int) (l : List Int) (n : Nat) (w : World) (hT : Tab w) (h : Hid (chasedL s side = l ∧ l.length = n)) : Calls Tryz.prog 27 #[.string s, .int .i64 side] w fun e w' => ∃ A c, e = .returned (.slice A n c) ∧ Rd w' A (l.map iv) ∧ Below w.heap.size w w' := (all_is s side w hT).mono fun e w' ⟨v, he, ho, hb⟩ => by
  obtain ⟨h1, h2⟩ := h.out
  rw [h1] at ho
  obtain ⟨A, c, rfl⟩ := own_slice ho
  rw [h2] at he
  exact ⟨A, c, he, Rd.own ho, hb⟩
theorem rall_g (s : ByteArray) (side : Int) (l : List Int) (n : Nat) (w : World) (h : Hid (chasedL s side = l ∧ l.length = n)) : Calls Tryz.prog 28 #[.string s, .int .i64 side] w fun e w' => ∃ A c, e = .returned (.slice A n c) ∧ Rd w' A (l.map iv) ∧ Below w.heap.size w w' := (rall_is s side w).mono fun e w' ⟨v, he, ho, hb⟩ => by
  obtain ⟨h1, h2⟩ := h.out
  rw [h1] at ho
  obtain ⟨A, c, rfl⟩ := own_slice ho
  rw [h2] at he
  exact ⟨A, c, he, Rd.own ho, hb⟩
theorem same_hid (A B : Option Addr) (l : List Int) (n c d : Nat) (w : World) (hx : Rd w A (l.map iv)) (hy : Rd w B (l.map iv)) (h : Hid (l.length = n ∧ n ≤ 1000000)) : Calls Tryz.prog 26 #[.slice A n c, .slice B n d] w (Gives w (.bool true)) := ints_true A B l n c d w hx hy h.out.1 h.out.2
theorem gt_keep {w : World} {p0 p1 : Value} {g : Nat} {W W' : World} (hS : W.cell? ⟨g, 0, none⟩ = some p0 ∧ W.cell? ⟨g, 1, none⟩ = some p1 ∧ Tab W ∧ Below w.heap.size w W) (hb : Below W.heap.size W W') :
    W'.cell? ⟨g, 0, none⟩ = some p0 ∧ W'.cell? ⟨g, 1, none⟩ = some p1 ∧ Tab W' ∧ Below w.heap.size w W' := by
  obtain ⟨h0, h1, h2, h4⟩ := hS
  exact ⟨(hb.cell (p := ⟨g, 0, none⟩) (cell_lt h0)).trans h0, (hb.cell (p := ⟨g, 1, none⟩) (cell_lt h1)).trans h1, h2.next hb, h4.trans (hb.mono h4.size)⟩
theorem gt_tab {w : World} {p0 p1 : Value} {g : Nat} {W : World} (hS : W.cell? ⟨g, 0, none⟩ = some p0 ∧ W.cell? ⟨g, 1, none⟩ = some p1 ∧ Tab W ∧ Below w.heap.size w W) : Tab W := hS.2.2.1
theorem gt_below {w : World} {p0 p1 : Value} {g : Nat} {W : World} (hS : W.cell? ⟨g, 0, none⟩ = some p0 ∧ W.cell? ⟨g, 1, none⟩ = some p1 ∧ Tab W ∧ Below w.heap.size w W) : Below w.heap.size w W := hS.2.2.2
set_option maxRecDepth 100000 in
set_option maxHeartbeats 8000000 in
theorem large (s : ByteArray) (side a b : Int) (w : World) (hT : Tab w) (hs : 200 < s.size) : Calls Tryz.prog 6 #[.string s, .int .i64 side, .agg #[.int .i64 a, .int .i64 b]] w (Gives w (.bool true)) := by
  unfold Gives
  have hd : decide (200 < (s.size : Int)) = true := by simp; omega
  clear hs
  go_enter Tryz.func6, Tryz.ntmps6
  go_wp2_with fail
  obtain ⟨W0, hW0⟩ : ∃ W0, w.alloc (.cells #[.int .i64 a, .int .i64 b] 23) = W0 := ⟨_, rfl⟩
  have hB : Below w.heap.size w W0 := by rw [← hW0]; exact (by repeat (first | exact Below.refl _ _ | (refine Below.setCell ?_ (by first | omega | (simp; done) | (simp; omega) | (simp at *; omega)) _) | (refine Below.alloc ?_ (by first | omega | (simp; done) | (simp; omega) | (simp at *; omega)) _) | refine Below.drew ?_ | (refine below_drewN ?_ _) | (refine Below.trans ?_ (Below.mono (by assumption) (by first | omega | (simp; done) | (simp; omega) | (simp at *; omega))))))
  replace hT := hT.below hB hT.lt
  rw [hW0]
  refine (live16_any _ hT).mono ?_
  rintro e w9 ⟨rfl, hb⟩
  go_wp2
  go_ret
  exact ⟨rfl, hB.trans (hb.mono hB.size)⟩
set_option maxRecDepth 100000 in
set_option maxHeartbeats 8000000 in
theorem small (s : ByteArray) (side a b : Int) (w : World) (hT : Tab w) (hs : s.size ≤ 200) : Calls Tryz.prog 6 #[.string s, .int .i64 side, .agg #[.int .i64 a, .int .i64 b]] w (Gives w (.bool true)) := by
  unfold Gives
  have hd : decide (200 < (s.size : Int)) = false := by simp; omega
  clear hs
  obtain ⟨W0, hW0⟩ : ∃ W0, w.alloc (.cells #[.int .i64 a, .int .i64 b] 23) = W0 := ⟨_, rfl⟩
  have hB : Below w.heap.size w W0 := by rw [← hW0]; exact (by repeat (first | exact Below.refl _ _ | (refine Below.setCell ?_ (by first | omega | (simp; done) | (simp; omega) | (simp at *; omega)) _) | (refine Below.alloc ?_ (by first | omega | (simp; done) | (simp; omega) | (simp at *; omega)) _) | refine Below.drew ?_ | (refine below_drewN ?_ _) | (refine Below.trans ?_ (Below.mono (by assumption) (by first | omega | (simp; done) | (simp; omega) | (simp at *; omega))))))
  have bM : Blk W0 w.heap.size 23 #[.int .i64 a, .int .i64 b] := by rw [← hW0]; exact Blk.new _ _ _ rfl
  have m0 : W0.cell? ⟨w.heap.size, 0, none⟩ = some (.int .i64 a) := bM.cell 0
  have m1 : W0.cell? ⟨w.heap.size, 1, none⟩ = some (.int .i64 b) := bM.cell 1
  replace hT := hT.below hB hT.lt
  have HW := Lib.hid hW0
  clear hW0 bM
  obtain ⟨L, hL⟩ : ∃ L, chasedL s side = L := ⟨_, rfl⟩
  obtain ⟨n, hn⟩ : ∃ n, L.length = n := ⟨_, rfl⟩
  have hn90 : n ≤ 90 := by rw [← hn, ← hL, chasedL_map, List.length_map]; exact chasedN_len s side
  have HLN : Hid (chasedL s side = L ∧ L.length = n) := ⟨hL, hn⟩
  have HQ : Hid (L.length = n ∧ n ≤ 1000000) := ⟨hn, by omega⟩
  obtain ⟨x, hx⟩ : ∃ x, threatI s a b = x := ⟨_, rfl⟩
  have HX := Lib.hid hx
  have e1 : (x == x) = true := by cases x <;> rfl
  clear hx hL hn
  go_enter Tryz.func6, Tryz.ntmps6
  go_wp2_with fail
  rw [HW.out]
  have hS : W0.drew.cell? ⟨w.heap.size, 0, none⟩ = some (.int .i64 a) ∧ W0.drew.cell? ⟨w.heap.size, 1, none⟩ = some (.int .i64 b) ∧ Tab W0.drew ∧ Below w.heap.size w W0.drew := ⟨m0, m1, hT.next (Below.refl _ _).drew, hB.drew⟩
  clear m0 m1 hT hB
  go_region_held3 (fun W => W.cell? ⟨w.heap.size, 0, none⟩ = some (.int .i64 a) ∧ W.cell? ⟨w.heap.size, 1, none⟩ = some (.int .i64 b) ∧ Tab W ∧ Below w.heap.size w W)
    (first | exact hS | exact gt_keep (by assumption) hb)
    (first
      | (go_at_call 27; refine (all_g s side L n _ ?_ HLN).mono ?_; (exact gt_tab (by assumption)); rintro e w1 ⟨A1, k1, rfl, rd, hb⟩; (try replace re := re.next hb))
      | (go_at_call 28; refine (rall_g s side L n _ HLN).mono ?_; rintro e w2 ⟨A2, k2, rfl, re, hb⟩; (try replace rd := rd.next hb))
      | (go_at_call 26; refine (same_hid _ _ L n _ _ _ (by assumption) (by assumption) HQ).mono ?_; rintro e w3 ⟨rfl, hb⟩)
      | (go_at_call 24; refine (threat_is s a b x _ ?_ HX.out).mono ?_; (exact gt_tab (by assumption)); rintro e w4 ⟨rfl, hb⟩)
      | (go_at_call 25; refine (rthreat_is s a b x _ HX.out).mono ?_; rintro e w5 ⟨rfl, hb⟩)
      | (go_at_call 23; refine (live16_any _ ?_).mono ?_; (exact gt_tab (by assumption)); rintro e w6 ⟨rfl, hb⟩))
  all_goals
    go_wp2
    go_ret
    exact ⟨rfl, gt_below (by assumption)⟩
theorem walk (s : ByteArray) (side a b : Int) (w : World) (hT : Tab w) : Calls Tryz.prog 6 #[.string s, .int .i64 side, .agg #[.int .i64 a, .int .i64 b]] w (Gives w (.bool true)) := by
  by_cases hs : s.size ≤ 200
  · exact small s side a b w hT hs
  · exact large s side a b w hT (by omega)
end Go.Proofs.YtnpenlmlggpemaaGreatDoor.ctells
