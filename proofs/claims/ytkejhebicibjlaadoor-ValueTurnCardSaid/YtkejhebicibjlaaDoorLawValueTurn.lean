/- Seen from the other side a position is worth the same; to the other side, as it stands, as much less: the call answers true. -/
import Derived.Test.YtkejhebicibjlaaDoorValueL
import Derived.Test.YtkejhebicibjlaaDoorRefP5
namespace Go.Proofs.YtkejhebicibjlaaDoor.vturn
open Go.RowKit Go.Shelf
open M (S)

set_option maxRecDepth 100000 in
set_option maxHeartbeats 4000000 in
theorem large (s : ByteArray) (side ck fl : Int) (w : World) (hT : Tab w) (hs : 200 < s.size) : Calls Tryd.prog 6 #[.agg #[.string s, .int .i64 side, .int .i64 ck, .int .i64 fl]] w (Gives w (.bool true)) := by
  unfold Gives
  have hd : decide (200 < (s.size : Int)) = true := by simp; omega
  clear hs
  have hB : Below w.heap.size w (w.alloc (.cells #[.string s, .int .i64 side, .int .i64 ck, .int .i64 fl] 27)) := (by repeat (first | exact Below.refl _ _ | (refine Below.setCell ?_ (by first | omega | (simp; done) | (simp; omega) | (simp at *; omega)) _) | (refine Below.alloc ?_ (by first | omega | (simp; done) | (simp; omega) | (simp at *; omega)) _) | refine Below.drew ?_ | (refine below_drewN ?_ _) | (refine Below.trans ?_ (Below.mono (by assumption) (by first | omega | (simp; done) | (simp; omega) | (simp at *; omega))))))
  go_enter Tryd.func6, Tryd.ntmps6
  go_wp2_with fail
  refine (live14_any _ (hT.next hB)).mono ?_
  rintro e w1 ⟨rfl, hb⟩
  go_wp2
  go_ret
  exact ⟨rfl, hB.trans (hb.mono hB.size)⟩
set_option maxRecDepth 100000 in
set_option maxHeartbeats 4000000 in
theorem odd (s : ByteArray) (side ck fl : Int) (w : World) (hT : Tab w) (hs : s.size ≤ 200) (h : isB s = false ∨ side < 0 ∨ 1 < side) : Calls Tryd.prog 6 #[.agg #[.string s, .int .i64 side, .int .i64 ck, .int .i64 fl]] w (Gives w (.bool true)) := by
  unfold Gives
  have hd : decide (200 < (s.size : Int)) = false := by simp; omega
  have hc : ∃ b, isB s = b ∧ (b = false ∨ (b = true ∧ decide (side < 0) = true) ∨ (b = true ∧ decide (side < 0) = false ∧ decide (1 < side) = true)) := by
    refine ⟨_, rfl, ?_⟩
    simp only [decide_eq_true_eq, decide_eq_false_iff_not]
    cases hb : isB s
    · exact .inl rfl
    · rw [hb] at h
      by_cases h0 : side < 0
      · exact .inr (.inl ⟨rfl, h0⟩)
      · exact .inr (.inr ⟨rfl, h0, by rcases h with h | h | h <;> first | exact absurd h (by decide) | omega⟩)
  clear hs h
  have hB : Below w.heap.size w (w.alloc (.cells #[.string s, .int .i64 side, .int .i64 ck, .int .i64 fl] 27)) := (by repeat (first | exact Below.refl _ _ | (refine Below.setCell ?_ (by first | omega | (simp; done) | (simp; omega) | (simp at *; omega)) _) | (refine Below.alloc ?_ (by first | omega | (simp; done) | (simp; omega) | (simp at *; omega)) _) | refine Below.drew ?_ | (refine below_drewN ?_ _) | (refine Below.trans ?_ (Below.mono (by assumption) (by first | omega | (simp; done) | (simp; omega) | (simp at *; omega))))))
  obtain ⟨b, hb0, hc⟩ := hc
  have HB := Lib.hid hb0
  clear hb0
  rcases hc with rfl | ⟨rfl, d0⟩ | ⟨rfl, d0, d1⟩
  all_goals
    go_enter Tryd.func6, Tryd.ntmps6
    go_wp2_with fail
    refine (is_is s _ _ HB.out).mono ?_
    rintro e w1 ⟨rfl, rfl⟩
    go_wp2_with fail
    refine (live14_any _ (hT.next hB)).mono ?_
    rintro e w1 ⟨rfl, hb⟩
    go_wp2
    go_ret
    exact ⟨rfl, hB.trans (hb.mono hB.size)⟩
theorem v8_keep {s : ByteArray} {side o ck fl : Int} {g1 g2 : Nat} {w W W' : World} (h : W.cell? ⟨g1, 0, none⟩ = some (.string s) ∧ W.cell? ⟨g1, 1, none⟩ = some (.int .i64 side) ∧ W.cell? ⟨g1, 2, none⟩ = some (.int .i64 ck) ∧ W.cell? ⟨g1, 3, none⟩ = some (.int .i64 fl) ∧ W.cell? ⟨g2, 0, none⟩ = some (.string s) ∧ W.cell? ⟨g2, 1, none⟩ = some (.int .i64 o) ∧ W.cell? ⟨g2, 2, none⟩ = some (.int .i64 ck) ∧ W.cell? ⟨g2, 3, none⟩ = some (.int .i64 fl) ∧ Below w.heap.size w W) (hb : Below W.heap.size W W') : W'.cell? ⟨g1, 0, none⟩ = some (.string s) ∧ W'.cell? ⟨g1, 1, none⟩ = some (.int .i64 side) ∧ W'.cell? ⟨g1, 2, none⟩ = some (.int .i64 ck) ∧ W'.cell? ⟨g1, 3, none⟩ = some (.int .i64 fl) ∧ W'.cell? ⟨g2, 0, none⟩ = some (.string s) ∧ W'.cell? ⟨g2, 1, none⟩ = some (.int .i64 o) ∧ W'.cell? ⟨g2, 2, none⟩ = some (.int .i64 ck) ∧ W'.cell? ⟨g2, 3, none⟩ = some (.int .i64 fl) ∧ Below w.heap.size w W' := by
  obtain ⟨h0, h1, h2, h3, h4, h5, h6, h7, h8⟩ := h
  exact ⟨(hb.cell (p := ⟨g1, 0, none⟩) (cell_lt h0)).trans h0, (hb.cell (p := ⟨g1, 1, none⟩) (cell_lt h1)).trans h1, (hb.cell (p := ⟨g1, 2, none⟩) (cell_lt h2)).trans h2, (hb.cell (p := ⟨g1, 3, none⟩) (cell_lt h3)).trans h3, (hb.cell (p := ⟨g2, 0, none⟩) (cell_lt h4)).trans h4, (hb.cell (p := ⟨g2, 1, none⟩) (cell_lt h5)).trans h5, (hb.cell (p := ⟨g2, 2, none⟩) (cell_lt h6)).trans h6, (hb.cell (p := ⟨g2, 3, none⟩) (cell_lt h7)).trans h7, h8.trans (hb.mono h8.size)⟩
theorem v8_below {s : ByteArray} {side o ck fl : Int} {g1 g2 : Nat} {w W : World} (h : W.cell? ⟨g1, 0, none⟩ = some (.string s) ∧ W.cell? ⟨g1, 1, none⟩ = some (.int .i64 side) ∧ W.cell? ⟨g1, 2, none⟩ = some (.int .i64 ck) ∧ W.cell? ⟨g1, 3, none⟩ = some (.int .i64 fl) ∧ W.cell? ⟨g2, 0, none⟩ = some (.string s) ∧ W.cell? ⟨g2, 1, none⟩ = some (.int .i64 o) ∧ W.cell? ⟨g2, 2, none⟩ = some (.int .i64 ck) ∧ W.cell? ⟨g2, 3, none⟩ = some (.int .i64 fl) ∧ Below w.heap.size w W) : Below w.heap.size w W := h.2.2.2.2.2.2.2.2
set_option maxRecDepth 100000 in
set_option maxHeartbeats 4000000 in
theorem good (s : ByteArray) (side ck fl : Int) (w : World) (hT : Tab w) (hs : s.size ≤ 200) (hb0 : isB s = true) (hsd : side = 0 ∨ side = 1) : Calls Tryd.prog 6 #[.agg #[.string s, .int .i64 side, .int .i64 ck, .int .i64 fl]] w (Gives w (.bool true)) := by
  unfold Gives
  have hd : decide (200 < (s.size : Int)) = false := by simp; omega
  have d0 : decide (side < 0) = false := by simp; omega
  have d1 : decide (1 < side) = false := by simp; omega
  have s0 : 0 ≤ side := by omega
  have s1 : side ≤ 1 := by omega
  obtain ⟨o, ho⟩ : ∃ o : Int, 1 - side = o := ⟨_, rfl⟩
  obtain ⟨v, hv⟩ : ∃ v, ofV s side = v := ⟨_, rfl⟩
  have hvb := of_bd s side
  rw [hv] at hvb
  obtain ⟨v0, v1⟩ := hvb
  have h1 := value_turn hb0 hsd
  have h2 := of_other s hsd
  rw [ho, hv] at h1 h2
  obtain ⟨t, ht⟩ : ∃ t, turnB s = t := ⟨_, rfl⟩
  rw [ht] at h1
  obtain ⟨m, hm⟩ : ∃ m : Int, -v = m := ⟨_, rfl⟩
  have hn1 : IntKind.i64.wrap (-v) = m := by rw [hm]; exact IntWalk.i64_in _ (by omega)
  have hn2 : wrap64 (-v) = m := by rw [hm]; exact IntWalk.wrap64_in _ (by omega)
  rw [hm] at h2
  have HB := Lib.hid hb0
  have HV := Lib.hid hv
  have HT := Lib.hid ht
  have H1 := Lib.hid h1
  have H2 := Lib.hid h2
  have HO := Lib.hid ho
  have HR : Hid (∀ W, Calls Tryd.prog 21 #[.agg #[.string s, .int .i64 side, .int .i64 ck, .int .i64 fl]] W (Gives W (.agg #[.string t, .int .i64 o, .int .i64 ck, .int .i64 fl]))) := fun W => by rw [← ho]; exact rturnP_any s t side ck fl W s0 s1 HT
  have hw1 : IntKind.i64.wrap (1 - side) = o := by rw [ho]; exact IntWalk.i64_in _ (by omega)
  clear hs hb0 hv h1 h2 ho ht hsd hm v0 v1
  go_enter Tryd.func6, Tryd.ntmps6
  go_wp2_with fail
  obtain ⟨W0, hW0⟩ : ∃ W0, w.alloc (.cells #[.string s, .int .i64 side, .int .i64 ck, .int .i64 fl] 27) = W0 := ⟨_, rfl⟩
  have hB : Below w.heap.size w W0 := by rw [← hW0]; exact (by repeat (first | exact Below.refl _ _ | (refine Below.setCell ?_ (by first | omega | (simp; done) | (simp; omega) | (simp at *; omega)) _) | (refine Below.alloc ?_ (by first | omega | (simp; done) | (simp; omega) | (simp at *; omega)) _) | refine Below.drew ?_ | (refine below_drewN ?_ _) | (refine Below.trans ?_ (Below.mono (by assumption) (by first | omega | (simp; done) | (simp; omega) | (simp at *; omega))))))
  have bP : Blk W0 w.heap.size 27 #[.string s, .int .i64 side, .int .i64 ck, .int .i64 fl] := by rw [← hW0]; exact Blk.new _ _ _ rfl
  rw [hW0]
  clear hW0
  refine (is_is s true _ HB.out).mono ?_
  rintro e w1 ⟨rfl, rfl⟩
  obtain ⟨W1, hW1⟩ : ∃ x, W0.alloc (.cells #[.string s, .int .i64 side, .int .i64 ck, .int .i64 fl] 27) = x := ⟨_, rfl⟩
  have hg : w.heap.size < W0.heap.size := bP.lt
  have bP1 : Blk W1 w.heap.size 27 #[.string s, .int .i64 side, .int .i64 ck, .int .i64 fl] := by rw [← hW1]; exact bP.alloc _
  have bQ1 : Blk W1 W0.heap.size 27 #[.string s, .int .i64 side, .int .i64 ck, .int .i64 fl] := by rw [← hW1]; exact Blk.new _ _ _ rfl
  have hB1 : Below w.heap.size w W1 := by rw [← hW1]; exact hB.alloc hB.size _
  obtain ⟨W2, hW2⟩ : ∃ x, W1.setCell ⟨W0.heap.size, 1, none⟩ (.int .i64 o) = x := ⟨_, rfl⟩
  have bP2 : Blk W2 w.heap.size 27 #[.string s, .int .i64 side, .int .i64 ck, .int .i64 fl] := by rw [← hW2]; exact bP1.far (by simp; omega) _
  have bQ2 : Blk W2 W0.heap.size 27 #[.string s, .int .i64 o, .int .i64 ck, .int .i64 fl] := by rw [← hW2]; exact bQ1.set_ 1 _
  have hB2 : Below w.heap.size w W2 := by rw [← hW2]; exact hB1.setCell (p := ⟨W0.heap.size, 1, none⟩) (by simp; omega) _
  obtain ⟨p0, p1, p2, p3⟩ := vpos_cells bP
  obtain ⟨q0, q1, q2, q3⟩ := vpos_cells bP1
  obtain ⟨r0, r1, r2, r3⟩ := vpos_cells bQ1
  have f1 := bQ1.frozen 1
  go_wp2_with fail
  obtain ⟨p0, p1, p2, p3⟩ := vpos_cells bP2
  obtain ⟨q0, q1, q2, q3⟩ := vpos_cells bQ2
  have hS : W2.drew.cell? ⟨w.heap.size, 0, none⟩ = some (.string s) ∧ W2.drew.cell? ⟨w.heap.size, 1, none⟩ = some (.int .i64 side) ∧ W2.drew.cell? ⟨w.heap.size, 2, none⟩ = some (.int .i64 ck) ∧ W2.drew.cell? ⟨w.heap.size, 3, none⟩ = some (.int .i64 fl) ∧ W2.drew.cell? ⟨W0.heap.size, 0, none⟩ = some (.string s) ∧ W2.drew.cell? ⟨W0.heap.size, 1, none⟩ = some (.int .i64 o) ∧ W2.drew.cell? ⟨W0.heap.size, 2, none⟩ = some (.int .i64 ck) ∧ W2.drew.cell? ⟨W0.heap.size, 3, none⟩ = some (.int .i64 fl) ∧ Below w.heap.size w W2.drew := ⟨p0, p1, p2, p3, q0, q1, q2, q3, hB2.drew⟩
  clear hW2 hW1 hB hB1 hB2 bP bP1 bP2 bQ1 bQ2 f1 p0 p1 p2 p3 q0 q1 q2 q3 r0 r1 r2 r3
  go_region_held3 (fun W => W.cell? ⟨w.heap.size, 0, none⟩ = some (.string s) ∧ W.cell? ⟨w.heap.size, 1, none⟩ = some (.int .i64 side) ∧ W.cell? ⟨w.heap.size, 2, none⟩ = some (.int .i64 ck) ∧ W.cell? ⟨w.heap.size, 3, none⟩ = some (.int .i64 fl) ∧ W.cell? ⟨W0.heap.size, 0, none⟩ = some (.string s) ∧ W.cell? ⟨W0.heap.size, 1, none⟩ = some (.int .i64 o) ∧ W.cell? ⟨W0.heap.size, 2, none⟩ = some (.int .i64 ck) ∧ W.cell? ⟨W0.heap.size, 3, none⟩ = some (.int .i64 fl) ∧ Below w.heap.size w W)
    (first | exact hS | with_reducible assumption | exact v8_keep (by assumption) hb)
    (first
      | (go_at_call 14; refine (vof_is _ _ _ _ _ _ (hT.next (v8_below (by assumption))) (by first | with_reducible exact H1.out | with_reducible exact H2.out | with_reducible exact HV.out)).mono ?_; rintro e w3 ⟨rfl, hb⟩)
      | (go_at_call 21; refine (HR.out _).mono ?_; rintro e w3 ⟨rfl, hb⟩)
      | (go_at_call 13; refine (live14_any _ (hT.next (v8_below (by assumption)))).mono ?_; rintro e w3 ⟨rfl, hb⟩))
  all_goals go_wp2
  all_goals (go_ret; exact ⟨rfl, v8_below (by assumption)⟩)
theorem walk (s : ByteArray) (side ck fl : Int) (w : World) (hT : Tab w) : Calls Tryd.prog 6 #[.agg #[.string s, .int .i64 side, .int .i64 ck, .int .i64 fl]] w (Gives w (.bool true)) := by
  by_cases hs : s.size ≤ 200
  · by_cases hsd : side = 0 ∨ side = 1
    · cases hb : isB s
      · exact odd s side ck fl w hT hs (.inl hb)
      · exact good s side ck fl w hT hs hb hsd
    · exact odd s side ck fl w hT hs (.inr (by omega))
  · exact large s side ck fl w hT (by omega)
end Go.Proofs.YtkejhebicibjlaaDoor.vturn
