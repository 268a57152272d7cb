/- A piece that is put on an empty square changes what a position is worth by what it is worth there: the call answers true. -/
import Derived.Test.YtkejhebicibjlaaDoorValueL
namespace Go.Proofs.YtkejhebicibjlaaDoor.vadds
open Go.RowKit Go.Shelf
open M (S)

theorem value_adds {s : ByteArray} (hs : isB s = true) {m c : Nat} (hm : m < 90) (hc : c < 256) (h46 : bAt s m = 46) {side : Int} (hsd : side = 0 ∨ side = 1) : ofV (putB s (m : Int) c) side = ofV s side + (if sideN c = side then pieceV c (m : Int) else -(pieceV c (m : Int))) := by
  cases hf : fillB c
  · have h1 : putB s (m : Int) c = s := by
      unfold putB
      rw [if_neg (by rw [hf]; simp)]
    have h0 : sideN c < 0 := by
      rw [fill_side] at hf
      simp only [Bool.or_eq_false_iff, decide_eq_false_iff_not] at hf
      omega
    rw [h1, piece_empty h0]
    split <;> omega
  · have h1 : putB s (m : Int) c = putS s m c := by
      unfold putB
      rw [if_pos ⟨hs, sqI_true (by omega), hf⟩, Int.toNat_natCast]
    have hb := put_is_board hs m c hc hf
    have k := term_put hs hm hc side
    rw [term_at hs hm hc] at k
    have z : termV s side m = 0 := by
      unfold termV
      rw [h46, piece_46]
      split <;> rfl
    rw [h1]
    unfold ofV
    rw [hb, hs, if_pos rfl, if_pos rfl, k, z]
    by_cases e : sideN c = side
    · rw [own_term e, if_pos e]; omega
    · rw [other_term hsd e, if_neg e]; omega
set_option maxRecDepth 100000 in
set_option maxHeartbeats 4000000 in
theorem large (s : ByteArray) (side ck fl n : Int) (c : Nat) (w : World) (hT : Tab w) (hs : 200 < s.size) : Calls Tryd.prog 7 #[.agg #[.string s, .int .i64 side, .int .i64 ck, .int .i64 fl], .int .i64 n, .int .u8 (c : Int)] w (Gives w (.bool true)) := by
  unfold Gives
  have hd : decide (200 < (s.size : Int)) = true := by simp; omega
  clear hs
  have hB : Below w.heap.size w (w.alloc (.cells #[.string s, .int .i64 side, .int .i64 ck, .int .i64 fl] 27)) := (by repeat (first | exact Below.refl _ _ | (refine Below.setCell ?_ (by first | omega | (simp; done) | (simp; omega) | (simp at *; omega)) _) | (refine Below.alloc ?_ (by first | omega | (simp; done) | (simp; omega) | (simp at *; omega)) _) | refine Below.drew ?_ | (refine below_drewN ?_ _) | (refine Below.trans ?_ (Below.mono (by assumption) (by first | omega | (simp; done) | (simp; omega) | (simp at *; omega))))))
  go_enter Tryd.func7, Tryd.ntmps7
  go_wp2_with fail
  refine (live14_any _ (hT.next hB)).mono ?_
  rintro e w1 ⟨rfl, hb⟩
  go_wp2
  go_ret
  exact ⟨rfl, hB.trans (hb.mono hB.size)⟩
set_option maxRecDepth 100000 in
set_option maxHeartbeats 4000000 in
theorem odd1 (s : ByteArray) (side ck fl n : Int) (c : Nat) (w : World) (hT : Tab w) (hs : s.size ≤ 200) (h : isB s = false ∨ n < 0 ∨ 89 < n) : Calls Tryd.prog 7 #[.agg #[.string s, .int .i64 side, .int .i64 ck, .int .i64 fl], .int .i64 n, .int .u8 (c : Int)] w (Gives w (.bool true)) := by
  unfold Gives
  have hd : decide (200 < (s.size : Int)) = false := by simp; omega
  have hc : ∃ b, isB s = b ∧ (b = false ∨ (b = true ∧ decide (n < 0) = true) ∨ (b = true ∧ decide (n < 0) = false ∧ decide (89 < n) = true)) := by
    refine ⟨_, rfl, ?_⟩
    simp only [decide_eq_true_eq, decide_eq_false_iff_not]
    cases hb : isB s
    · exact .inl rfl
    · rw [hb] at h
      by_cases h0 : n < 0
      · exact .inr (.inl ⟨rfl, h0⟩)
      · exact .inr (.inr ⟨rfl, h0, by rcases h with h | h | h <;> first | exact absurd h (by decide) | omega⟩)
  clear hs h
  have hB : Below w.heap.size w (w.alloc (.cells #[.string s, .int .i64 side, .int .i64 ck, .int .i64 fl] 27)) := (by repeat (first | exact Below.refl _ _ | (refine Below.setCell ?_ (by first | omega | (simp; done) | (simp; omega) | (simp at *; omega)) _) | (refine Below.alloc ?_ (by first | omega | (simp; done) | (simp; omega) | (simp at *; omega)) _) | refine Below.drew ?_ | (refine below_drewN ?_ _) | (refine Below.trans ?_ (Below.mono (by assumption) (by first | omega | (simp; done) | (simp; omega) | (simp at *; omega))))))
  obtain ⟨b, hb0, hc⟩ := hc
  have HB := Lib.hid hb0
  clear hb0
  rcases hc with rfl | ⟨rfl, d0⟩ | ⟨rfl, d0, d1⟩
  all_goals
    go_enter Tryd.func7, Tryd.ntmps7
    go_wp2_with fail
    refine (is_is s _ _ HB.out).mono ?_
    rintro e w1 ⟨rfl, rfl⟩
    go_wp2_with fail
    refine (live14_any _ (hT.next hB)).mono ?_
    rintro e w1 ⟨rfl, hb⟩
    go_wp2
    go_ret
    exact ⟨rfl, hB.trans (hb.mono hB.size)⟩
set_option maxRecDepth 100000 in
set_option maxHeartbeats 4000000 in
theorem odd2 (s : ByteArray) (side ck fl n : Int) (c : Nat) (w : World) (hT : Tab w) (hs : s.size ≤ 200) (hb0 : isB s = true) (hn : 0 ≤ n ∧ n < 90) (x : Nat) (hx : atB s n = x) (h : x ≠ 46 ∨ side < 0 ∨ 1 < side) : Calls Tryd.prog 7 #[.agg #[.string s, .int .i64 side, .int .i64 ck, .int .i64 fl], .int .i64 n, .int .u8 (c : Int)] w (Gives w (.bool true)) := by
  unfold Gives
  have hd : decide (200 < (s.size : Int)) = false := by simp; omega
  have d0 : decide (n < 0) = false := by simp; omega
  have d1 : decide (89 < n) = false := by simp; omega
  have hc : ¬ (x : Int) = 46 ∨ (x = 46 ∧ decide (side < 0) = true) ∨ (x = 46 ∧ decide (side < 0) = false ∧ decide (1 < side) = true) := by
    simp only [decide_eq_true_eq, decide_eq_false_iff_not]
    omega
  have HB := Lib.hid hb0
  have HX := Lib.hid hx
  clear hs h hn hx hb0
  have hB : Below w.heap.size w (w.alloc (.cells #[.string s, .int .i64 side, .int .i64 ck, .int .i64 fl] 27)) := (by repeat (first | exact Below.refl _ _ | (refine Below.setCell ?_ (by first | omega | (simp; done) | (simp; omega) | (simp at *; omega)) _) | (refine Below.alloc ?_ (by first | omega | (simp; done) | (simp; omega) | (simp at *; omega)) _) | refine Below.drew ?_ | (refine below_drewN ?_ _) | (refine Below.trans ?_ (Below.mono (by assumption) (by first | omega | (simp; done) | (simp; omega) | (simp at *; omega))))))
  rcases hc with ne | ⟨rfl, d2⟩ | ⟨rfl, d2, d3⟩
  all_goals
    go_enter Tryd.func7, Tryd.ntmps7
    go_wp2_with fail
    refine (is_is s true _ HB.out).mono ?_
    rintro e w1 ⟨rfl, rfl⟩
    go_wp2_with fail
    refine (at_is s n _ _ HX.out).mono ?_
    rintro e w1 ⟨rfl, rfl⟩
    go_wp2_with fail
    refine (live14_any _ (hT.next hB)).mono ?_
    rintro e w1 ⟨rfl, hb⟩
    go_wp2
    go_ret
    exact ⟨rfl, hB.trans (hb.mono hB.size)⟩
theorem a8_keep {s t : ByteArray} {side ck fl : Int} {g1 g2 : Nat} {w W W' : World} (h : W.cell? ⟨g1, 0, none⟩ = some (.string s) ∧ W.cell? ⟨g1, 1, none⟩ = some (.int .i64 side) ∧ W.cell? ⟨g1, 2, none⟩ = some (.int .i64 ck) ∧ W.cell? ⟨g1, 3, none⟩ = some (.int .i64 fl) ∧ W.cell? ⟨g2, 0, none⟩ = some (.string t) ∧ W.cell? ⟨g2, 1, none⟩ = some (.int .i64 side) ∧ W.cell? ⟨g2, 2, none⟩ = some (.int .i64 ck) ∧ W.cell? ⟨g2, 3, none⟩ = some (.int .i64 fl) ∧ Below w.heap.size w W) (hb : Below W.heap.size W W') : W'.cell? ⟨g1, 0, none⟩ = some (.string s) ∧ W'.cell? ⟨g1, 1, none⟩ = some (.int .i64 side) ∧ W'.cell? ⟨g1, 2, none⟩ = some (.int .i64 ck) ∧ W'.cell? ⟨g1, 3, none⟩ = some (.int .i64 fl) ∧ W'.cell? ⟨g2, 0, none⟩ = some (.string t) ∧ W'.cell? ⟨g2, 1, none⟩ = some (.int .i64 side) ∧ W'.cell? ⟨g2, 2, none⟩ = some (.int .i64 ck) ∧ W'.cell? ⟨g2, 3, none⟩ = some (.int .i64 fl) ∧ Below w.heap.size w W' := by
  obtain ⟨h0, h1, h2, h3, h4, h5, h6, h7, h8⟩ := h
  exact ⟨(hb.cell (p := ⟨g1, 0, none⟩) (cell_lt h0)).trans h0, (hb.cell (p := ⟨g1, 1, none⟩) (cell_lt h1)).trans h1, (hb.cell (p := ⟨g1, 2, none⟩) (cell_lt h2)).trans h2, (hb.cell (p := ⟨g1, 3, none⟩) (cell_lt h3)).trans h3, (hb.cell (p := ⟨g2, 0, none⟩) (cell_lt h4)).trans h4, (hb.cell (p := ⟨g2, 1, none⟩) (cell_lt h5)).trans h5, (hb.cell (p := ⟨g2, 2, none⟩) (cell_lt h6)).trans h6, (hb.cell (p := ⟨g2, 3, none⟩) (cell_lt h7)).trans h7, h8.trans (hb.mono h8.size)⟩
theorem a8_dr {s t : ByteArray} {side ck fl : Int} {g1 g2 : Nat} {w W : World} (h : W.cell? ⟨g1, 0, none⟩ = some (.string s) ∧ W.cell? ⟨g1, 1, none⟩ = some (.int .i64 side) ∧ W.cell? ⟨g1, 2, none⟩ = some (.int .i64 ck) ∧ W.cell? ⟨g1, 3, none⟩ = some (.int .i64 fl) ∧ W.cell? ⟨g2, 0, none⟩ = some (.string t) ∧ W.cell? ⟨g2, 1, none⟩ = some (.int .i64 side) ∧ W.cell? ⟨g2, 2, none⟩ = some (.int .i64 ck) ∧ W.cell? ⟨g2, 3, none⟩ = some (.int .i64 fl) ∧ Below w.heap.size w W) : W.drew.cell? ⟨g1, 0, none⟩ = some (.string s) ∧ W.drew.cell? ⟨g1, 1, none⟩ = some (.int .i64 side) ∧ W.drew.cell? ⟨g1, 2, none⟩ = some (.int .i64 ck) ∧ W.drew.cell? ⟨g1, 3, none⟩ = some (.int .i64 fl) ∧ W.drew.cell? ⟨g2, 0, none⟩ = some (.string t) ∧ W.drew.cell? ⟨g2, 1, none⟩ = some (.int .i64 side) ∧ W.drew.cell? ⟨g2, 2, none⟩ = some (.int .i64 ck) ∧ W.drew.cell? ⟨g2, 3, none⟩ = some (.int .i64 fl) ∧ Below w.heap.size w W.drew := by
  obtain ⟨h0, h1, h2, h3, h4, h5, h6, h7, h8⟩ := h
  exact ⟨h0, h1, h2, h3, h4, h5, h6, h7, h8.drew⟩
theorem a8_below {s t : ByteArray} {side ck fl : Int} {g1 g2 : Nat} {w W : World} (h : W.cell? ⟨g1, 0, none⟩ = some (.string s) ∧ W.cell? ⟨g1, 1, none⟩ = some (.int .i64 side) ∧ W.cell? ⟨g1, 2, none⟩ = some (.int .i64 ck) ∧ W.cell? ⟨g1, 3, none⟩ = some (.int .i64 fl) ∧ W.cell? ⟨g2, 0, none⟩ = some (.string t) ∧ W.cell? ⟨g2, 1, none⟩ = some (.int .i64 side) ∧ W.cell? ⟨g2, 2, none⟩ = some (.int .i64 ck) ∧ W.cell? ⟨g2, 3, none⟩ = some (.int .i64 fl) ∧ Below w.heap.size w W) : Below w.heap.size w W := h.2.2.2.2.2.2.2.2
set_option maxRecDepth 100000 in
set_option maxHeartbeats 4000000 in
theorem good (s : ByteArray) (side ck fl n : Int) (c : Nat) (w : World) (hT : Tab w) (hs : s.size ≤ 200) (hc : c < 256) (hb0 : isB s = true) (hn : 0 ≤ n ∧ n < 90) (hx : atB s n = 46) (hsd : side = 0 ∨ side = 1) : Calls Tryd.prog 7 #[.agg #[.string s, .int .i64 side, .int .i64 ck, .int .i64 fl], .int .i64 n, .int .u8 (c : Int)] w (Gives w (.bool true)) := by
  unfold Gives
  have hd : decide (200 < (s.size : Int)) = false := by simp; omega
  have d0 : decide (n < 0) = false := by simp; omega
  have d1 : decide (89 < n) = false := by simp; omega
  have d2 : decide (side < 0) = false := by simp; omega
  have d3 : decide (1 < side) = false := by simp; omega
  obtain ⟨o, ho⟩ : ∃ o, sideN c = o := ⟨_, rfl⟩
  obtain ⟨a, ha⟩ : ∃ a, ofV s side = a := ⟨_, rfl⟩
  obtain ⟨v, hv⟩ : ∃ v, pieceV c n = v := ⟨_, rfl⟩
  obtain ⟨t, ht⟩ : ∃ t, putB s n c = t := ⟨_, rfl⟩
  have h1 : ofV t side = a + (if o = side then v else -v) := by
    obtain ⟨m, rfl⟩ : ∃ m : Nat, n = m := ⟨n.toNat, by omega⟩
    have h46 : bAt s m = 46 := by
      unfold atB at hx
      rw [if_pos ⟨hb0, sqI_true hn⟩, Int.toNat_natCast] at hx
      exact hx
    rw [← ht, value_adds hb0 (by omega) hc h46 hsd, ho, ha, hv]
  have hab := of_bd s side
  rw [ha] at hab
  have hvb := piece_bd c n
  rw [hv] at hvb
  have HB := Lib.hid hb0
  have HX := Lib.hid hx
  have HA := Lib.hid ha
  have HV := Lib.hid hv
  have HO := Lib.hid ho
  have HP : Hid (∀ W, Calls Tryd.prog 23 #[.string s, .int .i64 n, .int .u8 (c : Int)] W (Gives W (.string t))) := fun W => by have := put_is s n c W hc; rw [ht] at this; exact this
  obtain ⟨u, hu⟩ : ∃ u, (if o = side then v else -v) = u := ⟨_, rfl⟩
  obtain ⟨r, hr⟩ : ∃ r, a + u = r := ⟨_, rfl⟩
  rw [hu, hr] at h1
  have H1 := Lib.hid h1
  have hub : -250 ≤ u ∧ u ≤ 250 := by rw [← hu]; split <;> omega
  have hr1 : IntKind.i64.wrap (a + u) = r := by rw [hr]; exact IntWalk.i64_in _ (by omega)
  have hr2 : wrap64 (a + u) = r := by rw [hr]; exact IntWalk.wrap64_in _ (by omega)
  have hcase : ((o != side) = false ∧ v = u) ∨ ((o != side) = true ∧ IntKind.i64.wrap (-v) = u ∧ wrap64 (-v) = u) := by
    by_cases e : o = side
    · rw [if_pos e] at hu; exact .inl ⟨by rw [e]; simp, hu⟩
    · rw [if_neg e] at hu
      exact .inr ⟨by rw [bne_iff_ne]; exact e, by rw [hu]; exact IntWalk.i64_in _ (by omega), by rw [hu]; exact IntWalk.wrap64_in _ (by omega)⟩
  clear hs hb0 hx ha hv ho ht h1 hu hr hab hvb hub hc hn hsd
  rcases hcase with ⟨ne, rfl⟩ | ⟨ne, hn1, hn2⟩
  all_goals
    go_enter Tryd.func7, Tryd.ntmps7
    go_wp2_with fail
    obtain ⟨W0, hW0⟩ : ∃ W0, w.alloc (.cells #[.string s, .int .i64 side, .int .i64 ck, .int .i64 fl] 27) = W0 := ⟨_, rfl⟩
    have hB : Below w.heap.size w W0 := by rw [← hW0]; exact (by repeat (first | exact Below.refl _ _ | (refine Below.setCell ?_ (by first | omega | (simp; done) | (simp; omega) | (simp at *; omega)) _) | (refine Below.alloc ?_ (by first | omega | (simp; done) | (simp; omega) | (simp at *; omega)) _) | refine Below.drew ?_ | (refine below_drewN ?_ _) | (refine Below.trans ?_ (Below.mono (by assumption) (by first | omega | (simp; done) | (simp; omega) | (simp at *; omega))))))
    have bP : Blk W0 w.heap.size 27 #[.string s, .int .i64 side, .int .i64 ck, .int .i64 fl] := by rw [← hW0]; exact Blk.new _ _ _ rfl
    rw [hW0]
    clear hW0
    refine (is_is s true _ HB.out).mono ?_
    rintro e w1 ⟨rfl, rfl⟩
    obtain ⟨p0, p1, p2, p3⟩ := vpos_cells bP
    go_wp2_with fail
    refine (at_is s n 46 _ HX.out).mono ?_
    rintro e w1 ⟨rfl, rfl⟩
    obtain ⟨W1, hW1⟩ : ∃ x, W0.alloc (.cells #[.string s, .int .i64 side, .int .i64 ck, .int .i64 fl] 27) = x := ⟨_, rfl⟩
    have hg : w.heap.size < W0.heap.size := bP.lt
    have bP1 : Blk W1 w.heap.size 27 #[.string s, .int .i64 side, .int .i64 ck, .int .i64 fl] := by rw [← hW1]; exact bP.alloc _
    have bQ1 : Blk W1 W0.heap.size 27 #[.string s, .int .i64 side, .int .i64 ck, .int .i64 fl] := by rw [← hW1]; exact Blk.new _ _ _ rfl
    have hB1 : Below w.heap.size w W1 := by rw [← hW1]; exact hB.alloc hB.size _
    obtain ⟨q0, q1, q2, q3⟩ := vpos_cells bP1
    go_wp2_with fail
    clear hW1
    refine (HP.out _).mono ?_
    rintro e w2 ⟨rfl, hb⟩
    have bP2 := bP1.next hb
    have bQ2 := bQ1.next hb
    have hB2 := hB1.trans (hb.mono hB1.size)
    clear hb p0 p1 p2 p3 q0 q1 q2 q3 bP bP1 bQ1 hB hB1
    have f0 := bQ2.frozen 0
    have r0 := bQ2.cell 0
    obtain ⟨W3, hW3⟩ : ∃ x, w2.setCell ⟨W0.heap.size, 0, none⟩ (.string t) = x := ⟨_, rfl⟩
    have bP3 : Blk W3 w.heap.size 27 #[.string s, .int .i64 side, .int .i64 ck, .int .i64 fl] := by rw [← hW3]; exact bP2.far (by simp; omega) _
    have bQ3 : Blk W3 W0.heap.size 27 #[.string t, .int .i64 side, .int .i64 ck, .int .i64 fl] := by rw [← hW3]; exact bQ2.set_ 0 _
    have hB3 : Below w.heap.size w W3 := by rw [← hW3]; exact hB2.setCell (p := ⟨W0.heap.size, 0, none⟩) (by simp; omega) _
    go_wp2_with fail
    clear hW3 f0 r0 bP2 bQ2 hB2
    refine (vpiece_is c n _ _ HV.out).mono ?_
    rintro e w4 ⟨rfl, hb⟩
    have bP4 := bP3.next hb
    have bQ4 := bQ3.next hb
    have hB4 := hB3.trans (hb.mono hB3.size)
    clear hb bP3 bQ3 hB3
    obtain ⟨p0, p1, p2, p3⟩ := vpos_cells bP4
    obtain ⟨q0, q1, q2, q3⟩ := vpos_cells bQ4
    go_wp2_with fail
    have hS : w4.drew.cell? ⟨w.heap.size, 0, none⟩ = some (.string s) ∧ w4.drew.cell? ⟨w.heap.size, 1, none⟩ = some (.int .i64 side) ∧ w4.drew.cell? ⟨w.heap.size, 2, none⟩ = some (.int .i64 ck) ∧ w4.drew.cell? ⟨w.heap.size, 3, none⟩ = some (.int .i64 fl) ∧ w4.drew.cell? ⟨W0.heap.size, 0, none⟩ = some (.string t) ∧ w4.drew.cell? ⟨W0.heap.size, 1, none⟩ = some (.int .i64 side) ∧ w4.drew.cell? ⟨W0.heap.size, 2, none⟩ = some (.int .i64 ck) ∧ w4.drew.cell? ⟨W0.heap.size, 3, none⟩ = some (.int .i64 fl) ∧ Below w.heap.size w w4.drew := ⟨p0, p1, p2, p3, q0, q1, q2, q3, hB4.drew⟩
    clear p0 p1 p2 p3 q0 q1 q2 q3 bP4 bQ4 hB4
    go_region_held3 (fun W => W.cell? ⟨w.heap.size, 0, none⟩ = some (.string s) ∧ W.cell? ⟨w.heap.size, 1, none⟩ = some (.int .i64 side) ∧ W.cell? ⟨w.heap.size, 2, none⟩ = some (.int .i64 ck) ∧ W.cell? ⟨w.heap.size, 3, none⟩ = some (.int .i64 fl) ∧ W.cell? ⟨W0.heap.size, 0, none⟩ = some (.string t) ∧ W.cell? ⟨W0.heap.size, 1, none⟩ = some (.int .i64 side) ∧ W.cell? ⟨W0.heap.size, 2, none⟩ = some (.int .i64 ck) ∧ W.cell? ⟨W0.heap.size, 3, none⟩ = some (.int .i64 fl) ∧ Below w.heap.size w W)
      (first | exact hS | with_reducible assumption)
      (first | (go_at_call 24; refine (side_is c o _ HO.out).mono ?_; rintro e w5 ⟨rfl, rfl⟩))
    all_goals go_wp2_with fail
    all_goals
      go_region_held3 (fun W => W.cell? ⟨w.heap.size, 0, none⟩ = some (.string s) ∧ W.cell? ⟨w.heap.size, 1, none⟩ = some (.int .i64 side) ∧ W.cell? ⟨w.heap.size, 2, none⟩ = some (.int .i64 ck) ∧ W.cell? ⟨w.heap.size, 3, none⟩ = some (.int .i64 fl) ∧ W.cell? ⟨W0.heap.size, 0, none⟩ = some (.string t) ∧ W.cell? ⟨W0.heap.size, 1, none⟩ = some (.int .i64 side) ∧ W.cell? ⟨W0.heap.size, 2, none⟩ = some (.int .i64 ck) ∧ W.cell? ⟨W0.heap.size, 3, none⟩ = some (.int .i64 fl) ∧ Below w.heap.size w W)
        (first | with_reducible assumption | exact a8_dr (by with_reducible assumption) | exact a8_keep (by assumption) hb)
        (first
          | (go_at_call 14; refine (vof_is _ _ _ _ _ _ (hT.next (a8_below (by assumption))) (by first | with_reducible exact H1.out | with_reducible exact HA.out)).mono ?_; rintro e w6 ⟨rfl, hb⟩)
          | (go_at_call 13; refine (live14_any _ (hT.next (a8_below (by assumption)))).mono ?_; rintro e w6 ⟨rfl, hb⟩))
    all_goals go_wp2
    all_goals (go_ret; exact ⟨rfl, a8_below (by assumption)⟩)
theorem walk (s : ByteArray) (side ck fl n : Int) (c : Nat) (w : World) (hT : Tab w) (hc : c < 256) : Calls Tryd.prog 7 #[.agg #[.string s, .int .i64 side, .int .i64 ck, .int .i64 fl], .int .i64 n, .int .u8 (c : Int)] w (Gives w (.bool true)) := by
  by_cases hs : s.size ≤ 200
  · by_cases hn : 0 ≤ n ∧ n < 90
    · cases hb : isB s
      · exact odd1 s side ck fl n c w hT hs (.inl hb)
      · by_cases h : atB s n ≠ 46 ∨ side < 0 ∨ 1 < side
        · exact odd2 s side ck fl n c w hT hs hb hn _ rfl h
        · refine good s side ck fl n c w hT hs hc hb hn ?_ (by omega)
          exact Classical.byContradiction fun e => h (.inl e)
    · exact odd1 s side ck fl n c w hT hs (.inr (by omega))
  · exact large s side ck fl n c w hT (by omega)
end Go.Proofs.YtkejhebicibjlaaDoor.vadds
