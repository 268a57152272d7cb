/- Seen from the other side there are as many moves, each turned round; and the same end: the call answers true. -/
import Derived.Test.YtbfkkedcjodceaaGreatDoorLive8M
namespace Go.Proofs.YtbfkkedcjodceaaGreatDoor.lturn
open Go.RowKit Go.Shelf
open M (S)

theorem turned_at {L : List (Nat × Nat)} {m i : Nat} (hm : L.length = m) (hi : i < m) : ((L.map turnM).reverse)[m - 1 - i]? = some (turnM (L[i]'(by omega))) := by
  have h1 : m - 1 - i < ((L.map turnM).reverse).length := by simp; omega
  rw [List.getElem?_eq_getElem h1, List.getElem_reverse, List.getElem_map]
  congr 2
  congr 1
  simp
  omega
theorem legal_lt {s : ByteArray} {side clock full : Int} {m : Nat × Nat} (h : m ∈ legalV s side clock full) : m.1 < 90 ∧ m.2 < 90 := by
  unfold legalV at h
  split at h
  · exact movesV_lt (List.mem_filter.1 h).1
  · simp at h
theorem legal_turned {s : ByteArray} {side clock full : Int} (hk : wellN s side clock full = 0) : (side = 0 ∨ side = 1) ∧ wellN (turnB s) (1 - side) clock full = 0 ∧ legalV (turnB s) (1 - side) clock full = ((legalV s side clock full).map turnM).reverse ∧ endV (turnB s) (1 - side) clock full = endV s side clock full := by
  have hc := (well_zero hk).1
  have hsd := (check_other hc).1
  obtain ⟨hp, hcn, _⟩ := check_zero hc
  have hbd := parts_board hp
  have hw : wellN (turnB s) (1 - side) clock full = 0 := by rw [well_turn hbd hsd]; exact hk
  have hv : legalV (turnB s) (1 - side) clock full = ((legalV s side clock full).map turnM).reverse := by
    rw [legal_same, legal_same, if_pos hw, if_pos hk, legal_turn hbd hcn hsd]
  refine ⟨hsd, hw, hv, ?_⟩
  unfold endV
  rw [if_pos hw, if_pos hk, has_legal _ _ _ _ hw, has_legal _ _ _ _ hk, hv, List.length_reverse, List.length_map, in_turn hbd (counts_parts hcn).2.1 (counts_parts hcn).2.2 hsd]
set_option maxRecDepth 100000 in
set_option maxHeartbeats 8000000 in
theorem large (s : ByteArray) (side clock full : Int)  (w : World) (hT : Tab w) (hs : 200 < s.size) : Calls Tryz.prog 6 #[.agg #[.string s, .int .i64 side, .int .i64 clock, .int .i64 full]] w (Gives w (.bool true)) := by
  unfold Gives
  have hd : decide (200 < (s.size : Int)) = true := by simp; omega
  clear hs
  go_enter Tryz.func6, Tryz.ntmps6
  go_wp2_with fail
  obtain ⟨W0, hW0⟩ : ∃ W0, w.alloc (.cells #[.string s, .int .i64 side, .int .i64 clock, .int .i64 full] 23) = W0 := ⟨_, rfl⟩
  have hB : Below w.heap.size w W0 := by rw [← hW0]; exact (by repeat (first | exact Below.refl _ _ | (refine Below.setCell ?_ (by first | omega | (simp; done) | (simp; omega) | (simp at *; omega)) _) | (refine Below.alloc ?_ (by first | omega | (simp; done) | (simp; omega) | (simp at *; omega)) _) | refine Below.drew ?_ | (refine below_drewN ?_ _) | (refine Below.trans ?_ (Below.mono (by assumption) (by first | omega | (simp; done) | (simp; omega) | (simp at *; omega))))))
  have bP : Blk W0 w.heap.size 23 #[.string s, .int .i64 side, .int .i64 clock, .int .i64 full] := by rw [← hW0]; exact Blk.new _ _ _ rfl
  replace hT := hT.below hB hT.lt
  rw [hW0]
  clear hW0
  refine (live8_any _ hT).mono ?_
  rintro e w9 ⟨rfl, hb⟩
  go_wp2
  go_ret
  exact ⟨rfl, hB.trans (hb.mono hB.size)⟩
set_option maxRecDepth 100000 in
set_option maxHeartbeats 8000000 in
theorem bad (s : ByteArray) (side clock full : Int)  (w : World) (hT : Tab w) (k : Int) (hs : s.size ≤ 200) (hk : wellN s side clock full = k) (h0 : (k != 0) = true) : Calls Tryz.prog 6 #[.agg #[.string s, .int .i64 side, .int .i64 clock, .int .i64 full]] w (Gives w (.bool true)) := by
  unfold Gives
  have hd : decide (200 < (s.size : Int)) = false := by simp; omega
  have K := Lib.hid hk
  clear hs hk
  go_enter Tryz.func6, Tryz.ntmps6
  go_wp2_with fail
  obtain ⟨W0, hW0⟩ : ∃ W0, w.alloc (.cells #[.string s, .int .i64 side, .int .i64 clock, .int .i64 full] 23) = W0 := ⟨_, rfl⟩
  have hB : Below w.heap.size w W0 := by rw [← hW0]; exact (by repeat (first | exact Below.refl _ _ | (refine Below.setCell ?_ (by first | omega | (simp; done) | (simp; omega) | (simp at *; omega)) _) | (refine Below.alloc ?_ (by first | omega | (simp; done) | (simp; omega) | (simp at *; omega)) _) | refine Below.drew ?_ | (refine below_drewN ?_ _) | (refine Below.trans ?_ (Below.mono (by assumption) (by first | omega | (simp; done) | (simp; omega) | (simp at *; omega))))))
  have bP : Blk W0 w.heap.size 23 #[.string s, .int .i64 side, .int .i64 clock, .int .i64 full] := by rw [← hW0]; exact Blk.new _ _ _ rfl
  replace hT := hT.below hB hT.lt
  rw [hW0]
  clear hW0
  refine (well_is s side clock full k _ hT K.out).mono ?_
  rintro e w2 ⟨rfl, hb⟩
  replace hT := hT.next hb
  replace bP := bP.next hb
  replace hB := hB.trans (hb.mono hB.size)
  clear hb
  go_wp2_with fail
  refine (live8_any _ hT).mono ?_
  rintro e w9 ⟨rfl, hb⟩
  go_wp2
  go_ret
  exact ⟨rfl, hB.trans (hb.mono hB.size)⟩
theorem keep {w w3 w6 : World} {s t : ByteArray} {side o clock full : Int} {W W' : World} (h : W.cell? ⟨w.heap.size, 0, none⟩ = some (.string s) ∧ W.cell? ⟨w.heap.size, 1, none⟩ = some (.int .i64 side) ∧ W.cell? ⟨w.heap.size, 2, none⟩ = some (.int .i64 clock) ∧ W.cell? ⟨w.heap.size, 3, none⟩ = some (.int .i64 full) ∧ W.cell? ⟨w3.heap.size, 0, none⟩ = some (.string t) ∧ W.cell? ⟨w3.heap.size, 1, none⟩ = some (.int .i64 o) ∧ W.cell? ⟨w3.heap.size, 2, none⟩ = some (.int .i64 clock) ∧ W.cell? ⟨w3.heap.size, 3, none⟩ = some (.int .i64 full) ∧ Tab W ∧ Below w6.heap.size w6 W) (hb : Below W.heap.size W W') : W'.cell? ⟨w.heap.size, 0, none⟩ = some (.string s) ∧ W'.cell? ⟨w.heap.size, 1, none⟩ = some (.int .i64 side) ∧ W'.cell? ⟨w.heap.size, 2, none⟩ = some (.int .i64 clock) ∧ W'.cell? ⟨w.heap.size, 3, none⟩ = some (.int .i64 full) ∧ W'.cell? ⟨w3.heap.size, 0, none⟩ = some (.string t) ∧ W'.cell? ⟨w3.heap.size, 1, none⟩ = some (.int .i64 o) ∧ W'.cell? ⟨w3.heap.size, 2, none⟩ = some (.int .i64 clock) ∧ W'.cell? ⟨w3.heap.size, 3, none⟩ = some (.int .i64 full) ∧ Tab W' ∧ Below w6.heap.size w6 W' := by
  obtain ⟨a0, a1, a2, a3, b0, b1, b2, b3, hT, hB⟩ := h
  exact ⟨(hb.cell (cell_lt a0)).trans a0, (hb.cell (cell_lt a1)).trans a1, (hb.cell (cell_lt a2)).trans a2, (hb.cell (cell_lt a3)).trans a3, (hb.cell (cell_lt b0)).trans b0, (hb.cell (cell_lt b1)).trans b1, (hb.cell (cell_lt b2)).trans b2, (hb.cell (cell_lt b3)).trans b3, hT.next hb, hB.trans (hb.mono hB.size)⟩
theorem keepT {w w3 w6 : World} {s t : ByteArray} {side o clock full : Int} {W : World} (h : W.cell? ⟨w.heap.size, 0, none⟩ = some (.string s) ∧ W.cell? ⟨w.heap.size, 1, none⟩ = some (.int .i64 side) ∧ W.cell? ⟨w.heap.size, 2, none⟩ = some (.int .i64 clock) ∧ W.cell? ⟨w.heap.size, 3, none⟩ = some (.int .i64 full) ∧ W.cell? ⟨w3.heap.size, 0, none⟩ = some (.string t) ∧ W.cell? ⟨w3.heap.size, 1, none⟩ = some (.int .i64 o) ∧ W.cell? ⟨w3.heap.size, 2, none⟩ = some (.int .i64 clock) ∧ W.cell? ⟨w3.heap.size, 3, none⟩ = some (.int .i64 full) ∧ Tab W ∧ Below w6.heap.size w6 W) : Tab W := h.2.2.2.2.2.2.2.2.1
theorem keepB {w w3 w6 : World} {s t : ByteArray} {side o clock full : Int} {W : World} (h : W.cell? ⟨w.heap.size, 0, none⟩ = some (.string s) ∧ W.cell? ⟨w.heap.size, 1, none⟩ = some (.int .i64 side) ∧ W.cell? ⟨w.heap.size, 2, none⟩ = some (.int .i64 clock) ∧ W.cell? ⟨w.heap.size, 3, none⟩ = some (.int .i64 full) ∧ W.cell? ⟨w3.heap.size, 0, none⟩ = some (.string t) ∧ W.cell? ⟨w3.heap.size, 1, none⟩ = some (.int .i64 o) ∧ W.cell? ⟨w3.heap.size, 2, none⟩ = some (.int .i64 clock) ∧ W.cell? ⟨w3.heap.size, 3, none⟩ = some (.int .i64 full) ∧ Tab W ∧ Below w6.heap.size w6 W) : Below w6.heap.size w6 W := h.2.2.2.2.2.2.2.2.2
set_option maxRecDepth 100000 in
set_option maxHeartbeats 8000000 in
theorem good (s : ByteArray) (side clock full : Int)  (w : World) (hT : Tab w) (hs : s.size ≤ 200) (hk : wellN s side clock full = 0) : Calls Tryz.prog 6 #[.agg #[.string s, .int .i64 side, .int .i64 clock, .int .i64 full]] w (Gives w (.bool true)) := by
  unfold Gives
  have hd : decide (200 < (s.size : Int)) = false := by simp; omega
  obtain ⟨hside, hk2, hK, hE⟩ := legal_turned hk
  obtain ⟨L, hL⟩ : ∃ L, legalV s side clock full = L := ⟨_, rfl⟩
  obtain ⟨m, hm⟩ : ∃ m, L.length = m := ⟨_, rfl⟩
  obtain ⟨t, ht⟩ : ∃ t, turnB s = t := ⟨_, rfl⟩
  obtain ⟨z, hz⟩ : ∃ z, endV s side clock full = z := ⟨_, rfl⟩
  have hlen : m ≤ 8100 := by rw [← hm, ← hL]; exact legalV_len s side clock full
  rw [ht, hL] at hK
  rw [ht, hz] at hE
  have hKm : ((L.map turnM).reverse).length = m := by simp [hm]
  have HLT : Hid (∀ k (hk : k < L.length), L[k].1 < 90 ∧ L[k].2 < 90) := fun k hk => legal_lt (by rw [hL]; exact List.getElem_mem hk)
  have HAT : Hid (∀ i (hi : i < L.length), ((L.map turnM).reverse)[m - 1 - i]? = some (turnM L[i])) := fun i hi => turned_at hm (by omega)
  obtain ⟨K, hK0⟩ : ∃ K, (L.map turnM).reverse = K := ⟨_, rfl⟩
  rw [hK0] at hK hKm HAT
  obtain ⟨o, ho⟩ : ∃ o : Int, 1 - side = o := ⟨_, rfl⟩
  rw [ho] at hK hE
  have HTN := Lib.hid fun W => rturnP_any s t side clock full W (by omega) (by omega) ht
  rw [ho] at HTN
  have HC := Lib.hid hk
  have HL := Lib.hid hL
  have HM := Lib.hid hm
  have HK := Lib.hid hK
  have HKM := Lib.hid hKm
  have HZ := Lib.hid hz
  have HE := Lib.hid hE
  clear hs hk hk2 hside hL hm ht hK hKm hK0 ho hz hE
  go_enter Tryz.func6, Tryz.ntmps6
  go_wp2_with fail
  obtain ⟨W0, hW0⟩ : ∃ W0, w.alloc (.cells #[.string s, .int .i64 side, .int .i64 clock, .int .i64 full] 23) = W0 := ⟨_, rfl⟩
  have hB : Below w.heap.size w W0 := by rw [← hW0]; exact (by repeat (first | exact Below.refl _ _ | (refine Below.setCell ?_ (by first | omega | (simp; done) | (simp; omega) | (simp at *; omega)) _) | (refine Below.alloc ?_ (by first | omega | (simp; done) | (simp; omega) | (simp at *; omega)) _) | refine Below.drew ?_ | (refine below_drewN ?_ _) | (refine Below.trans ?_ (Below.mono (by assumption) (by first | omega | (simp; done) | (simp; omega) | (simp at *; omega))))))
  have bP : Blk W0 w.heap.size 23 #[.string s, .int .i64 side, .int .i64 clock, .int .i64 full] := by rw [← hW0]; exact Blk.new _ _ _ rfl
  replace hT := hT.below hB hT.lt
  rw [hW0]
  clear hW0
  refine (well_is s side clock full 0 _ hT HC.out).mono ?_
  rintro e w2 ⟨rfl, hb⟩
  have bP1 := bP.next hb
  have hT1 := hT.next hb
  have hB1 := hB.trans (hb.mono hB.size)
  clear bP hT hB hb
  obtain ⟨p0, p1, p2, p3⟩ := ppos_cells bP1
  go_wp2_with fail
  refine (HTN.out _).mono ?_
  rintro e w3 ⟨rfl, hb⟩
  have hT2 := hT1.next hb
  have bP2 := bP1.next hb
  have hB2 := hB1.trans (hb.mono hB1.size)
  clear hb p0 p1 p2 p3 hT1 bP1 hB1
  obtain ⟨W3, hW3⟩ : ∃ x, w3.alloc (.cells #[.string t, .int .i64 o, .int .i64 clock, .int .i64 full] 23) = x := ⟨_, rfl⟩
  have hA : Below w3.heap.size w3 W3 := by rw [← hW3]; exact (by repeat (first | exact Below.refl _ _ | (refine Below.setCell ?_ (by first | omega | (simp; done) | (simp; omega) | (simp at *; omega)) _) | (refine Below.alloc ?_ (by first | omega | (simp; done) | (simp; omega) | (simp at *; omega)) _) | refine Below.drew ?_ | (refine below_drewN ?_ _) | (refine Below.trans ?_ (Below.mono (by assumption) (by first | omega | (simp; done) | (simp; omega) | (simp at *; omega))))))
  have bQ : Blk W3 w3.heap.size 23 #[.string t, .int .i64 o, .int .i64 clock, .int .i64 full] := by rw [← hW3]; exact Blk.new _ _ _ rfl
  have hT3 := hT2.next hA
  have bP3 := bP2.next hA
  have hB3 := hB2.trans (hA.mono hB2.size)
  clear hA hT2 bP2 hB2
  obtain ⟨p0, p1, p2, p3⟩ := ppos_cells bP3
  go_wp2_with fail
  clear hW3
  refine (lmoves_own s side clock full L m _ hT3 HL.out HM.out).mono ?_
  rintro e w4 ⟨v, rfl, ho, hb⟩
  obtain ⟨A1, k1, rfl⟩ := owns_slice ho
  have rd := Rd.owns ho
  have hT4 := hT3.next hb
  have bP4 := bP3.next hb
  have bQ4 := bQ.next hb
  have hB4 := hB3.trans (hb.mono hB3.size)
  clear hb ho p0 p1 p2 p3 hT3 bP3 hB3 bQ
  obtain ⟨p0, p1, p2, p3⟩ := ppos_cells bQ4
  go_wp2_with fail
  refine (lmoves_own t o clock full K m _ hT4 HK.out HKM.out).mono ?_
  rintro e w6 ⟨v, rfl, ho, hb⟩
  obtain ⟨A2, k2, rfl⟩ := owns_slice ho
  have re := Rd.owns ho
  replace rd := rd.next hb
  have hT5 := hT4.next hb
  have bP5 := bP4.next hb
  have bQ5 := bQ4.next hb
  have hB5 := hB4.trans (hb.mono hB4.size)
  clear hb ho p0 p1 p2 p3 hT4 bP4 hB4 bQ4
  have hS : w6.drew.cell? ⟨w.heap.size, 0, none⟩ = some (.string s) ∧ w6.drew.cell? ⟨w.heap.size, 1, none⟩ = some (.int .i64 side) ∧ w6.drew.cell? ⟨w.heap.size, 2, none⟩ = some (.int .i64 clock) ∧ w6.drew.cell? ⟨w.heap.size, 3, none⟩ = some (.int .i64 full) ∧ w6.drew.cell? ⟨w3.heap.size, 0, none⟩ = some (.string t) ∧ w6.drew.cell? ⟨w3.heap.size, 1, none⟩ = some (.int .i64 o) ∧ w6.drew.cell? ⟨w3.heap.size, 2, none⟩ = some (.int .i64 clock) ∧ w6.drew.cell? ⟨w3.heap.size, 3, none⟩ = some (.int .i64 full) ∧ Tab w6.drew ∧ Below w6.heap.size w6 w6.drew := ⟨bP5.cell 0, bP5.cell 1, bP5.cell 2, bP5.cell 3, bQ5.cell 0, bQ5.cell 1, bQ5.cell 2, bQ5.cell 3, hT5.next (Below.refl _ _).drew, (Below.refl _ _).drew⟩
  have HT5 := Lib.hid hT5
  have HB5 := Lib.hid hB5
  have HRD := Lib.hid rd
  have HRE := Lib.hid re
  clear bP5 bQ5 hT5 hB5 rd re
  go_wp2_with fail
  go_region_held3 (fun W => W.cell? ⟨w.heap.size, 0, none⟩ = some (.string s) ∧ W.cell? ⟨w.heap.size, 1, none⟩ = some (.int .i64 side) ∧ W.cell? ⟨w.heap.size, 2, none⟩ = some (.int .i64 clock) ∧ W.cell? ⟨w.heap.size, 3, none⟩ = some (.int .i64 full) ∧ W.cell? ⟨w3.heap.size, 0, none⟩ = some (.string t) ∧ W.cell? ⟨w3.heap.size, 1, none⟩ = some (.int .i64 o) ∧ W.cell? ⟨w3.heap.size, 2, none⟩ = some (.int .i64 clock) ∧ W.cell? ⟨w3.heap.size, 3, none⟩ = some (.int .i64 full) ∧ Tab W ∧ Below w6.heap.size w6 W)
    (first | exact hS | exact keep (by assumption) hb)
    ((go_at_call 16; refine (end_is _ _ _ _ z _ ?_ ?_).mono ?_; (exact keepT (by assumption)); (first | with_reducible exact HZ.out | with_reducible exact HE.out); rintro e w7 ⟨rfl, hb⟩))
  all_goals
    have hR0 : Below w6.heap.size w6 w7 := keepB (by assumption)
    have hT7 : Tab w7 := keepT (by assumption)
    have hB7 := HB5.out.trans (hR0.mono HB5.out.size)
    have rd7 := HRD.out.next hR0
    have re7 := HRE.out.next hR0
    clear hS hb
    go_wp2_with fail
    go_loopw [6] (fun i wr => ∃ k : Nat, k ≤ m ∧ i = .int .i64 k ∧ Below w7.heap.size w7 wr) (fun i _ => m - (intOf i).toNat)
    case atStart => exact ⟨0, by omega, rfl, Below.refl _ _⟩
    case round =>
      obtain ⟨k, hk, rfl, hR⟩ := hrel
      by_cases hlt : k < m
      · have hkl : k < L.length := by rw [HM.out]; exact hlt
        obtain ⟨g1, o1, rfl, c0, c1⟩ := rd7.move hkl
        have hjl : m - 1 - k < K.length := by rw [HKM.out]; omega
        obtain ⟨g2, o2, rfl, y0, y1⟩ := re7.move hjl
        obtain ⟨h90, h91⟩ := HLT.out k hkl
        have hat := HAT.out k hkl
        rw [List.getElem?_eq_getElem hjl, Option.some.injEq] at hat
        rw [hat] at y0 y1
        obtain ⟨⟨u, v⟩, huv⟩ : ∃ x, L[k] = x := ⟨_, rfl⟩
        rw [huv] at c0 c1 h90 h91 y0 y1
        have hc0 := (hR.cell (p := ⟨g1, o1 + k * 2, none⟩) (cell_lt c0)).trans c0
        have hc1 := (hR.cell (p := ⟨g1, o1 + k * 2 + 1, none⟩) (cell_lt c1)).trans c1
        have hy0 := (hR.cell (p := ⟨g2, o2 + (m - 1 - k) * 2, none⟩) (cell_lt y0)).trans y0
        have hy1 := (hR.cell (p := ⟨g2, o2 + (m - 1 - k) * 2 + 1, none⟩) (cell_lt y1)).trans y1
        have hu : u < 90 := h90
        have hv : v < 90 := h91
        obtain ⟨j, hj⟩ : ∃ j, m - 1 - k = j := ⟨_, rfl⟩
        rw [hj] at hy0 hy1
        have x0 : iv ((turnM (u, v)).1 : Int) = .int .i64 (89 - (u : Int)) := by show Value.int .i64 (((89 - u : Nat)) : Int) = _; congr 1; omega
        have x1 : iv ((turnM (u, v)).2 : Int) = .int .i64 (89 - (v : Int)) := by show Value.int .i64 (((89 - v : Nat)) : Int) = _; congr 1; omega
        rw [x0] at hy0
        rw [x1] at hy1
        have w1 : IntKind.i64.wrap ((m : Int) - 1) = (m : Int) - 1 := IntWalk.i64_in _ (by omega)
        have w2 : IntKind.i64.wrap ((m : Int) - 1 - (k : Int)) = (j : Int) := by rw [IntWalk.i64_in _ (by omega)]; omega
        have w2' : IntKind.i64.wrap ((m : Int) - 1 - k) = (j : Int) := w2
        have w3 : IntKind.i64.wrap (89 - (u : Int)) = 89 - (u : Int) := IntWalk.i64_in _ (by omega)
        have w4 : IntKind.i64.wrap (89 - (v : Int)) = 89 - (v : Int) := IntWalk.i64_in _ (by omega)
        have b1 : (k : Int) < (m : Int) := by omega
        have b2 : (j : Int) < (m : Int) := by omega
        have b3 : (0 : Int) ≤ (j : Int) := by omega
        have hne := neq_move
        clear c0 c1 h90 h91 y0 y1 hat huv hj x0 x1
        go_wp2_with fail
        go_quiet (fail)
        go_wp2_with fail
        go_roundw
        case rel => exact ⟨k + 1, by omega, by go_num, by first | exact below_drewN hR _ | exact hR⟩
        case measure => simp [intOf]; omega
      · obtain rfl : k = m := by omega
        go_wp2_with fail
        refine (live8_any _ (hT7.next hR)).mono ?_
        rintro e w6 ⟨rfl, hb⟩
        go_wp2
        go_ret
        exact ⟨rfl, (hB7.trans (hR.mono hB7.size)).trans (hb.mono (hB7.trans (hR.mono hB7.size)).size)⟩
theorem walk (s : ByteArray) (side clock full : Int) (w : World) (hT : Tab w) : Calls Tryz.prog 6 #[.agg #[.string s, .int .i64 side, .int .i64 clock, .int .i64 full]] w (Gives w (.bool true)) := by
  by_cases hs : s.size ≤ 200
  · by_cases hk : wellN s side clock full = 0
    · exact good s side clock full w hT hs hk
    · exact bad s side clock full w hT _ hs rfl (by rw [bne_iff_ne]; exact hk)
  · exact large s side clock full w hT (by omega)
end Go.Proofs.YtbfkkedcjodceaaGreatDoor.lturn
