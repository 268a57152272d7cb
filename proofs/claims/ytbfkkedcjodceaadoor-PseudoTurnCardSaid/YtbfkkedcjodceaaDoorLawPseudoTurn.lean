/- Seen from the other side there are as many moves, each turned round: the call answers true. -/
import Derived.Test.YtbfkkedcjodceaaDoorLive6
import Derived.Test.YtbfkkedcjodceaaDoorPos3
namespace Go.Proofs.YtbfkkedcjodceaaDoor.pturn
open Go.RowKit Go.Shelf
open M (S)

set_option maxRecDepth 100000 in
set_option maxHeartbeats 8000000 in
theorem large (s : ByteArray) (side clock full : Int)  (w : World) (hT : Tab w) (hs : 200 < s.size) : Calls Tryd.prog 6 #[.agg #[.string s, .int .i64 side, .int .i64 clock, .int .i64 full]] w (Gives w (.bool true)) := by
  unfold Gives
  have hd : decide (200 < (s.size : Int)) = true := by simp; omega
  clear hs
  go_enter Tryd.func6, Tryd.ntmps6
  go_wp2_with fail
  obtain ⟨W0, hW0⟩ : ∃ W0, w.alloc (.cells #[.string s, .int .i64 side, .int .i64 clock, .int .i64 full] 23) = W0 := ⟨_, rfl⟩
  have hB : Below w.heap.size w W0 := by rw [← hW0]; exact (by repeat (first | exact Below.refl _ _ | (refine Below.setCell ?_ (by first | omega | (simp; done) | (simp; omega) | (simp at *; omega)) _) | (refine Below.alloc ?_ (by first | omega | (simp; done) | (simp; omega) | (simp at *; omega)) _) | refine Below.drew ?_ | (refine below_drewN ?_ _) | (refine Below.trans ?_ (Below.mono (by assumption) (by first | omega | (simp; done) | (simp; omega) | (simp at *; omega))))))
  have bP : Blk W0 w.heap.size 23 #[.string s, .int .i64 side, .int .i64 clock, .int .i64 full] := by rw [← hW0]; exact Blk.new _ _ _ rfl
  replace hT := hT.below hB hT.lt
  rw [hW0]
  clear hW0
  refine (live6_any _ hT).mono ?_
  rintro e w9 ⟨rfl, hb⟩
  go_wp2
  go_ret
  exact ⟨rfl, hB.trans (hb.mono hB.size)⟩
set_option maxRecDepth 100000 in
set_option maxHeartbeats 8000000 in
theorem bad (s : ByteArray) (side clock full : Int)  (w : World) (hT : Tab w) (k : Int) (hs : s.size ≤ 200) (hk : (checkN s side clock full : Int) = k) (h0 : (k != 0) = true) : Calls Tryd.prog 6 #[.agg #[.string s, .int .i64 side, .int .i64 clock, .int .i64 full]] w (Gives w (.bool true)) := by
  unfold Gives
  have hd : decide (200 < (s.size : Int)) = false := by simp; omega
  have K := Lib.hid hk
  clear hs hk
  go_enter Tryd.func6, Tryd.ntmps6
  go_wp2_with fail
  obtain ⟨W0, hW0⟩ : ∃ W0, w.alloc (.cells #[.string s, .int .i64 side, .int .i64 clock, .int .i64 full] 23) = W0 := ⟨_, rfl⟩
  have hB : Below w.heap.size w W0 := by rw [← hW0]; exact (by repeat (first | exact Below.refl _ _ | (refine Below.setCell ?_ (by first | omega | (simp; done) | (simp; omega) | (simp at *; omega)) _) | (refine Below.alloc ?_ (by first | omega | (simp; done) | (simp; omega) | (simp at *; omega)) _) | refine Below.drew ?_ | (refine below_drewN ?_ _) | (refine Below.trans ?_ (Below.mono (by assumption) (by first | omega | (simp; done) | (simp; omega) | (simp at *; omega))))))
  have bP : Blk W0 w.heap.size 23 #[.string s, .int .i64 side, .int .i64 clock, .int .i64 full] := by rw [← hW0]; exact Blk.new _ _ _ rfl
  replace hT := hT.below hB hT.lt
  rw [hW0]
  clear hW0
  refine (rcheck_is s side clock full k _ K.out).mono ?_
  rintro e w2 ⟨rfl, hb⟩
  replace hT := hT.next hb
  replace bP := bP.next hb
  replace hB := hB.trans (hb.mono hB.size)
  clear hb
  go_wp2_with fail
  refine (live6_any _ hT).mono ?_
  rintro e w9 ⟨rfl, hb⟩
  go_wp2
  go_ret
  exact ⟨rfl, hB.trans (hb.mono hB.size)⟩
theorem turned_at {L : List (Nat × Nat)} {m i : Nat} (hm : L.length = m) (hi : i < m) : ((L.map turnM).reverse)[m - 1 - i]? = some (turnM (L[i]'(by omega))) := by
  have h1 : m - 1 - i < ((L.map turnM).reverse).length := by simp; omega
  rw [List.getElem?_eq_getElem h1, List.getElem_reverse, List.getElem_map]
  congr 2
  congr 1
  simp
  omega
set_option maxRecDepth 100000 in
set_option maxHeartbeats 8000000 in
theorem good (s : ByteArray) (side clock full : Int)  (w : World) (hT : Tab w) (hs : s.size ≤ 200) (hk : (checkN s side clock full : Int) = 0) : Calls Tryd.prog 6 #[.agg #[.string s, .int .i64 side, .int .i64 clock, .int .i64 full]] w (Gives w (.bool true)) := by
  unfold Gives
  have hd : decide (200 < (s.size : Int)) = false := by simp; omega
  have hc : checkN s side clock full = 0 := by omega
  have hbd := parts_board (check_zero hk).1
  have hside := check_side hc
  obtain ⟨L, hL⟩ : ∃ L, movesV s side clock full = L := ⟨_, rfl⟩
  obtain ⟨m, hm⟩ : ∃ m, L.length = m := ⟨_, rfl⟩
  obtain ⟨t, ht⟩ : ∃ t, turnB s = t := ⟨_, rfl⟩
  have hlen : m ≤ 8100 := by rw [← hm, ← hL]; exact movesV_len s side clock full
  have hK : movesV t (1 - side) clock full = (L.map turnM).reverse := by
    have h1 : (checkN (turnB s) (1 - side) clock full : Int) = 0 := by rw [check_turn hbd hside]; exact hk
    rw [← ht, ← hL, movesV, movesV, if_pos (by omega), if_pos hc, moves_turn hbd hside]
  have hKm : ((L.map turnM).reverse).length = m := by simp [hm]
  have HLT : Hid (∀ k (hk : k < L.length), L[k].1 < 90 ∧ L[k].2 < 90) := fun k hk => movesV_lt (by rw [hL]; exact List.getElem_mem hk)
  have HAT : Hid (∀ i (hi : i < L.length), ((L.map turnM).reverse)[m - 1 - i]? = some (turnM L[i])) := fun i hi => turned_at hm (by omega)
  obtain ⟨K, hK0⟩ : ∃ K, (L.map turnM).reverse = K := ⟨_, rfl⟩
  rw [hK0] at hK hKm HAT
  obtain ⟨o, ho⟩ : ∃ o : Int, 1 - side = o := ⟨_, rfl⟩
  rw [ho] at hK
  have HTN := Lib.hid fun W => rturnP_any s t side clock full W (by omega) (by omega) ht
  rw [ho] at HTN
  have HC := Lib.hid hk
  have HL := Lib.hid hL
  have HM := Lib.hid hm
  have HK := Lib.hid hK
  have HKM := Lib.hid hKm
  clear hs hk hc hbd hside hL hm ht hK hKm hK0 ho
  go_enter Tryd.func6, Tryd.ntmps6
  go_wp2_with fail
  obtain ⟨W0, hW0⟩ : ∃ W0, w.alloc (.cells #[.string s, .int .i64 side, .int .i64 clock, .int .i64 full] 23) = W0 := ⟨_, rfl⟩
  have hB : Below w.heap.size w W0 := by rw [← hW0]; exact (by repeat (first | exact Below.refl _ _ | (refine Below.setCell ?_ (by first | omega | (simp; done) | (simp; omega) | (simp at *; omega)) _) | (refine Below.alloc ?_ (by first | omega | (simp; done) | (simp; omega) | (simp at *; omega)) _) | refine Below.drew ?_ | (refine below_drewN ?_ _) | (refine Below.trans ?_ (Below.mono (by assumption) (by first | omega | (simp; done) | (simp; omega) | (simp at *; omega))))))
  have bP : Blk W0 w.heap.size 23 #[.string s, .int .i64 side, .int .i64 clock, .int .i64 full] := by rw [← hW0]; exact Blk.new _ _ _ rfl
  replace hT := hT.below hB hT.lt
  rw [hW0]
  clear hW0
  refine (rcheck_is s side clock full 0 _ HC.out).mono ?_
  rintro e w2 ⟨rfl, hb⟩
  have bP1 := bP.next hb
  have hT1 := hT.next hb
  have hB1 := hB.trans (hb.mono hB.size)
  clear bP hT hB hb
  obtain ⟨p0, p1, p2, p3⟩ := ppos_cells bP1
  go_wp2_with fail
  refine (moves_is s side clock full L m _ hT1 HL.out HM.out).mono ?_
  rintro e w3 ⟨A1, k1, rfl, rd, hb⟩
  have hT3 := hT1.next hb
  have bP3 := bP1.next hb
  have hB3 := hB1.trans (hb.mono hB1.size)
  clear hb p0 p1 p2 p3 hT1 bP1 hB1
  obtain ⟨p0, p1, p2, p3⟩ := ppos_cells bP3
  go_wp2_with fail
  refine (HTN.out _).mono ?_
  rintro e w4 ⟨rfl, hb⟩
  replace rd := rd.next hb
  have hT4 := hT3.next hb
  have hB4 := hB3.trans (hb.mono hB3.size)
  clear hb p0 p1 p2 p3 hT3 bP3 hB3
  go_wp2_with fail
  refine (moves_is t o clock full K m _ hT4 HK.out HKM.out).mono ?_
  rintro e w5 ⟨A2, k2, rfl, re, hb⟩
  replace rd := rd.next hb
  have hT5 := hT4.next hb
  have hB5 := hB4.trans (hb.mono hB4.size)
  clear hb hT4 hB4
  go_wp2_with fail
  go_loopw [5] (fun i wr => ∃ k : Nat, k ≤ m ∧ i = .int .i64 k ∧ Below w5.heap.size w5 wr) (fun i _ => m - (intOf i).toNat)
  case atStart => exact ⟨0, by omega, rfl, Below.refl _ _⟩
  case round =>
    obtain ⟨k, hk, rfl, hR⟩ := hrel
    by_cases hlt : k < m
    · have hkl : k < L.length := by rw [HM.out]; exact hlt
      obtain ⟨g1, o1, rfl, c0, c1⟩ := rd.move hkl
      have hjl : m - 1 - k < K.length := by rw [HKM.out]; omega
      obtain ⟨g2, o2, rfl, y0, y1⟩ := re.move hjl
      obtain ⟨h90, h91⟩ := HLT.out k hkl
      have hat := HAT.out k hkl
      rw [List.getElem?_eq_getElem hjl, Option.some.injEq] at hat
      rw [hat] at y0 y1
      obtain ⟨⟨u, v⟩, huv⟩ : ∃ x, L[k] = x := ⟨_, rfl⟩
      rw [huv] at c0 c1 h90 h91 y0 y1
      have hc0 := (hR.cell (p := ⟨g1, o1 + k * 2, none⟩) (cell_lt c0)).trans c0
      have hc1 := (hR.cell (p := ⟨g1, o1 + k * 2 + 1, none⟩) (cell_lt c1)).trans c1
      have hy0 := (hR.cell (p := ⟨g2, o2 + (m - 1 - k) * 2, none⟩) (cell_lt y0)).trans y0
      have hy1 := (hR.cell (p := ⟨g2, o2 + (m - 1 - k) * 2 + 1, none⟩) (cell_lt y1)).trans y1
      have hu : u < 90 := h90
      have hv : v < 90 := h91
      obtain ⟨j, hj⟩ : ∃ j, m - 1 - k = j := ⟨_, rfl⟩
      rw [hj] at hy0 hy1
      have x0 : iv ((turnM (u, v)).1 : Int) = .int .i64 (89 - (u : Int)) := by show Value.int .i64 (((89 - u : Nat)) : Int) = _; congr 1; omega
      have x1 : iv ((turnM (u, v)).2 : Int) = .int .i64 (89 - (v : Int)) := by show Value.int .i64 (((89 - v : Nat)) : Int) = _; congr 1; omega
      rw [x0] at hy0
      rw [x1] at hy1
      have w1 : IntKind.i64.wrap ((m : Int) - 1) = (m : Int) - 1 := IntWalk.i64_in _ (by omega)
      have w2 : IntKind.i64.wrap ((m : Int) - 1 - (k : Int)) = (j : Int) := by rw [IntWalk.i64_in _ (by omega)]; omega
      have w2' : IntKind.i64.wrap ((m : Int) - 1 - k) = (j : Int) := w2
      have w3 : IntKind.i64.wrap (89 - (u : Int)) = 89 - (u : Int) := IntWalk.i64_in _ (by omega)
      have w4 : IntKind.i64.wrap (89 - (v : Int)) = 89 - (v : Int) := IntWalk.i64_in _ (by omega)
      have b1 : (k : Int) < (m : Int) := by omega
      have b2 : (j : Int) < (m : Int) := by omega
      have b3 : (0 : Int) ≤ (j : Int) := by omega
      have hne := neq_move
      clear c0 c1 h90 h91 y0 y1 hat huv hj x0 x1
      go_wp2_with fail
      go_quiet (fail)
      go_wp2_with fail
      go_roundw
      case rel => exact ⟨k + 1, by omega, by go_num, by first | exact below_drewN hR _ | exact hR⟩
      case measure => simp [intOf]; omega
    · obtain rfl : k = m := by omega
      go_wp2_with fail
      refine (live6_any _ (hT5.next hR)).mono ?_
      rintro e w6 ⟨rfl, hb⟩
      go_wp2
      go_ret
      exact ⟨rfl, (hB5.trans (hR.mono hB5.size)).trans (hb.mono (hB5.trans (hR.mono hB5.size)).size)⟩
theorem walk (s : ByteArray) (side clock full : Int) (w : World) (hT : Tab w) : Calls Tryd.prog 6 #[.agg #[.string s, .int .i64 side, .int .i64 clock, .int .i64 full]] w (Gives w (.bool true)) := by
  by_cases hs : s.size ≤ 200
  · by_cases hk : (checkN s side clock full : Int) = 0
    · exact good s side clock full w hT hs hk
    · exact bad s side clock full w hT _ hs rfl (by rw [bne_iff_ne]; exact hk)
  · exact large s side clock full w hT (by omega)
end Go.Proofs.YtbfkkedcjodceaaDoor.pturn
