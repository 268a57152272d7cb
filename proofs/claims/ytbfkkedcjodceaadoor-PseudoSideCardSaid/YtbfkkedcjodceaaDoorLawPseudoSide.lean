/- All moves are of pieces of the side whose move it is: the call answers true. -/
import Derived.Test.YtbfkkedcjodceaaDoorLive6
import Derived.Test.YtbfkkedcjodceaaDoorPseudoI
import Derived.Test.YtbfkkedcjodceaaDoorLegalA
import Derived.Test.YtbfkkedcjodceaaDoorPos3
namespace Go.Proofs.YtbfkkedcjodceaaDoor.pside
open Go.RowKit Go.Shelf
open M (S)

theorem has_is (A : Option Addr) (l : List (Nat × Nat)) (n c a b : Nat) (v : Bool) (w : World) (hx : Rd w A (mvs l)) (hn : l.length = n) (hm : n ≤ 1000000) (h : hasM l a b = v) :
    Calls Tryd.prog 30 #[.slice A n c, .agg #[.int .i64 (a : Int), .int .i64 (b : Int)]] w (Gives w (.bool v)) := by subst h; exact has_any A l n c a b w hx hn hm
abbrev SdS (g g1 o1 : Nat) (s : ByteArray) (side : Int) (u v : Nat) (W : World) : Prop := W.cell? ⟨g, 0, none⟩ = some (.string s) ∧ W.cell? ⟨g, 1, none⟩ = some (.int .i64 side) ∧ W.cell? ⟨g1, o1, none⟩ = some (.int .i64 (u : Int)) ∧ W.cell? ⟨g1, o1 + 1, none⟩ = some (.int .i64 (v : Int))
theorem sdS_keep {g g1 o1 : Nat} {s : ByteArray} {side : Int} {u v : Nat} {W W' : World} (h : SdS g g1 o1 s side u v W) (hb : Below W.heap.size W W') : SdS g g1 o1 s side u v W' := by
  obtain ⟨h0, h1, h2, h3⟩ := h
  exact ⟨(hb.cell (p := ⟨g, 0, none⟩) (World.block_lt_of_cell? _ _ h0)).trans h0, (hb.cell (p := ⟨g, 1, none⟩) (World.block_lt_of_cell? _ _ h1)).trans h1, (hb.cell (p := ⟨g1, o1, none⟩) (World.block_lt_of_cell? _ _ h2)).trans h2, (hb.cell (p := ⟨g1, o1 + 1, none⟩) (World.block_lt_of_cell? _ _ h3)).trans h3⟩
theorem hb_drew {W W' : World} (h : Below W.drew.heap.size W.drew W') : Below W.heap.size W W' := ((Below.refl W.heap.size W).drew).trans h
set_option maxRecDepth 100000 in
set_option maxHeartbeats 8000000 in
theorem large (s : ByteArray) (side clock full : Int)  (w : World) (hT : Tab w) (hs : 200 < s.size) : Calls Tryd.prog 7 #[.agg #[.string s, .int .i64 side, .int .i64 clock, .int .i64 full]] w (Gives w (.bool true)) := by
  unfold Gives
  have hd : decide (200 < (s.size : Int)) = true := by simp; omega
  clear hs
  go_enter Tryd.func7, Tryd.ntmps7
  go_wp2_with fail
  obtain ⟨W0, hW0⟩ : ∃ W0, w.alloc (.cells #[.string s, .int .i64 side, .int .i64 clock, .int .i64 full] 23) = W0 := ⟨_, rfl⟩
  have hB : Below w.heap.size w W0 := by rw [← hW0]; exact (by repeat (first | exact Below.refl _ _ | (refine Below.setCell ?_ (by first | omega | (simp; done) | (simp; omega) | (simp at *; omega)) _) | (refine Below.alloc ?_ (by first | omega | (simp; done) | (simp; omega) | (simp at *; omega)) _) | refine Below.drew ?_ | (refine below_drewN ?_ _) | (refine Below.trans ?_ (Below.mono (by assumption) (by first | omega | (simp; done) | (simp; omega) | (simp at *; omega))))))
  have bP : Blk W0 w.heap.size 23 #[.string s, .int .i64 side, .int .i64 clock, .int .i64 full] := by rw [← hW0]; exact Blk.new _ _ _ rfl
  replace hT := hT.below hB hT.lt
  rw [hW0]
  clear hW0
  refine (live6_any _ hT).mono ?_
  rintro e w9 ⟨rfl, hb⟩
  go_wp2
  go_ret
  exact ⟨rfl, hB.trans (hb.mono hB.size)⟩
set_option maxRecDepth 100000 in
set_option maxHeartbeats 8000000 in
theorem bad (s : ByteArray) (side clock full : Int)  (w : World) (hT : Tab w) (k : Int) (hs : s.size ≤ 200) (hk : (checkN s side clock full : Int) = k) (h0 : (k != 0) = true) : Calls Tryd.prog 7 #[.agg #[.string s, .int .i64 side, .int .i64 clock, .int .i64 full]] w (Gives w (.bool true)) := by
  unfold Gives
  have hd : decide (200 < (s.size : Int)) = false := by simp; omega
  have K := Lib.hid hk
  clear hs hk
  go_enter Tryd.func7, Tryd.ntmps7
  go_wp2_with fail
  obtain ⟨W0, hW0⟩ : ∃ W0, w.alloc (.cells #[.string s, .int .i64 side, .int .i64 clock, .int .i64 full] 23) = W0 := ⟨_, rfl⟩
  have hB : Below w.heap.size w W0 := by rw [← hW0]; exact (by repeat (first | exact Below.refl _ _ | (refine Below.setCell ?_ (by first | omega | (simp; done) | (simp; omega) | (simp at *; omega)) _) | (refine Below.alloc ?_ (by first | omega | (simp; done) | (simp; omega) | (simp at *; omega)) _) | refine Below.drew ?_ | (refine below_drewN ?_ _) | (refine Below.trans ?_ (Below.mono (by assumption) (by first | omega | (simp; done) | (simp; omega) | (simp at *; omega))))))
  have bP : Blk W0 w.heap.size 23 #[.string s, .int .i64 side, .int .i64 clock, .int .i64 full] := by rw [← hW0]; exact Blk.new _ _ _ rfl
  replace hT := hT.below hB hT.lt
  rw [hW0]
  clear hW0
  refine (rcheck_is s side clock full k _ K.out).mono ?_
  rintro e w2 ⟨rfl, hb⟩
  replace hT := hT.next hb
  replace bP := bP.next hb
  replace hB := hB.trans (hb.mono hB.size)
  clear hb
  go_wp2_with fail
  refine (live6_any _ hT).mono ?_
  rintro e w9 ⟨rfl, hb⟩
  go_wp2
  go_ret
  exact ⟨rfl, hB.trans (hb.mono hB.size)⟩
set_option maxRecDepth 100000 in
set_option maxHeartbeats 8000000 in
theorem good (s : ByteArray) (side clock full : Int)  (w : World) (hT : Tab w) (hs : s.size ≤ 200) (hk : (checkN s side clock full : Int) = 0) : Calls Tryd.prog 7 #[.agg #[.string s, .int .i64 side, .int .i64 clock, .int .i64 full]] w (Gives w (.bool true)) := by
  unfold Gives
  have hd : decide (200 < (s.size : Int)) = false := by simp; omega
  have hc : checkN s side clock full = 0 := by omega
  have hbd := parts_board (check_zero hk).1
  have hz := isB_size hbd
  have hside := check_side hc
  obtain ⟨L, hL⟩ : ∃ L, movesV s side clock full = L := ⟨_, rfl⟩
  obtain ⟨m, hm⟩ : ∃ m, L.length = m := ⟨_, rfl⟩
  obtain ⟨o, ho⟩ : ∃ o : Int, 1 - side = o := ⟨_, rfl⟩
  obtain ⟨K, hK⟩ : ∃ K, movesV s o clock full = K := ⟨_, rfl⟩
  obtain ⟨n, hn⟩ : ∃ n, K.length = n := ⟨_, rfl⟩
  have hlen : m ≤ 8100 := by rw [← hm, ← hL]; exact movesV_len s side clock full
  have hlen2 : n ≤ 8100 := by rw [← hn, ← hK]; exact movesV_len s o clock full
  have HLT : Hid (∀ k (hk : k < L.length), L[k].1 < 90 ∧ L[k].2 < 90 ∧ sideN (bAt s L[k].1) = side ∧ hasM K L[k].1 L[k].2 = false) := by
    show ∀ k (hk : k < L.length), _
    intro k hk
    have hmem : L[k] ∈ movesV s side clock full := by rw [hL]; exact List.getElem_mem hk
    obtain ⟨h1, h2⟩ := movesV_lt hmem
    rw [movesV, if_pos hc] at hmem
    obtain ⟨_, _, h3, _⟩ := moves_mem.1 (show (L[k].1, L[k].2) ∈ movesN s side from hmem)
    refine ⟨h1, h2, h3, ?_⟩
    rw [Bool.eq_false_iff]
    intro h4
    rw [hasM_iff, ← hK, movesV] at h4
    split at h4
    · obtain ⟨_, _, h5, _⟩ := moves_mem.1 h4
      omega
    · simp at h4
  have i0 : IntKind.i64.wrap o = o := IntWalk.i64_in _ (by omega)
  have i1 : IntKind.i64.wrap (1 - side) = o := by rw [ho]; exact i0
  have HC := Lib.hid hk
  have HL := Lib.hid hL
  have HM := Lib.hid hm
  have HK := Lib.hid hK
  have HN := Lib.hid hn
  have HZ : Hid (90 ≤ s.size) := by show _ ≤ _; omega
  clear hs hk hc hbd hside hL hm hK hn hz
  go_enter Tryd.func7, Tryd.ntmps7
  go_wp2_with fail
  obtain ⟨W0, hW0⟩ : ∃ W0, w.alloc (.cells #[.string s, .int .i64 side, .int .i64 clock, .int .i64 full] 23) = W0 := ⟨_, rfl⟩
  have hB : Below w.heap.size w W0 := by rw [← hW0]; exact (by repeat (first | exact Below.refl _ _ | (refine Below.setCell ?_ (by first | omega | (simp; done) | (simp; omega) | (simp at *; omega)) _) | (refine Below.alloc ?_ (by first | omega | (simp; done) | (simp; omega) | (simp at *; omega)) _) | refine Below.drew ?_ | (refine below_drewN ?_ _) | (refine Below.trans ?_ (Below.mono (by assumption) (by first | omega | (simp; done) | (simp; omega) | (simp at *; omega))))))
  have bP : Blk W0 w.heap.size 23 #[.string s, .int .i64 side, .int .i64 clock, .int .i64 full] := by rw [← hW0]; exact Blk.new _ _ _ rfl
  replace hT := hT.below hB hT.lt
  rw [hW0]
  clear hW0
  refine (rcheck_is s side clock full 0 _ HC.out).mono ?_
  rintro e w2 ⟨rfl, hb⟩
  have bP1 := bP.next hb
  have hT1 := hT.next hb
  have hB1 := hB.trans (hb.mono hB.size)
  clear bP hT hB hb
  obtain ⟨p0, p1, p2, p3⟩ := ppos_cells bP1
  go_wp2_with fail
  refine (moves_is s side clock full L m _ hT1 HL.out HM.out).mono ?_
  rintro e w3 ⟨A1, k1, rfl, rd, hb⟩
  have hT3 := hT1.next hb
  have bP3 := bP1.next hb
  have hB3 := hB1.trans (hb.mono hB1.size)
  clear hb p0 p1 p2 p3 hT1 bP1 hB1
  obtain ⟨W4, hW4⟩ : ∃ W4, w3.alloc (.cells #[.string s, .int .i64 side, .int .i64 clock, .int .i64 full] 23) = W4 := ⟨_, rfl⟩
  have hb4 : Below w3.heap.size w3 W4 := by rw [← hW4]; exact (by repeat (first | exact Below.refl _ _ | (refine Below.setCell ?_ (by first | omega | (simp; done) | (simp; omega) | (simp at *; omega)) _) | (refine Below.alloc ?_ (by first | omega | (simp; done) | (simp; omega) | (simp at *; omega)) _) | refine Below.drew ?_ | (refine below_drewN ?_ _) | (refine Below.trans ?_ (Below.mono (by assumption) (by first | omega | (simp; done) | (simp; omega) | (simp at *; omega))))))
  have bQ : Blk W4 w3.heap.size 23 #[.string s, .int .i64 side, .int .i64 clock, .int .i64 full] := by rw [← hW4]; exact Blk.new _ _ _ rfl
  have nq : w.heap.size ≠ w3.heap.size := by have := bP3.lt; omega
  have nq' : w3.heap.size ≠ w.heap.size := fun e => nq e.symm
  have bP4 := bP3.next hb4
  have rd4 := rd.next hb4
  obtain ⟨x0, x1, x2, x3⟩ := ppos_cells bP3
  obtain ⟨p0, p1, p2, p3⟩ := ppos_cells bP4
  obtain ⟨q0, q1, q2, q3⟩ := ppos_cells bQ
  obtain ⟨f0, f1, f2, f3⟩ := ppos_frozen bQ
  obtain ⟨W5, hW5⟩ : ∃ W5, W4.setCell ⟨w3.heap.size, 1, none⟩ (.int .i64 o) = W5 := ⟨_, rfl⟩
  have hb5 : Below w3.heap.size w3 W5 := by rw [← hW5]; exact hb4.setCell (p := ⟨w3.heap.size, 1, none⟩) (Nat.le_refl _) _
  have bQ5 : Blk W5 w3.heap.size 23 #[.string s, .int .i64 o, .int .i64 clock, .int .i64 full] := by rw [← hW5]; exact bQ.set_ 1 (.int .i64 o)
  have bP5 := bP3.next hb5
  have rd5 := rd.next hb5
  have hT5 := hT3.next hb5
  have hB5 := hB3.trans (hb5.mono hB3.size)
  obtain ⟨y0, y1, y2, y3⟩ := ppos_cells bQ5
  clear hb4 bQ bP4 bP3 rd rd4 hT3 hB3 hb5
  go_wp2_with fail
  refine (moves_is s o clock full K n _ hT5 HK.out HN.out).mono ?_
  rintro e w6 ⟨A2, k2, rfl, re, hb⟩
  have rd6 := rd5.next hb
  have bP6 := bP5.next hb
  have hT6 := hT5.next hb
  have hB6 := hB5.trans (hb.mono hB5.size)
  clear hb p0 p1 p2 p3 q0 q1 q2 q3 f0 f1 f2 f3 x0 x1 x2 x3 y0 y1 y2 y3 hW4 hW5 bQ5 bP5 rd5 hT5 hB5
  go_wp2_with fail
  go_loopw [6] (fun i wr => ∃ k : Nat, k ≤ m ∧ i = .int .i64 k ∧ Below w6.heap.size w6 wr) (fun i _ => m - (intOf i).toNat)
  case atStart => exact ⟨0, by omega, rfl, Below.refl _ _⟩
  case round =>
    obtain ⟨k, hk, rfl, hR⟩ := hrel
    by_cases hlt : k < m
    · have hkl : k < L.length := by rw [HM.out]; exact hlt
      obtain ⟨g1, o1, rfl, c0, c1⟩ := rd6.move hkl
      obtain ⟨h90, h91, h92, h93⟩ := HLT.out k hkl
      obtain ⟨⟨u, v⟩, huv⟩ : ∃ x, L[k] = x := ⟨_, rfl⟩
      rw [huv] at c0 c1 h90 h91 h92 h93
      have hc0 := (hR.cell (p := ⟨g1, o1 + k * 2, none⟩) (cell_lt c0)).trans c0
      have hc1 := (hR.cell (p := ⟨g1, o1 + k * 2 + 1, none⟩) (cell_lt c1)).trans c1
      have hu : u < 90 := h90
      have hv : v < 90 := h91
      obtain ⟨x, hx⟩ : ∃ x, bAt s u = x := ⟨_, rfl⟩
      have hus : u < s.size := by have := HZ.out; omega
      have hbk : s[u].toNat = x := (bAt_eq s u hus).trans hx
      have HSD : Hid (sideN x = side) := by show _ = _; rw [← hx]; exact h92
      have HH : Hid (hasM K u v = false) := h93
      have b0 : (0 : Int) ≤ (u : Int) := by omega
      have b1 : (u : Int) < (s.size : Int) := by omega
      have b2 : (k : Int) < (m : Int) := by omega
      obtain ⟨p0, p1, p2, p3⟩ := ppos_cells (bP6.next hR)
      have reh := Lib.hid (re.next hR)
      have hS : SdS w.heap.size g1 (o1 + k * 2) s side u v wr.drew := ⟨p0, p1, hc0, hc1⟩
      clear c0 c1 h90 h91 h92 h93 huv hx
      go_wp2_with fail
      go_region_held3 (fun W => W.cell? ⟨w.heap.size, 0, none⟩ = some (.string s) ∧ W.cell? ⟨w.heap.size, 1, none⟩ = some (.int .i64 side) ∧ W.cell? ⟨g1, o1 + k * 2, none⟩ = some (.int .i64 (u : Int)) ∧ W.cell? ⟨g1, o1 + k * 2 + 1, none⟩ = some (.int .i64 (v : Int)))
        (first | exact hS | with_reducible assumption | exact sdS_keep (by assumption) hb)
        (first
          | (go_at_call 29; refine (rside_is x side _ HSD.out).mono ?_; rintro e w7 ⟨rfl, rfl⟩)
          | (go_at_call 30; refine (has_is _ K n _ u v false _ (reh.out.next (Below.refl _ _).drew) HN.out (by omega) HH.out).mono ?_; rintro e w8 ⟨rfl, hb⟩))
      all_goals go_wp2_with fail
      all_goals
        go_roundw
        case rel => exact ⟨k + 1, by omega, by go_num, by first | exact hR.trans ((hb_drew hb).mono hR.size) | exact hR.trans (hb.mono hR.size)⟩
        case measure => simp [intOf]; omega
    · obtain rfl : k = m := by omega
      go_wp2_with fail
      refine (live6_any _ (hT6.next hR)).mono ?_
      rintro e w9 ⟨rfl, hb⟩
      go_wp2
      go_ret
      exact ⟨rfl, (hB6.trans (hR.mono hB6.size)).trans (hb.mono (hB6.trans (hR.mono hB6.size)).size)⟩
theorem walk (s : ByteArray) (side clock full : Int) (w : World) (hT : Tab w) : Calls Tryd.prog 7 #[.agg #[.string s, .int .i64 side, .int .i64 clock, .int .i64 full]] w (Gives w (.bool true)) := by
  by_cases hs : s.size ≤ 200
  · by_cases hk : (checkN s side clock full : Int) = 0
    · exact good s side clock full w hT hs hk
    · exact bad s side clock full w hT _ hs rfl (by rw [bne_iff_ne]; exact hk)
  · exact large s side clock full w hT (by omega)
end Go.Proofs.YtbfkkedcjodceaaDoor.pside
