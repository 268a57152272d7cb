/- Captures are just the moves to squares on which something stands: the call answers true. -/
import Derived.Test.YtbfkkedcjodceaaDoorLive6
import Derived.Test.YtbfkkedcjodceaaDoorPos3
namespace Go.Proofs.YtbfkkedcjodceaaDoor.pcaps
open Go.RowKit Go.Shelf
open M (S)

set_option maxRecDepth 100000 in
set_option maxHeartbeats 4000000 in
theorem large (s : ByteArray) (side clock full : Int) (w : World) (hT : Tab w) (hs : 200 < s.size) : Calls Tryd.prog 8 #[.agg #[.string s, .int .i64 side, .int .i64 clock, .int .i64 full]] w (Gives w (.bool true)) := by
  unfold Gives
  have hd : decide (200 < (s.size : Int)) = true := by simp; omega
  clear hs
  obtain ⟨W0, hW0⟩ : ∃ W0, w.alloc (.cells #[.string s, .int .i64 side, .int .i64 clock, .int .i64 full] 23) = W0 := ⟨_, rfl⟩
  have hB : Below w.heap.size w W0 := by rw [← hW0]; exact (by repeat (first | exact Below.refl _ _ | (refine Below.setCell ?_ (by first | omega | (simp; done) | (simp; omega) | (simp at *; omega)) _) | (refine Below.alloc ?_ (by first | omega | (simp; done) | (simp; omega) | (simp at *; omega)) _) | refine Below.drew ?_ | (refine below_drewN ?_ _) | (refine Below.trans ?_ (Below.mono (by assumption) (by first | omega | (simp; done) | (simp; omega) | (simp at *; omega))))))
  have hT0 := hT.next hB
  have HW := Lib.hid hW0
  clear hW0
  go_enter Tryd.func8, Tryd.ntmps8
  go_wp2_with fail
  rw [HW.out]
  refine (live6_any _ hT0).mono ?_
  rintro e w1 ⟨rfl, hb⟩
  replace hB := hB.trans (hb.mono hB.size)
  clear hb
  go_wp2
  go_ret
  exact ⟨rfl, hB⟩
theorem caps_at {s : ByteArray} {L : List (Nat × Nat)} {i : Nat} (hi : i < L.length) (h : bAt s L[i].2 ≠ 46) : ∃ hn : (capsTo s L i).length < (L.filter fun m => bAt s m.2 != 46).length, (L.filter fun m => bAt s m.2 != 46)[(capsTo s L i).length] = L[i] := by
  have h1 : (L.filter fun m => bAt s m.2 != 46) = capsTo s L i ++ L[i] :: ((L.drop (i + 1)).filter fun m => bAt s m.2 != 46) := by
    conv => lhs; rw [← List.take_append_drop i L, List.filter_append, List.drop_eq_getElem_cons hi]
    rw [List.filter_cons, if_pos (by rw [bne_iff_ne]; exact h)]
    rfl
  rw [h1]
  exact ⟨by simp, by simp⟩
set_option maxRecDepth 100000 in
set_option maxHeartbeats 4000000 in
theorem small (s : ByteArray) (side clock full : Int) (w : World) (hT : Tab w) (hs : s.size ≤ 200) : Calls Tryd.prog 8 #[.agg #[.string s, .int .i64 side, .int .i64 clock, .int .i64 full]] w (Gives w (.bool true)) := by
  unfold Gives
  have hd : decide (200 < (s.size : Int)) = false := by simp; omega
  clear hs
  obtain ⟨L, hL⟩ : ∃ L, movesV s side clock full = L := ⟨_, rfl⟩
  obtain ⟨m, hm⟩ : ∃ m, L.length = m := ⟨_, rfl⟩
  obtain ⟨C, hC⟩ : ∃ C, capsV s side clock full = C := ⟨_, rfl⟩
  obtain ⟨n, hn⟩ : ∃ n, C.length = n := ⟨_, rfl⟩
  have hlen : m ≤ 8100 := by rw [← hm, ← hL]; exact movesV_len s side clock full
  have HLT : Hid (∀ k (hk : k < L.length), L[k].2 < 90) := fun k hk => (movesV_lt (by rw [hL]; exact List.getElem_mem hk)).2
  have HS : Hid (0 < m → s.size = 90) := fun h0 => by
    by_cases hc : checkN s side clock full = 0
    · exact isB_size (parts_board (check_zero (s := s) (side := side) (clock := clock) (full := full) (by rw [hc]; rfl)).1)
    · rw [← hm, ← hL, movesV, if_neg hc] at h0
      exact absurd h0 (Nat.lt_irrefl 0)
  have HC2 : Hid (C = L.filter fun m => bAt s m.2 != 46) := by show _ = _; rw [← hC, ← hL]; rfl
  have HE : Hid ((capsTo s L m).length = n) := by show _ = _; rw [← hn, HC2.out, capsTo, List.take_of_length_le (by omega)]
  have HL := Lib.hid hL
  have HM := Lib.hid hm
  have HC := Lib.hid hC
  have HN := Lib.hid hn
  clear hL hm hC hn
  obtain ⟨W0, hW0⟩ : ∃ W0, w.alloc (.cells #[.string s, .int .i64 side, .int .i64 clock, .int .i64 full] 23) = W0 := ⟨_, rfl⟩
  have hB : Below w.heap.size w W0 := by rw [← hW0]; exact (by repeat (first | exact Below.refl _ _ | (refine Below.setCell ?_ (by first | omega | (simp; done) | (simp; omega) | (simp at *; omega)) _) | (refine Below.alloc ?_ (by first | omega | (simp; done) | (simp; omega) | (simp at *; omega)) _) | refine Below.drew ?_ | (refine below_drewN ?_ _) | (refine Below.trans ?_ (Below.mono (by assumption) (by first | omega | (simp; done) | (simp; omega) | (simp at *; omega))))))
  have bP : Blk W0 w.heap.size 23 #[.string s, .int .i64 side, .int .i64 clock, .int .i64 full] := by rw [← hW0]; exact Blk.new _ _ _ rfl
  replace hT := hT.next hB
  have HW := Lib.hid hW0
  clear hW0
  go_enter Tryd.func8, Tryd.ntmps8
  go_wp2_with fail
  rw [HW.out]
  refine (moves_is s side clock full L m _ hT HL.out HM.out).mono ?_
  rintro e w1 ⟨A1, k1, rfl, rd, hb⟩
  replace hT := hT.next hb
  replace bP := bP.next hb
  replace hB := hB.trans (hb.mono hB.size)
  clear hb HW
  obtain ⟨p0, p1, p2, p3⟩ := ppos_cells bP
  go_wp2_with fail
  refine (caps_is s side clock full C n _ hT HC.out HN.out).mono ?_
  rintro e w2 ⟨A2, k2, rfl, rc, hb⟩
  replace rd := rd.next hb
  replace hT := hT.next hb
  replace bP := bP.next hb
  replace hB := hB.trans (hb.mono hB.size)
  clear hb p0 p1 p2 p3
  go_wp2_with fail
  go_loopw [5, 6] (fun v i wr => ∃ k : Nat, k ≤ m ∧ i = .int .i64 k ∧ v = .int .i64 ((capsTo s L k).length : Nat) ∧ Below w2.heap.size w2 wr) (fun _ i _ => m - (intOf i).toNat)
  case atStart => exact ⟨0, by omega, rfl, by simp [capsTo], Below.refl _ _⟩
  case round =>
    obtain ⟨k, hk, rfl, rfl, hR⟩ := hrel
    have hle := capsTo_len s L k
    obtain ⟨q, hq⟩ : ∃ q, (capsTo s L k).length = q := ⟨_, rfl⟩
    rw [hq] at hle ⊢
    by_cases hlt : k < m
    · have hkl : k < L.length := by rw [HM.out]; exact hlt
      obtain ⟨g1, o1, rfl, c0, c1⟩ := rd.move hkl
      have hst := capsTo_succ (s := s) hkl
      have h90 := HLT.out k hkl
      have hs := HS.out (by omega)
      have hcap := caps_at (s := s) hkl
      obtain ⟨⟨u, v⟩, huv⟩ : ∃ x, L[k] = x := ⟨_, rfl⟩
      rw [huv] at c0 c1 hst h90 hcap
      have hc0 := (hR.cell (p := ⟨g1, o1 + k * 2, none⟩) (cell_lt c0)).trans c0
      have hc1 := (hR.cell (p := ⟨g1, o1 + k * 2 + 1, none⟩) (cell_lt c1)).trans c1
      have p0 : wr.cell? ⟨w.heap.size, 0, none⟩ = some (.string s) := (bP.next hR).cell 0
      obtain ⟨x, hx⟩ : ∃ x, bAt s v = x := ⟨_, rfl⟩
      have hv : v < 90 := h90
      have hvs : v < s.size := by omega
      have hbk : s[v].toNat = x := (bAt_eq s v hvs).trans hx
      have b1 : (k : Int) < (m : Int) := by omega
      have b2 : (0 : Int) ≤ (v : Int) := by omega
      have b3 : (v : Int) ≤ 89 := by omega
      have b4 : (v : Int) < 90 := by omega
      have e1 : ((s.size : Int) != 90) = false := by rw [hs]; rfl
      have bsz : (v : Int) < (s.size : Int) := by omega
      have d1 : decide ((v : Int) < 0) = false := by simp
      have d2 : decide (89 < (v : Int)) = false := by simp; omega
      rw [show (u, v).2 = v from rfl, hx] at hst hcap
      clear c0 c1 h90 hs
      by_cases h46 : x = 46
      · have e46 : ((x : Int) != 46) = false := by rw [h46]; rfl
        have Hs : Hid ((capsTo s L (k + 1)).length = q) := by show _ = _; rw [hst, h46, ← hq]; rfl
        clear hst h46 hcap hx hq
        go_wp2_with fail
        go_quiet (fail)
        go_wp2_with fail
        go_roundw
        case rel => exact ⟨k + 1, by omega, by go_num, by rw [Hs.out], below_drewN hR _⟩
        case measure => simp [intOf]; omega
      · have e46 : ((x : Int) != 46) = true := by rw [bne_iff_ne]; omega
        have Hs : Hid ((capsTo s L (k + 1)).length = q + 1) := by show _ = _; rw [hst, if_pos (by rw [bne_iff_ne]; exact h46), List.length_append, hq]; rfl
        obtain ⟨hn1, hn2⟩ := hcap h46
        have hqn : q < n := by
          have := hn1
          rw [hq, ← HC2.out, HN.out] at this
          exact this
        have hqc : q < C.length := by rw [HN.out]; exact hqn
        have hcq : C[q] = (u, v) := by
          rw [← hn2]
          simp only [HC2.out, hq]
        obtain ⟨g2, o2, rfl, y0, y1⟩ := rc.move hqc
        rw [hcq] at y0 y1
        have hy0 := (hR.cell (p := ⟨g2, o2 + q * 2, none⟩) (cell_lt y0)).trans y0
        have hy1 := (hR.cell (p := ⟨g2, o2 + q * 2 + 1, none⟩) (cell_lt y1)).trans y1
        have b5 : (q : Int) < (n : Int) := by omega
        have d3 : decide ((n : Int) ≤ (q : Int)) = false := by simp; omega
        have hne := neq_move
        clear hst h46 hcap hx hn1 hn2 hcq y0 y1
        clear hq
        go_wp2_with fail
        go_quiet (fail)
        go_wp2_with fail
        go_quiet (fail)
        go_wp2_with fail
        go_roundw
        case rel => exact ⟨k + 1, by omega, by go_num, by rw [Hs.out]; go_num, by first | exact below_drewN (below_drewN hR _) _ | exact below_drewN hR _⟩
        case measure => simp [intOf]; omega
    · obtain rfl : k = m := by omega
      have hqn : q = n := by rw [← hq]; exact HE.out
      subst hqn
      clear hq
      go_wp2_with fail
      refine (live6_any _ (hT.next hR)).mono ?_
      rintro e w3 ⟨rfl, hb⟩
      go_wp2
      go_ret
      exact ⟨rfl, (hB.trans (hR.mono hB.size)).trans (hb.mono (hB.trans (hR.mono hB.size)).size)⟩
theorem walk (s : ByteArray) (side clock full : Int) (w : World) (hT : Tab w) : Calls Tryd.prog 8 #[.agg #[.string s, .int .i64 side, .int .i64 clock, .int .i64 full]] w (Gives w (.bool true)) := by
  by_cases hs : s.size ≤ 200
  · exact small s side clock full w hT hs
  · exact large s side clock full w hT (by omega)
end Go.Proofs.YtbfkkedcjodceaaDoor.pcaps
