/- Merged: RefL RefL2 RefL3 RefL4. -/
import Derived.Test.YtbdgbihdhbjljaaGreatDoorCheckM
import Derived.Test.YtbdgbihdhbjljaaGreatDoorPseudoM
import Derived.Test.YtbdgbihdhbjljaaGreatDoorLegalM

namespace Go.Proofs.YtbdgbihdhbjljaaGreatDoor
open Go.RowKit Go.Shelf
open M (S)

set_option maxRecDepth 100000 in
set_option maxHeartbeats 2000000 in
theorem rsafe_is (s : ByteArray) (side : Int) (r : Bool) (w : World) (h : safeB s side = r) : Calls Tryz.prog 88 #[.string s, .int .i64 side] w (Gives w (.bool r)) := by
  unfold Gives
  obtain ⟨f, hf⟩ : ∃ f, facingB s = f := ⟨_, rfl⟩
  obtain ⟨i, hi⟩ : ∃ i, inB s side = i := ⟨_, rfl⟩
  have HF := Lib.hid hf
  have HI := Lib.hid hi
  have HR : Hid ((!f && !i) = r) := by show _ = _; rw [← h, safeB, hf, hi]
  clear hf hi h
  cases f
  · go_enter Tryz.func88, Tryz.ntmps88
    go_wp2_with fail
    refine (rfacing_is s false _ HF.out).mono ?_
    rintro e w1 ⟨rfl, hb⟩
    go_wp2_with fail
    refine (rin_is s side i _ HI.out).mono ?_
    rintro e w2 ⟨rfl, hb2⟩
    go_wp2
    go_ret
    exact ⟨by rw [← HR.out]; rfl, hb.trans (hb2.mono hb.size)⟩
  · go_enter Tryz.func88, Tryz.ntmps88
    go_wp2_with fail
    refine (rfacing_is s true _ HF.out).mono ?_
    rintro e w1 ⟨rfl, hb⟩
    go_wp2
    go_ret
    exact ⟨by rw [← HR.out]; rfl, hb⟩
set_option maxRecDepth 100000 in
set_option maxHeartbeats 2000000 in
theorem rend_of (s : ByteArray) (side clock full : Int) (w : World) (k : Int) (hk : wellN s side clock full = k) (h0 : (k != 0) = true) : Calls Tryz.prog 82 #[.agg #[.string s, .int .i64 side, .int .i64 clock, .int .i64 full]] w (Gives w (.int .i64 0)) := by
  unfold Gives
  have HK := Lib.hid hk
  clear hk
  obtain ⟨W1, hW1⟩ : ∃ W1, w.alloc (.cells #[.string s, .int .i64 side, .int .i64 clock, .int .i64 full] 23) = W1 := ⟨_, rfl⟩
  have hB : Below w.heap.size w W1 := by rw [← hW1]; exact (by repeat (first | exact Below.refl _ _ | (refine Below.setCell ?_ (by first | omega | (simp; done) | (simp; omega) | (simp at *; omega)) _) | (refine Below.alloc ?_ (by first | omega | (simp; done) | (simp; omega) | (simp at *; omega)) _) | refine Below.drew ?_ | (refine below_drewN ?_ _) | (refine Below.trans ?_ (Below.mono (by assumption) (by first | omega | (simp; done) | (simp; omega) | (simp at *; omega))))))
  have bP : Blk W1 w.heap.size 23 #[.string s, .int .i64 side, .int .i64 clock, .int .i64 full] := by rw [← hW1]; exact Blk.new _ _ _ rfl
  obtain ⟨p0, p1, p2, p3⟩ := ppos_cells bP
  go_enter Tryz.func82, Tryz.ntmps82
  go_wp2_with fail
  refine (rwell_is s side clock full k _ HK.out).mono ?_
  rintro e w2 ⟨rfl, hb⟩
  go_wp2
  go_ret
  exact ⟨rfl, hB.trans (hb.mono hB.size)⟩
end Go.Proofs.YtbdgbihdhbjljaaGreatDoor

namespace Go.Proofs.YtbdgbihdhbjljaaGreatDoor
open Go.RowKit Go.Shelf
open M (S)

/-- Those of the first k moves that may be made. -/
def legalTo (s : ByteArray) (side : Int) (l : List (Nat × Nat)) (k : Nat) : List (Nat × Nat) := (l.take k).filter (legalB s side)
theorem legalTo_succ {s : ByteArray} {side : Int} {l : List (Nat × Nat)} {k : Nat} (h : k < l.length) : legalTo s side l (k + 1) = if legalB s side l[k] then legalTo s side l k ++ [l[k]] else legalTo s side l k := by
  unfold legalTo
  rw [List.take_succ_eq_append_getElem h, List.filter_append]
  cases e : legalB s side l[k] <;> simp [e]
theorem legalTo_len (s : ByteArray) (side : Int) (l : List (Nat × Nat)) (k : Nat) : (legalTo s side l k).length ≤ k := by
  unfold legalTo
  exact Nat.le_trans (List.length_filter_le _ _) (by simp; omega)
set_option maxRecDepth 100000 in
set_option maxHeartbeats 8000000 in
theorem rlof_is (s : ByteArray) (side : Int) (l : List (Nat × Nat)) (n : Nat) (w : World) (hs : s.size = 90) (h : legalN s side = l) (hn : l.length = n) : Calls Tryz.prog 59 #[.string s, .int .i64 side] w (GivesM w l n) := by
  obtain ⟨i0, hi, hy0, hy1, hy2⟩ := info_parts info_move
  obtain ⟨L, hL⟩ : ∃ L, movesN s side = L := ⟨_, rfl⟩
  obtain ⟨m, hm⟩ : ∃ m, L.length = m := ⟨_, rfl⟩
  have hlen : m ≤ 8100 := by rw [← hm, ← hL]; exact movesTo_len s side 90
  have HLT : Hid (∀ k (hk : k < L.length), L[k].1 < 90 ∧ L[k].2 < 90 ∧ L[k].1 ≠ L[k].2) := fun k hk => by
    have hmem : L[k] ∈ movesN s side := by rw [hL]; exact List.getElem_mem hk
    obtain ⟨h1, h2, _, h3⟩ := moves_mem.1 (show (L[k].1, L[k].2) ∈ movesN s side from hmem)
    exact ⟨h1, h2, can_self h3⟩
  have HE : Hid (legalTo s side L m = l) := by show _ = _; rw [← h, legalN, hL, legalTo, List.take_of_length_le (by omega)]
  have HL := Lib.hid hL
  have HM := Lib.hid hm
  have HN := Lib.hid hn
  have HSZ := Lib.hid hs
  clear hL hm h hn hs
  go_enter Tryz.func59, Tryz.ntmps59
  go_wp2_with fail
  refine (rofm_is s side L m _ (by have := HSZ.out; omega) HL.out HM.out).mono ?_
  rintro e w1 ⟨A, c, rfl, hr, hb1⟩
  go_wp2_with fail
  go_loopw [6, 7] (fun v i wr => ∃ k : Nat, k ≤ m ∧ i = .int .i64 k ∧ wr.ownsRow w1.heap.size 48 2 v (legalTo s side L k).length (mvs (legalTo s side L k)) ∧ Below w1.heap.size w1 wr) (fun _ i _ => m - (intOf i).toNat)
  case atStart => exact ⟨0, by omega, rfl, by simpa [legalTo, mvs] using World.ownsRow_nil w1 w1.heap.size 48 2, Below.refl _ _⟩
  case round =>
    obtain ⟨k, hk, rfl, hown, hB⟩ := hrel
    have hbs := hB.size
    have hle := legalTo_len s side L k
    by_cases hlt : k < m
    · have hkl : k < L.length := by rw [HM.out]; exact hlt
      obtain ⟨g1, o1, rfl, c0, c1⟩ := hr.move hkl
      have hst := legalTo_succ (s := s) (side := side) hkl
      obtain ⟨h89, h90, hne⟩ := HLT.out k hkl
      obtain ⟨⟨u, v⟩, huv⟩ : ∃ x, L[k] = x := ⟨_, rfl⟩
      rw [huv] at c0 c1 hst h89 h90 hne
      have hc0 := (hB.cell (p := ⟨g1, o1 + k * 2, none⟩) (cell_lt c0)).trans c0
      have hc1 := (hB.cell (p := ⟨g1, o1 + k * 2 + 1, none⟩) (cell_lt c1)).trans c1
      obtain ⟨x, hx⟩ : ∃ x, bAt s v = x := ⟨_, rfl⟩
      have hvs : v < s.size := by have := HSZ.out; have h3 : v < 90 := h90; omega
      have hbk : s[v].toNat = x := (bAt_eq s v hvs).trans hx
      have b0 : (0 : Int) ≤ (v : Int) := by omega
      have b1 : (k : Int) < (m : Int) := by omega
      have b2 : (v : Int) < (s.size : Int) := by omega
      obtain ⟨q, hq⟩ : ∃ q, behindS s (u, v) = q := ⟨_, rfl⟩
      obtain ⟨f, hf⟩ : ∃ f, safeB q side = f := ⟨_, rfl⟩
      obtain ⟨d, hd⟩ : ∃ d, kindN x = d := ⟨_, rfl⟩
      have HQ : Hid (∀ W, Calls Tryz.prog 95 #[.string s, .agg #[.int .i64 (u : Int), .int .i64 (v : Int)]] W (Gives W (.string q))) := fun W => rmoved_any s u v _ q W HSZ.out h89 h90 hne rfl hq
      have HF := Lib.hid hf
      have HD := Lib.hid hd
      have HST : Hid (legalTo s side L (k + 1) = if (d != 75) && f then legalTo s side L k ++ [(u, v)] else legalTo s side L k) := by
        show _ = _
        rw [hst, legalB, hq, hf]
        show (if (kindN (bAt s v) != 75 && f) = true then _ else _) = _
        rw [hx, hd]
      clear c0 c1 huv hx hst hf hd hq
      go_wp2_with fail
      refine (rkind_any x _).mono ?_
      rintro e w2 ⟨rfl, rfl⟩
      rw [HD.out]
      by_cases h75 : d = 75
      · subst h75
        have Hs : Hid (legalTo s side L (k + 1) = legalTo s side L k) := by show _ = _; rw [HST.out]; rfl
        clear HST HD
        go_wp2_with fail
        go_roundw
        case rel => exact ⟨k + 1, by omega, by go_num, by rw [Hs.out]; exact hown, hB⟩
        case measure => simp [intOf]; omega
      · have e75 : ((d : Int) != 75) = true := by rw [bne_iff_ne]; omega
        have e75n : (d != 75) = true := by rw [bne_iff_ne]; exact h75
        have Hs0 : Hid (legalTo s side L (k + 1) = if f then legalTo s side L k ++ [(u, v)] else legalTo s side L k) := by show _ = _; rw [HST.out, e75n, Bool.true_and]
        clear HST HD h75
        go_wp2_with fail
        refine (HQ.out _).mono ?_
        rintro e w2 ⟨rfl, hb⟩
        have hown2 := own_next hown hb
        have hB2 := hB.trans (hb.mono hB.size)
        have hd0 := (hb.cell (p := ⟨g1, o1 + k * 2, none⟩) (cell_lt hc0)).trans hc0
        have hd1 := (hb.cell (p := ⟨g1, o1 + k * 2 + 1, none⟩) (cell_lt hc1)).trans hc1
        clear hown hB hb hc0 hc1 hbs
        go_wp2_with fail
        refine (rsafe_is q side f _ HF.out).mono ?_
        rintro e w3 ⟨rfl, hb⟩
        have hown := own_next hown2 hb
        have hB := hB2.trans (hb.mono hB2.size)
        have hc0 := (hb.cell (p := ⟨g1, o1 + k * 2, none⟩) (cell_lt hd0)).trans hd0
        have hc1 := (hb.cell (p := ⟨g1, o1 + k * 2 + 1, none⟩) (cell_lt hd1)).trans hd1
        have hbs := hB.size
        clear hown2 hB2 hb hd0 hd1
        cases f
        · have Hs : Hid (legalTo s side L (k + 1) = legalTo s side L k) := Hs0.out
          clear Hs0
          go_wp2_with fail
          go_roundw
          case rel => exact ⟨k + 1, by omega, by go_num, by rw [Hs.out]; exact hown, hB⟩
          case measure => simp [intOf]; omega
        · have Hs : Hid (legalTo s side L (k + 1) = legalTo s side L k ++ [(u, v)]) := Hs0.out
          clear Hs0
          go_wp2_with (at_builtin; refine wpList_append_own _ rfl _ _ 24 rfl w1.heap.size 48 i0 (.agg #[.int .i64 0, .int .i64 0]) 2 16 Tryz.underlying24 hi hy0 hy1 hy2 rfl (by decide) _ _ _ rfl (hown.alloc _) ⟨w3.heap.size, 0, none⟩ 1 1 [iv u, iv v] rfl rfl (cells_two_new _ _ _ _) (by simp [Value.oneCell']) (by unfold maxLen; omega) (by omega) (by simp; omega) ?_; intro v' w4 hown' hgrow _)
          go_roundw
          case rel => exact ⟨k + 1, by omega, by go_num, by rw [Hs.out, mvs_app, List.length_append]; exact hown', below_app hB hbs hown hgrow⟩
          case measure => simp [intOf]; omega
    · obtain rfl : k = m := by omega
      rw [HE.out, HN.out] at hown
      obtain ⟨A', c', rfl⟩ := owns_slice hown
      go_wp2
      go_ret
      exact ⟨A', c', rfl, Rd.owns hown, hb1.trans (hB.mono hb1.size)⟩
end Go.Proofs.YtbdgbihdhbjljaaGreatDoor

namespace Go.Proofs.YtbdgbihdhbjljaaGreatDoor
open Go.RowKit Go.Shelf
open M (S)

theorem legalV_lt {s : ByteArray} {side clock full : Int} {m : Nat × Nat} (h : m ∈ legalV s side clock full) : m.1 < 90 ∧ m.2 < 90 := by
  unfold legalV at h
  split at h
  · exact movesV_lt (List.mem_filter.1 h).1
  · simp at h
theorem well_size {s : ByteArray} {side clock full : Int} (h : wellN s side clock full = 0) : s.size = 90 := isB_size (parts_board (check_zero (well_zero h).1).1)
set_option maxRecDepth 100000 in
set_option maxHeartbeats 4000000 in
theorem rlmoves_is (s : ByteArray) (side clock full : Int) (l : List (Nat × Nat)) (n : Nat) (w : World) (h : legalV s side clock full = l) (hn : l.length = n) : Calls Tryz.prog 28 #[.agg #[.string s, .int .i64 side, .int .i64 clock, .int .i64 full]] w (GivesM w l n) := by
  obtain ⟨W0, hW0⟩ : ∃ W0, w.alloc (.cells #[.string s, .int .i64 side, .int .i64 clock, .int .i64 full] 23) = W0 := ⟨_, rfl⟩
  have hB : Below w.heap.size w W0 := by rw [← hW0]; exact (by repeat (first | exact Below.refl _ _ | (refine Below.setCell ?_ (by first | omega | (simp; done) | (simp; omega) | (simp at *; omega)) _) | (refine Below.alloc ?_ (by first | omega | (simp; done) | (simp; omega) | (simp at *; omega)) _) | refine Below.drew ?_ | (refine below_drewN ?_ _) | (refine Below.trans ?_ (Below.mono (by assumption) (by first | omega | (simp; done) | (simp; omega) | (simp at *; omega))))))
  have bP : Blk W0 w.heap.size 23 #[.string s, .int .i64 side, .int .i64 clock, .int .i64 full] := by rw [← hW0]; exact Blk.new _ _ _ rfl
  obtain ⟨p0, p1, p2, p3⟩ := ppos_cells bP
  by_cases hk : wellN s side clock full = 0
  · have hs := well_size hk
    have hl : legalN s side = l := by rw [← h, legal_same, if_pos hk]
    have HL := Lib.hid hl
    have HN := Lib.hid hn
    have HC := Lib.hid hk
    have HS := Lib.hid hs
    clear h hn hl hk hs
    go_enter Tryz.func28, Tryz.ntmps28
    go_wp2_with fail
    refine (rwell_is s side clock full 0 _ HC.out).mono ?_
    rintro e w1 ⟨rfl, hb⟩
    have bP1 := bP.next hb
    have hB1 := hB.trans (hb.mono hB.size)
    clear hb p0 p1 p2 p3 hW0 bP hB
    obtain ⟨p0, p1, p2, p3⟩ := ppos_cells bP1
    go_wp2_with fail
    refine (rlof_is s side l n _ HS.out HL.out HN.out).mono ?_
    rintro e w2 ⟨A, c, rfl, hr, hb2⟩
    go_wp2
    go_ret
    exact ⟨A, c, rfl, hr, hB1.trans (hb2.mono hB1.size)⟩
  · obtain ⟨k, hk1⟩ : ∃ k, wellN s side clock full = k := ⟨_, rfl⟩
    have e1 : (k != 0) = true := by rw [bne_iff_ne, ← hk1]; exact hk
    have hl : l = [] := by rw [← h, legalV, if_neg hk]
    subst hl
    have hn0 : n = 0 := by simpa using hn.symm
    subst hn0
    have HC := Lib.hid hk1
    clear h hn hk hk1
    go_enter Tryz.func28, Tryz.ntmps28
    go_wp2_with fail
    refine (rwell_is s side clock full k _ HC.out).mono ?_
    rintro e w1 ⟨rfl, hb⟩
    go_wp2
    go_ret
    exact ⟨none, 0, rfl, fun j u hu => by simp [mvs] at hu, hB.trans (hb.mono hB.size)⟩
set_option maxRecDepth 100000 in
set_option maxHeartbeats 4000000 in
theorem rend_any (s : ByteArray) (side clock full : Int) (w : World) : Calls Tryz.prog 82 #[.agg #[.string s, .int .i64 side, .int .i64 clock, .int .i64 full]] w (Gives w (.int .i64 (endV s side clock full))) := by
  by_cases hk : wellN s side clock full = 0
  · unfold Gives
    have hs := well_size hk
    obtain ⟨n, hn⟩ : ∃ n, (legalN s side).length = n := ⟨_, rfl⟩
    obtain ⟨i, hi⟩ : ∃ i, inB s side = i := ⟨_, rfl⟩
    have hV : endV s side clock full = if 0 < n then 0 else if i then 1 else 2 := by
      unfold endV
      rw [if_pos hk, has_legal _ _ _ _ hk, legal_same, if_pos hk, hn, hi]
      rcases Nat.eq_zero_or_pos n with h0 | h0
      · subst h0; rfl
      · rw [if_pos h0, if_pos (by rw [bne_iff_ne]; omega)]
    obtain ⟨z, hz⟩ : ∃ z, endV s side clock full = z := ⟨_, rfl⟩
    have HZ : Hid ((if 0 < n then 0 else if i then 1 else 2 : Int) = z) := by show _ = _; rw [← hV]; exact hz
    rw [hz]
    have HC := Lib.hid hk
    have HN := Lib.hid hn
    have HI := Lib.hid hi
    have HS := Lib.hid hs
    clear hk hn hi hs hV hz
    obtain ⟨W0, hW0⟩ : ∃ W0, w.alloc (.cells #[.string s, .int .i64 side, .int .i64 clock, .int .i64 full] 23) = W0 := ⟨_, rfl⟩
    have hB : Below w.heap.size w W0 := by rw [← hW0]; exact (by repeat (first | exact Below.refl _ _ | (refine Below.setCell ?_ (by first | omega | (simp; done) | (simp; omega) | (simp at *; omega)) _) | (refine Below.alloc ?_ (by first | omega | (simp; done) | (simp; omega) | (simp at *; omega)) _) | refine Below.drew ?_ | (refine below_drewN ?_ _) | (refine Below.trans ?_ (Below.mono (by assumption) (by first | omega | (simp; done) | (simp; omega) | (simp at *; omega))))))
    have bP : Blk W0 w.heap.size 23 #[.string s, .int .i64 side, .int .i64 clock, .int .i64 full] := by rw [← hW0]; exact Blk.new _ _ _ rfl
    obtain ⟨p0, p1, p2, p3⟩ := ppos_cells bP
    go_enter Tryz.func82, Tryz.ntmps82
    go_wp2_with fail
    refine (rwell_is s side clock full 0 _ HC.out).mono ?_
    rintro e w1 ⟨rfl, hb⟩
    have bP1 := bP.next hb
    have hB1 := hB.trans (hb.mono hB.size)
    clear hb p0 p1 p2 p3 hW0 bP hB
    obtain ⟨p0, p1, p2, p3⟩ := ppos_cells bP1
    go_wp2_with fail
    refine (rlof_is s side _ n _ HS.out rfl HN.out).mono ?_
    rintro e w2 ⟨A, c, rfl, _, hb⟩
    have bP2 := bP1.next hb
    have hB2 := hB1.trans (hb.mono hB1.size)
    clear hb p0 p1 p2 p3 bP1 hB1
    obtain ⟨p0, p1, p2, p3⟩ := ppos_cells bP2
    rcases Nat.eq_zero_or_pos n with h0 | h0
    · subst h0
      go_wp2_with fail
      refine (rin_is s side i _ HI.out).mono ?_
      rintro e w3 ⟨rfl, hb⟩
      have hB3 := hB2.trans (hb.mono hB2.size)
      clear hb p0 p1 p2 p3
      cases i
      · go_wp2
        go_ret
        exact ⟨by rw [← HZ.out]; rfl, hB3⟩
      · go_wp2
        go_ret
        exact ⟨by rw [← HZ.out]; rfl, hB3⟩
    · have hi0 : (0 : Int) < (n : Int) := by omega
      go_wp2
      go_ret
      exact ⟨by rw [← HZ.out, if_pos h0]; rfl, hB2⟩
  · have hV : endV s side clock full = 0 := by unfold endV; rw [if_neg hk]
    rw [hV]
    exact rend_of s side clock full w _ rfl (by rw [bne_iff_ne]; exact hk)
theorem rend_is (s : ByteArray) (side clock full k : Int) (w : World) (h : endV s side clock full = k) : Calls Tryz.prog 82 #[.agg #[.string s, .int .i64 side, .int .i64 clock, .int .i64 full]] w (Gives w (.int .i64 k)) := by subst h; exact rend_any s side clock full w
end Go.Proofs.YtbdgbihdhbjljaaGreatDoor

namespace Go.Proofs.YtbdgbihdhbjljaaGreatDoor
open Go.RowKit Go.Shelf
open M (S)

theorem leaves_safe {s : ByteArray} {side clock full a b : Int} (hc : (checkN s side clock full : Int) = 0) (h : isM s side a b = true ∧ kindN (bAt s b.toNat) ≠ 75) : leavesI s side clock full a b = safeB (movedS s a.toNat b.toNat (bAt s a.toNat)) side := by
  rw [leaves_good h]
  have h1 := h.1
  unfold isM canI at h1
  simp only [Bool.and_eq_true] at h1
  obtain ⟨⟨⟨⟨_, ha⟩, hb⟩, hcan⟩, _⟩ := h1
  have ha2 : a.toNat < 90 := by
    unfold sqI at ha
    simp only [Bool.and_eq_true, decide_eq_true_eq] at ha
    omega
  have hb2 : b.toNat < 90 := by
    unfold sqI at hb
    simp only [Bool.and_eq_true, decide_eq_true_eq] at hb
    omega
  rw [Bool.eq_iff_iff, beq_iff_eq]
  exact well_behind hc ha2 hb2 hcan h.2
set_option maxRecDepth 100000 in
set_option maxHeartbeats 4000000 in
theorem rmake_bad (s : ByteArray) (side clock full a b k : Int) (w : World) (hk : wellN s side clock full = k) (h0 : (k != 0) = true) :
    Calls Tryz.prog 45 #[.agg #[.string s, .int .i64 side, .int .i64 clock, .int .i64 full], .agg #[.int .i64 a, .int .i64 b]] w (Gives w (noneV k)) := by
  unfold Gives noneV
  obtain ⟨W1, hW1⟩ : ∃ W1, ((w.alloc (.cells #[.string s, .int .i64 side, .int .i64 clock, .int .i64 full] 23)).alloc (.cells #[.int .i64 a, .int .i64 b] 48)).alloc (.cells #[.string ⟨#[]⟩, .int .i64 0, .int .i64 0, .int .i64 0] 23) = W1 := ⟨_, rfl⟩
  obtain ⟨hB, bP, bM, bR⟩ := ap_start hW1
  obtain ⟨p0, p1, p2, p3⟩ := ppos_cells bP
  have HC := Lib.hid hk
  have HW := Lib.hid hW1
  clear hk hW1
  go_enter Tryz.func45, Tryz.ntmps45
  go_wp2_with fail
  rw [HW.out]
  have f0 := ppos_frozen bR
  go_wp2_with fail
  refine (rwell_is s side clock full k _ HC.out).mono ?_
  rintro e w1 ⟨rfl, hb⟩
  have bR1 := bR.next hb
  obtain ⟨g0, g1, g2, g3⟩ := ppos_cells bR1
  obtain ⟨f0, f1, f2, f3⟩ := ppos_frozen bR1
  go_wp2_with fail
  refine bodyPost_ret (res_pos3 rfl _ _ rfl (mvEnd (bR1) (by omega) (hB.trans (hb.mono hB.size))).1) rfl ⟨rfl, (mvEnd (bR1) (by omega) (hB.trans (hb.mono hB.size))).2⟩
set_option maxRecDepth 100000 in
set_option maxHeartbeats 1500000 in
theorem rmake_none (s : ByteArray) (side clock full a b : Int) (w : World) (HA : Hid (∀ W, Calls Tryz.prog 87 #[.agg #[.string s, .int .i64 side, .int .i64 clock, .int .i64 full], .agg #[.int .i64 a, .int .i64 b]] W (Gives W (applyV s side clock full a b)))) (hk : wellN s side clock full = 0) (h : ¬ (isM s side a b = true ∧ kindN (bAt s b.toNat) ≠ 75)) :
    Calls Tryz.prog 45 #[.agg #[.string s, .int .i64 side, .int .i64 clock, .int .i64 full], .agg #[.int .i64 a, .int .i64 b]] w (Gives w (noneV 7)) := by
  have hV := apply_bad_value (well_check hk) h
  unfold noneV at hV
  unfold Gives noneV
  obtain ⟨W1, hW1⟩ : ∃ W1, ((w.alloc (.cells #[.string s, .int .i64 side, .int .i64 clock, .int .i64 full] 23)).alloc (.cells #[.int .i64 a, .int .i64 b] 48)).alloc (.cells #[.string ⟨#[]⟩, .int .i64 0, .int .i64 0, .int .i64 0] 23) = W1 := ⟨_, rfl⟩
  obtain ⟨hB, bP, bM, bR⟩ := ap_start hW1
  obtain ⟨p0, p1, p2, p3⟩ := ppos_cells bP
  have HC := Lib.hid hk
  rw [hV] at HA
  have HW := Lib.hid hW1
  clear hk hW1 h hV
  go_enter Tryz.func45, Tryz.ntmps45
  go_wp2_with fail
  rw [HW.out]
  have f0 := ppos_frozen bR
  go_wp2_with fail
  refine (rwell_is s side clock full 0 _ HC.out).mono ?_
  rintro e w1 ⟨rfl, hb⟩
  have hB1 := hB.trans (hb.mono hB.size)
  have bR1 := bR.next hb
  have bM1 := bM.next hb
  obtain ⟨q0, q1, q2, q3⟩ := ppos_cells (bP.next hb)
  have m0 : w1.cell? ⟨w.heap.size + 1, 0, none⟩ = some (.int .i64 a) := bM1.cell 0
  have m1 : w1.cell? ⟨w.heap.size + 1, 1, none⟩ = some (.int .i64 b) := bM1.cell 1
  clear hb bP bM p0 p1 p2 p3
  go_wp2_with fail
  refine (HA.out _).mono ?_
  rintro e w2 ⟨rfl, hb⟩
  have hB2 := hB1.trans (hb.mono hB1.size)
  have bR2 := bR1.next hb
  clear hb q0 q1 q2 q3 m0 m1 bR1 bM1 f0
  obtain ⟨W3, hW3⟩ : ∃ W3, w2.alloc (.cells #[.string ⟨#[]⟩, .int .i64 0, .int .i64 0, .int .i64 0] 23) = W3 := ⟨_, rfl⟩
  have hb3 : Below w2.heap.size w2 W3 := by rw [← hW3]; exact (by repeat (first | exact Below.refl _ _ | (refine Below.setCell ?_ (by first | omega | (simp; done) | (simp; omega) | (simp at *; omega)) _) | (refine Below.alloc ?_ (by first | omega | (simp; done) | (simp; omega) | (simp at *; omega)) _) | refine Below.drew ?_ | (refine below_drewN ?_ _) | (refine Below.trans ?_ (Below.mono (by assumption) (by first | omega | (simp; done) | (simp; omega) | (simp at *; omega))))))
  have bQ : Blk W3 w2.heap.size 23 #[.string ⟨#[]⟩, .int .i64 0, .int .i64 0, .int .i64 0] := by rw [← hW3]; exact Blk.new _ _ _ rfl
  have bR3 := bR2.next hb3
  have hB3 := hB2.trans (hb3.mono hB2.size)
  have hlt := bR2.lt
  have hBs := hB2.size
  have nq : w.heap.size + 2 ≠ w2.heap.size := by omega
  have nq1 : w.heap.size + 1 + 1 ≠ w2.heap.size := by omega
  have nq2 : w2.heap.size ≠ w.heap.size + 1 + 1 := by omega
  obtain ⟨q0, q1, q2, q3⟩ := ppos_cells bQ
  obtain ⟨z0, z1, z2, z3⟩ := ppos_frozen bQ
  obtain ⟨g0, g1, g2, g3⟩ := ppos_cells bR3
  obtain ⟨f0, f1, f2, f3⟩ := ppos_frozen bR3
  obtain ⟨W4, hW4⟩ : ∃ W4, (((W3.setCell ⟨w2.heap.size, 0, none⟩ (.string ⟨#[]⟩)).setCell ⟨w2.heap.size, 1, none⟩ (.int .i64 0)).setCell ⟨w2.heap.size, 2, none⟩ (.int .i64 0)).setCell ⟨w2.heap.size, 3, none⟩ (.int .i64 0) = W4 := ⟨_, rfl⟩
  have bR4 : Blk W4 (w.heap.size + 2) 23 #[.string ⟨#[]⟩, .int .i64 0, .int .i64 0, .int .i64 0] := by rw [← hW4]; exact (((bR3.far (p := ⟨w2.heap.size, 0, none⟩) nq _).far (p := ⟨w2.heap.size, 1, none⟩) nq _).far (p := ⟨w2.heap.size, 2, none⟩) nq _).far (p := ⟨w2.heap.size, 3, none⟩) nq _
  have hB4 : Below w.heap.size w W4 := by rw [← hW4]; exact (((hB3.setCell (p := ⟨w2.heap.size, 0, none⟩) hBs _).setCell (p := ⟨w2.heap.size, 1, none⟩) hBs _).setCell (p := ⟨w2.heap.size, 2, none⟩) hBs _).setCell (p := ⟨w2.heap.size, 3, none⟩) hBs _
  obtain ⟨j0, j1, j2, j3⟩ := ppos_cells bR4
  obtain ⟨k0, k1, k2, k3⟩ := ppos_frozen bR4
  have HR3 := Lib.hid bR3
  have HB3 := Lib.hid hB3
  have HR4 := Lib.hid bR4
  have HB4 := Lib.hid hB4
  clear hb3 bQ bR3 hB3 bR4 hB4 bR2
  go_wp2_with fail
  subst hW4
  refine bodyPost_ret (res_pos3 rfl _ _ rfl (mvEnd (HR4.out) (by omega) (HB4.out)).1) rfl ⟨rfl, (mvEnd (HR4.out) (by omega) (HB4.out)).2⟩
set_option maxRecDepth 100000 in
set_option maxHeartbeats 4000000 in
theorem rmake_good (s : ByteArray) (side clock full a b : Int) (q : ByteArray) (y z u t : Int) (f : Bool) (w : World) (HA : Hid (∀ W, Calls Tryz.prog 87 #[.agg #[.string s, .int .i64 side, .int .i64 clock, .int .i64 full], .agg #[.int .i64 a, .int .i64 b]] W (Gives W (applyV s side clock full a b)))) (hk : wellN s side clock full = 0) (hV : applyV s side clock full a b = .tuple #[.agg #[.string q, .int .i64 y, .int .i64 z, .int .i64 u], .int .u8 t, .int .i64 0]) (hq : safeB q side = f) (V : Value) (hR : V = if f then .tuple #[.agg #[.string q, .int .i64 y, .int .i64 z, .int .i64 u], .int .u8 t, .int .i64 0] else noneV 7) :
    Calls Tryz.prog 45 #[.agg #[.string s, .int .i64 side, .int .i64 clock, .int .i64 full], .agg #[.int .i64 a, .int .i64 b]] w (Gives w V) := by
  unfold Gives
  have HRV := Lib.hid hR
  clear hR
  obtain ⟨W1, hW1⟩ : ∃ W1, ((w.alloc (.cells #[.string s, .int .i64 side, .int .i64 clock, .int .i64 full] 23)).alloc (.cells #[.int .i64 a, .int .i64 b] 48)).alloc (.cells #[.string ⟨#[]⟩, .int .i64 0, .int .i64 0, .int .i64 0] 23) = W1 := ⟨_, rfl⟩
  obtain ⟨hB, bP, bM, bR⟩ := ap_start hW1
  obtain ⟨p0, p1, p2, p3⟩ := ppos_cells bP
  have HC := Lib.hid hk
  rw [hV] at HA
  have HQ := Lib.hid hq
  have HW := Lib.hid hW1
  clear hk hW1 hV hq
  go_enter Tryz.func45, Tryz.ntmps45
  go_wp2_with fail
  rw [HW.out]
  have f0 := ppos_frozen bR
  go_wp2_with fail
  refine (rwell_is s side clock full 0 _ HC.out).mono ?_
  rintro e w1 ⟨rfl, hb⟩
  have hB1 := hB.trans (hb.mono hB.size)
  have bR1 := bR.next hb
  have bM1 := bM.next hb
  have bP1 := bP.next hb
  obtain ⟨q0, q1, q2, q3⟩ := ppos_cells (bP.next hb)
  have m0 : w1.cell? ⟨w.heap.size + 1, 0, none⟩ = some (.int .i64 a) := bM1.cell 0
  have m1 : w1.cell? ⟨w.heap.size + 1, 1, none⟩ = some (.int .i64 b) := bM1.cell 1
  clear hb bP bM p0 p1 p2 p3
  go_wp2_with fail
  refine (HA.out _).mono ?_
  rintro e w2 ⟨rfl, hb⟩
  have hB2 := hB1.trans (hb.mono hB1.size)
  have bR2 := bR1.next hb
  have bP2 := bP1.next hb
  clear hb q0 q1 q2 q3 m0 m1 bR1 bM1 f0
  obtain ⟨W3, hW3⟩ : ∃ W3, w2.alloc (.cells #[.string q, .int .i64 y, .int .i64 z, .int .i64 u] 23) = W3 := ⟨_, rfl⟩
  have hb3 : Below w2.heap.size w2 W3 := by rw [← hW3]; exact (by repeat (first | exact Below.refl _ _ | (refine Below.setCell ?_ (by first | omega | (simp; done) | (simp; omega) | (simp at *; omega)) _) | (refine Below.alloc ?_ (by first | omega | (simp; done) | (simp; omega) | (simp at *; omega)) _) | refine Below.drew ?_ | (refine below_drewN ?_ _) | (refine Below.trans ?_ (Below.mono (by assumption) (by first | omega | (simp; done) | (simp; omega) | (simp at *; omega))))))
  have bQ : Blk W3 w2.heap.size 23 #[.string q, .int .i64 y, .int .i64 z, .int .i64 u] := by rw [← hW3]; exact Blk.new _ _ _ rfl
  have bR3 := bR2.next hb3
  obtain ⟨n0, n1, n2, n3⟩ := ppos_cells (bP2.next hb3)
  have hB3 := hB2.trans (hb3.mono hB2.size)
  have hlt := bR2.lt
  have nq1 : w.heap.size + 1 + 1 ≠ w2.heap.size := by omega
  have nq2 : w2.heap.size ≠ w.heap.size + 1 + 1 := by omega
  obtain ⟨q0, q1, q2, q3⟩ := ppos_cells bQ
  clear hb3 bR2
  go_wp2_with fail
  refine (rsafe_is q side f _ HQ.out).mono ?_
  rintro e w4 ⟨rfl, hb⟩
  clear n0 n1 n2 n3 bP1 bP2
  have bR4 := bR3.next hb
  have bQ4 := bQ.next hb
  have hB4 := hB3.trans (hb.mono hB3.size)
  clear hb q0 q1 q2 q3 bQ bR3 hB3 hW3
  obtain ⟨q0, q1, q2, q3⟩ := ppos_cells bQ4
  obtain ⟨g0, g1, g2, g3⟩ := ppos_cells bR4
  obtain ⟨f0, f1, f2, f3⟩ := ppos_frozen bR4
  cases f
  · have HRN : Hid (V = noneV 7) := by show _ = _; rw [HRV.out]; rfl
    go_wp2_with fail
    refine bodyPost_ret (res_pos3 rfl _ _ rfl (mvEnd bR4 (by omega) hB4).1) rfl ⟨by rw [HRN.out]; rfl, (mvEnd bR4 (by omega) hB4).2⟩
  · have HRP : Hid (V = .tuple #[.agg #[.string q, .int .i64 y, .int .i64 z, .int .i64 u], .int .u8 t, .int .i64 0]) := by show _ = _; rw [HRV.out]; rfl
    go_wp2_with fail
    refine bodyPost_ret (res_pos3 rfl _ _ rfl (mvEnd bR4 (by omega) hB4).1) rfl ⟨by rw [HRP.out]; rfl, (mvEnd bR4 (by omega) hB4).2⟩
theorem rmake_any (s : ByteArray) (side clock full a b : Int) (w : World) (HA : Hid (∀ W, Calls Tryz.prog 87 #[.agg #[.string s, .int .i64 side, .int .i64 clock, .int .i64 full], .agg #[.int .i64 a, .int .i64 b]] W (Gives W (applyV s side clock full a b)))) :
    Calls Tryz.prog 45 #[.agg #[.string s, .int .i64 side, .int .i64 clock, .int .i64 full], .agg #[.int .i64 a, .int .i64 b]] w (Gives w (makeV s side clock full a b)) := by
  unfold makeV
  by_cases hk : wellN s side clock full = 0
  · rw [if_pos hk]
    by_cases h : isM s side a b = true ∧ kindN (bAt s b.toNat) ≠ 75
    · have := rmake_good s side clock full a b _ _ _ _ _ _ w HA hk (apply_good_value (well_check hk) h) rfl _ rfl
      rw [leaves_safe (well_zero hk).1 h, apply_good_value (well_check hk) h]
      exact this
    · rw [leaves_bad h, if_neg (by simp)]
      exact rmake_none s side clock full a b w HA hk h
  · rw [if_neg hk]
    exact rmake_bad s side clock full a b _ w rfl (by rw [bne_iff_ne]; exact hk)
end Go.Proofs.YtbdgbihdhbjljaaGreatDoor
