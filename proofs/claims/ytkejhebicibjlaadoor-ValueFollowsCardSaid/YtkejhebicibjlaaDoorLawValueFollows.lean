/- Behind each move that may be made, what it is moved to is what the position is worth: the call answers true. -/
import Derived.Test.YtkejhebicibjlaaDoorValueL
import Derived.Test.YtkejhebicibjlaaDoorRefLM
import Derived.Test.YtkejhebicibjlaaDoorPseudoN
namespace Go.Proofs.YtkejhebicibjlaaDoor.vfollows
open Go.RowKit Go.Shelf
open M (S)

theorem legal_facts {s : ByteArray} {side clock full : Int} {m : Nat × Nat} (h : m ∈ legalV s side clock full) :
    (checkN s side clock full : Int) = 0 ∧ m.1 < 90 ∧ m.2 < 90 ∧ makeV s side clock full m.1 m.2 = .tuple #[.agg #[.string (behindS s m), .int .i64 (1 - side), .int .i64 (clockA s clock m.2), .int .i64 (fullA side full)], .int .u8 (takenN s m.2 : Nat), .int .i64 0] ∧ inB (behindS s m) side = false ∧ facingB (behindS s m) = false := by
  obtain ⟨u, v⟩ := m
  unfold legalV at h
  split at h
  · rename_i hw
    obtain ⟨h1, h2⟩ := List.mem_filter.1 h
    obtain ⟨h3, h4⟩ := movesV_lt h1
    have h5 := h2
    unfold leavesB leavesI at h5
    simp only [Bool.and_eq_true, bne_iff_ne, beq_iff_eq] at h5
    obtain ⟨⟨h6, h7⟩, h8⟩ := h5
    simp only [Int.toNat_natCast] at h7 h8
    obtain ⟨_, h9, h10⟩ := well_zero h8
    rw [show (1 : Int) - (1 - side) = side by omega] at h10
    refine ⟨(well_zero hw).1, h3, h4, ?_, h10, h9⟩
    unfold makeV
    rw [if_pos hw, if_pos (show leavesI s side clock full (u : Int) (v : Int) = true from h2), apply_good_value (well_check hw) ⟨h6, by rw [Int.toNat_natCast]; exact h7⟩]
    simp only [Int.toNat_natCast]
    rfl
  · simp at h
theorem mv_small {v : Int} (c t : Nat) (a b : Int) (h : -25000 ≤ v ∧ v ≤ 25000) : mvW v (pieceV c a) (pieceV c b) (pieceV t b) = movedV v c a b t := by
  have h1 := piece_bd c a
  have h2 := piece_bd c b
  have h3 := piece_bd t b
  unfold mvW movedV
  rw [IntWalk.i64_in (v - pieceV c a) (by omega), IntWalk.i64_in (v - pieceV c a + pieceV c b) (by omega), IntWalk.i64_in (v - pieceV c a + pieceV c b + pieceV t b) (by omega), IntWalk.i64_in _ (by omega)]
theorem legal_value {s : ByteArray} {side clock full : Int} {m : Nat × Nat} (h : m ∈ legalV s side clock full) :
    isB s = true ∧ mvW (ofV s side) (pieceV (bAt s m.1) (m.1 : Int)) (pieceV (bAt s m.1) (m.2 : Int)) (pieceV (takenN s m.2) (m.2 : Int)) = ofV (behindS s m) (1 - side) := by
  obtain ⟨u, v⟩ := m
  unfold legalV at h
  split at h
  · rename_i hw
    obtain ⟨h1, h2⟩ := List.mem_filter.1 h
    obtain ⟨h3, h4⟩ := movesV_lt h1
    have hc := (well_zero hw).1
    have hB := parts_board (check_zero hc).1
    have h5 := h2
    unfold leavesB leavesI at h5
    simp only [Bool.and_eq_true] at h5
    have h6 := h5.1.1
    have hu : u < 90 := h3
    have hv : v < 90 := h4
    rw [isM_in hB hu hv, Bool.and_eq_true] at h6
    have e1 : sideN (bAt s u) = side := by simpa using h6.2
    have e2 : sideN (bAt s v) ≠ side := by rw [← e1]; exact (can_parts h6.1).2.1
    refine ⟨hB, ?_⟩
    rw [mv_small _ _ _ _ (of_bd s side)]
    exact value_follows hB hu hv (can_self h6.1) (check_side (well_check hw)) e1 e2
  · simp at h
set_option maxRecDepth 100000 in
set_option maxHeartbeats 8000000 in
theorem large (s : ByteArray) (side clock full : Int) (w : World) (hT : Tab w) (hs : 200 < s.size) : Calls Tryd.prog 5 #[.agg #[.string s, .int .i64 side, .int .i64 clock, .int .i64 full]] w (Gives w (.bool true)) := by
  unfold Gives
  have hd : decide (200 < (s.size : Int)) = true := by simp; omega
  clear hs
  have hB : Below w.heap.size w (w.alloc (.cells #[.string s, .int .i64 side, .int .i64 clock, .int .i64 full] 27)) := (by repeat (first | exact Below.refl _ _ | (refine Below.setCell ?_ (by first | omega | (simp; done) | (simp; omega) | (simp at *; omega)) _) | (refine Below.alloc ?_ (by first | omega | (simp; done) | (simp; omega) | (simp at *; omega)) _) | refine Below.drew ?_ | (refine below_drewN ?_ _) | (refine Below.trans ?_ (Below.mono (by assumption) (by first | omega | (simp; done) | (simp; omega) | (simp at *; omega))))))
  go_enter Tryd.func5, Tryd.ntmps5
  go_wp2_with fail
  refine (live14_any _ (hT.next hB)).mono ?_
  rintro e w1 ⟨rfl, hb⟩
  go_wp2
  go_ret
  exact ⟨rfl, hB.trans (hb.mono hB.size)⟩
theorem fk_keep {s : ByteArray} {side clock full : Int} {u v g1 o1 k : Nat} {w wr W : World} (h : Below wr.heap.size wr wr ∧ wr.cell? ⟨w.heap.size, 0, none⟩ = some (.string s) ∧ wr.cell? ⟨w.heap.size, 1, none⟩ = some (.int .i64 side) ∧ wr.cell? ⟨w.heap.size, 2, none⟩ = some (.int .i64 clock) ∧ wr.cell? ⟨w.heap.size, 3, none⟩ = some (.int .i64 full) ∧ wr.cell? ⟨g1, o1 + k * 2, none⟩ = some (.int .i64 (u : Int)) ∧ wr.cell? ⟨g1, o1 + k * 2 + 1, none⟩ = some (.int .i64 (v : Int))) (hb : Below wr.heap.size wr W) : Below wr.heap.size wr W ∧ W.cell? ⟨w.heap.size, 0, none⟩ = some (.string s) ∧ W.cell? ⟨w.heap.size, 1, none⟩ = some (.int .i64 side) ∧ W.cell? ⟨w.heap.size, 2, none⟩ = some (.int .i64 clock) ∧ W.cell? ⟨w.heap.size, 3, none⟩ = some (.int .i64 full) ∧ W.cell? ⟨g1, o1 + k * 2, none⟩ = some (.int .i64 (u : Int)) ∧ W.cell? ⟨g1, o1 + k * 2 + 1, none⟩ = some (.int .i64 (v : Int)) := by
  obtain ⟨_, h0, h1, h2, h3, h4, h5⟩ := h
  exact ⟨hb, (hb.cell (p := ⟨w.heap.size, 0, none⟩) (cell_lt h0)).trans h0, (hb.cell (p := ⟨w.heap.size, 1, none⟩) (cell_lt h1)).trans h1, (hb.cell (p := ⟨w.heap.size, 2, none⟩) (cell_lt h2)).trans h2, (hb.cell (p := ⟨w.heap.size, 3, none⟩) (cell_lt h3)).trans h3, (hb.cell (p := ⟨g1, o1 + k * 2, none⟩) (cell_lt h4)).trans h4, (hb.cell (p := ⟨g1, o1 + k * 2 + 1, none⟩) (cell_lt h5)).trans h5⟩
theorem fol_keep {s q : ByteArray} {o ck fl : Int} {u v g1 o1 k gq : Nat} {w w2b W W' : World} (h : W.cell? ⟨w.heap.size, 0, none⟩ = some (.string s) ∧ W.cell? ⟨g1, o1 + k * 2, none⟩ = some (.int .i64 (u : Int)) ∧ W.cell? ⟨g1, o1 + k * 2 + 1, none⟩ = some (.int .i64 (v : Int)) ∧ W.cell? ⟨gq, 0, none⟩ = some (.string q) ∧ W.cell? ⟨gq, 1, none⟩ = some (.int .i64 o) ∧ W.cell? ⟨gq, 2, none⟩ = some (.int .i64 ck) ∧ W.cell? ⟨gq, 3, none⟩ = some (.int .i64 fl) ∧ Below w2b.heap.size w2b W) (hb : Below W.heap.size W W') : W'.cell? ⟨w.heap.size, 0, none⟩ = some (.string s) ∧ W'.cell? ⟨g1, o1 + k * 2, none⟩ = some (.int .i64 (u : Int)) ∧ W'.cell? ⟨g1, o1 + k * 2 + 1, none⟩ = some (.int .i64 (v : Int)) ∧ W'.cell? ⟨gq, 0, none⟩ = some (.string q) ∧ W'.cell? ⟨gq, 1, none⟩ = some (.int .i64 o) ∧ W'.cell? ⟨gq, 2, none⟩ = some (.int .i64 ck) ∧ W'.cell? ⟨gq, 3, none⟩ = some (.int .i64 fl) ∧ Below w2b.heap.size w2b W' := by
  obtain ⟨h0, h1, h2, h3, h4, h5, h6, h7⟩ := h
  exact ⟨(hb.cell (p := ⟨w.heap.size, 0, none⟩) (cell_lt h0)).trans h0, (hb.cell (p := ⟨g1, o1 + k * 2, none⟩) (cell_lt h1)).trans h1, (hb.cell (p := ⟨g1, o1 + k * 2 + 1, none⟩) (cell_lt h2)).trans h2, (hb.cell (p := ⟨gq, 0, none⟩) (cell_lt h3)).trans h3, (hb.cell (p := ⟨gq, 1, none⟩) (cell_lt h4)).trans h4, (hb.cell (p := ⟨gq, 2, none⟩) (cell_lt h5)).trans h5, (hb.cell (p := ⟨gq, 3, none⟩) (cell_lt h6)).trans h6, h7.trans (hb.mono h7.size)⟩
theorem fol_below {s q : ByteArray} {o ck fl : Int} {u v g1 o1 k gq : Nat} {w w2b W : World} (h : W.cell? ⟨w.heap.size, 0, none⟩ = some (.string s) ∧ W.cell? ⟨g1, o1 + k * 2, none⟩ = some (.int .i64 (u : Int)) ∧ W.cell? ⟨g1, o1 + k * 2 + 1, none⟩ = some (.int .i64 (v : Int)) ∧ W.cell? ⟨gq, 0, none⟩ = some (.string q) ∧ W.cell? ⟨gq, 1, none⟩ = some (.int .i64 o) ∧ W.cell? ⟨gq, 2, none⟩ = some (.int .i64 ck) ∧ W.cell? ⟨gq, 3, none⟩ = some (.int .i64 fl) ∧ Below w2b.heap.size w2b W) : Below w2b.heap.size w2b W := h.2.2.2.2.2.2.2
set_option maxRecDepth 100000 in
set_option maxHeartbeats 8000000 in
theorem small (s : ByteArray) (side clock full : Int)  (w : World) (hT : Tab w) (hs : s.size ≤ 200) : Calls Tryd.prog 5 #[.agg #[.string s, .int .i64 side, .int .i64 clock, .int .i64 full]] w (Gives w (.bool true)) := by
  unfold Gives
  have hd : decide (200 < (s.size : Int)) = false := by simp; omega
  obtain ⟨L, hL⟩ : ∃ L, legalV s side clock full = L := ⟨_, rfl⟩
  obtain ⟨m, hm⟩ : ∃ m, L.length = m := ⟨_, rfl⟩
  have hlen : m ≤ 8100 := by rw [← hm, ← hL]; exact legalV_len s side clock full
  have HF : Hid (∀ k (hk : k < L.length), _) := fun k hk => legal_facts (s := s) (side := side) (clock := clock) (full := full) (m := L[k]) (by rw [hL]; exact List.getElem_mem hk)
  have HG : Hid (∀ k (hk : k < L.length), _) := fun k hk => legal_value (s := s) (side := side) (clock := clock) (full := full) (m := L[k]) (by rw [hL]; exact List.getElem_mem hk)
  have HL := Lib.hid hL
  have HM := Lib.hid hm
  obtain ⟨kq, hK⟩ : ∃ kq, ofV s side = kq := ⟨_, rfl⟩
  have HKY := Lib.hid hK
  clear hs hL hm hK
  go_enter Tryd.func5, Tryd.ntmps5
  go_wp2_with fail
  obtain ⟨W0, hW0⟩ : ∃ W0, w.alloc (.cells #[.string s, .int .i64 side, .int .i64 clock, .int .i64 full] 27) = W0 := ⟨_, rfl⟩
  have hB : Below w.heap.size w W0 := by rw [← hW0]; exact (by repeat (first | exact Below.refl _ _ | (refine Below.setCell ?_ (by first | omega | (simp; done) | (simp; omega) | (simp at *; omega)) _) | (refine Below.alloc ?_ (by first | omega | (simp; done) | (simp; omega) | (simp at *; omega)) _) | refine Below.drew ?_ | (refine below_drewN ?_ _) | (refine Below.trans ?_ (Below.mono (by assumption) (by first | omega | (simp; done) | (simp; omega) | (simp at *; omega))))))
  have bP : Blk W0 w.heap.size 27 #[.string s, .int .i64 side, .int .i64 clock, .int .i64 full] := by rw [← hW0]; exact Blk.new _ _ _ rfl
  rw [hW0]
  clear hW0
  have bP1 := bP
  obtain ⟨p0, p1, p2, p3⟩ := ppos_cells bP1
  clear bP
  refine (rlmoves_is s side clock full L m _ HL.out HM.out).mono ?_
  rintro e w2 ⟨A1, k1, rfl, rd, hb⟩
  have bP2 := bP1.next hb
  have hB2 := hB.trans (hb.mono hB.size)
  clear hb hB bP1 p0 p1 p2 p3
  obtain ⟨p0, p1, p2, p3⟩ := ppos_cells bP2
  go_wp2_with fail
  refine (vof_is s side clock full kq _ (hT.next hB2) HKY.out).mono ?_
  rintro e w2b ⟨rfl, hb⟩
  have rd2 := rd.next hb
  have bP2b := bP2.next hb
  have hB2b := hB2.trans (hb.mono hB2.size)
  have hT2b := hT.next hB2b
  clear hb p0 p1 p2 p3 rd bP2 hB2
  go_wp2_with fail
  go_loopw [5] (fun i wr => ∃ k : Nat, k ≤ m ∧ i = .int .i64 k ∧ Below w2b.heap.size w2b wr) (fun i _ => m - (intOf i).toNat)
  case atStart => exact ⟨0, by omega, rfl, Below.refl _ _⟩
  case round =>
    obtain ⟨k, hk, rfl, hR⟩ := hrel
    by_cases hlt : k < m
    · have hkl : k < L.length := by rw [HM.out]; exact hlt
      obtain ⟨g1, o1, rfl, c0, c1⟩ := rd2.move hkl
      obtain ⟨hck, h90, h91, h92, h93, h94⟩ := HF.out k hkl
      obtain ⟨hbd, hky⟩ := HG.out k hkl
      obtain ⟨⟨u, v⟩, huv⟩ : ∃ x, L[k] = x := ⟨_, rfl⟩
      rw [huv] at c0 c1 h90 h91 h92 h93 h94 hky
      have hu : u < 90 := h90
      have hv : v < 90 := h91
      have hz := isB_size hbd
      obtain ⟨c, hcx⟩ : ∃ c, bAt s u = c := ⟨_, rfl⟩
      have hlc : c < 256 := by rw [← hcx]; exact bAt_lt s u
      have hus : u < s.size := by omega
      have hbk : s[u].toNat = c := (bAt_eq s u hus).trans hcx
      have b0 : (0 : Int) ≤ (u : Int) := Int.natCast_nonneg u
      have b1 : (u : Int) < (s.size : Int) := Int.ofNat_lt.2 hus
      have hc0 := (hR.cell (p := ⟨g1, o1 + k * 2, none⟩) (cell_lt c0)).trans c0
      have hc1 := (hR.cell (p := ⟨g1, o1 + k * 2 + 1, none⟩) (cell_lt c1)).trans c1
      have b2 : (k : Int) < (m : Int) := by omega
      obtain ⟨q, hq⟩ : ∃ q, behindS s (u, v) = q := ⟨_, rfl⟩
      obtain ⟨ck, hck2⟩ : ∃ x, clockA s clock v = x := ⟨_, rfl⟩
      obtain ⟨fl, hfl⟩ : ∃ x, fullA side full = x := ⟨_, rfl⟩
      obtain ⟨tk, htk⟩ : ∃ x, takenN s v = x := ⟨_, rfl⟩
      obtain ⟨o, ho⟩ : ∃ o : Int, 1 - side = o := ⟨_, rfl⟩
      simp only [hq, hck2, hfl, htk, ho] at h92 hky
      have HV := Lib.hid h92
      obtain ⟨B, hBq⟩ : ∃ B, ofV q o = B := ⟨_, rfl⟩
      rw [hcx, (HKY.out : ofV s side = kq), hBq] at hky
      have HMV := Lib.hid hky
      have HBQ := Lib.hid hBq
      clear hq hck2 hfl htk ho hck hcx hky hBq hz hbd hu hv
      have bP3 := bP2b.next hR
      obtain ⟨p0, p1, p2, p3⟩ := ppos_cells bP3
      clear c0 c1 h90 h91 h92 h93 h94 huv
      have HM2 : Hid (∀ W, Calls Tryd.prog 19 #[.agg #[.string s, .int .i64 side, .int .i64 clock, .int .i64 full], .agg #[.int .i64 (u : Int), .int .i64 (v : Int)]] W (Gives W (.tuple #[.agg #[.string q, .int .i64 o, .int .i64 ck, .int .i64 fl], .int .u8 tk, .int .i64 0]))) := by
        show ∀ W, _
        intro W
        have := rmake_any s side clock full u v W (Lib.hid fun W => rapply_is s side clock full u v _ W rfl)
        rw [HV.out] at this
        exact this
      have hba : Below wr.heap.size wr (wr.alloc (.cells #[.string ⟨#[]⟩, .int .i64 0, .int .i64 0, .int .i64 0] 27)) := (Below.refl _ _).alloc (Nat.le_refl _) _
      have HBZ : Hid (Blk (wr.alloc (.cells #[.string ⟨#[]⟩, .int .i64 0, .int .i64 0, .int .i64 0] 27)).drew wr.heap.size 27 #[.string ⟨#[]⟩, .int .i64 0, .int .i64 0, .int .i64 0]) := (Blk.new wr 27 #[.string ⟨#[]⟩, .int .i64 0, .int .i64 0, .int .i64 0] rfl).next (Below.refl _ _).drew
      have HBA := Lib.hid hba
      clear hba
      have hS0 : Below wr.heap.size wr wr ∧ wr.cell? ⟨w.heap.size, 0, none⟩ = some (.string s) ∧ wr.cell? ⟨w.heap.size, 1, none⟩ = some (.int .i64 side) ∧ wr.cell? ⟨w.heap.size, 2, none⟩ = some (.int .i64 clock) ∧ wr.cell? ⟨w.heap.size, 3, none⟩ = some (.int .i64 full) ∧ wr.cell? ⟨g1, o1 + k * 2, none⟩ = some (.int .i64 (u : Int)) ∧ wr.cell? ⟨g1, o1 + k * 2 + 1, none⟩ = some (.int .i64 (v : Int)) := ⟨Below.refl _ _, p0, p1, p2, p3, hc0, hc1⟩
      have hS1 : Below wr.heap.size wr wr.drew ∧ wr.drew.cell? ⟨w.heap.size, 0, none⟩ = some (.string s) ∧ wr.drew.cell? ⟨w.heap.size, 1, none⟩ = some (.int .i64 side) ∧ wr.drew.cell? ⟨w.heap.size, 2, none⟩ = some (.int .i64 clock) ∧ wr.drew.cell? ⟨w.heap.size, 3, none⟩ = some (.int .i64 full) ∧ wr.drew.cell? ⟨g1, o1 + k * 2, none⟩ = some (.int .i64 (u : Int)) ∧ wr.drew.cell? ⟨g1, o1 + k * 2 + 1, none⟩ = some (.int .i64 (v : Int)) := fk_keep hS0 (Below.refl _ _).drew
      clear HBA p0 p1 p2 p3
      go_wp2_with fail
      refine wp_region_held_drew (S := fun W => Below wr.heap.size wr W ∧ W.cell? ⟨w.heap.size, 0, none⟩ = some (.string s) ∧ W.cell? ⟨w.heap.size, 1, none⟩ = some (.int .i64 side) ∧ W.cell? ⟨w.heap.size, 2, none⟩ = some (.int .i64 clock) ∧ W.cell? ⟨w.heap.size, 3, none⟩ = some (.int .i64 full) ∧ W.cell? ⟨g1, o1 + k * 2, none⟩ = some (.int .i64 (u : Int)) ∧ W.cell? ⟨g1, o1 + k * 2 + 1, none⟩ = some (.int .i64 (v : Int))) (by kernel_rfl) (hS1) (fun hHeld => ?_)
      refine wpAnyH_take (i := 0) (oi := { dst := some 25, op := Op.load 27 (Operand.tmp 1), type := 27, pos := "law.go:50", after := #[], guard := none }) (v := ?_) rfl (by kernel_rfl) (by kernel_rfl) (by kernel_rfl) (fun _ _ _ h => h) (Or.inl ⟨by rfl, ?_⟩) (by assumption) ?_
      case refine_2 =>
        intro w hSw
        (try dsimp only at hSw)
        (try go_simp)
        all_goals (with_reducible rfl)
      (try dsimp only [Act.put]); (try simp only [List.setIfInBounds_toArray, List.set_cons_zero, List.set_cons_succ])
      refine wpAnyH_take (i := 1) (oi := { dst := some 26, op := Op.move (Operand.tmp 3), type := 35, pos := "law.go:50", after := #[], guard := none }) (v := ?_) rfl (by kernel_rfl) (by kernel_rfl) (by kernel_rfl) (fun _ _ _ h => h) (Or.inl ⟨by rfl, ?_⟩) (by assumption) ?_
      case refine_2 =>
        intro w hSw
        (try dsimp only at hSw)
        (try go_simp)
        all_goals (with_reducible rfl)
      (try dsimp only [Act.put]); (try simp only [List.setIfInBounds_toArray, List.set_cons_zero, List.set_cons_succ])
      refine wpAnyH_take (i := 2) (oi := { dst := some 27, op := Op.move (Operand.tmp 5), type := 3, pos := "law.go:50", after := #[], guard := none }) (v := ?_) rfl (by kernel_rfl) (by kernel_rfl) (by kernel_rfl) (fun _ _ _ h => h) (Or.inl ⟨by rfl, ?_⟩) (by assumption) ?_
      case refine_2 =>
        intro w hSw
        (try dsimp only at hSw)
        (try go_simp)
        all_goals (with_reducible rfl)
      (try dsimp only [Act.put]); (try simp only [List.setIfInBounds_toArray, List.set_cons_zero, List.set_cons_succ])
      refine wpAnyH_take (i := 3) (oi := { dst := some 28, op := Op.indexAddr 35 (Operand.tmp 26) (Operand.tmp 27), type := 0, pos := "law.go:50", after := #[{ on := 1, ground := Ground.data }, { on := 2, ground := Ground.data }], guard := none }) (v := ?_) rfl (by kernel_rfl) (by kernel_rfl) (by kernel_rfl) (fun _ _ _ h => h) (Or.inl ⟨by rfl, ?_⟩) (by assumption) ?_
      case refine_2 =>
        intro w hSw
        (try dsimp only at hSw)
        (try go_simp)
        all_goals (with_reducible rfl)
      (try dsimp only [Act.put]); (try simp only [List.setIfInBounds_toArray, List.set_cons_zero, List.set_cons_succ])
      refine wpAnyH_take (i := 4) (oi := { dst := some 29, op := Op.load 29 (Operand.tmp 28), type := 29, pos := "law.go:50", after := #[{ on := 3, ground := Ground.data }], guard := none }) (v := ?_) rfl (by kernel_rfl) (by kernel_rfl) (by kernel_rfl) (fun _ _ _ h => h) (Or.inl ⟨by rfl, ?_⟩) (by assumption) ?_
      case refine_2 =>
        intro w hSw
        (try dsimp only at hSw)
        (try go_simp)
        all_goals (with_reducible rfl)
      (try dsimp only [Act.put]); (try simp only [List.setIfInBounds_toArray, List.set_cons_zero, List.set_cons_succ])
      refine wpAnyH_ready (rs := [5, 10]) (by kernel_rfl) (by simp) (AllReadyH.cons (o := { dst := some 30, op := Op.call { callee := Callee.value (Operand.func 19), args := #[Operand.tmp 25, Operand.tmp 29], argTypes := #[27, 29] }, type := 38, pos := "law.go:50", after := #[{ on := 0, ground := Ground.data }, { on := 4, ground := Ground.data }], guard := none }) rfl (fun K hK => ?rd1) (AllReadyH.cons (o := { dst := some 6, op := Op.alloc 27, type := 0, pos := "law.go:50", after := #[], guard := none }) rfl (fun K hK => ?rd2) AllReadyH.nil))
      case' rd1 =>
        go_simp
        refine (HM2.out _).mono ?_; rintro e w3 ⟨rfl, hb⟩; (try (have bz := HBZ.out.next hb; obtain ⟨z0, z1, z2, z3⟩ := ppos_cells bz; obtain ⟨f0, f1, f2, f3⟩ := ppos_frozen bz))
        refine hK.out _ _ ?_ (fun hHeld => ?_)
        · first | exact fk_keep hS0 (hHeld.1.trans (hb.mono hHeld.1.size)) | exact fk_keep hS0 (hS1.1.trans (hb.mono hS1.1.size))
        clear hK K
        refine wpAnyH_take (i := 6) (oi := { dst := some 24, op := Op.move (Operand.tmp 30), type := 38, pos := "law.go:50", after := #[{ on := 5, ground := Ground.data }], guard := none }) (v := ?_) rfl (by kernel_rfl) (by kernel_rfl) (by kernel_rfl) (fun _ _ _ h => h) (Or.inl ⟨by rfl, ?_⟩) (by assumption) ?_
        case refine_2 =>
          intro w hSw
          (try dsimp only at hSw)
          (try go_simp)
          all_goals (with_reducible rfl)
        (try dsimp only [Act.put]); (try simp only [List.setIfInBounds_toArray, List.set_cons_zero, List.set_cons_succ])
        refine wpAnyH_take (i := 7) (oi := { dst := some 31, op := Op.extract (Operand.tmp 24) 0, type := 27, pos := "law.go:50", after := #[{ on := 6, ground := Ground.data }], guard := none }) (v := ?_) rfl (by kernel_rfl) (by kernel_rfl) (by kernel_rfl) (fun _ _ _ h => h) (Or.inl ⟨by rfl, ?_⟩) (by assumption) ?_
        case refine_2 =>
          intro w hSw
          (try dsimp only at hSw)
          (try go_simp)
          all_goals (with_reducible rfl)
        (try dsimp only [Act.put]); (try simp only [List.setIfInBounds_toArray, List.set_cons_zero, List.set_cons_succ])
        refine wpAnyH_take (i := 8) (oi := { dst := some 32, op := Op.extract (Operand.tmp 24) 1, type := 5, pos := "law.go:50", after := #[{ on := 6, ground := Ground.data }, { on := 11, ground := Ground.gcOnly Departure.lateStores }], guard := none }) (v := ?_) rfl (by kernel_rfl) (by kernel_rfl) (by kernel_rfl) (fun _ _ _ h => h) (Or.inl ⟨by rfl, ?_⟩) (by assumption) ?_
        case refine_2 =>
          intro w hSw
          (try dsimp only at hSw)
          (try go_simp)
          all_goals (with_reducible rfl)
        (try dsimp only [Act.put]); (try simp only [List.setIfInBounds_toArray, List.set_cons_zero, List.set_cons_succ])
        refine wpAnyH_take (i := 9) (oi := { dst := some 33, op := Op.extract (Operand.tmp 24) 2, type := 37, pos := "law.go:50", after := #[{ on := 6, ground := Ground.data }, { on := 12, ground := Ground.gcOnly Departure.lateStores }], guard := none }) (v := ?_) rfl (by kernel_rfl) (by kernel_rfl) (by kernel_rfl) (fun _ _ _ h => h) (Or.inl ⟨by rfl, ?_⟩) (by assumption) ?_
        case refine_2 =>
          intro w hSw
          (try dsimp only at hSw)
          (try go_simp)
          all_goals (with_reducible rfl)
        (try dsimp only [Act.put]); (try simp only [List.setIfInBounds_toArray, List.set_cons_zero, List.set_cons_succ])
        refine wpAnyH_ready (rs := [10]) (by kernel_rfl) (by simp) (AllReadyH.cons (o := { dst := some 6, op := Op.alloc 27, type := 0, pos := "law.go:50", after := #[], guard := none }) rfl (fun K hK => ?_) AllReadyH.nil)
        go_simp
        refine hK.out _ _ ?_ (fun hHeld => ?_)
        · first | exact fk_keep hS0 (((Below.refl _ wr).alloc (Nat.le_refl _) _).drew) | exact fk_keep hS0 (hHeld.1.alloc hHeld.1.size _)
        clear hK K
        (try dsimp only [Act.put]); (try simp only [List.setIfInBounds_toArray, List.set_cons_zero, List.set_cons_succ])
        refine wpAnyH_ready (rs := [11]) (by kernel_rfl) (by simp) (AllReadyH.cons (o := { dst := none, op := Op.store 27 (Operand.tmp 6) (Operand.tmp 31), type := 0, pos := "law.go:50", after := #[{ on := 10, ground := Ground.data }, { on := 7, ground := Ground.data }, { on := 5, ground := Ground.chain }, { on := 0, ground := Ground.phase }, { on := 1, ground := Ground.phase }, { on := 2, ground := Ground.phase }, { on := 3, ground := Ground.phase }, { on := 4, ground := Ground.phase }, { on := 5, ground := Ground.phase }, { on := 6, ground := Ground.phase }, { on := 7, ground := Ground.phase }, { on := 8, ground := Ground.textOnly Departure.lateStores }, { on := 9, ground := Ground.textOnly Departure.lateStores }, { on := 10, ground := Ground.phase }], guard := none }) rfl (fun K hK => ?_) AllReadyH.nil)
        go_simp
        refine hK.out _ _ ?_ (fun hHeld => ?_)
        · first | exact fk_keep hS0 ((((hHeld.1.setCell (p := ⟨wr.heap.size, 0, none⟩) (Nat.le_refl _) _).setCell (p := ⟨wr.heap.size, 1, none⟩) (Nat.le_refl _) _).setCell (p := ⟨wr.heap.size, 2, none⟩) (Nat.le_refl _) _).setCell (p := ⟨wr.heap.size, 3, none⟩) (Nat.le_refl _) _) | exact fk_keep hS0 ((hS1.1.trans (hb.mono hS1.1.size)).alloc (hS1.1.trans (hb.mono hS1.1.size)).size _)
        clear hK K
        (try dsimp only [Act.put]); (try simp only [List.setIfInBounds_toArray, List.set_cons_zero, List.set_cons_succ])
        refine wpAnyH_take (i := 12) (oi := { dst := some 7, op := Op.assign (Operand.tmp 32), type := 5, pos := "law.go:50", after := #[{ on := 8, ground := Ground.data }, { on := 11, ground := Ground.chain }, { on := 0, ground := Ground.phase }, { on := 1, ground := Ground.phase }, { on := 2, ground := Ground.phase }, { on := 3, ground := Ground.phase }, { on := 4, ground := Ground.phase }, { on := 5, ground := Ground.phase }, { on := 6, ground := Ground.phase }, { on := 7, ground := Ground.phase }, { on := 8, ground := Ground.phase }, { on := 9, ground := Ground.textOnly Departure.lateStores }, { on := 10, ground := Ground.phase }, { on := 11, ground := Ground.phase }], guard := none }) (v := ?_) rfl (by kernel_rfl) (by kernel_rfl) (by kernel_rfl) (fun _ _ _ h => h) (Or.inl ⟨by rfl, ?_⟩) (by assumption) ?_
        case refine_2 =>
          intro w hSw
          (try dsimp only at hSw)
          (try go_simp)
          all_goals (with_reducible rfl)
        (try dsimp only [Act.put]); (try simp only [List.setIfInBounds_toArray, List.set_cons_zero, List.set_cons_succ])
        refine wpAnyH_take (i := 13) (oi := { dst := some 8, op := Op.assign (Operand.tmp 33), type := 37, pos := "law.go:50", after := #[{ on := 9, ground := Ground.data }, { on := 12, ground := Ground.chain }, { on := 0, ground := Ground.phase }, { on := 1, ground := Ground.phase }, { on := 2, ground := Ground.phase }, { on := 3, ground := Ground.phase }, { on := 4, ground := Ground.phase }, { on := 5, ground := Ground.phase }, { on := 6, ground := Ground.phase }, { on := 7, ground := Ground.phase }, { on := 8, ground := Ground.phase }, { on := 9, ground := Ground.phase }, { on := 10, ground := Ground.phase }, { on := 11, ground := Ground.phase }, { on := 12, ground := Ground.phase }], guard := none }) (v := ?_) rfl (by kernel_rfl) (by kernel_rfl) (by kernel_rfl) (fun _ _ _ h => h) (Or.inl ⟨by rfl, ?_⟩) (by assumption) ?_
        case refine_2 =>
          intro w hSw
          (try dsimp only at hSw)
          (try go_simp)
          all_goals (with_reducible rfl)
        (try dsimp only [Act.put]); (try simp only [List.setIfInBounds_toArray, List.set_cons_zero, List.set_cons_succ])
        refine wpAnyH_done (by kernel_rfl) ?_ _
      case' rd2 =>
        go_simp
        refine hK.out _ _ ?_ (fun hHeld => ?_)
        · first | exact fk_keep hS0 (((Below.refl _ wr).alloc (Nat.le_refl _) _).drew) | exact fk_keep hS0 (hHeld.1.alloc hHeld.1.size _)
        clear hK K
        (try dsimp only [Act.put]); (try simp only [List.setIfInBounds_toArray, List.set_cons_zero, List.set_cons_succ])
        refine wpAnyH_ready (rs := [5]) (by kernel_rfl) (by simp) (AllReadyH.cons (o := { dst := some 30, op := Op.call { callee := Callee.value (Operand.func 19), args := #[Operand.tmp 25, Operand.tmp 29], argTypes := #[27, 29] }, type := 38, pos := "law.go:50", after := #[{ on := 0, ground := Ground.data }, { on := 4, ground := Ground.data }], guard := none }) rfl (fun K hK => ?_) AllReadyH.nil)
        go_simp
        refine (HM2.out _).mono ?_; rintro e w3 ⟨rfl, hb⟩; (try (have bz := HBZ.out.next hb; obtain ⟨z0, z1, z2, z3⟩ := ppos_cells bz; obtain ⟨f0, f1, f2, f3⟩ := ppos_frozen bz))
        refine hK.out _ _ ?_ (fun hHeld => ?_)
        · first | exact fk_keep hS0 (hHeld.1.trans (hb.mono hHeld.1.size)) | exact fk_keep hS0 (hS1.1.trans (hb.mono hS1.1.size))
        clear hK K
        refine wpAnyH_take (i := 6) (oi := { dst := some 24, op := Op.move (Operand.tmp 30), type := 38, pos := "law.go:50", after := #[{ on := 5, ground := Ground.data }], guard := none }) (v := ?_) rfl (by kernel_rfl) (by kernel_rfl) (by kernel_rfl) (fun _ _ _ h => h) (Or.inl ⟨by rfl, ?_⟩) (by assumption) ?_
        case refine_2 =>
          intro w hSw
          (try dsimp only at hSw)
          (try go_simp)
          all_goals (with_reducible rfl)
        (try dsimp only [Act.put]); (try simp only [List.setIfInBounds_toArray, List.set_cons_zero, List.set_cons_succ])
        refine wpAnyH_take (i := 7) (oi := { dst := some 31, op := Op.extract (Operand.tmp 24) 0, type := 27, pos := "law.go:50", after := #[{ on := 6, ground := Ground.data }], guard := none }) (v := ?_) rfl (by kernel_rfl) (by kernel_rfl) (by kernel_rfl) (fun _ _ _ h => h) (Or.inl ⟨by rfl, ?_⟩) (by assumption) ?_
        case refine_2 =>
          intro w hSw
          (try dsimp only at hSw)
          (try go_simp)
          all_goals (with_reducible rfl)
        (try dsimp only [Act.put]); (try simp only [List.setIfInBounds_toArray, List.set_cons_zero, List.set_cons_succ])
        refine wpAnyH_take (i := 8) (oi := { dst := some 32, op := Op.extract (Operand.tmp 24) 1, type := 5, pos := "law.go:50", after := #[{ on := 6, ground := Ground.data }, { on := 11, ground := Ground.gcOnly Departure.lateStores }], guard := none }) (v := ?_) rfl (by kernel_rfl) (by kernel_rfl) (by kernel_rfl) (fun _ _ _ h => h) (Or.inl ⟨by rfl, ?_⟩) (by assumption) ?_
        case refine_2 =>
          intro w hSw
          (try dsimp only at hSw)
          (try go_simp)
          all_goals (with_reducible rfl)
        (try dsimp only [Act.put]); (try simp only [List.setIfInBounds_toArray, List.set_cons_zero, List.set_cons_succ])
        refine wpAnyH_take (i := 9) (oi := { dst := some 33, op := Op.extract (Operand.tmp 24) 2, type := 37, pos := "law.go:50", after := #[{ on := 6, ground := Ground.data }, { on := 12, ground := Ground.gcOnly Departure.lateStores }], guard := none }) (v := ?_) rfl (by kernel_rfl) (by kernel_rfl) (by kernel_rfl) (fun _ _ _ h => h) (Or.inl ⟨by rfl, ?_⟩) (by assumption) ?_
        case refine_2 =>
          intro w hSw
          (try dsimp only at hSw)
          (try go_simp)
          all_goals (with_reducible rfl)
        (try dsimp only [Act.put]); (try simp only [List.setIfInBounds_toArray, List.set_cons_zero, List.set_cons_succ])
        refine wpAnyH_ready (rs := [11]) (by kernel_rfl) (by simp) (AllReadyH.cons (o := { dst := none, op := Op.store 27 (Operand.tmp 6) (Operand.tmp 31), type := 0, pos := "law.go:50", after := #[{ on := 10, ground := Ground.data }, { on := 7, ground := Ground.data }, { on := 5, ground := Ground.chain }, { on := 0, ground := Ground.phase }, { on := 1, ground := Ground.phase }, { on := 2, ground := Ground.phase }, { on := 3, ground := Ground.phase }, { on := 4, ground := Ground.phase }, { on := 5, ground := Ground.phase }, { on := 6, ground := Ground.phase }, { on := 7, ground := Ground.phase }, { on := 8, ground := Ground.textOnly Departure.lateStores }, { on := 9, ground := Ground.textOnly Departure.lateStores }, { on := 10, ground := Ground.phase }], guard := none }) rfl (fun K hK => ?_) AllReadyH.nil)
        go_simp
        refine hK.out _ _ ?_ (fun hHeld => ?_)
        · first | exact fk_keep hS0 ((((hHeld.1.setCell (p := ⟨wr.heap.size, 0, none⟩) (Nat.le_refl _) _).setCell (p := ⟨wr.heap.size, 1, none⟩) (Nat.le_refl _) _).setCell (p := ⟨wr.heap.size, 2, none⟩) (Nat.le_refl _) _).setCell (p := ⟨wr.heap.size, 3, none⟩) (Nat.le_refl _) _) | exact fk_keep hS0 ((hS1.1.trans (hb.mono hS1.1.size)).alloc (hS1.1.trans (hb.mono hS1.1.size)).size _)
        clear hK K
        (try dsimp only [Act.put]); (try simp only [List.setIfInBounds_toArray, List.set_cons_zero, List.set_cons_succ])
        refine wpAnyH_take (i := 12) (oi := { dst := some 7, op := Op.assign (Operand.tmp 32), type := 5, pos := "law.go:50", after := #[{ on := 8, ground := Ground.data }, { on := 11, ground := Ground.chain }, { on := 0, ground := Ground.phase }, { on := 1, ground := Ground.phase }, { on := 2, ground := Ground.phase }, { on := 3, ground := Ground.phase }, { on := 4, ground := Ground.phase }, { on := 5, ground := Ground.phase }, { on := 6, ground := Ground.phase }, { on := 7, ground := Ground.phase }, { on := 8, ground := Ground.phase }, { on := 9, ground := Ground.textOnly Departure.lateStores }, { on := 10, ground := Ground.phase }, { on := 11, ground := Ground.phase }], guard := none }) (v := ?_) rfl (by kernel_rfl) (by kernel_rfl) (by kernel_rfl) (fun _ _ _ h => h) (Or.inl ⟨by rfl, ?_⟩) (by assumption) ?_
        case refine_2 =>
          intro w hSw
          (try dsimp only at hSw)
          (try go_simp)
          all_goals (with_reducible rfl)
        (try dsimp only [Act.put]); (try simp only [List.setIfInBounds_toArray, List.set_cons_zero, List.set_cons_succ])
        refine wpAnyH_take (i := 13) (oi := { dst := some 8, op := Op.assign (Operand.tmp 33), type := 37, pos := "law.go:50", after := #[{ on := 9, ground := Ground.data }, { on := 12, ground := Ground.chain }, { on := 0, ground := Ground.phase }, { on := 1, ground := Ground.phase }, { on := 2, ground := Ground.phase }, { on := 3, ground := Ground.phase }, { on := 4, ground := Ground.phase }, { on := 5, ground := Ground.phase }, { on := 6, ground := Ground.phase }, { on := 7, ground := Ground.phase }, { on := 8, ground := Ground.phase }, { on := 9, ground := Ground.phase }, { on := 10, ground := Ground.phase }, { on := 11, ground := Ground.phase }, { on := 12, ground := Ground.phase }], guard := none }) (v := ?_) rfl (by kernel_rfl) (by kernel_rfl) (by kernel_rfl) (fun _ _ _ h => h) (Or.inl ⟨by rfl, ?_⟩) (by assumption) ?_
        case refine_2 =>
          intro w hSw
          (try dsimp only at hSw)
          (try go_simp)
          all_goals (with_reducible rfl)
        (try dsimp only [Act.put]); (try simp only [List.setIfInBounds_toArray, List.set_cons_zero, List.set_cons_succ])
        refine wpAnyH_done (by kernel_rfl) ?_ _
      all_goals
        first
        | (obtain ⟨W4, hW4⟩ : ∃ x, ((((w3.setCell ⟨wr.heap.size, 0, none⟩ (.string q)).setCell ⟨wr.heap.size, 1, none⟩ (.int .i64 o)).setCell ⟨wr.heap.size, 2, none⟩ (.int .i64 ck)).setCell ⟨wr.heap.size, 3, none⟩ (.int .i64 fl)) = x := ⟨_, rfl⟩
           have bQ : Blk W4 wr.heap.size 27 #[.string q, .int .i64 o, .int .i64 ck, .int .i64 fl] := by rw [← hW4]; exact ((((bz.set_ 0 (.string q)).set_ 1 (.int .i64 o)).set_ 2 (.int .i64 ck)).set_ 3 (.int .i64 fl))
           have hb4 : Below wr.heap.size wr W4 := by rw [← hW4]; exact hHeld.1
           rw [hW4]
           clear hW4 bz z0 z1 z2 z3 f0 f1 f2 f3
           generalize wr.heap.size = gq at bQ ⊢)
        | (obtain ⟨W4, hW4⟩ : ∃ x, w3.alloc (.cells #[.string q, .int .i64 o, .int .i64 ck, .int .i64 fl] 27) = x := ⟨_, rfl⟩
           have bQ : Blk W4 w3.heap.size 27 #[.string q, .int .i64 o, .int .i64 ck, .int .i64 fl] := by rw [← hW4]; exact Blk.new _ _ _ rfl
           have hb4 : Below wr.heap.size wr W4 := by rw [← hW4]; exact hHeld.1
           rw [hW4]
           clear hW4
           generalize w3.heap.size = gq at bQ ⊢)
        clear hHeld hb hS1 hS0 HBZ
        have hR4 := hR.trans (hb4.mono hR.size)
        have bP5 := bP3.next hb4
        have hd0 := (hb4.cell (p := ⟨g1, o1 + k * 2, none⟩) (cell_lt hc0)).trans hc0
        have hd1 := (hb4.cell (p := ⟨g1, o1 + k * 2 + 1, none⟩) (cell_lt hc1)).trans hc1
        clear hb4 hc0 hc1
        obtain ⟨p0, p1, p2, p3⟩ := ppos_cells bP5
        obtain ⟨q0, q1, q2, q3⟩ := ppos_cells bQ
        go_wp2_with fail
        have hS : W4.drew.cell? ⟨w.heap.size, 0, none⟩ = some (.string s) ∧ W4.drew.cell? ⟨g1, o1 + k * 2, none⟩ = some (.int .i64 (u : Int)) ∧ W4.drew.cell? ⟨g1, o1 + k * 2 + 1, none⟩ = some (.int .i64 (v : Int)) ∧ W4.drew.cell? ⟨gq, 0, none⟩ = some (.string q) ∧ W4.drew.cell? ⟨gq, 1, none⟩ = some (.int .i64 o) ∧ W4.drew.cell? ⟨gq, 2, none⟩ = some (.int .i64 ck) ∧ W4.drew.cell? ⟨gq, 3, none⟩ = some (.int .i64 fl) ∧ Below w2b.heap.size w2b W4.drew := ⟨p0, hd0, hd1, q0, q1, q2, q3, hR4.drew⟩
        clear p0 p1 p2 p3 q0 q1 q2 q3 hd0 hd1 bQ bP5 hR4
        refine wp_region_held_drew (S := fun W => W.cell? ⟨w.heap.size, 0, none⟩ = some (.string s) ∧ W.cell? ⟨g1, o1 + k * 2, none⟩ = some (.int .i64 (u : Int)) ∧ W.cell? ⟨g1, o1 + k * 2 + 1, none⟩ = some (.int .i64 (v : Int)) ∧ W.cell? ⟨gq, 0, none⟩ = some (.string q) ∧ W.cell? ⟨gq, 1, none⟩ = some (.int .i64 o) ∧ W.cell? ⟨gq, 2, none⟩ = some (.int .i64 ck) ∧ W.cell? ⟨gq, 3, none⟩ = some (.int .i64 fl) ∧ Below w2b.heap.size w2b W) (by kernel_rfl) (hS) (fun hHeld => ?_)
        refine wpAnyH_take (i := 0) (oi := { dst := some 34, op := Op.move (Operand.tmp 4), type := 3, pos := "law.go:51", after := #[], guard := none }) (v := ?_) rfl (by kernel_rfl) (by kernel_rfl) (by kernel_rfl) (fun _ _ _ h => h) (Or.inl ⟨by rfl, ?_⟩) (by assumption) ?_
        case refine_2 =>
          intro w hSw
          (try dsimp only at hSw)
          (try go_simp)
          all_goals (with_reducible rfl)
        (try dsimp only [Act.put]); (try simp only [List.setIfInBounds_toArray, List.set_cons_zero, List.set_cons_succ])
        refine wpAnyH_take (i := 1) (oi := { dst := some 35, op := Op.fieldAddr 27 (Operand.tmp 1) 0, type := 0, pos := "law.go:51", after := #[], guard := none }) (v := ?_) rfl (by kernel_rfl) (by kernel_rfl) (by kernel_rfl) (fun _ _ _ h => h) (Or.inl ⟨by rfl, ?_⟩) (by assumption) ?_
        case refine_2 =>
          intro w hSw
          (try dsimp only at hSw)
          (try go_simp)
          all_goals (with_reducible rfl)
        (try dsimp only [Act.put]); (try simp only [List.setIfInBounds_toArray, List.set_cons_zero, List.set_cons_succ])
        refine wpAnyH_take (i := 2) (oi := { dst := some 36, op := Op.load 9 (Operand.tmp 35), type := 9, pos := "law.go:51", after := #[{ on := 1, ground := Ground.data }], guard := none }) (v := ?_) rfl (by kernel_rfl) (by kernel_rfl) (by kernel_rfl) (fun _ _ _ h => h) (Or.inl ⟨by rfl, ?_⟩) (by assumption) ?_
        case refine_2 =>
          intro w hSw
          (try dsimp only at hSw)
          (try go_simp)
          all_goals (with_reducible rfl)
        (try dsimp only [Act.put]); (try simp only [List.setIfInBounds_toArray, List.set_cons_zero, List.set_cons_succ])
        refine wpAnyH_take (i := 3) (oi := { dst := some 37, op := Op.move (Operand.tmp 3), type := 35, pos := "law.go:51", after := #[], guard := none }) (v := ?_) rfl (by kernel_rfl) (by kernel_rfl) (by kernel_rfl) (fun _ _ _ h => h) (Or.inl ⟨by rfl, ?_⟩) (by assumption) ?_
        case refine_2 =>
          intro w hSw
          (try dsimp only at hSw)
          (try go_simp)
          all_goals (with_reducible rfl)
        (try dsimp only [Act.put]); (try simp only [List.setIfInBounds_toArray, List.set_cons_zero, List.set_cons_succ])
        refine wpAnyH_take (i := 4) (oi := { dst := some 38, op := Op.move (Operand.tmp 5), type := 3, pos := "law.go:51", after := #[], guard := none }) (v := ?_) rfl (by kernel_rfl) (by kernel_rfl) (by kernel_rfl) (fun _ _ _ h => h) (Or.inl ⟨by rfl, ?_⟩) (by assumption) ?_
        case refine_2 =>
          intro w hSw
          (try dsimp only at hSw)
          (try go_simp)
          all_goals (with_reducible rfl)
        (try dsimp only [Act.put]); (try simp only [List.setIfInBounds_toArray, List.set_cons_zero, List.set_cons_succ])
        refine wpAnyH_take (i := 5) (oi := { dst := some 39, op := Op.indexAddr 35 (Operand.tmp 37) (Operand.tmp 38), type := 0, pos := "law.go:51", after := #[{ on := 3, ground := Ground.data }, { on := 4, ground := Ground.data }], guard := none }) (v := ?_) rfl (by kernel_rfl) (by kernel_rfl) (by kernel_rfl) (fun _ _ _ h => h) (Or.inl ⟨by rfl, ?_⟩) (by assumption) ?_
        case refine_2 =>
          intro w hSw
          (try dsimp only at hSw)
          (try go_simp)
          all_goals (with_reducible rfl)
        (try dsimp only [Act.put]); (try simp only [List.setIfInBounds_toArray, List.set_cons_zero, List.set_cons_succ])
        refine wpAnyH_take (i := 6) (oi := { dst := some 40, op := Op.fieldAddr 29 (Operand.tmp 39) 0, type := 0, pos := "law.go:51", after := #[{ on := 5, ground := Ground.data }], guard := none }) (v := ?_) rfl (by kernel_rfl) (by kernel_rfl) (by kernel_rfl) (fun _ _ _ h => h) (Or.inl ⟨by rfl, ?_⟩) (by assumption) ?_
        case refine_2 =>
          intro w hSw
          (try dsimp only at hSw)
          (try go_simp)
          all_goals (with_reducible rfl)
        (try dsimp only [Act.put]); (try simp only [List.setIfInBounds_toArray, List.set_cons_zero, List.set_cons_succ])
        refine wpAnyH_take (i := 7) (oi := { dst := some 41, op := Op.load 3 (Operand.tmp 40), type := 3, pos := "law.go:51", after := #[{ on := 6, ground := Ground.data }], guard := none }) (v := ?_) rfl (by kernel_rfl) (by kernel_rfl) (by kernel_rfl) (fun _ _ _ h => h) (Or.inl ⟨by rfl, ?_⟩) (by assumption) ?_
        case refine_2 =>
          intro w hSw
          (try dsimp only at hSw)
          (try go_simp)
          all_goals (with_reducible rfl)
        (try dsimp only [Act.put]); (try simp only [List.setIfInBounds_toArray, List.set_cons_zero, List.set_cons_succ])
        refine wpAnyH_take (i := 8) (oi := { dst := some 42, op := Op.index 9 (Operand.tmp 36) (Operand.tmp 41), type := 5, pos := "law.go:51", after := #[{ on := 2, ground := Ground.data }, { on := 7, ground := Ground.data }], guard := none }) (v := ?_) rfl (by kernel_rfl) (by kernel_rfl) (by kernel_rfl) (fun _ _ _ h => h) (Or.inl ⟨by rfl, ?_⟩) (by assumption) ?_
        case refine_2 =>
          intro w hSw
          (try dsimp only at hSw)
          (try go_simp)
          all_goals (with_reducible rfl)
        (try dsimp only [Act.put]); (try simp only [List.setIfInBounds_toArray, List.set_cons_zero, List.set_cons_succ])
        refine wpAnyH_take (i := 9) (oi := { dst := some 43, op := Op.move (Operand.tmp 3), type := 35, pos := "law.go:51", after := #[], guard := none }) (v := ?_) rfl (by kernel_rfl) (by kernel_rfl) (by kernel_rfl) (fun _ _ _ h => h) (Or.inl ⟨by rfl, ?_⟩) (by assumption) ?_
        case refine_2 =>
          intro w hSw
          (try dsimp only at hSw)
          (try go_simp)
          all_goals (with_reducible rfl)
        (try dsimp only [Act.put]); (try simp only [List.setIfInBounds_toArray, List.set_cons_zero, List.set_cons_succ])
        refine wpAnyH_take (i := 10) (oi := { dst := some 44, op := Op.move (Operand.tmp 5), type := 3, pos := "law.go:51", after := #[], guard := none }) (v := ?_) rfl (by kernel_rfl) (by kernel_rfl) (by kernel_rfl) (fun _ _ _ h => h) (Or.inl ⟨by rfl, ?_⟩) (by assumption) ?_
        case refine_2 =>
          intro w hSw
          (try dsimp only at hSw)
          (try go_simp)
          all_goals (with_reducible rfl)
        (try dsimp only [Act.put]); (try simp only [List.setIfInBounds_toArray, List.set_cons_zero, List.set_cons_succ])
        refine wpAnyH_take (i := 11) (oi := { dst := some 45, op := Op.indexAddr 35 (Operand.tmp 43) (Operand.tmp 44), type := 0, pos := "law.go:51", after := #[{ on := 9, ground := Ground.data }, { on := 10, ground := Ground.data }], guard := none }) (v := ?_) rfl (by kernel_rfl) (by kernel_rfl) (by kernel_rfl) (fun _ _ _ h => h) (Or.inl ⟨by rfl, ?_⟩) (by assumption) ?_
        case refine_2 =>
          intro w hSw
          (try dsimp only at hSw)
          (try go_simp)
          all_goals (with_reducible rfl)
        (try dsimp only [Act.put]); (try simp only [List.setIfInBounds_toArray, List.set_cons_zero, List.set_cons_succ])
        refine wpAnyH_take (i := 12) (oi := { dst := some 46, op := Op.load 29 (Operand.tmp 45), type := 29, pos := "law.go:51", after := #[{ on := 11, ground := Ground.data }], guard := none }) (v := ?_) rfl (by kernel_rfl) (by kernel_rfl) (by kernel_rfl) (fun _ _ _ h => h) (Or.inl ⟨by rfl, ?_⟩) (by assumption) ?_
        case refine_2 =>
          intro w hSw
          (try dsimp only at hSw)
          (try go_simp)
          all_goals (with_reducible rfl)
        (try dsimp only [Act.put]); (try simp only [List.setIfInBounds_toArray, List.set_cons_zero, List.set_cons_succ])
        refine wpAnyH_take (i := 13) (oi := { dst := some 47, op := Op.move (Operand.tmp 7), type := 5, pos := "law.go:51", after := #[], guard := none }) (v := ?_) rfl (by kernel_rfl) (by kernel_rfl) (by kernel_rfl) (fun _ _ _ h => h) (Or.inl ⟨by rfl, ?_⟩) (by assumption) ?_
        case refine_2 =>
          intro w hSw
          (try dsimp only at hSw)
          (try go_simp)
          all_goals (with_reducible rfl)
        (try dsimp only [Act.put]); (try simp only [List.setIfInBounds_toArray, List.set_cons_zero, List.set_cons_succ])
        refine wpAnyH_take (i := 15) (oi := { dst := some 49, op := Op.load 27 (Operand.tmp 6), type := 27, pos := "law.go:51", after := #[], guard := none }) (v := ?_) rfl (by kernel_rfl) (by kernel_rfl) (by kernel_rfl) (fun _ _ _ h => h) (Or.inl ⟨by rfl, ?_⟩) (by assumption) ?_
        case refine_2 =>
          intro w hSw
          (try dsimp only at hSw)
          (try go_simp)
          all_goals (with_reducible rfl)
        (try dsimp only [Act.put]); (try simp only [List.setIfInBounds_toArray, List.set_cons_zero, List.set_cons_succ])
        refine wpAnyH_ready (rs := [14]) (by kernel_rfl) (by simp) (AllReadyH.cons (o := { dst := some 48, op := Op.call { callee := Callee.value (Operand.func 16), args := #[Operand.tmp 34, Operand.tmp 42, Operand.tmp 46, Operand.tmp 47], argTypes := #[3, 5, 29, 5] }, type := 3, pos := "law.go:51", after := #[{ on := 0, ground := Ground.data }, { on := 8, ground := Ground.data }, { on := 12, ground := Ground.data }, { on := 13, ground := Ground.data }], guard := none }) rfl (fun K hK => ?_) AllReadyH.nil)
        go_simp
        refine (vmoved_is kq c (u : Int) (v : Int) tk B _ HMV.out).mono ?_; rintro e w8 ⟨rfl, hb⟩
        refine hK.out _ _ ?_ (fun hHeld => ?_)
        · first | with_reducible assumption | exact fol_keep (by assumption) hb
        clear hK K
        refine wpAnyH_ready (rs := [16]) (by kernel_rfl) (by simp) (AllReadyH.cons (o := { dst := some 50, op := Op.call { callee := Callee.value (Operand.func 14), args := #[Operand.tmp 49], argTypes := #[27] }, type := 3, pos := "law.go:51", after := #[{ on := 15, ground := Ground.data }, { on := 14, ground := Ground.chain }], guard := none }) rfl (fun K hK => ?_) AllReadyH.nil)
        go_simp
        refine (vof_is q o ck fl B _ (hT2b.next (fol_below hHeld)) HBQ.out).mono ?_; rintro e w8 ⟨rfl, hb⟩
        refine hK.out _ _ ?_ (fun hHeld => ?_)
        · first | with_reducible assumption | exact fol_keep (by assumption) hb
        clear hK K
        refine wpAnyH_take (i := 17) (oi := { dst := some 51, op := Op.binOp BinOp.neq 3 (Operand.tmp 48) (Operand.tmp 50) 3, type := 4, pos := "law.go:51", after := #[{ on := 14, ground := Ground.data }, { on := 16, ground := Ground.data }], guard := none }) (v := ?_) rfl (by kernel_rfl) (by kernel_rfl) (by kernel_rfl) (fun _ _ _ h => h) (Or.inl ⟨by rfl, ?_⟩) (by assumption) ?_
        case refine_2 =>
          intro w hSw
          (try dsimp only at hSw)
          (try go_simp)
          all_goals (with_reducible rfl)
        (try dsimp only [Act.put]); (try simp only [List.setIfInBounds_toArray, List.set_cons_zero, List.set_cons_succ])
        refine wpAnyH_done (by kernel_rfl) ?_ _
        go_wp2_with fail
        go_roundw
        case rel => exact ⟨k + 1, by omega, by go_num, fol_below (by assumption)⟩
        case measure => simp [intOf]; omega
    · obtain rfl : k = m := by omega
      go_wp2_with fail
      refine (live14_any _ (hT.next (hB2b.trans (hR.mono hB2b.size)))).mono ?_
      rintro e w9 ⟨rfl, hb⟩
      go_wp2
      go_ret
      exact ⟨rfl, (hB2b.trans (hR.mono hB2b.size)).trans (hb.mono (hB2b.trans (hR.mono hB2b.size)).size)⟩
theorem walk (s : ByteArray) (side clock full : Int) (w : World) (hT : Tab w) : Calls Tryd.prog 5 #[.agg #[.string s, .int .i64 side, .int .i64 clock, .int .i64 full]] w (Gives w (.bool true)) := by
  by_cases hs : s.size ≤ 200
  · exact small s side clock full w hT hs
  · exact large s side clock full w hT (by omega)
end Go.Proofs.YtkejhebicibjlaaDoor.vfollows
