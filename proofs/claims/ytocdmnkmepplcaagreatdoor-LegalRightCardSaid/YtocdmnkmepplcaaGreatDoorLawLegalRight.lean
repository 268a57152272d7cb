/- Behind each move that may be made the position is right, and behind no other: the call answers true. -/
import Derived.Test.YtocdmnkmepplcaaGreatDoorLive8M
import Derived.Test.YtocdmnkmepplcaaGreatDoorRefLM
import Derived.Test.YtocdmnkmepplcaaGreatDoorPseudoN
namespace Go.Proofs.YtocdmnkmepplcaaGreatDoor.lright
open Go.RowKit Go.Shelf
open M (S)

theorem has_is (A : Option Addr) (l : List (Nat × Nat)) (n c a b : Nat) (v : Bool) (w : World) (hx : Rd w A (mvs l)) (hn : l.length = n) (hm : n ≤ 1000000) (h : hasM l a b = v) :
    Calls Tryz.prog 17 #[.slice A n c, .agg #[.int .i64 (a : Int), .int .i64 (b : Int)]] w (Gives w (.bool v)) := by subst h; exact has_any A l n c a b w hx hn hm
/-- What is told of each move: what is behind it, and whether that is right. -/
def Each (s : ByteArray) (side clock full : Int) (L : List (Nat × Nat)) (a b : Nat) : Prop :=
  ∃ (q : ByteArray) (y z u : Int) (t : Nat) (er : Int) (r : Bool), applyV s side clock full a b = .tuple #[.agg #[.string q, .int .i64 y, .int .i64 z, .int .i64 u], .int .u8 t, .int .i64 er] ∧ hasM L a b = r ∧ isV s side clock full a b = r ∧ ((er = 7 ∧ r = false) ∨ (er = 0 ∧ ∃ k, wellN q y z u = k ∧ (k == 0) = r))
theorem each_of {s : ByteArray} {side clock full : Int} (hw : wellN s side clock full = 0) {m : Nat × Nat} (h : m ∈ movesV s side clock full) : Each s side clock full (legalV s side clock full) m.1 m.2 := by
  have h1 : isV s side clock full m.1 m.2 = leavesB s side clock full m := by
    unfold isV leavesB
    rw [hw]
    rfl
  have h2 : hasM (legalV s side clock full) m.1 m.2 = leavesB s side clock full m := by
    rw [Bool.eq_iff_iff, hasM_iff, legalV, if_pos hw, List.mem_filter]
    exact ⟨fun h => h.2, fun h2 => ⟨h, h2⟩⟩
  by_cases hg : isM s side m.1 m.2 = true ∧ kindN (bAt s (m.2 : Int).toNat) ≠ 75
  · refine ⟨_, _, _, _, _, _, leavesB s side clock full m, apply_good_value (well_check hw) hg, h2, h1, .inr ⟨rfl, _, rfl, ?_⟩⟩
    exact (leaves_good hg).symm
  · refine ⟨_, _, _, _, 0, _, leavesB s side clock full m, apply_bad_value (well_check hw) hg, h2, h1, .inl ⟨rfl, ?_⟩⟩
    exact leaves_bad hg
theorem lmoves_is (s : ByteArray) (side clock full : Int) (l : List (Nat × Nat)) (n : Nat) (w : World) (hT : Tab w) (h : legalV s side clock full = l) (hn : l.length = n) : Calls Tryz.prog 13 #[.agg #[.string s, .int .i64 side, .int .i64 clock, .int .i64 full]] w (GivesM w l n) := (lmoves_own s side clock full l n w hT h hn).mono fun e w' ⟨v, he, ho, hb⟩ => by
  obtain ⟨A, c, rfl⟩ := owns_slice ho
  exact ⟨A, c, he, Rd.owns ho, hb⟩
theorem rt_keep {g g1 o1 : Nat} {s : ByteArray} {side clock full : Int} {u v : Nat} {A1 : Option Addr} {L : List (Nat × Nat)} {w4 W W' : World}
    (h : W.cell? ⟨g, 0, none⟩ = some (.string s) ∧ W.cell? ⟨g, 1, none⟩ = some (.int .i64 side) ∧ W.cell? ⟨g, 2, none⟩ = some (.int .i64 clock) ∧ W.cell? ⟨g, 3, none⟩ = some (.int .i64 full) ∧ W.cell? ⟨g1, o1, none⟩ = some (.int .i64 (u : Int)) ∧ W.cell? ⟨g1, o1 + 1, none⟩ = some (.int .i64 (v : Int)) ∧ Tab W ∧ Rd W A1 (mvs L) ∧ Below w4.heap.size w4 W) (hb : Below W.heap.size W W') : W'.cell? ⟨g, 0, none⟩ = some (.string s) ∧ W'.cell? ⟨g, 1, none⟩ = some (.int .i64 side) ∧ W'.cell? ⟨g, 2, none⟩ = some (.int .i64 clock) ∧ W'.cell? ⟨g, 3, none⟩ = some (.int .i64 full) ∧ W'.cell? ⟨g1, o1, none⟩ = some (.int .i64 (u : Int)) ∧ W'.cell? ⟨g1, o1 + 1, none⟩ = some (.int .i64 (v : Int)) ∧ Tab W' ∧ Rd W' A1 (mvs L) ∧ Below w4.heap.size w4 W' := by
  obtain ⟨h0, h1, h2, h3, h4, h5, h6, h7, h8⟩ := h
  exact ⟨(hb.cell (p := ⟨g, 0, none⟩) (cell_lt h0)).trans h0, (hb.cell (p := ⟨g, 1, none⟩) (cell_lt h1)).trans h1, (hb.cell (p := ⟨g, 2, none⟩) (cell_lt h2)).trans h2, (hb.cell (p := ⟨g, 3, none⟩) (cell_lt h3)).trans h3, (hb.cell (p := ⟨g1, o1, none⟩) (cell_lt h4)).trans h4, (hb.cell (p := ⟨g1, o1 + 1, none⟩) (cell_lt h5)).trans h5, h6.next hb, h7.next hb, h8.trans (hb.mono h8.size)⟩
theorem rt_tab {g g1 o1 : Nat} {s : ByteArray} {side clock full : Int} {u v : Nat} {A1 : Option Addr} {L : List (Nat × Nat)} {w4 W : World} (h : W.cell? ⟨g, 0, none⟩ = some (.string s) ∧ W.cell? ⟨g, 1, none⟩ = some (.int .i64 side) ∧ W.cell? ⟨g, 2, none⟩ = some (.int .i64 clock) ∧ W.cell? ⟨g, 3, none⟩ = some (.int .i64 full) ∧ W.cell? ⟨g1, o1, none⟩ = some (.int .i64 (u : Int)) ∧ W.cell? ⟨g1, o1 + 1, none⟩ = some (.int .i64 (v : Int)) ∧ Tab W ∧ Rd W A1 (mvs L) ∧ Below w4.heap.size w4 W) : Tab W := h.2.2.2.2.2.2.1
theorem rt_rd {g g1 o1 : Nat} {s : ByteArray} {side clock full : Int} {u v : Nat} {A1 : Option Addr} {L : List (Nat × Nat)} {w4 W : World} (h : W.cell? ⟨g, 0, none⟩ = some (.string s) ∧ W.cell? ⟨g, 1, none⟩ = some (.int .i64 side) ∧ W.cell? ⟨g, 2, none⟩ = some (.int .i64 clock) ∧ W.cell? ⟨g, 3, none⟩ = some (.int .i64 full) ∧ W.cell? ⟨g1, o1, none⟩ = some (.int .i64 (u : Int)) ∧ W.cell? ⟨g1, o1 + 1, none⟩ = some (.int .i64 (v : Int)) ∧ Tab W ∧ Rd W A1 (mvs L) ∧ Below w4.heap.size w4 W) : Rd W A1 (mvs L) := h.2.2.2.2.2.2.2.1
theorem rt_below {g g1 o1 : Nat} {s : ByteArray} {side clock full : Int} {u v : Nat} {A1 : Option Addr} {L : List (Nat × Nat)} {w4 W : World} (h : W.cell? ⟨g, 0, none⟩ = some (.string s) ∧ W.cell? ⟨g, 1, none⟩ = some (.int .i64 side) ∧ W.cell? ⟨g, 2, none⟩ = some (.int .i64 clock) ∧ W.cell? ⟨g, 3, none⟩ = some (.int .i64 full) ∧ W.cell? ⟨g1, o1, none⟩ = some (.int .i64 (u : Int)) ∧ W.cell? ⟨g1, o1 + 1, none⟩ = some (.int .i64 (v : Int)) ∧ Tab W ∧ Rd W A1 (mvs L) ∧ Below w4.heap.size w4 W) : Below w4.heap.size w4 W := h.2.2.2.2.2.2.2.2
set_option maxRecDepth 100000 in
set_option maxHeartbeats 8000000 in
theorem large (s : ByteArray) (side clock full : Int)  (w : World) (hT : Tab w) (hs : 200 < s.size) : Calls Tryz.prog 4 #[.agg #[.string s, .int .i64 side, .int .i64 clock, .int .i64 full]] w (Gives w (.bool true)) := by
  unfold Gives
  have hd : decide (200 < (s.size : Int)) = true := by simp; omega
  clear hs
  go_enter Tryz.func4, Tryz.ntmps4
  go_wp2_with fail
  obtain ⟨W0, hW0⟩ : ∃ W0, w.alloc (.cells #[.string s, .int .i64 side, .int .i64 clock, .int .i64 full] 23) = W0 := ⟨_, rfl⟩
  have hB : Below w.heap.size w W0 := by rw [← hW0]; exact (by repeat (first | exact Below.refl _ _ | (refine Below.setCell ?_ (by first | omega | (simp; done) | (simp; omega) | (simp at *; omega)) _) | (refine Below.alloc ?_ (by first | omega | (simp; done) | (simp; omega) | (simp at *; omega)) _) | refine Below.drew ?_ | (refine below_drewN ?_ _) | (refine Below.trans ?_ (Below.mono (by assumption) (by first | omega | (simp; done) | (simp; omega) | (simp at *; omega))))))
  have bP : Blk W0 w.heap.size 23 #[.string s, .int .i64 side, .int .i64 clock, .int .i64 full] := by rw [← hW0]; exact Blk.new _ _ _ rfl
  replace hT := hT.below hB hT.lt
  rw [hW0]
  clear hW0
  obtain ⟨p0, p1, p2, p3⟩ := ppos_cells bP
  try go_wp2_with fail
  refine (live8_any _ hT).mono ?_
  rintro e w9 ⟨rfl, hb⟩
  go_wp2
  go_ret
  exact ⟨rfl, hB.trans (hb.mono hB.size)⟩
set_option maxRecDepth 100000 in
set_option maxHeartbeats 8000000 in
theorem bad (s : ByteArray) (side clock full : Int)  (w : World) (hT : Tab w) (k : Int) (hs : s.size ≤ 200) (hk : wellN s side clock full = k) (h0 : (k != 0) = true) : Calls Tryz.prog 4 #[.agg #[.string s, .int .i64 side, .int .i64 clock, .int .i64 full]] w (Gives w (.bool true)) := by
  unfold Gives
  have hd : decide (200 < (s.size : Int)) = false := by simp; omega
  have hL : legalV s side clock full = [] := by
    unfold legalV
    rw [if_neg]
    rw [hk]
    simpa using h0
  have HL := Lib.hid hL
  have K := Lib.hid hk
  clear hs hk hL
  go_enter Tryz.func4, Tryz.ntmps4
  go_wp2_with fail
  obtain ⟨W0, hW0⟩ : ∃ W0, w.alloc (.cells #[.string s, .int .i64 side, .int .i64 clock, .int .i64 full] 23) = W0 := ⟨_, rfl⟩
  have hB : Below w.heap.size w W0 := by rw [← hW0]; exact (by repeat (first | exact Below.refl _ _ | (refine Below.setCell ?_ (by first | omega | (simp; done) | (simp; omega) | (simp at *; omega)) _) | (refine Below.alloc ?_ (by first | omega | (simp; done) | (simp; omega) | (simp at *; omega)) _) | refine Below.drew ?_ | (refine below_drewN ?_ _) | (refine Below.trans ?_ (Below.mono (by assumption) (by first | omega | (simp; done) | (simp; omega) | (simp at *; omega))))))
  have bP : Blk W0 w.heap.size 23 #[.string s, .int .i64 side, .int .i64 clock, .int .i64 full] := by rw [← hW0]; exact Blk.new _ _ _ rfl
  replace hT := hT.below hB hT.lt
  rw [hW0]
  clear hW0
  refine (well_is s side clock full k _ hT K.out).mono ?_
  rintro e w2 ⟨rfl, hb⟩
  replace hT := hT.next hb
  replace bP := bP.next hb
  replace hB := hB.trans (hb.mono hB.size)
  clear hb
  obtain ⟨p0, p1, p2, p3⟩ := ppos_cells bP
  go_wp2_with fail
  refine (lmoves_is s side clock full [] 0 _ hT HL.out rfl).mono ?_
  rintro e w3 ⟨A1, k1, rfl, rd, hb⟩
  replace hT := hT.next hb
  replace hB := hB.trans (hb.mono hB.size)
  clear hb bP p0 p1 p2 p3
  go_wp2_with fail
  refine (live8_any _ hT).mono ?_
  rintro e w9 ⟨rfl, hb⟩
  go_wp2
  go_ret
  exact ⟨rfl, hB.trans (hb.mono hB.size)⟩
set_option maxRecDepth 100000 in
set_option maxHeartbeats 8000000 in
theorem good (s : ByteArray) (side clock full : Int)  (w : World) (hT : Tab w) (hs : s.size ≤ 200) (hk : wellN s side clock full = 0) : Calls Tryz.prog 4 #[.agg #[.string s, .int .i64 side, .int .i64 clock, .int .i64 full]] w (Gives w (.bool true)) := by
  unfold Gives
  have hd : decide (200 < (s.size : Int)) = false := by simp; omega
  obtain ⟨L, hL⟩ : ∃ L, legalV s side clock full = L := ⟨_, rfl⟩
  obtain ⟨n, hn⟩ : ∃ n, L.length = n := ⟨_, rfl⟩
  obtain ⟨K, hK⟩ : ∃ K, movesV s side clock full = K := ⟨_, rfl⟩
  obtain ⟨m, hm⟩ : ∃ m, K.length = m := ⟨_, rfl⟩
  have hlen : m ≤ 8100 := by rw [← hm, ← hK]; exact movesV_len s side clock full
  have hle : n ≤ m := by
    rw [← hn, ← hm, ← hL, ← hK]
    unfold legalV
    rw [if_pos hk]
    exact List.length_filter_le _ _
  have hle2 : decide ((n : Int) ≤ (m : Int)) = true := by simp; omega
  have HF : Hid (∀ j (hj : j < K.length), Each s side clock full L K[j].1 K[j].2) := by
    show ∀ j (hj : j < K.length), _
    intro j hj
    rw [← hL]
    exact each_of hk (by rw [hK]; exact List.getElem_mem hj)
  have HL := Lib.hid hL
  have HN := Lib.hid hn
  have HC := Lib.hid hk
  have HK := Lib.hid hK
  have HM := Lib.hid hm
  have HLE : Hid (n ≤ m) := hle
  clear hs hL hn hK hm hk hle
  go_enter Tryz.func4, Tryz.ntmps4
  go_wp2_with fail
  obtain ⟨W0, hW0⟩ : ∃ W0, w.alloc (.cells #[.string s, .int .i64 side, .int .i64 clock, .int .i64 full] 23) = W0 := ⟨_, rfl⟩
  have hB : Below w.heap.size w W0 := by rw [← hW0]; exact (by repeat (first | exact Below.refl _ _ | (refine Below.setCell ?_ (by first | omega | (simp; done) | (simp; omega) | (simp at *; omega)) _) | (refine Below.alloc ?_ (by first | omega | (simp; done) | (simp; omega) | (simp at *; omega)) _) | refine Below.drew ?_ | (refine below_drewN ?_ _) | (refine Below.trans ?_ (Below.mono (by assumption) (by first | omega | (simp; done) | (simp; omega) | (simp at *; omega))))))
  have bP : Blk W0 w.heap.size 23 #[.string s, .int .i64 side, .int .i64 clock, .int .i64 full] := by rw [← hW0]; exact Blk.new _ _ _ rfl
  replace hT := hT.below hB hT.lt
  rw [hW0]
  clear hW0
  refine (well_is s side clock full 0 _ hT HC.out).mono ?_
  rintro e w2 ⟨rfl, hb⟩
  replace hT := hT.next hb
  replace bP := bP.next hb
  replace hB := hB.trans (hb.mono hB.size)
  clear hb
  obtain ⟨p0, p1, p2, p3⟩ := ppos_cells bP
  go_wp2_with fail
  refine (lmoves_is s side clock full L n _ hT HL.out HN.out).mono ?_
  rintro e w3 ⟨A1, k1, rfl, rl, hb⟩
  replace hT := hT.next hb
  replace bP := bP.next hb
  replace hB := hB.trans (hb.mono hB.size)
  clear hb p0 p1 p2 p3
  obtain ⟨p0, p1, p2, p3⟩ := ppos_cells bP
  go_wp2_with fail
  refine (rmoves_is s side clock full K m _ HK.out HM.out).mono ?_
  rintro e w4 ⟨A2, k2, rfl, rd, hb⟩
  have rl4 := rl.next hb
  have hT4 := hT.next hb
  have bP4 := bP.next hb
  have hB4 := hB.trans (hb.mono hB.size)
  clear hb p0 p1 p2 p3 rl hT bP hB
  go_wp2_with fail
  go_loopw [5] (fun i wr => ∃ k : Nat, k ≤ m ∧ i = .int .i64 k ∧ Below w4.heap.size w4 wr) (fun i _ => m - (intOf i).toNat)
  case atStart => exact ⟨0, by omega, rfl, Below.refl _ _⟩
  case round =>
    obtain ⟨k, hk, rfl, hR⟩ := hrel
    by_cases hlt : k < m
    · have hkl : k < K.length := by rw [HM.out]; exact hlt
      obtain ⟨g1, o1, rfl, c0, c1⟩ := rd.move hkl
      obtain ⟨q, y, z, f, t, er, r, h90, h91, h92, h93⟩ := HF.out k hkl
      obtain ⟨⟨u, v⟩, huv⟩ : ∃ x, K[k] = x := ⟨_, rfl⟩
      rw [huv] at c0 c1 h90 h91 h92
      have hc0 := (hR.cell (p := ⟨g1, o1 + k * 2, none⟩) (cell_lt c0)).trans c0
      have hc1 := (hR.cell (p := ⟨g1, o1 + k * 2 + 1, none⟩) (cell_lt c1)).trans c1
      have b2 : (k : Int) < (m : Int) := by omega
      have HV := Lib.hid h90
      have HH : Hid (hasM L u v = r) := h91
      have HI : Hid (isV s side clock full u v = r) := h92
      have HE := Lib.hid h93
      have hT5 := hT4.next hR
      have bP5 := bP4.next hR
      have rl5 := rl4.next hR
      obtain ⟨p0, p1, p2, p3⟩ := ppos_cells bP5
      clear c0 c1 h90 h91 h92 h93 huv
      have HM2 : Hid (∀ W, Calls Tryz.prog 15 #[.agg #[.string s, .int .i64 side, .int .i64 clock, .int .i64 full], .agg #[.int .i64 (u : Int), .int .i64 (v : Int)]] W (Gives W _)) := fun W => rapply_is s side clock full u v _ W HV.out
      have hba : Below wr.heap.size wr (wr.alloc (.cells #[.string ⟨#[]⟩, .int .i64 0, .int .i64 0, .int .i64 0] 23)) := (Below.refl _ _).alloc (Nat.le_refl _) _
      have HBZ : Hid (Blk (wr.alloc (.cells #[.string ⟨#[]⟩, .int .i64 0, .int .i64 0, .int .i64 0] 23)).drew wr.heap.size 23 #[.string ⟨#[]⟩, .int .i64 0, .int .i64 0, .int .i64 0]) := (Blk.new wr 23 #[.string ⟨#[]⟩, .int .i64 0, .int .i64 0, .int .i64 0] rfl).next (Below.refl _ _).drew
      have HBA := Lib.hid hba
      clear hba
      have hal : ∀ (o : Obj) (pl : Addr) (x : Value), wr.cell? pl = some x → (wr.alloc o).cell? pl = some x := fun o pl x h => (((Below.refl wr.heap.size wr).alloc (Nat.le_refl _) o).cell (cell_lt h)).trans h
      have ha0 := fun o => hal o _ _ hc0
      have ha1 := fun o => hal o _ _ hc1
      have pa0 := fun o => hal o _ _ p0
      have pa1 := fun o => hal o _ _ p1
      have pa2 := fun o => hal o _ _ p2
      have pa3 := fun o => hal o _ _ p3
      clear hal
      go_wp2_with fail
      go_region_with ((go_at_call 15; first
        | (refine (HM2.out wr.drew).mono ?_; rintro e w3 ⟨rfl, hb⟩; obtain ⟨W4, hW4⟩ : ∃ x, w3.alloc (.cells #[.string q, .int .i64 y, .int .i64 z, .int .i64 f] 23) = x := ⟨_, rfl⟩)
        | (refine (HM2.out (wr.alloc (.cells #[.string ⟨#[]⟩, .int .i64 0, .int .i64 0, .int .i64 0] 23)).drew).mono ?_; rintro e w3 ⟨rfl, hb⟩; obtain ⟨z0, z1, z2, z3⟩ := ppos_cells (HBZ.out.next hb); obtain ⟨f0, f1, f2, f3⟩ := ppos_frozen (HBZ.out.next hb); obtain ⟨W4, hW4⟩ : ∃ x, ((((w3.setCell ⟨wr.heap.size, 0, none⟩ (.string q)).setCell ⟨wr.heap.size, 1, none⟩ (.int .i64 y)).setCell ⟨wr.heap.size, 2, none⟩ (.int .i64 z)).setCell ⟨wr.heap.size, 3, none⟩ (.int .i64 f)) = x := ⟨_, rfl⟩)))
      all_goals
        first
        | (have hb3 : Below wr.heap.size wr w3 := ((Below.refl wr.heap.size wr).drew).trans hb
           have hb4 : Below wr.heap.size wr W4 := by rw [← hW4]; exact hb3.alloc hb3.size _
           have bQ : Blk W4 w3.heap.size 23 #[.string q, .int .i64 y, .int .i64 z, .int .i64 f] := by rw [← hW4]; exact Blk.new _ _ _ rfl)
        | (have hb3 : Below wr.heap.size wr w3 := (HBA.out.drew).trans (hb.mono (HBA.out.drew).size)
           have bz := HBZ.out.next hb
           have hb4 : Below wr.heap.size wr W4 := by rw [← hW4]; exact ((((hb3.setCell (p := ⟨wr.heap.size, 0, none⟩) (Nat.le_refl _) _).setCell (p := ⟨wr.heap.size, 1, none⟩) (Nat.le_refl _) _).setCell (p := ⟨wr.heap.size, 2, none⟩) (Nat.le_refl _) _).setCell (p := ⟨wr.heap.size, 3, none⟩) (Nat.le_refl _) _)
           have bQ : Blk W4 wr.heap.size 23 #[.string q, .int .i64 y, .int .i64 z, .int .i64 f] := by rw [← hW4]; exact ((((bz.set_ 0 (.string q)).set_ 1 (.int .i64 y)).set_ 2 (.int .i64 z)).set_ 3 (.int .i64 f))
           clear bz)
        clear hb3
        have hR4 := hR.trans (hb4.mono hR.size)
        have hT6 := hT5.next hb4
        have bP6 := bP5.next hb4
        have rl6 := rl5.next hb4
        have hc2 := (hb4.cell (p := ⟨g1, o1 + k * 2, none⟩) (cell_lt hc0)).trans hc0
        have hc3 := (hb4.cell (p := ⟨g1, o1 + k * 2 + 1, none⟩) (cell_lt hc1)).trans hc1
        clear hb hb4 hW4 p0 p1 p2 p3 hc0 hc1 ha0 ha1 pa0 pa1 pa2 pa3
        try clear z0 z1 z2 z3 f0 f1 f2 f3
        obtain ⟨p0, p1, p2, p3⟩ := ppos_cells bP6
        obtain ⟨q0, q1, q2, q3⟩ := ppos_cells bQ
        rcases HE.out with ⟨rfl, rfl⟩ | ⟨rfl, kw, hkw, hkr⟩
        · clear HE
          have hS : W4.drew.cell? ⟨w.heap.size, 0, none⟩ = some (.string s) ∧ W4.drew.cell? ⟨w.heap.size, 1, none⟩ = some (.int .i64 side) ∧ W4.drew.cell? ⟨w.heap.size, 2, none⟩ = some (.int .i64 clock) ∧ W4.drew.cell? ⟨w.heap.size, 3, none⟩ = some (.int .i64 full) ∧ W4.drew.cell? ⟨g1, o1 + k * 2, none⟩ = some (.int .i64 (u : Int)) ∧ W4.drew.cell? ⟨g1, o1 + k * 2 + 1, none⟩ = some (.int .i64 (v : Int)) ∧ Tab W4.drew ∧ Rd W4.drew A1 (mvs L) ∧ Below w4.heap.size w4 W4.drew := ⟨p0, p1, p2, p3, hc2, hc3, hT6.next (Below.refl _ _).drew, rl6.next (Below.refl _ _).drew, hR4.drew⟩
          go_wp2_with fail
          go_region_held3 (fun W => W.cell? ⟨w.heap.size, 0, none⟩ = some (.string s) ∧ W.cell? ⟨w.heap.size, 1, none⟩ = some (.int .i64 side) ∧ W.cell? ⟨w.heap.size, 2, none⟩ = some (.int .i64 clock) ∧ W.cell? ⟨w.heap.size, 3, none⟩ = some (.int .i64 full) ∧ W.cell? ⟨g1, o1 + k * 2, none⟩ = some (.int .i64 (u : Int)) ∧ W.cell? ⟨g1, o1 + k * 2 + 1, none⟩ = some (.int .i64 (v : Int)) ∧ Tab W ∧ Rd W A1 (mvs L) ∧ Below w4.heap.size w4 W)
            (first | exact hS | with_reducible assumption | exact rt_keep (by assumption) hb)
            (first
              | (go_at_call 17; refine (has_is _ L n _ u v false _ ?_ HN.out ?_ HH.out).mono ?_; (exact rt_rd (by assumption)); (exact Nat.le_trans HLE.out (by omega)); rintro e w8 ⟨rfl, hb⟩)
              | (go_at_call 11; refine (lis_is s side clock full u v false _ ?_ HI.out).mono ?_; (exact rt_tab (by assumption)); rintro e w9 ⟨rfl, hb⟩))
          all_goals go_wp2_with fail
          all_goals
            go_roundw
            case rel => exact ⟨k + 1, by omega, by go_num, rt_below (by assumption)⟩
            case measure => simp [intOf]; omega
        · clear HE
          have HKW := Lib.hid hkw
          clear hkw
          go_wp2_with fail
          refine (rwell_is q y z f kw _ HKW.out).mono ?_
          rintro e w5 ⟨rfl, hb⟩
          have hR5 := hR4.trans (hb.mono hR4.size)
          have hT7 := hT6.next hb
          have bP7 := bP6.next hb
          have rl7 := rl6.next hb
          have hc4 := (hb.cell (p := ⟨g1, o1 + k * 2, none⟩) (cell_lt hc2)).trans hc2
          have hc5 := (hb.cell (p := ⟨g1, o1 + k * 2 + 1, none⟩) (cell_lt hc3)).trans hc3
          clear hb p0 p1 p2 p3 q0 q1 q2 q3 hc2 hc3 rl6 hR4 hT6 bP6 bQ
          obtain ⟨p0, p1, p2, p3⟩ := ppos_cells bP7
          have hS : w5.drew.cell? ⟨w.heap.size, 0, none⟩ = some (.string s) ∧ w5.drew.cell? ⟨w.heap.size, 1, none⟩ = some (.int .i64 side) ∧ w5.drew.cell? ⟨w.heap.size, 2, none⟩ = some (.int .i64 clock) ∧ w5.drew.cell? ⟨w.heap.size, 3, none⟩ = some (.int .i64 full) ∧ w5.drew.cell? ⟨g1, o1 + k * 2, none⟩ = some (.int .i64 (u : Int)) ∧ w5.drew.cell? ⟨g1, o1 + k * 2 + 1, none⟩ = some (.int .i64 (v : Int)) ∧ Tab w5.drew ∧ Rd w5.drew A1 (mvs L) ∧ Below w4.heap.size w4 w5.drew := ⟨p0, p1, p2, p3, hc4, hc5, hT7.next (Below.refl _ _).drew, rl7.next (Below.refl _ _).drew, hR5.drew⟩
          cases r
          · go_wp2_with fail
            go_region_held3 (fun W => W.cell? ⟨w.heap.size, 0, none⟩ = some (.string s) ∧ W.cell? ⟨w.heap.size, 1, none⟩ = some (.int .i64 side) ∧ W.cell? ⟨w.heap.size, 2, none⟩ = some (.int .i64 clock) ∧ W.cell? ⟨w.heap.size, 3, none⟩ = some (.int .i64 full) ∧ W.cell? ⟨g1, o1 + k * 2, none⟩ = some (.int .i64 (u : Int)) ∧ W.cell? ⟨g1, o1 + k * 2 + 1, none⟩ = some (.int .i64 (v : Int)) ∧ Tab W ∧ Rd W A1 (mvs L) ∧ Below w4.heap.size w4 W)
              (first | exact hS | with_reducible assumption | exact rt_keep (by assumption) hb)
              (first
                | (go_at_call 17; refine (has_is _ L n _ u v false _ ?_ HN.out ?_ HH.out).mono ?_; (exact rt_rd (by assumption)); (exact Nat.le_trans HLE.out (by omega)); rintro e w8 ⟨rfl, hb⟩)
                | (go_at_call 11; refine (lis_is s side clock full u v false _ ?_ HI.out).mono ?_; (exact rt_tab (by assumption)); rintro e w9 ⟨rfl, hb⟩))
            all_goals go_wp2_with fail
            all_goals
              go_roundw
              case rel => exact ⟨k + 1, by omega, by go_num, rt_below (by assumption)⟩
              case measure => simp [intOf]; omega
          · go_wp2_with fail
            go_region_held3 (fun W => W.cell? ⟨w.heap.size, 0, none⟩ = some (.string s) ∧ W.cell? ⟨w.heap.size, 1, none⟩ = some (.int .i64 side) ∧ W.cell? ⟨w.heap.size, 2, none⟩ = some (.int .i64 clock) ∧ W.cell? ⟨w.heap.size, 3, none⟩ = some (.int .i64 full) ∧ W.cell? ⟨g1, o1 + k * 2, none⟩ = some (.int .i64 (u : Int)) ∧ W.cell? ⟨g1, o1 + k * 2 + 1, none⟩ = some (.int .i64 (v : Int)) ∧ Tab W ∧ Rd W A1 (mvs L) ∧ Below w4.heap.size w4 W)
              (first | exact hS | with_reducible assumption | exact rt_keep (by assumption) hb)
              (first
                | (go_at_call 17; refine (has_is _ L n _ u v true _ ?_ HN.out ?_ HH.out).mono ?_; (exact rt_rd (by assumption)); (exact Nat.le_trans HLE.out (by omega)); rintro e w8 ⟨rfl, hb⟩)
                | (go_at_call 11; refine (lis_is s side clock full u v true _ ?_ HI.out).mono ?_; (exact rt_tab (by assumption)); rintro e w9 ⟨rfl, hb⟩))
            all_goals go_wp2_with fail
            all_goals
              go_roundw
              case rel => exact ⟨k + 1, by omega, by go_num, rt_below (by assumption)⟩
              case measure => simp [intOf]; omega
    · obtain rfl : k = m := by omega
      go_wp2_with fail
      refine (live8_any _ (hT4.next hR)).mono ?_
      rintro e w9 ⟨rfl, hb⟩
      go_wp2
      go_ret
      exact ⟨rfl, (hB4.trans (hR.mono hB4.size)).trans (hb.mono (hB4.trans (hR.mono hB4.size)).size)⟩
theorem walk (s : ByteArray) (side clock full : Int) (w : World) (hT : Tab w) : Calls Tryz.prog 4 #[.agg #[.string s, .int .i64 side, .int .i64 clock, .int .i64 full]] w (Gives w (.bool true)) := by
  by_cases hs : s.size ≤ 200
  · by_cases hk : wellN s side clock full = 0
    · exact good s side clock full w hT hs hk
    · exact bad s side clock full w hT _ hs rfl (by rw [bne_iff_ne]; exact hk)
  · exact large s side clock full w hT (by omega)
end Go.Proofs.YtocdmnkmepplcaaGreatDoor.lright
