/- A game that is played as long as it goes on: the code's answer. -/
import Derived.Test.YtbdgbihdhbjljaaGreatDoorJudgeM
import Derived.Test.YtbdgbihdhbjljaaGreatDoorCycleM
namespace Go.Proofs.YtbdgbihdhbjljaaGreatDoor
open Go.RowKit Go.Shelf
open M (S)

/-- What playing answers: a verdict, a row of positions, an error. -/
def GivesJ (w : World) (v : Int × Int) (ls : List Ps) (k : Int) : Ending → World → Prop := fun e w' => ∃ A c, e = .returned (.tuple #[.agg #[.int .i64 v.1, .int .i64 v.2], .slice A ls.length c, .int .i64 k]) ∧ Rd w' A (psL ls) ∧ ls.length ≤ c ∧ Below w.heap.size w w'
theorem play_start (w : World) (s : ByteArray) (y z u : Int) {W0 : World} (hW0 : (w.alloc (.cells #[.string s, .int .i64 y, .int .i64 z, .int .i64 u] 23)).alloc (.cells #[.int .i64 0, .int .i64 0] 27) = W0) :
    Below w.heap.size w W0 ∧ Blk W0 w.heap.size 23 #[.string s, .int .i64 y, .int .i64 z, .int .i64 u] ∧ Blk W0 (w.heap.size + 1) 27 #[.int .i64 0, .int .i64 0] := by
  refine ⟨by rw [← hW0]; exact (by repeat (first | exact Below.refl _ _ | (refine Below.setCell ?_ (by first | omega | (simp; done) | (simp; omega) | (simp at *; omega)) _) | (refine Below.alloc ?_ (by first | omega | (simp; done) | (simp; omega) | (simp at *; omega)) _) | refine Below.drew ?_ | (refine below_drewN ?_ _) | (refine Below.trans ?_ (Below.mono (by assumption) (by first | omega | (simp; done) | (simp; omega) | (simp at *; omega)))))), by rw [← hW0]; exact (Blk.new _ _ _ rfl).alloc _, by rw [← hW0]; exact Blk.new _ _ _ (by simp)⟩
theorem verdict_end1 {W : World} {w : World} {x y : Int} (h : Blk W (w.heap.size + 1) 27 #[.int .i64 x, .int .i64 y]) (hB : Below w.heap.size w W) (k r : Int) : Blk ((W.setCell ⟨w.heap.size + 1, 0, none⟩ (.int .i64 k)).setCell ⟨w.heap.size + 1, 1, none⟩ (.int .i64 r)) (w.heap.size + 1) 27 #[.int .i64 k, .int .i64 r] ∧ Below w.heap.size w ((W.setCell ⟨w.heap.size + 1, 0, none⟩ (.int .i64 k)).setCell ⟨w.heap.size + 1, 1, none⟩ (.int .i64 r)) :=
  ⟨(h.set_ 0 (.int .i64 k)).set_ 1 (.int .i64 r), (hB.setCell (p := ⟨w.heap.size + 1, 0, none⟩) (Nat.le_succ _) _).setCell (p := ⟨w.heap.size + 1, 1, none⟩) (Nat.le_succ _) _⟩
/-- Where the game lies: the positions, the last verdict, the answer's place. -/
structure JudgeAt (W : World) (r base H : Nat) (v : Value) (ls : List Ps) (x : Int × Int) : Prop where
  row : W.ownsRow base 23 4 v ls.length (psL ls)
  vb : Blk W H 27 #[.int .i64 x.1, .int .i64 x.2]
  rb : Blk W r 27 #[.int .i64 0, .int .i64 0]
  ne : ∀ k, v.ownBlock = some k → k ≠ H
theorem JudgeAt.next {W W' : World} {r base H : Nat} {v : Value} {ls : List Ps} {x : Int × Int} (h : JudgeAt W r base H v ls x) (hb : Below W.heap.size W W') : JudgeAt W' r base H v ls x :=
  ⟨own_next h.row hb, h.vb.next hb, h.rb.next hb, h.ne⟩
theorem JudgeAt.app {W4 w5 : World} {r base H : Nat} {v v' : Value} {ls : List Ps} {x : Int × Int} {q : Ps} {o : Obj} (h : JudgeAt W4 r base H v ls x) (hr : r < base)
    (hgrow : (W4.alloc o).grownBy w5 v.ownBlock) (hown : w5.ownsRow base 23 4 v' (ls.length + 1) (psL ls ++ [.string q.s, .int .i64 q.y, .int .i64 q.z, .int .i64 q.u])) (hat : v'.ownBlock = v.ownBlock ∨ v'.ownBlock = some (W4.alloc o).heap.size) :
    JudgeAt w5 r base H v' (ls ++ [q]) x := by
  refine ⟨?_, blk_farY hgrow (h.vb.alloc o) fun e => h.ne H e.symm rfl, blk_farY hgrow (h.rb.alloc o) fun e => ?_, fun k hk e => ?_⟩
  · rw [psL_four] at hown
    rw [List.length_append]
    exact hown
  · have := row_baseY h.row e.symm
    omega
  · subst e
    rcases hat with e | e
    · exact h.ne k (by rw [← e]; exact hk) rfl
    · rw [hk] at e
      injection e with e
      have := h.vb.lt
      rw [World.size_alloc] at e
      omega
theorem JudgeAt.set {W : World} {r base H : Nat} {v : Value} {ls : List Ps} {x : Int × Int} (h : JudgeAt W r base H v ls x) (hr : r ≠ H) (k n : Int) :
    JudgeAt ((W.setCell ⟨H, 0, none⟩ (.int .i64 k)).setCell ⟨H, 1, none⟩ (.int .i64 n)) r base H v ls (k, n) := by
  have n1 : ∀ k, v.ownBlock = some k → H ≠ k := fun k hk e => h.ne k hk e.symm
  refine ⟨row_set2 (row_set2 h.row n1) n1, (h.vb.set_ 0 (.int .i64 k)).set_ 1 (.int .i64 n), ?_, h.ne⟩
  exact (h.rb.far (p := ⟨H, 0, none⟩) hr (.int .i64 k)).far (p := ⟨H, 1, none⟩) hr (.int .i64 n)
theorem play_err {p : Ps} {ms : List (Int × Int)} {k : Nat} {e : Int} (hw : p.well = 0) (h9 : ms.length ≤ 1024) (hk : k ≤ ms.length) (h : (runJ p ms k).1 = e) (he : e ≠ 0) : playE p ms = e ∧ playV p ms = (0, 0) ∧ playL p ms = [] := by
  have h1 : playE p ms = e := by
    rw [playE_run hw h9]
    obtain ⟨d, hd⟩ : ∃ d, ms.length = k + d := ⟨ms.length - k, by omega⟩
    rw [hd, run_err (by rw [h]; exact he) d, h]
  refine ⟨h1, ?_, ?_⟩
  · unfold playV
    rw [if_neg (by rw [h1]; exact he)]
  · unfold playL
    rw [if_neg (by rw [h1]; exact he)]
theorem play_ok {p : Ps} {ms : List (Int × Int)} (hw : p.well = 0) (h9 : ms.length ≤ 1024) (h : (runJ p ms ms.length).1 = 0) : playE p ms = 0 ∧ playV p ms = lastI (runJ p ms ms.length).2 ms ∧ playL p ms = (runJ p ms ms.length).2 := by
  have h1 : playE p ms = 0 := by rw [playE_run hw h9, h]
  refine ⟨h1, ?_, ?_⟩
  · unfold playV
    rw [if_pos h1]
  · unfold playL
    rw [if_pos h1]
set_option maxRecDepth 100000 in
set_option maxHeartbeats 2000000 in
theorem play_bad (p : Ps) (C : Option Addr) (a d : Nat) (w : World) (hT : Tab w) (k : Int) (hk : p.well = k) (h : k ≠ 0) : Calls Tryz.prog 13 #[.agg #[.string p.s, .int .i64 p.y, .int .i64 p.z, .int .i64 p.u], .slice C a d] w (GivesJ w (0, 0) [] k) := by
  unfold GivesJ
  obtain ⟨s, y, z, u⟩ := p
  have hk : wellN s y z u = k := hk
  have HK := Lib.hid hk
  have k0 : (k != 0) = true := by rw [bne_iff_ne]; exact h
  obtain ⟨W0, hW0⟩ : ∃ W0, (w.alloc (.cells #[.string s, .int .i64 y, .int .i64 z, .int .i64 u] 23)).alloc (.cells #[.int .i64 0, .int .i64 0] 27) = W0 := ⟨_, rfl⟩
  obtain ⟨hB0, bP, bV⟩ := play_start w s y z u hW0
  have HW := Lib.hid hW0
  clear hk h hW0
  go_enter Tryz.func13, Tryz.ntmps13
  go_wp2_with fail
  rw [HW.out]
  refine (well_is s y z u k _ (hT.below hB0 hT.lt) HK.out).mono ?_
  rintro e w1 ⟨rfl, hb1⟩
  have hB1 := hB0.trans (hb1.mono hB0.size)
  have bV1 := bV.next hb1
  obtain ⟨q0, q1⟩ := two_cells bV1
  have f0 := bV1.frozen 0
  have f1 := bV1.frozen 1
  clear bP bV hB0 hb1
  go_wp2
  obtain ⟨bE, hE⟩ := verdict_end1 bV1 hB1 0 0
  exact bodyPost_ret (v := .tuple #[.agg #[.int .i64 0, .int .i64 0], .slice none 0 0, .int .i64 k]) (by simp [results, Tryz.results13, go_sem, bE.cell 0, bE.cell 1]) rfl ⟨none, 0, rfl, fun j u hu => by simp [psL] at hu, Nat.le_refl _, hE⟩
set_option maxRecDepth 100000 in
set_option maxHeartbeats 2000000 in
theorem play_full (p : Ps) (C : Option Addr) (a d : Nat) (w : World) (hT : Tab w) (hk : p.well = 0) (h : 1024 < a) : Calls Tryz.prog 13 #[.agg #[.string p.s, .int .i64 p.y, .int .i64 p.z, .int .i64 p.u], .slice C a d] w (GivesJ w (0, 0) [] 8) := by
  unfold GivesJ
  obtain ⟨s, y, z, u⟩ := p
  have hk : wellN s y z u = 0 := hk
  have HK := Lib.hid hk
  have hd : (1024 : Int) < (a : Int) := by omega
  obtain ⟨W0, hW0⟩ : ∃ W0, (w.alloc (.cells #[.string s, .int .i64 y, .int .i64 z, .int .i64 u] 23)).alloc (.cells #[.int .i64 0, .int .i64 0] 27) = W0 := ⟨_, rfl⟩
  obtain ⟨hB0, bP, bV⟩ := play_start w s y z u hW0
  have HW := Lib.hid hW0
  clear hk h hW0
  go_enter Tryz.func13, Tryz.ntmps13
  go_wp2_with fail
  rw [HW.out]
  refine (well_is s y z u 0 _ (hT.below hB0 hT.lt) HK.out).mono ?_
  rintro e w1 ⟨rfl, hb1⟩
  have hB1 := hB0.trans (hb1.mono hB0.size)
  have bV1 := bV.next hb1
  obtain ⟨q0, q1⟩ := two_cells bV1
  have f0 := bV1.frozen 0
  have f1 := bV1.frozen 1
  clear bP bV hB0 hb1
  go_wp2
  obtain ⟨bE, hE⟩ := verdict_end1 bV1 hB1 0 0
  exact bodyPost_ret (v := .tuple #[.agg #[.int .i64 0, .int .i64 0], .slice none 0 0, .int .i64 8]) (by simp [results, Tryz.results13, go_sem, bE.cell 0, bE.cell 1]) rfl ⟨none, 0, rfl, fun j u hu => by simp [psL] at hu, Nat.le_refl _, hE⟩
set_option maxRecDepth 100000 in
set_option maxHeartbeats 8000000 in
theorem play_go (p : Ps) (C : Option Addr) (l : List (Int × Int)) (a d : Nat) (w : World) (hT : Tab w) (hm : Rd w C (mzL l)) (ha : l.length = a) (had : a ≤ d) (hk : p.well = 0) (ha9 : a ≤ 1024) : Calls Tryz.prog 13 #[.agg #[.string p.s, .int .i64 p.y, .int .i64 p.z, .int .i64 p.u], .slice C a d] w (GivesJ w (playV p l) (playL p l) (playE p l)) := by
  unfold GivesJ
  obtain ⟨i0, hi, hz0, hz1, hz2⟩ := info_partsY info_pos4
  have HWL : Hid (p.well = 0) := hk
  have HM := Lib.hid hm
  have HA := Lib.hid ha
  obtain ⟨s, y, z, u⟩ := p
  have hk : wellN s y z u = 0 := hk
  have HK := Lib.hid hk
  have hd : ¬ (1024 : Int) < (a : Int) := by omega
  clear hk hm ha
  obtain ⟨W0, hW0⟩ : ∃ W0, (w.alloc (.cells #[.string s, .int .i64 y, .int .i64 z, .int .i64 u] 23)).alloc (.cells #[.int .i64 0, .int .i64 0] 27) = W0 := ⟨_, rfl⟩
  obtain ⟨hB0, bP, bV⟩ := play_start w s y z u hW0
  have HW := Lib.hid hW0
  clear hW0
  go_enter Tryz.func13, Tryz.ntmps13
  go_wp2_with fail
  rw [HW.out]
  refine (well_is s y z u 0 _ (hT.below hB0 hT.lt) HK.out).mono ?_
  rintro e w1 ⟨rfl, hb1⟩
  have hB1 := hB0.trans (hb1.mono hB0.size)
  have hT1 := hT.below hB1 hT.lt
  have bV1 := bV.next hb1
  have bP1 := bP.next hb1
  obtain ⟨p0, p1, p2, p3⟩ := four_cells bP1
  clear bP bV hB0 hb1
  obtain ⟨W2, hW2⟩ : ∃ W2, w1.alloc (.cells #[.string s, .int .i64 y, .int .i64 z, .int .i64 u] 23) = W2 := ⟨_, rfl⟩
  have HW2 := Lib.hid hW2
  obtain ⟨⟨vk, vr⟩, hvv⟩ : ∃ v, lastI [⟨s, y, z, u⟩] [] = v := ⟨_, rfl⟩
  have HVV := Lib.hid hvv
  have hB2 : Below w.heap.size w W2 := by rw [← hW2]; exact hB1.alloc hB1.size _
  have bL : Blk W2 w1.heap.size 23 #[.string s, .int .i64 y, .int .i64 z, .int .i64 u] := by rw [← hW2]; exact Blk.new _ _ _ rfl
  have HBL : Hid (Blk W2 w1.heap.size 23 #[.string s, .int .i64 y, .int .i64 z, .int .i64 u]) := bL
  have HRL : Hid (Rd W2 (some ⟨w1.heap.size, 0, none⟩) (psL [⟨s, y, z, u⟩])) := fun j v hv => by
    have hadd : Addr.add ⟨w1.heap.size, 0, none⟩ j = ⟨w1.heap.size, j, none⟩ := by
      simp only [Addr.add]
      split <;> simp_all
    refine ⟨_, rfl, ?_⟩
    rw [hadd, bL.cell j]
    rw [← hv, List.getElem?_toArray]
    rfl
  have bV2 : Blk W2 (w.heap.size + 1) 27 #[.int .i64 0, .int .i64 0] := by rw [← hW2]; exact bV1.alloc _
  have hT2 := hT.below hB2 hT.lt
  have HSW : Hid (w1.heap.size < W2.heap.size ∧ w.heap.size + 1 < w1.heap.size) := ⟨bL.lt, bV1.lt⟩
  clear hW2 hvv bV1 bL
  go_wp2_with fail
  rw [HW2.out]
  clear p0 p1 p2 p3
  refine (jlast_is _ none [⟨s, y, z, u⟩] [] 1 1 0 0 vk vr _ hT2 HRL.out rfl (rd_nil _ _) rfl (by decide) (by decide) (by decide) HVV.out).mono ?_
  rintro e w3 ⟨rfl, hb3⟩
  have HSH : Hid (w.heap.size + 1 < w1.heap.size ∧ w1.heap.size ≤ w3.heap.size) := ⟨HSW.out.2, Nat.le_trans (Nat.le_of_lt HSW.out.1) hb3.size⟩
  obtain ⟨W4, hW4⟩ : ∃ W4, w3.alloc (.cells #[.int .i64 vk, .int .i64 vr] 27) = W4 := ⟨_, rfl⟩
  have hJ0 : JudgeAt W4 (w.heap.size + 1) w1.heap.size w3.heap.size (.slice (some ⟨w1.heap.size, 0, none⟩) 1 1) [⟨s, y, z, u⟩] (vk, vr) := by
    have h1 : JudgeAt w3 (w.heap.size + 1) w1.heap.size w3.heap.size (.slice (some ⟨w1.heap.size, 0, none⟩) 1 1) [⟨s, y, z, u⟩] (vk, vr) → JudgeAt W4 (w.heap.size + 1) w1.heap.size w3.heap.size (.slice (some ⟨w1.heap.size, 0, none⟩) 1 1) [⟨s, y, z, u⟩] (vk, vr) := fun h => by rw [← hW4]; exact h.next (below_new _ _)
    have hrow : w3.ownsRow w1.heap.size 23 4 (.slice (some ⟨w1.heap.size, 0, none⟩) 1 1) 1 (psL [⟨s, y, z, u⟩]) := own_next ⟨rfl, .inr ⟨w1.heap.size, 1, _, rfl, Nat.le_refl _, HBL.out, Nat.le_refl _, by unfold maxLen; omega, rfl, rfl⟩⟩ hb3
    refine ⟨by rw [← hW4]; exact own_next hrow (below_new _ _), by rw [← hW4]; exact Blk.new _ _ _ rfl, by rw [← hW4]; exact (bV2.next hb3).alloc _, fun k hk => ?_⟩
    have hk : some w1.heap.size = some k := hk
    injection hk with hk
    have := Nat.lt_of_lt_of_le HSW.out.1 hb3.size
    omega
  have hB4 : Below w.heap.size w W4 := by rw [← hW4]; exact (hB2.trans (hb3.mono hB2.size)).alloc (hB2.trans (hb3.mono hB2.size)).size _
  obtain ⟨H, hH⟩ : ∃ H, w3.heap.size = H := ⟨_, rfl⟩
  obtain ⟨B, hBB⟩ : ∃ B, w1.heap.size = B := ⟨_, rfl⟩
  have HW4 := Lib.hid hW4
  rw [hH, hBB] at hJ0 HSH
  clear hW4 hB2 hT2 hb3 bV2 HRL HBL HSW HW2
  go_wp2_with fail
  rw [HW4.out]
  (try rw [hH])
  (try rw [hBB])
  clear HW4 hH hBB
  go_loopw [8, 31] (fun v i wr => ∃ k : Nat, k ≤ a ∧ i = .int .i64 (k : Int) ∧ (runJ ⟨s, y, z, u⟩ l k).1 = 0 ∧ JudgeAt wr (w.heap.size + 1) B H v (runJ ⟨s, y, z, u⟩ l k).2 (lastI (runJ ⟨s, y, z, u⟩ l k).2 (l.take k)) ∧ Below w.heap.size w wr) (fun _ i _ => a - (intOf i).toNat)
  case atStart => exact ⟨0, Nat.zero_le _, rfl, rfl, by rw [List.take_zero]; show JudgeAt _ _ _ _ _ [_] _; rw [show lastI (runJ ⟨s, y, z, u⟩ l 0).2 [] = (vk, vr) from HVV.out]; exact hJ0, hB4⟩
  case round =>
    clear hJ0 hB4
    obtain ⟨k, hk, rfl, hrun, hJ, hB⟩ := hrel
    have hTr := hT.below hB hT.lt
    have hrl : (runJ ⟨s, y, z, u⟩ l k).2.length = k + 1 := by rw [(run_chain (by rw [HA.out]; exact hk) hrun).len, List.length_take, HA.out]; omega
    obtain ⟨ls, hls⟩ : ∃ x, (runJ ⟨s, y, z, u⟩ l k).2 = x := ⟨_, rfl⟩
    obtain ⟨⟨xk, xr⟩, hx⟩ : ∃ x, lastI (runJ ⟨s, y, z, u⟩ l k).2 (l.take k) = x := ⟨_, rfl⟩
    have HX := Lib.hid hx
    have HLS := Lib.hid hls
    have HRUN := Lib.hid hrun
    rw [hx, hls] at hJ
    rw [hls] at hrl
    have HRL := Lib.hid hrl
    clear hx hls hrun hrl
    have hrow : wr.ownsRow B 23 4 u8 (k + 1) (psL ls) := by have := hJ.row; rw [HRL.out] at this; exact this
    obtain ⟨A1, c1, rfl, hr1, hc1⟩ := own_any hrow
    by_cases hlt : k < a
    · have hkl : k < l.length := by rw [HA.out]; exact hlt
      have bk : (k : Int) < (a : Int) := by omega
      obtain ⟨gC, bC, rfl, m0, m1⟩ := HM.out.mz hkl
      obtain ⟨⟨x1, x2⟩, hxy⟩ : ∃ x, l[k]'hkl = x := ⟨_, rfl⟩
      rw [hxy] at m0 m1
      have HMV : Hid (l[k]? = some (x1, x2)) := by show _ = _; rw [← hxy]; exact List.getElem?_eq_getElem _
      have HTK : Hid (l.take (k + 1) = l.take k ++ [(x1, x2)]) := by show _ = _; rw [List.take_succ_eq_append_getElem hkl, hxy]
      have c0 := (hB.cell (p := ⟨gC, bC + k * 2, none⟩) (cell_lt m0)).trans m0
      have c1' := (hB.cell (p := ⟨gC, bC + k * 2 + 1, none⟩) (cell_lt m1)).trans m1
      have hJ5 := hJ.next (below_new wr (.cells #[iv x1, iv x2] 48))
      have hB5 : Below w.heap.size w (wr.alloc (.cells #[iv x1, iv x2] 48)) := hB.alloc hB.size _
      obtain ⟨v0, v1⟩ := two_cells hJ5.vb
      obtain ⟨r0, r1⟩ := two_cells hJ5.rb
      have f0 := hJ5.rb.frozen 0
      have f1 := hJ5.rb.frozen 1
      clear m0 m1 hxy
      by_cases hx0 : xk = 0
      · subst hx0
        obtain ⟨W5, hW5⟩ : ∃ W5, wr.alloc (.cells #[iv x1, iv x2] 48) = W5 := ⟨_, rfl⟩
        have HW5 := Lib.hid hW5
        have hr5 : Rd W5 A1 (psL ls) := by rw [← hW5]; exact hr1.next (below_new _ _)
        obtain ⟨g, b, rfl, e0, e1, e2, e3⟩ := hr5.ps (k := k) (by rw [HRL.out]; exact Nat.lt_succ_self k)
        have hg5 : wr.heap.size + 1 = W5.heap.size := by rw [← hW5, World.size_alloc]
        have bM : Blk W5 wr.heap.size 48 #[iv x1, iv x2] := by rw [← hW5]; exact Blk.new _ _ _ rfl
        have HJ5 : Hid (JudgeAt W5 (w.heap.size + 1) B H (.slice (some ⟨g, b, none⟩) (k + 1) c1) ls (0, xr)) := by show JudgeAt _ _ _ _ _ _ _; rw [← hW5]; exact hJ5
        have HB5 : Hid (Below w.heap.size w W5) := by show Below _ _ _; rw [← hW5]; exact hB5
        obtain ⟨⟨cs, cy, cz, cu⟩, hcur⟩ : ∃ x, ls[k]'(by rw [HRL.out]; exact Nat.lt_succ_self k) = x := ⟨_, rfl⟩
        rw [hcur] at e0 e1 e2 e3
        have HCUR : Hid (ls[k]? = some ⟨cs, cy, cz, cu⟩) := by show _ = _; rw [← hcur]; exact List.getElem?_eq_getElem _
        obtain ⟨q, qy, qz, qu, tk, er, hV, hcase⟩ := step_value ⟨cs, cy, cz, cu⟩ (x1, x2)
        have hV : makeV cs cy cz cu x1 x2 = .tuple #[.agg #[.string q, .int .i64 qy, .int .i64 qz, .int .i64 qu], .int .u8 tk, .int .i64 er] := hV
        have HV := Lib.hid hV
        have HCASE := Lib.hid hcase
        have HT5 := Lib.hid (hT.below HB5.out hT.lt)
        obtain ⟨d0, d1⟩ := two_cells bM
        have HM2 : Hid (∀ W, Tab W → Calls Tryz.prog 43 #[.agg #[.string cs, .int .i64 cy, .int .i64 cz, .int .i64 cu], .agg #[.int .i64 x1, .int .i64 x2]] W (Gives W (.tuple #[.agg #[.string q, .int .i64 qy, .int .i64 qz, .int .i64 qu], .int .u8 tk, .int .i64 er]))) := fun W h => make_is cs cy cz cu x1 x2 _ W h HV.out
        have hba : Below W5.heap.size W5 (W5.alloc (.cells #[.string ⟨#[]⟩, .int .i64 0, .int .i64 0, .int .i64 0] 23)) := (Below.refl _ _).alloc (Nat.le_refl _) _
        have HBZ : Hid (Blk (W5.alloc (.cells #[.string ⟨#[]⟩, .int .i64 0, .int .i64 0, .int .i64 0] 23)).drew W5.heap.size 23 #[.string ⟨#[]⟩, .int .i64 0, .int .i64 0, .int .i64 0]) := (Blk.new W5 23 #[.string ⟨#[]⟩, .int .i64 0, .int .i64 0, .int .i64 0] rfl).next (Below.refl _ _).drew
        have HBA := Lib.hid hba
        have hal : ∀ (o : Obj) (pl : Addr) (x : Value), W5.cell? pl = some x → (W5.alloc o).cell? pl = some x := fun o pl x h => (((Below.refl W5.heap.size W5).alloc (Nat.le_refl _) o).cell (cell_lt h)).trans h
        have pa0 := fun o => hal o _ _ e0
        have pa1 := fun o => hal o _ _ e1
        have pa2 := fun o => hal o _ _ e2
        have pa3 := fun o => hal o _ _ e3
        have ma0 := fun o => hal o _ _ d0
        have ma1 := fun o => hal o _ _ d1
        have bk2 : (k : Int) < (k : Int) + 1 := by omega
        have bk3 : (k : Int) < ((k + 1 : Nat) : Int) := by omega
        have HR1 := Lib.hid hr1
        have HROW := Lib.hid hrow
        have HJ := Lib.hid hJ
        have HGL : Hid (B ≤ g) := by
          show _ ≤ _
          exact row_baseY hrow rfl
        have HG5 := Lib.hid hg5
        clear hba hal hV hcase hcur hW5 hr1 hrow hJ hJ5 hB5 bM hr5 hc1 hg5
        go_wp2_with fail
        (try rw [HW5.out])
        clear c0 c1' v0 v1 r0 r1 f0 f1
        go_region_with ((go_at_call 43; first
          | (refine (HM2.out W5.drew (HT5.out.next (Below.refl _ _).drew)).mono ?_; rintro e w3 ⟨rfl, hb⟩; obtain ⟨W6, hW6⟩ : ∃ x, w3.alloc (.cells #[.string q, .int .i64 qy, .int .i64 qz, .int .i64 qu] 23) = x := ⟨_, rfl⟩)
          | (refine (HM2.out (W5.alloc (.cells #[.string ⟨#[]⟩, .int .i64 0, .int .i64 0, .int .i64 0] 23)).drew (HT5.out.next HBA.out.drew)).mono ?_; rintro e w3 ⟨rfl, hb⟩; obtain ⟨z0, z1, z2, z3⟩ := four_cells (HBZ.out.next hb); obtain ⟨f0, f1, f2, f3⟩ := four_frozen (HBZ.out.next hb); obtain ⟨W6, hW6⟩ : ∃ x, ((((w3.setCell ⟨W5.heap.size, 0, none⟩ (.string q)).setCell ⟨W5.heap.size, 1, none⟩ (.int .i64 qy)).setCell ⟨W5.heap.size, 2, none⟩ (.int .i64 qz)).setCell ⟨W5.heap.size, 3, none⟩ (.int .i64 qu)) = x := ⟨_, rfl⟩)))
        all_goals
          first
          | (have hb3 : Below W5.heap.size W5 w3 := ((Below.refl W5.heap.size W5).drew).trans hb
             have hgq : W5.heap.size ≤ w3.heap.size := hb3.size
             have hb4 : Below W5.heap.size W5 W6 := by rw [← hW6]; exact hb3.alloc hb3.size _
             have bQ : Blk W6 w3.heap.size 23 #[.string q, .int .i64 qy, .int .i64 qz, .int .i64 qu] := by rw [← hW6]; exact Blk.new _ _ _ rfl
             clear hW6 hb3 hb
             generalize w3.heap.size = gq at bQ hgq ⊢)
          | (have hb3 : Below W5.heap.size W5 w3 := (HBA.out.drew).trans (hb.mono (HBA.out.drew).size)
             have bz := HBZ.out.next hb
             have hb4 : Below W5.heap.size W5 W6 := by rw [← hW6]; exact ((((hb3.setCell (p := ⟨W5.heap.size, 0, none⟩) (Nat.le_refl _) _).setCell (p := ⟨W5.heap.size, 1, none⟩) (Nat.le_refl _) _).setCell (p := ⟨W5.heap.size, 2, none⟩) (Nat.le_refl _) _).setCell (p := ⟨W5.heap.size, 3, none⟩) (Nat.le_refl _) _)
             have bQ : Blk W6 W5.heap.size 23 #[.string q, .int .i64 qy, .int .i64 qz, .int .i64 qu] := by rw [← hW6]; exact ((((bz.set_ 0 (.string q)).set_ 1 (.int .i64 qy)).set_ 2 (.int .i64 qz)).set_ 3 (.int .i64 qu))
             obtain ⟨gq, hgqe⟩ : ∃ gq, W5.heap.size = gq := ⟨_, rfl⟩
             have hgq : W5.heap.size ≤ gq := Nat.le_of_eq hgqe
             clear hW6 hb3 hb bz
             (try clear z0 z1 z2 z3 f0 f1 f2 f3)
             rw [hgqe] at bQ ⊢
             clear hgqe)
          have HJ6 := Lib.hid (HJ5.out.next hb4)
          have HB6 := Lib.hid (HB5.out.trans (hb4.mono HB5.out.size))
          clear pa0 pa1 pa2 pa3 ma0 ma1 e0 e1 e2 e3 d0 d1 hb4 hgq
          rcases HCASE.out with ⟨he, hst⟩ | ⟨he, hst⟩
          · subst he
            have HST := Lib.hid hst
            have hrow6 : W6.ownsRow B 23 4 (.slice (some ⟨g, b, none⟩) (k + 1) c1) (k + 1) (psL ls) := by have := HJ6.out.row; rw [HRL.out] at this; exact this
            have HROW6 := Lib.hid hrow6
            have HSZ : Hid (B ≤ W6.heap.size) := by
              show _ ≤ _
              have := HJ6.out.vb.lt
              have := HSH.out.2
              omega
            obtain ⟨q0, q1, q2, q3⟩ := four_cells bQ
            have w1k : IntKind.i64.wrap ((k : Int) + 1) = (k : Int) + 1 := by rw [IntKind.wrap_i64]; omega
            have w2k : IntKind.i64.wrap ((k : Int) + 2) = (k : Int) + 2 := by rw [IntKind.wrap_i64]; omega
            obtain ⟨⟨nk, nr⟩, hnx⟩ : ∃ x, lastI (ls ++ [⟨q, qy, qz, qu⟩]) (l.take (k + 1)) = x := ⟨_, rfl⟩
            have HNX := Lib.hid hnx
            have HSUC : Hid (runJ ⟨s, y, z, u⟩ l (k + 1) = (0, ls ++ [⟨q, qy, qz, qu⟩])) := by
              show _ = _
              rw [run_go HRUN.out (by rw [HLS.out, ← HLS.out, HX.out]) (by rw [HLS.out]; exact HCUR.out) HMV.out, hst, HLS.out]
            have HLN : Hid ((ls ++ [⟨q, qy, qz, qu⟩] : List Ps).length = k + 2) := by show _ = _; rw [List.length_append, HRL.out]; rfl
            have HTL : Hid ((l.take (k + 1)).length = k + 1) := by show _ = _; rw [List.length_take, HA.out]; omega
            have HTAKE : Hid (Rd w (some ⟨gC, bC, none⟩) (mzL (l.take (k + 1)))) := rd_take HM.out _
            clear hst HCASE hnx hrow6
            go_wp2_with (first
              | (at_builtin; refine wpList_append_own_at _ rfl _ _ 28 rfl B 23 i0 (.agg #[.string ⟨#[]⟩, .int .i64 0, .int .i64 0, .int .i64 0]) 4 40 Tryz.underlying28 hi hz0 hz1 hz2 rfl (by decide) _ _ _ rfl (own_next HROW6.out (below_new _ _)) ⟨W6.heap.size, 0, none⟩ 1 1 [.string q, .int .i64 qy, .int .i64 qz, .int .i64 qu] rfl rfl (cells_four_new _ _ _ _ _ _) (by simp [Value.oneCell']) (by unfold maxLen; omega) (by omega) (by have := HSZ.out; simp; omega) ?_; intro v1' w7 hown' hgrow _ hat; obtain ⟨A9, c9, rfl, hr9, hc9⟩ := own_any hown'))
            have hown9 : w7.ownsRow B 23 4 (.slice A9 (k + 1 + 1) c9) (ls.length + 1) (psL ls ++ [.string q, .int .i64 qy, .int .i64 qz, .int .i64 qu]) := by rw [HRL.out]; exact hown'
            have HJ7 := Lib.hid (HJ6.out.app (q := ⟨q, qy, qz, qu⟩) HSH.out.1 hgrow hown9 hat)
            have HB7 : Hid (Below w.heap.size w w7) := below_app HB6.out (HB6.out.size) (by
              have := HROW6.out
              exact ⟨this.1, by
                rcases this.2 with h | ⟨g', cap, cur, hv, hg, hc⟩
                · exact .inl h
                · exact .inr ⟨g', cap, cur, hv, by have := HSH.out.1; omega, hc⟩⟩) hgrow
            have HR9 : Hid (Rd w7 A9 (psL (ls ++ [⟨q, qy, qz, qu⟩]))) := by show Rd _ _ _; rw [psL_snoc]; exact hr9
            have HT7 := Lib.hid (hT.below HB7.out hT.lt)
            obtain ⟨g9, b9, rfl, -, -⟩ := HR9.out.ps (k := 0) (by rw [HLN.out]; omega)
            clear hown' hgrow hat hr9 hown9 q0 q1 q2 q3 bQ HROW6
            go_wp2_with fail
            have HTK7 : Hid (Rd w7 (some ⟨gC, bC, none⟩) (mzL (l.take (k + 1)))) := HTAKE.out.next HB7.out
            have HRH : Hid (w.heap.size + 1 ≠ H ∧ w.heap.size ≤ H) := ⟨by have := HSH.out; omega, by have := HSH.out; omega⟩
            go_region_with ((go_at_call 41; refine (jlast_is _ _ (ls ++ [⟨q, qy, qz, qu⟩]) (l.take (k + 1)) (k + 2) (k + 2) (k + 1) (k + 1) nk nr w7.drew (HT7.out.next (Below.refl _ _).drew) (HR9.out.next (Below.refl _ _).drew) HLN.out (HTK7.out.next (Below.refl _ _).drew) HTL.out (by omega) (Nat.le_refl _) (Nat.le_refl _) HNX.out).mono ?_; rintro e w8 ⟨rfl, hb8⟩; have HB8 : Hid (Below w7.heap.size w7 w8) := (Below.refl w7.heap.size w7).drew.trans hb8; have HJ8 := Lib.hid (HJ7.out.next HB8.out); obtain ⟨v0, v1⟩ := two_cells HJ8.out.vb; have f0 := HJ8.out.vb.frozen 0; have f1 := HJ8.out.vb.frozen 1; clear hb8))
            have HJ9 := Lib.hid (HJ8.out.set HRH.out.1 nk nr)
            have HB9 : Hid (Below w.heap.size w ((w8.setCell ⟨H, 0, none⟩ (.int .i64 nk)).setCell ⟨H, 1, none⟩ (.int .i64 nr))) := ((HB7.out.trans (HB8.out.mono HB7.out.size)).setCell (p := ⟨H, 0, none⟩) HRH.out.2 _).setCell (p := ⟨H, 1, none⟩) HRH.out.2 _
            go_wp2
            go_roundw
            case rel => exact ⟨k + 1, by omega, by go_num, by rw [HSUC.out], by rw [HSUC.out]; show JudgeAt _ _ _ _ _ (ls ++ [⟨q, qy, qz, qu⟩]) (lastI (ls ++ [⟨q, qy, qz, qu⟩]) (l.take (k + 1))); rw [HNX.out]; exact HJ9.out, HB9.out⟩
            case measure => simp [intOf]; omega
            all_goals exact ⟨⟨k + 1, by omega, by go_num, by rw [HSUC.out], by rw [HSUC.out]; show JudgeAt _ _ _ _ _ (ls ++ [⟨q, qy, qz, qu⟩]) (lastI (ls ++ [⟨q, qy, qz, qu⟩]) (l.take (k + 1))); rw [HNX.out]; exact HJ8.out.set HRH.out.1 nk nr, ((HB7.out.trans (HB8.out.mono HB7.out.size)).setCell (p := ⟨H, 0, none⟩) HRH.out.2 _).setCell (p := ⟨H, 1, none⟩) HRH.out.2 _⟩, by simp [intOf]; omega⟩
          · have e0 : (er != 0) = true := by rw [bne_iff_ne]; exact he
            obtain ⟨r0, r1⟩ := two_cells HJ6.out.rb
            have f0 := HJ6.out.rb.frozen 0
            have f1 := HJ6.out.rb.frozen 1
            obtain ⟨q1, q2, q3⟩ := play_err (p := ⟨s, y, z, u⟩) (ms := l) (k := k + 1) (e := 7) HWL.out (by rw [HA.out]; exact ha9) (by rw [HA.out]; exact hlt) (by rw [run_go HRUN.out (by rw [HLS.out, ← HLS.out, HX.out]) (by rw [HLS.out]; exact HCUR.out) HMV.out, hst]) (by decide)
            have Q1 := Lib.hid q1
            have Q2 := Lib.hid q2
            have Q3 := Lib.hid q3
            clear q1 q2 q3 he hst HCASE
            go_wp2
            rw [Q1.out, Q2.out, Q3.out]
            obtain ⟨bE, hE⟩ := verdict_end1 HJ6.out.rb HB6.out 0 0
            exact bodyPost_ret (v := .tuple #[.agg #[.int .i64 0, .int .i64 0], .slice none 0 0, .int .i64 7]) (by simp [results, Tryz.results13, go_sem, bE.cell 0, bE.cell 1]) rfl ⟨none, 0, rfl, fun j u hu => by simp [psL] at hu, Nat.le_refl _, hE⟩
      · have ex : (xk != 0) = true := by rw [bne_iff_ne]; exact hx0
        obtain ⟨q1, q2, q3⟩ := play_err (p := ⟨s, y, z, u⟩) (ms := l) (k := k + 1) (e := 10) HWL.out (by rw [HA.out]; exact ha9) (by rw [HA.out]; exact hlt) (by rw [run_end HRUN.out (by rw [HLS.out, ← HLS.out, HX.out]; exact hx0)]) (by decide)
        have Q1 := Lib.hid q1
        have Q2 := Lib.hid q2
        have Q3 := Lib.hid q3
        clear q1 q2 q3 hx0
        go_wp2
        rw [Q1.out, Q2.out, Q3.out]
        obtain ⟨bE, hE⟩ := verdict_end1 hJ5.rb hB5 0 0
        exact bodyPost_ret (v := .tuple #[.agg #[.int .i64 0, .int .i64 0], .slice none 0 0, .int .i64 10]) (by simp [results, Tryz.results13, go_sem, bE.cell 0, bE.cell 1]) rfl ⟨none, 0, rfl, fun j u hu => by simp [psL] at hu, Nat.le_refl _, hE⟩
    · obtain rfl : k = a := by omega
      have bk : ¬ (k : Int) < (k : Int) := by omega
      have hl9 : l.take k = l := List.take_of_length_le (by rw [HA.out]; exact Nat.le_refl _)
      obtain ⟨q1, q2, q3⟩ := play_ok (p := ⟨s, y, z, u⟩) (ms := l) HWL.out (by rw [HA.out]; exact ha9) (by rw [HA.out]; exact HRUN.out)
      have Q1 := Lib.hid q1
      have Q2 : Hid (playV ⟨s, y, z, u⟩ l = (xk, xr)) := by
        show _ = _
        rw [q2, HA.out]
        have := HX.out
        rw [hl9] at this
        exact this
      have Q3 : Hid (playL ⟨s, y, z, u⟩ l = ls) := by
        show _ = _
        rw [q3, HA.out]
        exact HLS.out
      obtain ⟨v0, v1⟩ := two_cells hJ.vb
      obtain ⟨r0, r1⟩ := two_cells hJ.rb
      have f0 := hJ.rb.frozen 0
      have f1 := hJ.rb.frozen 1
      clear q1 q2 q3 hl9 hlt hk
      go_wp2
      rw [Q1.out, Q2.out, Q3.out]
      obtain ⟨bE, hE⟩ := verdict_end1 hJ.rb hB xk xr
      have n1 : ∀ k', (Value.slice A1 (k + 1) c1).ownBlock = some k' → w.heap.size + 1 ≠ k' := fun k' hk' => by
        have := row_baseY hrow hk'
        have := HSH.out.1
        omega
      obtain ⟨A9, c9, e9, hr9, hc9⟩ := own_any (row_set2 (u := .int .i64 xr) (i := 1) (row_set2 (u := .int .i64 xk) (i := 0) hrow n1) n1)
      cases e9
      exact bodyPost_ret (v := .tuple #[.agg #[.int .i64 xk, .int .i64 xr], .slice A1 (k + 1) c1, .int .i64 0]) (by simp [results, Tryz.results13, go_sem, bE.cell 0, bE.cell 1]) rfl ⟨A1, c1, by rw [HRL.out], hr9, by rw [HRL.out]; exact hc9, hE⟩
theorem jplay_any (p : Ps) (C : Option Addr) (l : List (Int × Int)) (a d : Nat) (w : World) (hT : Tab w) (hm : Rd w C (mzL l)) (ha : l.length = a) (had : a ≤ d) : Calls Tryz.prog 13 #[.agg #[.string p.s, .int .i64 p.y, .int .i64 p.z, .int .i64 p.u], .slice C a d] w (GivesJ w (playV p l) (playL p l) (playE p l)) := by
  by_cases hk : p.well = 0
  · by_cases h9 : a ≤ 1024
    · exact play_go p C l a d w hT hm ha had hk h9
    · have he : playE p l = 8 := by
        unfold playE
        rw [if_neg (by rw [hk]; simp), if_pos (by omega)]
      have hv : playV p l = (0, 0) := by unfold playV; rw [if_neg (by rw [he]; decide)]
      have hl : playL p l = [] := by unfold playL; rw [if_neg (by rw [he]; decide)]
      rw [he, hv, hl]
      exact play_full p C a d w hT hk (by omega)
  · have he : playE p l = p.well := by unfold playE; rw [if_pos hk]
    have hv : playV p l = (0, 0) := by unfold playV; rw [if_neg (by rw [he]; exact hk)]
    have hl : playL p l = [] := by unfold playL; rw [if_neg (by rw [he]; exact hk)]
    rw [he, hv, hl]
    exact play_bad p C a d w hT _ rfl hk
end Go.Proofs.YtbdgbihdhbjljaaGreatDoor
