/- Any command's line, or that there is none: the call answers true. -/
import Derived.Test.YtpogpjebhnoncabGreatDoorLineO
namespace Go.Proofs.YtpogpjebhnoncabGreatDoor.lwrites
open Go.RowKit Go.Shelf Go.Proofs.YtpogpjebhnoncabGreatDoor.Ln
open M (S)

set_option maxRecDepth 100000 in
set_option maxHeartbeats 8000000 in
theorem own_is (k x y z d : Int) (s : ByteArray) (A : Option Addr) (n c : Nat) (w : World) : Calls Tryz.prog 10 #[.agg #[.int .i64 k, .string s, .int .i64 x, .int .i64 y, .int .i64 z, .slice A n c, .int .i64 d]] w (Gives w (.agg #[.int .i64 k, .string s, .int .i64 x, .int .i64 y, .int .i64 z, .slice A n c, .int .i64 d])) := by
  unfold Gives
  go_enter Tryz.func10, Tryz.ntmps10
  go_wp2
  have hB : Below w.heap.size w ((w.alloc (.cells #[.int .i64 k, .string s, .int .i64 x, .int .i64 y, .int .i64 z, .slice A n c, .int .i64 d] 26)).alloc (.cells #[.int .i64 k, .string s, .int .i64 x, .int .i64 y, .int .i64 z, .slice A n c, .int .i64 d] 29)) := (by repeat (first | exact Below.refl _ _ | (refine Below.setCell ?_ (by first | omega | (simp; done) | (simp; omega) | (simp at *; omega)) _) | (refine Below.alloc ?_ (by first | omega | (simp; done) | (simp; omega) | (simp at *; omega)) _) | refine Below.drew ?_ | (refine below_drewN ?_ _) | (refine Below.trans ?_ (Below.mono (by assumption) (by first | omega | (simp; done) | (simp; omega) | (simp at *; omega))))))
  refine bodyPost_ret (v := .agg #[.int .i64 k, .string s, .int .i64 x, .int .i64 y, .int .i64 z, .slice A n c, .int .i64 d]) (by simp [results, Tryz.results10, go_sem]) rfl ⟨rfl, hB⟩
theorem keepO {c : Cmd} {A : Option Addr} {n cap : Nat} {w : World} {a0 a1 a2 : Addr} {W W' : World} (h : W.cell? ⟨w.heap.size, 0, none⟩ = some (.int .i64 c.k) ∧ W.cell? ⟨w.heap.size, 1, none⟩ = some (.string (bs c.p.cells)) ∧ W.cell? ⟨w.heap.size, 2, none⟩ = some (.int .i64 c.p.side) ∧ W.cell? ⟨w.heap.size, 3, none⟩ = some (.int .i64 c.p.clock) ∧ W.cell? ⟨w.heap.size, 4, none⟩ = some (.int .i64 c.p.full) ∧ W.cell? ⟨w.heap.size, 5, none⟩ = some (.slice A n cap) ∧ W.cell? ⟨w.heap.size, 6, none⟩ = some (.int .i64 c.d) ∧ RdM W A c.l ∧ Env W ∧ Errs W a0 a1 a2 ∧ Below w.heap.size w W) (hb : Below W.heap.size W W') : W'.cell? ⟨w.heap.size, 0, none⟩ = some (.int .i64 c.k) ∧ W'.cell? ⟨w.heap.size, 1, none⟩ = some (.string (bs c.p.cells)) ∧ W'.cell? ⟨w.heap.size, 2, none⟩ = some (.int .i64 c.p.side) ∧ W'.cell? ⟨w.heap.size, 3, none⟩ = some (.int .i64 c.p.clock) ∧ W'.cell? ⟨w.heap.size, 4, none⟩ = some (.int .i64 c.p.full) ∧ W'.cell? ⟨w.heap.size, 5, none⟩ = some (.slice A n cap) ∧ W'.cell? ⟨w.heap.size, 6, none⟩ = some (.int .i64 c.d) ∧ RdM W' A c.l ∧ Env W' ∧ Errs W' a0 a1 a2 ∧ Below w.heap.size w W' :=
  ⟨(hb.cell (cell_lt h.1)).trans h.1, (hb.cell (cell_lt h.2.1)).trans h.2.1, (hb.cell (cell_lt h.2.2.1)).trans h.2.2.1, (hb.cell (cell_lt h.2.2.2.1)).trans h.2.2.2.1, (hb.cell (cell_lt h.2.2.2.2.1)).trans h.2.2.2.2.1, (hb.cell (cell_lt h.2.2.2.2.2.1)).trans h.2.2.2.2.2.1, (hb.cell (cell_lt h.2.2.2.2.2.2.1)).trans h.2.2.2.2.2.2.1, h.2.2.2.2.2.2.2.1.next hb, h.2.2.2.2.2.2.2.2.1.next hb, h.2.2.2.2.2.2.2.2.2.1.next hb, h.2.2.2.2.2.2.2.2.2.2.trans (hb.mono h.2.2.2.2.2.2.2.2.2.2.size)⟩
set_option maxRecDepth 100000 in
set_option maxHeartbeats 8000000 in
theorem many (c : Cmd) (A : Option Addr) (n cap : Nat) {w : World} {a0 a1 a2 : Addr} (hE : Env w) (hR : Errs w a0 a1 a2) (_hr : RdM w A c.l) (_hn : c.l.length = n) (h60 : 60 < n) : Calls Tryz.prog 3 #[.agg #[.int .i64 c.k, .string (bs c.p.cells), .int .i64 c.p.side, .int .i64 c.p.clock, .int .i64 c.p.full, .slice A n cap, .int .i64 c.d]] w (Gives w (.bool true)) := by
  unfold Gives
  obtain ⟨W0, hW0⟩ : ∃ W0, w.alloc (.cells #[.int .i64 c.k, .string (bs c.p.cells), .int .i64 c.p.side, .int .i64 c.p.clock, .int .i64 c.p.full, .slice A n cap, .int .i64 c.d] 26) = W0 := ⟨_, rfl⟩
  have hB0 : Below w.heap.size w W0 := by rw [← hW0]; exact (by repeat (first | exact Below.refl _ _ | (refine Below.setCell ?_ (by first | omega | (simp; done) | (simp; omega) | (simp at *; omega)) _) | (refine Below.alloc ?_ (by first | omega | (simp; done) | (simp; omega) | (simp at *; omega)) _) | refine Below.drew ?_ | (refine below_drewN ?_ _) | (refine Below.trans ?_ (Below.mono (by assumption) (by first | omega | (simp; done) | (simp; omega) | (simp at *; omega))))))
  have bP : Blk W0 w.heap.size 26 #[.int .i64 c.k, .string (bs c.p.cells), .int .i64 c.p.side, .int .i64 c.p.clock, .int .i64 c.p.full, .slice A n cap, .int .i64 c.d] := by rw [← hW0]; exact Blk.new _ _ _ rfl
  obtain ⟨c0, c1, c2, c3, c4, c5, c6⟩ := c_cells bP
  have hd1 : decide ((60 : Int) < (n : Int)) = true := by simp; omega
  have HL := Lib.hid (live23_any (hE.next hB0) (hR.next hB0))
  go_enter Tryz.func3, Tryz.ntmps3
  go_wp2_with fail
  refine HL.out.mono ?_
  rintro e w1 ⟨rfl, hb1⟩
  go_wp2_with fail
  go_ret
  exact ⟨rfl, hB0.trans (hb1.mono hB0.size)⟩
set_option maxRecDepth 100000 in
set_option maxHeartbeats 8000000 in
theorem long (c : Cmd) (A : Option Addr) (n cap : Nat) {w : World} {a0 a1 a2 : Addr} (hE : Env w) (hR : Errs w a0 a1 a2) (_hr : RdM w A c.l) (hn : c.l.length = n) (h60 : ¬ 60 < n) (h200 : 200 < (bs c.p.cells).size) : Calls Tryz.prog 3 #[.agg #[.int .i64 c.k, .string (bs c.p.cells), .int .i64 c.p.side, .int .i64 c.p.clock, .int .i64 c.p.full, .slice A n cap, .int .i64 c.d]] w (Gives w (.bool true)) := by
  unfold Gives
  obtain ⟨W0, hW0⟩ : ∃ W0, w.alloc (.cells #[.int .i64 c.k, .string (bs c.p.cells), .int .i64 c.p.side, .int .i64 c.p.clock, .int .i64 c.p.full, .slice A n cap, .int .i64 c.d] 26) = W0 := ⟨_, rfl⟩
  have hB0 : Below w.heap.size w W0 := by rw [← hW0]; exact (by repeat (first | exact Below.refl _ _ | (refine Below.setCell ?_ (by first | omega | (simp; done) | (simp; omega) | (simp at *; omega)) _) | (refine Below.alloc ?_ (by first | omega | (simp; done) | (simp; omega) | (simp at *; omega)) _) | refine Below.drew ?_ | (refine below_drewN ?_ _) | (refine Below.trans ?_ (Below.mono (by assumption) (by first | omega | (simp; done) | (simp; omega) | (simp at *; omega))))))
  have bP : Blk W0 w.heap.size 26 #[.int .i64 c.k, .string (bs c.p.cells), .int .i64 c.p.side, .int .i64 c.p.clock, .int .i64 c.p.full, .slice A n cap, .int .i64 c.d] := by rw [← hW0]; exact Blk.new _ _ _ rfl
  obtain ⟨c0, c1, c2, c3, c4, c5, c6⟩ := c_cells bP
  have hd1 : decide ((60 : Int) < (n : Int)) = false := by simp; omega
  have hd2 : decide ((200 : Int) < ((bs c.p.cells).size : Int)) = true := by simp; omega
  have HL := Lib.hid (live23_any (hE.next hB0) (hR.next hB0))
  go_enter Tryz.func3, Tryz.ntmps3
  go_wp2_with fail
  refine HL.out.mono ?_
  rintro e w1 ⟨rfl, hb1⟩
  go_wp2_with fail
  go_ret
  exact ⟨rfl, hB0.trans (hb1.mono hB0.size)⟩
set_option maxRecDepth 100000 in
set_option maxHeartbeats 8000000 in
theorem both (c : Cmd) (A : Option Addr) (n cap : Nat) {w : World} {a0 a1 a2 : Addr} (hE : Env w) (hR : Errs w a0 a1 a2) (hr : RdM w A c.l) (hn : c.l.length = n) (h60 : ¬ 60 < n) (h200 : ¬ 200 < (bs c.p.cells).size) : Calls Tryz.prog 3 #[.agg #[.int .i64 c.k, .string (bs c.p.cells), .int .i64 c.p.side, .int .i64 c.p.clock, .int .i64 c.p.full, .slice A n cap, .int .i64 c.d]] w (Gives w (.bool true)) := by
  unfold Gives
  obtain ⟨W0, hW0⟩ : ∃ W0, w.alloc (.cells #[.int .i64 c.k, .string (bs c.p.cells), .int .i64 c.p.side, .int .i64 c.p.clock, .int .i64 c.p.full, .slice A n cap, .int .i64 c.d] 26) = W0 := ⟨_, rfl⟩
  have hB0 : Below w.heap.size w W0 := by rw [← hW0]; exact (by repeat (first | exact Below.refl _ _ | (refine Below.setCell ?_ (by first | omega | (simp; done) | (simp; omega) | (simp at *; omega)) _) | (refine Below.alloc ?_ (by first | omega | (simp; done) | (simp; omega) | (simp at *; omega)) _) | refine Below.drew ?_ | (refine below_drewN ?_ _) | (refine Below.trans ?_ (Below.mono (by assumption) (by first | omega | (simp; done) | (simp; omega) | (simp at *; omega))))))
  have bP : Blk W0 w.heap.size 26 #[.int .i64 c.k, .string (bs c.p.cells), .int .i64 c.p.side, .int .i64 c.p.clock, .int .i64 c.p.full, .slice A n cap, .int .i64 c.d] := by rw [← hW0]; exact Blk.new _ _ _ rfl
  obtain ⟨c0, c1, c2, c3, c4, c5, c6⟩ := c_cells bP
  have hd1 : decide ((60 : Int) < (n : Int)) = false := by simp; omega
  have hd2 : decide ((200 : Int) < ((bs c.p.cells).size : Int)) = false := by simp; omega
  have HO := Lib.hid fun (W : World) => own_is c.k c.p.side c.p.clock c.p.full c.d (bs c.p.cells) A n cap W
  obtain ⟨t, ht⟩ : ∃ t, printC c = t := ⟨_, rfl⟩
  have HP := Lib.hid fun (W : World) (h1 : Env W) (h2 : RdM W A c.l) => printL_any c A n cap W h1 h2 hn (by omega)
  have HQ := Lib.hid fun (W : World) (h2 : RdM W A c.l) => rprintC_any c A n cap W h2 hn (by omega)
  rw [ht] at HP HQ
  have htt : ((bs t).toList == (bs t).toList) = true := beq_self_eq_true _
  have hS0 : W0.cell? ⟨w.heap.size, 0, none⟩ = some (.int .i64 c.k) ∧ W0.cell? ⟨w.heap.size, 1, none⟩ = some (.string (bs c.p.cells)) ∧ W0.cell? ⟨w.heap.size, 2, none⟩ = some (.int .i64 c.p.side) ∧ W0.cell? ⟨w.heap.size, 3, none⟩ = some (.int .i64 c.p.clock) ∧ W0.cell? ⟨w.heap.size, 4, none⟩ = some (.int .i64 c.p.full) ∧ W0.cell? ⟨w.heap.size, 5, none⟩ = some (.slice A n cap) ∧ W0.cell? ⟨w.heap.size, 6, none⟩ = some (.int .i64 c.d) ∧ RdM W0 A c.l ∧ Env W0 ∧ Errs W0 a0 a1 a2 ∧ Below w.heap.size w W0 := ⟨c0, c1, c2, c3, c4, c5, c6, hr.next hB0, hE.next hB0, hR.next hB0, hB0⟩
  have hS := keepO hS0 (Below.refl _ _).drew
  have PO : ∀ {W : World}, (W.cell? ⟨w.heap.size, 0, none⟩ = some (.int .i64 c.k) ∧ W.cell? ⟨w.heap.size, 1, none⟩ = some (.string (bs c.p.cells)) ∧ W.cell? ⟨w.heap.size, 2, none⟩ = some (.int .i64 c.p.side) ∧ W.cell? ⟨w.heap.size, 3, none⟩ = some (.int .i64 c.p.clock) ∧ W.cell? ⟨w.heap.size, 4, none⟩ = some (.int .i64 c.p.full) ∧ W.cell? ⟨w.heap.size, 5, none⟩ = some (.slice A n cap) ∧ W.cell? ⟨w.heap.size, 6, none⟩ = some (.int .i64 c.d) ∧ RdM W A c.l ∧ Env W ∧ Errs W a0 a1 a2 ∧ Below w.heap.size w W) → Calls Tryz.prog 9 #[.agg #[.int .i64 c.k, .string (bs c.p.cells), .int .i64 c.p.side, .int .i64 c.p.clock, .int .i64 c.p.full, .slice A n cap, .int .i64 c.d]] W (Gives W (.string (bs t))) := fun h => HP.out _ h.2.2.2.2.2.2.2.2.1 h.2.2.2.2.2.2.2.1
  have QO : ∀ {W : World}, (W.cell? ⟨w.heap.size, 0, none⟩ = some (.int .i64 c.k) ∧ W.cell? ⟨w.heap.size, 1, none⟩ = some (.string (bs c.p.cells)) ∧ W.cell? ⟨w.heap.size, 2, none⟩ = some (.int .i64 c.p.side) ∧ W.cell? ⟨w.heap.size, 3, none⟩ = some (.int .i64 c.p.clock) ∧ W.cell? ⟨w.heap.size, 4, none⟩ = some (.int .i64 c.p.full) ∧ W.cell? ⟨w.heap.size, 5, none⟩ = some (.slice A n cap) ∧ W.cell? ⟨w.heap.size, 6, none⟩ = some (.int .i64 c.d) ∧ RdM W A c.l ∧ Env W ∧ Errs W a0 a1 a2 ∧ Below w.heap.size w W) → Calls Tryz.prog 11 #[.agg #[.int .i64 c.k, .string (bs c.p.cells), .int .i64 c.p.side, .int .i64 c.p.clock, .int .i64 c.p.full, .slice A n cap, .int .i64 c.d]] W (Gives W (.string (bs t))) := fun h => HQ.out _ h.2.2.2.2.2.2.2.1
  have LO : ∀ {W : World}, (W.cell? ⟨w.heap.size, 0, none⟩ = some (.int .i64 c.k) ∧ W.cell? ⟨w.heap.size, 1, none⟩ = some (.string (bs c.p.cells)) ∧ W.cell? ⟨w.heap.size, 2, none⟩ = some (.int .i64 c.p.side) ∧ W.cell? ⟨w.heap.size, 3, none⟩ = some (.int .i64 c.p.clock) ∧ W.cell? ⟨w.heap.size, 4, none⟩ = some (.int .i64 c.p.full) ∧ W.cell? ⟨w.heap.size, 5, none⟩ = some (.slice A n cap) ∧ W.cell? ⟨w.heap.size, 6, none⟩ = some (.int .i64 c.d) ∧ RdM W A c.l ∧ Env W ∧ Errs W a0 a1 a2 ∧ Below w.heap.size w W) → Calls Tryz.prog 8 #[] W (Gives W (.bool true)) := fun h => live23_any h.2.2.2.2.2.2.2.2.1 h.2.2.2.2.2.2.2.2.2.1
  clear bP hE hR hr hn ht hS0 hB0
  go_enter Tryz.func3, Tryz.ntmps3
  go_upto_region 3 with (fail)
  clear c0 c1 c2 c3 c4 c5 c6
  go_region_held3 (fun W => W.cell? ⟨w.heap.size, 0, none⟩ = some (.int .i64 c.k) ∧ W.cell? ⟨w.heap.size, 1, none⟩ = some (.string (bs c.p.cells)) ∧ W.cell? ⟨w.heap.size, 2, none⟩ = some (.int .i64 c.p.side) ∧ W.cell? ⟨w.heap.size, 3, none⟩ = some (.int .i64 c.p.clock) ∧ W.cell? ⟨w.heap.size, 4, none⟩ = some (.int .i64 c.p.full) ∧ W.cell? ⟨w.heap.size, 5, none⟩ = some (.slice A n cap) ∧ W.cell? ⟨w.heap.size, 6, none⟩ = some (.int .i64 c.d) ∧ RdM W A c.l ∧ Env W ∧ Errs W a0 a1 a2 ∧ Below w.heap.size w W)
    (first | exact hS | with_reducible assumption | exact keepO (by assumption) hb2)
    (first | (go_at_call 10; refine (HO.out _).mono ?_; rintro e w5 ⟨rfl, hb2⟩) | (go_at_call 9; refine (PO (by assumption)).mono ?_; rintro e w5 ⟨rfl, hb2⟩) | (go_at_call 11; refine (QO (by assumption)).mono ?_; rintro e w5 ⟨rfl, hb2⟩) | (go_at_call 8; refine (LO (by assumption)).mono ?_; rintro e w5 ⟨rfl, hb2⟩))
  all_goals
    rename_i hH
    have hBF := hH.2.2.2.2.2.2.2.2.2.2
    clear hS hH
    go_wp2_with fail
    go_ret
    exact ⟨rfl, hBF⟩
theorem walk (c : Cmd) (A : Option Addr) (n cap : Nat) {w : World} {a0 a1 a2 : Addr} (hE : Env w) (hR : Errs w a0 a1 a2) (hr : RdM w A c.l) (hn : c.l.length = n) : Calls Tryz.prog 3 #[.agg #[.int .i64 c.k, .string (bs c.p.cells), .int .i64 c.p.side, .int .i64 c.p.clock, .int .i64 c.p.full, .slice A n cap, .int .i64 c.d]] w (Gives w (.bool true)) := by
  by_cases h60 : 60 < n
  · exact many c A n cap hE hR hr hn h60
  · by_cases h200 : 200 < (bs c.p.cells).size
    · exact long c A n cap hE hR hr hn h60 h200
    · exact both c A n cap hE hR hr hn h60 h200
end Go.Proofs.YtpogpjebhnoncabGreatDoor.lwrites
