/- What is printed is read, but for what its kind does not name: the call answers true. -/
import Derived.Test.YtpogpjebhnoncabGreatDoorLineN
namespace Go.Proofs.YtpogpjebhnoncabGreatDoor.lback
open Go.RowKit Go.Shelf Go.Proofs.YtpogpjebhnoncabGreatDoor.Ln
open M (S)

/-- Both commands, as they lie, are the same one. -/
def TwoW (w : World) (g1 g2 : Nat) (k : Int) (s : ByteArray) (x y z : Int) (A1 A2 : Option Addr) (l : List (Int × Int)) (n c1 c2 : Nat) (d : Int) (a0 a1 a2 : Addr) (W : World) : Prop :=
  Blk W g1 29 #[.int .i64 k, .string s, .int .i64 x, .int .i64 y, .int .i64 z, .slice A1 n c1, .int .i64 d] ∧ Blk W g2 26 #[.int .i64 k, .string s, .int .i64 x, .int .i64 y, .int .i64 z, .slice A2 n c2, .int .i64 d] ∧ RdM W A1 l ∧ RdM W A2 l ∧ Env W ∧ Errs W a0 a1 a2 ∧ Below w.heap.size w W
theorem TwoW.next {w : World} {g1 g2 : Nat} {k : Int} {s : ByteArray} {x y z : Int} {A1 A2 : Option Addr} {l : List (Int × Int)} {n c1 c2 : Nat} {d : Int} {a0 a1 a2 : Addr} {W W' : World} (h : TwoW w g1 g2 k s x y z A1 A2 l n c1 c2 d a0 a1 a2 W) (hb : Below W.heap.size W W') : TwoW w g1 g2 k s x y z A1 A2 l n c1 c2 d a0 a1 a2 W' :=
  ⟨h.1.next hb, h.2.1.next hb, h.2.2.1.next hb, h.2.2.2.1.next hb, h.2.2.2.2.1.next hb, h.2.2.2.2.2.1.next hb, h.2.2.2.2.2.2.trans (hb.mono h.2.2.2.2.2.2.size)⟩
/-- The same, cell by cell. -/
theorem TwoW.c {w : World} {g1 g2 : Nat} {k : Int} {s : ByteArray} {x y z : Int} {A1 A2 : Option Addr} {l : List (Int × Int)} {n c1 c2 : Nat} {d : Int} {a0 a1 a2 : Addr} {W : World} (h : TwoW w g1 g2 k s x y z A1 A2 l n c1 c2 d a0 a1 a2 W) : W.cell? ⟨g1, 0, none⟩ = some (.int .i64 k) ∧ W.cell? ⟨g1, 1, none⟩ = some (.string s) ∧ W.cell? ⟨g1, 2, none⟩ = some (.int .i64 x) ∧ W.cell? ⟨g1, 3, none⟩ = some (.int .i64 y) ∧ W.cell? ⟨g1, 4, none⟩ = some (.int .i64 z) ∧ W.cell? ⟨g1, 5, none⟩ = some (.slice A1 n c1) ∧ W.cell? ⟨g1, 6, none⟩ = some (.int .i64 d) ∧ W.cell? ⟨g2, 0, none⟩ = some (.int .i64 k) ∧ W.cell? ⟨g2, 1, none⟩ = some (.string s) ∧ W.cell? ⟨g2, 2, none⟩ = some (.int .i64 x) ∧ W.cell? ⟨g2, 3, none⟩ = some (.int .i64 y) ∧ W.cell? ⟨g2, 4, none⟩ = some (.int .i64 z) ∧ W.cell? ⟨g2, 5, none⟩ = some (.slice A2 n c2) ∧ W.cell? ⟨g2, 6, none⟩ = some (.int .i64 d) ∧ TwoW w g1 g2 k s x y z A1 A2 l n c1 c2 d a0 a1 a2 W := by
  obtain ⟨p0, p1, p2, p3, p4, p5, p6⟩ := c_cells h.1
  obtain ⟨q0, q1, q2, q3, q4, q5, q6⟩ := c_cells h.2.1
  exact ⟨p0, p1, p2, p3, p4, p5, p6, q0, q1, q2, q3, q4, q5, q6, h⟩
theorem keepW {w : World} {g1 g2 : Nat} {k : Int} {s : ByteArray} {x y z : Int} {A1 A2 : Option Addr} {l : List (Int × Int)} {n c1 c2 : Nat} {d : Int} {a0 a1 a2 : Addr} {W W' : World} (h : W.cell? ⟨g1, 0, none⟩ = some (.int .i64 k) ∧ W.cell? ⟨g1, 1, none⟩ = some (.string s) ∧ W.cell? ⟨g1, 2, none⟩ = some (.int .i64 x) ∧ W.cell? ⟨g1, 3, none⟩ = some (.int .i64 y) ∧ W.cell? ⟨g1, 4, none⟩ = some (.int .i64 z) ∧ W.cell? ⟨g1, 5, none⟩ = some (.slice A1 n c1) ∧ W.cell? ⟨g1, 6, none⟩ = some (.int .i64 d) ∧ W.cell? ⟨g2, 0, none⟩ = some (.int .i64 k) ∧ W.cell? ⟨g2, 1, none⟩ = some (.string s) ∧ W.cell? ⟨g2, 2, none⟩ = some (.int .i64 x) ∧ W.cell? ⟨g2, 3, none⟩ = some (.int .i64 y) ∧ W.cell? ⟨g2, 4, none⟩ = some (.int .i64 z) ∧ W.cell? ⟨g2, 5, none⟩ = some (.slice A2 n c2) ∧ W.cell? ⟨g2, 6, none⟩ = some (.int .i64 d) ∧ TwoW w g1 g2 k s x y z A1 A2 l n c1 c2 d a0 a1 a2 W) (hb : Below W.heap.size W W') : W'.cell? ⟨g1, 0, none⟩ = some (.int .i64 k) ∧ W'.cell? ⟨g1, 1, none⟩ = some (.string s) ∧ W'.cell? ⟨g1, 2, none⟩ = some (.int .i64 x) ∧ W'.cell? ⟨g1, 3, none⟩ = some (.int .i64 y) ∧ W'.cell? ⟨g1, 4, none⟩ = some (.int .i64 z) ∧ W'.cell? ⟨g1, 5, none⟩ = some (.slice A1 n c1) ∧ W'.cell? ⟨g1, 6, none⟩ = some (.int .i64 d) ∧ W'.cell? ⟨g2, 0, none⟩ = some (.int .i64 k) ∧ W'.cell? ⟨g2, 1, none⟩ = some (.string s) ∧ W'.cell? ⟨g2, 2, none⟩ = some (.int .i64 x) ∧ W'.cell? ⟨g2, 3, none⟩ = some (.int .i64 y) ∧ W'.cell? ⟨g2, 4, none⟩ = some (.int .i64 z) ∧ W'.cell? ⟨g2, 5, none⟩ = some (.slice A2 n c2) ∧ W'.cell? ⟨g2, 6, none⟩ = some (.int .i64 d) ∧ TwoW w g1 g2 k s x y z A1 A2 l n c1 c2 d a0 a1 a2 W' := TwoW.c (h.2.2.2.2.2.2.2.2.2.2.2.2.2.2.next hb)
theorem sameW {w : World} {g1 g2 : Nat} {k : Int} {s : ByteArray} {x y z : Int} {A1 A2 : Option Addr} {l : List (Int × Int)} {n c1 c2 : Nat} {d : Int} {a0 a1 a2 : Addr} {W : World} (h : W.cell? ⟨g1, 0, none⟩ = some (.int .i64 k) ∧ W.cell? ⟨g1, 1, none⟩ = some (.string s) ∧ W.cell? ⟨g1, 2, none⟩ = some (.int .i64 x) ∧ W.cell? ⟨g1, 3, none⟩ = some (.int .i64 y) ∧ W.cell? ⟨g1, 4, none⟩ = some (.int .i64 z) ∧ W.cell? ⟨g1, 5, none⟩ = some (.slice A1 n c1) ∧ W.cell? ⟨g1, 6, none⟩ = some (.int .i64 d) ∧ W.cell? ⟨g2, 0, none⟩ = some (.int .i64 k) ∧ W.cell? ⟨g2, 1, none⟩ = some (.string s) ∧ W.cell? ⟨g2, 2, none⟩ = some (.int .i64 x) ∧ W.cell? ⟨g2, 3, none⟩ = some (.int .i64 y) ∧ W.cell? ⟨g2, 4, none⟩ = some (.int .i64 z) ∧ W.cell? ⟨g2, 5, none⟩ = some (.slice A2 n c2) ∧ W.cell? ⟨g2, 6, none⟩ = some (.int .i64 d) ∧ TwoW w g1 g2 k s x y z A1 A2 l n c1 c2 d a0 a1 a2 W) (hn : l.length = n) (hn9 : n ≤ 1000000) : Calls Tryz.prog 13 #[.agg #[.int .i64 k, .string s, .int .i64 x, .int .i64 y, .int .i64 z, .slice A1 n c1, .int .i64 d], .agg #[.int .i64 k, .string s, .int .i64 x, .int .i64 y, .int .i64 z, .slice A2 n c2, .int .i64 d]] W (Gives W (.bool true)) := csame_is k x y z d s A1 A2 l n c1 c2 W h.2.2.2.2.2.2.2.2.2.2.2.2.2.2.2.2.1 h.2.2.2.2.2.2.2.2.2.2.2.2.2.2.2.2.2.1 hn hn9
theorem liveW {w : World} {g1 g2 : Nat} {k : Int} {s : ByteArray} {x y z : Int} {A1 A2 : Option Addr} {l : List (Int × Int)} {n c1 c2 : Nat} {d : Int} {a0 a1 a2 : Addr} {W : World} (h : W.cell? ⟨g1, 0, none⟩ = some (.int .i64 k) ∧ W.cell? ⟨g1, 1, none⟩ = some (.string s) ∧ W.cell? ⟨g1, 2, none⟩ = some (.int .i64 x) ∧ W.cell? ⟨g1, 3, none⟩ = some (.int .i64 y) ∧ W.cell? ⟨g1, 4, none⟩ = some (.int .i64 z) ∧ W.cell? ⟨g1, 5, none⟩ = some (.slice A1 n c1) ∧ W.cell? ⟨g1, 6, none⟩ = some (.int .i64 d) ∧ W.cell? ⟨g2, 0, none⟩ = some (.int .i64 k) ∧ W.cell? ⟨g2, 1, none⟩ = some (.string s) ∧ W.cell? ⟨g2, 2, none⟩ = some (.int .i64 x) ∧ W.cell? ⟨g2, 3, none⟩ = some (.int .i64 y) ∧ W.cell? ⟨g2, 4, none⟩ = some (.int .i64 z) ∧ W.cell? ⟨g2, 5, none⟩ = some (.slice A2 n c2) ∧ W.cell? ⟨g2, 6, none⟩ = some (.int .i64 d) ∧ TwoW w g1 g2 k s x y z A1 A2 l n c1 c2 d a0 a1 a2 W) : Calls Tryz.prog 8 #[] W (Gives W (.bool true)) := live23_any h.2.2.2.2.2.2.2.2.2.2.2.2.2.2.2.2.2.2.1 h.2.2.2.2.2.2.2.2.2.2.2.2.2.2.2.2.2.2.2.1
set_option maxRecDepth 100000 in
set_option maxHeartbeats 8000000 in
theorem own_is (k x y z d : Int) (s : ByteArray) (A : Option Addr) (n c : Nat) (w : World) : Calls Tryz.prog 10 #[.agg #[.int .i64 k, .string s, .int .i64 x, .int .i64 y, .int .i64 z, .slice A n c, .int .i64 d]] w (Gives w (.agg #[.int .i64 k, .string s, .int .i64 x, .int .i64 y, .int .i64 z, .slice A n c, .int .i64 d])) := by
  unfold Gives
  go_enter Tryz.func10, Tryz.ntmps10
  go_wp2
  have hB : Below w.heap.size w ((w.alloc (.cells #[.int .i64 k, .string s, .int .i64 x, .int .i64 y, .int .i64 z, .slice A n c, .int .i64 d] 26)).alloc (.cells #[.int .i64 k, .string s, .int .i64 x, .int .i64 y, .int .i64 z, .slice A n c, .int .i64 d] 29)) := (by repeat (first | exact Below.refl _ _ | (refine Below.setCell ?_ (by first | omega | (simp; done) | (simp; omega) | (simp at *; omega)) _) | (refine Below.alloc ?_ (by first | omega | (simp; done) | (simp; omega) | (simp at *; omega)) _) | refine Below.drew ?_ | (refine below_drewN ?_ _) | (refine Below.trans ?_ (Below.mono (by assumption) (by first | omega | (simp; done) | (simp; omega) | (simp at *; omega))))))
  refine bodyPost_ret (v := .agg #[.int .i64 k, .string s, .int .i64 x, .int .i64 y, .int .i64 z, .slice A n c, .int .i64 d]) (by simp [results, Tryz.results10, go_sem]) rfl ⟨rfl, hB⟩
set_option maxRecDepth 100000 in
set_option maxHeartbeats 8000000 in
theorem many (c : Cmd) (A : Option Addr) (n cap : Nat) {w : World} {a0 a1 a2 : Addr} (hE : Env w) (hR : Errs w a0 a1 a2) (_hr : RdM w A c.l) (_hn : c.l.length = n) (h60 : 60 < n) : Calls Tryz.prog 4 #[.agg #[.int .i64 c.k, .string (bs c.p.cells), .int .i64 c.p.side, .int .i64 c.p.clock, .int .i64 c.p.full, .slice A n cap, .int .i64 c.d]] w (Gives w (.bool true)) := by
  unfold Gives
  obtain ⟨W0, hW0⟩ : ∃ W0, w.alloc (.cells #[.int .i64 c.k, .string (bs c.p.cells), .int .i64 c.p.side, .int .i64 c.p.clock, .int .i64 c.p.full, .slice A n cap, .int .i64 c.d] 26) = W0 := ⟨_, rfl⟩
  have hB0 : Below w.heap.size w W0 := by rw [← hW0]; exact (by repeat (first | exact Below.refl _ _ | (refine Below.setCell ?_ (by first | omega | (simp; done) | (simp; omega) | (simp at *; omega)) _) | (refine Below.alloc ?_ (by first | omega | (simp; done) | (simp; omega) | (simp at *; omega)) _) | refine Below.drew ?_ | (refine below_drewN ?_ _) | (refine Below.trans ?_ (Below.mono (by assumption) (by first | omega | (simp; done) | (simp; omega) | (simp at *; omega))))))
  have bP : Blk W0 w.heap.size 26 #[.int .i64 c.k, .string (bs c.p.cells), .int .i64 c.p.side, .int .i64 c.p.clock, .int .i64 c.p.full, .slice A n cap, .int .i64 c.d] := by rw [← hW0]; exact Blk.new _ _ _ rfl
  obtain ⟨c0, c1, c2, c3, c4, c5, c6⟩ := c_cells bP
  have hd1 : decide ((60 : Int) < (n : Int)) = true := by simp; omega
  have HL := Lib.hid (live23_any (hE.next hB0) (hR.next hB0))
  go_enter Tryz.func4, Tryz.ntmps4
  go_wp2_with fail
  refine HL.out.mono ?_
  rintro e w1 ⟨rfl, hb1⟩
  go_wp2_with fail
  go_ret
  exact ⟨rfl, hB0.trans (hb1.mono hB0.size)⟩
set_option maxRecDepth 100000 in
set_option maxHeartbeats 8000000 in
theorem long (c : Cmd) (A : Option Addr) (n cap : Nat) {w : World} {a0 a1 a2 : Addr} (hE : Env w) (hR : Errs w a0 a1 a2) (_hr : RdM w A c.l) (hn : c.l.length = n) (h60 : ¬ 60 < n) (h200 : 200 < (bs c.p.cells).size) : Calls Tryz.prog 4 #[.agg #[.int .i64 c.k, .string (bs c.p.cells), .int .i64 c.p.side, .int .i64 c.p.clock, .int .i64 c.p.full, .slice A n cap, .int .i64 c.d]] w (Gives w (.bool true)) := by
  unfold Gives
  obtain ⟨W0, hW0⟩ : ∃ W0, w.alloc (.cells #[.int .i64 c.k, .string (bs c.p.cells), .int .i64 c.p.side, .int .i64 c.p.clock, .int .i64 c.p.full, .slice A n cap, .int .i64 c.d] 26) = W0 := ⟨_, rfl⟩
  have hB0 : Below w.heap.size w W0 := by rw [← hW0]; exact (by repeat (first | exact Below.refl _ _ | (refine Below.setCell ?_ (by first | omega | (simp; done) | (simp; omega) | (simp at *; omega)) _) | (refine Below.alloc ?_ (by first | omega | (simp; done) | (simp; omega) | (simp at *; omega)) _) | refine Below.drew ?_ | (refine below_drewN ?_ _) | (refine Below.trans ?_ (Below.mono (by assumption) (by first | omega | (simp; done) | (simp; omega) | (simp at *; omega))))))
  have bP : Blk W0 w.heap.size 26 #[.int .i64 c.k, .string (bs c.p.cells), .int .i64 c.p.side, .int .i64 c.p.clock, .int .i64 c.p.full, .slice A n cap, .int .i64 c.d] := by rw [← hW0]; exact Blk.new _ _ _ rfl
  obtain ⟨c0, c1, c2, c3, c4, c5, c6⟩ := c_cells bP
  have hd1 : decide ((60 : Int) < (n : Int)) = false := by simp; omega
  have hd2 : decide ((200 : Int) < ((bs c.p.cells).size : Int)) = true := by simp; omega
  have HL := Lib.hid (live23_any (hE.next hB0) (hR.next hB0))
  go_enter Tryz.func4, Tryz.ntmps4
  go_wp2_with fail
  refine HL.out.mono ?_
  rintro e w1 ⟨rfl, hb1⟩
  go_wp2_with fail
  go_ret
  exact ⟨rfl, hB0.trans (hb1.mono hB0.size)⟩
set_option maxRecDepth 100000 in
set_option maxHeartbeats 8000000 in
theorem none_ (c : Cmd) (A : Option Addr) (n cap : Nat) {w : World} {a0 a1 a2 : Addr} (hE : Env w) (hR : Errs w a0 a1 a2) (hr : RdM w A c.l) (hn : c.l.length = n) (h60 : ¬ 60 < n) (h200 : ¬ 200 < (bs c.p.cells).size) (hpc : printC c = []) : Calls Tryz.prog 4 #[.agg #[.int .i64 c.k, .string (bs c.p.cells), .int .i64 c.p.side, .int .i64 c.p.clock, .int .i64 c.p.full, .slice A n cap, .int .i64 c.d]] w (Gives w (.bool true)) := by
  unfold Gives
  obtain ⟨W0, hW0⟩ : ∃ W0, w.alloc (.cells #[.int .i64 c.k, .string (bs c.p.cells), .int .i64 c.p.side, .int .i64 c.p.clock, .int .i64 c.p.full, .slice A n cap, .int .i64 c.d] 26) = W0 := ⟨_, rfl⟩
  have hB0 : Below w.heap.size w W0 := by rw [← hW0]; exact (by repeat (first | exact Below.refl _ _ | (refine Below.setCell ?_ (by first | omega | (simp; done) | (simp; omega) | (simp at *; omega)) _) | (refine Below.alloc ?_ (by first | omega | (simp; done) | (simp; omega) | (simp at *; omega)) _) | refine Below.drew ?_ | (refine below_drewN ?_ _) | (refine Below.trans ?_ (Below.mono (by assumption) (by first | omega | (simp; done) | (simp; omega) | (simp at *; omega))))))
  have bP : Blk W0 w.heap.size 26 #[.int .i64 c.k, .string (bs c.p.cells), .int .i64 c.p.side, .int .i64 c.p.clock, .int .i64 c.p.full, .slice A n cap, .int .i64 c.d] := by rw [← hW0]; exact Blk.new _ _ _ rfl
  obtain ⟨c0, c1, c2, c3, c4, c5, c6⟩ := c_cells bP
  have hd1 : decide ((60 : Int) < (n : Int)) = false := by simp; omega
  have hd2 : decide ((200 : Int) < ((bs c.p.cells).size : Int)) = false := by simp; omega
  have hr0 := hr.next hB0
  have HO := Lib.hid fun (W : World) => own_is c.k c.p.side c.p.clock c.p.full c.d (bs c.p.cells) A n cap W
  have HP := Lib.hid fun (W : World) (h1 : Env W) (h2 : RdM W A c.l) => printL_any c A n cap W h1 h2 hn (by omega)
  rw [hpc] at HP
  have q0 : (bs []).toList.isEmpty = true := by rw [ByteArray.toList_eq, bs_data]; rfl
  clear hpc
  go_enter Tryz.func4, Tryz.ntmps4
  go_wp2_with fail
  refine (HO.out _).mono ?_
  rintro e w1 ⟨rfl, hb1⟩
  have hB1 := hB0.trans (hb1.mono hB0.size)
  have hr1 := hr0.next hb1
  clear c0 c1 c2 c3 c4 c5 c6 hb1
  go_wp2_with fail
  refine (HP.out w1 (hE.next hB1) hr1).mono ?_
  rintro e w2 ⟨rfl, hb2⟩
  have hB2 := hB1.trans (hb2.mono hB1.size)
  go_wp2_with fail
  refine (live23_any (hE.next hB2) (hR.next hB2)).mono ?_
  rintro e w3 ⟨rfl, hb3⟩
  go_wp2_with fail
  go_ret
  exact ⟨rfl, hB2.trans (hb3.mono hB2.size)⟩
set_option maxRecDepth 100000 in
set_option maxHeartbeats 8000000 in
theorem set_ (c : Cmd) (A : Option Addr) (n cap : Nat) {w : World} {a0 a1 a2 : Addr} (hE : Env w) (hR : Errs w a0 a1 a2) (hr : RdM w A c.l) (hn : c.l.length = n) (h60 : ¬ 60 < n) (h200 : ¬ 200 < (bs c.p.cells).size) (t : List UInt8) (hpc : printC c = t) (ht : t ≠ []) (htl : t.length ≤ 4096) (k3 : c.k = 3) (hpa : parseL t = .ok ⟨3, c.p, c.l, 0⟩) : Calls Tryz.prog 4 #[.agg #[.int .i64 c.k, .string (bs c.p.cells), .int .i64 c.p.side, .int .i64 c.p.clock, .int .i64 c.p.full, .slice A n cap, .int .i64 c.d]] w (Gives w (.bool true)) := by
  have HPR := Lib.hid fun (W : World) (h1 : Env W) (h2 : RdM W A c.l) => printL_any c A n cap W h1 h2 hn (by omega)
  rw [hpc] at HPR
  rw [k3] at HPR ⊢
  unfold Gives
  obtain ⟨W0, hW0⟩ : ∃ W0, w.alloc (.cells #[.int .i64 3, .string (bs c.p.cells), .int .i64 c.p.side, .int .i64 c.p.clock, .int .i64 c.p.full, .slice A n cap, .int .i64 c.d] 26) = W0 := ⟨_, rfl⟩
  have hB0 : Below w.heap.size w W0 := by rw [← hW0]; exact (by repeat (first | exact Below.refl _ _ | (refine Below.setCell ?_ (by first | omega | (simp; done) | (simp; omega) | (simp at *; omega)) _) | (refine Below.alloc ?_ (by first | omega | (simp; done) | (simp; omega) | (simp at *; omega)) _) | refine Below.drew ?_ | (refine below_drewN ?_ _) | (refine Below.trans ?_ (Below.mono (by assumption) (by first | omega | (simp; done) | (simp; omega) | (simp at *; omega))))))
  have bP : Blk W0 w.heap.size 26 #[.int .i64 3, .string (bs c.p.cells), .int .i64 c.p.side, .int .i64 c.p.clock, .int .i64 c.p.full, .slice A n cap, .int .i64 c.d] := by rw [← hW0]; exact Blk.new _ _ _ rfl
  obtain ⟨c0, c1, c2, c3, c4, c5, c6⟩ := c_cells bP
  have hd1 : decide ((60 : Int) < (n : Int)) = false := by simp; omega
  have hd2 : decide ((200 : Int) < ((bs c.p.cells).size : Int)) = false := by simp; omega
  have hr0 := hr.next hB0
  have HO := Lib.hid fun (W : World) => own_is 3 c.p.side c.p.clock c.p.full c.d (bs c.p.cells) A n cap W
  have q0 : (bs t).toList.isEmpty = false := by
    rw [ByteArray.toList_eq, bs_data]
    cases hh : t with
    | nil => exact absurd hh ht
    | cons => rfl
  have HPA : Hid (∀ W : World, Env W → Errs W a0 a1 a2 → Calls Tryz.prog 12 #[.string (bs t)] W fun e w' => ∃ A2 n2, e = .returned (.tuple #[.agg #[.int .i64 3, .string (bs c.p.cells), .int .i64 c.p.side, .int .i64 c.p.clock, .int .i64 c.p.full, .slice A2 n n2, .int .i64 0], .int .i64 0]) ∧ RdM w' A2 c.l ∧ Below W.heap.size W w') := fun W h1 h2 => by
    have := parse_got t _ h1 h2 (by omega) hpa
    simp only [hn] at this; exact this
  have HE := Lib.hid hE
  have HR := Lib.hid hR
  have hll : (c.l : List (Int × Int)).length = n := hn
  have HLL := Lib.hid hll
  have hn9 : n ≤ 1000000 := by omega
  clear hpc ht hpa htl hE hR hr hll hn
  go_enter Tryz.func4, Tryz.ntmps4
  go_wp2_with fail
  refine (HO.out _).mono ?_
  rintro e w1 ⟨rfl, hb1⟩
  have hB1 := hB0.trans (hb1.mono hB0.size)
  have hr1 := hr0.next hb1
  replace bP := bP.next hb1
  clear c0 c1 c2 c3 c4 c5 c6 hb1 hr0
  go_wp2_with fail
  refine (HPR.out w1 (HE.out.next hB1) hr1).mono ?_
  rintro e w2 ⟨rfl, hb2⟩
  have hB2 := hB1.trans (hb2.mono hB1.size)
  have hr2 := hr1.next hb2
  replace bP := bP.next hb2
  clear hb2 hB1 hr1 HPR
  obtain ⟨c0, c1, c2, c3, c4, c5, c6⟩ := c_cells bP
  go_upto_region 7 with (fail)
  have hV := (Below.refl w2.heap.size w2).alloc (Nat.le_refl _) (.cells #[.int .i64 3, .string ⟨#[]⟩, .int .i64 0, .int .i64 0, .int .i64 0, .slice none 0 0, .int .i64 0] 26)
  have bW := Blk.new w2 26 #[.int .i64 3, .string ⟨#[]⟩, .int .i64 0, .int .i64 0, .int .i64 0, .slice none 0 0, .int .i64 0] rfl
  replace bP := bP.alloc (.cells #[.int .i64 3, .string ⟨#[]⟩, .int .i64 0, .int .i64 0, .int .i64 0, .slice none 0 0, .int .i64 0] 26)
  clear c0 c1 c2 c3 c4 c5 c6
  generalize w2.alloc (.cells #[.int .i64 3, .string ⟨#[]⟩, .int .i64 0, .int .i64 0, .int .i64 0, .slice none 0 0, .int .i64 0] 26) = V at hV bW bP ⊢
  obtain ⟨gW, hgW⟩ : ∃ g, w2.heap.size = g := ⟨_, rfl⟩
  rw [hgW] at bW ⊢
  obtain ⟨c0, c1, c2, c3, c4, c5, c6⟩ := c_cells bP
  obtain ⟨m0, m1, m2, m3, m4, m5, m6⟩ := c_cells bW
  obtain ⟨f0, f1, f2, f3, f4, f5, f6⟩ := c_frozen bW
  go_upto_region 15 with (fail)
  clear c0 c1 c2 c3 c4 c5 c6 m0 m1 m2 m3 m4 m5 m6 f0 f1 f2 f3 f4 f5 f6 bP
  replace bW : Blk _ gW 26 #[.int .i64 3, .string (bs c.p.cells), .int .i64 0, .int .i64 0, .int .i64 0, .slice none 0 0, .int .i64 0] := bW.set_ 1 (.string (bs c.p.cells))
  replace hV := hV.setCell (p := ⟨gW, 1, none⟩) (Nat.le_of_eq hgW) (.string (bs c.p.cells))
  replace bW : Blk _ gW 26 #[.int .i64 3, .string (bs c.p.cells), .int .i64 c.p.side, .int .i64 0, .int .i64 0, .slice none 0 0, .int .i64 0] := bW.set_ 2 (.int .i64 c.p.side)
  replace hV := hV.setCell (p := ⟨gW, 2, none⟩) (Nat.le_of_eq hgW) (.int .i64 c.p.side)
  replace bW : Blk _ gW 26 #[.int .i64 3, .string (bs c.p.cells), .int .i64 c.p.side, .int .i64 c.p.clock, .int .i64 0, .slice none 0 0, .int .i64 0] := bW.set_ 3 (.int .i64 c.p.clock)
  replace hV := hV.setCell (p := ⟨gW, 3, none⟩) (Nat.le_of_eq hgW) (.int .i64 c.p.clock)
  replace bW : Blk _ gW 26 #[.int .i64 3, .string (bs c.p.cells), .int .i64 c.p.side, .int .i64 c.p.clock, .int .i64 c.p.full, .slice none 0 0, .int .i64 0] := bW.set_ 4 (.int .i64 c.p.full)
  replace hV := hV.setCell (p := ⟨gW, 4, none⟩) (Nat.le_of_eq hgW) (.int .i64 c.p.full)
  replace bW : Blk _ gW 26 #[.int .i64 3, .string (bs c.p.cells), .int .i64 c.p.side, .int .i64 c.p.clock, .int .i64 c.p.full, .slice A n cap, .int .i64 0] := bW.set_ 5 (.slice A n cap)
  replace hV := hV.setCell (p := ⟨gW, 5, none⟩) (Nat.le_of_eq hgW) (.slice A n cap)
  generalize (((((V.setCell ⟨gW, 1, none⟩ (.string (bs c.p.cells))).setCell ⟨gW, 2, none⟩ (.int .i64 c.p.side)).setCell ⟨gW, 3, none⟩ (.int .i64 c.p.clock)).setCell ⟨gW, 4, none⟩ (.int .i64 c.p.full)).setCell ⟨gW, 5, none⟩ (.slice A n cap)) = V at hV bW ⊢
  have hBV : Below w.heap.size w V := hB2.trans (hV.mono hB2.size)
  have hrw : RdM V A c.l := hr2.next hV
  clear hV hB2 hr2 hgW
  clear w2
  go_wp2_with fail
  refine (HPA.out V (HE.out.next hBV) (HR.out.next hBV)).mono ?_
  rintro e w4 ⟨A2, n2, rfl, hm2, hb4⟩
  have hB4 := cmd_step hBV hb4 #[.int .i64 3, .string (bs c.p.cells), .int .i64 c.p.side, .int .i64 c.p.clock, .int .i64 c.p.full, .slice A2 n n2, .int .i64 0] 29
  have bB := Blk.new w4 29 #[.int .i64 3, .string (bs c.p.cells), .int .i64 c.p.side, .int .i64 c.p.clock, .int .i64 c.p.full, .slice A2 n n2, .int .i64 0] rfl
  replace hm2 := hm2.alloc (.cells #[.int .i64 3, .string (bs c.p.cells), .int .i64 c.p.side, .int .i64 c.p.clock, .int .i64 c.p.full, .slice A2 n n2, .int .i64 0] 29)
  replace hrw := (hrw.next hb4).alloc (.cells #[.int .i64 3, .string (bs c.p.cells), .int .i64 c.p.side, .int .i64 c.p.clock, .int .i64 c.p.full, .slice A2 n n2, .int .i64 0] 29)
  replace bW := (bW.next hb4).alloc (.cells #[.int .i64 3, .string (bs c.p.cells), .int .i64 c.p.side, .int .i64 c.p.clock, .int .i64 c.p.full, .slice A2 n n2, .int .i64 0] 29)
  clear hb4 hBV
  go_upto_region 16 with (fail)
  generalize w4.alloc (.cells #[.int .i64 3, .string (bs c.p.cells), .int .i64 c.p.side, .int .i64 c.p.clock, .int .i64 c.p.full, .slice A2 n n2, .int .i64 0] 29) = V4 at hB4 bW bB hm2 hrw ⊢
  generalize w4.heap.size = gB at bB ⊢
  clear w4
  have hT2 : TwoW w gB gW 3 (bs c.p.cells) c.p.side c.p.clock c.p.full A2 A c.l n n2 cap 0 a0 a1 a2 V4 := ⟨bB, bW, hm2, hrw, HE.out.next hB4, HR.out.next hB4, hB4⟩
  have HT2 := Lib.hid hT2
  clear bB bW hm2 hrw hT2
  have hS : V4.drew.cell? ⟨gB, 0, none⟩ = some (.int .i64 3) ∧ V4.drew.cell? ⟨gB, 1, none⟩ = some (.string (bs c.p.cells)) ∧ V4.drew.cell? ⟨gB, 2, none⟩ = some (.int .i64 c.p.side) ∧ V4.drew.cell? ⟨gB, 3, none⟩ = some (.int .i64 c.p.clock) ∧ V4.drew.cell? ⟨gB, 4, none⟩ = some (.int .i64 c.p.full) ∧ V4.drew.cell? ⟨gB, 5, none⟩ = some (.slice A2 n n2) ∧ V4.drew.cell? ⟨gB, 6, none⟩ = some (.int .i64 0) ∧ V4.drew.cell? ⟨gW, 0, none⟩ = some (.int .i64 3) ∧ V4.drew.cell? ⟨gW, 1, none⟩ = some (.string (bs c.p.cells)) ∧ V4.drew.cell? ⟨gW, 2, none⟩ = some (.int .i64 c.p.side) ∧ V4.drew.cell? ⟨gW, 3, none⟩ = some (.int .i64 c.p.clock) ∧ V4.drew.cell? ⟨gW, 4, none⟩ = some (.int .i64 c.p.full) ∧ V4.drew.cell? ⟨gW, 5, none⟩ = some (.slice A n cap) ∧ V4.drew.cell? ⟨gW, 6, none⟩ = some (.int .i64 0) ∧ TwoW w gB gW 3 (bs c.p.cells) c.p.side c.p.clock c.p.full A2 A c.l n n2 cap 0 a0 a1 a2 V4.drew := keepW HT2.out.c (Below.refl _ _).drew
  go_region_held3 (fun W => W.cell? ⟨gB, 0, none⟩ = some (.int .i64 3) ∧ W.cell? ⟨gB, 1, none⟩ = some (.string (bs c.p.cells)) ∧ W.cell? ⟨gB, 2, none⟩ = some (.int .i64 c.p.side) ∧ W.cell? ⟨gB, 3, none⟩ = some (.int .i64 c.p.clock) ∧ W.cell? ⟨gB, 4, none⟩ = some (.int .i64 c.p.full) ∧ W.cell? ⟨gB, 5, none⟩ = some (.slice A2 n n2) ∧ W.cell? ⟨gB, 6, none⟩ = some (.int .i64 0) ∧ W.cell? ⟨gW, 0, none⟩ = some (.int .i64 3) ∧ W.cell? ⟨gW, 1, none⟩ = some (.string (bs c.p.cells)) ∧ W.cell? ⟨gW, 2, none⟩ = some (.int .i64 c.p.side) ∧ W.cell? ⟨gW, 3, none⟩ = some (.int .i64 c.p.clock) ∧ W.cell? ⟨gW, 4, none⟩ = some (.int .i64 c.p.full) ∧ W.cell? ⟨gW, 5, none⟩ = some (.slice A n cap) ∧ W.cell? ⟨gW, 6, none⟩ = some (.int .i64 0) ∧ TwoW w gB gW 3 (bs c.p.cells) c.p.side c.p.clock c.p.full A2 A c.l n n2 cap 0 a0 a1 a2 W)
    (first | exact hS | with_reducible assumption | exact keepW (by assumption) hb2)
    (first | (go_at_call 14; refine (told_is _ _ _ _ _ _ _ _ _ _).mono ?_; rintro e w5 ⟨rfl, hb2⟩) | (go_at_call 13; refine (sameW (by assumption) HLL.out hn9).mono ?_; rintro e w5 ⟨rfl, hb2⟩) | (go_at_call 8; refine (liveW (by assumption)).mono ?_; rintro e w5 ⟨rfl, hb2⟩))
  all_goals
    rename_i hH
    have hBF := hH.2.2.2.2.2.2.2.2.2.2.2.2.2.2.2.2.2.2.2.2
    clear hS hH
    go_wp2_with fail
    go_ret
    exact ⟨rfl, hBF⟩
set_option maxRecDepth 100000 in
set_option maxHeartbeats 8000000 in
theorem ban_ (c : Cmd) (A : Option Addr) (n cap : Nat) {w : World} {a0 a1 a2 : Addr} (hE : Env w) (hR : Errs w a0 a1 a2) (hr : RdM w A c.l) (hn : c.l.length = n) (h60 : ¬ 60 < n) (h200 : ¬ 200 < (bs c.p.cells).size) (t : List UInt8) (hpc : printC c = t) (ht : t ≠ []) (htl : t.length ≤ 4096) (k4 : c.k = 4) (hpa : parseL t = .ok ⟨4, zeroP, c.l, 0⟩) : Calls Tryz.prog 4 #[.agg #[.int .i64 c.k, .string (bs c.p.cells), .int .i64 c.p.side, .int .i64 c.p.clock, .int .i64 c.p.full, .slice A n cap, .int .i64 c.d]] w (Gives w (.bool true)) := by
  have HPR := Lib.hid fun (W : World) (h1 : Env W) (h2 : RdM W A c.l) => printL_any c A n cap W h1 h2 hn (by omega)
  rw [hpc] at HPR
  rw [k4] at HPR ⊢
  unfold Gives
  obtain ⟨W0, hW0⟩ : ∃ W0, w.alloc (.cells #[.int .i64 4, .string (bs c.p.cells), .int .i64 c.p.side, .int .i64 c.p.clock, .int .i64 c.p.full, .slice A n cap, .int .i64 c.d] 26) = W0 := ⟨_, rfl⟩
  have hB0 : Below w.heap.size w W0 := by rw [← hW0]; exact (by repeat (first | exact Below.refl _ _ | (refine Below.setCell ?_ (by first | omega | (simp; done) | (simp; omega) | (simp at *; omega)) _) | (refine Below.alloc ?_ (by first | omega | (simp; done) | (simp; omega) | (simp at *; omega)) _) | refine Below.drew ?_ | (refine below_drewN ?_ _) | (refine Below.trans ?_ (Below.mono (by assumption) (by first | omega | (simp; done) | (simp; omega) | (simp at *; omega))))))
  have bP : Blk W0 w.heap.size 26 #[.int .i64 4, .string (bs c.p.cells), .int .i64 c.p.side, .int .i64 c.p.clock, .int .i64 c.p.full, .slice A n cap, .int .i64 c.d] := by rw [← hW0]; exact Blk.new _ _ _ rfl
  obtain ⟨c0, c1, c2, c3, c4, c5, c6⟩ := c_cells bP
  have hd1 : decide ((60 : Int) < (n : Int)) = false := by simp; omega
  have hd2 : decide ((200 : Int) < ((bs c.p.cells).size : Int)) = false := by simp; omega
  have hr0 := hr.next hB0
  have HO := Lib.hid fun (W : World) => own_is 4 c.p.side c.p.clock c.p.full c.d (bs c.p.cells) A n cap W
  have q0 : (bs t).toList.isEmpty = false := by
    rw [ByteArray.toList_eq, bs_data]
    cases hh : t with
    | nil => exact absurd hh ht
    | cons => rfl
  have HPA : Hid (∀ W : World, Env W → Errs W a0 a1 a2 → Calls Tryz.prog 12 #[.string (bs t)] W fun e w' => ∃ A2 n2, e = .returned (.tuple #[.agg #[.int .i64 4, .string ⟨#[]⟩, .int .i64 0, .int .i64 0, .int .i64 0, .slice A2 n n2, .int .i64 0], .int .i64 0]) ∧ RdM w' A2 c.l ∧ Below W.heap.size W w') := fun W h1 h2 => by
    have := parse_got t _ h1 h2 (by omega) hpa
    simp only [hn] at this; exact this
  have HE := Lib.hid hE
  have HR := Lib.hid hR
  have hll : (c.l : List (Int × Int)).length = n := hn
  have HLL := Lib.hid hll
  have hn9 : n ≤ 1000000 := by omega
  clear hpc ht hpa htl hE hR hr hll hn
  go_enter Tryz.func4, Tryz.ntmps4
  go_wp2_with fail
  refine (HO.out _).mono ?_
  rintro e w1 ⟨rfl, hb1⟩
  have hB1 := hB0.trans (hb1.mono hB0.size)
  have hr1 := hr0.next hb1
  replace bP := bP.next hb1
  clear c0 c1 c2 c3 c4 c5 c6 hb1 hr0
  go_wp2_with fail
  refine (HPR.out w1 (HE.out.next hB1) hr1).mono ?_
  rintro e w2 ⟨rfl, hb2⟩
  have hB2 := hB1.trans (hb2.mono hB1.size)
  have hr2 := hr1.next hb2
  replace bP := bP.next hb2
  clear hb2 hB1 hr1 HPR
  obtain ⟨c0, c1, c2, c3, c4, c5, c6⟩ := c_cells bP
  go_upto_region 7 with (fail)
  have hV := (Below.refl w2.heap.size w2).alloc (Nat.le_refl _) (.cells #[.int .i64 4, .string ⟨#[]⟩, .int .i64 0, .int .i64 0, .int .i64 0, .slice none 0 0, .int .i64 0] 26)
  have bW := Blk.new w2 26 #[.int .i64 4, .string ⟨#[]⟩, .int .i64 0, .int .i64 0, .int .i64 0, .slice none 0 0, .int .i64 0] rfl
  replace bP := bP.alloc (.cells #[.int .i64 4, .string ⟨#[]⟩, .int .i64 0, .int .i64 0, .int .i64 0, .slice none 0 0, .int .i64 0] 26)
  clear c0 c1 c2 c3 c4 c5 c6
  generalize w2.alloc (.cells #[.int .i64 4, .string ⟨#[]⟩, .int .i64 0, .int .i64 0, .int .i64 0, .slice none 0 0, .int .i64 0] 26) = V at hV bW bP ⊢
  obtain ⟨gW, hgW⟩ : ∃ g, w2.heap.size = g := ⟨_, rfl⟩
  rw [hgW] at bW ⊢
  obtain ⟨c0, c1, c2, c3, c4, c5, c6⟩ := c_cells bP
  obtain ⟨m0, m1, m2, m3, m4, m5, m6⟩ := c_cells bW
  obtain ⟨f0, f1, f2, f3, f4, f5, f6⟩ := c_frozen bW
  go_upto_region 15 with (fail)
  clear c0 c1 c2 c3 c4 c5 c6 m0 m1 m2 m3 m4 m5 m6 f0 f1 f2 f3 f4 f5 f6 bP
  replace bW : Blk _ gW 26 #[.int .i64 4, .string ⟨#[]⟩, .int .i64 0, .int .i64 0, .int .i64 0, .slice A n cap, .int .i64 0] := bW.set_ 5 (.slice A n cap)
  replace hV := hV.setCell (p := ⟨gW, 5, none⟩) (Nat.le_of_eq hgW) (.slice A n cap)
  generalize (V.setCell ⟨gW, 5, none⟩ (.slice A n cap)) = V at hV bW ⊢
  have hBV : Below w.heap.size w V := hB2.trans (hV.mono hB2.size)
  have hrw : RdM V A c.l := hr2.next hV
  clear hV hB2 hr2 hgW
  clear w2
  go_wp2_with fail
  refine (HPA.out V (HE.out.next hBV) (HR.out.next hBV)).mono ?_
  rintro e w4 ⟨A2, n2, rfl, hm2, hb4⟩
  have hB4 := cmd_step hBV hb4 #[.int .i64 4, .string ⟨#[]⟩, .int .i64 0, .int .i64 0, .int .i64 0, .slice A2 n n2, .int .i64 0] 29
  have bB := Blk.new w4 29 #[.int .i64 4, .string ⟨#[]⟩, .int .i64 0, .int .i64 0, .int .i64 0, .slice A2 n n2, .int .i64 0] rfl
  replace hm2 := hm2.alloc (.cells #[.int .i64 4, .string ⟨#[]⟩, .int .i64 0, .int .i64 0, .int .i64 0, .slice A2 n n2, .int .i64 0] 29)
  replace hrw := (hrw.next hb4).alloc (.cells #[.int .i64 4, .string ⟨#[]⟩, .int .i64 0, .int .i64 0, .int .i64 0, .slice A2 n n2, .int .i64 0] 29)
  replace bW := (bW.next hb4).alloc (.cells #[.int .i64 4, .string ⟨#[]⟩, .int .i64 0, .int .i64 0, .int .i64 0, .slice A2 n n2, .int .i64 0] 29)
  clear hb4 hBV
  go_upto_region 16 with (fail)
  generalize w4.alloc (.cells #[.int .i64 4, .string ⟨#[]⟩, .int .i64 0, .int .i64 0, .int .i64 0, .slice A2 n n2, .int .i64 0] 29) = V4 at hB4 bW bB hm2 hrw ⊢
  generalize w4.heap.size = gB at bB ⊢
  clear w4
  have hT2 : TwoW w gB gW 4 ⟨#[]⟩ 0 0 0 A2 A c.l n n2 cap 0 a0 a1 a2 V4 := ⟨bB, bW, hm2, hrw, HE.out.next hB4, HR.out.next hB4, hB4⟩
  have HT2 := Lib.hid hT2
  clear bB bW hm2 hrw hT2
  have hS : V4.drew.cell? ⟨gB, 0, none⟩ = some (.int .i64 4) ∧ V4.drew.cell? ⟨gB, 1, none⟩ = some (.string ⟨#[]⟩) ∧ V4.drew.cell? ⟨gB, 2, none⟩ = some (.int .i64 0) ∧ V4.drew.cell? ⟨gB, 3, none⟩ = some (.int .i64 0) ∧ V4.drew.cell? ⟨gB, 4, none⟩ = some (.int .i64 0) ∧ V4.drew.cell? ⟨gB, 5, none⟩ = some (.slice A2 n n2) ∧ V4.drew.cell? ⟨gB, 6, none⟩ = some (.int .i64 0) ∧ V4.drew.cell? ⟨gW, 0, none⟩ = some (.int .i64 4) ∧ V4.drew.cell? ⟨gW, 1, none⟩ = some (.string ⟨#[]⟩) ∧ V4.drew.cell? ⟨gW, 2, none⟩ = some (.int .i64 0) ∧ V4.drew.cell? ⟨gW, 3, none⟩ = some (.int .i64 0) ∧ V4.drew.cell? ⟨gW, 4, none⟩ = some (.int .i64 0) ∧ V4.drew.cell? ⟨gW, 5, none⟩ = some (.slice A n cap) ∧ V4.drew.cell? ⟨gW, 6, none⟩ = some (.int .i64 0) ∧ TwoW w gB gW 4 ⟨#[]⟩ 0 0 0 A2 A c.l n n2 cap 0 a0 a1 a2 V4.drew := keepW HT2.out.c (Below.refl _ _).drew
  go_region_held3 (fun W => W.cell? ⟨gB, 0, none⟩ = some (.int .i64 4) ∧ W.cell? ⟨gB, 1, none⟩ = some (.string ⟨#[]⟩) ∧ W.cell? ⟨gB, 2, none⟩ = some (.int .i64 0) ∧ W.cell? ⟨gB, 3, none⟩ = some (.int .i64 0) ∧ W.cell? ⟨gB, 4, none⟩ = some (.int .i64 0) ∧ W.cell? ⟨gB, 5, none⟩ = some (.slice A2 n n2) ∧ W.cell? ⟨gB, 6, none⟩ = some (.int .i64 0) ∧ W.cell? ⟨gW, 0, none⟩ = some (.int .i64 4) ∧ W.cell? ⟨gW, 1, none⟩ = some (.string ⟨#[]⟩) ∧ W.cell? ⟨gW, 2, none⟩ = some (.int .i64 0) ∧ W.cell? ⟨gW, 3, none⟩ = some (.int .i64 0) ∧ W.cell? ⟨gW, 4, none⟩ = some (.int .i64 0) ∧ W.cell? ⟨gW, 5, none⟩ = some (.slice A n cap) ∧ W.cell? ⟨gW, 6, none⟩ = some (.int .i64 0) ∧ TwoW w gB gW 4 ⟨#[]⟩ 0 0 0 A2 A c.l n n2 cap 0 a0 a1 a2 W)
    (first | exact hS | with_reducible assumption | exact keepW (by assumption) hb2)
    (first | (go_at_call 14; refine (told_is _ _ _ _ _ _ _ _ _ _).mono ?_; rintro e w5 ⟨rfl, hb2⟩) | (go_at_call 13; refine (sameW (by assumption) HLL.out hn9).mono ?_; rintro e w5 ⟨rfl, hb2⟩) | (go_at_call 8; refine (liveW (by assumption)).mono ?_; rintro e w5 ⟨rfl, hb2⟩))
  all_goals
    rename_i hH
    have hBF := hH.2.2.2.2.2.2.2.2.2.2.2.2.2.2.2.2.2.2.2.2
    clear hS hH
    go_wp2_with fail
    go_ret
    exact ⟨rfl, hBF⟩
set_option maxRecDepth 100000 in
set_option maxHeartbeats 8000000 in
theorem go_ (c : Cmd) (A : Option Addr) (n cap : Nat) {w : World} {a0 a1 a2 : Addr} (hE : Env w) (hR : Errs w a0 a1 a2) (hr : RdM w A c.l) (hn : c.l.length = n) (h60 : ¬ 60 < n) (h200 : ¬ 200 < (bs c.p.cells).size) (t : List UInt8) (hpc : printC c = t) (ht : t ≠ []) (htl : t.length ≤ 4096) (k5 : c.k = 5) (hpa : parseL t = .ok ⟨5, zeroP, [], c.d⟩) : Calls Tryz.prog 4 #[.agg #[.int .i64 c.k, .string (bs c.p.cells), .int .i64 c.p.side, .int .i64 c.p.clock, .int .i64 c.p.full, .slice A n cap, .int .i64 c.d]] w (Gives w (.bool true)) := by
  have HPR := Lib.hid fun (W : World) (h1 : Env W) (h2 : RdM W A c.l) => printL_any c A n cap W h1 h2 hn (by omega)
  rw [hpc] at HPR
  rw [k5] at HPR ⊢
  unfold Gives
  obtain ⟨W0, hW0⟩ : ∃ W0, w.alloc (.cells #[.int .i64 5, .string (bs c.p.cells), .int .i64 c.p.side, .int .i64 c.p.clock, .int .i64 c.p.full, .slice A n cap, .int .i64 c.d] 26) = W0 := ⟨_, rfl⟩
  have hB0 : Below w.heap.size w W0 := by rw [← hW0]; exact (by repeat (first | exact Below.refl _ _ | (refine Below.setCell ?_ (by first | omega | (simp; done) | (simp; omega) | (simp at *; omega)) _) | (refine Below.alloc ?_ (by first | omega | (simp; done) | (simp; omega) | (simp at *; omega)) _) | refine Below.drew ?_ | (refine below_drewN ?_ _) | (refine Below.trans ?_ (Below.mono (by assumption) (by first | omega | (simp; done) | (simp; omega) | (simp at *; omega))))))
  have bP : Blk W0 w.heap.size 26 #[.int .i64 5, .string (bs c.p.cells), .int .i64 c.p.side, .int .i64 c.p.clock, .int .i64 c.p.full, .slice A n cap, .int .i64 c.d] := by rw [← hW0]; exact Blk.new _ _ _ rfl
  obtain ⟨c0, c1, c2, c3, c4, c5, c6⟩ := c_cells bP
  have hd1 : decide ((60 : Int) < (n : Int)) = false := by simp; omega
  have hd2 : decide ((200 : Int) < ((bs c.p.cells).size : Int)) = false := by simp; omega
  have hr0 := hr.next hB0
  have HO := Lib.hid fun (W : World) => own_is 5 c.p.side c.p.clock c.p.full c.d (bs c.p.cells) A n cap W
  have q0 : (bs t).toList.isEmpty = false := by
    rw [ByteArray.toList_eq, bs_data]
    cases hh : t with
    | nil => exact absurd hh ht
    | cons => rfl
  have HPA : Hid (∀ W : World, Env W → Errs W a0 a1 a2 → Calls Tryz.prog 12 #[.string (bs t)] W fun e w' => ∃ A2 n2, e = .returned (.tuple #[.agg #[.int .i64 5, .string ⟨#[]⟩, .int .i64 0, .int .i64 0, .int .i64 0, .slice A2 0 n2, .int .i64 c.d], .int .i64 0]) ∧ RdM w' A2 [] ∧ Below W.heap.size W w') := fun W h1 h2 => by
    have := parse_got t _ h1 h2 (by omega) hpa
    exact this
  have HE := Lib.hid hE
  have HR := Lib.hid hR
  have hll : ([] : List (Int × Int)).length = 0 := rfl
  have HLL := Lib.hid hll
  have hn9 : 0 ≤ 1000000 := by omega
  clear hpc ht hpa htl hE hR hr hll hn
  go_enter Tryz.func4, Tryz.ntmps4
  go_wp2_with fail
  refine (HO.out _).mono ?_
  rintro e w1 ⟨rfl, hb1⟩
  have hB1 := hB0.trans (hb1.mono hB0.size)
  have hr1 := hr0.next hb1
  replace bP := bP.next hb1
  clear c0 c1 c2 c3 c4 c5 c6 hb1 hr0
  go_wp2_with fail
  refine (HPR.out w1 (HE.out.next hB1) hr1).mono ?_
  rintro e w2 ⟨rfl, hb2⟩
  have hB2 := hB1.trans (hb2.mono hB1.size)
  have hr2 := hr1.next hb2
  replace bP := bP.next hb2
  clear hb2 hB1 hr1 HPR
  obtain ⟨c0, c1, c2, c3, c4, c5, c6⟩ := c_cells bP
  go_upto_region 7 with (fail)
  have hV := (Below.refl w2.heap.size w2).alloc (Nat.le_refl _) (.cells #[.int .i64 5, .string ⟨#[]⟩, .int .i64 0, .int .i64 0, .int .i64 0, .slice none 0 0, .int .i64 0] 26)
  have bW := Blk.new w2 26 #[.int .i64 5, .string ⟨#[]⟩, .int .i64 0, .int .i64 0, .int .i64 0, .slice none 0 0, .int .i64 0] rfl
  replace bP := bP.alloc (.cells #[.int .i64 5, .string ⟨#[]⟩, .int .i64 0, .int .i64 0, .int .i64 0, .slice none 0 0, .int .i64 0] 26)
  clear c0 c1 c2 c3 c4 c5 c6
  generalize w2.alloc (.cells #[.int .i64 5, .string ⟨#[]⟩, .int .i64 0, .int .i64 0, .int .i64 0, .slice none 0 0, .int .i64 0] 26) = V at hV bW bP ⊢
  obtain ⟨gW, hgW⟩ : ∃ g, w2.heap.size = g := ⟨_, rfl⟩
  rw [hgW] at bW ⊢
  obtain ⟨c0, c1, c2, c3, c4, c5, c6⟩ := c_cells bP
  obtain ⟨m0, m1, m2, m3, m4, m5, m6⟩ := c_cells bW
  obtain ⟨f0, f1, f2, f3, f4, f5, f6⟩ := c_frozen bW
  go_upto_region 15 with (fail)
  clear c0 c1 c2 c3 c4 c5 c6 m0 m1 m2 m3 m4 m5 m6 f0 f1 f2 f3 f4 f5 f6 bP
  replace bW : Blk _ gW 26 #[.int .i64 5, .string ⟨#[]⟩, .int .i64 0, .int .i64 0, .int .i64 0, .slice none 0 0, .int .i64 c.d] := bW.set_ 6 (.int .i64 c.d)
  replace hV := hV.setCell (p := ⟨gW, 6, none⟩) (Nat.le_of_eq hgW) (.int .i64 c.d)
  generalize (V.setCell ⟨gW, 6, none⟩ (.int .i64 c.d)) = V at hV bW ⊢
  have hBV : Below w.heap.size w V := hB2.trans (hV.mono hB2.size)
  have hrw : RdM V none [] := fun k m h => by cases h
  clear hV hB2 hr2 hgW
  clear w2
  go_wp2_with fail
  refine (HPA.out V (HE.out.next hBV) (HR.out.next hBV)).mono ?_
  rintro e w4 ⟨A2, n2, rfl, hm2, hb4⟩
  have hB4 := cmd_step hBV hb4 #[.int .i64 5, .string ⟨#[]⟩, .int .i64 0, .int .i64 0, .int .i64 0, .slice A2 0 n2, .int .i64 c.d] 29
  have bB := Blk.new w4 29 #[.int .i64 5, .string ⟨#[]⟩, .int .i64 0, .int .i64 0, .int .i64 0, .slice A2 0 n2, .int .i64 c.d] rfl
  replace hm2 := hm2.alloc (.cells #[.int .i64 5, .string ⟨#[]⟩, .int .i64 0, .int .i64 0, .int .i64 0, .slice A2 0 n2, .int .i64 c.d] 29)
  replace hrw := (hrw.next hb4).alloc (.cells #[.int .i64 5, .string ⟨#[]⟩, .int .i64 0, .int .i64 0, .int .i64 0, .slice A2 0 n2, .int .i64 c.d] 29)
  replace bW := (bW.next hb4).alloc (.cells #[.int .i64 5, .string ⟨#[]⟩, .int .i64 0, .int .i64 0, .int .i64 0, .slice A2 0 n2, .int .i64 c.d] 29)
  clear hb4 hBV
  go_upto_region 16 with (fail)
  generalize w4.alloc (.cells #[.int .i64 5, .string ⟨#[]⟩, .int .i64 0, .int .i64 0, .int .i64 0, .slice A2 0 n2, .int .i64 c.d] 29) = V4 at hB4 bW bB hm2 hrw ⊢
  generalize w4.heap.size = gB at bB ⊢
  clear w4
  have hT2 : TwoW w gB gW 5 ⟨#[]⟩ 0 0 0 A2 none [] 0 n2 0 c.d a0 a1 a2 V4 := ⟨bB, bW, hm2, hrw, HE.out.next hB4, HR.out.next hB4, hB4⟩
  have HT2 := Lib.hid hT2
  clear bB bW hm2 hrw hT2
  have hS : V4.drew.cell? ⟨gB, 0, none⟩ = some (.int .i64 5) ∧ V4.drew.cell? ⟨gB, 1, none⟩ = some (.string ⟨#[]⟩) ∧ V4.drew.cell? ⟨gB, 2, none⟩ = some (.int .i64 0) ∧ V4.drew.cell? ⟨gB, 3, none⟩ = some (.int .i64 0) ∧ V4.drew.cell? ⟨gB, 4, none⟩ = some (.int .i64 0) ∧ V4.drew.cell? ⟨gB, 5, none⟩ = some (.slice A2 0 n2) ∧ V4.drew.cell? ⟨gB, 6, none⟩ = some (.int .i64 c.d) ∧ V4.drew.cell? ⟨gW, 0, none⟩ = some (.int .i64 5) ∧ V4.drew.cell? ⟨gW, 1, none⟩ = some (.string ⟨#[]⟩) ∧ V4.drew.cell? ⟨gW, 2, none⟩ = some (.int .i64 0) ∧ V4.drew.cell? ⟨gW, 3, none⟩ = some (.int .i64 0) ∧ V4.drew.cell? ⟨gW, 4, none⟩ = some (.int .i64 0) ∧ V4.drew.cell? ⟨gW, 5, none⟩ = some (.slice none 0 0) ∧ V4.drew.cell? ⟨gW, 6, none⟩ = some (.int .i64 c.d) ∧ TwoW w gB gW 5 ⟨#[]⟩ 0 0 0 A2 none [] 0 n2 0 c.d a0 a1 a2 V4.drew := keepW HT2.out.c (Below.refl _ _).drew
  go_region_held3 (fun W => W.cell? ⟨gB, 0, none⟩ = some (.int .i64 5) ∧ W.cell? ⟨gB, 1, none⟩ = some (.string ⟨#[]⟩) ∧ W.cell? ⟨gB, 2, none⟩ = some (.int .i64 0) ∧ W.cell? ⟨gB, 3, none⟩ = some (.int .i64 0) ∧ W.cell? ⟨gB, 4, none⟩ = some (.int .i64 0) ∧ W.cell? ⟨gB, 5, none⟩ = some (.slice A2 0 n2) ∧ W.cell? ⟨gB, 6, none⟩ = some (.int .i64 c.d) ∧ W.cell? ⟨gW, 0, none⟩ = some (.int .i64 5) ∧ W.cell? ⟨gW, 1, none⟩ = some (.string ⟨#[]⟩) ∧ W.cell? ⟨gW, 2, none⟩ = some (.int .i64 0) ∧ W.cell? ⟨gW, 3, none⟩ = some (.int .i64 0) ∧ W.cell? ⟨gW, 4, none⟩ = some (.int .i64 0) ∧ W.cell? ⟨gW, 5, none⟩ = some (.slice none 0 0) ∧ W.cell? ⟨gW, 6, none⟩ = some (.int .i64 c.d) ∧ TwoW w gB gW 5 ⟨#[]⟩ 0 0 0 A2 none [] 0 n2 0 c.d a0 a1 a2 W)
    (first | exact hS | with_reducible assumption | exact keepW (by assumption) hb2)
    (first | (go_at_call 14; refine (told_is _ _ _ _ _ _ _ _ _ _).mono ?_; rintro e w5 ⟨rfl, hb2⟩) | (go_at_call 13; refine (sameW (by assumption) HLL.out hn9).mono ?_; rintro e w5 ⟨rfl, hb2⟩) | (go_at_call 8; refine (liveW (by assumption)).mono ?_; rintro e w5 ⟨rfl, hb2⟩))
  all_goals
    rename_i hH
    have hBF := hH.2.2.2.2.2.2.2.2.2.2.2.2.2.2.2.2.2.2.2.2
    clear hS hH
    go_wp2_with fail
    go_ret
    exact ⟨rfl, hBF⟩
set_option maxRecDepth 100000 in
set_option maxHeartbeats 8000000 in
theorem bare_ (c : Cmd) (A : Option Addr) (n cap : Nat) {w : World} {a0 a1 a2 : Addr} (hE : Env w) (hR : Errs w a0 a1 a2) (hr : RdM w A c.l) (hn : c.l.length = n) (h60 : ¬ 60 < n) (h200 : ¬ 200 < (bs c.p.cells).size) (t : List UInt8) (hpc : printC c = t) (ht : t ≠ []) (htl : t.length ≤ 4096) (k3 : c.k ≠ 3) (k4 : c.k ≠ 4) (k5 : c.k ≠ 5) (hpa : parseL t = .ok ⟨c.k, zeroP, [], 0⟩) : Calls Tryz.prog 4 #[.agg #[.int .i64 c.k, .string (bs c.p.cells), .int .i64 c.p.side, .int .i64 c.p.clock, .int .i64 c.p.full, .slice A n cap, .int .i64 c.d]] w (Gives w (.bool true)) := by
  have HPR := Lib.hid fun (W : World) (h1 : Env W) (h2 : RdM W A c.l) => printL_any c A n cap W h1 h2 hn (by omega)
  rw [hpc] at HPR
  have k3' : (c.k == 3) = false := by rw [beq_eq_false_iff_ne]; exact k3
  have k4' : (c.k == 4) = false := by rw [beq_eq_false_iff_ne]; exact k4
  have k5' : (c.k == 5) = false := by rw [beq_eq_false_iff_ne]; exact k5
  clear k3 k4 k5
  unfold Gives
  obtain ⟨W0, hW0⟩ : ∃ W0, w.alloc (.cells #[.int .i64 c.k, .string (bs c.p.cells), .int .i64 c.p.side, .int .i64 c.p.clock, .int .i64 c.p.full, .slice A n cap, .int .i64 c.d] 26) = W0 := ⟨_, rfl⟩
  have hB0 : Below w.heap.size w W0 := by rw [← hW0]; exact (by repeat (first | exact Below.refl _ _ | (refine Below.setCell ?_ (by first | omega | (simp; done) | (simp; omega) | (simp at *; omega)) _) | (refine Below.alloc ?_ (by first | omega | (simp; done) | (simp; omega) | (simp at *; omega)) _) | refine Below.drew ?_ | (refine below_drewN ?_ _) | (refine Below.trans ?_ (Below.mono (by assumption) (by first | omega | (simp; done) | (simp; omega) | (simp at *; omega))))))
  have bP : Blk W0 w.heap.size 26 #[.int .i64 c.k, .string (bs c.p.cells), .int .i64 c.p.side, .int .i64 c.p.clock, .int .i64 c.p.full, .slice A n cap, .int .i64 c.d] := by rw [← hW0]; exact Blk.new _ _ _ rfl
  obtain ⟨c0, c1, c2, c3, c4, c5, c6⟩ := c_cells bP
  have hd1 : decide ((60 : Int) < (n : Int)) = false := by simp; omega
  have hd2 : decide ((200 : Int) < ((bs c.p.cells).size : Int)) = false := by simp; omega
  have hr0 := hr.next hB0
  have HO := Lib.hid fun (W : World) => own_is c.k c.p.side c.p.clock c.p.full c.d (bs c.p.cells) A n cap W
  have q0 : (bs t).toList.isEmpty = false := by
    rw [ByteArray.toList_eq, bs_data]
    cases hh : t with
    | nil => exact absurd hh ht
    | cons => rfl
  have HPA : Hid (∀ W : World, Env W → Errs W a0 a1 a2 → Calls Tryz.prog 12 #[.string (bs t)] W fun e w' => ∃ A2 n2, e = .returned (.tuple #[.agg #[.int .i64 c.k, .string ⟨#[]⟩, .int .i64 0, .int .i64 0, .int .i64 0, .slice A2 0 n2, .int .i64 0], .int .i64 0]) ∧ RdM w' A2 [] ∧ Below W.heap.size W w') := fun W h1 h2 => by
    have := parse_got t _ h1 h2 (by omega) hpa
    exact this
  have HE := Lib.hid hE
  have HR := Lib.hid hR
  have hll : ([] : List (Int × Int)).length = 0 := rfl
  have HLL := Lib.hid hll
  have hn9 : 0 ≤ 1000000 := by omega
  clear hpc ht hpa htl hE hR hr hll hn
  go_enter Tryz.func4, Tryz.ntmps4
  go_wp2_with fail
  refine (HO.out _).mono ?_
  rintro e w1 ⟨rfl, hb1⟩
  have hB1 := hB0.trans (hb1.mono hB0.size)
  have hr1 := hr0.next hb1
  replace bP := bP.next hb1
  clear c0 c1 c2 c3 c4 c5 c6 hb1 hr0
  go_wp2_with fail
  refine (HPR.out w1 (HE.out.next hB1) hr1).mono ?_
  rintro e w2 ⟨rfl, hb2⟩
  have hB2 := hB1.trans (hb2.mono hB1.size)
  have hr2 := hr1.next hb2
  replace bP := bP.next hb2
  clear hb2 hB1 hr1 HPR
  obtain ⟨c0, c1, c2, c3, c4, c5, c6⟩ := c_cells bP
  go_upto_region 7 with (fail)
  have hV := (Below.refl w2.heap.size w2).alloc (Nat.le_refl _) (.cells #[.int .i64 c.k, .string ⟨#[]⟩, .int .i64 0, .int .i64 0, .int .i64 0, .slice none 0 0, .int .i64 0] 26)
  have bW := Blk.new w2 26 #[.int .i64 c.k, .string ⟨#[]⟩, .int .i64 0, .int .i64 0, .int .i64 0, .slice none 0 0, .int .i64 0] rfl
  replace bP := bP.alloc (.cells #[.int .i64 c.k, .string ⟨#[]⟩, .int .i64 0, .int .i64 0, .int .i64 0, .slice none 0 0, .int .i64 0] 26)
  clear c0 c1 c2 c3 c4 c5 c6
  generalize w2.alloc (.cells #[.int .i64 c.k, .string ⟨#[]⟩, .int .i64 0, .int .i64 0, .int .i64 0, .slice none 0 0, .int .i64 0] 26) = V at hV bW bP ⊢
  obtain ⟨gW, hgW⟩ : ∃ g, w2.heap.size = g := ⟨_, rfl⟩
  rw [hgW] at bW ⊢
  obtain ⟨c0, c1, c2, c3, c4, c5, c6⟩ := c_cells bP
  obtain ⟨m0, m1, m2, m3, m4, m5, m6⟩ := c_cells bW
  obtain ⟨f0, f1, f2, f3, f4, f5, f6⟩ := c_frozen bW
  go_upto_region 15 with (fail)
  clear c0 c1 c2 c3 c4 c5 c6 m0 m1 m2 m3 m4 m5 m6 f0 f1 f2 f3 f4 f5 f6 bP
  have hBV : Below w.heap.size w V := hB2.trans (hV.mono hB2.size)
  have hrw : RdM V none [] := fun k m h => by cases h
  clear hV hB2 hr2 hgW
  clear w2
  go_wp2_with fail
  refine (HPA.out V (HE.out.next hBV) (HR.out.next hBV)).mono ?_
  rintro e w4 ⟨A2, n2, rfl, hm2, hb4⟩
  have hB4 := cmd_step hBV hb4 #[.int .i64 c.k, .string ⟨#[]⟩, .int .i64 0, .int .i64 0, .int .i64 0, .slice A2 0 n2, .int .i64 0] 29
  have bB := Blk.new w4 29 #[.int .i64 c.k, .string ⟨#[]⟩, .int .i64 0, .int .i64 0, .int .i64 0, .slice A2 0 n2, .int .i64 0] rfl
  replace hm2 := hm2.alloc (.cells #[.int .i64 c.k, .string ⟨#[]⟩, .int .i64 0, .int .i64 0, .int .i64 0, .slice A2 0 n2, .int .i64 0] 29)
  replace hrw := (hrw.next hb4).alloc (.cells #[.int .i64 c.k, .string ⟨#[]⟩, .int .i64 0, .int .i64 0, .int .i64 0, .slice A2 0 n2, .int .i64 0] 29)
  replace bW := (bW.next hb4).alloc (.cells #[.int .i64 c.k, .string ⟨#[]⟩, .int .i64 0, .int .i64 0, .int .i64 0, .slice A2 0 n2, .int .i64 0] 29)
  clear hb4 hBV
  go_upto_region 16 with (fail)
  generalize w4.alloc (.cells #[.int .i64 c.k, .string ⟨#[]⟩, .int .i64 0, .int .i64 0, .int .i64 0, .slice A2 0 n2, .int .i64 0] 29) = V4 at hB4 bW bB hm2 hrw ⊢
  generalize w4.heap.size = gB at bB ⊢
  clear w4
  have hT2 : TwoW w gB gW c.k ⟨#[]⟩ 0 0 0 A2 none [] 0 n2 0 0 a0 a1 a2 V4 := ⟨bB, bW, hm2, hrw, HE.out.next hB4, HR.out.next hB4, hB4⟩
  have HT2 := Lib.hid hT2
  clear bB bW hm2 hrw hT2
  have hS : V4.drew.cell? ⟨gB, 0, none⟩ = some (.int .i64 c.k) ∧ V4.drew.cell? ⟨gB, 1, none⟩ = some (.string ⟨#[]⟩) ∧ V4.drew.cell? ⟨gB, 2, none⟩ = some (.int .i64 0) ∧ V4.drew.cell? ⟨gB, 3, none⟩ = some (.int .i64 0) ∧ V4.drew.cell? ⟨gB, 4, none⟩ = some (.int .i64 0) ∧ V4.drew.cell? ⟨gB, 5, none⟩ = some (.slice A2 0 n2) ∧ V4.drew.cell? ⟨gB, 6, none⟩ = some (.int .i64 0) ∧ V4.drew.cell? ⟨gW, 0, none⟩ = some (.int .i64 c.k) ∧ V4.drew.cell? ⟨gW, 1, none⟩ = some (.string ⟨#[]⟩) ∧ V4.drew.cell? ⟨gW, 2, none⟩ = some (.int .i64 0) ∧ V4.drew.cell? ⟨gW, 3, none⟩ = some (.int .i64 0) ∧ V4.drew.cell? ⟨gW, 4, none⟩ = some (.int .i64 0) ∧ V4.drew.cell? ⟨gW, 5, none⟩ = some (.slice none 0 0) ∧ V4.drew.cell? ⟨gW, 6, none⟩ = some (.int .i64 0) ∧ TwoW w gB gW c.k ⟨#[]⟩ 0 0 0 A2 none [] 0 n2 0 0 a0 a1 a2 V4.drew := keepW HT2.out.c (Below.refl _ _).drew
  go_region_held3 (fun W => W.cell? ⟨gB, 0, none⟩ = some (.int .i64 c.k) ∧ W.cell? ⟨gB, 1, none⟩ = some (.string ⟨#[]⟩) ∧ W.cell? ⟨gB, 2, none⟩ = some (.int .i64 0) ∧ W.cell? ⟨gB, 3, none⟩ = some (.int .i64 0) ∧ W.cell? ⟨gB, 4, none⟩ = some (.int .i64 0) ∧ W.cell? ⟨gB, 5, none⟩ = some (.slice A2 0 n2) ∧ W.cell? ⟨gB, 6, none⟩ = some (.int .i64 0) ∧ W.cell? ⟨gW, 0, none⟩ = some (.int .i64 c.k) ∧ W.cell? ⟨gW, 1, none⟩ = some (.string ⟨#[]⟩) ∧ W.cell? ⟨gW, 2, none⟩ = some (.int .i64 0) ∧ W.cell? ⟨gW, 3, none⟩ = some (.int .i64 0) ∧ W.cell? ⟨gW, 4, none⟩ = some (.int .i64 0) ∧ W.cell? ⟨gW, 5, none⟩ = some (.slice none 0 0) ∧ W.cell? ⟨gW, 6, none⟩ = some (.int .i64 0) ∧ TwoW w gB gW c.k ⟨#[]⟩ 0 0 0 A2 none [] 0 n2 0 0 a0 a1 a2 W)
    (first | exact hS | with_reducible assumption | exact keepW (by assumption) hb2)
    (first | (go_at_call 14; refine (told_is _ _ _ _ _ _ _ _ _ _).mono ?_; rintro e w5 ⟨rfl, hb2⟩) | (go_at_call 13; refine (sameW (by assumption) HLL.out hn9).mono ?_; rintro e w5 ⟨rfl, hb2⟩) | (go_at_call 8; refine (liveW (by assumption)).mono ?_; rintro e w5 ⟨rfl, hb2⟩))
  all_goals
    rename_i hH
    have hBF := hH.2.2.2.2.2.2.2.2.2.2.2.2.2.2.2.2.2.2.2.2
    clear hS hH
    go_wp2_with fail
    go_ret
    exact ⟨rfl, hBF⟩
theorem walk (c : Cmd) (A : Option Addr) (n cap : Nat) {w : World} {a0 a1 a2 : Addr} (hE : Env w) (hR : Errs w a0 a1 a2) (hr : RdM w A c.l) (hn : c.l.length = n) : Calls Tryz.prog 4 #[.agg #[.int .i64 c.k, .string (bs c.p.cells), .int .i64 c.p.side, .int .i64 c.p.clock, .int .i64 c.p.full, .slice A n cap, .int .i64 c.d]] w (Gives w (.bool true)) := by
  by_cases h60 : 60 < n
  · exact many c A n cap hE hR hr hn h60
  · by_cases h200 : 200 < (bs c.p.cells).size
    · exact long c A n cap hE hR hr hn h60 h200
    · by_cases hpc : printC c = []
      · exact none_ c A n cap hE hR hr hn h60 h200 hpc
      · have hl : (printC c).length ≤ 4096 := Ln.print_size (by omega)
        have hb := read_back (fun e => hpc (print_ne.2 e)) (show c.l.length ≤ 600 by omega)
        by_cases k3 : c.k = 3
        · exact set_ c A n cap hE hR hr hn h60 h200 _ rfl hpc hl k3 (by rw [hb]; unfold namedC; rw [if_pos k3])
        · by_cases k4 : c.k = 4
          · exact ban_ c A n cap hE hR hr hn h60 h200 _ rfl hpc hl k4 (by rw [hb]; unfold namedC; rw [if_neg k3, if_pos k4])
          · by_cases k5 : c.k = 5
            · exact go_ c A n cap hE hR hr hn h60 h200 _ rfl hpc hl k5 (by rw [hb]; unfold namedC; rw [if_neg k3, if_neg k4, if_pos k5])
            · exact bare_ c A n cap hE hR hr hn h60 h200 _ rfl hpc hl k3 k4 k5 (by rw [hb]; unfold namedC; rw [if_neg k3, if_neg k4, if_neg k5])
end Go.Proofs.YtpogpjebhnoncabGreatDoor.lback
