/- A position behind a move, or why there is none. -/
import Derived.Test.YtbfkkedcjodceaaDoorPseudoF
namespace Go.Proofs.YtbfkkedcjodceaaDoor
open Go.RowKit Go.Shelf
open M (S)

/-- What the document says of a move of a position: the position behind it, what was taken, the error's number. -/
def applyV (s : ByteArray) (side clock full a b : Int) : Value :=
  if checkN s side clock full ≠ 0 then .tuple #[.agg #[.string ⟨#[]⟩, .int .i64 0, .int .i64 0, .int .i64 0], .int .u8 0, .int .i64 (checkN s side clock full)]
  else if isM s side a b = true ∧ kindN (bAt s b.toNat) ≠ 75 then .tuple #[.agg #[.string (movedS s a.toNat b.toNat (bAt s a.toNat)), .int .i64 (1 - side), .int .i64 (clockA s clock b.toNat), .int .i64 (fullA side full)], .int .u8 (takenN s b.toNat : Nat), .int .i64 0]
  else .tuple #[.agg #[.string ⟨#[]⟩, .int .i64 0, .int .i64 0, .int .i64 0], .int .u8 0, .int .i64 7]
theorem isM_parts {s : ByteArray} {side a b : Int} (h : isM s side a b = true) : isB s = true ∧ (0 ≤ a ∧ a < 90) ∧ (0 ≤ b ∧ b < 90) ∧ canB s a.toNat b.toNat = true := by
  simp only [isM, canI, sqI, Bool.and_eq_true, decide_eq_true_eq] at h
  exact ⟨h.1.1.1.1, h.1.1.1.2, h.1.1.2, h.1.2⟩
theorem ppos_cells {W : World} {g : Nat} {t : TypeId} {s : ByteArray} {a b c : Int} (h : Blk W g t #[.string s, .int .i64 a, .int .i64 b, .int .i64 c]) : W.cell? ⟨g, 0, none⟩ = some (.string s) ∧ W.cell? ⟨g, 1, none⟩ = some (.int .i64 a) ∧ W.cell? ⟨g, 2, none⟩ = some (.int .i64 b) ∧ W.cell? ⟨g, 3, none⟩ = some (.int .i64 c) := ⟨h.cell 0, h.cell 1, h.cell 2, h.cell 3⟩
theorem ppos_frozen {W : World} {g : Nat} {t : TypeId} {cs : Array Value} (h : Blk W g t cs) : W.frozen? ⟨g, 0, none⟩ = false ∧ W.frozen? ⟨g, 1, none⟩ = false ∧ W.frozen? ⟨g, 2, none⟩ = false ∧ W.frozen? ⟨g, 3, none⟩ = false := ⟨h.frozen 0, h.frozen 1, h.frozen 2, h.frozen 3⟩
/-- The world at the start: the position, the move, the results. -/
theorem ap_start {w W1 : World} {x y z u m n : Value} (h : ((w.alloc (.cells #[x, y, z, u] 23)).alloc (.cells #[m, n] 30)).alloc (.cells #[.string ⟨#[]⟩, .int .i64 0, .int .i64 0, .int .i64 0] 23) = W1) :
    Below w.heap.size w W1 ∧ Blk W1 w.heap.size 23 #[x, y, z, u] ∧ Blk W1 (w.heap.size + 1) 30 #[m, n] ∧ Blk W1 (w.heap.size + 2) 23 #[.string ⟨#[]⟩, .int .i64 0, .int .i64 0, .int .i64 0] := by
  subst h
  exact ⟨(by repeat (first | exact Below.refl _ _ | (refine Below.setCell ?_ (by first | omega | (simp; done) | (simp; omega) | (simp at *; omega)) _) | (refine Below.alloc ?_ (by first | omega | (simp; done) | (simp; omega) | (simp at *; omega)) _) | refine Below.drew ?_ | (refine below_drewN ?_ _) | (refine Below.trans ?_ (Below.mono (by assumption) (by first | omega | (simp; done) | (simp; omega) | (simp at *; omega)))))), ((Blk.new _ _ _ rfl).alloc _).alloc _, (Blk.new _ _ _ (by simp)).alloc _, Blk.new _ _ _ (by simp)⟩
theorem results_cell_tmp_tmp {fn : Func} {p u v : Tmp} {ty : TypeId} (h : fn.results = #[.cell p ty, .tmp u, .tmp v]) (tmps : Array Value) (P : Program) (w : World) :
    (results fn tmps).run P w = ((asAddr (tmps.getD p undef)).run P w).andThen fun a w₁ => ((loadVar ty a).run P w₁).andThen fun x w₂ => .ok (.tuple #[x, tmps.getD u undef, tmps.getD v undef]) w₂ := by
  simp only [results, h]
  simp [Sem.run_bind, Result.andThen]
theorem res_pos3 {fn : Func} {p u v : Tmp} (h : fn.results = #[.cell p 23, .tmp u, .tmp v]) (tmps : Array Value) (w : World) {g : Nat} (hp : tmps.getD p undef = .pointer (some ⟨g, 0, none⟩)) {t : TypeId} {a b c d : Value} (hb : Blk w g t #[a, b, c, d]) :
    (results fn tmps).run Tryd.prog w = .ok (.tuple #[.agg #[a, b, c, d], tmps.getD u undef, tmps.getD v undef]) w := by
  rw [results_cell_tmp_tmp h, hp]
  have h1 := run_loadVar_row (P := Tryd.prog) w g t 23 #[a, b, c, d] (0, 0) _ hb Tryd.underlying23 rfl (by kernel_rfl)
  simp [asAddr, h1, Result.andThen]
set_option maxRecDepth 100000 in
set_option maxHeartbeats 4000000 in
theorem apply_bad (s : ByteArray) (side clock full a b k : Int) (w : World) (hc : (checkN s side clock full : Int) = k) (h0 : (k != 0) = true) :
    Calls Tryd.prog 22 #[.agg #[.string s, .int .i64 side, .int .i64 clock, .int .i64 full], .agg #[.int .i64 a, .int .i64 b]] w (Gives w (.tuple #[.agg #[.string ⟨#[]⟩, .int .i64 0, .int .i64 0, .int .i64 0], .int .u8 0, .int .i64 k])) := by
  unfold Gives
  obtain ⟨W1, hW1⟩ : ∃ W1, ((w.alloc (.cells #[.string s, .int .i64 side, .int .i64 clock, .int .i64 full] 23)).alloc (.cells #[.int .i64 a, .int .i64 b] 30)).alloc (.cells #[.string ⟨#[]⟩, .int .i64 0, .int .i64 0, .int .i64 0] 23) = W1 := ⟨_, rfl⟩
  obtain ⟨hB, bP, bM, bR⟩ := ap_start hW1
  obtain ⟨p0, p1, p2, p3⟩ := ppos_cells bP
  have HC := Lib.hid hc
  have HW := Lib.hid hW1
  clear hc hW1
  go_enter Tryd.func22, Tryd.ntmps22
  go_wp2_with fail
  rw [HW.out]
  have f0 := ppos_frozen bR
  go_wp2_with fail
  refine (check_is s side clock full k _ HC.out).mono ?_
  rintro e w1 ⟨rfl, hb⟩
  have bR1 := bR.next hb
  obtain ⟨g0, g1, g2, g3⟩ := ppos_cells bR1
  obtain ⟨f0, f1, f2, f3⟩ := ppos_frozen bR1
  go_wp2_with fail
  refine bodyPost_ret (res_pos3 rfl _ _ rfl (mvEnd (bR1) (by omega) (hB.trans (hb.mono hB.size))).1) rfl ⟨rfl, (mvEnd (bR1) (by omega) (hB.trans (hb.mono hB.size))).2⟩
set_option maxRecDepth 100000 in
set_option maxHeartbeats 4000000 in
theorem apply_not (s : ByteArray) (side clock full a b : Int) (w : World) (hc : (checkN s side clock full : Int) = 0) (h : isM s side a b = false) :
    Calls Tryd.prog 22 #[.agg #[.string s, .int .i64 side, .int .i64 clock, .int .i64 full], .agg #[.int .i64 a, .int .i64 b]] w (Gives w (.tuple #[.agg #[.string ⟨#[]⟩, .int .i64 0, .int .i64 0, .int .i64 0], .int .u8 0, .int .i64 7])) := by
  unfold Gives
  obtain ⟨W1, hW1⟩ : ∃ W1, ((w.alloc (.cells #[.string s, .int .i64 side, .int .i64 clock, .int .i64 full] 23)).alloc (.cells #[.int .i64 a, .int .i64 b] 30)).alloc (.cells #[.string ⟨#[]⟩, .int .i64 0, .int .i64 0, .int .i64 0] 23) = W1 := ⟨_, rfl⟩
  obtain ⟨hB, bP, bM, bR⟩ := ap_start hW1
  obtain ⟨p0, p1, p2, p3⟩ := ppos_cells bP
  have HC := Lib.hid hc
  have HM := Lib.hid h
  have HW := Lib.hid hW1
  clear hc h hW1
  obtain ⟨m0, m1⟩ : W1.cell? ⟨w.heap.size + 1, 0, none⟩ = some (.int .i64 a) ∧ W1.cell? ⟨w.heap.size + 1, 1, none⟩ = some (.int .i64 b) := ⟨bM.cell 0, bM.cell 1⟩
  go_enter Tryd.func22, Tryd.ntmps22
  go_wp2_with fail
  rw [HW.out]
  go_wp2_with fail
  refine (check_is s side clock full 0 _ HC.out).mono ?_
  rintro e w1 ⟨rfl, hb⟩
  have bR1 := bR.next hb
  obtain ⟨q0, q1, q2, q3⟩ := ppos_cells (bP.next hb)
  obtain ⟨m0, m1⟩ : w1.cell? ⟨w.heap.size + 1, 0, none⟩ = some (.int .i64 a) ∧ w1.cell? ⟨w.heap.size + 1, 1, none⟩ = some (.int .i64 b) := ⟨(bM.next hb).cell 0, (bM.next hb).cell 1⟩
  go_wp2_with fail
  refine (isMove_is s side clock full a b false _ HM.out).mono ?_
  rintro e w2 ⟨rfl, hb2⟩
  have hB2 := (hB.trans (hb.mono hB.size)).trans (hb2.mono (hB.trans (hb.mono hB.size)).size)
  have bR2 := bR1.next hb2
  obtain ⟨g0, g1, g2, g3⟩ := ppos_cells bR2
  obtain ⟨f0, f1, f2, f3⟩ := ppos_frozen bR2
  go_wp2_with fail
  refine bodyPost_ret (res_pos3 rfl _ _ rfl (mvEnd (bR2) (by omega) (hB2)).1) rfl ⟨rfl, (mvEnd (bR2) (by omega) (hB2)).2⟩
set_option maxRecDepth 100000 in
set_option maxHeartbeats 4000000 in
theorem apply_king (s : ByteArray) (side clock full : Int) (a b x : Nat) (w : World) (hc : (checkN s side clock full : Int) = 0) (h : isM s side a b = true) (hbb : b < 90) (hs : s.size = 90) (hx : bAt s b = x) (hk : kindN x = 75) :
    Calls Tryd.prog 22 #[.agg #[.string s, .int .i64 side, .int .i64 clock, .int .i64 full], .agg #[.int .i64 (a : Int), .int .i64 (b : Int)]] w (Gives w (.tuple #[.agg #[.string ⟨#[]⟩, .int .i64 0, .int .i64 0, .int .i64 0], .int .u8 0, .int .i64 7])) := by
  unfold Gives
  obtain ⟨W1, hW1⟩ : ∃ W1, ((w.alloc (.cells #[.string s, .int .i64 side, .int .i64 clock, .int .i64 full] 23)).alloc (.cells #[.int .i64 (a : Int), .int .i64 (b : Int)] 30)).alloc (.cells #[.string ⟨#[]⟩, .int .i64 0, .int .i64 0, .int .i64 0] 23) = W1 := ⟨_, rfl⟩
  obtain ⟨hB, bP, bM, bR⟩ := ap_start hW1
  obtain ⟨p0, p1, p2, p3⟩ := ppos_cells bP
  have HC := Lib.hid hc
  have HM := Lib.hid h
  have HW := Lib.hid hW1
  clear hc h hW1
  have hbs : b < s.size := by omega
  have hbk : s[b].toNat = x := (bAt_eq s b hbs).trans hx
  have hb0 : (0 : Int) ≤ (b : Int) := by omega
  have hb9 : (b : Int) < 90 := by omega
  have HK := Lib.hid hk
  clear hx hk
  obtain ⟨m0, m1⟩ : W1.cell? ⟨w.heap.size + 1, 0, none⟩ = some (.int .i64 (a : Int)) ∧ W1.cell? ⟨w.heap.size + 1, 1, none⟩ = some (.int .i64 (b : Int)) := ⟨bM.cell 0, bM.cell 1⟩
  go_enter Tryd.func22, Tryd.ntmps22
  go_wp2_with fail
  rw [HW.out]
  go_wp2_with fail
  refine (check_is s side clock full 0 _ HC.out).mono ?_
  rintro e w1 ⟨rfl, hb⟩
  have bR1 := bR.next hb
  obtain ⟨q0, q1, q2, q3⟩ := ppos_cells (bP.next hb)
  obtain ⟨m0, m1⟩ : w1.cell? ⟨w.heap.size + 1, 0, none⟩ = some (.int .i64 (a : Int)) ∧ w1.cell? ⟨w.heap.size + 1, 1, none⟩ = some (.int .i64 (b : Int)) := ⟨(bM.next hb).cell 0, (bM.next hb).cell 1⟩
  go_wp2_with fail
  refine (isMove_is s side clock full a b true _ HM.out).mono ?_
  rintro e w2 ⟨rfl, hb2⟩
  have hB2 := (hB.trans (hb.mono hB.size)).trans (hb2.mono (hB.trans (hb.mono hB.size)).size)
  have bR2 := bR1.next hb2
  have bP2 := (bP.next hb).next hb2
  have bM2 := (bM.next hb).next hb2
  have t0 : w2.cell? ⟨w.heap.size, 0, none⟩ = some (.string s) := bP2.cell 0
  have t1 : w2.cell? ⟨w.heap.size + 1, 1, none⟩ = some (.int .i64 (b : Int)) := bM2.cell 1
  obtain ⟨g0, g1, g2, g3⟩ := ppos_cells bR2
  obtain ⟨f0, f1, f2, f3⟩ := ppos_frozen bR2
  go_wp2_with fail
  refine (kind_is x 75 _ HK.out).mono ?_
  rintro e w3 ⟨rfl, rfl⟩
  go_wp2_with fail
  refine bodyPost_ret (res_pos3 rfl _ _ rfl (mvEnd (bR2) (by omega) (hB2)).1) rfl ⟨rfl, (mvEnd (bR2) (by omega) (hB2)).2⟩
set_option maxRecDepth 100000 in
set_option maxHeartbeats 4000000 in
theorem apply_moves (s : ByteArray) (side clock full : Int) (a b c x k : Nat) (w : World) (hc : (checkN s side clock full : Int) = 0) (h : isM s side a b = true) (ha : a < 90) (hbb : b < 90) (hs : s.size = 90) (hx : bAt s b = x) (hk : kindN x = k) (hkn : ((k : Int) == 75) = false) (hab : a ≠ b) (hside : side = 0 ∨ side = 1) (h0 : 0 ≤ clock) (h1 : clock ≤ 120) (h2 : 1 ≤ full) (h3 : full ≤ 9999) (hcc : bAt s a = c) :
    Calls Tryd.prog 22 #[.agg #[.string s, .int .i64 side, .int .i64 clock, .int .i64 full], .agg #[.int .i64 (a : Int), .int .i64 (b : Int)]] w (Gives w (.tuple #[.agg #[.string (movedS s a b c), .int .i64 (1 - side), .int .i64 (clockA s clock b), .int .i64 (fullA side full)], .int .u8 (takenN s b : Nat), .int .i64 0])) := by
  unfold Gives
  obtain ⟨W1, hW1⟩ : ∃ W1, ((w.alloc (.cells #[.string s, .int .i64 side, .int .i64 clock, .int .i64 full] 23)).alloc (.cells #[.int .i64 (a : Int), .int .i64 (b : Int)] 30)).alloc (.cells #[.string ⟨#[]⟩, .int .i64 0, .int .i64 0, .int .i64 0] 23) = W1 := ⟨_, rfl⟩
  obtain ⟨hB, bP, bM, bR⟩ := ap_start hW1
  obtain ⟨p0, p1, p2, p3⟩ := ppos_cells bP
  have HC := Lib.hid hc
  have HM := Lib.hid h
  have HW := Lib.hid hW1
  clear hc h hW1
  have hbs : b < s.size := by omega
  have hbk : s[b].toNat = x := (bAt_eq s b hbs).trans hx
  have hb0 : (0 : Int) ≤ (b : Int) := by omega
  have hb9 : (b : Int) < 90 := by omega
  have HK := Lib.hid hk
  have HMV := Lib.hid fun W => moved_is s side clock full a b c x W hs ha hbb hab hside h0 h1 h2 h3 hcc hx
  clear hx hk hside
  obtain ⟨m0, m1⟩ : W1.cell? ⟨w.heap.size + 1, 0, none⟩ = some (.int .i64 (a : Int)) ∧ W1.cell? ⟨w.heap.size + 1, 1, none⟩ = some (.int .i64 (b : Int)) := ⟨bM.cell 0, bM.cell 1⟩
  go_enter Tryd.func22, Tryd.ntmps22
  go_wp2_with fail
  rw [HW.out]
  go_wp2_with fail
  refine (check_is s side clock full 0 _ HC.out).mono ?_
  rintro e w1 ⟨rfl, hb⟩
  have bR1 := bR.next hb
  obtain ⟨q0, q1, q2, q3⟩ := ppos_cells (bP.next hb)
  obtain ⟨m0, m1⟩ : w1.cell? ⟨w.heap.size + 1, 0, none⟩ = some (.int .i64 (a : Int)) ∧ w1.cell? ⟨w.heap.size + 1, 1, none⟩ = some (.int .i64 (b : Int)) := ⟨(bM.next hb).cell 0, (bM.next hb).cell 1⟩
  go_wp2_with fail
  refine (isMove_is s side clock full a b true _ HM.out).mono ?_
  rintro e w2 ⟨rfl, hb2⟩
  have hB2 := (hB.trans (hb.mono hB.size)).trans (hb2.mono (hB.trans (hb.mono hB.size)).size)
  have bR2 := bR1.next hb2
  have bP2 := (bP.next hb).next hb2
  have bM2 := (bM.next hb).next hb2
  have t0 : w2.cell? ⟨w.heap.size, 0, none⟩ = some (.string s) := bP2.cell 0
  have t1 : w2.cell? ⟨w.heap.size + 1, 1, none⟩ = some (.int .i64 (b : Int)) := bM2.cell 1
  have t2 : w2.cell? ⟨w.heap.size, 1, none⟩ = some (.int .i64 side) := bP2.cell 1
  have t3 : w2.cell? ⟨w.heap.size, 2, none⟩ = some (.int .i64 clock) := bP2.cell 2
  have t4 : w2.cell? ⟨w.heap.size, 3, none⟩ = some (.int .i64 full) := bP2.cell 3
  have t5 : w2.cell? ⟨w.heap.size + 1, 0, none⟩ = some (.int .i64 (a : Int)) := bM2.cell 0
  go_wp2_with fail
  refine (kind_is x k _ HK.out).mono ?_
  rintro e w3 ⟨rfl, rfl⟩
  go_wp2_with fail
  refine (HMV.out _).mono ?_
  rintro e w4 ⟨rfl, hb4⟩
  obtain ⟨W5, hW5⟩ : ∃ W5, w4.alloc (.cells #[.string (movedS s a b c), .int .i64 (1 - side), .int .i64 (clockA s clock b), .int .i64 (fullA side full)] 23) = W5 := ⟨_, rfl⟩
  have hB4 := hB2.trans (hb4.mono hB2.size)
  have hB5 : Below w.heap.size w W5 := by rw [← hW5]; exact hB4.alloc hB4.size _
  have bR5 : Blk W5 (w.heap.size + 2) 23 #[.string ⟨#[]⟩, .int .i64 0, .int .i64 0, .int .i64 0] := by rw [← hW5]; exact (bR2.next hb4).alloc _
  have bQ5 : Blk W5 w4.heap.size 23 #[.string (movedS s a b c), .int .i64 (1 - side), .int .i64 (clockA s clock b), .int .i64 (fullA side full)] := by rw [← hW5]; exact Blk.new _ _ _ rfl
  obtain ⟨g0, g1, g2, g3⟩ := ppos_cells bR5
  obtain ⟨f0, f1, f2, f3⟩ := ppos_frozen bR5
  obtain ⟨u0, u1, u2, u3⟩ := ppos_cells bQ5
  have n1 : w.heap.size + 1 + 1 ≠ w4.heap.size := by have := (bR2.next hb4).lt; omega
  have n2 : w4.heap.size ≠ w.heap.size + 1 + 1 := fun e => n1 e.symm
  go_wp2_with fail
  refine bodyPost_ret (res_pos3 rfl _ _ rfl (mvEnd (bR5) (by omega) (hB5)).1) rfl ⟨rfl, (mvEnd (bR5) (by omega) (hB5)).2⟩
theorem apply_is (s : ByteArray) (side clock full a b : Int) (v : Value) (w : World) (h : applyV s side clock full a b = v) :
    Calls Tryd.prog 22 #[.agg #[.string s, .int .i64 side, .int .i64 clock, .int .i64 full], .agg #[.int .i64 a, .int .i64 b]] w (Gives w v) := by
  subst h
  unfold applyV
  by_cases hc : checkN s side clock full = 0
  · rw [if_neg (fun e => e hc)]
    have hc' : (checkN s side clock full : Int) = 0 := by rw [hc]; rfl
    have hp := (check_zero hc').1
    cases hm : isM s side a b
    · rw [if_neg (by simp)]
      exact apply_not s side clock full a b w hc' hm
    · obtain ⟨hB, ⟨ha0, ha9⟩, ⟨hb0, hb9⟩, hcan⟩ := isM_parts hm
      obtain ⟨m, rfl⟩ : ∃ m : Nat, a = m := ⟨a.toNat, by omega⟩
      obtain ⟨n, rfl⟩ : ∃ n : Nat, b = n := ⟨b.toNat, by omega⟩
      rw [Int.toNat_natCast, Int.toNat_natCast] at hcan ⊢
      have hz := isB_size hB
      by_cases hk : kindN (bAt s n) = 75
      · rw [if_neg (fun e => e.2 hk)]
        exact apply_king s side clock full m n (bAt s n) w hc' hm (by omega) hz rfl hk
      · rw [if_pos ⟨rfl, hk⟩]
        simp only [partsB, Bool.and_eq_true, Bool.or_eq_true, beq_iff_eq, decide_eq_true_eq] at hp
        exact apply_moves s side clock full m n (bAt s m) (bAt s n) (kindN (bAt s n)) w hc' hm (by omega) (by omega) hz rfl rfl (by simp; omega) (can_self hcan) hp.1.1.1.1.2 hp.1.1.1.2 hp.1.1.2 hp.1.2 hp.2 rfl
  · rw [if_pos hc]
    exact apply_bad s side clock full a b _ w rfl (by simp; omega)
end Go.Proofs.YtbfkkedcjodceaaDoor
