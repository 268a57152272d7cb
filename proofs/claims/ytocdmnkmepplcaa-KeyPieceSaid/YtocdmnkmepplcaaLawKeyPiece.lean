/- A piece that is put on an empty square changes the key by its number there: the call answers true. -/
import Derived.Test.YtocdmnkmepplcaaKeyL
namespace Go.Proofs.Ytocdmnkmepplcaa.kpiece
open Go.RowKit Go.Shelf
open M (S)

theorem ks_is (c : Nat) (k : Int) (w : World) (h : sideN c = k) : Calls Try.prog 24 #[.int .u8 (c : Int)] w (Says w (.int .i64 k)) := by subst h; exact rside_any c w
set_option maxRecDepth 100000 in
set_option maxHeartbeats 4000000 in
theorem short (s : ByteArray) (side ck fl n : Int) (c : Nat) (w : World) (hz : s.size ≠ 90) : Calls Try.prog 9 #[.agg #[.string s, .int .i64 side, .int .i64 ck, .int .i64 fl], .int .i64 n, .int .u8 (c : Int)] w (Gives w (.bool true)) := by
  unfold Gives
  have h90 : ((s.size : Int) != 90) = true := by rw [bne_iff_ne]; omega
  clear hz
  have hB : Below w.heap.size w (w.alloc (.cells #[.string s, .int .i64 side, .int .i64 ck, .int .i64 fl] 29)) := (by repeat (first | exact Below.refl _ _ | (refine Below.setCell ?_ (by first | omega | (simp; done) | (simp; omega) | (simp at *; omega)) _) | (refine Below.alloc ?_ (by first | omega | (simp; done) | (simp; omega) | (simp at *; omega)) _) | refine Below.drew ?_ | (refine below_drewN ?_ _) | (refine Below.trans ?_ (Below.mono (by assumption) (by first | omega | (simp; done) | (simp; omega) | (simp at *; omega))))))
  go_enter Try.func9, Try.ntmps9
  go_wp2_with fail
  refine (live10_any _).mono ?_
  rintro e w2 ⟨rfl, hb⟩
  go_wp2
  go_ret
  exact ⟨rfl, hB.trans (hb.mono hB.size)⟩
set_option maxRecDepth 100000 in
set_option maxHeartbeats 4000000 in
theorem none_board (s : ByteArray) (side ck fl n : Int) (c : Nat) (w : World) (hz : s.size = 90) (hb0 : isB s = false) : Calls Try.prog 9 #[.agg #[.string s, .int .i64 side, .int .i64 ck, .int .i64 fl], .int .i64 n, .int .u8 (c : Int)] w (Gives w (.bool true)) := by
  unfold Gives
  have h90 : ((s.size : Int) != 90) = false := by rw [bne_eq_false_iff_eq]; omega
  have HB := Lib.hid hb0
  clear hz hb0
  have hB : Below w.heap.size w (w.alloc (.cells #[.string s, .int .i64 side, .int .i64 ck, .int .i64 fl] 29)) := (by repeat (first | exact Below.refl _ _ | (refine Below.setCell ?_ (by first | omega | (simp; done) | (simp; omega) | (simp at *; omega)) _) | (refine Below.alloc ?_ (by first | omega | (simp; done) | (simp; omega) | (simp at *; omega)) _) | refine Below.drew ?_ | (refine below_drewN ?_ _) | (refine Below.trans ?_ (Below.mono (by assumption) (by first | omega | (simp; done) | (simp; omega) | (simp at *; omega))))))
  go_enter Try.func9, Try.ntmps9
  go_wp2_with fail
  refine (ris_any s _).mono ?_
  rintro e w1 ⟨rfl, rfl⟩
  rw [HB.out]
  go_wp2_with fail
  refine (live10_any _).mono ?_
  rintro e w2 ⟨rfl, hb⟩
  go_wp2
  go_ret
  exact ⟨rfl, hB.trans (hb.mono hB.size)⟩
set_option maxRecDepth 100000 in
set_option maxHeartbeats 4000000 in
theorem under (s : ByteArray) (side ck fl n : Int) (c : Nat) (w : World) (hz : s.size = 90) (hb0 : isB s = true) (hn : n < 0) : Calls Try.prog 9 #[.agg #[.string s, .int .i64 side, .int .i64 ck, .int .i64 fl], .int .i64 n, .int .u8 (c : Int)] w (Gives w (.bool true)) := by
  unfold Gives
  have h90 : ((s.size : Int) != 90) = false := by rw [bne_eq_false_iff_eq]; omega
  have HB := Lib.hid hb0
  have d0 : decide (n < 0) = true := by simpa using hn
  clear hz hb0 hn
  have hB : Below w.heap.size w (w.alloc (.cells #[.string s, .int .i64 side, .int .i64 ck, .int .i64 fl] 29)) := (by repeat (first | exact Below.refl _ _ | (refine Below.setCell ?_ (by first | omega | (simp; done) | (simp; omega) | (simp at *; omega)) _) | (refine Below.alloc ?_ (by first | omega | (simp; done) | (simp; omega) | (simp at *; omega)) _) | refine Below.drew ?_ | (refine below_drewN ?_ _) | (refine Below.trans ?_ (Below.mono (by assumption) (by first | omega | (simp; done) | (simp; omega) | (simp at *; omega))))))
  go_enter Try.func9, Try.ntmps9
  go_wp2_with fail
  refine (ris_any s _).mono ?_
  rintro e w1 ⟨rfl, rfl⟩
  rw [HB.out]
  go_wp2_with fail
  refine (live10_any _).mono ?_
  rintro e w2 ⟨rfl, hb⟩
  go_wp2
  go_ret
  exact ⟨rfl, hB.trans (hb.mono hB.size)⟩
set_option maxRecDepth 100000 in
set_option maxHeartbeats 4000000 in
theorem over (s : ByteArray) (side ck fl n : Int) (c : Nat) (w : World) (hz : s.size = 90) (hb0 : isB s = true) (hn : 89 < n) : Calls Try.prog 9 #[.agg #[.string s, .int .i64 side, .int .i64 ck, .int .i64 fl], .int .i64 n, .int .u8 (c : Int)] w (Gives w (.bool true)) := by
  unfold Gives
  have h90 : ((s.size : Int) != 90) = false := by rw [bne_eq_false_iff_eq]; omega
  have HB := Lib.hid hb0
  have d0 : decide (n < 0) = false := by simp; omega
  have d1 : decide (89 < n) = true := by simpa using hn
  clear hz hb0 hn
  have hB : Below w.heap.size w (w.alloc (.cells #[.string s, .int .i64 side, .int .i64 ck, .int .i64 fl] 29)) := (by repeat (first | exact Below.refl _ _ | (refine Below.setCell ?_ (by first | omega | (simp; done) | (simp; omega) | (simp at *; omega)) _) | (refine Below.alloc ?_ (by first | omega | (simp; done) | (simp; omega) | (simp at *; omega)) _) | refine Below.drew ?_ | (refine below_drewN ?_ _) | (refine Below.trans ?_ (Below.mono (by assumption) (by first | omega | (simp; done) | (simp; omega) | (simp at *; omega))))))
  go_enter Try.func9, Try.ntmps9
  go_wp2_with fail
  refine (ris_any s _).mono ?_
  rintro e w1 ⟨rfl, rfl⟩
  rw [HB.out]
  go_wp2_with fail
  refine (live10_any _).mono ?_
  rintro e w2 ⟨rfl, hb⟩
  go_wp2
  go_ret
  exact ⟨rfl, hB.trans (hb.mono hB.size)⟩
set_option maxRecDepth 100000 in
set_option maxHeartbeats 4000000 in
theorem full_square (s : ByteArray) (side ck fl n : Int) (c : Nat) (w : World) (hz : s.size = 90) (hb0 : isB s = true) (hn : 0 ≤ n ∧ n < 90) (hx0 : bAt s n.toNat ≠ 46) : Calls Try.prog 9 #[.agg #[.string s, .int .i64 side, .int .i64 ck, .int .i64 fl], .int .i64 n, .int .u8 (c : Int)] w (Gives w (.bool true)) := by
  unfold Gives
  have h90 : ((s.size : Int) != 90) = false := by rw [bne_eq_false_iff_eq]; omega
  have HB := Lib.hid hb0
  obtain ⟨m, rfl⟩ : ∃ m : Nat, n = m := ⟨n.toNat, by omega⟩
  have hm : m < s.size := by omega
  obtain ⟨x, hx⟩ : ∃ x, bAt s m = x := ⟨_, rfl⟩
  have hbk : s[m].toNat = x := (bAt_eq s m hm).trans hx
  have d0 : decide ((m : Int) < 0) = false := by simp
  have d1 : decide (89 < (m : Int)) = false := by simp; omega
  have b0 : (0 : Int) ≤ (m : Int) := Int.natCast_nonneg m
  have b1 : (m : Int) < (s.size : Int) := Int.ofNat_lt.2 hm
  have e0 : ((x : Int) != 46) = true := by rw [Int.toNat_natCast, hx] at hx0; rw [bne_iff_ne]; omega
  clear hz hb0 hn hx hx0
  have hB : Below w.heap.size w (w.alloc (.cells #[.string s, .int .i64 side, .int .i64 ck, .int .i64 fl] 29)) := (by repeat (first | exact Below.refl _ _ | (refine Below.setCell ?_ (by first | omega | (simp; done) | (simp; omega) | (simp at *; omega)) _) | (refine Below.alloc ?_ (by first | omega | (simp; done) | (simp; omega) | (simp at *; omega)) _) | refine Below.drew ?_ | (refine below_drewN ?_ _) | (refine Below.trans ?_ (Below.mono (by assumption) (by first | omega | (simp; done) | (simp; omega) | (simp at *; omega))))))
  go_enter Try.func9, Try.ntmps9
  go_wp2_with fail
  refine (ris_any s _).mono ?_
  rintro e w1 ⟨rfl, rfl⟩
  rw [HB.out]
  go_wp2_with fail
  refine (live10_any _).mono ?_
  rintro e w2 ⟨rfl, hb⟩
  go_wp2
  go_ret
  exact ⟨rfl, hB.trans (hb.mono hB.size)⟩
set_option maxRecDepth 100000 in
set_option maxHeartbeats 4000000 in
theorem no_piece (s : ByteArray) (side ck fl n : Int) (c : Nat) (w : World) (hz : s.size = 90) (hb0 : isB s = true) (hn : 0 ≤ n ∧ n < 90) (hx0 : bAt s n.toNat = 46) (k : Int) (hk : sideN c = k) (hk0 : k < 0) : Calls Try.prog 9 #[.agg #[.string s, .int .i64 side, .int .i64 ck, .int .i64 fl], .int .i64 n, .int .u8 (c : Int)] w (Gives w (.bool true)) := by
  unfold Gives
  have h90 : ((s.size : Int) != 90) = false := by rw [bne_eq_false_iff_eq]; omega
  have HB := Lib.hid hb0
  obtain ⟨m, rfl⟩ : ∃ m : Nat, n = m := ⟨n.toNat, by omega⟩
  have hm : m < s.size := by omega
  obtain ⟨x, hx⟩ : ∃ x, bAt s m = x := ⟨_, rfl⟩
  have hbk : s[m].toNat = x := (bAt_eq s m hm).trans hx
  have d0 : decide ((m : Int) < 0) = false := by simp
  have d1 : decide (89 < (m : Int)) = false := by simp; omega
  have b0 : (0 : Int) ≤ (m : Int) := Int.natCast_nonneg m
  have b1 : (m : Int) < (s.size : Int) := Int.ofNat_lt.2 hm
  have e0 : ((x : Int) != 46) = false := by rw [Int.toNat_natCast, hx] at hx0; rw [bne_eq_false_iff_eq]; omega
  have HK := Lib.hid hk
  have d2 : decide (k < 0) = true := by simpa using hk0
  clear hz hb0 hn hx hx0 hk hk0
  have hB : Below w.heap.size w (w.alloc (.cells #[.string s, .int .i64 side, .int .i64 ck, .int .i64 fl] 29)) := (by repeat (first | exact Below.refl _ _ | (refine Below.setCell ?_ (by first | omega | (simp; done) | (simp; omega) | (simp at *; omega)) _) | (refine Below.alloc ?_ (by first | omega | (simp; done) | (simp; omega) | (simp at *; omega)) _) | refine Below.drew ?_ | (refine below_drewN ?_ _) | (refine Below.trans ?_ (Below.mono (by assumption) (by first | omega | (simp; done) | (simp; omega) | (simp at *; omega))))))
  go_enter Try.func9, Try.ntmps9
  go_wp2_with fail
  refine (ris_any s _).mono ?_
  rintro e w1 ⟨rfl, rfl⟩
  rw [HB.out]
  go_wp2_with fail
  refine (ks_is c k _ HK.out).mono ?_
  rintro e w1 ⟨rfl, rfl⟩
  go_wp2_with fail
  refine (live10_any _).mono ?_
  rintro e w2 ⟨rfl, hb⟩
  go_wp2
  go_ret
  exact ⟨rfl, hB.trans (hb.mono hB.size)⟩
theorem eight_keep {s q : ByteArray} {side ck fl : Int} {w W0 W W' : World} (h : W.cell? ⟨w.heap.size, 0, none⟩ = some (.string s) ∧ W.cell? ⟨w.heap.size, 1, none⟩ = some (.int .i64 side) ∧ W.cell? ⟨w.heap.size, 2, none⟩ = some (.int .i64 ck) ∧ W.cell? ⟨w.heap.size, 3, none⟩ = some (.int .i64 fl) ∧ W.cell? ⟨W0.heap.size, 0, none⟩ = some (.string q) ∧ W.cell? ⟨W0.heap.size, 1, none⟩ = some (.int .i64 side) ∧ W.cell? ⟨W0.heap.size, 2, none⟩ = some (.int .i64 ck) ∧ W.cell? ⟨W0.heap.size, 3, none⟩ = some (.int .i64 fl) ∧ Below w.heap.size w W) (hb : Below W.heap.size W W') : W'.cell? ⟨w.heap.size, 0, none⟩ = some (.string s) ∧ W'.cell? ⟨w.heap.size, 1, none⟩ = some (.int .i64 side) ∧ W'.cell? ⟨w.heap.size, 2, none⟩ = some (.int .i64 ck) ∧ W'.cell? ⟨w.heap.size, 3, none⟩ = some (.int .i64 fl) ∧ W'.cell? ⟨W0.heap.size, 0, none⟩ = some (.string q) ∧ W'.cell? ⟨W0.heap.size, 1, none⟩ = some (.int .i64 side) ∧ W'.cell? ⟨W0.heap.size, 2, none⟩ = some (.int .i64 ck) ∧ W'.cell? ⟨W0.heap.size, 3, none⟩ = some (.int .i64 fl) ∧ Below w.heap.size w W' := by
  obtain ⟨h0, h1, h2, h3, h4, h5, h6, h7, h8⟩ := h
  exact ⟨(hb.cell (p := ⟨w.heap.size, 0, none⟩) (cell_lt h0)).trans h0, (hb.cell (p := ⟨w.heap.size, 1, none⟩) (cell_lt h1)).trans h1, (hb.cell (p := ⟨w.heap.size, 2, none⟩) (cell_lt h2)).trans h2, (hb.cell (p := ⟨w.heap.size, 3, none⟩) (cell_lt h3)).trans h3, (hb.cell (p := ⟨W0.heap.size, 0, none⟩) (cell_lt h4)).trans h4, (hb.cell (p := ⟨W0.heap.size, 1, none⟩) (cell_lt h5)).trans h5, (hb.cell (p := ⟨W0.heap.size, 2, none⟩) (cell_lt h6)).trans h6, (hb.cell (p := ⟨W0.heap.size, 3, none⟩) (cell_lt h7)).trans h7, h8.trans (hb.mono h8.size)⟩
theorem eight_below {s q : ByteArray} {side ck fl : Int} {w W0 W : World} (h : W.cell? ⟨w.heap.size, 0, none⟩ = some (.string s) ∧ W.cell? ⟨w.heap.size, 1, none⟩ = some (.int .i64 side) ∧ W.cell? ⟨w.heap.size, 2, none⟩ = some (.int .i64 ck) ∧ W.cell? ⟨w.heap.size, 3, none⟩ = some (.int .i64 fl) ∧ W.cell? ⟨W0.heap.size, 0, none⟩ = some (.string q) ∧ W.cell? ⟨W0.heap.size, 1, none⟩ = some (.int .i64 side) ∧ W.cell? ⟨W0.heap.size, 2, none⟩ = some (.int .i64 ck) ∧ W.cell? ⟨W0.heap.size, 3, none⟩ = some (.int .i64 fl) ∧ Below w.heap.size w W) : Below w.heap.size w W := h.2.2.2.2.2.2.2.2
set_option maxRecDepth 100000 in
set_option maxHeartbeats 4000000 in
theorem good (s : ByteArray) (side ck fl n : Int) (c : Nat) (w : World) (hc : c < 256) (hz : s.size = 90) (hb0 : isB s = true) (hn : 0 ≤ n ∧ n < 90) (hx0 : bAt s n.toNat = 46) (k : Int) (hk : sideN c = k) (hk0 : 0 ≤ k) : Calls Try.prog 9 #[.agg #[.string s, .int .i64 side, .int .i64 ck, .int .i64 fl], .int .i64 n, .int .u8 (c : Int)] w (Gives w (.bool true)) := by
  unfold Gives
  have h90 : ((s.size : Int) != 90) = false := by rw [bne_eq_false_iff_eq]; omega
  have HB := Lib.hid hb0
  obtain ⟨m, rfl⟩ : ∃ m : Nat, n = m := ⟨n.toNat, by omega⟩
  have hm : m < s.size := by omega
  obtain ⟨x, hx⟩ : ∃ x, bAt s m = x := ⟨_, rfl⟩
  have hbk : s[m].toNat = x := (bAt_eq s m hm).trans hx
  have d0 : decide ((m : Int) < 0) = false := by simp
  have d1 : decide (89 < (m : Int)) = false := by simp; omega
  have b0 : (0 : Int) ≤ (m : Int) := Int.natCast_nonneg m
  have b1 : (m : Int) < (s.size : Int) := Int.ofNat_lt.2 hm
  have e0 : ((x : Int) != 46) = false := by rw [Int.toNat_natCast, hx] at hx0; rw [bne_eq_false_iff_eq]; omega
  have d2 : decide (k < 0) = false := by simp; omega
  have hfill : fillB c = true := by rw [fill_side, hk]; simp [hk0]
  have hx46 : bAt s m = 46 := by rw [Int.toNat_natCast] at hx0; exact hx0
  obtain ⟨q, hq⟩ : ∃ q, putS s m c = q := ⟨_, rfl⟩
  have hput : putB s (m : Int) c = q := by
    unfold putB
    rw [if_pos ⟨hb0, by unfold sqI; simp only [Bool.and_eq_true, decide_eq_true_eq]; omega, hfill⟩, Int.toNat_natCast]
    exact hq
  have hqb : isB q = true := by rw [← hq]; exact put_is_board hb0 m c hc hfill
  obtain ⟨A, hA⟩ : ∃ A, keyB s side = A := ⟨_, rfl⟩
  obtain ⟨B, hB2⟩ : ∃ B, keyB q side = B := ⟨_, rfl⟩
  obtain ⟨u, hu⟩ : ∃ u, cellK c (m : Int) = u := ⟨_, rfl⟩
  have lA : A < 18446744073709551616 := by rw [← hA]; exact key_lt _ _
  have lB : B < 18446744073709551616 := by rw [← hB2]; exact key_lt _ _
  have hx3 : B ^^^ A = u := by
    rw [← hA, ← hB2, ← hu, keyB_board side hb0, keyB_board side hqb, ← hq, key_put hb0 (by omega) hc, hx46, cell_empty, Nat.zero_xor]
    generalize xsum (fun k => cellK (bAt s k) (k : Int)) 90 = y
    generalize cellK c (m : Int) = z
    generalize (if side = 1 then turnK else 0) = v
    have swap : ∀ a b d : Nat, (a ^^^ b) ^^^ d = (a ^^^ d) ^^^ b := fun a b d => by rw [Nat.xor_assoc, Nat.xor_comm b d, ← Nat.xor_assoc]
    rw [← Nat.xor_assoc (y ^^^ z ^^^ v) y v, swap (y ^^^ z) v y, Nat.xor_assoc (y ^^^ z ^^^ y) v v, Nat.xor_self, Nat.xor_zero, swap y z y, Nat.xor_self, Nat.zero_xor]
  have xab : bits .xor .u64 (B : Int) (A : Int) = (u : Int) := by rw [u64_xor_nat _ _ lB lA, hx3]
  have HK := Lib.hid hk
  have HQ := Lib.hid hput
  have HA := Lib.hid hA
  have HB2 := Lib.hid hB2
  have HU := Lib.hid hu
  clear hz hb0 hn hx hx0 hk hk0 hfill hx46 hq hput hqb hA hB2 hu lA lB hx3
  obtain ⟨W0, hW0⟩ : ∃ W0, w.alloc (.cells #[.string s, .int .i64 side, .int .i64 ck, .int .i64 fl] 29) = W0 := ⟨_, rfl⟩
  have hB : Below w.heap.size w W0 := by rw [← hW0]; exact (by repeat (first | exact Below.refl _ _ | (refine Below.setCell ?_ (by first | omega | (simp; done) | (simp; omega) | (simp at *; omega)) _) | (refine Below.alloc ?_ (by first | omega | (simp; done) | (simp; omega) | (simp at *; omega)) _) | refine Below.drew ?_ | (refine below_drewN ?_ _) | (refine Below.trans ?_ (Below.mono (by assumption) (by first | omega | (simp; done) | (simp; omega) | (simp at *; omega))))))
  have bP : Blk W0 w.heap.size 29 #[.string s, .int .i64 side, .int .i64 ck, .int .i64 fl] := by rw [← hW0]; exact Blk.new _ _ _ rfl
  have hsz : W0.heap.size = w.heap.size + 1 := by rw [← hW0]; simp
  have HW := Lib.hid hW0
  have HZ := Lib.hid hsz
  clear hW0 hsz
  obtain ⟨p0, p1, p2, p3⟩ := kpos_cells bP
  go_enter Try.func9, Try.ntmps9
  go_wp2_with fail
  rw [HW.out]
  refine (ris_any s _).mono ?_
  rintro e w1 ⟨rfl, rfl⟩
  rw [HB.out]
  go_wp2_with fail
  obtain ⟨W1, hW1⟩ : ∃ W1, W0.alloc (.cells #[.string s, .int .i64 side, .int .i64 ck, .int .i64 fl] 29) = W1 := ⟨_, rfl⟩
  have hB1 : Below w.heap.size w W1 := by rw [← hW1]; exact hB.alloc hB.size _
  have bP1 : Blk W1 w.heap.size 29 #[.string s, .int .i64 side, .int .i64 ck, .int .i64 fl] := by rw [← hW1]; exact bP.alloc _
  have bQ1 : Blk W1 W0.heap.size 29 #[.string s, .int .i64 side, .int .i64 ck, .int .i64 fl] := by rw [← hW1]; exact Blk.new _ _ _ rfl
  obtain ⟨r0, r1, r2, r3⟩ := kpos_cells bP1
  refine (ks_is c k _ HK.out).mono ?_
  rintro e w1 ⟨rfl, rfl⟩
  go_wp2_with fail
  refine (rput_any s (m : Int) c _ hc).mono ?_
  rintro e w2 ⟨rfl, hb⟩
  rw [HQ.out]
  have bP2 := bP1.next hb
  have bQ2 := bQ1.next hb
  have hB2 := hB1.trans (hb.mono hB1.size)
  have f2 := bQ2.frozen 0
  obtain ⟨u0, u1, u2, u3⟩ := kpos_cells bQ2
  have hne : w.heap.size ≠ W0.heap.size := by have := HZ.out; omega
  have hle : w.heap.size ≤ W0.heap.size := by have := HZ.out; omega
  obtain ⟨W3, hW3⟩ : ∃ W3, w2.setCell ⟨W0.heap.size, 0, none⟩ (.string q) = W3 := ⟨_, rfl⟩
  have bP3 : Blk W3 w.heap.size 29 #[.string s, .int .i64 side, .int .i64 ck, .int .i64 fl] := by rw [← hW3]; exact bP2.far hne _
  have bQ3 : Blk W3 W0.heap.size 29 #[.string q, .int .i64 side, .int .i64 ck, .int .i64 fl] := by rw [← hW3]; exact bQ2.set_ 0 _
  have hB3 : Below w.heap.size w W3 := by rw [← hW3]; exact hB2.setCell (p := ⟨W0.heap.size, 0, none⟩) hle _
  clear p0 p1 p2 p3 r0 r1 r2 r3 bP1 bQ1 hB1 bP hB
  obtain ⟨p0, p1, p2, p3⟩ := kpos_cells bP3
  obtain ⟨q0, q1, q2, q3⟩ := kpos_cells bQ3
  have hS : W3.drew.cell? ⟨w.heap.size, 0, none⟩ = some (.string s) ∧ W3.drew.cell? ⟨w.heap.size, 1, none⟩ = some (.int .i64 side) ∧ W3.drew.cell? ⟨w.heap.size, 2, none⟩ = some (.int .i64 ck) ∧ W3.drew.cell? ⟨w.heap.size, 3, none⟩ = some (.int .i64 fl) ∧ W3.drew.cell? ⟨W0.heap.size, 0, none⟩ = some (.string q) ∧ W3.drew.cell? ⟨W0.heap.size, 1, none⟩ = some (.int .i64 side) ∧ W3.drew.cell? ⟨W0.heap.size, 2, none⟩ = some (.int .i64 ck) ∧ W3.drew.cell? ⟨W0.heap.size, 3, none⟩ = some (.int .i64 fl) ∧ Below w.heap.size w W3.drew := ⟨p0, p1, p2, p3, q0, q1, q2, q3, hB3.drew⟩
  clear hne hle
  go_wp2_with fail
  clear p0 p1 p2 p3 q0 q1 q2 q3 u0 u1 u2 u3 f2 bP2 bQ2 hB2 bP3 bQ3 hB3 hW3 hW1
  refine wp_region_held_drew (S := fun W => W.cell? ⟨w.heap.size, 0, none⟩ = some (.string s) ∧ W.cell? ⟨w.heap.size, 1, none⟩ = some (.int .i64 side) ∧ W.cell? ⟨w.heap.size, 2, none⟩ = some (.int .i64 ck) ∧ W.cell? ⟨w.heap.size, 3, none⟩ = some (.int .i64 fl) ∧ W.cell? ⟨W0.heap.size, 0, none⟩ = some (.string q) ∧ W.cell? ⟨W0.heap.size, 1, none⟩ = some (.int .i64 side) ∧ W.cell? ⟨W0.heap.size, 2, none⟩ = some (.int .i64 ck) ∧ W.cell? ⟨W0.heap.size, 3, none⟩ = some (.int .i64 fl) ∧ Below w.heap.size w W) (by kernel_rfl) (hS) (fun hHeld => ?_)
  refine wpAnyH_take (i := 0) (oi := { dst := some 46, op := Op.load 29 (Operand.tmp 7), type := 29, pos := "law.go:107", after := #[], guard := none }) (v := ?_) rfl (by kernel_rfl) (by kernel_rfl) (by kernel_rfl) (fun _ _ _ h => h) (Or.inl ⟨by rfl, ?_⟩) (by assumption) ?_
  case refine_2 =>
    intro w hSw
    (try dsimp only at hSw)
    (try go_simp)
    all_goals (with_reducible rfl)
  try simp only [Act.put, List.setIfInBounds_toArray, List.set_cons_zero, List.set_cons_succ]
  refine wpAnyH_take (i := 2) (oi := { dst := some 48, op := Op.load 29 (Operand.tmp 3), type := 29, pos := "law.go:107", after := #[], guard := none }) (v := ?_) rfl (by kernel_rfl) (by kernel_rfl) (by kernel_rfl) (fun _ _ _ h => h) (Or.inl ⟨by rfl, ?_⟩) (by assumption) ?_
  case refine_2 =>
    intro w hSw
    (try dsimp only at hSw)
    (try go_simp)
    all_goals (with_reducible rfl)
  try simp only [Act.put, List.setIfInBounds_toArray, List.set_cons_zero, List.set_cons_succ]
  refine wpAnyH_take (i := 5) (oi := { dst := some 51, op := Op.move (Operand.tmp 2), type := 5, pos := "law.go:107", after := #[], guard := none }) (v := ?_) rfl (by kernel_rfl) (by kernel_rfl) (by kernel_rfl) (fun _ _ _ h => h) (Or.inl ⟨by rfl, ?_⟩) (by assumption) ?_
  case refine_2 =>
    intro w hSw
    (try dsimp only at hSw)
    (try go_simp)
    all_goals (with_reducible rfl)
  try simp only [Act.put, List.setIfInBounds_toArray, List.set_cons_zero, List.set_cons_succ]
  refine wpAnyH_take (i := 6) (oi := { dst := some 52, op := Op.move (Operand.tmp 1), type := 3, pos := "law.go:107", after := #[], guard := none }) (v := ?_) rfl (by kernel_rfl) (by kernel_rfl) (by kernel_rfl) (fun _ _ _ h => h) (Or.inl ⟨by rfl, ?_⟩) (by assumption) ?_
  case refine_2 =>
    intro w hSw
    (try dsimp only at hSw)
    (try go_simp)
    all_goals (with_reducible rfl)
  try simp only [Act.put, List.setIfInBounds_toArray, List.set_cons_zero, List.set_cons_succ]
  refine wpAnyH_ready (rs := [1]) (by kernel_rfl) (by simp) (AllReadyH.cons (o := { dst := some 47, op := Op.call { callee := Callee.value (Operand.func 17), args := #[Operand.tmp 46], argTypes := #[29] }, type := 22, pos := "law.go:107", after := #[{ on := 0, ground := Ground.data }], guard := none }) rfl (fun K hK => ?_) AllReadyH.nil)
  go_simp
  refine (kof_is q side ck fl B _ HB2.out).mono ?_; rintro e w8 ⟨rfl, hb⟩
  refine hK.out _ _ ?_ (fun hHeld => ?_)
  · first | with_reducible assumption | exact eight_keep (by assumption) hb
  clear hK K
  refine wpAnyH_ready (rs := [3]) (by kernel_rfl) (by simp) (AllReadyH.cons (o := { dst := some 49, op := Op.call { callee := Callee.value (Operand.func 17), args := #[Operand.tmp 48], argTypes := #[29] }, type := 22, pos := "law.go:107", after := #[{ on := 2, ground := Ground.data }, { on := 1, ground := Ground.chain }], guard := none }) rfl (fun K hK => ?_) AllReadyH.nil)
  go_simp
  refine (kof_is s side ck fl A _ HA.out).mono ?_; rintro e w8 ⟨rfl, hb⟩
  refine hK.out _ _ ?_ (fun hHeld => ?_)
  · first | with_reducible assumption | exact eight_keep (by assumption) hb
  clear hK K
  refine wpAnyH_take (i := 4) (oi := { dst := some 50, op := Op.binOp BinOp.xor 22 (Operand.tmp 47) (Operand.tmp 49) 22, type := 22, pos := "law.go:107", after := #[{ on := 1, ground := Ground.data }, { on := 3, ground := Ground.data }], guard := none }) (v := ?_) rfl (by kernel_rfl) (by kernel_rfl) (by kernel_rfl) (fun _ _ _ h => h) (Or.inl ⟨by rfl, ?_⟩) (by assumption) ?_
  case refine_2 =>
    intro w hSw
    (try dsimp only at hSw)
    (try go_simp)
    all_goals (with_reducible rfl)
  try simp only [Act.put, List.setIfInBounds_toArray, List.set_cons_zero, List.set_cons_succ]
  refine wpAnyH_ready (rs := [7]) (by kernel_rfl) (by simp) (AllReadyH.cons (o := { dst := some 53, op := Op.call { callee := Callee.value (Operand.func 12), args := #[Operand.tmp 51, Operand.tmp 52], argTypes := #[5, 3] }, type := 22, pos := "law.go:107", after := #[{ on := 5, ground := Ground.data }, { on := 6, ground := Ground.data }, { on := 3, ground := Ground.chain }], guard := none }) rfl (fun K hK => ?_) AllReadyH.nil)
  go_simp
  refine (cell_is c (m : Int) u _ hc HU.out).mono ?_; rintro e w8 ⟨rfl, hb⟩
  refine hK.out _ _ ?_ (fun hHeld => ?_)
  · first | with_reducible assumption | exact eight_keep (by assumption) hb
  clear hK K
  refine wpAnyH_take (i := 8) (oi := { dst := some 54, op := Op.binOp BinOp.eql 22 (Operand.tmp 50) (Operand.tmp 53) 22, type := 4, pos := "law.go:107", after := #[{ on := 4, ground := Ground.data }, { on := 7, ground := Ground.data }], guard := none }) (v := ?_) rfl (by kernel_rfl) (by kernel_rfl) (by kernel_rfl) (fun _ _ _ h => h) (Or.inl ⟨by rfl, ?_⟩) (by assumption) ?_
  case refine_2 =>
    intro w hSw
    (try dsimp only at hSw)
    (try go_simp)
    all_goals (with_reducible rfl)
  try simp only [Act.put, List.setIfInBounds_toArray, List.set_cons_zero, List.set_cons_succ]
  refine wpAnyH_take (i := 9) (oi := { dst := some 55, op := Op.move (Operand.tmp 54), type := 4, pos := "law.go:107", after := #[{ on := 8, ground := Ground.data }, { on := 7, ground := Ground.chain }], guard := none }) (v := ?_) rfl (by kernel_rfl) (by kernel_rfl) (by kernel_rfl) (fun _ _ _ h => h) (Or.inl ⟨by rfl, ?_⟩) (by assumption) ?_
  case refine_2 =>
    intro w hSw
    (try dsimp only at hSw)
    (try go_simp)
    all_goals (with_reducible rfl)
  try simp only [Act.put, List.setIfInBounds_toArray, List.set_cons_zero, List.set_cons_succ]
  refine wpAnyH_ready (rs := [10]) (by kernel_rfl) (by simp) (AllReadyH.cons (o := { dst := some 56, op := Op.call { callee := Callee.value (Operand.func 16), args := #[], argTypes := #[] }, type := 4, pos := "law.go:107", after := #[{ on := 9, ground := Ground.chain }, { on := 9, ground := Ground.guard }], guard := some (9, true) }) rfl (fun K hK => ?_) AllReadyH.nil)
  go_simp
  refine (live10_any _).mono ?_; rintro e w8 ⟨rfl, hb⟩
  refine hK.out _ _ ?_ (fun hHeld => ?_)
  · first | with_reducible assumption | exact eight_keep (by assumption) hb
  clear hK K
  refine wpAnyH_take (i := 11) (oi := { dst := some 57, op := Op.pick (Operand.tmp 55) (Operand.tmp 56) (Operand.const (Value.bool false)), type := 4, pos := "law.go:107", after := #[{ on := 9, ground := Ground.data }, { on := 10, ground := Ground.data }], guard := none }) (v := ?_) rfl (by kernel_rfl) (by kernel_rfl) (by kernel_rfl) (fun _ _ _ h => h) (Or.inl ⟨by rfl, ?_⟩) (by assumption) ?_
  case refine_2 =>
    intro w hSw
    (try dsimp only at hSw)
    (try go_simp)
    all_goals (with_reducible rfl)
  try simp only [Act.put, List.setIfInBounds_toArray, List.set_cons_zero, List.set_cons_succ]
  refine wpAnyH_take (i := 12) (oi := { dst := some 6, op := Op.assign (Operand.tmp 57), type := 4, pos := "law.go:107", after := #[{ on := 11, ground := Ground.data }, { on := 10, ground := Ground.chain }, { on := 0, ground := Ground.phase }, { on := 1, ground := Ground.phase }, { on := 2, ground := Ground.phase }, { on := 3, ground := Ground.phase }, { on := 4, ground := Ground.phase }, { on := 5, ground := Ground.phase }, { on := 6, ground := Ground.phase }, { on := 7, ground := Ground.phase }, { on := 8, ground := Ground.phase }, { on := 9, ground := Ground.phase }, { on := 10, ground := Ground.phase }, { on := 11, ground := Ground.phase }], guard := none }) (v := ?_) rfl (by kernel_rfl) (by kernel_rfl) (by kernel_rfl) (fun _ _ _ h => h) (Or.inl ⟨by rfl, ?_⟩) (by assumption) ?_
  case refine_2 =>
    intro w hSw
    (try dsimp only at hSw)
    (try go_simp)
    all_goals (with_reducible rfl)
  try simp only [Act.put, List.setIfInBounds_toArray, List.set_cons_zero, List.set_cons_succ]
  refine wpAnyH_done (by kernel_rfl) ?_ _
  go_wp2
  go_ret
  exact ⟨rfl, eight_below (by assumption)⟩
theorem walk (s : ByteArray) (side ck fl n : Int) (c : Nat) (w : World) (hc : c < 256) : Calls Try.prog 9 #[.agg #[.string s, .int .i64 side, .int .i64 ck, .int .i64 fl], .int .i64 n, .int .u8 (c : Int)] w (Gives w (.bool true)) := by
  by_cases hz : s.size = 90
  · cases hb : isB s
    · exact none_board s side ck fl n c w hz hb
    · by_cases h0 : n < 0
      · exact under s side ck fl n c w hz hb h0
      · by_cases h9 : 89 < n
        · exact over s side ck fl n c w hz hb h9
        · by_cases hx : bAt s n.toNat = 46
          · by_cases hk : sideN c < 0
            · exact no_piece s side ck fl n c w hz hb (by omega) hx _ rfl hk
            · exact good s side ck fl n c w hc hz hb (by omega) hx _ rfl (by omega)
          · exact full_square s side ck fl n c w hz hb (by omega) hx
  · exact short s side ck fl n c w hz
end Go.Proofs.Ytocdmnkmepplcaa.kpiece
