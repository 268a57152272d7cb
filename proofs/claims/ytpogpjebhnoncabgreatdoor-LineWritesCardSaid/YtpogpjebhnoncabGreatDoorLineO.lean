/- The document's Print of layer 23. -/
import Derived.Test.YtpogpjebhnoncabGreatDoorLineN
namespace Go.Proofs.YtpogpjebhnoncabGreatDoor
open Go.RowKit Go.Shelf Go.Proofs.YtpogpjebhnoncabGreatDoor.Ln
open M (S)

def tailS (l : List (Int × Int)) : List UInt8 := l.flatMap fun m => [32] ++ mvT m
def textT (l : List (Int × Int)) : List UInt8 := if allSq l then tailS l else []
theorem tailS_len : ∀ l : List (Int × Int), (tailS l).length ≤ 5 * l.length
  | [] => Nat.le_refl _
  | m :: r => by
    have ih := tailS_len r
    have h := mvT_len m
    have e : tailS (m :: r) = ([32] ++ mvT m) ++ tailS r := rfl
    have e2 : (m :: r).length = r.length + 1 := rfl
    have e3 : ([32] ++ mvT m).length = 1 + (mvT m).length := List.length_append
    rw [e, List.length_append, e3, e2]
    omega
theorem textT_len (l : List (Int × Int)) : (textT l).length ≤ 5 * l.length := by
  unfold textT
  split
  · exact tailS_len l
  · exact Nat.zero_le _
theorem movesT_tail {l : List (Int × Int)} (hs : allSq l = true) (h : List UInt8) : movesT h l = h ++ tailS l := by
  rw [movesT_is hs, Lib.join_cons]
  unfold Lib.joinTail tailS
  rw [List.map_map, List.flatMap_def]
  rfl
set_option maxRecDepth 100000 in
set_option maxHeartbeats 8000000 in
theorem rtext_is (A : Option Addr) (n c : Nat) (l : List (Int × Int)) (w : World) (hr : RdM w A l) (hn : l.length = n) (hl : n ≤ 2000) : Calls Tryz.prog 21 #[.slice A n c] w (Gives w (.tuple #[.string (bs (textT l)), .bool (allSq l)])) := by
  have H := Lib.hid hr
  have HN := Lib.hid hn
  clear hr hn
  unfold Gives
  go_enter Tryz.func21, Tryz.ntmps21
  go_wp2_with fail
  go_loopw [4, 5] (fun t i wr => ∃ k : Nat, i = .int .i64 k ∧ k ≤ n ∧ allSq (l.take k) = true ∧ t = .string (bs (tailS (l.take k))) ∧ Below w.heap.size w wr) (fun _ i _ => n - (intOf i).toNat)
  case atStart => exact ⟨0, rfl, Nat.zero_le _, rfl, rfl, Below.refl _ _⟩
  case round =>
    obtain ⟨k, rfl, hk, hsq, rfl, hB⟩ := hrel
    obtain ⟨T, hT⟩ : ∃ T, tailS (l.take k) = T := ⟨_, rfl⟩
    rw [hT]
    have hTs : (bs T).size ≤ 10000 := by
      rw [bs_size, ← hT]
      have h1 := tailS_len (l.take k)
      have h2 := List.length_take_le k l
      omega
    by_cases hlt : k < n
    · have hkl : k < l.length := by rw [HN.out]; exact hlt
      obtain ⟨⟨a, b⟩, hx⟩ : ∃ x, l[k]? = some x := ⟨_, List.getElem?_eq_getElem hkl⟩
      obtain ⟨g, o, rfl, e0, e1⟩ := H.out k _ hx
      replace e0 := (hB.cell (cell_lt e0)).trans e0
      replace e1 := (hB.cell (cell_lt e1)).trans e1
      have bk : (k : Int) < (n : Int) := by omega
      have hsq1 := allSq_take hx hsq
      have htk : tailS (l.take (k + 1)) = T ++ ([32] ++ mvT (a, b)) := by
        rw [List.take_add_one, hx]
        unfold tailS at hT ⊢
        rw [List.flatMap_append, hT]
        simp
      have HTK := Lib.hid htk
      clear htk hx
      cases hs : sqI a && sqI b with
      | false =>
        have HP := Lib.hid (rprint_is a b ⟨#[]⟩ wr (print_none hs))
        have hall := allSq_no (hsq1.trans hs)
        have HM : Hid (textT l = []) := by show _ = _; unfold textT; rw [hall]; rfl
        have HA := Lib.hid hall
        clear hsq1 hall
        go_wp2_with fail
        refine HP.out.mono ?_
        rintro e w1 ⟨rfl, hb1⟩
        go_wp2_with fail
        go_ret2
        rw [HM.out, HA.out]
        exact ⟨rfl, hB.trans (hb1.mono hB.size)⟩
      | true =>
        obtain ⟨t, ht⟩ : ∃ t, printT a b = t := ⟨_, rfl⟩
        have HP := Lib.hid (rprint_is a b t wr ht)
        have hne : t.toList.isEmpty = false := by
          have := mvT_some (m := (a, b)) hs
          simp only at this
          rw [ht] at this
          cases hh : t.toList with
          | nil => rw [hh] at this; cases this
          | cons => rfl
        have hts : t.size = 4 := by
          rw [← ht]
          exact print_size (Bool.and_eq_true_iff.1 hs).1 (Bool.and_eq_true_iff.1 hs).2
        have hbt : bs (mvT (a, b)) = t := (mvT_bs (a, b)).trans ht
        have HBT := Lib.hid hbt
        have HSQ := Lib.hid (hsq1.trans hs)
        clear ht hs hbt hsq1
        go_wp2_with fail
        refine HP.out.mono ?_
        rintro e w1 ⟨rfl, hb1⟩
        have hB1 := hB.trans (hb1.mono hB.size)
        clear hb1
        go_wp2_with fail
        go_roundw
        case rel =>
          refine ⟨k + 1, by go_num, by omega, HSQ.out, ?_, hB1⟩
          rw [HTK.out, ← bs_app, ← bs_app, HBT.out, ← ByteArray.append_assoc]
          rfl
        case measure => simp [intOf]; omega
    · obtain rfl : k = n := by omega
      have hall : l.take k = l := List.take_of_length_le (by rw [HN.out]; exact Nat.le_refl _)
      rw [hall] at hsq hT
      have bk : ¬ (k : Int) < (k : Int) := by omega
      have HM : Hid (textT l = T) := by show _ = _; unfold textT; rw [if_pos hsq]; exact hT
      have HA := Lib.hid hsq
      clear hsq hall
      go_wp2_with fail
      go_ret2
      rw [HM.out, HA.out]
      exact ⟨rfl, hB⟩
set_option maxRecDepth 100000 in
set_option maxHeartbeats 8000000 in
theorem rpr_ucci (p : F.P) (l : List (Int × Int)) (d : Int) (A : Option Addr) (n cap : Nat) (w : World) (hr : RdM w A l) (hn : l.length = n) (hl : n ≤ 2000) : Calls Tryz.prog 11 #[.agg #[.int .i64 1, .string (bs p.cells), .int .i64 p.side, .int .i64 p.clock, .int .i64 p.full, .slice A n cap, .int .i64 d]] w (Gives w (.string (bs (bareT 1)))) := by
  unfold Gives
  obtain ⟨W0, hW0⟩ : ∃ W0, w.alloc (.cells #[.int .i64 1, .string (bs p.cells), .int .i64 p.side, .int .i64 p.clock, .int .i64 p.full, .slice A n cap, .int .i64 d] 26) = W0 := ⟨_, rfl⟩
  have hB0 : Below w.heap.size w W0 := by rw [← hW0]; exact (by repeat (first | exact Below.refl _ _ | (refine Below.setCell ?_ (by first | omega | (simp; done) | (simp; omega) | (simp at *; omega)) _) | (refine Below.alloc ?_ (by first | omega | (simp; done) | (simp; omega) | (simp at *; omega)) _) | refine Below.drew ?_ | (refine below_drewN ?_ _) | (refine Below.trans ?_ (Below.mono (by assumption) (by first | omega | (simp; done) | (simp; omega) | (simp at *; omega))))))
  have bP : Blk W0 w.heap.size 26 #[.int .i64 1, .string (bs p.cells), .int .i64 p.side, .int .i64 p.clock, .int .i64 p.full, .slice A n cap, .int .i64 d] := by rw [← hW0]; exact Blk.new _ _ _ rfl
  obtain ⟨c0, c1, c2, c3, c4, c5, c6⟩ := c_cells bP
  have HTX := Lib.hid (rtext_is A n cap l W0 (hr.next hB0) hn hl)
  have HQ : Hid (bareT 1 = ucciW) := rfl
  clear hr
  go_enter Tryz.func11, Tryz.ntmps11
  go_wp2_with fail
  refine HTX.out.mono ?_
  rintro e w1 ⟨rfl, hb1⟩
  have hB1 := hB0.trans (hb1.mono hB0.size)
  replace bP := bP.next hb1
  clear hb1 c0 c1 c2 c3 c4 c5 c6
  obtain ⟨c0, c1, c2, c3, c4, c5, c6⟩ := c_cells bP
  go_wp2_with fail
  go_ret
  rw [HQ.out]
  exact ⟨rfl, hB1⟩
set_option maxRecDepth 100000 in
set_option maxHeartbeats 8000000 in
theorem rpr_ready (p : F.P) (l : List (Int × Int)) (d : Int) (A : Option Addr) (n cap : Nat) (w : World) (hr : RdM w A l) (hn : l.length = n) (hl : n ≤ 2000) : Calls Tryz.prog 11 #[.agg #[.int .i64 2, .string (bs p.cells), .int .i64 p.side, .int .i64 p.clock, .int .i64 p.full, .slice A n cap, .int .i64 d]] w (Gives w (.string (bs (bareT 2)))) := by
  unfold Gives
  obtain ⟨W0, hW0⟩ : ∃ W0, w.alloc (.cells #[.int .i64 2, .string (bs p.cells), .int .i64 p.side, .int .i64 p.clock, .int .i64 p.full, .slice A n cap, .int .i64 d] 26) = W0 := ⟨_, rfl⟩
  have hB0 : Below w.heap.size w W0 := by rw [← hW0]; exact (by repeat (first | exact Below.refl _ _ | (refine Below.setCell ?_ (by first | omega | (simp; done) | (simp; omega) | (simp at *; omega)) _) | (refine Below.alloc ?_ (by first | omega | (simp; done) | (simp; omega) | (simp at *; omega)) _) | refine Below.drew ?_ | (refine below_drewN ?_ _) | (refine Below.trans ?_ (Below.mono (by assumption) (by first | omega | (simp; done) | (simp; omega) | (simp at *; omega))))))
  have bP : Blk W0 w.heap.size 26 #[.int .i64 2, .string (bs p.cells), .int .i64 p.side, .int .i64 p.clock, .int .i64 p.full, .slice A n cap, .int .i64 d] := by rw [← hW0]; exact Blk.new _ _ _ rfl
  obtain ⟨c0, c1, c2, c3, c4, c5, c6⟩ := c_cells bP
  have HTX := Lib.hid (rtext_is A n cap l W0 (hr.next hB0) hn hl)
  have HQ : Hid (bareT 2 = readyW) := rfl
  clear hr
  go_enter Tryz.func11, Tryz.ntmps11
  go_wp2_with fail
  refine HTX.out.mono ?_
  rintro e w1 ⟨rfl, hb1⟩
  have hB1 := hB0.trans (hb1.mono hB0.size)
  replace bP := bP.next hb1
  clear hb1 c0 c1 c2 c3 c4 c5 c6
  obtain ⟨c0, c1, c2, c3, c4, c5, c6⟩ := c_cells bP
  go_wp2_with fail
  go_ret
  rw [HQ.out]
  exact ⟨rfl, hB1⟩
set_option maxRecDepth 100000 in
set_option maxHeartbeats 8000000 in
theorem rpr_probe (p : F.P) (l : List (Int × Int)) (d : Int) (A : Option Addr) (n cap : Nat) (w : World) (hr : RdM w A l) (hn : l.length = n) (hl : n ≤ 2000) : Calls Tryz.prog 11 #[.agg #[.int .i64 6, .string (bs p.cells), .int .i64 p.side, .int .i64 p.clock, .int .i64 p.full, .slice A n cap, .int .i64 d]] w (Gives w (.string (bs (bareT 6)))) := by
  unfold Gives
  obtain ⟨W0, hW0⟩ : ∃ W0, w.alloc (.cells #[.int .i64 6, .string (bs p.cells), .int .i64 p.side, .int .i64 p.clock, .int .i64 p.full, .slice A n cap, .int .i64 d] 26) = W0 := ⟨_, rfl⟩
  have hB0 : Below w.heap.size w W0 := by rw [← hW0]; exact (by repeat (first | exact Below.refl _ _ | (refine Below.setCell ?_ (by first | omega | (simp; done) | (simp; omega) | (simp at *; omega)) _) | (refine Below.alloc ?_ (by first | omega | (simp; done) | (simp; omega) | (simp at *; omega)) _) | refine Below.drew ?_ | (refine below_drewN ?_ _) | (refine Below.trans ?_ (Below.mono (by assumption) (by first | omega | (simp; done) | (simp; omega) | (simp at *; omega))))))
  have bP : Blk W0 w.heap.size 26 #[.int .i64 6, .string (bs p.cells), .int .i64 p.side, .int .i64 p.clock, .int .i64 p.full, .slice A n cap, .int .i64 d] := by rw [← hW0]; exact Blk.new _ _ _ rfl
  obtain ⟨c0, c1, c2, c3, c4, c5, c6⟩ := c_cells bP
  have HTX := Lib.hid (rtext_is A n cap l W0 (hr.next hB0) hn hl)
  have HQ : Hid (bareT 6 = probeW) := rfl
  clear hr
  go_enter Tryz.func11, Tryz.ntmps11
  go_wp2_with fail
  refine HTX.out.mono ?_
  rintro e w1 ⟨rfl, hb1⟩
  have hB1 := hB0.trans (hb1.mono hB0.size)
  replace bP := bP.next hb1
  clear hb1 c0 c1 c2 c3 c4 c5 c6
  obtain ⟨c0, c1, c2, c3, c4, c5, c6⟩ := c_cells bP
  go_wp2_with fail
  go_ret
  rw [HQ.out]
  exact ⟨rfl, hB1⟩
set_option maxRecDepth 100000 in
set_option maxHeartbeats 8000000 in
theorem rpr_stop (p : F.P) (l : List (Int × Int)) (d : Int) (A : Option Addr) (n cap : Nat) (w : World) (hr : RdM w A l) (hn : l.length = n) (hl : n ≤ 2000) : Calls Tryz.prog 11 #[.agg #[.int .i64 7, .string (bs p.cells), .int .i64 p.side, .int .i64 p.clock, .int .i64 p.full, .slice A n cap, .int .i64 d]] w (Gives w (.string (bs (bareT 7)))) := by
  unfold Gives
  obtain ⟨W0, hW0⟩ : ∃ W0, w.alloc (.cells #[.int .i64 7, .string (bs p.cells), .int .i64 p.side, .int .i64 p.clock, .int .i64 p.full, .slice A n cap, .int .i64 d] 26) = W0 := ⟨_, rfl⟩
  have hB0 : Below w.heap.size w W0 := by rw [← hW0]; exact (by repeat (first | exact Below.refl _ _ | (refine Below.setCell ?_ (by first | omega | (simp; done) | (simp; omega) | (simp at *; omega)) _) | (refine Below.alloc ?_ (by first | omega | (simp; done) | (simp; omega) | (simp at *; omega)) _) | refine Below.drew ?_ | (refine below_drewN ?_ _) | (refine Below.trans ?_ (Below.mono (by assumption) (by first | omega | (simp; done) | (simp; omega) | (simp at *; omega))))))
  have bP : Blk W0 w.heap.size 26 #[.int .i64 7, .string (bs p.cells), .int .i64 p.side, .int .i64 p.clock, .int .i64 p.full, .slice A n cap, .int .i64 d] := by rw [← hW0]; exact Blk.new _ _ _ rfl
  obtain ⟨c0, c1, c2, c3, c4, c5, c6⟩ := c_cells bP
  have HTX := Lib.hid (rtext_is A n cap l W0 (hr.next hB0) hn hl)
  have HQ : Hid (bareT 7 = stopW) := rfl
  clear hr
  go_enter Tryz.func11, Tryz.ntmps11
  go_wp2_with fail
  refine HTX.out.mono ?_
  rintro e w1 ⟨rfl, hb1⟩
  have hB1 := hB0.trans (hb1.mono hB0.size)
  replace bP := bP.next hb1
  clear hb1 c0 c1 c2 c3 c4 c5 c6
  obtain ⟨c0, c1, c2, c3, c4, c5, c6⟩ := c_cells bP
  go_wp2_with fail
  go_ret
  rw [HQ.out]
  exact ⟨rfl, hB1⟩
set_option maxRecDepth 100000 in
set_option maxHeartbeats 8000000 in
theorem rpr_quit (p : F.P) (l : List (Int × Int)) (d : Int) (A : Option Addr) (n cap : Nat) (w : World) (hr : RdM w A l) (hn : l.length = n) (hl : n ≤ 2000) : Calls Tryz.prog 11 #[.agg #[.int .i64 8, .string (bs p.cells), .int .i64 p.side, .int .i64 p.clock, .int .i64 p.full, .slice A n cap, .int .i64 d]] w (Gives w (.string (bs (bareT 8)))) := by
  unfold Gives
  obtain ⟨W0, hW0⟩ : ∃ W0, w.alloc (.cells #[.int .i64 8, .string (bs p.cells), .int .i64 p.side, .int .i64 p.clock, .int .i64 p.full, .slice A n cap, .int .i64 d] 26) = W0 := ⟨_, rfl⟩
  have hB0 : Below w.heap.size w W0 := by rw [← hW0]; exact (by repeat (first | exact Below.refl _ _ | (refine Below.setCell ?_ (by first | omega | (simp; done) | (simp; omega) | (simp at *; omega)) _) | (refine Below.alloc ?_ (by first | omega | (simp; done) | (simp; omega) | (simp at *; omega)) _) | refine Below.drew ?_ | (refine below_drewN ?_ _) | (refine Below.trans ?_ (Below.mono (by assumption) (by first | omega | (simp; done) | (simp; omega) | (simp at *; omega))))))
  have bP : Blk W0 w.heap.size 26 #[.int .i64 8, .string (bs p.cells), .int .i64 p.side, .int .i64 p.clock, .int .i64 p.full, .slice A n cap, .int .i64 d] := by rw [← hW0]; exact Blk.new _ _ _ rfl
  obtain ⟨c0, c1, c2, c3, c4, c5, c6⟩ := c_cells bP
  have HTX := Lib.hid (rtext_is A n cap l W0 (hr.next hB0) hn hl)
  have HQ : Hid (bareT 8 = quitW) := rfl
  clear hr
  go_enter Tryz.func11, Tryz.ntmps11
  go_wp2_with fail
  refine HTX.out.mono ?_
  rintro e w1 ⟨rfl, hb1⟩
  have hB1 := hB0.trans (hb1.mono hB0.size)
  replace bP := bP.next hb1
  clear hb1 c0 c1 c2 c3 c4 c5 c6
  obtain ⟨c0, c1, c2, c3, c4, c5, c6⟩ := c_cells bP
  go_wp2_with fail
  go_ret
  rw [HQ.out]
  exact ⟨rfl, hB1⟩
set_option maxRecDepth 100000 in
set_option maxHeartbeats 8000000 in
theorem rpr_go (p : F.P) (l : List (Int × Int)) (d : Int) (A : Option Addr) (n cap : Nat) (w : World) (hr : RdM w A l) (hn : l.length = n) (hl : n ≤ 2000) : Calls Tryz.prog 11 #[.agg #[.int .i64 5, .string (bs p.cells), .int .i64 p.side, .int .i64 p.clock, .int .i64 p.full, .slice A n cap, .int .i64 d]] w (Gives w (.string (bs (goT d)))) := by
  unfold Gives
  obtain ⟨W0, hW0⟩ : ∃ W0, w.alloc (.cells #[.int .i64 5, .string (bs p.cells), .int .i64 p.side, .int .i64 p.clock, .int .i64 p.full, .slice A n cap, .int .i64 d] 26) = W0 := ⟨_, rfl⟩
  have hB0 : Below w.heap.size w W0 := by rw [← hW0]; exact (by repeat (first | exact Below.refl _ _ | (refine Below.setCell ?_ (by first | omega | (simp; done) | (simp; omega) | (simp at *; omega)) _) | (refine Below.alloc ?_ (by first | omega | (simp; done) | (simp; omega) | (simp at *; omega)) _) | refine Below.drew ?_ | (refine below_drewN ?_ _) | (refine Below.trans ?_ (Below.mono (by assumption) (by first | omega | (simp; done) | (simp; omega) | (simp at *; omega))))))
  have bP : Blk W0 w.heap.size 26 #[.int .i64 5, .string (bs p.cells), .int .i64 p.side, .int .i64 p.clock, .int .i64 p.full, .slice A n cap, .int .i64 d] := by rw [← hW0]; exact Blk.new _ _ _ rfl
  obtain ⟨c0, c1, c2, c3, c4, c5, c6⟩ := c_cells bP
  have HTX := Lib.hid (rtext_is A n cap l W0 (hr.next hB0) hn hl)
  by_cases h : 1 ≤ d ∧ d ≤ 64
  · have q1 : decide (d < 1) = false := decide_eq_false (by omega)
    have q2 : decide ((64 : Int) < d) = false := decide_eq_false (by omega)
    have hds : ∀ n, n ≤ 64 → (Lib.decDigits n).length ≤ 2 := by decide +kernel
    have hsz : ¬ 9223372036854775807 < 9 + (bs (Lib.decDigits d.toNat)).size := by
      have : (bs (Lib.decDigits d.toNat)).size ≤ 2 := hds d.toNat (by omega)
      omega
    have hj : (⟨#[103, 111, 32, 100, 101, 112, 116, 104, 32]⟩ : ByteArray) ++ bs (Lib.decDigits d.toNat) = bs (goT d) := by
      show bs [103, 111, 32, 100, 101, 112, 116, 104, 32] ++ _ = _
      rw [bs_app]
      unfold goT
      rw [if_pos h, Lib.join_cons]
      simp [Lib.joinTail, goW, depthW]
    have HD := Lib.hid fun (W : World) => rdigitsI d W ⟨by omega, by omega⟩
    have HJ := Lib.hid hj
    clear hds hj h
    clear hr
    go_enter Tryz.func11, Tryz.ntmps11
    go_wp2_with fail
    refine HTX.out.mono ?_
    rintro e w1 ⟨rfl, hb1⟩
    have hB1 := hB0.trans (hb1.mono hB0.size)
    replace bP := bP.next hb1
    clear hb1 c0 c1 c2 c3 c4 c5 c6
    obtain ⟨c0, c1, c2, c3, c4, c5, c6⟩ := c_cells bP
    go_wp2_with fail
    refine (HD.out _).mono ?_
    rintro e w2 ⟨rfl, hb2⟩
    go_wp2_with fail
    go_ret
    rw [← HJ.out]
    exact ⟨rfl, hB1.trans (hb2.mono hB1.size)⟩
  · have HJ : Hid (goT d = []) := by show _ = _; unfold goT; rw [if_neg h]; exact Lib.join_nil _
    by_cases h1 : d < 1
    · have q1 : decide (d < 1) = true := decide_eq_true h1
      clear h h1
      clear hr
      go_enter Tryz.func11, Tryz.ntmps11
      go_wp2_with fail
      refine HTX.out.mono ?_
      rintro e w1 ⟨rfl, hb1⟩
      have hB1 := hB0.trans (hb1.mono hB0.size)
      replace bP := bP.next hb1
      clear hb1 c0 c1 c2 c3 c4 c5 c6
      obtain ⟨c0, c1, c2, c3, c4, c5, c6⟩ := c_cells bP
      go_wp2_with fail
      go_ret
      rw [HJ.out]
      exact ⟨rfl, hB1⟩
    · have q1 : decide (d < 1) = false := decide_eq_false h1
      have q2 : decide ((64 : Int) < d) = true := decide_eq_true (by omega)
      clear h h1
      clear hr
      go_enter Tryz.func11, Tryz.ntmps11
      go_wp2_with fail
      refine HTX.out.mono ?_
      rintro e w1 ⟨rfl, hb1⟩
      have hB1 := hB0.trans (hb1.mono hB0.size)
      replace bP := bP.next hb1
      clear hb1 c0 c1 c2 c3 c4 c5 c6
      obtain ⟨c0, c1, c2, c3, c4, c5, c6⟩ := c_cells bP
      go_wp2_with fail
      go_ret
      rw [HJ.out]
      exact ⟨rfl, hB1⟩
set_option maxRecDepth 100000 in
set_option maxHeartbeats 8000000 in
theorem rpr_ban (p : F.P) (l : List (Int × Int)) (d : Int) (A : Option Addr) (n cap : Nat) (w : World) (hr : RdM w A l) (hn : l.length = n) (hl : n ≤ 2000) : Calls Tryz.prog 11 #[.agg #[.int .i64 4, .string (bs p.cells), .int .i64 p.side, .int .i64 p.clock, .int .i64 p.full, .slice A n cap, .int .i64 d]] w (Gives w (.string (bs (movesT banW l)))) := by
  unfold Gives
  obtain ⟨W0, hW0⟩ : ∃ W0, w.alloc (.cells #[.int .i64 4, .string (bs p.cells), .int .i64 p.side, .int .i64 p.clock, .int .i64 p.full, .slice A n cap, .int .i64 d] 26) = W0 := ⟨_, rfl⟩
  have hB0 : Below w.heap.size w W0 := by rw [← hW0]; exact (by repeat (first | exact Below.refl _ _ | (refine Below.setCell ?_ (by first | omega | (simp; done) | (simp; omega) | (simp at *; omega)) _) | (refine Below.alloc ?_ (by first | omega | (simp; done) | (simp; omega) | (simp at *; omega)) _) | refine Below.drew ?_ | (refine below_drewN ?_ _) | (refine Below.trans ?_ (Below.mono (by assumption) (by first | omega | (simp; done) | (simp; omega) | (simp at *; omega))))))
  have bP : Blk W0 w.heap.size 26 #[.int .i64 4, .string (bs p.cells), .int .i64 p.side, .int .i64 p.clock, .int .i64 p.full, .slice A n cap, .int .i64 d] := by rw [← hW0]; exact Blk.new _ _ _ rfl
  obtain ⟨c0, c1, c2, c3, c4, c5, c6⟩ := c_cells bP
  have HTX := Lib.hid (rtext_is A n cap l W0 (hr.next hB0) hn hl)
  have hts : ¬ 9223372036854775807 < 8 + (bs (textT l)).size := by
    rw [bs_size]
    have := textT_len l
    omega
  cases hs : allSq l with
  | false =>
    rw [hs] at HTX
    have HJ : Hid (movesT banW l = []) := by show _ = _; unfold movesT; rw [hs]; rfl
    clear hr
    go_enter Tryz.func11, Tryz.ntmps11
    go_wp2_with fail
    refine HTX.out.mono ?_
    rintro e w1 ⟨rfl, hb1⟩
    have hB1 := hB0.trans (hb1.mono hB0.size)
    replace bP := bP.next hb1
    clear hb1 c0 c1 c2 c3 c4 c5 c6
    obtain ⟨c0, c1, c2, c3, c4, c5, c6⟩ := c_cells bP
    go_wp2_with fail
    go_ret
    rw [HJ.out]
    exact ⟨rfl, hB1⟩
  | true =>
    rw [hs] at HTX
    have hj : (⟨#[98, 97, 110, 109, 111, 118, 101, 115]⟩ : ByteArray) ++ bs (textT l) = bs (movesT banW l) := by
      rw [movesT_tail hs]
      unfold textT
      rw [if_pos hs]
      exact bs_app banW _
    have HJ := Lib.hid hj
    clear hj
    clear hr
    go_enter Tryz.func11, Tryz.ntmps11
    go_wp2_with fail
    refine HTX.out.mono ?_
    rintro e w1 ⟨rfl, hb1⟩
    have hB1 := hB0.trans (hb1.mono hB0.size)
    replace bP := bP.next hb1
    clear hb1 c0 c1 c2 c3 c4 c5 c6
    obtain ⟨c0, c1, c2, c3, c4, c5, c6⟩ := c_cells bP
    go_wp2_with fail
    go_ret
    rw [← HJ.out]
    exact ⟨rfl, hB1⟩
set_option maxRecDepth 100000 in
set_option maxHeartbeats 8000000 in
theorem rpr_none (k : Int) (p : F.P) (l : List (Int × Int)) (d : Int) (A : Option Addr) (n cap : Nat) (w : World) (hr : RdM w A l) (hn : l.length = n) (hl : n ≤ 2000) (k1 : (k == 1) = false) (k2 : (k == 2) = false) (k6 : (k == 6) = false) (k7 : (k == 7) = false) (k8 : (k == 8) = false) (k5 : (k == 5) = false) (k4 : (k == 4) = false) (k3 : (k != 3) = true) : Calls Tryz.prog 11 #[.agg #[.int .i64 k, .string (bs p.cells), .int .i64 p.side, .int .i64 p.clock, .int .i64 p.full, .slice A n cap, .int .i64 d]] w (Gives w (.string (bs ([])))) := by
  unfold Gives
  obtain ⟨W0, hW0⟩ : ∃ W0, w.alloc (.cells #[.int .i64 k, .string (bs p.cells), .int .i64 p.side, .int .i64 p.clock, .int .i64 p.full, .slice A n cap, .int .i64 d] 26) = W0 := ⟨_, rfl⟩
  have hB0 : Below w.heap.size w W0 := by rw [← hW0]; exact (by repeat (first | exact Below.refl _ _ | (refine Below.setCell ?_ (by first | omega | (simp; done) | (simp; omega) | (simp at *; omega)) _) | (refine Below.alloc ?_ (by first | omega | (simp; done) | (simp; omega) | (simp at *; omega)) _) | refine Below.drew ?_ | (refine below_drewN ?_ _) | (refine Below.trans ?_ (Below.mono (by assumption) (by first | omega | (simp; done) | (simp; omega) | (simp at *; omega))))))
  have bP : Blk W0 w.heap.size 26 #[.int .i64 k, .string (bs p.cells), .int .i64 p.side, .int .i64 p.clock, .int .i64 p.full, .slice A n cap, .int .i64 d] := by rw [← hW0]; exact Blk.new _ _ _ rfl
  obtain ⟨c0, c1, c2, c3, c4, c5, c6⟩ := c_cells bP
  have HTX := Lib.hid (rtext_is A n cap l W0 (hr.next hB0) hn hl)
  obtain ⟨x, er, hv⟩ : ∃ (x : ByteArray) (er : Int), printV (bs p.cells) p.side p.clock p.full = .tuple #[.string x, .int .i64 er] := by
    by_cases h : (checkP p : Int) = 0
    · exact ⟨_, _, printV_yes h⟩
    · exact ⟨_, _, printV_no h⟩
  have HPV := Lib.hid fun (W : World) => rprint_any (bs p.cells) p.side p.clock p.full W
  rw [hv] at HPV
  clear hv
  clear hr
  go_enter Tryz.func11, Tryz.ntmps11
  go_wp2_with fail
  refine HTX.out.mono ?_
  rintro e w1 ⟨rfl, hb1⟩
  have hB1 := hB0.trans (hb1.mono hB0.size)
  replace bP := bP.next hb1
  clear hb1 c0 c1 c2 c3 c4 c5 c6
  obtain ⟨c0, c1, c2, c3, c4, c5, c6⟩ := c_cells bP
  go_wp2_with fail
  refine (HPV.out _).mono ?_
  rintro e w2 ⟨rfl, hb2⟩
  have hB2 := hB1.trans (hb2.mono hB1.size)
  replace bP := bP.next hb2
  clear hb2 c0 c1 c2 c3 c4 c5 c6
  obtain ⟨c0, c1, c2, c3, c4, c5, c6⟩ := c_cells bP
  go_wp2_with fail
  go_ret
  exact ⟨rfl, hB2⟩
set_option maxRecDepth 100000 in
set_option maxHeartbeats 8000000 in
theorem rpr_bad (p : F.P) (l : List (Int × Int)) (d : Int) (A : Option Addr) (n cap : Nat) (w : World) (hr : RdM w A l) (hn : l.length = n) (hl : n ≤ 2000) (h : ¬ (checkP p : Int) = 0) : Calls Tryz.prog 11 #[.agg #[.int .i64 3, .string (bs p.cells), .int .i64 p.side, .int .i64 p.clock, .int .i64 p.full, .slice A n cap, .int .i64 d]] w (Gives w (.string (bs ([])))) := by
  unfold Gives
  obtain ⟨W0, hW0⟩ : ∃ W0, w.alloc (.cells #[.int .i64 3, .string (bs p.cells), .int .i64 p.side, .int .i64 p.clock, .int .i64 p.full, .slice A n cap, .int .i64 d] 26) = W0 := ⟨_, rfl⟩
  have hB0 : Below w.heap.size w W0 := by rw [← hW0]; exact (by repeat (first | exact Below.refl _ _ | (refine Below.setCell ?_ (by first | omega | (simp; done) | (simp; omega) | (simp at *; omega)) _) | (refine Below.alloc ?_ (by first | omega | (simp; done) | (simp; omega) | (simp at *; omega)) _) | refine Below.drew ?_ | (refine below_drewN ?_ _) | (refine Below.trans ?_ (Below.mono (by assumption) (by first | omega | (simp; done) | (simp; omega) | (simp at *; omega))))))
  have bP : Blk W0 w.heap.size 26 #[.int .i64 3, .string (bs p.cells), .int .i64 p.side, .int .i64 p.clock, .int .i64 p.full, .slice A n cap, .int .i64 d] := by rw [← hW0]; exact Blk.new _ _ _ rfl
  obtain ⟨c0, c1, c2, c3, c4, c5, c6⟩ := c_cells bP
  have HTX := Lib.hid (rtext_is A n cap l W0 (hr.next hB0) hn hl)
  have HPV := Lib.hid fun (W : World) => rprint_any (bs p.cells) p.side p.clock p.full W
  rw [printV_no h] at HPV
  have hk : (((checkP p : Nat) : Int) != 0) = true := by rw [bne_iff_ne]; exact h
  generalize ((checkP p : Nat) : Int) = er at HPV hk
  clear h
  clear hr
  go_enter Tryz.func11, Tryz.ntmps11
  go_wp2_with fail
  refine HTX.out.mono ?_
  rintro e w1 ⟨rfl, hb1⟩
  have hB1 := hB0.trans (hb1.mono hB0.size)
  replace bP := bP.next hb1
  clear hb1 c0 c1 c2 c3 c4 c5 c6
  obtain ⟨c0, c1, c2, c3, c4, c5, c6⟩ := c_cells bP
  go_wp2_with fail
  refine (HPV.out _).mono ?_
  rintro e w2 ⟨rfl, hb2⟩
  have hB2 := hB1.trans (hb2.mono hB1.size)
  replace bP := bP.next hb2
  clear hb2 c0 c1 c2 c3 c4 c5 c6
  obtain ⟨c0, c1, c2, c3, c4, c5, c6⟩ := c_cells bP
  go_wp2_with fail
  go_ret
  exact ⟨rfl, hB2⟩
set_option maxRecDepth 100000 in
set_option maxHeartbeats 8000000 in
theorem rpr_odd (p : F.P) (l : List (Int × Int)) (d : Int) (A : Option Addr) (n cap : Nat) (w : World) (hr : RdM w A l) (hn : l.length = n) (hl : n ≤ 2000) (h : (checkP p : Int) = 0) (hs : allSq l = false) : Calls Tryz.prog 11 #[.agg #[.int .i64 3, .string (bs p.cells), .int .i64 p.side, .int .i64 p.clock, .int .i64 p.full, .slice A n cap, .int .i64 d]] w (Gives w (.string (bs ([])))) := by
  unfold Gives
  obtain ⟨W0, hW0⟩ : ∃ W0, w.alloc (.cells #[.int .i64 3, .string (bs p.cells), .int .i64 p.side, .int .i64 p.clock, .int .i64 p.full, .slice A n cap, .int .i64 d] 26) = W0 := ⟨_, rfl⟩
  have hB0 : Below w.heap.size w W0 := by rw [← hW0]; exact (by repeat (first | exact Below.refl _ _ | (refine Below.setCell ?_ (by first | omega | (simp; done) | (simp; omega) | (simp at *; omega)) _) | (refine Below.alloc ?_ (by first | omega | (simp; done) | (simp; omega) | (simp at *; omega)) _) | refine Below.drew ?_ | (refine below_drewN ?_ _) | (refine Below.trans ?_ (Below.mono (by assumption) (by first | omega | (simp; done) | (simp; omega) | (simp at *; omega))))))
  have bP : Blk W0 w.heap.size 26 #[.int .i64 3, .string (bs p.cells), .int .i64 p.side, .int .i64 p.clock, .int .i64 p.full, .slice A n cap, .int .i64 d] := by rw [← hW0]; exact Blk.new _ _ _ rfl
  obtain ⟨c0, c1, c2, c3, c4, c5, c6⟩ := c_cells bP
  have HTX := Lib.hid (rtext_is A n cap l W0 (hr.next hB0) hn hl)
  have HPV := Lib.hid fun (W : World) => rprint_any (bs p.cells) p.side p.clock p.full W
  rw [printV_yes h] at HPV
  rw [hs] at HTX
  clear h hs
  clear hr
  go_enter Tryz.func11, Tryz.ntmps11
  go_wp2_with fail
  refine HTX.out.mono ?_
  rintro e w1 ⟨rfl, hb1⟩
  have hB1 := hB0.trans (hb1.mono hB0.size)
  replace bP := bP.next hb1
  clear hb1 c0 c1 c2 c3 c4 c5 c6
  obtain ⟨c0, c1, c2, c3, c4, c5, c6⟩ := c_cells bP
  go_wp2_with fail
  refine (HPV.out _).mono ?_
  rintro e w2 ⟨rfl, hb2⟩
  have hB2 := hB1.trans (hb2.mono hB1.size)
  replace bP := bP.next hb2
  clear hb2 c0 c1 c2 c3 c4 c5 c6
  obtain ⟨c0, c1, c2, c3, c4, c5, c6⟩ := c_cells bP
  go_wp2_with fail
  go_ret
  exact ⟨rfl, hB2⟩
theorem start_or (p : F.P) : (p = startP ∧ (bs p.cells).toList = [82, 78, 66, 65, 75, 65, 66, 78, 82, 46, 46, 46, 46, 46, 46, 46, 46, 46, 46, 67, 46, 46, 46, 46, 46, 67, 46, 80, 46, 80, 46, 80, 46, 80, 46, 80, 46, 46, 46, 46, 46, 46, 46, 46, 46, 46, 46, 46, 46, 46, 46, 46, 46, 46, 112, 46, 112, 46, 112, 46, 112, 46, 112, 46, 99, 46, 46, 46, 46, 46, 99, 46, 46, 46, 46, 46, 46, 46, 46, 46, 46, 114, 110, 98, 97, 107, 97, 98, 110, 114] ∧ (p.side == 0) = true ∧ (p.clock == 0) = true ∧ (p.full == 1) = true) ∨ (p ≠ startP ∧ (¬ (bs p.cells).toList = [82, 78, 66, 65, 75, 65, 66, 78, 82, 46, 46, 46, 46, 46, 46, 46, 46, 46, 46, 67, 46, 46, 46, 46, 46, 67, 46, 80, 46, 80, 46, 80, 46, 80, 46, 80, 46, 46, 46, 46, 46, 46, 46, 46, 46, 46, 46, 46, 46, 46, 46, 46, 46, 46, 112, 46, 112, 46, 112, 46, 112, 46, 112, 46, 99, 46, 46, 46, 46, 46, 99, 46, 46, 46, 46, 46, 46, 46, 46, 46, 46, 114, 110, 98, 97, 107, 97, 98, 110, 114] ∨ ((bs p.cells).toList = [82, 78, 66, 65, 75, 65, 66, 78, 82, 46, 46, 46, 46, 46, 46, 46, 46, 46, 46, 67, 46, 46, 46, 46, 46, 67, 46, 80, 46, 80, 46, 80, 46, 80, 46, 80, 46, 46, 46, 46, 46, 46, 46, 46, 46, 46, 46, 46, 46, 46, 46, 46, 46, 46, 112, 46, 112, 46, 112, 46, 112, 46, 112, 46, 99, 46, 46, 46, 46, 46, 99, 46, 46, 46, 46, 46, 46, 46, 46, 46, 46, 114, 110, 98, 97, 107, 97, 98, 110, 114] ∧ (p.side == 0) = false) ∨ ((bs p.cells).toList = [82, 78, 66, 65, 75, 65, 66, 78, 82, 46, 46, 46, 46, 46, 46, 46, 46, 46, 46, 67, 46, 46, 46, 46, 46, 67, 46, 80, 46, 80, 46, 80, 46, 80, 46, 80, 46, 46, 46, 46, 46, 46, 46, 46, 46, 46, 46, 46, 46, 46, 46, 46, 46, 46, 112, 46, 112, 46, 112, 46, 112, 46, 112, 46, 99, 46, 46, 46, 46, 46, 99, 46, 46, 46, 46, 46, 46, 46, 46, 46, 46, 114, 110, 98, 97, 107, 97, 98, 110, 114] ∧ (p.side == 0) = true ∧ (p.clock == 0) = false) ∨ ((bs p.cells).toList = [82, 78, 66, 65, 75, 65, 66, 78, 82, 46, 46, 46, 46, 46, 46, 46, 46, 46, 46, 67, 46, 46, 46, 46, 46, 67, 46, 80, 46, 80, 46, 80, 46, 80, 46, 80, 46, 46, 46, 46, 46, 46, 46, 46, 46, 46, 46, 46, 46, 46, 46, 46, 46, 46, 112, 46, 112, 46, 112, 46, 112, 46, 112, 46, 99, 46, 46, 46, 46, 46, 99, 46, 46, 46, 46, 46, 46, 46, 46, 46, 46, 114, 110, 98, 97, 107, 97, 98, 110, 114] ∧ (p.side == 0) = true ∧ (p.clock == 0) = true ∧ (p.full == 1) = false))) := by
  have e : (bs startL).toList = [82, 78, 66, 65, 75, 65, 66, 78, 82, 46, 46, 46, 46, 46, 46, 46, 46, 46, 46, 67, 46, 46, 46, 46, 46, 67, 46, 80, 46, 80, 46, 80, 46, 80, 46, 80, 46, 46, 46, 46, 46, 46, 46, 46, 46, 46, 46, 46, 46, 46, 46, 46, 46, 46, 112, 46, 112, 46, 112, 46, 112, 46, 112, 46, 99, 46, 46, 46, 46, 46, 99, 46, 46, 46, 46, 46, 46, 46, 46, 46, 46, 114, 110, 98, 97, 107, 97, 98, 110, 114] := by rw [ByteArray.toList_eq, bs_data]; rfl
  by_cases hp : p = startP
  · left
    refine ⟨hp, ?_⟩
    subst hp
    exact ⟨e, rfl, rfl, rfl⟩
  · right
    refine ⟨hp, ?_⟩
    rw [← e]
    rcases start_not hp with h | ⟨h, h1⟩ | ⟨h, h1, h2⟩ | ⟨h, h1, h2, h3⟩
    · exact .inl (fun e => by rw [e, beq_self_eq_true] at h; cases h)
    · exact .inr (.inl ⟨eq_of_beq h, h1⟩)
    · exact .inr (.inr (.inl ⟨eq_of_beq h, h1, h2⟩))
    · exact .inr (.inr (.inr ⟨eq_of_beq h, h1, h2, h3⟩))
set_option maxRecDepth 100000 in
set_option maxHeartbeats 8000000 in
theorem rpr_st0 (p : F.P) (l : List (Int × Int)) (d : Int) (A : Option Addr) (n cap : Nat) (w : World) (hr : RdM w A l) (hn : l.length = n) (hl : n ≤ 2000) (h : (checkP p : Int) = 0) (hs : allSq l = true) (hst : p = startP) (n0 : n = 0) (Q : List UInt8) (HQ : Hid ((posW ++ ([32] ++ startW)) = Q)) : Calls Tryz.prog 11 #[.agg #[.int .i64 3, .string (bs p.cells), .int .i64 p.side, .int .i64 p.clock, .int .i64 p.full, .slice A n cap, .int .i64 d]] w (Gives w (.string (bs (Q)))) := by
  unfold Gives
  obtain ⟨W0, hW0⟩ : ∃ W0, w.alloc (.cells #[.int .i64 3, .string (bs p.cells), .int .i64 p.side, .int .i64 p.clock, .int .i64 p.full, .slice A n cap, .int .i64 d] 26) = W0 := ⟨_, rfl⟩
  have hB0 : Below w.heap.size w W0 := by rw [← hW0]; exact (by repeat (first | exact Below.refl _ _ | (refine Below.setCell ?_ (by first | omega | (simp; done) | (simp; omega) | (simp at *; omega)) _) | (refine Below.alloc ?_ (by first | omega | (simp; done) | (simp; omega) | (simp at *; omega)) _) | refine Below.drew ?_ | (refine below_drewN ?_ _) | (refine Below.trans ?_ (Below.mono (by assumption) (by first | omega | (simp; done) | (simp; omega) | (simp at *; omega))))))
  have bP : Blk W0 w.heap.size 26 #[.int .i64 3, .string (bs p.cells), .int .i64 p.side, .int .i64 p.clock, .int .i64 p.full, .slice A n cap, .int .i64 d] := by rw [← hW0]; exact Blk.new _ _ _ rfl
  obtain ⟨c0, c1, c2, c3, c4, c5, c6⟩ := c_cells bP
  have HTX := Lib.hid (rtext_is A n cap l W0 (hr.next hB0) hn hl)
  have HPV := Lib.hid fun (W : World) => rprint_any (bs p.cells) p.side p.clock p.full W
  rw [printV_yes h] at HPV
  rw [hs] at HTX
  have hpl := printL_len h
  have hps : (bs (F.printL p)).size ≤ 1001 := by rw [bs_size]; exact hpl
  have hps1 : ¬ 9223372036854775807 < 13 + (bs (F.printL p)).size := by omega
  have htl := textT_len l
  have hts : (bs (textT l)).size ≤ 10000 := by rw [bs_size]; omega
  have htt : textT l = tailS l := if_pos hs
  subst n0
  have h1 : (⟨#[112, 111, 115, 105, 116, 105, 111, 110, 32, 115, 116, 97, 114, 116, 112, 111, 115]⟩ : ByteArray) = bs (posW ++ ([32] ++ startW)) := by
    rfl
  have HJ := Lib.hid (h1.trans (congrArg bs HQ.out))
  clear h hs hpl htl htt h1 HQ
  rcases start_or p with ⟨hst2, q0, q1, q2, q3⟩ | ⟨hne, _⟩
  rotate_left
  · exact absurd hst hne
  clear hst hst2
  clear hr
  go_enter Tryz.func11, Tryz.ntmps11
  go_wp2_with fail
  refine HTX.out.mono ?_
  rintro e w1 ⟨rfl, hb1⟩
  have hB1 := hB0.trans (hb1.mono hB0.size)
  replace bP := bP.next hb1
  clear hb1 c0 c1 c2 c3 c4 c5 c6
  obtain ⟨c0, c1, c2, c3, c4, c5, c6⟩ := c_cells bP
  go_wp2_with fail
  refine (HPV.out _).mono ?_
  rintro e w2 ⟨rfl, hb2⟩
  have hB2 := hB1.trans (hb2.mono hB1.size)
  replace bP := bP.next hb2
  clear hb2 c0 c1 c2 c3 c4 c5 c6
  obtain ⟨c0, c1, c2, c3, c4, c5, c6⟩ := c_cells bP
  go_wp2_with fail
  go_ret
  rw [← HJ.out]
  exact ⟨rfl, hB2⟩
set_option maxRecDepth 100000 in
set_option maxHeartbeats 8000000 in
theorem rpr_stm (p : F.P) (l : List (Int × Int)) (d : Int) (A : Option Addr) (n cap : Nat) (w : World) (hr : RdM w A l) (hn : l.length = n) (hl : n ≤ 2000) (h : (checkP p : Int) = 0) (hs : allSq l = true) (hst : p = startP) (n0 : 0 < n) (Q : List UInt8) (HQ : Hid ((posW ++ ([32] ++ startW)) ++ [32] ++ movesW ++ tailS l = Q)) : Calls Tryz.prog 11 #[.agg #[.int .i64 3, .string (bs p.cells), .int .i64 p.side, .int .i64 p.clock, .int .i64 p.full, .slice A n cap, .int .i64 d]] w (Gives w (.string (bs (Q)))) := by
  unfold Gives
  obtain ⟨W0, hW0⟩ : ∃ W0, w.alloc (.cells #[.int .i64 3, .string (bs p.cells), .int .i64 p.side, .int .i64 p.clock, .int .i64 p.full, .slice A n cap, .int .i64 d] 26) = W0 := ⟨_, rfl⟩
  have hB0 : Below w.heap.size w W0 := by rw [← hW0]; exact (by repeat (first | exact Below.refl _ _ | (refine Below.setCell ?_ (by first | omega | (simp; done) | (simp; omega) | (simp at *; omega)) _) | (refine Below.alloc ?_ (by first | omega | (simp; done) | (simp; omega) | (simp at *; omega)) _) | refine Below.drew ?_ | (refine below_drewN ?_ _) | (refine Below.trans ?_ (Below.mono (by assumption) (by first | omega | (simp; done) | (simp; omega) | (simp at *; omega))))))
  have bP : Blk W0 w.heap.size 26 #[.int .i64 3, .string (bs p.cells), .int .i64 p.side, .int .i64 p.clock, .int .i64 p.full, .slice A n cap, .int .i64 d] := by rw [← hW0]; exact Blk.new _ _ _ rfl
  obtain ⟨c0, c1, c2, c3, c4, c5, c6⟩ := c_cells bP
  have HTX := Lib.hid (rtext_is A n cap l W0 (hr.next hB0) hn hl)
  have HPV := Lib.hid fun (W : World) => rprint_any (bs p.cells) p.side p.clock p.full W
  rw [printV_yes h] at HPV
  rw [hs] at HTX
  have hpl := printL_len h
  have hps : (bs (F.printL p)).size ≤ 1001 := by rw [bs_size]; exact hpl
  have hps1 : ¬ 9223372036854775807 < 13 + (bs (F.printL p)).size := by omega
  have htl := textT_len l
  have hts : (bs (textT l)).size ≤ 10000 := by rw [bs_size]; omega
  have htt : textT l = tailS l := if_pos hs
  have nn : (0 : Int) < (n : Int) := by omega
  have hps2 : ¬ 9223372036854775807 < 13 + (bs (F.printL p)).size + 6 := by omega
  have hps3 : ¬ 9223372036854775807 < 13 + (bs (F.printL p)).size + 6 + (bs (textT l)).size := by omega
  have hps4 : ¬ 9223372036854775807 < 23 + (bs (textT l)).size := by omega
  have h1 : (⟨#[112, 111, 115, 105, 116, 105, 111, 110, 32, 115, 116, 97, 114, 116, 112, 111, 115]⟩ : ByteArray) = bs (posW ++ ([32] ++ startW)) := by
    rfl
  have h2 : (⟨#[112, 111, 115, 105, 116, 105, 111, 110, 32, 115, 116, 97, 114, 116, 112, 111, 115]⟩ : ByteArray) ++ ⟨#[32, 109, 111, 118, 101, 115]⟩ ++ bs (textT l) = bs ((posW ++ ([32] ++ startW)) ++ [32] ++ movesW ++ tailS l) := by
    rw [h1, htt]
    show bs _ ++ bs ([32] ++ movesW) ++ bs _ = _
    rw [bs_app, bs_app]
    simp only [List.append_assoc]
  have HJ := Lib.hid (h2.trans (congrArg bs HQ.out))
  clear h2
  clear h hs hpl htl htt h1 HQ
  clear n0
  rcases start_or p with ⟨hst2, q0, q1, q2, q3⟩ | ⟨hne, _⟩
  rotate_left
  · exact absurd hst hne
  clear hst hst2
  clear hr
  go_enter Tryz.func11, Tryz.ntmps11
  go_wp2_with fail
  refine HTX.out.mono ?_
  rintro e w1 ⟨rfl, hb1⟩
  have hB1 := hB0.trans (hb1.mono hB0.size)
  replace bP := bP.next hb1
  clear hb1 c0 c1 c2 c3 c4 c5 c6
  obtain ⟨c0, c1, c2, c3, c4, c5, c6⟩ := c_cells bP
  go_wp2_with fail
  refine (HPV.out _).mono ?_
  rintro e w2 ⟨rfl, hb2⟩
  have hB2 := hB1.trans (hb2.mono hB1.size)
  replace bP := bP.next hb2
  clear hb2 c0 c1 c2 c3 c4 c5 c6
  obtain ⟨c0, c1, c2, c3, c4, c5, c6⟩ := c_cells bP
  go_wp2_with fail
  go_ret
  rw [← HJ.out]
  exact ⟨rfl, hB2⟩
set_option maxRecDepth 100000 in
set_option maxHeartbeats 8000000 in
theorem rpr_po0 (p : F.P) (l : List (Int × Int)) (d : Int) (A : Option Addr) (n cap : Nat) (w : World) (hr : RdM w A l) (hn : l.length = n) (hl : n ≤ 2000) (h : (checkP p : Int) = 0) (hs : allSq l = true) (hst : p ≠ startP) (n0 : n = 0) (Q : List UInt8) (HQ : Hid ((posW ++ ([32] ++ ([102, 101, 110, 32] ++ F.printL p))) = Q)) : Calls Tryz.prog 11 #[.agg #[.int .i64 3, .string (bs p.cells), .int .i64 p.side, .int .i64 p.clock, .int .i64 p.full, .slice A n cap, .int .i64 d]] w (Gives w (.string (bs (Q)))) := by
  unfold Gives
  obtain ⟨W0, hW0⟩ : ∃ W0, w.alloc (.cells #[.int .i64 3, .string (bs p.cells), .int .i64 p.side, .int .i64 p.clock, .int .i64 p.full, .slice A n cap, .int .i64 d] 26) = W0 := ⟨_, rfl⟩
  have hB0 : Below w.heap.size w W0 := by rw [← hW0]; exact (by repeat (first | exact Below.refl _ _ | (refine Below.setCell ?_ (by first | omega | (simp; done) | (simp; omega) | (simp at *; omega)) _) | (refine Below.alloc ?_ (by first | omega | (simp; done) | (simp; omega) | (simp at *; omega)) _) | refine Below.drew ?_ | (refine below_drewN ?_ _) | (refine Below.trans ?_ (Below.mono (by assumption) (by first | omega | (simp; done) | (simp; omega) | (simp at *; omega))))))
  have bP : Blk W0 w.heap.size 26 #[.int .i64 3, .string (bs p.cells), .int .i64 p.side, .int .i64 p.clock, .int .i64 p.full, .slice A n cap, .int .i64 d] := by rw [← hW0]; exact Blk.new _ _ _ rfl
  obtain ⟨c0, c1, c2, c3, c4, c5, c6⟩ := c_cells bP
  have HTX := Lib.hid (rtext_is A n cap l W0 (hr.next hB0) hn hl)
  have HPV := Lib.hid fun (W : World) => rprint_any (bs p.cells) p.side p.clock p.full W
  rw [printV_yes h] at HPV
  rw [hs] at HTX
  have hpl := printL_len h
  have hps : (bs (F.printL p)).size ≤ 1001 := by rw [bs_size]; exact hpl
  have hps1 : ¬ 9223372036854775807 < 13 + (bs (F.printL p)).size := by omega
  have htl := textT_len l
  have hts : (bs (textT l)).size ≤ 10000 := by rw [bs_size]; omega
  have htt : textT l = tailS l := if_pos hs
  subst n0
  have h1 : (⟨#[112, 111, 115, 105, 116, 105, 111, 110, 32, 102, 101, 110, 32]⟩ : ByteArray) ++ bs (F.printL p) = bs (posW ++ ([32] ++ ([102, 101, 110, 32] ++ F.printL p))) := by
    show bs (posW ++ ([32] ++ [102, 101, 110, 32])) ++ _ = _
    rw [bs_app, List.append_assoc, List.append_assoc]
  have HJ := Lib.hid (h1.trans (congrArg bs HQ.out))
  clear h hs hpl htl htt h1 HQ
  rcases start_or p with ⟨hne, _⟩ | ⟨_, hd⟩
  · exact absurd hne hst
  clear hst
  rcases hd with q0 | ⟨q0, q1⟩ | ⟨q0, q1, q2⟩ | ⟨q0, q1, q2, q3⟩
  all_goals
    clear hr
    go_enter Tryz.func11, Tryz.ntmps11
    go_wp2_with fail
    refine HTX.out.mono ?_
    rintro e w1 ⟨rfl, hb1⟩
    have hB1 := hB0.trans (hb1.mono hB0.size)
    replace bP := bP.next hb1
    clear hb1 c0 c1 c2 c3 c4 c5 c6
    obtain ⟨c0, c1, c2, c3, c4, c5, c6⟩ := c_cells bP
    go_wp2_with fail
    refine (HPV.out _).mono ?_
    rintro e w2 ⟨rfl, hb2⟩
    have hB2 := hB1.trans (hb2.mono hB1.size)
    replace bP := bP.next hb2
    clear hb2 c0 c1 c2 c3 c4 c5 c6
    obtain ⟨c0, c1, c2, c3, c4, c5, c6⟩ := c_cells bP
    go_wp2_with fail
    go_ret
    rw [← HJ.out]
    exact ⟨rfl, hB2⟩
set_option maxRecDepth 100000 in
set_option maxHeartbeats 8000000 in
theorem rpr_pom (p : F.P) (l : List (Int × Int)) (d : Int) (A : Option Addr) (n cap : Nat) (w : World) (hr : RdM w A l) (hn : l.length = n) (hl : n ≤ 2000) (h : (checkP p : Int) = 0) (hs : allSq l = true) (hst : p ≠ startP) (n0 : 0 < n) (Q : List UInt8) (HQ : Hid ((posW ++ ([32] ++ ([102, 101, 110, 32] ++ F.printL p))) ++ [32] ++ movesW ++ tailS l = Q)) : Calls Tryz.prog 11 #[.agg #[.int .i64 3, .string (bs p.cells), .int .i64 p.side, .int .i64 p.clock, .int .i64 p.full, .slice A n cap, .int .i64 d]] w (Gives w (.string (bs (Q)))) := by
  unfold Gives
  obtain ⟨W0, hW0⟩ : ∃ W0, w.alloc (.cells #[.int .i64 3, .string (bs p.cells), .int .i64 p.side, .int .i64 p.clock, .int .i64 p.full, .slice A n cap, .int .i64 d] 26) = W0 := ⟨_, rfl⟩
  have hB0 : Below w.heap.size w W0 := by rw [← hW0]; exact (by repeat (first | exact Below.refl _ _ | (refine Below.setCell ?_ (by first | omega | (simp; done) | (simp; omega) | (simp at *; omega)) _) | (refine Below.alloc ?_ (by first | omega | (simp; done) | (simp; omega) | (simp at *; omega)) _) | refine Below.drew ?_ | (refine below_drewN ?_ _) | (refine Below.trans ?_ (Below.mono (by assumption) (by first | omega | (simp; done) | (simp; omega) | (simp at *; omega))))))
  have bP : Blk W0 w.heap.size 26 #[.int .i64 3, .string (bs p.cells), .int .i64 p.side, .int .i64 p.clock, .int .i64 p.full, .slice A n cap, .int .i64 d] := by rw [← hW0]; exact Blk.new _ _ _ rfl
  obtain ⟨c0, c1, c2, c3, c4, c5, c6⟩ := c_cells bP
  have HTX := Lib.hid (rtext_is A n cap l W0 (hr.next hB0) hn hl)
  have HPV := Lib.hid fun (W : World) => rprint_any (bs p.cells) p.side p.clock p.full W
  rw [printV_yes h] at HPV
  rw [hs] at HTX
  have hpl := printL_len h
  have hps : (bs (F.printL p)).size ≤ 1001 := by rw [bs_size]; exact hpl
  have hps1 : ¬ 9223372036854775807 < 13 + (bs (F.printL p)).size := by omega
  have htl := textT_len l
  have hts : (bs (textT l)).size ≤ 10000 := by rw [bs_size]; omega
  have htt : textT l = tailS l := if_pos hs
  have nn : (0 : Int) < (n : Int) := by omega
  have hps2 : ¬ 9223372036854775807 < 13 + (bs (F.printL p)).size + 6 := by omega
  have hps3 : ¬ 9223372036854775807 < 13 + (bs (F.printL p)).size + 6 + (bs (textT l)).size := by omega
  have hps4 : ¬ 9223372036854775807 < 23 + (bs (textT l)).size := by omega
  have h1 : (⟨#[112, 111, 115, 105, 116, 105, 111, 110, 32, 102, 101, 110, 32]⟩ : ByteArray) ++ bs (F.printL p) = bs (posW ++ ([32] ++ ([102, 101, 110, 32] ++ F.printL p))) := by
    show bs (posW ++ ([32] ++ [102, 101, 110, 32])) ++ _ = _
    rw [bs_app, List.append_assoc, List.append_assoc]
  have h2 : ((⟨#[112, 111, 115, 105, 116, 105, 111, 110, 32, 102, 101, 110, 32]⟩ : ByteArray) ++ bs (F.printL p)) ++ ⟨#[32, 109, 111, 118, 101, 115]⟩ ++ bs (textT l) = bs ((posW ++ ([32] ++ ([102, 101, 110, 32] ++ F.printL p))) ++ [32] ++ movesW ++ tailS l) := by
    rw [h1, htt]
    show bs _ ++ bs ([32] ++ movesW) ++ bs _ = _
    rw [bs_app, bs_app]
    simp only [List.append_assoc]
  have HJ := Lib.hid (h2.trans (congrArg bs HQ.out))
  clear h2
  clear h hs hpl htl htt h1 HQ
  clear n0
  rcases start_or p with ⟨hne, _⟩ | ⟨_, hd⟩
  · exact absurd hne hst
  clear hst
  rcases hd with q0 | ⟨q0, q1⟩ | ⟨q0, q1, q2⟩ | ⟨q0, q1, q2, q3⟩
  all_goals
    clear hr
    go_enter Tryz.func11, Tryz.ntmps11
    go_wp2_with fail
    refine HTX.out.mono ?_
    rintro e w1 ⟨rfl, hb1⟩
    have hB1 := hB0.trans (hb1.mono hB0.size)
    replace bP := bP.next hb1
    clear hb1 c0 c1 c2 c3 c4 c5 c6
    obtain ⟨c0, c1, c2, c3, c4, c5, c6⟩ := c_cells bP
    go_wp2_with fail
    refine (HPV.out _).mono ?_
    rintro e w2 ⟨rfl, hb2⟩
    have hB2 := hB1.trans (hb2.mono hB1.size)
    replace bP := bP.next hb2
    clear hb2 c0 c1 c2 c3 c4 c5 c6
    obtain ⟨c0, c1, c2, c3, c4, c5, c6⟩ := c_cells bP
    go_wp2_with fail
    go_ret
    rw [← HJ.out]
    exact ⟨rfl, hB2⟩
theorem rprintC_any (c : Cmd) (A : Option Addr) (n cap : Nat) (w : World) (hr : RdM w A c.l) (hn : c.l.length = n) (hl : n ≤ 2000) : Calls Tryz.prog 11 #[.agg #[.int .i64 c.k, .string (bs c.p.cells), .int .i64 c.p.side, .int .i64 c.p.clock, .int .i64 c.p.full, .slice A n cap, .int .i64 c.d]] w (Gives w (.string (bs (printC c)))) := by
  rw [printC_is]
  obtain ⟨k, p, l, d⟩ := c
  simp only at hr hn ⊢
  by_cases k5 : k = 5
  · subst k5; exact rpr_go p l d A n cap w hr hn hl
  rw [if_neg k5]
  by_cases k4 : k = 4
  · subst k4; exact rpr_ban p l d A n cap w hr hn hl
  rw [if_neg k4]
  by_cases k3 : k = 3
  · subst k3
    rw [if_pos rfl]
    by_cases h : (checkP p : Int) = 0
    · have hpn := placeT_ne h
      cases hs : allSq l with
      | false =>
        have : setT p l = [] := by rw [setT_is, if_neg (fun e => by rw [hs] at e; cases e.2)]; rfl
        rw [this]
        exact rpr_odd p l d A n cap w hr hn hl h hs
      | true =>
        by_cases hst : p = startP
        · have hpt : placeT p = startW := by unfold placeT; rw [if_pos hst]
          unfold setT
          rw [if_neg hpn, hpt]
          by_cases n0 : n = 0
          · rw [if_pos (List.length_eq_zero_iff.1 (hn.trans n0))]
            exact rpr_st0 p l d A n cap w hr hn hl h hs hst n0 _ rfl
          · rw [if_neg (fun e => n0 (by rw [← hn, e]; rfl)), movesT_tail hs]
            exact rpr_stm p l d A n cap w hr hn hl h hs hst (by omega) _ rfl
        · have hpt : placeT p = [102, 101, 110, 32] ++ F.printL p := by unfold placeT; rw [if_neg hst, if_pos h]
          unfold setT
          rw [if_neg hpn, hpt]
          by_cases n0 : n = 0
          · rw [if_pos (List.length_eq_zero_iff.1 (hn.trans n0))]
            exact rpr_po0 p l d A n cap w hr hn hl h hs hst n0 _ rfl
          · rw [if_neg (fun e => n0 (by rw [← hn, e]; rfl)), movesT_tail hs]
            exact rpr_pom p l d A n cap w hr hn hl h hs hst (by omega) _ rfl
    · have : setT p l = [] := if_pos (placeT_none h)
      rw [this]
      exact rpr_bad p l d A n cap w hr hn hl h
  rw [if_neg k3]
  by_cases k1 : k = 1
  · subst k1; exact rpr_ucci p l d A n cap w hr hn hl
  by_cases k2 : k = 2
  · subst k2; exact rpr_ready p l d A n cap w hr hn hl
  by_cases k6 : k = 6
  · subst k6; exact rpr_probe p l d A n cap w hr hn hl
  by_cases k7 : k = 7
  · subst k7; exact rpr_stop p l d A n cap w hr hn hl
  by_cases k8 : k = 8
  · subst k8; exact rpr_quit p l d A n cap w hr hn hl
  have hb : bareT k = [] := by unfold bareT; rw [if_neg k1, if_neg k2, if_neg k6, if_neg k7, if_neg k8]
  rw [hb]
  exact rpr_none k p l d A n cap w hr hn hl (beq_eq_false_iff_ne.2 k1) (beq_eq_false_iff_ne.2 k2) (beq_eq_false_iff_ne.2 k6) (beq_eq_false_iff_ne.2 k7) (beq_eq_false_iff_ne.2 k8) (beq_eq_false_iff_ne.2 k5) (beq_eq_false_iff_ne.2 k4) (bne_iff_ne.2 k3)
end Go.Proofs.YtpogpjebhnoncabGreatDoor
