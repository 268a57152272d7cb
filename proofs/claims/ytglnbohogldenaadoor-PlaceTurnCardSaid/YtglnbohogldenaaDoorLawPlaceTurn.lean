/- A position that is turned round is as right as it was; a piece may stand where it does, seen from the other side: the call answers true. -/
import Derived.Test.YtglnbohogldenaaDoorRefP5
namespace Go.Proofs.YtglnbohogldenaaDoor.turned
open Go.RowKit Go.Shelf
open M (S)

theorem ofI (x y : Nat) (w : World) (h : 65 ≤ x ∧ x ≤ 122) (hy : x + 32 = y) : Calls Tryd.prog 23 #[.int .u8 (x : Int), .int .i64 1] w (Gives w (.int .u8 (y : Int))) := by
  subst hy
  exact (rof_one x w h).mono fun _ _ ⟨a, b⟩ => ⟨a, b ▸ Below.refl _ _⟩
theorem kinds_at : ∀ j : Fin 7, bAt kindsS j.val = kindsL.getD j.val 0 ∧ 65 ≤ kindsL.getD j.val 0 ∧ kindsL.getD j.val 0 ≤ 122 ∧ swapN (kindsL.getD j.val 0) = kindsL.getD j.val 0 + 32 := by decide +kernel
set_option maxRecDepth 100000 in
set_option maxHeartbeats 8000000 in
theorem large (s : ByteArray) (side clock full n : Int) (w : World) (hT : Tab w) (hs : 200 < s.size) : Calls Tryd.prog 5 #[.agg #[.string s, .int .i64 side, .int .i64 clock, .int .i64 full], .int .i64 n] w (Gives w (.bool true)) := by
  unfold Gives
  go_enter Tryd.func5, Tryd.ntmps5
  go_wp2_with fail
  obtain ⟨W0, hW0⟩ : ∃ W0, w.alloc (.cells #[.string s, .int .i64 side, .int .i64 clock, .int .i64 full] 31) = W0 := ⟨_, rfl⟩
  have hB : Below w.heap.size w W0 := by rw [← hW0]; exact (by repeat (first | exact Below.refl _ _ | (refine Below.setCell ?_ (by first | omega | (simp; done) | (simp; omega) | (simp at *; omega)) _) | (refine Below.alloc ?_ (by first | omega | (simp; done) | (simp; omega) | (simp at *; omega)) _) | refine Below.drew ?_ | (refine below_drewN ?_ _) | (refine Below.trans ?_ (Below.mono (by assumption) (by first | omega | (simp; done) | (simp; omega) | (simp at *; omega))))))
  have bP : Blk W0 w.heap.size 31 #[.string s, .int .i64 side, .int .i64 clock, .int .i64 full] := by rw [← hW0]; exact Blk.new _ _ _ rfl
  replace hT := hT.below hB hT.lt
  rw [hW0]
  clear hW0
  refine (live3_any _ hT).mono ?_
  rintro e w1 ⟨rfl, hb⟩
  go_wp2
  go_ret
  exact ⟨rfl, hB.trans (hb.mono hB.size)⟩
set_option maxRecDepth 100000 in
set_option maxHeartbeats 8000000 in
theorem below (s : ByteArray) (side clock full n : Int) (w : World) (hT : Tab w) (hs : s.size ≤ 200) (hn : n < 0) : Calls Tryd.prog 5 #[.agg #[.string s, .int .i64 side, .int .i64 clock, .int .i64 full], .int .i64 n] w (Gives w (.bool true)) := by
  unfold Gives
  go_enter Tryd.func5, Tryd.ntmps5
  go_wp2_with fail
  obtain ⟨W0, hW0⟩ : ∃ W0, w.alloc (.cells #[.string s, .int .i64 side, .int .i64 clock, .int .i64 full] 31) = W0 := ⟨_, rfl⟩
  have hB : Below w.heap.size w W0 := by rw [← hW0]; exact (by repeat (first | exact Below.refl _ _ | (refine Below.setCell ?_ (by first | omega | (simp; done) | (simp; omega) | (simp at *; omega)) _) | (refine Below.alloc ?_ (by first | omega | (simp; done) | (simp; omega) | (simp at *; omega)) _) | refine Below.drew ?_ | (refine below_drewN ?_ _) | (refine Below.trans ?_ (Below.mono (by assumption) (by first | omega | (simp; done) | (simp; omega) | (simp at *; omega))))))
  have bP : Blk W0 w.heap.size 31 #[.string s, .int .i64 side, .int .i64 clock, .int .i64 full] := by rw [← hW0]; exact Blk.new _ _ _ rfl
  replace hT := hT.below hB hT.lt
  rw [hW0]
  clear hW0
  refine (live3_any _ hT).mono ?_
  rintro e w1 ⟨rfl, hb⟩
  go_wp2
  go_ret
  exact ⟨rfl, hB.trans (hb.mono hB.size)⟩
set_option maxRecDepth 100000 in
set_option maxHeartbeats 8000000 in
theorem above (s : ByteArray) (side clock full n : Int) (w : World) (hT : Tab w) (hs : s.size ≤ 200) (hn0 : 0 ≤ n) (hn : 89 < n) : Calls Tryd.prog 5 #[.agg #[.string s, .int .i64 side, .int .i64 clock, .int .i64 full], .int .i64 n] w (Gives w (.bool true)) := by
  unfold Gives
  go_enter Tryd.func5, Tryd.ntmps5
  go_wp2_with fail
  obtain ⟨W0, hW0⟩ : ∃ W0, w.alloc (.cells #[.string s, .int .i64 side, .int .i64 clock, .int .i64 full] 31) = W0 := ⟨_, rfl⟩
  have hB : Below w.heap.size w W0 := by rw [← hW0]; exact (by repeat (first | exact Below.refl _ _ | (refine Below.setCell ?_ (by first | omega | (simp; done) | (simp; omega) | (simp at *; omega)) _) | (refine Below.alloc ?_ (by first | omega | (simp; done) | (simp; omega) | (simp at *; omega)) _) | refine Below.drew ?_ | (refine below_drewN ?_ _) | (refine Below.trans ?_ (Below.mono (by assumption) (by first | omega | (simp; done) | (simp; omega) | (simp at *; omega))))))
  have bP : Blk W0 w.heap.size 31 #[.string s, .int .i64 side, .int .i64 clock, .int .i64 full] := by rw [← hW0]; exact Blk.new _ _ _ rfl
  replace hT := hT.below hB hT.lt
  rw [hW0]
  clear hW0
  refine (live3_any _ hT).mono ?_
  rintro e w1 ⟨rfl, hb⟩
  go_wp2
  go_ret
  exact ⟨rfl, hB.trans (hb.mono hB.size)⟩
set_option maxRecDepth 100000 in
set_option maxHeartbeats 8000000 in
theorem noboard (s : ByteArray) (side clock full n : Int) (w : World) (hT : Tab w) (hs : s.size ≤ 200) (h0 : 0 ≤ n) (h1 : n ≤ 89) (B : Hid (isB s = false)) (K : Hid ((checkN s side clock full : Int) = 1)) : Calls Tryd.prog 5 #[.agg #[.string s, .int .i64 side, .int .i64 clock, .int .i64 full], .int .i64 n] w (Gives w (.bool true)) := by
  unfold Gives
  have dn0 : decide (n < 0) = false := by simp; omega
  have dn1 : decide (89 < n) = false := by simp; omega
  have ds : decide (200 < (s.size : Int)) = false := by simp; omega
  have ds' : decide (200 < s.size) = false := by simp; omega
  go_enter Tryd.func5, Tryd.ntmps5
  go_wp2_with fail
  obtain ⟨W0, hW0⟩ : ∃ W0, w.alloc (.cells #[.string s, .int .i64 side, .int .i64 clock, .int .i64 full] 31) = W0 := ⟨_, rfl⟩
  have hB : Below w.heap.size w W0 := by rw [← hW0]; exact (by repeat (first | exact Below.refl _ _ | (refine Below.setCell ?_ (by first | omega | (simp; done) | (simp; omega) | (simp at *; omega)) _) | (refine Below.alloc ?_ (by first | omega | (simp; done) | (simp; omega) | (simp at *; omega)) _) | refine Below.drew ?_ | (refine below_drewN ?_ _) | (refine Below.trans ?_ (Below.mono (by assumption) (by first | omega | (simp; done) | (simp; omega) | (simp at *; omega))))))
  have bP : Blk W0 w.heap.size 31 #[.string s, .int .i64 side, .int .i64 clock, .int .i64 full] := by rw [← hW0]; exact Blk.new _ _ _ rfl
  replace hT := hT.below hB hT.lt
  rw [hW0]
  clear hW0
  rw [show (⟨#[75, 65, 66, 78, 82, 67, 80]⟩ : ByteArray) = kindsS from rfl]
  have hLs : kindsS.size = 7 := rfl
  have hLa : ∀ j, j < 7 → ∃ x, bAt kindsS j = x ∧ 65 ≤ x ∧ x ≤ 122 ∧ swapN x = x + 32 := fun j hj => ⟨_, kinds_at ⟨j, hj⟩⟩
  generalize kindsS = L at hLs hLa ⊢
  have HLa := Lib.hid hLa
  have hL7 : L.size ≤ 7 := by omega
  have hL7' : 7 ≤ L.size := by omega
  clear hLs hLa
  have hS0 : W0.cell? ⟨w.heap.size, 0, none⟩ = some (.string s) ∧ W0.cell? ⟨w.heap.size, 1, none⟩ = some (.int .i64 side) ∧ W0.cell? ⟨w.heap.size, 2, none⟩ = some (.int .i64 clock) ∧ W0.cell? ⟨w.heap.size, 3, none⟩ = some (.int .i64 full) ∧ Tab W0 ∧ Below w.heap.size w W0 := ⟨bP.cell 0, bP.cell 1, bP.cell 2, bP.cell 3, hT, hB⟩
  clear bP hB hT
  go_loopw [6] (fun i wr => ∃ j : Nat, j ≤ 7 ∧ i = .int .i64 j ∧ wr.cell? ⟨w.heap.size, 0, none⟩ = some (.string s) ∧ wr.cell? ⟨w.heap.size, 1, none⟩ = some (.int .i64 side) ∧ wr.cell? ⟨w.heap.size, 2, none⟩ = some (.int .i64 clock) ∧ wr.cell? ⟨w.heap.size, 3, none⟩ = some (.int .i64 full) ∧ Tab wr ∧ Below w.heap.size w wr) (fun i _ => 7 - (intOf i).toNat)
  case atStart => exact ⟨0, by omega, rfl, hS0⟩
  case round =>
    obtain ⟨j, hj, rfl, hS⟩ := hrel
    by_cases hlt : j < 7
    · have hjL : j < L.size := by omega
      obtain ⟨x, hx, hx1, hx2, hxs⟩ := HLa.out j hlt
      have hbk : L[j].toNat = x := (bAt_eq L j hjL).trans hx
      obtain ⟨y, hy⟩ : ∃ y, x + 32 = y := ⟨_, rfl⟩
      have hne : (mayB x n == mayB y (89 - n)) = true := by
        rw [← hy, ← hxs, may_turn (by omega)]
        simp
      have Hy := Lib.hid hy
      have i1 : IntKind.i64.wrap (89 - n) = 89 - n := IntWalk.i64_in _ (by omega)
      have hSd : wr.drew.cell? ⟨w.heap.size, 0, none⟩ = some (.string s) ∧ wr.drew.cell? ⟨w.heap.size, 1, none⟩ = some (.int .i64 side) ∧ wr.drew.cell? ⟨w.heap.size, 2, none⟩ = some (.int .i64 clock) ∧ wr.drew.cell? ⟨w.heap.size, 3, none⟩ = some (.int .i64 full) ∧ Tab wr.drew ∧ Below w.heap.size w wr.drew := ⟨hS.1, hS.2.1, hS.2.2.1, hS.2.2.2.1, hS.2.2.2.2.1.next (Below.refl _ _).drew, hS.2.2.2.2.2.drew⟩
      clear hx hy hxs hS
      go_wp2_with fail
      go_region_held3 (fun W => W.cell? ⟨w.heap.size, 0, none⟩ = some (.string s) ∧ W.cell? ⟨w.heap.size, 1, none⟩ = some (.int .i64 side) ∧ W.cell? ⟨w.heap.size, 2, none⟩ = some (.int .i64 clock) ∧ W.cell? ⟨w.heap.size, 3, none⟩ = some (.int .i64 full) ∧ Tab W ∧ Below w.heap.size w W)
        (first | exact hSd | exact posT_keep (by assumption) hb)
        (first | (go_at_call 9; refine (may_any _ _ _).mono ?_; rintro e w1 ⟨rfl, hb⟩) | (go_at_call 23; refine (ofI x y _ ⟨hx1, hx2⟩ Hy.out).mono ?_; rintro e w1 ⟨rfl, hb⟩))
      all_goals
        clear hSd hne i1
        go_wp2
        go_roundw
        case rel => exact ⟨j + 1, by omega, by go_num, by assumption⟩
        case measure => simp [intOf]; omega
    · have hLe : decide (j < L.size) = false := by simp; omega
      obtain ⟨p0, p1, p2, p3, hT, hB⟩ := hS
      go_wp2_with fail
      refine (ris_is s false _ B.out).mono ?_
      rintro e wi ⟨rfl, rfl⟩
      go_wp2_with fail
      refine (check_is s side clock full 1 _ K.out).mono ?_
      rintro e wc ⟨rfl, hb⟩
      replace hT := hT.next hb
      replace hB := hB.trans (hb.mono hB.size)
      clear hb
      go_wp2_with fail
      refine (live3_any _ hT).mono ?_
      rintro e wl ⟨rfl, hb⟩
      replace hB := hB.trans (hb.mono hB.size)
      go_wp2
      go_ret
      exact ⟨rfl, hB⟩
set_option maxRecDepth 100000 in
set_option maxHeartbeats 8000000 in
theorem sideL (s : ByteArray) (side clock full n : Int) (w : World) (hT : Tab w) (hs : s.size ≤ 200) (h0 : 0 ≤ n) (h1 : n ≤ 89) (B : Hid (isB s = true)) (hd : side < 0) (K : Hid ((checkN s side clock full : Int) = 1)) : Calls Tryd.prog 5 #[.agg #[.string s, .int .i64 side, .int .i64 clock, .int .i64 full], .int .i64 n] w (Gives w (.bool true)) := by
  unfold Gives
  have dn0 : decide (n < 0) = false := by simp; omega
  have dn1 : decide (89 < n) = false := by simp; omega
  have ds : decide (200 < (s.size : Int)) = false := by simp; omega
  have ds' : decide (200 < s.size) = false := by simp; omega
  go_enter Tryd.func5, Tryd.ntmps5
  go_wp2_with fail
  obtain ⟨W0, hW0⟩ : ∃ W0, w.alloc (.cells #[.string s, .int .i64 side, .int .i64 clock, .int .i64 full] 31) = W0 := ⟨_, rfl⟩
  have hB : Below w.heap.size w W0 := by rw [← hW0]; exact (by repeat (first | exact Below.refl _ _ | (refine Below.setCell ?_ (by first | omega | (simp; done) | (simp; omega) | (simp at *; omega)) _) | (refine Below.alloc ?_ (by first | omega | (simp; done) | (simp; omega) | (simp at *; omega)) _) | refine Below.drew ?_ | (refine below_drewN ?_ _) | (refine Below.trans ?_ (Below.mono (by assumption) (by first | omega | (simp; done) | (simp; omega) | (simp at *; omega))))))
  have bP : Blk W0 w.heap.size 31 #[.string s, .int .i64 side, .int .i64 clock, .int .i64 full] := by rw [← hW0]; exact Blk.new _ _ _ rfl
  replace hT := hT.below hB hT.lt
  rw [hW0]
  clear hW0
  rw [show (⟨#[75, 65, 66, 78, 82, 67, 80]⟩ : ByteArray) = kindsS from rfl]
  have hLs : kindsS.size = 7 := rfl
  have hLa : ∀ j, j < 7 → ∃ x, bAt kindsS j = x ∧ 65 ≤ x ∧ x ≤ 122 ∧ swapN x = x + 32 := fun j hj => ⟨_, kinds_at ⟨j, hj⟩⟩
  generalize kindsS = L at hLs hLa ⊢
  have HLa := Lib.hid hLa
  have hL7 : L.size ≤ 7 := by omega
  have hL7' : 7 ≤ L.size := by omega
  clear hLs hLa
  have hS0 : W0.cell? ⟨w.heap.size, 0, none⟩ = some (.string s) ∧ W0.cell? ⟨w.heap.size, 1, none⟩ = some (.int .i64 side) ∧ W0.cell? ⟨w.heap.size, 2, none⟩ = some (.int .i64 clock) ∧ W0.cell? ⟨w.heap.size, 3, none⟩ = some (.int .i64 full) ∧ Tab W0 ∧ Below w.heap.size w W0 := ⟨bP.cell 0, bP.cell 1, bP.cell 2, bP.cell 3, hT, hB⟩
  clear bP hB hT
  go_loopw [6] (fun i wr => ∃ j : Nat, j ≤ 7 ∧ i = .int .i64 j ∧ wr.cell? ⟨w.heap.size, 0, none⟩ = some (.string s) ∧ wr.cell? ⟨w.heap.size, 1, none⟩ = some (.int .i64 side) ∧ wr.cell? ⟨w.heap.size, 2, none⟩ = some (.int .i64 clock) ∧ wr.cell? ⟨w.heap.size, 3, none⟩ = some (.int .i64 full) ∧ Tab wr ∧ Below w.heap.size w wr) (fun i _ => 7 - (intOf i).toNat)
  case atStart => exact ⟨0, by omega, rfl, hS0⟩
  case round =>
    obtain ⟨j, hj, rfl, hS⟩ := hrel
    by_cases hlt : j < 7
    · have hjL : j < L.size := by omega
      obtain ⟨x, hx, hx1, hx2, hxs⟩ := HLa.out j hlt
      have hbk : L[j].toNat = x := (bAt_eq L j hjL).trans hx
      obtain ⟨y, hy⟩ : ∃ y, x + 32 = y := ⟨_, rfl⟩
      have hne : (mayB x n == mayB y (89 - n)) = true := by
        rw [← hy, ← hxs, may_turn (by omega)]
        simp
      have Hy := Lib.hid hy
      have i1 : IntKind.i64.wrap (89 - n) = 89 - n := IntWalk.i64_in _ (by omega)
      have hSd : wr.drew.cell? ⟨w.heap.size, 0, none⟩ = some (.string s) ∧ wr.drew.cell? ⟨w.heap.size, 1, none⟩ = some (.int .i64 side) ∧ wr.drew.cell? ⟨w.heap.size, 2, none⟩ = some (.int .i64 clock) ∧ wr.drew.cell? ⟨w.heap.size, 3, none⟩ = some (.int .i64 full) ∧ Tab wr.drew ∧ Below w.heap.size w wr.drew := ⟨hS.1, hS.2.1, hS.2.2.1, hS.2.2.2.1, hS.2.2.2.2.1.next (Below.refl _ _).drew, hS.2.2.2.2.2.drew⟩
      clear hx hy hxs hS
      go_wp2_with fail
      go_region_held3 (fun W => W.cell? ⟨w.heap.size, 0, none⟩ = some (.string s) ∧ W.cell? ⟨w.heap.size, 1, none⟩ = some (.int .i64 side) ∧ W.cell? ⟨w.heap.size, 2, none⟩ = some (.int .i64 clock) ∧ W.cell? ⟨w.heap.size, 3, none⟩ = some (.int .i64 full) ∧ Tab W ∧ Below w.heap.size w W)
        (first | exact hSd | exact posT_keep (by assumption) hb)
        (first | (go_at_call 9; refine (may_any _ _ _).mono ?_; rintro e w1 ⟨rfl, hb⟩) | (go_at_call 23; refine (ofI x y _ ⟨hx1, hx2⟩ Hy.out).mono ?_; rintro e w1 ⟨rfl, hb⟩))
      all_goals
        clear hSd hne i1
        go_wp2
        go_roundw
        case rel => exact ⟨j + 1, by omega, by go_num, by assumption⟩
        case measure => simp [intOf]; omega
    · have hLe : decide (j < L.size) = false := by simp; omega
      obtain ⟨p0, p1, p2, p3, hT, hB⟩ := hS
      go_wp2_with fail
      refine (ris_is s true _ B.out).mono ?_
      rintro e wi ⟨rfl, rfl⟩
      go_wp2_with fail
      refine (check_is s side clock full 1 _ K.out).mono ?_
      rintro e wc ⟨rfl, hb⟩
      replace hT := hT.next hb
      replace hB := hB.trans (hb.mono hB.size)
      clear hb
      go_wp2_with fail
      refine (live3_any _ hT).mono ?_
      rintro e wl ⟨rfl, hb⟩
      replace hB := hB.trans (hb.mono hB.size)
      go_wp2
      go_ret
      exact ⟨rfl, hB⟩
set_option maxRecDepth 100000 in
set_option maxHeartbeats 8000000 in
theorem sideH (s : ByteArray) (side clock full n : Int) (w : World) (hT : Tab w) (hs : s.size ≤ 200) (h0 : 0 ≤ n) (h1 : n ≤ 89) (B : Hid (isB s = true)) (hd0 : 0 ≤ side) (hd : 1 < side) (K : Hid ((checkN s side clock full : Int) = 1)) : Calls Tryd.prog 5 #[.agg #[.string s, .int .i64 side, .int .i64 clock, .int .i64 full], .int .i64 n] w (Gives w (.bool true)) := by
  unfold Gives
  have dn0 : decide (n < 0) = false := by simp; omega
  have dn1 : decide (89 < n) = false := by simp; omega
  have ds : decide (200 < (s.size : Int)) = false := by simp; omega
  have ds' : decide (200 < s.size) = false := by simp; omega
  go_enter Tryd.func5, Tryd.ntmps5
  go_wp2_with fail
  obtain ⟨W0, hW0⟩ : ∃ W0, w.alloc (.cells #[.string s, .int .i64 side, .int .i64 clock, .int .i64 full] 31) = W0 := ⟨_, rfl⟩
  have hB : Below w.heap.size w W0 := by rw [← hW0]; exact (by repeat (first | exact Below.refl _ _ | (refine Below.setCell ?_ (by first | omega | (simp; done) | (simp; omega) | (simp at *; omega)) _) | (refine Below.alloc ?_ (by first | omega | (simp; done) | (simp; omega) | (simp at *; omega)) _) | refine Below.drew ?_ | (refine below_drewN ?_ _) | (refine Below.trans ?_ (Below.mono (by assumption) (by first | omega | (simp; done) | (simp; omega) | (simp at *; omega))))))
  have bP : Blk W0 w.heap.size 31 #[.string s, .int .i64 side, .int .i64 clock, .int .i64 full] := by rw [← hW0]; exact Blk.new _ _ _ rfl
  replace hT := hT.below hB hT.lt
  rw [hW0]
  clear hW0
  rw [show (⟨#[75, 65, 66, 78, 82, 67, 80]⟩ : ByteArray) = kindsS from rfl]
  have hLs : kindsS.size = 7 := rfl
  have hLa : ∀ j, j < 7 → ∃ x, bAt kindsS j = x ∧ 65 ≤ x ∧ x ≤ 122 ∧ swapN x = x + 32 := fun j hj => ⟨_, kinds_at ⟨j, hj⟩⟩
  generalize kindsS = L at hLs hLa ⊢
  have HLa := Lib.hid hLa
  have hL7 : L.size ≤ 7 := by omega
  have hL7' : 7 ≤ L.size := by omega
  clear hLs hLa
  have hS0 : W0.cell? ⟨w.heap.size, 0, none⟩ = some (.string s) ∧ W0.cell? ⟨w.heap.size, 1, none⟩ = some (.int .i64 side) ∧ W0.cell? ⟨w.heap.size, 2, none⟩ = some (.int .i64 clock) ∧ W0.cell? ⟨w.heap.size, 3, none⟩ = some (.int .i64 full) ∧ Tab W0 ∧ Below w.heap.size w W0 := ⟨bP.cell 0, bP.cell 1, bP.cell 2, bP.cell 3, hT, hB⟩
  clear bP hB hT
  go_loopw [6] (fun i wr => ∃ j : Nat, j ≤ 7 ∧ i = .int .i64 j ∧ wr.cell? ⟨w.heap.size, 0, none⟩ = some (.string s) ∧ wr.cell? ⟨w.heap.size, 1, none⟩ = some (.int .i64 side) ∧ wr.cell? ⟨w.heap.size, 2, none⟩ = some (.int .i64 clock) ∧ wr.cell? ⟨w.heap.size, 3, none⟩ = some (.int .i64 full) ∧ Tab wr ∧ Below w.heap.size w wr) (fun i _ => 7 - (intOf i).toNat)
  case atStart => exact ⟨0, by omega, rfl, hS0⟩
  case round =>
    obtain ⟨j, hj, rfl, hS⟩ := hrel
    by_cases hlt : j < 7
    · have hjL : j < L.size := by omega
      obtain ⟨x, hx, hx1, hx2, hxs⟩ := HLa.out j hlt
      have hbk : L[j].toNat = x := (bAt_eq L j hjL).trans hx
      obtain ⟨y, hy⟩ : ∃ y, x + 32 = y := ⟨_, rfl⟩
      have hne : (mayB x n == mayB y (89 - n)) = true := by
        rw [← hy, ← hxs, may_turn (by omega)]
        simp
      have Hy := Lib.hid hy
      have i1 : IntKind.i64.wrap (89 - n) = 89 - n := IntWalk.i64_in _ (by omega)
      have hSd : wr.drew.cell? ⟨w.heap.size, 0, none⟩ = some (.string s) ∧ wr.drew.cell? ⟨w.heap.size, 1, none⟩ = some (.int .i64 side) ∧ wr.drew.cell? ⟨w.heap.size, 2, none⟩ = some (.int .i64 clock) ∧ wr.drew.cell? ⟨w.heap.size, 3, none⟩ = some (.int .i64 full) ∧ Tab wr.drew ∧ Below w.heap.size w wr.drew := ⟨hS.1, hS.2.1, hS.2.2.1, hS.2.2.2.1, hS.2.2.2.2.1.next (Below.refl _ _).drew, hS.2.2.2.2.2.drew⟩
      clear hx hy hxs hS
      go_wp2_with fail
      go_region_held3 (fun W => W.cell? ⟨w.heap.size, 0, none⟩ = some (.string s) ∧ W.cell? ⟨w.heap.size, 1, none⟩ = some (.int .i64 side) ∧ W.cell? ⟨w.heap.size, 2, none⟩ = some (.int .i64 clock) ∧ W.cell? ⟨w.heap.size, 3, none⟩ = some (.int .i64 full) ∧ Tab W ∧ Below w.heap.size w W)
        (first | exact hSd | exact posT_keep (by assumption) hb)
        (first | (go_at_call 9; refine (may_any _ _ _).mono ?_; rintro e w1 ⟨rfl, hb⟩) | (go_at_call 23; refine (ofI x y _ ⟨hx1, hx2⟩ Hy.out).mono ?_; rintro e w1 ⟨rfl, hb⟩))
      all_goals
        clear hSd hne i1
        go_wp2
        go_roundw
        case rel => exact ⟨j + 1, by omega, by go_num, by assumption⟩
        case measure => simp [intOf]; omega
    · have hLe : decide (j < L.size) = false := by simp; omega
      obtain ⟨p0, p1, p2, p3, hT, hB⟩ := hS
      go_wp2_with fail
      refine (ris_is s true _ B.out).mono ?_
      rintro e wi ⟨rfl, rfl⟩
      go_wp2_with fail
      refine (check_is s side clock full 1 _ K.out).mono ?_
      rintro e wc ⟨rfl, hb⟩
      replace hT := hT.next hb
      replace hB := hB.trans (hb.mono hB.size)
      clear hb
      go_wp2_with fail
      refine (live3_any _ hT).mono ?_
      rintro e wl ⟨rfl, hb⟩
      replace hB := hB.trans (hb.mono hB.size)
      go_wp2
      go_ret
      exact ⟨rfl, hB⟩
set_option maxRecDepth 100000 in
set_option maxHeartbeats 8000000 in
theorem good (s : ByteArray) (side clock full n : Int) (w : World) (hT : Tab w) (hs : s.size ≤ 200) (h0 : 0 ≤ n) (h1 : n ≤ 89) (t : ByteArray) (B : Hid (isB s = true)) (hd0 : 0 ≤ side) (hd : side ≤ 1) (Ht : Hid (turnB s = t)) (hc : checkN t (1 - side) clock full = checkN s side clock full) : Calls Tryd.prog 5 #[.agg #[.string s, .int .i64 side, .int .i64 clock, .int .i64 full], .int .i64 n] w (Gives w (.bool true)) := by
  unfold Gives
  have dn0 : decide (n < 0) = false := by simp; omega
  have dn1 : decide (89 < n) = false := by simp; omega
  have ds : decide (200 < (s.size : Int)) = false := by simp; omega
  have ds' : decide (200 < s.size) = false := by simp; omega
  go_enter Tryd.func5, Tryd.ntmps5
  go_wp2_with fail
  obtain ⟨W0, hW0⟩ : ∃ W0, w.alloc (.cells #[.string s, .int .i64 side, .int .i64 clock, .int .i64 full] 31) = W0 := ⟨_, rfl⟩
  have hB : Below w.heap.size w W0 := by rw [← hW0]; exact (by repeat (first | exact Below.refl _ _ | (refine Below.setCell ?_ (by first | omega | (simp; done) | (simp; omega) | (simp at *; omega)) _) | (refine Below.alloc ?_ (by first | omega | (simp; done) | (simp; omega) | (simp at *; omega)) _) | refine Below.drew ?_ | (refine below_drewN ?_ _) | (refine Below.trans ?_ (Below.mono (by assumption) (by first | omega | (simp; done) | (simp; omega) | (simp at *; omega))))))
  have bP : Blk W0 w.heap.size 31 #[.string s, .int .i64 side, .int .i64 clock, .int .i64 full] := by rw [← hW0]; exact Blk.new _ _ _ rfl
  replace hT := hT.below hB hT.lt
  rw [hW0]
  clear hW0
  rw [show (⟨#[75, 65, 66, 78, 82, 67, 80]⟩ : ByteArray) = kindsS from rfl]
  have hLs : kindsS.size = 7 := rfl
  have hLa : ∀ j, j < 7 → ∃ x, bAt kindsS j = x ∧ 65 ≤ x ∧ x ≤ 122 ∧ swapN x = x + 32 := fun j hj => ⟨_, kinds_at ⟨j, hj⟩⟩
  generalize kindsS = L at hLs hLa ⊢
  have HLa := Lib.hid hLa
  have hL7 : L.size ≤ 7 := by omega
  have hL7' : 7 ≤ L.size := by omega
  clear hLs hLa
  have hS0 : W0.cell? ⟨w.heap.size, 0, none⟩ = some (.string s) ∧ W0.cell? ⟨w.heap.size, 1, none⟩ = some (.int .i64 side) ∧ W0.cell? ⟨w.heap.size, 2, none⟩ = some (.int .i64 clock) ∧ W0.cell? ⟨w.heap.size, 3, none⟩ = some (.int .i64 full) ∧ Tab W0 ∧ Below w.heap.size w W0 := ⟨bP.cell 0, bP.cell 1, bP.cell 2, bP.cell 3, hT, hB⟩
  clear bP hB hT
  go_loopw [6] (fun i wr => ∃ j : Nat, j ≤ 7 ∧ i = .int .i64 j ∧ wr.cell? ⟨w.heap.size, 0, none⟩ = some (.string s) ∧ wr.cell? ⟨w.heap.size, 1, none⟩ = some (.int .i64 side) ∧ wr.cell? ⟨w.heap.size, 2, none⟩ = some (.int .i64 clock) ∧ wr.cell? ⟨w.heap.size, 3, none⟩ = some (.int .i64 full) ∧ Tab wr ∧ Below w.heap.size w wr) (fun i _ => 7 - (intOf i).toNat)
  case atStart => exact ⟨0, by omega, rfl, hS0⟩
  case round =>
    obtain ⟨j, hj, rfl, hS⟩ := hrel
    by_cases hlt : j < 7
    · have hjL : j < L.size := by omega
      obtain ⟨x, hx, hx1, hx2, hxs⟩ := HLa.out j hlt
      have hbk : L[j].toNat = x := (bAt_eq L j hjL).trans hx
      obtain ⟨y, hy⟩ : ∃ y, x + 32 = y := ⟨_, rfl⟩
      have hne : (mayB x n == mayB y (89 - n)) = true := by
        rw [← hy, ← hxs, may_turn (by omega)]
        simp
      have Hy := Lib.hid hy
      have i1 : IntKind.i64.wrap (89 - n) = 89 - n := IntWalk.i64_in _ (by omega)
      have hSd : wr.drew.cell? ⟨w.heap.size, 0, none⟩ = some (.string s) ∧ wr.drew.cell? ⟨w.heap.size, 1, none⟩ = some (.int .i64 side) ∧ wr.drew.cell? ⟨w.heap.size, 2, none⟩ = some (.int .i64 clock) ∧ wr.drew.cell? ⟨w.heap.size, 3, none⟩ = some (.int .i64 full) ∧ Tab wr.drew ∧ Below w.heap.size w wr.drew := ⟨hS.1, hS.2.1, hS.2.2.1, hS.2.2.2.1, hS.2.2.2.2.1.next (Below.refl _ _).drew, hS.2.2.2.2.2.drew⟩
      clear hx hy hxs hS
      go_wp2_with fail
      go_region_held3 (fun W => W.cell? ⟨w.heap.size, 0, none⟩ = some (.string s) ∧ W.cell? ⟨w.heap.size, 1, none⟩ = some (.int .i64 side) ∧ W.cell? ⟨w.heap.size, 2, none⟩ = some (.int .i64 clock) ∧ W.cell? ⟨w.heap.size, 3, none⟩ = some (.int .i64 full) ∧ Tab W ∧ Below w.heap.size w W)
        (first | exact hSd | exact posT_keep (by assumption) hb)
        (first | (go_at_call 9; refine (may_any _ _ _).mono ?_; rintro e w1 ⟨rfl, hb⟩) | (go_at_call 23; refine (ofI x y _ ⟨hx1, hx2⟩ Hy.out).mono ?_; rintro e w1 ⟨rfl, hb⟩))
      all_goals
        clear hSd hne i1
        go_wp2
        go_roundw
        case rel => exact ⟨j + 1, by omega, by go_num, by assumption⟩
        case measure => simp [intOf]; omega
    · have hLe : decide (j < L.size) = false := by simp; omega
      obtain ⟨p0, p1, p2, p3, hT, hB⟩ := hS
      have hp : (palaceB n 0 == palaceB (89 - n) 1) = true := by rw [palace_turn (by omega)]; simp
      have ho : (overB n 0 == overB (89 - n) 1) = true := by rw [over_turn (by omega)]; simp
      have hv : (overB n 0 == overB n 1) = false := by simpa using over_other (n := n) (by omega)
      have hc1 : (checkN s side clock full == checkN t (1 - side) clock full) = true := by rw [hc]; simp
      have hc2 : ((checkN s side clock full : Int) == (checkN t (1 - side) clock full : Int)) = true := by rw [hc]; simp
      have dd0 : decide (side < 0) = false := by simp; omega
      have dd1 : decide (1 < side) = false := by simp; omega
      have i1 : IntKind.i64.wrap (89 - n) = 89 - n := IntWalk.i64_in _ (by omega)
      clear hc
      go_wp2_with fail
      refine (ris_is s true _ B.out).mono ?_
      rintro e wi ⟨rfl, rfl⟩
      have hSd : wr.drew.cell? ⟨w.heap.size, 0, none⟩ = some (.string s) ∧ wr.drew.cell? ⟨w.heap.size, 1, none⟩ = some (.int .i64 side) ∧ wr.drew.cell? ⟨w.heap.size, 2, none⟩ = some (.int .i64 clock) ∧ wr.drew.cell? ⟨w.heap.size, 3, none⟩ = some (.int .i64 full) ∧ Tab wr.drew ∧ Below w.heap.size w wr.drew := ⟨p0, p1, p2, p3, hT.next (Below.refl _ _).drew, hB.drew⟩
      go_wp2_with fail
      clear p0 p1 p2 p3 hT hB
      try simp only [List.append_eq, List.cons_append, List.nil_append]
      go_region_held3 (fun W => W.cell? ⟨w.heap.size, 0, none⟩ = some (.string s) ∧ W.cell? ⟨w.heap.size, 1, none⟩ = some (.int .i64 side) ∧ W.cell? ⟨w.heap.size, 2, none⟩ = some (.int .i64 clock) ∧ W.cell? ⟨w.heap.size, 3, none⟩ = some (.int .i64 full) ∧ Tab W ∧ Below w.heap.size w W)
        (first | exact hSd | exact posT_keep (by assumption) hb)
        (first | (go_at_call 16; refine (palace_any _ _ _).mono ?_; rintro e w1 ⟨rfl, hb⟩) | (go_at_call 18; refine (over_any _ _ _).mono ?_; rintro e w1 ⟨rfl, hb⟩) | (go_at_call 21; refine (check_any _ _ _ _ _).mono ?_; rintro e w1 ⟨rfl, hb⟩) | (go_at_call 25; refine (rturnP_any s t side clock full _ hd0 hd Ht).mono ?_; rintro e w1 ⟨rfl, hb⟩) | (go_at_call 20; refine (live3_any _ ?_).mono ?_; (exact posT_tab (by assumption)); rintro e w1 ⟨rfl, hb⟩))
      all_goals
        go_wp2
        go_ret
        exact ⟨rfl, posT_below (by assumption)⟩
theorem walk (s : ByteArray) (side clock full n : Int) (w : World) (hT : Tab w) : Calls Tryd.prog 5 #[.agg #[.string s, .int .i64 side, .int .i64 clock, .int .i64 full], .int .i64 n] w (Gives w (.bool true)) := by
  by_cases hs : s.size ≤ 200
  · by_cases h0 : n < 0
    · exact below s side clock full n w hT hs h0
    · by_cases h1 : 89 < n
      · exact above s side clock full n w hT hs (by omega) h1
      · cases hb : isB s
        · exact noboard s side clock full n w hT hs (by omega) (by omega) hb (by rw [parts_false (.inl hb)]; rfl)
        · by_cases d0 : side < 0
          · exact sideL s side clock full n w hT hs (by omega) (by omega) hb d0 (by rw [parts_false (.inr (.inl (by simp; omega)))]; rfl)
          · by_cases d1 : 1 < side
            · exact sideH s side clock full n w hT hs (by omega) (by omega) hb (by omega) d1 (by rw [parts_false (.inr (.inl (by simp; omega)))]; rfl)
            · exact good s side clock full n w hT hs (by omega) (by omega) _ hb (by omega) (by omega) rfl (check_turn hb (by omega))
  · exact large s side clock full n w hT (by omega)
end Go.Proofs.YtglnbohogldenaaDoor.turned
