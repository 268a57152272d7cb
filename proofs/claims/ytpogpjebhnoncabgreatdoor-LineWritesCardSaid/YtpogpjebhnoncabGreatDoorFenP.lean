/- What Print answers, for every position. -/
import Derived.Test.YtpogpjebhnoncabGreatDoorFenE
namespace Go.Proofs.YtpogpjebhnoncabGreatDoor
open Go.RowKit Go.Shelf
open M (S)

/-- Ten texts in memory: those of the first k ranks are laid. -/
def rowC (s : ByteArray) (k : Nat) : Array Value := ((List.range 10).map fun j => Value.string (if 9 - j < k then bs (F.rle 0 (line s (9 - j))) else ⟨#[]⟩)).toArray
theorem rowC_at (s : ByteArray) (k j : Nat) (h : j < 10) : (rowC s k)[j]? = some (.string (if 9 - j < k then bs (F.rle 0 (line s (9 - j))) else ⟨#[]⟩)) := by simp [rowC, h]
theorem rowC_set (s : ByteArray) (k : Nat) (hk : k ≤ 9) : (rowC s k).setIfInBounds (9 - k) (.string (bs (F.rle 0 (line s k)))) = rowC s (k + 1) := by
  apply Array.ext
  · simp [rowC]
  · intro i h1 h2
    simp only [rowC, List.size_toArray, List.length_map, List.length_range] at h2
    rw [Array.getElem_setIfInBounds (by simpa [rowC] using h2)]
    simp only [rowC, List.getElem_toArray, List.getElem_map, List.getElem_range]
    by_cases e : 9 - k = i
    · rw [if_pos e, if_pos (by omega), show 9 - i = k by omega]
    · rw [if_neg e]
      by_cases h : 9 - i < k
      · rw [if_pos h, if_pos (by omega)]
      · rw [if_neg h, if_neg (by omega)]
theorem rowC_zero (s t : ByteArray) : rowC s 0 = rowC t 0 := by simp [rowC]
theorem extract_line (s : ByteArray) (k : Nat) : s.extract (k * 9) (k * 9 + 9) = bs (line s k) := by
  obtain ⟨⟨l⟩⟩ := s
  unfold bs line
  rw [ByteArray.extract_mk, Nat.mul_comm k 9]
  simp
theorem make10 (w : World) : (Instr.makeSlice 38 (.int .i64 10) (.int .i64 10)).run Tryz.prog w = .ok (.slice (some ⟨w.heap.size, 0, none⟩) 10 10) (w.alloc (.cells (rowC ByteArray.empty 0) 9)) := by kernel_rfl
attribute [local go_sem ↓] make10 in
set_option maxRecDepth 100000 in
set_option maxHeartbeats 2000000 in
theorem printBoard_any (s : ByteArray) (w : World) (hE : Env w) (hs : s.size = 90) (T : List UInt8) (HT : Hid (F.boardT s.data.toList = T)) : Calls Tryz.prog 80 #[.string s] w (Gives w (.string (bs T))) := by
  unfold Gives
  have hs1 : 90 ≤ s.size := by omega
  have HS := Lib.hid hs
  clear hs
  go_enter Tryz.func80, Tryz.ntmps80
  go_wp2
  obtain ⟨W0, hW0⟩ : ∃ W0, w.alloc (.cells (rowC ByteArray.empty 0) 9) = W0 := ⟨_, rfl⟩
  have b0 : Blk W0 w.heap.size 9 (rowC s 0) := by rw [← hW0, rowC_zero s ByteArray.empty]; exact Blk.new _ _ _ rfl
  have hB0 : Below w.heap.size w W0 := by rw [← hW0]; exact (by repeat (first | exact Below.refl _ _ | (refine Below.setCell ?_ (by first | omega | (simp; done) | (simp; omega) | (simp at *; omega)) _) | (refine Below.alloc ?_ (by first | omega | (simp; done) | (simp; omega) | (simp at *; omega)) _) | refine Below.drew ?_ | (refine below_drewN ?_ _) | (refine Below.trans ?_ (Below.mono (by assumption) (by first | omega | (simp; done) | (simp; omega) | (simp at *; omega))))))
  have hE0 := hE
  replace hE := hE.next hB0
  rw [hW0]
  clear hW0
  go_loopw [4, 5, 7] (fun _ _ i wr => ∃ k : Nat, k ≤ 10 ∧ i = .int .i64 k ∧ Blk wr w.heap.size 9 (rowC s k) ∧ Env wr ∧ Below w.heap.size w wr) (fun _ _ i _ => 10 - (intOf i).toNat)
  case atStart => exact ⟨0, by omega, rfl, b0, hE, hB0⟩
  case round =>
    obtain ⟨k, hk, rfl, bR, hE, hB⟩ := hrel
    by_cases hlt : k < 10
    · have hset := rowC_set s k (by omega)
      have hex := extract_line s k
      have hln := line_len HS.out (r := k) (by omega)
      have Hset := Lib.hid hset
      have Hex := Lib.hid hex
      have Hln := Lib.hid hln
      obtain ⟨j, hj⟩ : ∃ j : Nat, 9 - k = j := ⟨_, rfl⟩
      have i1 : (9 : Int) - (k : Int) = (j : Int) := by omega
      have hj10 : j < 10 := by omega
      rw [hj] at Hset
      have Hj := Lib.hid hj
      clear hset hex hln hj
      go_wp2_with fail
      rw [Hex.out]
      refine (printRank_any _ _ hE Hln.out).mono ?_
      rintro e w1 ⟨rfl, hb⟩
      replace hE := hE.next hb
      replace bR := bR.next hb
      replace hB := hB.trans (hb.mono hB.size)
      clear hb
      have c0 := bR.cell j
      have f0 := bR.frozen j
      rw [rowC_at s k j hj10] at c0
      go_wp2
      go_roundw
      case rel =>
        have hb := (Below.refl w.heap.size w1).setCell (p := ⟨w.heap.size, j, none⟩) (Nat.le_refl _) (.string (bs (F.rle 0 (line s k))))
        exact ⟨k + 1, by omega, by go_num, by have h := bR.set_ j (.string (bs (F.rle 0 (line s k)))); rw [Hset.out] at h; exact h, hE.below hb (envLt hE0), hB.trans hb⟩
      case measure => simp [intOf]; omega
    · obtain rfl : k = 10 := by omega
      have hcell : ∀ j x, (F.rows s.data.toList)[j]? = some x → wr.cell? ⟨w.heap.size, j, none⟩ = some (.string (bs x)) := fun j x hx => by
        have hj : j < 10 := by
          have := (List.getElem?_eq_some_iff.1 hx).1
          simpa [F.rows] using this
        rw [bR.cell j, rowC_at s 10 j hj, if_pos (by omega)]
        rw [rows_at s j hj] at hx
        injection hx with hx
        rw [hx]
      have hTl : T.length ≤ 1000000 := by
        rw [← HT.out, ← ranksT_ten]
        have := ranksT_len s 10 (by omega) (by omega)
        omega
      have hjoin := join_any w.heap.size 10 (F.rows s.data.toList) 10 [47] T wr hcell bR.lt (by simp [F.rows]) (Nat.le_refl _) HT.out hTl (by omega)
      have HJ := Lib.hid hjoin
      clear hjoin hcell
      go_wp2_with fail
      refine HJ.out.mono ?_
      rintro e w1 ⟨rfl, hb⟩
      go_wp2
      go_ret
      exact ⟨rfl, hB.trans (hb.mono hB.size)⟩
theorem posE_keep {w : World} {s : ByteArray} {side clock full : Int} {W W' : World} (h : W.cell? ⟨w.heap.size, 0, none⟩ = some (.string s) ∧ W.cell? ⟨w.heap.size, 1, none⟩ = some (.int .i64 side) ∧ W.cell? ⟨w.heap.size, 2, none⟩ = some (.int .i64 clock) ∧ W.cell? ⟨w.heap.size, 3, none⟩ = some (.int .i64 full) ∧ Env W ∧ Below w.heap.size w W) (hb : Below W.heap.size W W') : W'.cell? ⟨w.heap.size, 0, none⟩ = some (.string s) ∧ W'.cell? ⟨w.heap.size, 1, none⟩ = some (.int .i64 side) ∧ W'.cell? ⟨w.heap.size, 2, none⟩ = some (.int .i64 clock) ∧ W'.cell? ⟨w.heap.size, 3, none⟩ = some (.int .i64 full) ∧ Env W' ∧ Below w.heap.size w W' := by
  obtain ⟨h0, h1, h2, h3, h4, h5⟩ := h
  have hg : w.heap.size < W.heap.size := World.block_lt_of_cell? _ _ h0
  exact ⟨(hb.cell (p := ⟨w.heap.size, 0, none⟩) hg).trans h0, (hb.cell (p := ⟨w.heap.size, 1, none⟩) hg).trans h1, (hb.cell (p := ⟨w.heap.size, 2, none⟩) hg).trans h2, (hb.cell (p := ⟨w.heap.size, 3, none⟩) hg).trans h3, h4.next hb, h5.trans (hb.mono h5.size)⟩
theorem posE_env {w : World} {s : ByteArray} {side clock full : Int} {W : World} (h : W.cell? ⟨w.heap.size, 0, none⟩ = some (.string s) ∧ W.cell? ⟨w.heap.size, 1, none⟩ = some (.int .i64 side) ∧ W.cell? ⟨w.heap.size, 2, none⟩ = some (.int .i64 clock) ∧ W.cell? ⟨w.heap.size, 3, none⟩ = some (.int .i64 full) ∧ Env W ∧ Below w.heap.size w W) : Env W := h.2.2.2.2.1
theorem mover0 (W : World) : (Instr.slice 9 (.string ⟨#[119, 98]⟩) (some (.int .i64 0)) (some (.int .i64 1)) none).run Tryz.prog W = .ok (.string (bs [119])) W := by kernel_rfl
theorem mover1 (W : World) : (Instr.slice 9 (.string ⟨#[119, 98]⟩) (some (.int .i64 1)) (some (.int .i64 2)) none).run Tryz.prog W = .ok (.string (bs [98])) W := by kernel_rfl
set_option maxHeartbeats 1000000 in
theorem print_bad (s : ByteArray) (side clock full k : Int) (w : World) (K : Hid ((checkN s side clock full : Int) = k)) (hk : (k != 0) = true) : Calls Tryz.prog 54 #[.agg #[.string s, .int .i64 side, .int .i64 clock, .int .i64 full]] w (Gives w (.tuple #[.string ⟨#[]⟩, .int .i64 k])) := by
  unfold Gives
  go_enter Tryz.func54, Tryz.ntmps54
  go_wp2_with fail
  refine (check_is s side clock full k _ K.out).mono ?_
  rintro e w1 ⟨rfl, hb⟩
  go_wp2
  go_ret2
  exact ⟨rfl, below_made hb⟩
theorem six_cells {W : World} {g : Nat} {t : TypeId} {a b c d e f : List UInt8} (h : Blk W g t #[.string (bs a), .string (bs b), .string (bs c), .string (bs d), .string (bs e), .string (bs f)]) : ∀ j x, [a, b, c, d, e, f][j]? = some x → W.cell? ⟨g, j, none⟩ = some (.string (bs x)) := fun j x hx => by
  have e1 : (#[.string (bs a), .string (bs b), .string (bs c), .string (bs d), .string (bs e), .string (bs f)] : Array Value) = ([a, b, c, d, e, f].map fun l => Value.string (bs l)).toArray := rfl
  rw [h.cell j, e1, List.getElem?_toArray, List.getElem?_map, hx]
  rfl
set_option maxRecDepth 100000 in
set_option maxHeartbeats 4000000 in
theorem print_good0 (s : ByteArray) (clock full : Int) (w : World) (hE : Env w) (K : Hid ((checkN s 0 clock full : Int) = 0)) (T : List UInt8) (HT : Hid (F.printL (posP s 0 clock full) = T)) : Calls Tryz.prog 54 #[.agg #[.string s, .int .i64 0, .int .i64 clock, .int .i64 full]] w (Gives w (.tuple #[.string (bs T), .int .i64 0])) := by
  unfold Gives
  have hp := (check_zeroF K.out).1
  have hs := isB_size (parts_boardF hp)
  obtain ⟨_, hc0, hc1, hf0, hf1⟩ := parts_nums hp
  have HS := Lib.hid hs
  clear hp hs
  obtain ⟨bt, hbt⟩ : ∃ bt, F.boardT s.data.toList = bt := ⟨_, rfl⟩
  have HBT := Lib.hid hbt
  have hjn : Hid (Lib.join [bt, [119], [45], [45], Lib.decDigits clock.toNat, Lib.decDigits full.toNat] [32] = T) := by
    show _ = _
    rw [← HT.out, ← hbt]
    rfl
  have hTl : T.length ≤ 1000000 := by
    rw [← hjn.out, Lib.join_length]
    have h1 : bt.length ≤ 100 := by
      rw [← hbt, ← ranksT_ten]
      exact ranksT_len s 10 (by omega) (by omega)
    have h2 := Lib.nDigits_le20 clock.toNat (by omega)
    have h3 := Lib.nDigits_le20 full.toNat (by omega)
    simp only [Lib.lens, List.map_cons, List.map_nil, List.sum_cons, List.sum_nil, Lib.decDigits_length, List.length_cons, List.length_nil]
    omega
  have i1 : IntKind.i64.wrap 1 = 1 := rfl
  have hex : (⟨#[119, 98]⟩ : ByteArray).extract 0 1 = bs [119] := rfl
  clear hbt
  go_enter Tryz.func54, Tryz.ntmps54
  go_wp2_with fail
  obtain ⟨W0, hW0⟩ : ∃ W0, w.alloc (.cells #[.string s, .int .i64 0, .int .i64 clock, .int .i64 full] 23) = W0 := ⟨_, rfl⟩
  have hB : Below w.heap.size w W0 := by rw [← hW0]; exact (by repeat (first | exact Below.refl _ _ | (refine Below.setCell ?_ (by first | omega | (simp; done) | (simp; omega) | (simp at *; omega)) _) | (refine Below.alloc ?_ (by first | omega | (simp; done) | (simp; omega) | (simp at *; omega)) _) | refine Below.drew ?_ | (refine below_drewN ?_ _) | (refine Below.trans ?_ (Below.mono (by assumption) (by first | omega | (simp; done) | (simp; omega) | (simp at *; omega))))))
  have bP : Blk W0 w.heap.size 23 #[.string s, .int .i64 0, .int .i64 clock, .int .i64 full] := by rw [← hW0]; exact Blk.new _ _ _ rfl
  replace hE := hE.next hB
  rw [hW0]
  clear hW0
  refine (check_is s 0 clock full 0 _ K.out).mono ?_
  rintro e w1 ⟨rfl, hb⟩
  replace bP := bP.next hb
  replace hE := hE.next hb
  replace hB := hB.trans (hb.mono hB.size)
  clear hb
  have hS : w1.drew.cell? ⟨w.heap.size, 0, none⟩ = some (.string s) ∧ w1.drew.cell? ⟨w.heap.size, 1, none⟩ = some (.int .i64 0) ∧ w1.drew.cell? ⟨w.heap.size, 2, none⟩ = some (.int .i64 clock) ∧ w1.drew.cell? ⟨w.heap.size, 3, none⟩ = some (.int .i64 full) ∧ Env w1.drew ∧ Below w.heap.size w w1.drew := ⟨bP.cell 0, bP.cell 1, bP.cell 2, bP.cell 3, hE.next (Below.refl _ _).drew, hB.drew⟩
  clear bP hE hB
  go_wp2_with fail
  go_region_held3 (fun W => W.cell? ⟨w.heap.size, 0, none⟩ = some (.string s) ∧ W.cell? ⟨w.heap.size, 1, none⟩ = some (.int .i64 0) ∧ W.cell? ⟨w.heap.size, 2, none⟩ = some (.int .i64 clock) ∧ W.cell? ⟨w.heap.size, 3, none⟩ = some (.int .i64 full) ∧ Env W ∧ Below w.heap.size w W)
    (first | assumption | exact hS | exact posE_keep (by assumption) hb | exact posE_keep (by assumption) ((Below.refl _ _).alloc (Nat.le_refl _) _))
    (first | (go_at_call 80; refine (printBoard_any s _ ?_ HS.out bt HBT).mono ?_; (exact posE_env (by assumption)); rintro e w2 ⟨rfl, hb⟩) | (go_at_call 34; refine (itoa_any _ _ ?_ (by omega)).mono ?_; (exact posE_env (by assumption)); rintro e w2 ⟨rfl, hb⟩))
  all_goals
    rename_i hH
    clear hS
    have hB : Below w.heap.size w _ := hH.2.2.2.2.2
    clear hH
    have hcell := six_cells (Blk.new w2 9 #[.string (bs bt), .string (bs [119]), .string (bs [45]), .string (bs [45]), .string (bs (Lib.decDigits clock.toNat)), .string (bs (Lib.decDigits full.toNat))] rfl)
    have hj6 := join_any w2.heap.size 6 [bt, [119], [45], [45], Lib.decDigits clock.toNat, Lib.decDigits full.toNat] 6 [32] T _ hcell (by simp) rfl (Nat.le_refl _) hjn.out hTl (by omega)
    have HJ := Lib.hid hj6
    clear hcell hj6
    go_wp2_with fail
    refine HJ.out.mono ?_
    rintro e w3 ⟨rfl, hb3⟩
    go_wp2
    go_ret2
    exact ⟨rfl, hB.trans (hb3.mono hB.size)⟩
set_option maxRecDepth 100000 in
set_option maxHeartbeats 4000000 in
theorem print_good1 (s : ByteArray) (clock full : Int) (w : World) (hE : Env w) (K : Hid ((checkN s 1 clock full : Int) = 0)) (T : List UInt8) (HT : Hid (F.printL (posP s 1 clock full) = T)) : Calls Tryz.prog 54 #[.agg #[.string s, .int .i64 1, .int .i64 clock, .int .i64 full]] w (Gives w (.tuple #[.string (bs T), .int .i64 0])) := by
  unfold Gives
  have hp := (check_zeroF K.out).1
  have hs := isB_size (parts_boardF hp)
  obtain ⟨_, hc0, hc1, hf0, hf1⟩ := parts_nums hp
  have HS := Lib.hid hs
  clear hp hs
  obtain ⟨bt, hbt⟩ : ∃ bt, F.boardT s.data.toList = bt := ⟨_, rfl⟩
  have HBT := Lib.hid hbt
  have hjn : Hid (Lib.join [bt, [98], [45], [45], Lib.decDigits clock.toNat, Lib.decDigits full.toNat] [32] = T) := by
    show _ = _
    rw [← HT.out, ← hbt]
    rfl
  have hTl : T.length ≤ 1000000 := by
    rw [← hjn.out, Lib.join_length]
    have h1 : bt.length ≤ 100 := by
      rw [← hbt, ← ranksT_ten]
      exact ranksT_len s 10 (by omega) (by omega)
    have h2 := Lib.nDigits_le20 clock.toNat (by omega)
    have h3 := Lib.nDigits_le20 full.toNat (by omega)
    simp only [Lib.lens, List.map_cons, List.map_nil, List.sum_cons, List.sum_nil, Lib.decDigits_length, List.length_cons, List.length_nil]
    omega
  have i1 : IntKind.i64.wrap 2 = 2 := rfl
  have hex : (⟨#[119, 98]⟩ : ByteArray).extract 1 2 = bs [98] := rfl
  clear hbt
  go_enter Tryz.func54, Tryz.ntmps54
  go_wp2_with fail
  obtain ⟨W0, hW0⟩ : ∃ W0, w.alloc (.cells #[.string s, .int .i64 1, .int .i64 clock, .int .i64 full] 23) = W0 := ⟨_, rfl⟩
  have hB : Below w.heap.size w W0 := by rw [← hW0]; exact (by repeat (first | exact Below.refl _ _ | (refine Below.setCell ?_ (by first | omega | (simp; done) | (simp; omega) | (simp at *; omega)) _) | (refine Below.alloc ?_ (by first | omega | (simp; done) | (simp; omega) | (simp at *; omega)) _) | refine Below.drew ?_ | (refine below_drewN ?_ _) | (refine Below.trans ?_ (Below.mono (by assumption) (by first | omega | (simp; done) | (simp; omega) | (simp at *; omega))))))
  have bP : Blk W0 w.heap.size 23 #[.string s, .int .i64 1, .int .i64 clock, .int .i64 full] := by rw [← hW0]; exact Blk.new _ _ _ rfl
  replace hE := hE.next hB
  rw [hW0]
  clear hW0
  refine (check_is s 1 clock full 0 _ K.out).mono ?_
  rintro e w1 ⟨rfl, hb⟩
  replace bP := bP.next hb
  replace hE := hE.next hb
  replace hB := hB.trans (hb.mono hB.size)
  clear hb
  have hS : w1.drew.cell? ⟨w.heap.size, 0, none⟩ = some (.string s) ∧ w1.drew.cell? ⟨w.heap.size, 1, none⟩ = some (.int .i64 1) ∧ w1.drew.cell? ⟨w.heap.size, 2, none⟩ = some (.int .i64 clock) ∧ w1.drew.cell? ⟨w.heap.size, 3, none⟩ = some (.int .i64 full) ∧ Env w1.drew ∧ Below w.heap.size w w1.drew := ⟨bP.cell 0, bP.cell 1, bP.cell 2, bP.cell 3, hE.next (Below.refl _ _).drew, hB.drew⟩
  clear bP hE hB
  go_wp2_with fail
  go_region_held3 (fun W => W.cell? ⟨w.heap.size, 0, none⟩ = some (.string s) ∧ W.cell? ⟨w.heap.size, 1, none⟩ = some (.int .i64 1) ∧ W.cell? ⟨w.heap.size, 2, none⟩ = some (.int .i64 clock) ∧ W.cell? ⟨w.heap.size, 3, none⟩ = some (.int .i64 full) ∧ Env W ∧ Below w.heap.size w W)
    (first | assumption | exact hS | exact posE_keep (by assumption) hb | exact posE_keep (by assumption) ((Below.refl _ _).alloc (Nat.le_refl _) _))
    (first | (go_at_call 80; refine (printBoard_any s _ ?_ HS.out bt HBT).mono ?_; (exact posE_env (by assumption)); rintro e w2 ⟨rfl, hb⟩) | (go_at_call 34; refine (itoa_any _ _ ?_ (by omega)).mono ?_; (exact posE_env (by assumption)); rintro e w2 ⟨rfl, hb⟩))
  all_goals
    rename_i hH
    clear hS
    have hB : Below w.heap.size w _ := hH.2.2.2.2.2
    clear hH
    have hcell := six_cells (Blk.new w2 9 #[.string (bs bt), .string (bs [98]), .string (bs [45]), .string (bs [45]), .string (bs (Lib.decDigits clock.toNat)), .string (bs (Lib.decDigits full.toNat))] rfl)
    have hj6 := join_any w2.heap.size 6 [bt, [98], [45], [45], Lib.decDigits clock.toNat, Lib.decDigits full.toNat] 6 [32] T _ hcell (by simp) rfl (Nat.le_refl _) hjn.out hTl (by omega)
    have HJ := Lib.hid hj6
    clear hcell hj6
    go_wp2_with fail
    refine HJ.out.mono ?_
    rintro e w3 ⟨rfl, hb3⟩
    go_wp2
    go_ret2
    exact ⟨rfl, hB.trans (hb3.mono hB.size)⟩
theorem print_any (s : ByteArray) (side clock full : Int) (w : World) (hE : Env w) : Calls Tryz.prog 54 #[.agg #[.string s, .int .i64 side, .int .i64 clock, .int .i64 full]] w (Gives w (printV s side clock full)) := by
  unfold printV
  by_cases h : (checkN s side clock full : Int) = 0
  · rw [if_pos h]
    rcases (parts_nums (check_zeroF h).1).1 with rfl | rfl
    · exact print_good0 s clock full w hE h _ rfl
    · exact print_good1 s clock full w hE h _ rfl
  · rw [if_neg h]
    exact print_bad s side clock full _ w rfl (by rw [bne_iff_ne]; exact h)
end Go.Proofs.YtpogpjebhnoncabGreatDoor
