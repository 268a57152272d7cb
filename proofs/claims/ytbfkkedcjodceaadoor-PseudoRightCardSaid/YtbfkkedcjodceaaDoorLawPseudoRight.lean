/- What is behind a move is right, and has the same pieces, but for one that was taken; each move is there once, and is applied, but where it takes a general: the call answers true. -/
import Derived.Test.YtbfkkedcjodceaaDoorLive6
namespace Go.Proofs.YtbfkkedcjodceaaDoor.pright
open Go.RowKit Go.Shelf
open M (S)

theorem isM_in {s : ByteArray} {side : Int} (hB : isB s = true) {a b : Nat} (ha : a < 90) (hb : b < 90) : isM s side (a : Int) (b : Int) = (canB s a b && (sideN (bAt s a) == side)) := by
  unfold isM canI
  rw [hB, sqI_true (n := (a : Int)) (by omega), sqI_true (n := (b : Int)) (by omega), Int.toNat_natCast, Int.toNat_natCast]
  rfl
def Lex (m m' : Nat × Nat) : Prop := m.1 < m'.1 ∨ (m.1 = m'.1 ∧ m.2 < m'.2)
theorem moves_rise (s : ByteArray) (side : Int) : (movesN s side).Pairwise Lex := by
  unfold movesN
  rw [List.pairwise_flatMap]
  refine ⟨fun a _ => ?_, ?_⟩
  · unfold movesOf
    split
    · rw [List.pairwise_map]
      refine List.Pairwise.imp (R := (· < ·)) (fun h => .inr ⟨rfl, h⟩) ?_
      exact List.pairwise_lt_range.sublist (List.filter_sublist)
    · exact List.Pairwise.nil
  · refine List.Pairwise.imp (R := (· < ·)) (fun {a b} h x hx y hy => .inl ?_) List.pairwise_lt_range
    have e1 : x.1 = a := by
      unfold movesOf at hx
      split at hx
      · obtain ⟨c, _, rfl⟩ := List.mem_map.1 hx
        rfl
      · simp at hx
    have e2 : y.1 = b := by
      unfold movesOf at hy
      split at hy
      · obtain ⟨c, _, rfl⟩ := List.mem_map.1 hy
        rfl
      · simp at hy
    omega
theorem cnt_empty {s : ByteArray} (hz : s.size = 90) {a b : Nat} (ha : a < 90) (hb : b < 90) (hne : a ≠ b) (hfull : bAt s a ≠ 46) : cntN (movedS s a b (bAt s a)) 90 46 + (if bAt s b = 46 then 1 else 0) = cntN s 90 46 + 1 := by
  have hlt := bAt_lt s a
  have h1 := cnt_put (s := s) (k := a) (c := 46) (by decide) 46 90 ha (by omega)
  have h2 := cnt_put (s := putS s a 46) (k := b) (c := bAt s a) hlt 46 90 hb (by rw [put_size]; omega)
  have e1 : bAt (putS s a 46) b = bAt s b := by rw [put_at s a 46 b (by decide) (by omega), if_neg (fun e => hne e.symm)]
  rw [e1, if_neg hfull] at h2
  rw [if_neg hfull, if_pos rfl] at h1
  unfold movedS
  omega
theorem find_le (s : ByteArray) (c : Nat) : (findL s c).length ≤ 90 := by
  unfold findL
  split
  · exact trues_le _ _
  · simp
/-- What is so of each move. -/
structure Each (s : ByteArray) (side clock full : Int) (u v : Nat) : Prop where
  lu : u < 90
  lv : v < 90
  byte : bAt s v = 46 ∨ 65 ≤ bAt s v
  king : kindN (bAt s v) = 75 → applyV s side clock full u v = .tuple #[.agg #[.string ⟨#[]⟩, .int .i64 0, .int .i64 0, .int .i64 0], .int .u8 0, .int .i64 7]
  goes : kindN (bAt s v) ≠ 75 → ∃ (q : ByteArray) (y z x : Int), applyV s side clock full u v = .tuple #[.agg #[.string q, .int .i64 y, .int .i64 z, .int .i64 x], .int .u8 (takenN s v : Nat), .int .i64 0] ∧ (checkN q y z x : Int) = 0 ∧ (findL q 46).length = (findL s 46).length + (if bAt s v = 46 then 0 else 1)
theorem each_of {s : ByteArray} {side clock full : Int} {m : Nat × Nat} (h : m ∈ movesV s side clock full) : Each s side clock full m.1 m.2 := by
  obtain ⟨u, v⟩ := m
  obtain ⟨h1, h2⟩ := movesV_lt h
  have hc : checkN s side clock full = 0 := by
    rw [movesV] at h
    split at h
    · assumption
    · simp at h
  rw [movesV, if_pos hc] at h
  obtain ⟨_, _, h3, h4⟩ := moves_mem.1 h
  have hc' : (checkN s side clock full : Int) = 0 := by rw [hc]; rfl
  have hbd := parts_board (check_zero hc').1
  have hz := isB_size hbd
  have hm : isM s side (u : Int) (v : Int) = true := by rw [isM_in hbd h1 h2, h4, h3]; simp
  refine ⟨h1, h2, ?_, fun hk => ?_, fun hk => ⟨movedS s u v (bAt s u), 1 - side, clockA s clock v, fullA side full, ?_, check_moved hc' h1 h2 h4 hk, ?_⟩⟩
  · have hf := isB_fill hbd v h2
    show bAt s v = 46 ∨ 65 ≤ bAt s v
    rcases byte_cases (bAt s v) with ⟨kb, kr, _⟩ | e | e | e | e | e | e | e | e | e | e | e | e | e | e
    · rw [fill_side, Bool.or_eq_true, decide_eq_true_eq] at hf
      have : sideN (bAt s v) = -1 := by simp [sideN, kb, kr]
      rw [beq_iff_eq] at hf
      omega
    all_goals
      rw [e]
      omega
  · rw [applyV, if_neg (fun e => e hc), if_neg (fun e => e.2 (by rw [Int.toNat_natCast]; exact hk))]
  · rw [applyV, if_neg (fun e => e hc), if_pos ⟨hm, by rw [Int.toNat_natCast]; exact hk⟩, Int.toNat_natCast, Int.toNat_natCast]
  · have hfull : bAt s u ≠ 46 := fun e => by
      have := (can_parts h4).1
      rw [e] at this
      exact absurd this (by decide)
    have hcnt := cnt_empty hz h1 h2 (can_self h4) hfull
    have hbm := moved_board hbd (bAt_lt s u) (isB_fill hbd u h1) (a := u) (b := v)
    rw [findL, if_pos hbm, findL, if_pos hbd, ← cnt_trues, ← cnt_trues]
    split <;> rename_i h46 <;> simp only [h46, if_true, if_false] at hcnt <;> omega
set_option maxRecDepth 100000 in
set_option maxHeartbeats 3000000 in
theorem large (s : ByteArray) (side clock full : Int)  (w : World) (hT : Tab w) (hs : 200 < s.size) : Calls Tryd.prog 5 #[.agg #[.string s, .int .i64 side, .int .i64 clock, .int .i64 full]] w (Gives w (.bool true)) := by
  unfold Gives
  have hd : decide (200 < (s.size : Int)) = true := by simp; omega
  clear hs
  go_enter Tryd.func5, Tryd.ntmps5
  go_wp2_with fail
  obtain ⟨W0, hW0⟩ : ∃ W0, w.alloc (.cells #[.string s, .int .i64 side, .int .i64 clock, .int .i64 full] 23) = W0 := ⟨_, rfl⟩
  have hB : Below w.heap.size w W0 := by rw [← hW0]; exact (by repeat (first | exact Below.refl _ _ | (refine Below.setCell ?_ (by first | omega | (simp; done) | (simp; omega) | (simp at *; omega)) _) | (refine Below.alloc ?_ (by first | omega | (simp; done) | (simp; omega) | (simp at *; omega)) _) | refine Below.drew ?_ | (refine below_drewN ?_ _) | (refine Below.trans ?_ (Below.mono (by assumption) (by first | omega | (simp; done) | (simp; omega) | (simp at *; omega))))))
  have bP : Blk W0 w.heap.size 23 #[.string s, .int .i64 side, .int .i64 clock, .int .i64 full] := by rw [← hW0]; exact Blk.new _ _ _ rfl
  replace hT := hT.below hB hT.lt
  rw [hW0]
  clear hW0
  refine (live6_any _ hT).mono ?_
  rintro e w9 ⟨rfl, hb⟩
  go_wp2
  go_ret
  exact ⟨rfl, hB.trans (hb.mono hB.size)⟩
set_option maxRecDepth 100000 in
set_option maxHeartbeats 3000000 in
theorem small (s : ByteArray) (side clock full : Int)  (w : World) (hT : Tab w) (hs : s.size ≤ 200) : Calls Tryd.prog 5 #[.agg #[.string s, .int .i64 side, .int .i64 clock, .int .i64 full]] w (Gives w (.bool true)) := by
  unfold Gives
  have hd : decide (200 < (s.size : Int)) = false := by simp; omega
  obtain ⟨ls, hls⟩ : ∃ L, movesV s side clock full = L := ⟨_, rfl⟩
  obtain ⟨m, hm⟩ : ∃ m, ls.length = m := ⟨_, rfl⟩
  have hlen : m ≤ 8100 := by rw [← hm, ← hls]; exact movesV_len s side clock full
  have HEA : Hid (∀ k (hk : k < ls.length), Each s side clock full ls[k].1 ls[k].2) := fun k hk => each_of (by rw [hls]; exact List.getElem_mem hk)
  have HRI : Hid (∀ k (hk : k + 1 < ls.length), Lex (ls[k]'(Nat.lt_of_succ_lt hk)) ls[k + 1]) := by
    show ∀ k (hk : k + 1 < ls.length), _
    intro k hk
    have hp : ls.Pairwise Lex := by
      rw [← hls, movesV]
      split
      · exact moves_rise s side
      · exact List.Pairwise.nil
    exact List.pairwise_iff_getElem.1 hp k (k + 1) (by omega) hk (by omega)
  have HS : Hid (0 < m → s.size = 90) := fun h0 => by
    by_cases hc : checkN s side clock full = 0
    · exact isB_size (parts_board (check_zero (s := s) (side := side) (clock := clock) (full := full) (by rw [hc]; rfl)).1)
    · rw [← hm, ← hls, movesV, if_neg hc] at h0
      exact absurd h0 (Nat.lt_irrefl 0)
  obtain ⟨ke, hke⟩ : ∃ k : Int, (checkN s side clock full : Int) = k := ⟨_, rfl⟩
  have HEM : Hid (ke ≠ 0 → m = 0) := fun h0 => by rw [← hm, ← hls, movesV, if_neg (by omega)]; rfl
  have HKE := Lib.hid hke
  have HL := Lib.hid hls
  have HM := Lib.hid hm
  clear hs hls hm hke
  go_enter Tryd.func5, Tryd.ntmps5
  go_wp2_with fail
  obtain ⟨W0, hW0⟩ : ∃ W0, w.alloc (.cells #[.string s, .int .i64 side, .int .i64 clock, .int .i64 full] 23) = W0 := ⟨_, rfl⟩
  have hB : Below w.heap.size w W0 := by rw [← hW0]; exact (by repeat (first | exact Below.refl _ _ | (refine Below.setCell ?_ (by first | omega | (simp; done) | (simp; omega) | (simp at *; omega)) _) | (refine Below.alloc ?_ (by first | omega | (simp; done) | (simp; omega) | (simp at *; omega)) _) | refine Below.drew ?_ | (refine below_drewN ?_ _) | (refine Below.trans ?_ (Below.mono (by assumption) (by first | omega | (simp; done) | (simp; omega) | (simp at *; omega))))))
  have bP : Blk W0 w.heap.size 23 #[.string s, .int .i64 side, .int .i64 clock, .int .i64 full] := by rw [← hW0]; exact Blk.new _ _ _ rfl
  replace hT := hT.below hB hT.lt
  rw [hW0]
  clear hW0
  refine (moves_is s side clock full ls m _ hT HL.out HM.out).mono ?_
  rintro e w1 ⟨A1, k1, rfl, rd, hb⟩
  replace hT := hT.next hb
  replace bP := bP.next hb
  replace hB := hB.trans (hb.mono hB.size)
  clear hb
  go_wp2_with fail
  go_loopw [4] (fun i wr => ∃ k : Nat, k ≤ m ∧ i = .int .i64 k ∧ Below w1.heap.size w1 wr) (fun i _ => m - (intOf i).toNat)
  case atStart => exact ⟨0, by omega, rfl, Below.refl _ _⟩
  case round =>
    obtain ⟨k, hk, rfl, hR⟩ := hrel
    by_cases hlt : k < m
    · have hkl : k < ls.length := by rw [HM.out]; exact hlt
      obtain ⟨g1, o1, rfl, c0, c1⟩ := rd.move hkl
      have hea := HEA.out k hkl
      obtain ⟨⟨u, v⟩, huv⟩ : ∃ x, ls[k] = x := ⟨_, rfl⟩
      rw [huv] at c0 c1 hea
      have hc0 := (hR.cell (p := ⟨g1, o1 + k * 2, none⟩) (cell_lt c0)).trans c0
      have hc1 := (hR.cell (p := ⟨g1, o1 + k * 2 + 1, none⟩) (cell_lt c1)).trans c1
      obtain ⟨lu, lv, hbyte, hking, hgoes⟩ := hea
      have lu : u < 90 := lu
      have lv : v < 90 := lv
      have hz := HS.out (by omega)
      obtain ⟨x, hx⟩ : ∃ x, bAt s v = x := ⟨_, rfl⟩
      have hvs : v < s.size := by omega
      have hbk : s[v].toNat = x := (bAt_eq s v hvs).trans hx
      rw [show (u, v).2 = v from rfl, hx] at hbyte
      have hking : kindN x = 75 → applyV s side clock full u v = .tuple #[.agg #[.string ⟨#[]⟩, .int .i64 0, .int .i64 0, .int .i64 0], .int .u8 0, .int .i64 7] := by rw [← hx]; exact hking
      have hgoes : kindN x ≠ 75 → ∃ (q : ByteArray) (y z c : Int), applyV s side clock full u v = .tuple #[.agg #[.string q, .int .i64 y, .int .i64 z, .int .i64 c], .int .u8 ((if x = 46 then 0 else x : Nat) : Int), .int .i64 0] ∧ (checkN q y z c : Int) = 0 ∧ (findL q 46).length = (findL s 46).length + (if x = 46 then 0 else 1) := by rw [← hx]; exact hgoes
      have HKI := Lib.hid hking
      have HGO := Lib.hid hgoes
      have e1 : ((s.size : Int) != 90) = false := by rw [hz]; rfl
      have d0 : decide ((u : Int) < 0) = false := by simp
      have d1 : decide (89 < (u : Int)) = false := by simp; omega
      have d2 : decide ((v : Int) < 0) = false := by simp
      have d3 : decide (89 < (v : Int)) = false := by simp; omega
      have b2 : (k : Int) < (m : Int) := by omega
      have b3 : (0 : Int) ≤ (v : Int) := by omega
      have bsz : (v : Int) < (s.size : Int) := by omega
      obtain ⟨W2, hW2⟩ : ∃ W2, wr.alloc (.cells #[.int .i64 (u : Int), .int .i64 (v : Int)] 30) = W2 := ⟨_, rfl⟩
      have hb2 : Below wr.heap.size wr W2 := by rw [← hW2]; exact (by repeat (first | exact Below.refl _ _ | (refine Below.setCell ?_ (by first | omega | (simp; done) | (simp; omega) | (simp at *; omega)) _) | (refine Below.alloc ?_ (by first | omega | (simp; done) | (simp; omega) | (simp at *; omega)) _) | refine Below.drew ?_ | (refine below_drewN ?_ _) | (refine Below.trans ?_ (Below.mono (by assumption) (by first | omega | (simp; done) | (simp; omega) | (simp at *; omega))))))
      have bM2 : Blk W2 wr.heap.size 30 #[.int .i64 (u : Int), .int .i64 (v : Int)] := by rw [← hW2]; exact Blk.new _ _ _ rfl
      have bP2 := (bP.next hR).next hb2
      have hR2 := hR.trans (hb2.mono hR.size)
      have m0 : W2.cell? ⟨wr.heap.size, 0, none⟩ = some (.int .i64 (u : Int)) := bM2.cell 0
      have m1 : W2.cell? ⟨wr.heap.size, 1, none⟩ = some (.int .i64 (v : Int)) := bM2.cell 1
      obtain ⟨p0, p1, p2, p3⟩ := ppos_cells bP2
      have hd0 := (hb2.cell (p := ⟨g1, o1 + k * 2, none⟩) (cell_lt hc0)).trans hc0
      have hd1 := (hb2.cell (p := ⟨g1, o1 + k * 2 + 1, none⟩) (cell_lt hc1)).trans hc1
      obtain ⟨V, hV⟩ : ∃ V, applyV s side clock full u v = V := ⟨_, rfl⟩
      have HAP : Hid (∀ Wx, Below W2.heap.size W2 Wx → Calls Tryd.prog 22 #[.agg #[.string s, .int .i64 side, .int .i64 clock, .int .i64 full], .agg #[.int .i64 (u : Int), .int .i64 (v : Int)]] Wx fun e w' => e = .returned V ∧ Below W2.heap.size W2 w') := by
        show ∀ Wx, _
        intro Wx hbx
        exact (apply_is s side clock full u v V Wx hV).mono fun e w' ⟨he, hb⟩ => ⟨he, hbx.trans (hb.mono hbx.size)⟩
      have HV := Lib.hid hV
      have HUV := Lib.hid huv
      clear c0 c1 huv hV lu lv hz hking hgoes hx hb2
      rcases Nat.eq_zero_or_pos k with h0 | h0
      · have e0 : decide (0 < (k : Int)) = false := by simp; omega
        have e0n : decide (0 < k) = false := by simp; omega
        have e0m : decide ((k : Int) > 0) = false := e0
        clear h0
        go_wp2_with fail
        refine wp_region_held_drew (S := fun W => W.cell? ⟨wr.heap.size, 0, none⟩ = some (.int .i64 (u : Int)) ∧ W.cell? ⟨wr.heap.size, 1, none⟩ = some (.int .i64 (v : Int))) (by kernel_rfl) (⟨m0, m1⟩) (fun hHeld => ?_)
        refine wpAnyH_take (i := 0) (oi := { dst := some 29, op := Op.move (Operand.tmp 4), type := 3, pos := "law.go:50", after := #[], guard := none }) (v := ?_) rfl (by kernel_rfl) (by kernel_rfl) (by kernel_rfl) (fun _ _ _ h => h) (Or.inl ⟨by rfl, ?_⟩) (by assumption) ?_
        case refine_2 =>
          intro w hSw
          (try dsimp only at hSw)
          (try go_simp)
          all_goals (with_reducible rfl)
        try simp only [Act.put, List.setIfInBounds_toArray, List.set_cons_zero, List.set_cons_succ]
        refine wpAnyH_take (i := 1) (oi := { dst := some 30, op := Op.binOp BinOp.gtr 3 (Operand.tmp 29) (Operand.const (Value.int IntKind.i64 0)) 3, type := 4, pos := "law.go:50", after := #[{ on := 0, ground := Ground.data }], guard := none }) (v := ?_) rfl (by kernel_rfl) (by kernel_rfl) (by kernel_rfl) (fun _ _ _ h => h) (Or.inl ⟨by rfl, ?_⟩) (by assumption) ?_
        case refine_2 =>
          intro w hSw
          (try dsimp only at hSw)
          (try go_simp)
          all_goals (with_reducible rfl)
        try simp only [Act.put, List.setIfInBounds_toArray, List.set_cons_zero, List.set_cons_succ]
        refine wpAnyH_take (i := 2) (oi := { dst := some 31, op := Op.move (Operand.tmp 30), type := 4, pos := "law.go:50", after := #[{ on := 1, ground := Ground.data }], guard := none }) (v := ?_) rfl (by kernel_rfl) (by kernel_rfl) (by kernel_rfl) (fun _ _ _ h => h) (Or.inl ⟨by rfl, ?_⟩) (by assumption) ?_
        case refine_2 =>
          intro w hSw
          (try dsimp only at hSw)
          (try go_simp)
          all_goals (with_reducible rfl)
        try simp only [Act.put, List.setIfInBounds_toArray, List.set_cons_zero, List.set_cons_succ]
        refine wpAnyH_take (i := 3) (oi := { dst := some 32, op := Op.move (Operand.tmp 3), type := 26, pos := "law.go:50", after := #[{ on := 2, ground := Ground.guard }], guard := some (2, true) }) (v := undef) rfl (by kernel_rfl) (by kernel_rfl) (by kernel_rfl) (fun _ _ _ h => h) (Or.inr ⟨by rfl, rfl⟩) (by assumption) ?_
        try simp only [Act.put, List.setIfInBounds_toArray, List.set_cons_zero, List.set_cons_succ]
        refine wpAnyH_take (i := 4) (oi := { dst := some 33, op := Op.move (Operand.tmp 4), type := 3, pos := "law.go:50", after := #[{ on := 2, ground := Ground.guard }], guard := some (2, true) }) (v := undef) rfl (by kernel_rfl) (by kernel_rfl) (by kernel_rfl) (fun _ _ _ h => h) (Or.inr ⟨by rfl, rfl⟩) (by assumption) ?_
        try simp only [Act.put, List.setIfInBounds_toArray, List.set_cons_zero, List.set_cons_succ]
        refine wpAnyH_take (i := 5) (oi := { dst := some 34, op := Op.binOp BinOp.sub 3 (Operand.tmp 33) (Operand.const (Value.int IntKind.i64 1)) 3, type := 3, pos := "law.go:50", after := #[{ on := 4, ground := Ground.data }, { on := 2, ground := Ground.guard }], guard := some (2, true) }) (v := undef) rfl (by kernel_rfl) (by kernel_rfl) (by kernel_rfl) (fun _ _ _ h => h) (Or.inr ⟨by rfl, rfl⟩) (by assumption) ?_
        try simp only [Act.put, List.setIfInBounds_toArray, List.set_cons_zero, List.set_cons_succ]
        refine wpAnyH_take (i := 6) (oi := { dst := some 35, op := Op.indexAddr 26 (Operand.tmp 32) (Operand.tmp 34), type := 0, pos := "law.go:50", after := #[{ on := 3, ground := Ground.data }, { on := 5, ground := Ground.data }, { on := 2, ground := Ground.guard }], guard := some (2, true) }) (v := undef) rfl (by kernel_rfl) (by kernel_rfl) (by kernel_rfl) (fun _ _ _ h => h) (Or.inr ⟨by rfl, rfl⟩) (by assumption) ?_
        try simp only [Act.put, List.setIfInBounds_toArray, List.set_cons_zero, List.set_cons_succ]
        refine wpAnyH_take (i := 7) (oi := { dst := some 36, op := Op.fieldAddr 30 (Operand.tmp 35) 0, type := 0, pos := "law.go:50", after := #[{ on := 6, ground := Ground.data }, { on := 2, ground := Ground.guard }], guard := some (2, true) }) (v := undef) rfl (by kernel_rfl) (by kernel_rfl) (by kernel_rfl) (fun _ _ _ h => h) (Or.inr ⟨by rfl, rfl⟩) (by assumption) ?_
        try simp only [Act.put, List.setIfInBounds_toArray, List.set_cons_zero, List.set_cons_succ]
        refine wpAnyH_take (i := 8) (oi := { dst := some 37, op := Op.load 3 (Operand.tmp 36), type := 3, pos := "law.go:50", after := #[{ on := 7, ground := Ground.data }, { on := 2, ground := Ground.guard }], guard := some (2, true) }) (v := undef) rfl (by kernel_rfl) (by kernel_rfl) (by kernel_rfl) (fun _ _ _ h => h) (Or.inr ⟨by rfl, rfl⟩) (by assumption) ?_
        try simp only [Act.put, List.setIfInBounds_toArray, List.set_cons_zero, List.set_cons_succ]
        refine wpAnyH_take (i := 9) (oi := { dst := some 38, op := Op.fieldAddr 30 (Operand.tmp 5) 0, type := 0, pos := "law.go:50", after := #[{ on := 2, ground := Ground.guard }], guard := some (2, true) }) (v := undef) rfl (by kernel_rfl) (by kernel_rfl) (by kernel_rfl) (fun _ _ _ h => h) (Or.inr ⟨by rfl, rfl⟩) (by assumption) ?_
        try simp only [Act.put, List.setIfInBounds_toArray, List.set_cons_zero, List.set_cons_succ]
        refine wpAnyH_take (i := 10) (oi := { dst := some 39, op := Op.load 3 (Operand.tmp 38), type := 3, pos := "law.go:50", after := #[{ on := 9, ground := Ground.data }, { on := 2, ground := Ground.guard }], guard := some (2, true) }) (v := undef) rfl (by kernel_rfl) (by kernel_rfl) (by kernel_rfl) (fun _ _ _ h => h) (Or.inr ⟨by rfl, rfl⟩) (by assumption) ?_
        try simp only [Act.put, List.setIfInBounds_toArray, List.set_cons_zero, List.set_cons_succ]
        refine wpAnyH_take (i := 11) (oi := { dst := some 40, op := Op.binOp BinOp.gtr 3 (Operand.tmp 37) (Operand.tmp 39) 3, type := 4, pos := "law.go:50", after := #[{ on := 8, ground := Ground.data }, { on := 10, ground := Ground.data }, { on := 2, ground := Ground.guard }], guard := some (2, true) }) (v := undef) rfl (by kernel_rfl) (by kernel_rfl) (by kernel_rfl) (fun _ _ _ h => h) (Or.inr ⟨by rfl, rfl⟩) (by assumption) ?_
        try simp only [Act.put, List.setIfInBounds_toArray, List.set_cons_zero, List.set_cons_succ]
        refine wpAnyH_take (i := 12) (oi := { dst := some 41, op := Op.move (Operand.tmp 40), type := 4, pos := "law.go:50", after := #[{ on := 11, ground := Ground.data }, { on := 2, ground := Ground.chain }, { on := 2, ground := Ground.guard }], guard := some (2, true) }) (v := undef) rfl (by kernel_rfl) (by kernel_rfl) (by kernel_rfl) (fun _ _ _ h => h) (Or.inr ⟨by rfl, rfl⟩) (by assumption) ?_
        try simp only [Act.put, List.setIfInBounds_toArray, List.set_cons_zero, List.set_cons_succ]
        refine wpAnyH_take (i := 13) (oi := { dst := some 42, op := Op.move (Operand.tmp 3), type := 26, pos := "law.go:50", after := #[{ on := 12, ground := Ground.guard }], guard := some (12, false) }) (v := undef) rfl (by kernel_rfl) (by kernel_rfl) (by kernel_rfl) (fun _ _ _ h => h) (Or.inr ⟨by rfl, rfl⟩) (by assumption) ?_
        try simp only [Act.put, List.setIfInBounds_toArray, List.set_cons_zero, List.set_cons_succ]
        refine wpAnyH_take (i := 14) (oi := { dst := some 43, op := Op.move (Operand.tmp 4), type := 3, pos := "law.go:50", after := #[{ on := 12, ground := Ground.guard }], guard := some (12, false) }) (v := undef) rfl (by kernel_rfl) (by kernel_rfl) (by kernel_rfl) (fun _ _ _ h => h) (Or.inr ⟨by rfl, rfl⟩) (by assumption) ?_
        try simp only [Act.put, List.setIfInBounds_toArray, List.set_cons_zero, List.set_cons_succ]
        refine wpAnyH_take (i := 15) (oi := { dst := some 44, op := Op.binOp BinOp.sub 3 (Operand.tmp 43) (Operand.const (Value.int IntKind.i64 1)) 3, type := 3, pos := "law.go:50", after := #[{ on := 14, ground := Ground.data }, { on := 12, ground := Ground.guard }], guard := some (12, false) }) (v := undef) rfl (by kernel_rfl) (by kernel_rfl) (by kernel_rfl) (fun _ _ _ h => h) (Or.inr ⟨by rfl, rfl⟩) (by assumption) ?_
        try simp only [Act.put, List.setIfInBounds_toArray, List.set_cons_zero, List.set_cons_succ]
        refine wpAnyH_take (i := 16) (oi := { dst := some 45, op := Op.indexAddr 26 (Operand.tmp 42) (Operand.tmp 44), type := 0, pos := "law.go:50", after := #[{ on := 13, ground := Ground.data }, { on := 15, ground := Ground.data }, { on := 12, ground := Ground.guard }], guard := some (12, false) }) (v := undef) rfl (by kernel_rfl) (by kernel_rfl) (by kernel_rfl) (fun _ _ _ h => h) (Or.inr ⟨by rfl, rfl⟩) (by assumption) ?_
        try simp only [Act.put, List.setIfInBounds_toArray, List.set_cons_zero, List.set_cons_succ]
        refine wpAnyH_take (i := 17) (oi := { dst := some 46, op := Op.fieldAddr 30 (Operand.tmp 45) 0, type := 0, pos := "law.go:50", after := #[{ on := 16, ground := Ground.data }, { on := 12, ground := Ground.guard }], guard := some (12, false) }) (v := undef) rfl (by kernel_rfl) (by kernel_rfl) (by kernel_rfl) (fun _ _ _ h => h) (Or.inr ⟨by rfl, rfl⟩) (by assumption) ?_
        try simp only [Act.put, List.setIfInBounds_toArray, List.set_cons_zero, List.set_cons_succ]
        refine wpAnyH_take (i := 18) (oi := { dst := some 47, op := Op.load 3 (Operand.tmp 46), type := 3, pos := "law.go:50", after := #[{ on := 17, ground := Ground.data }, { on := 12, ground := Ground.guard }], guard := some (12, false) }) (v := undef) rfl (by kernel_rfl) (by kernel_rfl) (by kernel_rfl) (fun _ _ _ h => h) (Or.inr ⟨by rfl, rfl⟩) (by assumption) ?_
        try simp only [Act.put, List.setIfInBounds_toArray, List.set_cons_zero, List.set_cons_succ]
        refine wpAnyH_take (i := 19) (oi := { dst := some 48, op := Op.fieldAddr 30 (Operand.tmp 5) 0, type := 0, pos := "law.go:50", after := #[{ on := 12, ground := Ground.guard }], guard := some (12, false) }) (v := undef) rfl (by kernel_rfl) (by kernel_rfl) (by kernel_rfl) (fun _ _ _ h => h) (Or.inr ⟨by rfl, rfl⟩) (by assumption) ?_
        try simp only [Act.put, List.setIfInBounds_toArray, List.set_cons_zero, List.set_cons_succ]
        refine wpAnyH_take (i := 20) (oi := { dst := some 49, op := Op.load 3 (Operand.tmp 48), type := 3, pos := "law.go:50", after := #[{ on := 19, ground := Ground.data }, { on := 12, ground := Ground.guard }], guard := some (12, false) }) (v := undef) rfl (by kernel_rfl) (by kernel_rfl) (by kernel_rfl) (fun _ _ _ h => h) (Or.inr ⟨by rfl, rfl⟩) (by assumption) ?_
        try simp only [Act.put, List.setIfInBounds_toArray, List.set_cons_zero, List.set_cons_succ]
        refine wpAnyH_take (i := 21) (oi := { dst := some 50, op := Op.binOp BinOp.eql 3 (Operand.tmp 47) (Operand.tmp 49) 3, type := 4, pos := "law.go:50", after := #[{ on := 18, ground := Ground.data }, { on := 20, ground := Ground.data }, { on := 12, ground := Ground.guard }], guard := some (12, false) }) (v := undef) rfl (by kernel_rfl) (by kernel_rfl) (by kernel_rfl) (fun _ _ _ h => h) (Or.inr ⟨by rfl, rfl⟩) (by assumption) ?_
        try simp only [Act.put, List.setIfInBounds_toArray, List.set_cons_zero, List.set_cons_succ]
        refine wpAnyH_take (i := 22) (oi := { dst := some 51, op := Op.move (Operand.tmp 50), type := 4, pos := "law.go:50", after := #[{ on := 21, ground := Ground.data }, { on := 12, ground := Ground.chain }, { on := 12, ground := Ground.guard }], guard := some (12, false) }) (v := undef) rfl (by kernel_rfl) (by kernel_rfl) (by kernel_rfl) (fun _ _ _ h => h) (Or.inr ⟨by rfl, rfl⟩) (by assumption) ?_
        try simp only [Act.put, List.setIfInBounds_toArray, List.set_cons_zero, List.set_cons_succ]
        refine wpAnyH_take (i := 23) (oi := { dst := some 52, op := Op.move (Operand.tmp 3), type := 26, pos := "law.go:50", after := #[{ on := 22, ground := Ground.guard }], guard := some (22, true) }) (v := undef) rfl (by kernel_rfl) (by kernel_rfl) (by kernel_rfl) (fun _ _ _ h => h) (Or.inr ⟨by rfl, rfl⟩) (by assumption) ?_
        try simp only [Act.put, List.setIfInBounds_toArray, List.set_cons_zero, List.set_cons_succ]
        refine wpAnyH_take (i := 24) (oi := { dst := some 53, op := Op.move (Operand.tmp 4), type := 3, pos := "law.go:50", after := #[{ on := 22, ground := Ground.guard }], guard := some (22, true) }) (v := undef) rfl (by kernel_rfl) (by kernel_rfl) (by kernel_rfl) (fun _ _ _ h => h) (Or.inr ⟨by rfl, rfl⟩) (by assumption) ?_
        try simp only [Act.put, List.setIfInBounds_toArray, List.set_cons_zero, List.set_cons_succ]
        refine wpAnyH_take (i := 25) (oi := { dst := some 54, op := Op.binOp BinOp.sub 3 (Operand.tmp 53) (Operand.const (Value.int IntKind.i64 1)) 3, type := 3, pos := "law.go:50", after := #[{ on := 24, ground := Ground.data }, { on := 22, ground := Ground.guard }], guard := some (22, true) }) (v := undef) rfl (by kernel_rfl) (by kernel_rfl) (by kernel_rfl) (fun _ _ _ h => h) (Or.inr ⟨by rfl, rfl⟩) (by assumption) ?_
        try simp only [Act.put, List.setIfInBounds_toArray, List.set_cons_zero, List.set_cons_succ]
        refine wpAnyH_take (i := 26) (oi := { dst := some 55, op := Op.indexAddr 26 (Operand.tmp 52) (Operand.tmp 54), type := 0, pos := "law.go:50", after := #[{ on := 23, ground := Ground.data }, { on := 25, ground := Ground.data }, { on := 22, ground := Ground.guard }], guard := some (22, true) }) (v := undef) rfl (by kernel_rfl) (by kernel_rfl) (by kernel_rfl) (fun _ _ _ h => h) (Or.inr ⟨by rfl, rfl⟩) (by assumption) ?_
        try simp only [Act.put, List.setIfInBounds_toArray, List.set_cons_zero, List.set_cons_succ]
        refine wpAnyH_take (i := 27) (oi := { dst := some 56, op := Op.fieldAddr 30 (Operand.tmp 55) 1, type := 0, pos := "law.go:50", after := #[{ on := 26, ground := Ground.data }, { on := 22, ground := Ground.guard }], guard := some (22, true) }) (v := undef) rfl (by kernel_rfl) (by kernel_rfl) (by kernel_rfl) (fun _ _ _ h => h) (Or.inr ⟨by rfl, rfl⟩) (by assumption) ?_
        try simp only [Act.put, List.setIfInBounds_toArray, List.set_cons_zero, List.set_cons_succ]
        refine wpAnyH_take (i := 28) (oi := { dst := some 57, op := Op.load 3 (Operand.tmp 56), type := 3, pos := "law.go:50", after := #[{ on := 27, ground := Ground.data }, { on := 22, ground := Ground.guard }], guard := some (22, true) }) (v := undef) rfl (by kernel_rfl) (by kernel_rfl) (by kernel_rfl) (fun _ _ _ h => h) (Or.inr ⟨by rfl, rfl⟩) (by assumption) ?_
        try simp only [Act.put, List.setIfInBounds_toArray, List.set_cons_zero, List.set_cons_succ]
        refine wpAnyH_take (i := 29) (oi := { dst := some 58, op := Op.fieldAddr 30 (Operand.tmp 5) 1, type := 0, pos := "law.go:50", after := #[{ on := 22, ground := Ground.guard }], guard := some (22, true) }) (v := undef) rfl (by kernel_rfl) (by kernel_rfl) (by kernel_rfl) (fun _ _ _ h => h) (Or.inr ⟨by rfl, rfl⟩) (by assumption) ?_
        try simp only [Act.put, List.setIfInBounds_toArray, List.set_cons_zero, List.set_cons_succ]
        refine wpAnyH_take (i := 30) (oi := { dst := some 59, op := Op.load 3 (Operand.tmp 58), type := 3, pos := "law.go:50", after := #[{ on := 29, ground := Ground.data }, { on := 22, ground := Ground.guard }], guard := some (22, true) }) (v := undef) rfl (by kernel_rfl) (by kernel_rfl) (by kernel_rfl) (fun _ _ _ h => h) (Or.inr ⟨by rfl, rfl⟩) (by assumption) ?_
        try simp only [Act.put, List.setIfInBounds_toArray, List.set_cons_zero, List.set_cons_succ]
        refine wpAnyH_take (i := 31) (oi := { dst := some 60, op := Op.binOp BinOp.geq 3 (Operand.tmp 57) (Operand.tmp 59) 3, type := 4, pos := "law.go:50", after := #[{ on := 28, ground := Ground.data }, { on := 30, ground := Ground.data }, { on := 22, ground := Ground.guard }], guard := some (22, true) }) (v := undef) rfl (by kernel_rfl) (by kernel_rfl) (by kernel_rfl) (fun _ _ _ h => h) (Or.inr ⟨by rfl, rfl⟩) (by assumption) ?_
        try simp only [Act.put, List.setIfInBounds_toArray, List.set_cons_zero, List.set_cons_succ]
        refine wpAnyH_take (i := 32) (oi := { dst := some 61, op := Op.pick (Operand.tmp 51) (Operand.tmp 60) (Operand.const (Value.bool false)), type := 4, pos := "law.go:50", after := #[{ on := 22, ground := Ground.data }, { on := 31, ground := Ground.data }, { on := 12, ground := Ground.guard }], guard := some (12, false) }) (v := undef) rfl (by kernel_rfl) (by kernel_rfl) (by kernel_rfl) (fun _ _ _ h => h) (Or.inr ⟨by rfl, rfl⟩) (by assumption) ?_
        try simp only [Act.put, List.setIfInBounds_toArray, List.set_cons_zero, List.set_cons_succ]
        refine wpAnyH_take (i := 33) (oi := { dst := some 62, op := Op.pick (Operand.tmp 41) (Operand.const (Value.bool true)) (Operand.tmp 61), type := 4, pos := "law.go:50", after := #[{ on := 12, ground := Ground.data }, { on := 32, ground := Ground.data }, { on := 2, ground := Ground.guard }], guard := some (2, true) }) (v := undef) rfl (by kernel_rfl) (by kernel_rfl) (by kernel_rfl) (fun _ _ _ h => h) (Or.inr ⟨by rfl, rfl⟩) (by assumption) ?_
        try simp only [Act.put, List.setIfInBounds_toArray, List.set_cons_zero, List.set_cons_succ]
        refine wpAnyH_take (i := 34) (oi := { dst := some 63, op := Op.pick (Operand.tmp 31) (Operand.tmp 62) (Operand.const (Value.bool false)), type := 4, pos := "law.go:50", after := #[{ on := 2, ground := Ground.data }, { on := 33, ground := Ground.data }], guard := none }) (v := ?_) rfl (by kernel_rfl) (by kernel_rfl) (by kernel_rfl) (fun _ _ _ h => h) (Or.inl ⟨by rfl, ?_⟩) (by assumption) ?_
        case refine_2 =>
          intro w hSw
          (try dsimp only at hSw)
          (try go_simp)
          all_goals (with_reducible rfl)
        try simp only [Act.put, List.setIfInBounds_toArray, List.set_cons_zero, List.set_cons_succ]
        refine wpAnyH_done (by kernel_rfl) ?_ _
        clear hHeld
        go_wp2_with fail
        repeat (go_quiet (fail); go_wp2_with fail)
        by_cases hk75 : kindN x = 75
        · have HV2 := HKI.out hk75
          rw [HV.out] at HV2
          subst HV2
          have KX := Lib.hid hk75
          clear hk75
          refine (HAP.out _ (by repeat (first | exact Below.refl _ _ | refine below_drewN ?_ _ | refine Below.drew ?_))).mono ?_
          rintro e w3 ⟨rfl, hb⟩
          obtain ⟨W4, hW4⟩ : ∃ W4, w3.alloc (.cells #[.string ⟨#[]⟩, .int .i64 0, .int .i64 0, .int .i64 0] 23) = W4 := ⟨_, rfl⟩
          have hb4 : Below w3.heap.size w3 W4 := by rw [← hW4]; exact (by repeat (first | exact Below.refl _ _ | (refine Below.setCell ?_ (by first | omega | (simp; done) | (simp; omega) | (simp at *; omega)) _) | (refine Below.alloc ?_ (by first | omega | (simp; done) | (simp; omega) | (simp at *; omega)) _) | refine Below.drew ?_ | (refine below_drewN ?_ _) | (refine Below.trans ?_ (Below.mono (by assumption) (by first | omega | (simp; done) | (simp; omega) | (simp at *; omega))))))
          have bQ4 : Blk W4 w3.heap.size 23 #[.string ⟨#[]⟩, .int .i64 0, .int .i64 0, .int .i64 0] := by rw [← hW4]; exact Blk.new _ _ _ rfl
          have hR3 := hR2.trans (hb.mono hR2.size)
          have hRf := hR3.trans (hb4.mono hR3.size)
          have hRs := hR3.size
          have hRg : Below w1.heap.size w1 ((((W4.setCell ⟨w3.heap.size, 0, none⟩ (.string ⟨#[]⟩)).setCell ⟨w3.heap.size, 1, none⟩ (.int .i64 0)).setCell ⟨w3.heap.size, 2, none⟩ (.int .i64 0)).setCell ⟨w3.heap.size, 3, none⟩ (.int .i64 0)) := (((hRf.setCell (p := ⟨w3.heap.size, 0, none⟩) hRs _).setCell (p := ⟨w3.heap.size, 1, none⟩) hRs _).setCell (p := ⟨w3.heap.size, 2, none⟩) hRs _).setCell (p := ⟨w3.heap.size, 3, none⟩) hRs _
          obtain ⟨q0, q1, q2, q3⟩ := ppos_cells bQ4
          obtain ⟨f0, f1, f2, f3⟩ := ppos_frozen bQ4
          clear hb hb4 m0 m1 p0 p1 p2 p3 hd0 hd1
          go_wp2_with fail
          refine (rkind_is x 75 _ KX.out).mono ?_
          rintro e w5 ⟨rfl, rfl⟩
          go_wp2_with fail
          go_roundw
          case rel => exact ⟨k + 1, by omega, by go_num, by first | exact hRf | exact hRg⟩
          case measure => simp [intOf]; omega
        · by_cases h46 : x = 46
          · subst h46
            obtain ⟨q, y, z, c, HV2, hcq, hcnt⟩ := HGO.out hk75
            rw [HV.out] at HV2
            simp only [if_pos, Nat.add_zero] at HV2 hcnt
            subst HV2
            obtain ⟨kk, hkk⟩ : ∃ kk, kindN 46 = kk := ⟨_, rfl⟩
            have KX := Lib.hid hkk
            have k75 : ((kk : Int) == 75) = false := by rw [beq_eq_false_iff_ne]; omega
            have KC := Lib.hid hcq
            obtain ⟨n1, hn1⟩ : ∃ n, (findL s 46).length = n := ⟨_, rfl⟩
            have hn190 : n1 ≤ 90 := by rw [← hn1]; exact find_le s 46
            rw [hn1] at hcnt
            have F1 := Lib.hid hn1
            have F2 := Lib.hid hcnt
            have iw : IntKind.i64.wrap ((n1 : Int) + 1) = (n1 : Int) + 1 := IntWalk.i64_in _ (by omega)
            clear hk75 hcq hkk hn1 hcnt hbyte
            refine (HAP.out _ (by repeat (first | exact Below.refl _ _ | refine below_drewN ?_ _ | refine Below.drew ?_))).mono ?_
            rintro e w3 ⟨rfl, hb⟩
            obtain ⟨W4, hW4⟩ : ∃ W4, w3.alloc (.cells #[.string q, .int .i64 y, .int .i64 z, .int .i64 c] 23) = W4 := ⟨_, rfl⟩
            have hb4 : Below w3.heap.size w3 W4 := by rw [← hW4]; exact (by repeat (first | exact Below.refl _ _ | (refine Below.setCell ?_ (by first | omega | (simp; done) | (simp; omega) | (simp at *; omega)) _) | (refine Below.alloc ?_ (by first | omega | (simp; done) | (simp; omega) | (simp at *; omega)) _) | refine Below.drew ?_ | (refine below_drewN ?_ _) | (refine Below.trans ?_ (Below.mono (by assumption) (by first | omega | (simp; done) | (simp; omega) | (simp at *; omega))))))
            have bQ4 : Blk W4 w3.heap.size 23 #[.string q, .int .i64 y, .int .i64 z, .int .i64 c] := by rw [← hW4]; exact Blk.new _ _ _ rfl
            have hRf := (hR2.trans (hb.mono hR2.size)).trans (hb4.mono (hR2.trans (hb.mono hR2.size)).size)
            have bP4 := (bP2.next hb).next hb4
            clear hb hb4 m0 m1 p0 p1 p2 p3 hd0 hd1
            obtain ⟨p0, p1, p2, p3⟩ := ppos_cells bP4
            obtain ⟨q0, q1, q2, q3⟩ := ppos_cells bQ4
            go_wp2_with fail
            refine (rkind_is 46 kk _ KX.out).mono ?_
            rintro e w5 ⟨rfl, rfl⟩
            go_wp2_with fail
            refine (rfind_is s 46 n1 _ F1.out).mono ?_
            rintro e w6 ⟨A6, k6, rfl, _, hb⟩
            have hRg := hRf.trans (hb.mono hRf.size)
            have bQ5 := bQ4.next hb
            clear hb p0 p1 p2 p3 q0 q1 q2 q3
            obtain ⟨q0, q1, q2, q3⟩ := ppos_cells bQ5
            go_wp2_with fail
            refine (rfind_is q 46 n1 _ F2.out).mono ?_
            rintro e w7 ⟨A7, k7, rfl, _, hb⟩
            have hRh := hRg.trans (hb.mono hRg.size)
            have bQ6 := bQ5.next hb
            clear hb q0 q1 q2 q3
            obtain ⟨q0, q1, q2, q3⟩ := ppos_cells bQ6
            go_wp2_with fail
            refine (check_is q y z c 0 _ KC.out).mono ?_
            rintro e w8 ⟨rfl, hb⟩
            go_wp2_with fail
            go_roundw
            case rel => exact ⟨k + 1, by omega, by go_num, hRh.trans (hb.mono hRh.size)⟩
            case measure => simp [intOf]; omega
          · obtain ⟨q, y, z, c, HV2, hcq, hcnt⟩ := HGO.out hk75
            rw [HV.out] at HV2
            simp only [if_neg h46] at HV2 hcnt
            subst HV2
            obtain ⟨kk, hkk⟩ : ∃ kk, kindN x = kk := ⟨_, rfl⟩
            have KX := Lib.hid hkk
            have k75 : ((kk : Int) == 75) = false := by rw [beq_eq_false_iff_ne]; omega
            have KC := Lib.hid hcq
            obtain ⟨n1, hn1⟩ : ∃ n, (findL s 46).length = n := ⟨_, rfl⟩
            have hn190 : n1 ≤ 90 := by rw [← hn1]; exact find_le s 46
            rw [hn1] at hcnt
            have F1 := Lib.hid hn1
            have F2 := Lib.hid hcnt
            have iw : IntKind.i64.wrap ((n1 : Int) + 1) = (n1 : Int) + 1 := IntWalk.i64_in _ (by omega)
            have x0 : ((x : Int) == 0) = false := by rw [beq_eq_false_iff_ne]; omega
            have x1 : ((x : Int) != 0) = true := by rw [bne_iff_ne]; omega
            have x46 : ((x : Int) == 46) = false := by rw [beq_eq_false_iff_ne]; omega
            clear h46
            clear hk75 hcq hkk hn1 hcnt hbyte
            refine (HAP.out _ (by repeat (first | exact Below.refl _ _ | refine below_drewN ?_ _ | refine Below.drew ?_))).mono ?_
            rintro e w3 ⟨rfl, hb⟩
            obtain ⟨W4, hW4⟩ : ∃ W4, w3.alloc (.cells #[.string q, .int .i64 y, .int .i64 z, .int .i64 c] 23) = W4 := ⟨_, rfl⟩
            have hb4 : Below w3.heap.size w3 W4 := by rw [← hW4]; exact (by repeat (first | exact Below.refl _ _ | (refine Below.setCell ?_ (by first | omega | (simp; done) | (simp; omega) | (simp at *; omega)) _) | (refine Below.alloc ?_ (by first | omega | (simp; done) | (simp; omega) | (simp at *; omega)) _) | refine Below.drew ?_ | (refine below_drewN ?_ _) | (refine Below.trans ?_ (Below.mono (by assumption) (by first | omega | (simp; done) | (simp; omega) | (simp at *; omega))))))
            have bQ4 : Blk W4 w3.heap.size 23 #[.string q, .int .i64 y, .int .i64 z, .int .i64 c] := by rw [← hW4]; exact Blk.new _ _ _ rfl
            have hRf := (hR2.trans (hb.mono hR2.size)).trans (hb4.mono (hR2.trans (hb.mono hR2.size)).size)
            have bP4 := (bP2.next hb).next hb4
            clear hb hb4 m0 m1 p0 p1 p2 p3 hd0 hd1
            obtain ⟨p0, p1, p2, p3⟩ := ppos_cells bP4
            obtain ⟨q0, q1, q2, q3⟩ := ppos_cells bQ4
            go_wp2_with fail
            refine (rkind_is x kk _ KX.out).mono ?_
            rintro e w5 ⟨rfl, rfl⟩
            go_wp2_with fail
            refine (rfind_is s 46 n1 _ F1.out).mono ?_
            rintro e w6 ⟨A6, k6, rfl, _, hb⟩
            have hRg := hRf.trans (hb.mono hRf.size)
            have bQ5 := bQ4.next hb
            clear hb p0 p1 p2 p3 q0 q1 q2 q3
            obtain ⟨q0, q1, q2, q3⟩ := ppos_cells bQ5
            go_wp2_with fail
            refine (rfind_is q 46 (n1 + 1) _ F2.out).mono ?_
            rintro e w7 ⟨A7, k7, rfl, _, hb⟩
            have hRh := hRg.trans (hb.mono hRg.size)
            have bQ6 := bQ5.next hb
            clear hb q0 q1 q2 q3
            obtain ⟨q0, q1, q2, q3⟩ := ppos_cells bQ6
            go_wp2_with fail
            refine (check_is q y z c 0 _ KC.out).mono ?_
            rintro e w8 ⟨rfl, hb⟩
            go_wp2_with fail
            go_roundw
            case rel => exact ⟨k + 1, by omega, by go_num, hRh.trans (hb.mono hRh.size)⟩
            case measure => simp [intOf]; omega
      · have e0 : decide (0 < (k : Int)) = true := by simp; omega
        have e0n : decide (0 < k) = true := by simp; omega
        obtain ⟨⟨u', v'⟩, huv'⟩ : ∃ x, (ls[k - 1]'(by omega)) = x := ⟨_, rfl⟩
        have hlex := HRI.out (k - 1) (by omega)
        rw [huv'] at hlex
        obtain ⟨j, hj⟩ : ∃ j, k - 1 = j := ⟨_, rfl⟩
        have hlex2 : (u' < u) ∨ (u' = u ∧ v' < v) := by
          have e : ls[k - 1 + 1]'(by omega) = (u, v) := by
            have : k - 1 + 1 = k := by omega
            simp only [this]
            exact HUV.out
          rw [e] at hlex
          exact hlex
        obtain ⟨c0', c1'⟩ := rd.move_at (k := k - 1) (by omega)
        rw [huv', hj] at c0' c1'
        have hx0 := (hR2.cell (p := ⟨g1, o1 + j * 2, none⟩) (cell_lt c0')).trans c0'
        have hx1 := (hR2.cell (p := ⟨g1, o1 + j * 2 + 1, none⟩) (cell_lt c1')).trans c1'
        have wk : IntKind.i64.wrap ((k : Int) - 1) = (j : Int) := by rw [IntWalk.i64_in _ (by omega)]; omega
        have j0 : (0 : Int) ≤ (j : Int) := by omega
        have jm : (j : Int) < (m : Int) := by omega
        have g0 : decide ((u : Int) < (u' : Int)) = false := by simp; omega
        have g0n : decide (u < u') = false := by simp; omega
        have e0' : decide ((k : Int) > 0) = true := e0
        clear hlex c0' c1' huv' h0 hj
        cases he : ((u' : Int) == (u : Int))
        · clear hlex2
          go_wp2_with fail
          refine wp_region_held_drew (S := fun W => W.cell? ⟨wr.heap.size, 0, none⟩ = some (.int .i64 (u : Int)) ∧ W.cell? ⟨wr.heap.size, 1, none⟩ = some (.int .i64 (v : Int)) ∧ W.cell? ⟨g1, o1 + j * 2, none⟩ = some (.int .i64 (u' : Int)) ∧ W.cell? ⟨g1, o1 + j * 2 + 1, none⟩ = some (.int .i64 (v' : Int))) (by kernel_rfl) (⟨m0, m1, hx0, hx1⟩) (fun hHeld => ?_)
          refine wpAnyH_take (i := 0) (oi := { dst := some 29, op := Op.move (Operand.tmp 4), type := 3, pos := "law.go:50", after := #[], guard := none }) (v := ?_) rfl (by kernel_rfl) (by kernel_rfl) (by kernel_rfl) (fun _ _ _ h => h) (Or.inl ⟨by rfl, ?_⟩) (by assumption) ?_
          case refine_2 =>
            intro w hSw
            (try dsimp only at hSw)
            (try go_simp)
            all_goals (with_reducible rfl)
          try simp only [Act.put, List.setIfInBounds_toArray, List.set_cons_zero, List.set_cons_succ]
          refine wpAnyH_take (i := 1) (oi := { dst := some 30, op := Op.binOp BinOp.gtr 3 (Operand.tmp 29) (Operand.const (Value.int IntKind.i64 0)) 3, type := 4, pos := "law.go:50", after := #[{ on := 0, ground := Ground.data }], guard := none }) (v := ?_) rfl (by kernel_rfl) (by kernel_rfl) (by kernel_rfl) (fun _ _ _ h => h) (Or.inl ⟨by rfl, ?_⟩) (by assumption) ?_
          case refine_2 =>
            intro w hSw
            (try dsimp only at hSw)
            (try go_simp)
            all_goals (with_reducible rfl)
          try simp only [Act.put, List.setIfInBounds_toArray, List.set_cons_zero, List.set_cons_succ]
          refine wpAnyH_take (i := 2) (oi := { dst := some 31, op := Op.move (Operand.tmp 30), type := 4, pos := "law.go:50", after := #[{ on := 1, ground := Ground.data }], guard := none }) (v := ?_) rfl (by kernel_rfl) (by kernel_rfl) (by kernel_rfl) (fun _ _ _ h => h) (Or.inl ⟨by rfl, ?_⟩) (by assumption) ?_
          case refine_2 =>
            intro w hSw
            (try dsimp only at hSw)
            (try go_simp)
            all_goals (with_reducible rfl)
          try simp only [Act.put, List.setIfInBounds_toArray, List.set_cons_zero, List.set_cons_succ]
          refine wpAnyH_take (i := 3) (oi := { dst := some 32, op := Op.move (Operand.tmp 3), type := 26, pos := "law.go:50", after := #[{ on := 2, ground := Ground.guard }], guard := some (2, true) }) (v := ?_) rfl (by kernel_rfl) (by kernel_rfl) (by kernel_rfl) (fun _ _ _ h => h) (Or.inl ⟨by rfl, ?_⟩) (by assumption) ?_
          case refine_2 =>
            intro w hSw
            (try dsimp only at hSw)
            (try go_simp)
            all_goals (with_reducible rfl)
          try simp only [Act.put, List.setIfInBounds_toArray, List.set_cons_zero, List.set_cons_succ]
          refine wpAnyH_take (i := 4) (oi := { dst := some 33, op := Op.move (Operand.tmp 4), type := 3, pos := "law.go:50", after := #[{ on := 2, ground := Ground.guard }], guard := some (2, true) }) (v := ?_) rfl (by kernel_rfl) (by kernel_rfl) (by kernel_rfl) (fun _ _ _ h => h) (Or.inl ⟨by rfl, ?_⟩) (by assumption) ?_
          case refine_2 =>
            intro w hSw
            (try dsimp only at hSw)
            (try go_simp)
            all_goals (with_reducible rfl)
          try simp only [Act.put, List.setIfInBounds_toArray, List.set_cons_zero, List.set_cons_succ]
          refine wpAnyH_take (i := 5) (oi := { dst := some 34, op := Op.binOp BinOp.sub 3 (Operand.tmp 33) (Operand.const (Value.int IntKind.i64 1)) 3, type := 3, pos := "law.go:50", after := #[{ on := 4, ground := Ground.data }, { on := 2, ground := Ground.guard }], guard := some (2, true) }) (v := ?_) rfl (by kernel_rfl) (by kernel_rfl) (by kernel_rfl) (fun _ _ _ h => h) (Or.inl ⟨by rfl, ?_⟩) (by assumption) ?_
          case refine_2 =>
            intro w hSw
            (try dsimp only at hSw)
            (try go_simp)
            all_goals (with_reducible rfl)
          try simp only [Act.put, List.setIfInBounds_toArray, List.set_cons_zero, List.set_cons_succ]
          refine wpAnyH_take (i := 6) (oi := { dst := some 35, op := Op.indexAddr 26 (Operand.tmp 32) (Operand.tmp 34), type := 0, pos := "law.go:50", after := #[{ on := 3, ground := Ground.data }, { on := 5, ground := Ground.data }, { on := 2, ground := Ground.guard }], guard := some (2, true) }) (v := ?_) rfl (by kernel_rfl) (by kernel_rfl) (by kernel_rfl) (fun _ _ _ h => h) (Or.inl ⟨by rfl, ?_⟩) (by assumption) ?_
          case refine_2 =>
            intro w hSw
            (try dsimp only at hSw)
            (try go_simp)
            all_goals (with_reducible rfl)
          try simp only [Act.put, List.setIfInBounds_toArray, List.set_cons_zero, List.set_cons_succ]
          refine wpAnyH_take (i := 7) (oi := { dst := some 36, op := Op.fieldAddr 30 (Operand.tmp 35) 0, type := 0, pos := "law.go:50", after := #[{ on := 6, ground := Ground.data }, { on := 2, ground := Ground.guard }], guard := some (2, true) }) (v := ?_) rfl (by kernel_rfl) (by kernel_rfl) (by kernel_rfl) (fun _ _ _ h => h) (Or.inl ⟨by rfl, ?_⟩) (by assumption) ?_
          case refine_2 =>
            intro w hSw
            (try dsimp only at hSw)
            (try go_simp)
            all_goals (with_reducible rfl)
          try simp only [Act.put, List.setIfInBounds_toArray, List.set_cons_zero, List.set_cons_succ]
          refine wpAnyH_take (i := 8) (oi := { dst := some 37, op := Op.load 3 (Operand.tmp 36), type := 3, pos := "law.go:50", after := #[{ on := 7, ground := Ground.data }, { on := 2, ground := Ground.guard }], guard := some (2, true) }) (v := ?_) rfl (by kernel_rfl) (by kernel_rfl) (by kernel_rfl) (fun _ _ _ h => h) (Or.inl ⟨by rfl, ?_⟩) (by assumption) ?_
          case refine_2 =>
            intro w hSw
            (try dsimp only at hSw)
            (try go_simp)
            all_goals (with_reducible rfl)
          try simp only [Act.put, List.setIfInBounds_toArray, List.set_cons_zero, List.set_cons_succ]
          refine wpAnyH_take (i := 9) (oi := { dst := some 38, op := Op.fieldAddr 30 (Operand.tmp 5) 0, type := 0, pos := "law.go:50", after := #[{ on := 2, ground := Ground.guard }], guard := some (2, true) }) (v := ?_) rfl (by kernel_rfl) (by kernel_rfl) (by kernel_rfl) (fun _ _ _ h => h) (Or.inl ⟨by rfl, ?_⟩) (by assumption) ?_
          case refine_2 =>
            intro w hSw
            (try dsimp only at hSw)
            (try go_simp)
            all_goals (with_reducible rfl)
          try simp only [Act.put, List.setIfInBounds_toArray, List.set_cons_zero, List.set_cons_succ]
          refine wpAnyH_take (i := 10) (oi := { dst := some 39, op := Op.load 3 (Operand.tmp 38), type := 3, pos := "law.go:50", after := #[{ on := 9, ground := Ground.data }, { on := 2, ground := Ground.guard }], guard := some (2, true) }) (v := ?_) rfl (by kernel_rfl) (by kernel_rfl) (by kernel_rfl) (fun _ _ _ h => h) (Or.inl ⟨by rfl, ?_⟩) (by assumption) ?_
          case refine_2 =>
            intro w hSw
            (try dsimp only at hSw)
            (try go_simp)
            all_goals (with_reducible rfl)
          try simp only [Act.put, List.setIfInBounds_toArray, List.set_cons_zero, List.set_cons_succ]
          refine wpAnyH_take (i := 11) (oi := { dst := some 40, op := Op.binOp BinOp.gtr 3 (Operand.tmp 37) (Operand.tmp 39) 3, type := 4, pos := "law.go:50", after := #[{ on := 8, ground := Ground.data }, { on := 10, ground := Ground.data }, { on := 2, ground := Ground.guard }], guard := some (2, true) }) (v := ?_) rfl (by kernel_rfl) (by kernel_rfl) (by kernel_rfl) (fun _ _ _ h => h) (Or.inl ⟨by rfl, ?_⟩) (by assumption) ?_
          case refine_2 =>
            intro w hSw
            (try dsimp only at hSw)
            (try go_simp)
            all_goals (with_reducible rfl)
          try simp only [Act.put, List.setIfInBounds_toArray, List.set_cons_zero, List.set_cons_succ]
          refine wpAnyH_take (i := 12) (oi := { dst := some 41, op := Op.move (Operand.tmp 40), type := 4, pos := "law.go:50", after := #[{ on := 11, ground := Ground.data }, { on := 2, ground := Ground.chain }, { on := 2, ground := Ground.guard }], guard := some (2, true) }) (v := ?_) rfl (by kernel_rfl) (by kernel_rfl) (by kernel_rfl) (fun _ _ _ h => h) (Or.inl ⟨by rfl, ?_⟩) (by assumption) ?_
          case refine_2 =>
            intro w hSw
            (try dsimp only at hSw)
            (try go_simp)
            all_goals (with_reducible rfl)
          try simp only [Act.put, List.setIfInBounds_toArray, List.set_cons_zero, List.set_cons_succ]
          refine wpAnyH_take (i := 13) (oi := { dst := some 42, op := Op.move (Operand.tmp 3), type := 26, pos := "law.go:50", after := #[{ on := 12, ground := Ground.guard }], guard := some (12, false) }) (v := ?_) rfl (by kernel_rfl) (by kernel_rfl) (by kernel_rfl) (fun _ _ _ h => h) (Or.inl ⟨by rfl, ?_⟩) (by assumption) ?_
          case refine_2 =>
            intro w hSw
            (try dsimp only at hSw)
            (try go_simp)
            all_goals (with_reducible rfl)
          try simp only [Act.put, List.setIfInBounds_toArray, List.set_cons_zero, List.set_cons_succ]
          refine wpAnyH_take (i := 14) (oi := { dst := some 43, op := Op.move (Operand.tmp 4), type := 3, pos := "law.go:50", after := #[{ on := 12, ground := Ground.guard }], guard := some (12, false) }) (v := ?_) rfl (by kernel_rfl) (by kernel_rfl) (by kernel_rfl) (fun _ _ _ h => h) (Or.inl ⟨by rfl, ?_⟩) (by assumption) ?_
          case refine_2 =>
            intro w hSw
            (try dsimp only at hSw)
            (try go_simp)
            all_goals (with_reducible rfl)
          try simp only [Act.put, List.setIfInBounds_toArray, List.set_cons_zero, List.set_cons_succ]
          refine wpAnyH_take (i := 15) (oi := { dst := some 44, op := Op.binOp BinOp.sub 3 (Operand.tmp 43) (Operand.const (Value.int IntKind.i64 1)) 3, type := 3, pos := "law.go:50", after := #[{ on := 14, ground := Ground.data }, { on := 12, ground := Ground.guard }], guard := some (12, false) }) (v := ?_) rfl (by kernel_rfl) (by kernel_rfl) (by kernel_rfl) (fun _ _ _ h => h) (Or.inl ⟨by rfl, ?_⟩) (by assumption) ?_
          case refine_2 =>
            intro w hSw
            (try dsimp only at hSw)
            (try go_simp)
            all_goals (with_reducible rfl)
          try simp only [Act.put, List.setIfInBounds_toArray, List.set_cons_zero, List.set_cons_succ]
          refine wpAnyH_take (i := 16) (oi := { dst := some 45, op := Op.indexAddr 26 (Operand.tmp 42) (Operand.tmp 44), type := 0, pos := "law.go:50", after := #[{ on := 13, ground := Ground.data }, { on := 15, ground := Ground.data }, { on := 12, ground := Ground.guard }], guard := some (12, false) }) (v := ?_) rfl (by kernel_rfl) (by kernel_rfl) (by kernel_rfl) (fun _ _ _ h => h) (Or.inl ⟨by rfl, ?_⟩) (by assumption) ?_
          case refine_2 =>
            intro w hSw
            (try dsimp only at hSw)
            (try go_simp)
            all_goals (with_reducible rfl)
          try simp only [Act.put, List.setIfInBounds_toArray, List.set_cons_zero, List.set_cons_succ]
          refine wpAnyH_take (i := 17) (oi := { dst := some 46, op := Op.fieldAddr 30 (Operand.tmp 45) 0, type := 0, pos := "law.go:50", after := #[{ on := 16, ground := Ground.data }, { on := 12, ground := Ground.guard }], guard := some (12, false) }) (v := ?_) rfl (by kernel_rfl) (by kernel_rfl) (by kernel_rfl) (fun _ _ _ h => h) (Or.inl ⟨by rfl, ?_⟩) (by assumption) ?_
          case refine_2 =>
            intro w hSw
            (try dsimp only at hSw)
            (try go_simp)
            all_goals (with_reducible rfl)
          try simp only [Act.put, List.setIfInBounds_toArray, List.set_cons_zero, List.set_cons_succ]
          refine wpAnyH_take (i := 18) (oi := { dst := some 47, op := Op.load 3 (Operand.tmp 46), type := 3, pos := "law.go:50", after := #[{ on := 17, ground := Ground.data }, { on := 12, ground := Ground.guard }], guard := some (12, false) }) (v := ?_) rfl (by kernel_rfl) (by kernel_rfl) (by kernel_rfl) (fun _ _ _ h => h) (Or.inl ⟨by rfl, ?_⟩) (by assumption) ?_
          case refine_2 =>
            intro w hSw
            (try dsimp only at hSw)
            (try go_simp)
            all_goals (with_reducible rfl)
          try simp only [Act.put, List.setIfInBounds_toArray, List.set_cons_zero, List.set_cons_succ]
          refine wpAnyH_take (i := 19) (oi := { dst := some 48, op := Op.fieldAddr 30 (Operand.tmp 5) 0, type := 0, pos := "law.go:50", after := #[{ on := 12, ground := Ground.guard }], guard := some (12, false) }) (v := ?_) rfl (by kernel_rfl) (by kernel_rfl) (by kernel_rfl) (fun _ _ _ h => h) (Or.inl ⟨by rfl, ?_⟩) (by assumption) ?_
          case refine_2 =>
            intro w hSw
            (try dsimp only at hSw)
            (try go_simp)
            all_goals (with_reducible rfl)
          try simp only [Act.put, List.setIfInBounds_toArray, List.set_cons_zero, List.set_cons_succ]
          refine wpAnyH_take (i := 20) (oi := { dst := some 49, op := Op.load 3 (Operand.tmp 48), type := 3, pos := "law.go:50", after := #[{ on := 19, ground := Ground.data }, { on := 12, ground := Ground.guard }], guard := some (12, false) }) (v := ?_) rfl (by kernel_rfl) (by kernel_rfl) (by kernel_rfl) (fun _ _ _ h => h) (Or.inl ⟨by rfl, ?_⟩) (by assumption) ?_
          case refine_2 =>
            intro w hSw
            (try dsimp only at hSw)
            (try go_simp)
            all_goals (with_reducible rfl)
          try simp only [Act.put, List.setIfInBounds_toArray, List.set_cons_zero, List.set_cons_succ]
          refine wpAnyH_take (i := 21) (oi := { dst := some 50, op := Op.binOp BinOp.eql 3 (Operand.tmp 47) (Operand.tmp 49) 3, type := 4, pos := "law.go:50", after := #[{ on := 18, ground := Ground.data }, { on := 20, ground := Ground.data }, { on := 12, ground := Ground.guard }], guard := some (12, false) }) (v := ?_) rfl (by kernel_rfl) (by kernel_rfl) (by kernel_rfl) (fun _ _ _ h => h) (Or.inl ⟨by rfl, ?_⟩) (by assumption) ?_
          case refine_2 =>
            intro w hSw
            (try dsimp only at hSw)
            (try go_simp)
            all_goals (with_reducible rfl)
          try simp only [Act.put, List.setIfInBounds_toArray, List.set_cons_zero, List.set_cons_succ]
          refine wpAnyH_take (i := 22) (oi := { dst := some 51, op := Op.move (Operand.tmp 50), type := 4, pos := "law.go:50", after := #[{ on := 21, ground := Ground.data }, { on := 12, ground := Ground.chain }, { on := 12, ground := Ground.guard }], guard := some (12, false) }) (v := ?_) rfl (by kernel_rfl) (by kernel_rfl) (by kernel_rfl) (fun _ _ _ h => h) (Or.inl ⟨by rfl, ?_⟩) (by assumption) ?_
          case refine_2 =>
            intro w hSw
            (try dsimp only at hSw)
            (try go_simp)
            all_goals (with_reducible rfl)
          try simp only [Act.put, List.setIfInBounds_toArray, List.set_cons_zero, List.set_cons_succ]
          refine wpAnyH_take (i := 23) (oi := { dst := some 52, op := Op.move (Operand.tmp 3), type := 26, pos := "law.go:50", after := #[{ on := 22, ground := Ground.guard }], guard := some (22, true) }) (v := undef) rfl (by kernel_rfl) (by kernel_rfl) (by kernel_rfl) (fun _ _ _ h => h) (Or.inr ⟨by rfl, rfl⟩) (by assumption) ?_
          try simp only [Act.put, List.setIfInBounds_toArray, List.set_cons_zero, List.set_cons_succ]
          refine wpAnyH_take (i := 24) (oi := { dst := some 53, op := Op.move (Operand.tmp 4), type := 3, pos := "law.go:50", after := #[{ on := 22, ground := Ground.guard }], guard := some (22, true) }) (v := undef) rfl (by kernel_rfl) (by kernel_rfl) (by kernel_rfl) (fun _ _ _ h => h) (Or.inr ⟨by rfl, rfl⟩) (by assumption) ?_
          try simp only [Act.put, List.setIfInBounds_toArray, List.set_cons_zero, List.set_cons_succ]
          refine wpAnyH_take (i := 25) (oi := { dst := some 54, op := Op.binOp BinOp.sub 3 (Operand.tmp 53) (Operand.const (Value.int IntKind.i64 1)) 3, type := 3, pos := "law.go:50", after := #[{ on := 24, ground := Ground.data }, { on := 22, ground := Ground.guard }], guard := some (22, true) }) (v := undef) rfl (by kernel_rfl) (by kernel_rfl) (by kernel_rfl) (fun _ _ _ h => h) (Or.inr ⟨by rfl, rfl⟩) (by assumption) ?_
          try simp only [Act.put, List.setIfInBounds_toArray, List.set_cons_zero, List.set_cons_succ]
          refine wpAnyH_take (i := 26) (oi := { dst := some 55, op := Op.indexAddr 26 (Operand.tmp 52) (Operand.tmp 54), type := 0, pos := "law.go:50", after := #[{ on := 23, ground := Ground.data }, { on := 25, ground := Ground.data }, { on := 22, ground := Ground.guard }], guard := some (22, true) }) (v := undef) rfl (by kernel_rfl) (by kernel_rfl) (by kernel_rfl) (fun _ _ _ h => h) (Or.inr ⟨by rfl, rfl⟩) (by assumption) ?_
          try simp only [Act.put, List.setIfInBounds_toArray, List.set_cons_zero, List.set_cons_succ]
          refine wpAnyH_take (i := 27) (oi := { dst := some 56, op := Op.fieldAddr 30 (Operand.tmp 55) 1, type := 0, pos := "law.go:50", after := #[{ on := 26, ground := Ground.data }, { on := 22, ground := Ground.guard }], guard := some (22, true) }) (v := undef) rfl (by kernel_rfl) (by kernel_rfl) (by kernel_rfl) (fun _ _ _ h => h) (Or.inr ⟨by rfl, rfl⟩) (by assumption) ?_
          try simp only [Act.put, List.setIfInBounds_toArray, List.set_cons_zero, List.set_cons_succ]
          refine wpAnyH_take (i := 28) (oi := { dst := some 57, op := Op.load 3 (Operand.tmp 56), type := 3, pos := "law.go:50", after := #[{ on := 27, ground := Ground.data }, { on := 22, ground := Ground.guard }], guard := some (22, true) }) (v := undef) rfl (by kernel_rfl) (by kernel_rfl) (by kernel_rfl) (fun _ _ _ h => h) (Or.inr ⟨by rfl, rfl⟩) (by assumption) ?_
          try simp only [Act.put, List.setIfInBounds_toArray, List.set_cons_zero, List.set_cons_succ]
          refine wpAnyH_take (i := 29) (oi := { dst := some 58, op := Op.fieldAddr 30 (Operand.tmp 5) 1, type := 0, pos := "law.go:50", after := #[{ on := 22, ground := Ground.guard }], guard := some (22, true) }) (v := undef) rfl (by kernel_rfl) (by kernel_rfl) (by kernel_rfl) (fun _ _ _ h => h) (Or.inr ⟨by rfl, rfl⟩) (by assumption) ?_
          try simp only [Act.put, List.setIfInBounds_toArray, List.set_cons_zero, List.set_cons_succ]
          refine wpAnyH_take (i := 30) (oi := { dst := some 59, op := Op.load 3 (Operand.tmp 58), type := 3, pos := "law.go:50", after := #[{ on := 29, ground := Ground.data }, { on := 22, ground := Ground.guard }], guard := some (22, true) }) (v := undef) rfl (by kernel_rfl) (by kernel_rfl) (by kernel_rfl) (fun _ _ _ h => h) (Or.inr ⟨by rfl, rfl⟩) (by assumption) ?_
          try simp only [Act.put, List.setIfInBounds_toArray, List.set_cons_zero, List.set_cons_succ]
          refine wpAnyH_take (i := 31) (oi := { dst := some 60, op := Op.binOp BinOp.geq 3 (Operand.tmp 57) (Operand.tmp 59) 3, type := 4, pos := "law.go:50", after := #[{ on := 28, ground := Ground.data }, { on := 30, ground := Ground.data }, { on := 22, ground := Ground.guard }], guard := some (22, true) }) (v := undef) rfl (by kernel_rfl) (by kernel_rfl) (by kernel_rfl) (fun _ _ _ h => h) (Or.inr ⟨by rfl, rfl⟩) (by assumption) ?_
          try simp only [Act.put, List.setIfInBounds_toArray, List.set_cons_zero, List.set_cons_succ]
          refine wpAnyH_take (i := 32) (oi := { dst := some 61, op := Op.pick (Operand.tmp 51) (Operand.tmp 60) (Operand.const (Value.bool false)), type := 4, pos := "law.go:50", after := #[{ on := 22, ground := Ground.data }, { on := 31, ground := Ground.data }, { on := 12, ground := Ground.guard }], guard := some (12, false) }) (v := ?_) rfl (by kernel_rfl) (by kernel_rfl) (by kernel_rfl) (fun _ _ _ h => h) (Or.inl ⟨by rfl, ?_⟩) (by assumption) ?_
          case refine_2 =>
            intro w hSw
            (try dsimp only at hSw)
            (try go_simp)
            all_goals (with_reducible rfl)
          try simp only [Act.put, List.setIfInBounds_toArray, List.set_cons_zero, List.set_cons_succ]
          refine wpAnyH_take (i := 33) (oi := { dst := some 62, op := Op.pick (Operand.tmp 41) (Operand.const (Value.bool true)) (Operand.tmp 61), type := 4, pos := "law.go:50", after := #[{ on := 12, ground := Ground.data }, { on := 32, ground := Ground.data }, { on := 2, ground := Ground.guard }], guard := some (2, true) }) (v := ?_) rfl (by kernel_rfl) (by kernel_rfl) (by kernel_rfl) (fun _ _ _ h => h) (Or.inl ⟨by rfl, ?_⟩) (by assumption) ?_
          case refine_2 =>
            intro w hSw
            (try dsimp only at hSw)
            (try go_simp)
            all_goals (with_reducible rfl)
          try simp only [Act.put, List.setIfInBounds_toArray, List.set_cons_zero, List.set_cons_succ]
          refine wpAnyH_take (i := 34) (oi := { dst := some 63, op := Op.pick (Operand.tmp 31) (Operand.tmp 62) (Operand.const (Value.bool false)), type := 4, pos := "law.go:50", after := #[{ on := 2, ground := Ground.data }, { on := 33, ground := Ground.data }], guard := none }) (v := ?_) rfl (by kernel_rfl) (by kernel_rfl) (by kernel_rfl) (fun _ _ _ h => h) (Or.inl ⟨by rfl, ?_⟩) (by assumption) ?_
          case refine_2 =>
            intro w hSw
            (try dsimp only at hSw)
            (try go_simp)
            all_goals (with_reducible rfl)
          try simp only [Act.put, List.setIfInBounds_toArray, List.set_cons_zero, List.set_cons_succ]
          refine wpAnyH_done (by kernel_rfl) ?_ _
          clear hHeld
          go_wp2_with fail
          repeat (go_quiet (fail); go_wp2_with fail)
          by_cases hk75 : kindN x = 75
          · have HV2 := HKI.out hk75
            rw [HV.out] at HV2
            subst HV2
            have KX := Lib.hid hk75
            clear hk75
            refine (HAP.out _ (by repeat (first | exact Below.refl _ _ | refine below_drewN ?_ _ | refine Below.drew ?_))).mono ?_
            rintro e w3 ⟨rfl, hb⟩
            obtain ⟨W4, hW4⟩ : ∃ W4, w3.alloc (.cells #[.string ⟨#[]⟩, .int .i64 0, .int .i64 0, .int .i64 0] 23) = W4 := ⟨_, rfl⟩
            have hb4 : Below w3.heap.size w3 W4 := by rw [← hW4]; exact (by repeat (first | exact Below.refl _ _ | (refine Below.setCell ?_ (by first | omega | (simp; done) | (simp; omega) | (simp at *; omega)) _) | (refine Below.alloc ?_ (by first | omega | (simp; done) | (simp; omega) | (simp at *; omega)) _) | refine Below.drew ?_ | (refine below_drewN ?_ _) | (refine Below.trans ?_ (Below.mono (by assumption) (by first | omega | (simp; done) | (simp; omega) | (simp at *; omega))))))
            have bQ4 : Blk W4 w3.heap.size 23 #[.string ⟨#[]⟩, .int .i64 0, .int .i64 0, .int .i64 0] := by rw [← hW4]; exact Blk.new _ _ _ rfl
            have hR3 := hR2.trans (hb.mono hR2.size)
            have hRf := hR3.trans (hb4.mono hR3.size)
            have hRs := hR3.size
            have hRg : Below w1.heap.size w1 ((((W4.setCell ⟨w3.heap.size, 0, none⟩ (.string ⟨#[]⟩)).setCell ⟨w3.heap.size, 1, none⟩ (.int .i64 0)).setCell ⟨w3.heap.size, 2, none⟩ (.int .i64 0)).setCell ⟨w3.heap.size, 3, none⟩ (.int .i64 0)) := (((hRf.setCell (p := ⟨w3.heap.size, 0, none⟩) hRs _).setCell (p := ⟨w3.heap.size, 1, none⟩) hRs _).setCell (p := ⟨w3.heap.size, 2, none⟩) hRs _).setCell (p := ⟨w3.heap.size, 3, none⟩) hRs _
            obtain ⟨q0, q1, q2, q3⟩ := ppos_cells bQ4
            obtain ⟨f0, f1, f2, f3⟩ := ppos_frozen bQ4
            clear hb hb4 m0 m1 p0 p1 p2 p3 hd0 hd1 hx0 hx1
            go_wp2_with fail
            refine (rkind_is x 75 _ KX.out).mono ?_
            rintro e w5 ⟨rfl, rfl⟩
            go_wp2_with fail
            go_roundw
            case rel => exact ⟨k + 1, by omega, by go_num, by first | exact hRf | exact hRg⟩
            case measure => simp [intOf]; omega
          · by_cases h46 : x = 46
            · subst h46
              obtain ⟨q, y, z, c, HV2, hcq, hcnt⟩ := HGO.out hk75
              rw [HV.out] at HV2
              simp only [if_pos, Nat.add_zero] at HV2 hcnt
              subst HV2
              obtain ⟨kk, hkk⟩ : ∃ kk, kindN 46 = kk := ⟨_, rfl⟩
              have KX := Lib.hid hkk
              have k75 : ((kk : Int) == 75) = false := by rw [beq_eq_false_iff_ne]; omega
              have KC := Lib.hid hcq
              obtain ⟨n1, hn1⟩ : ∃ n, (findL s 46).length = n := ⟨_, rfl⟩
              have hn190 : n1 ≤ 90 := by rw [← hn1]; exact find_le s 46
              rw [hn1] at hcnt
              have F1 := Lib.hid hn1
              have F2 := Lib.hid hcnt
              have iw : IntKind.i64.wrap ((n1 : Int) + 1) = (n1 : Int) + 1 := IntWalk.i64_in _ (by omega)
              clear hk75 hcq hkk hn1 hcnt hbyte
              refine (HAP.out _ (by repeat (first | exact Below.refl _ _ | refine below_drewN ?_ _ | refine Below.drew ?_))).mono ?_
              rintro e w3 ⟨rfl, hb⟩
              obtain ⟨W4, hW4⟩ : ∃ W4, w3.alloc (.cells #[.string q, .int .i64 y, .int .i64 z, .int .i64 c] 23) = W4 := ⟨_, rfl⟩
              have hb4 : Below w3.heap.size w3 W4 := by rw [← hW4]; exact (by repeat (first | exact Below.refl _ _ | (refine Below.setCell ?_ (by first | omega | (simp; done) | (simp; omega) | (simp at *; omega)) _) | (refine Below.alloc ?_ (by first | omega | (simp; done) | (simp; omega) | (simp at *; omega)) _) | refine Below.drew ?_ | (refine below_drewN ?_ _) | (refine Below.trans ?_ (Below.mono (by assumption) (by first | omega | (simp; done) | (simp; omega) | (simp at *; omega))))))
              have bQ4 : Blk W4 w3.heap.size 23 #[.string q, .int .i64 y, .int .i64 z, .int .i64 c] := by rw [← hW4]; exact Blk.new _ _ _ rfl
              have hRf := (hR2.trans (hb.mono hR2.size)).trans (hb4.mono (hR2.trans (hb.mono hR2.size)).size)
              have bP4 := (bP2.next hb).next hb4
              clear hb hb4 m0 m1 p0 p1 p2 p3 hd0 hd1 hx0 hx1
              obtain ⟨p0, p1, p2, p3⟩ := ppos_cells bP4
              obtain ⟨q0, q1, q2, q3⟩ := ppos_cells bQ4
              go_wp2_with fail
              refine (rkind_is 46 kk _ KX.out).mono ?_
              rintro e w5 ⟨rfl, rfl⟩
              go_wp2_with fail
              refine (rfind_is s 46 n1 _ F1.out).mono ?_
              rintro e w6 ⟨A6, k6, rfl, _, hb⟩
              have hRg := hRf.trans (hb.mono hRf.size)
              have bQ5 := bQ4.next hb
              clear hb p0 p1 p2 p3 q0 q1 q2 q3
              obtain ⟨q0, q1, q2, q3⟩ := ppos_cells bQ5
              go_wp2_with fail
              refine (rfind_is q 46 n1 _ F2.out).mono ?_
              rintro e w7 ⟨A7, k7, rfl, _, hb⟩
              have hRh := hRg.trans (hb.mono hRg.size)
              have bQ6 := bQ5.next hb
              clear hb q0 q1 q2 q3
              obtain ⟨q0, q1, q2, q3⟩ := ppos_cells bQ6
              go_wp2_with fail
              refine (check_is q y z c 0 _ KC.out).mono ?_
              rintro e w8 ⟨rfl, hb⟩
              go_wp2_with fail
              go_roundw
              case rel => exact ⟨k + 1, by omega, by go_num, hRh.trans (hb.mono hRh.size)⟩
              case measure => simp [intOf]; omega
            · obtain ⟨q, y, z, c, HV2, hcq, hcnt⟩ := HGO.out hk75
              rw [HV.out] at HV2
              simp only [if_neg h46] at HV2 hcnt
              subst HV2
              obtain ⟨kk, hkk⟩ : ∃ kk, kindN x = kk := ⟨_, rfl⟩
              have KX := Lib.hid hkk
              have k75 : ((kk : Int) == 75) = false := by rw [beq_eq_false_iff_ne]; omega
              have KC := Lib.hid hcq
              obtain ⟨n1, hn1⟩ : ∃ n, (findL s 46).length = n := ⟨_, rfl⟩
              have hn190 : n1 ≤ 90 := by rw [← hn1]; exact find_le s 46
              rw [hn1] at hcnt
              have F1 := Lib.hid hn1
              have F2 := Lib.hid hcnt
              have iw : IntKind.i64.wrap ((n1 : Int) + 1) = (n1 : Int) + 1 := IntWalk.i64_in _ (by omega)
              have x0 : ((x : Int) == 0) = false := by rw [beq_eq_false_iff_ne]; omega
              have x1 : ((x : Int) != 0) = true := by rw [bne_iff_ne]; omega
              have x46 : ((x : Int) == 46) = false := by rw [beq_eq_false_iff_ne]; omega
              clear h46
              clear hk75 hcq hkk hn1 hcnt hbyte
              refine (HAP.out _ (by repeat (first | exact Below.refl _ _ | refine below_drewN ?_ _ | refine Below.drew ?_))).mono ?_
              rintro e w3 ⟨rfl, hb⟩
              obtain ⟨W4, hW4⟩ : ∃ W4, w3.alloc (.cells #[.string q, .int .i64 y, .int .i64 z, .int .i64 c] 23) = W4 := ⟨_, rfl⟩
              have hb4 : Below w3.heap.size w3 W4 := by rw [← hW4]; exact (by repeat (first | exact Below.refl _ _ | (refine Below.setCell ?_ (by first | omega | (simp; done) | (simp; omega) | (simp at *; omega)) _) | (refine Below.alloc ?_ (by first | omega | (simp; done) | (simp; omega) | (simp at *; omega)) _) | refine Below.drew ?_ | (refine below_drewN ?_ _) | (refine Below.trans ?_ (Below.mono (by assumption) (by first | omega | (simp; done) | (simp; omega) | (simp at *; omega))))))
              have bQ4 : Blk W4 w3.heap.size 23 #[.string q, .int .i64 y, .int .i64 z, .int .i64 c] := by rw [← hW4]; exact Blk.new _ _ _ rfl
              have hRf := (hR2.trans (hb.mono hR2.size)).trans (hb4.mono (hR2.trans (hb.mono hR2.size)).size)
              have bP4 := (bP2.next hb).next hb4
              clear hb hb4 m0 m1 p0 p1 p2 p3 hd0 hd1 hx0 hx1
              obtain ⟨p0, p1, p2, p3⟩ := ppos_cells bP4
              obtain ⟨q0, q1, q2, q3⟩ := ppos_cells bQ4
              go_wp2_with fail
              refine (rkind_is x kk _ KX.out).mono ?_
              rintro e w5 ⟨rfl, rfl⟩
              go_wp2_with fail
              refine (rfind_is s 46 n1 _ F1.out).mono ?_
              rintro e w6 ⟨A6, k6, rfl, _, hb⟩
              have hRg := hRf.trans (hb.mono hRf.size)
              have bQ5 := bQ4.next hb
              clear hb p0 p1 p2 p3 q0 q1 q2 q3
              obtain ⟨q0, q1, q2, q3⟩ := ppos_cells bQ5
              go_wp2_with fail
              refine (rfind_is q 46 (n1 + 1) _ F2.out).mono ?_
              rintro e w7 ⟨A7, k7, rfl, _, hb⟩
              have hRh := hRg.trans (hb.mono hRg.size)
              have bQ6 := bQ5.next hb
              clear hb q0 q1 q2 q3
              obtain ⟨q0, q1, q2, q3⟩ := ppos_cells bQ6
              go_wp2_with fail
              refine (check_is q y z c 0 _ KC.out).mono ?_
              rintro e w8 ⟨rfl, hb⟩
              go_wp2_with fail
              go_roundw
              case rel => exact ⟨k + 1, by omega, by go_num, hRh.trans (hb.mono hRh.size)⟩
              case measure => simp [intOf]; omega
        · have g2 : decide ((v : Int) ≤ (v' : Int)) = false := by
            have he2 : (u' : Int) = (u : Int) := by simpa using he
            simp
            omega
          have g2n : decide (v ≤ v') = false := by
            have he2 : (u' : Int) = (u : Int) := by simpa using he
            simp
            omega
          clear hlex2
          go_wp2_with fail
          refine wp_region_held_drew (S := fun W => W.cell? ⟨wr.heap.size, 0, none⟩ = some (.int .i64 (u : Int)) ∧ W.cell? ⟨wr.heap.size, 1, none⟩ = some (.int .i64 (v : Int)) ∧ W.cell? ⟨g1, o1 + j * 2, none⟩ = some (.int .i64 (u' : Int)) ∧ W.cell? ⟨g1, o1 + j * 2 + 1, none⟩ = some (.int .i64 (v' : Int))) (by kernel_rfl) (⟨m0, m1, hx0, hx1⟩) (fun hHeld => ?_)
          refine wpAnyH_take (i := 0) (oi := { dst := some 29, op := Op.move (Operand.tmp 4), type := 3, pos := "law.go:50", after := #[], guard := none }) (v := ?_) rfl (by kernel_rfl) (by kernel_rfl) (by kernel_rfl) (fun _ _ _ h => h) (Or.inl ⟨by rfl, ?_⟩) (by assumption) ?_
          case refine_2 =>
            intro w hSw
            (try dsimp only at hSw)
            (try go_simp)
            all_goals (with_reducible rfl)
          try simp only [Act.put, List.setIfInBounds_toArray, List.set_cons_zero, List.set_cons_succ]
          refine wpAnyH_take (i := 1) (oi := { dst := some 30, op := Op.binOp BinOp.gtr 3 (Operand.tmp 29) (Operand.const (Value.int IntKind.i64 0)) 3, type := 4, pos := "law.go:50", after := #[{ on := 0, ground := Ground.data }], guard := none }) (v := ?_) rfl (by kernel_rfl) (by kernel_rfl) (by kernel_rfl) (fun _ _ _ h => h) (Or.inl ⟨by rfl, ?_⟩) (by assumption) ?_
          case refine_2 =>
            intro w hSw
            (try dsimp only at hSw)
            (try go_simp)
            all_goals (with_reducible rfl)
          try simp only [Act.put, List.setIfInBounds_toArray, List.set_cons_zero, List.set_cons_succ]
          refine wpAnyH_take (i := 2) (oi := { dst := some 31, op := Op.move (Operand.tmp 30), type := 4, pos := "law.go:50", after := #[{ on := 1, ground := Ground.data }], guard := none }) (v := ?_) rfl (by kernel_rfl) (by kernel_rfl) (by kernel_rfl) (fun _ _ _ h => h) (Or.inl ⟨by rfl, ?_⟩) (by assumption) ?_
          case refine_2 =>
            intro w hSw
            (try dsimp only at hSw)
            (try go_simp)
            all_goals (with_reducible rfl)
          try simp only [Act.put, List.setIfInBounds_toArray, List.set_cons_zero, List.set_cons_succ]
          refine wpAnyH_take (i := 3) (oi := { dst := some 32, op := Op.move (Operand.tmp 3), type := 26, pos := "law.go:50", after := #[{ on := 2, ground := Ground.guard }], guard := some (2, true) }) (v := ?_) rfl (by kernel_rfl) (by kernel_rfl) (by kernel_rfl) (fun _ _ _ h => h) (Or.inl ⟨by rfl, ?_⟩) (by assumption) ?_
          case refine_2 =>
            intro w hSw
            (try dsimp only at hSw)
            (try go_simp)
            all_goals (with_reducible rfl)
          try simp only [Act.put, List.setIfInBounds_toArray, List.set_cons_zero, List.set_cons_succ]
          refine wpAnyH_take (i := 4) (oi := { dst := some 33, op := Op.move (Operand.tmp 4), type := 3, pos := "law.go:50", after := #[{ on := 2, ground := Ground.guard }], guard := some (2, true) }) (v := ?_) rfl (by kernel_rfl) (by kernel_rfl) (by kernel_rfl) (fun _ _ _ h => h) (Or.inl ⟨by rfl, ?_⟩) (by assumption) ?_
          case refine_2 =>
            intro w hSw
            (try dsimp only at hSw)
            (try go_simp)
            all_goals (with_reducible rfl)
          try simp only [Act.put, List.setIfInBounds_toArray, List.set_cons_zero, List.set_cons_succ]
          refine wpAnyH_take (i := 5) (oi := { dst := some 34, op := Op.binOp BinOp.sub 3 (Operand.tmp 33) (Operand.const (Value.int IntKind.i64 1)) 3, type := 3, pos := "law.go:50", after := #[{ on := 4, ground := Ground.data }, { on := 2, ground := Ground.guard }], guard := some (2, true) }) (v := ?_) rfl (by kernel_rfl) (by kernel_rfl) (by kernel_rfl) (fun _ _ _ h => h) (Or.inl ⟨by rfl, ?_⟩) (by assumption) ?_
          case refine_2 =>
            intro w hSw
            (try dsimp only at hSw)
            (try go_simp)
            all_goals (with_reducible rfl)
          try simp only [Act.put, List.setIfInBounds_toArray, List.set_cons_zero, List.set_cons_succ]
          refine wpAnyH_take (i := 6) (oi := { dst := some 35, op := Op.indexAddr 26 (Operand.tmp 32) (Operand.tmp 34), type := 0, pos := "law.go:50", after := #[{ on := 3, ground := Ground.data }, { on := 5, ground := Ground.data }, { on := 2, ground := Ground.guard }], guard := some (2, true) }) (v := ?_) rfl (by kernel_rfl) (by kernel_rfl) (by kernel_rfl) (fun _ _ _ h => h) (Or.inl ⟨by rfl, ?_⟩) (by assumption) ?_
          case refine_2 =>
            intro w hSw
            (try dsimp only at hSw)
            (try go_simp)
            all_goals (with_reducible rfl)
          try simp only [Act.put, List.setIfInBounds_toArray, List.set_cons_zero, List.set_cons_succ]
          refine wpAnyH_take (i := 7) (oi := { dst := some 36, op := Op.fieldAddr 30 (Operand.tmp 35) 0, type := 0, pos := "law.go:50", after := #[{ on := 6, ground := Ground.data }, { on := 2, ground := Ground.guard }], guard := some (2, true) }) (v := ?_) rfl (by kernel_rfl) (by kernel_rfl) (by kernel_rfl) (fun _ _ _ h => h) (Or.inl ⟨by rfl, ?_⟩) (by assumption) ?_
          case refine_2 =>
            intro w hSw
            (try dsimp only at hSw)
            (try go_simp)
            all_goals (with_reducible rfl)
          try simp only [Act.put, List.setIfInBounds_toArray, List.set_cons_zero, List.set_cons_succ]
          refine wpAnyH_take (i := 8) (oi := { dst := some 37, op := Op.load 3 (Operand.tmp 36), type := 3, pos := "law.go:50", after := #[{ on := 7, ground := Ground.data }, { on := 2, ground := Ground.guard }], guard := some (2, true) }) (v := ?_) rfl (by kernel_rfl) (by kernel_rfl) (by kernel_rfl) (fun _ _ _ h => h) (Or.inl ⟨by rfl, ?_⟩) (by assumption) ?_
          case refine_2 =>
            intro w hSw
            (try dsimp only at hSw)
            (try go_simp)
            all_goals (with_reducible rfl)
          try simp only [Act.put, List.setIfInBounds_toArray, List.set_cons_zero, List.set_cons_succ]
          refine wpAnyH_take (i := 9) (oi := { dst := some 38, op := Op.fieldAddr 30 (Operand.tmp 5) 0, type := 0, pos := "law.go:50", after := #[{ on := 2, ground := Ground.guard }], guard := some (2, true) }) (v := ?_) rfl (by kernel_rfl) (by kernel_rfl) (by kernel_rfl) (fun _ _ _ h => h) (Or.inl ⟨by rfl, ?_⟩) (by assumption) ?_
          case refine_2 =>
            intro w hSw
            (try dsimp only at hSw)
            (try go_simp)
            all_goals (with_reducible rfl)
          try simp only [Act.put, List.setIfInBounds_toArray, List.set_cons_zero, List.set_cons_succ]
          refine wpAnyH_take (i := 10) (oi := { dst := some 39, op := Op.load 3 (Operand.tmp 38), type := 3, pos := "law.go:50", after := #[{ on := 9, ground := Ground.data }, { on := 2, ground := Ground.guard }], guard := some (2, true) }) (v := ?_) rfl (by kernel_rfl) (by kernel_rfl) (by kernel_rfl) (fun _ _ _ h => h) (Or.inl ⟨by rfl, ?_⟩) (by assumption) ?_
          case refine_2 =>
            intro w hSw
            (try dsimp only at hSw)
            (try go_simp)
            all_goals (with_reducible rfl)
          try simp only [Act.put, List.setIfInBounds_toArray, List.set_cons_zero, List.set_cons_succ]
          refine wpAnyH_take (i := 11) (oi := { dst := some 40, op := Op.binOp BinOp.gtr 3 (Operand.tmp 37) (Operand.tmp 39) 3, type := 4, pos := "law.go:50", after := #[{ on := 8, ground := Ground.data }, { on := 10, ground := Ground.data }, { on := 2, ground := Ground.guard }], guard := some (2, true) }) (v := ?_) rfl (by kernel_rfl) (by kernel_rfl) (by kernel_rfl) (fun _ _ _ h => h) (Or.inl ⟨by rfl, ?_⟩) (by assumption) ?_
          case refine_2 =>
            intro w hSw
            (try dsimp only at hSw)
            (try go_simp)
            all_goals (with_reducible rfl)
          try simp only [Act.put, List.setIfInBounds_toArray, List.set_cons_zero, List.set_cons_succ]
          refine wpAnyH_take (i := 12) (oi := { dst := some 41, op := Op.move (Operand.tmp 40), type := 4, pos := "law.go:50", after := #[{ on := 11, ground := Ground.data }, { on := 2, ground := Ground.chain }, { on := 2, ground := Ground.guard }], guard := some (2, true) }) (v := ?_) rfl (by kernel_rfl) (by kernel_rfl) (by kernel_rfl) (fun _ _ _ h => h) (Or.inl ⟨by rfl, ?_⟩) (by assumption) ?_
          case refine_2 =>
            intro w hSw
            (try dsimp only at hSw)
            (try go_simp)
            all_goals (with_reducible rfl)
          try simp only [Act.put, List.setIfInBounds_toArray, List.set_cons_zero, List.set_cons_succ]
          refine wpAnyH_take (i := 13) (oi := { dst := some 42, op := Op.move (Operand.tmp 3), type := 26, pos := "law.go:50", after := #[{ on := 12, ground := Ground.guard }], guard := some (12, false) }) (v := ?_) rfl (by kernel_rfl) (by kernel_rfl) (by kernel_rfl) (fun _ _ _ h => h) (Or.inl ⟨by rfl, ?_⟩) (by assumption) ?_
          case refine_2 =>
            intro w hSw
            (try dsimp only at hSw)
            (try go_simp)
            all_goals (with_reducible rfl)
          try simp only [Act.put, List.setIfInBounds_toArray, List.set_cons_zero, List.set_cons_succ]
          refine wpAnyH_take (i := 14) (oi := { dst := some 43, op := Op.move (Operand.tmp 4), type := 3, pos := "law.go:50", after := #[{ on := 12, ground := Ground.guard }], guard := some (12, false) }) (v := ?_) rfl (by kernel_rfl) (by kernel_rfl) (by kernel_rfl) (fun _ _ _ h => h) (Or.inl ⟨by rfl, ?_⟩) (by assumption) ?_
          case refine_2 =>
            intro w hSw
            (try dsimp only at hSw)
            (try go_simp)
            all_goals (with_reducible rfl)
          try simp only [Act.put, List.setIfInBounds_toArray, List.set_cons_zero, List.set_cons_succ]
          refine wpAnyH_take (i := 15) (oi := { dst := some 44, op := Op.binOp BinOp.sub 3 (Operand.tmp 43) (Operand.const (Value.int IntKind.i64 1)) 3, type := 3, pos := "law.go:50", after := #[{ on := 14, ground := Ground.data }, { on := 12, ground := Ground.guard }], guard := some (12, false) }) (v := ?_) rfl (by kernel_rfl) (by kernel_rfl) (by kernel_rfl) (fun _ _ _ h => h) (Or.inl ⟨by rfl, ?_⟩) (by assumption) ?_
          case refine_2 =>
            intro w hSw
            (try dsimp only at hSw)
            (try go_simp)
            all_goals (with_reducible rfl)
          try simp only [Act.put, List.setIfInBounds_toArray, List.set_cons_zero, List.set_cons_succ]
          refine wpAnyH_take (i := 16) (oi := { dst := some 45, op := Op.indexAddr 26 (Operand.tmp 42) (Operand.tmp 44), type := 0, pos := "law.go:50", after := #[{ on := 13, ground := Ground.data }, { on := 15, ground := Ground.data }, { on := 12, ground := Ground.guard }], guard := some (12, false) }) (v := ?_) rfl (by kernel_rfl) (by kernel_rfl) (by kernel_rfl) (fun _ _ _ h => h) (Or.inl ⟨by rfl, ?_⟩) (by assumption) ?_
          case refine_2 =>
            intro w hSw
            (try dsimp only at hSw)
            (try go_simp)
            all_goals (with_reducible rfl)
          try simp only [Act.put, List.setIfInBounds_toArray, List.set_cons_zero, List.set_cons_succ]
          refine wpAnyH_take (i := 17) (oi := { dst := some 46, op := Op.fieldAddr 30 (Operand.tmp 45) 0, type := 0, pos := "law.go:50", after := #[{ on := 16, ground := Ground.data }, { on := 12, ground := Ground.guard }], guard := some (12, false) }) (v := ?_) rfl (by kernel_rfl) (by kernel_rfl) (by kernel_rfl) (fun _ _ _ h => h) (Or.inl ⟨by rfl, ?_⟩) (by assumption) ?_
          case refine_2 =>
            intro w hSw
            (try dsimp only at hSw)
            (try go_simp)
            all_goals (with_reducible rfl)
          try simp only [Act.put, List.setIfInBounds_toArray, List.set_cons_zero, List.set_cons_succ]
          refine wpAnyH_take (i := 18) (oi := { dst := some 47, op := Op.load 3 (Operand.tmp 46), type := 3, pos := "law.go:50", after := #[{ on := 17, ground := Ground.data }, { on := 12, ground := Ground.guard }], guard := some (12, false) }) (v := ?_) rfl (by kernel_rfl) (by kernel_rfl) (by kernel_rfl) (fun _ _ _ h => h) (Or.inl ⟨by rfl, ?_⟩) (by assumption) ?_
          case refine_2 =>
            intro w hSw
            (try dsimp only at hSw)
            (try go_simp)
            all_goals (with_reducible rfl)
          try simp only [Act.put, List.setIfInBounds_toArray, List.set_cons_zero, List.set_cons_succ]
          refine wpAnyH_take (i := 19) (oi := { dst := some 48, op := Op.fieldAddr 30 (Operand.tmp 5) 0, type := 0, pos := "law.go:50", after := #[{ on := 12, ground := Ground.guard }], guard := some (12, false) }) (v := ?_) rfl (by kernel_rfl) (by kernel_rfl) (by kernel_rfl) (fun _ _ _ h => h) (Or.inl ⟨by rfl, ?_⟩) (by assumption) ?_
          case refine_2 =>
            intro w hSw
            (try dsimp only at hSw)
            (try go_simp)
            all_goals (with_reducible rfl)
          try simp only [Act.put, List.setIfInBounds_toArray, List.set_cons_zero, List.set_cons_succ]
          refine wpAnyH_take (i := 20) (oi := { dst := some 49, op := Op.load 3 (Operand.tmp 48), type := 3, pos := "law.go:50", after := #[{ on := 19, ground := Ground.data }, { on := 12, ground := Ground.guard }], guard := some (12, false) }) (v := ?_) rfl (by kernel_rfl) (by kernel_rfl) (by kernel_rfl) (fun _ _ _ h => h) (Or.inl ⟨by rfl, ?_⟩) (by assumption) ?_
          case refine_2 =>
            intro w hSw
            (try dsimp only at hSw)
            (try go_simp)
            all_goals (with_reducible rfl)
          try simp only [Act.put, List.setIfInBounds_toArray, List.set_cons_zero, List.set_cons_succ]
          refine wpAnyH_take (i := 21) (oi := { dst := some 50, op := Op.binOp BinOp.eql 3 (Operand.tmp 47) (Operand.tmp 49) 3, type := 4, pos := "law.go:50", after := #[{ on := 18, ground := Ground.data }, { on := 20, ground := Ground.data }, { on := 12, ground := Ground.guard }], guard := some (12, false) }) (v := ?_) rfl (by kernel_rfl) (by kernel_rfl) (by kernel_rfl) (fun _ _ _ h => h) (Or.inl ⟨by rfl, ?_⟩) (by assumption) ?_
          case refine_2 =>
            intro w hSw
            (try dsimp only at hSw)
            (try go_simp)
            all_goals (with_reducible rfl)
          try simp only [Act.put, List.setIfInBounds_toArray, List.set_cons_zero, List.set_cons_succ]
          refine wpAnyH_take (i := 22) (oi := { dst := some 51, op := Op.move (Operand.tmp 50), type := 4, pos := "law.go:50", after := #[{ on := 21, ground := Ground.data }, { on := 12, ground := Ground.chain }, { on := 12, ground := Ground.guard }], guard := some (12, false) }) (v := ?_) rfl (by kernel_rfl) (by kernel_rfl) (by kernel_rfl) (fun _ _ _ h => h) (Or.inl ⟨by rfl, ?_⟩) (by assumption) ?_
          case refine_2 =>
            intro w hSw
            (try dsimp only at hSw)
            (try go_simp)
            all_goals (with_reducible rfl)
          try simp only [Act.put, List.setIfInBounds_toArray, List.set_cons_zero, List.set_cons_succ]
          refine wpAnyH_take (i := 23) (oi := { dst := some 52, op := Op.move (Operand.tmp 3), type := 26, pos := "law.go:50", after := #[{ on := 22, ground := Ground.guard }], guard := some (22, true) }) (v := ?_) rfl (by kernel_rfl) (by kernel_rfl) (by kernel_rfl) (fun _ _ _ h => h) (Or.inl ⟨by rfl, ?_⟩) (by assumption) ?_
          case refine_2 =>
            intro w hSw
            (try dsimp only at hSw)
            (try go_simp)
            all_goals (with_reducible rfl)
          try simp only [Act.put, List.setIfInBounds_toArray, List.set_cons_zero, List.set_cons_succ]
          refine wpAnyH_take (i := 24) (oi := { dst := some 53, op := Op.move (Operand.tmp 4), type := 3, pos := "law.go:50", after := #[{ on := 22, ground := Ground.guard }], guard := some (22, true) }) (v := ?_) rfl (by kernel_rfl) (by kernel_rfl) (by kernel_rfl) (fun _ _ _ h => h) (Or.inl ⟨by rfl, ?_⟩) (by assumption) ?_
          case refine_2 =>
            intro w hSw
            (try dsimp only at hSw)
            (try go_simp)
            all_goals (with_reducible rfl)
          try simp only [Act.put, List.setIfInBounds_toArray, List.set_cons_zero, List.set_cons_succ]
          refine wpAnyH_take (i := 25) (oi := { dst := some 54, op := Op.binOp BinOp.sub 3 (Operand.tmp 53) (Operand.const (Value.int IntKind.i64 1)) 3, type := 3, pos := "law.go:50", after := #[{ on := 24, ground := Ground.data }, { on := 22, ground := Ground.guard }], guard := some (22, true) }) (v := ?_) rfl (by kernel_rfl) (by kernel_rfl) (by kernel_rfl) (fun _ _ _ h => h) (Or.inl ⟨by rfl, ?_⟩) (by assumption) ?_
          case refine_2 =>
            intro w hSw
            (try dsimp only at hSw)
            (try go_simp)
            all_goals (with_reducible rfl)
          try simp only [Act.put, List.setIfInBounds_toArray, List.set_cons_zero, List.set_cons_succ]
          refine wpAnyH_take (i := 26) (oi := { dst := some 55, op := Op.indexAddr 26 (Operand.tmp 52) (Operand.tmp 54), type := 0, pos := "law.go:50", after := #[{ on := 23, ground := Ground.data }, { on := 25, ground := Ground.data }, { on := 22, ground := Ground.guard }], guard := some (22, true) }) (v := ?_) rfl (by kernel_rfl) (by kernel_rfl) (by kernel_rfl) (fun _ _ _ h => h) (Or.inl ⟨by rfl, ?_⟩) (by assumption) ?_
          case refine_2 =>
            intro w hSw
            (try dsimp only at hSw)
            (try go_simp)
            all_goals (with_reducible rfl)
          try simp only [Act.put, List.setIfInBounds_toArray, List.set_cons_zero, List.set_cons_succ]
          refine wpAnyH_take (i := 27) (oi := { dst := some 56, op := Op.fieldAddr 30 (Operand.tmp 55) 1, type := 0, pos := "law.go:50", after := #[{ on := 26, ground := Ground.data }, { on := 22, ground := Ground.guard }], guard := some (22, true) }) (v := ?_) rfl (by kernel_rfl) (by kernel_rfl) (by kernel_rfl) (fun _ _ _ h => h) (Or.inl ⟨by rfl, ?_⟩) (by assumption) ?_
          case refine_2 =>
            intro w hSw
            (try dsimp only at hSw)
            (try go_simp)
            all_goals (with_reducible rfl)
          try simp only [Act.put, List.setIfInBounds_toArray, List.set_cons_zero, List.set_cons_succ]
          refine wpAnyH_take (i := 28) (oi := { dst := some 57, op := Op.load 3 (Operand.tmp 56), type := 3, pos := "law.go:50", after := #[{ on := 27, ground := Ground.data }, { on := 22, ground := Ground.guard }], guard := some (22, true) }) (v := ?_) rfl (by kernel_rfl) (by kernel_rfl) (by kernel_rfl) (fun _ _ _ h => h) (Or.inl ⟨by rfl, ?_⟩) (by assumption) ?_
          case refine_2 =>
            intro w hSw
            (try dsimp only at hSw)
            (try go_simp)
            all_goals (with_reducible rfl)
          try simp only [Act.put, List.setIfInBounds_toArray, List.set_cons_zero, List.set_cons_succ]
          refine wpAnyH_take (i := 29) (oi := { dst := some 58, op := Op.fieldAddr 30 (Operand.tmp 5) 1, type := 0, pos := "law.go:50", after := #[{ on := 22, ground := Ground.guard }], guard := some (22, true) }) (v := ?_) rfl (by kernel_rfl) (by kernel_rfl) (by kernel_rfl) (fun _ _ _ h => h) (Or.inl ⟨by rfl, ?_⟩) (by assumption) ?_
          case refine_2 =>
            intro w hSw
            (try dsimp only at hSw)
            (try go_simp)
            all_goals (with_reducible rfl)
          try simp only [Act.put, List.setIfInBounds_toArray, List.set_cons_zero, List.set_cons_succ]
          refine wpAnyH_take (i := 30) (oi := { dst := some 59, op := Op.load 3 (Operand.tmp 58), type := 3, pos := "law.go:50", after := #[{ on := 29, ground := Ground.data }, { on := 22, ground := Ground.guard }], guard := some (22, true) }) (v := ?_) rfl (by kernel_rfl) (by kernel_rfl) (by kernel_rfl) (fun _ _ _ h => h) (Or.inl ⟨by rfl, ?_⟩) (by assumption) ?_
          case refine_2 =>
            intro w hSw
            (try dsimp only at hSw)
            (try go_simp)
            all_goals (with_reducible rfl)
          try simp only [Act.put, List.setIfInBounds_toArray, List.set_cons_zero, List.set_cons_succ]
          refine wpAnyH_take (i := 31) (oi := { dst := some 60, op := Op.binOp BinOp.geq 3 (Operand.tmp 57) (Operand.tmp 59) 3, type := 4, pos := "law.go:50", after := #[{ on := 28, ground := Ground.data }, { on := 30, ground := Ground.data }, { on := 22, ground := Ground.guard }], guard := some (22, true) }) (v := ?_) rfl (by kernel_rfl) (by kernel_rfl) (by kernel_rfl) (fun _ _ _ h => h) (Or.inl ⟨by rfl, ?_⟩) (by assumption) ?_
          case refine_2 =>
            intro w hSw
            (try dsimp only at hSw)
            (try go_simp)
            all_goals (with_reducible rfl)
          try simp only [Act.put, List.setIfInBounds_toArray, List.set_cons_zero, List.set_cons_succ]
          refine wpAnyH_take (i := 32) (oi := { dst := some 61, op := Op.pick (Operand.tmp 51) (Operand.tmp 60) (Operand.const (Value.bool false)), type := 4, pos := "law.go:50", after := #[{ on := 22, ground := Ground.data }, { on := 31, ground := Ground.data }, { on := 12, ground := Ground.guard }], guard := some (12, false) }) (v := ?_) rfl (by kernel_rfl) (by kernel_rfl) (by kernel_rfl) (fun _ _ _ h => h) (Or.inl ⟨by rfl, ?_⟩) (by assumption) ?_
          case refine_2 =>
            intro w hSw
            (try dsimp only at hSw)
            (try go_simp)
            all_goals (with_reducible rfl)
          try simp only [Act.put, List.setIfInBounds_toArray, List.set_cons_zero, List.set_cons_succ]
          refine wpAnyH_take (i := 33) (oi := { dst := some 62, op := Op.pick (Operand.tmp 41) (Operand.const (Value.bool true)) (Operand.tmp 61), type := 4, pos := "law.go:50", after := #[{ on := 12, ground := Ground.data }, { on := 32, ground := Ground.data }, { on := 2, ground := Ground.guard }], guard := some (2, true) }) (v := ?_) rfl (by kernel_rfl) (by kernel_rfl) (by kernel_rfl) (fun _ _ _ h => h) (Or.inl ⟨by rfl, ?_⟩) (by assumption) ?_
          case refine_2 =>
            intro w hSw
            (try dsimp only at hSw)
            (try go_simp)
            all_goals (with_reducible rfl)
          try simp only [Act.put, List.setIfInBounds_toArray, List.set_cons_zero, List.set_cons_succ]
          refine wpAnyH_take (i := 34) (oi := { dst := some 63, op := Op.pick (Operand.tmp 31) (Operand.tmp 62) (Operand.const (Value.bool false)), type := 4, pos := "law.go:50", after := #[{ on := 2, ground := Ground.data }, { on := 33, ground := Ground.data }], guard := none }) (v := ?_) rfl (by kernel_rfl) (by kernel_rfl) (by kernel_rfl) (fun _ _ _ h => h) (Or.inl ⟨by rfl, ?_⟩) (by assumption) ?_
          case refine_2 =>
            intro w hSw
            (try dsimp only at hSw)
            (try go_simp)
            all_goals (with_reducible rfl)
          try simp only [Act.put, List.setIfInBounds_toArray, List.set_cons_zero, List.set_cons_succ]
          refine wpAnyH_done (by kernel_rfl) ?_ _
          clear hHeld
          go_wp2_with fail
          repeat (go_quiet (fail); go_wp2_with fail)
          by_cases hk75 : kindN x = 75
          · have HV2 := HKI.out hk75
            rw [HV.out] at HV2
            subst HV2
            have KX := Lib.hid hk75
            clear hk75
            refine (HAP.out _ (by repeat (first | exact Below.refl _ _ | refine below_drewN ?_ _ | refine Below.drew ?_))).mono ?_
            rintro e w3 ⟨rfl, hb⟩
            obtain ⟨W4, hW4⟩ : ∃ W4, w3.alloc (.cells #[.string ⟨#[]⟩, .int .i64 0, .int .i64 0, .int .i64 0] 23) = W4 := ⟨_, rfl⟩
            have hb4 : Below w3.heap.size w3 W4 := by rw [← hW4]; exact (by repeat (first | exact Below.refl _ _ | (refine Below.setCell ?_ (by first | omega | (simp; done) | (simp; omega) | (simp at *; omega)) _) | (refine Below.alloc ?_ (by first | omega | (simp; done) | (simp; omega) | (simp at *; omega)) _) | refine Below.drew ?_ | (refine below_drewN ?_ _) | (refine Below.trans ?_ (Below.mono (by assumption) (by first | omega | (simp; done) | (simp; omega) | (simp at *; omega))))))
            have bQ4 : Blk W4 w3.heap.size 23 #[.string ⟨#[]⟩, .int .i64 0, .int .i64 0, .int .i64 0] := by rw [← hW4]; exact Blk.new _ _ _ rfl
            have hR3 := hR2.trans (hb.mono hR2.size)
            have hRf := hR3.trans (hb4.mono hR3.size)
            have hRs := hR3.size
            have hRg : Below w1.heap.size w1 ((((W4.setCell ⟨w3.heap.size, 0, none⟩ (.string ⟨#[]⟩)).setCell ⟨w3.heap.size, 1, none⟩ (.int .i64 0)).setCell ⟨w3.heap.size, 2, none⟩ (.int .i64 0)).setCell ⟨w3.heap.size, 3, none⟩ (.int .i64 0)) := (((hRf.setCell (p := ⟨w3.heap.size, 0, none⟩) hRs _).setCell (p := ⟨w3.heap.size, 1, none⟩) hRs _).setCell (p := ⟨w3.heap.size, 2, none⟩) hRs _).setCell (p := ⟨w3.heap.size, 3, none⟩) hRs _
            obtain ⟨q0, q1, q2, q3⟩ := ppos_cells bQ4
            obtain ⟨f0, f1, f2, f3⟩ := ppos_frozen bQ4
            clear hb hb4 m0 m1 p0 p1 p2 p3 hd0 hd1 hx0 hx1
            go_wp2_with fail
            refine (rkind_is x 75 _ KX.out).mono ?_
            rintro e w5 ⟨rfl, rfl⟩
            go_wp2_with fail
            go_roundw
            case rel => exact ⟨k + 1, by omega, by go_num, by first | exact hRf | exact hRg⟩
            case measure => simp [intOf]; omega
          · by_cases h46 : x = 46
            · subst h46
              obtain ⟨q, y, z, c, HV2, hcq, hcnt⟩ := HGO.out hk75
              rw [HV.out] at HV2
              simp only [if_pos, Nat.add_zero] at HV2 hcnt
              subst HV2
              obtain ⟨kk, hkk⟩ : ∃ kk, kindN 46 = kk := ⟨_, rfl⟩
              have KX := Lib.hid hkk
              have k75 : ((kk : Int) == 75) = false := by rw [beq_eq_false_iff_ne]; omega
              have KC := Lib.hid hcq
              obtain ⟨n1, hn1⟩ : ∃ n, (findL s 46).length = n := ⟨_, rfl⟩
              have hn190 : n1 ≤ 90 := by rw [← hn1]; exact find_le s 46
              rw [hn1] at hcnt
              have F1 := Lib.hid hn1
              have F2 := Lib.hid hcnt
              have iw : IntKind.i64.wrap ((n1 : Int) + 1) = (n1 : Int) + 1 := IntWalk.i64_in _ (by omega)
              clear hk75 hcq hkk hn1 hcnt hbyte
              refine (HAP.out _ (by repeat (first | exact Below.refl _ _ | refine below_drewN ?_ _ | refine Below.drew ?_))).mono ?_
              rintro e w3 ⟨rfl, hb⟩
              obtain ⟨W4, hW4⟩ : ∃ W4, w3.alloc (.cells #[.string q, .int .i64 y, .int .i64 z, .int .i64 c] 23) = W4 := ⟨_, rfl⟩
              have hb4 : Below w3.heap.size w3 W4 := by rw [← hW4]; exact (by repeat (first | exact Below.refl _ _ | (refine Below.setCell ?_ (by first | omega | (simp; done) | (simp; omega) | (simp at *; omega)) _) | (refine Below.alloc ?_ (by first | omega | (simp; done) | (simp; omega) | (simp at *; omega)) _) | refine Below.drew ?_ | (refine below_drewN ?_ _) | (refine Below.trans ?_ (Below.mono (by assumption) (by first | omega | (simp; done) | (simp; omega) | (simp at *; omega))))))
              have bQ4 : Blk W4 w3.heap.size 23 #[.string q, .int .i64 y, .int .i64 z, .int .i64 c] := by rw [← hW4]; exact Blk.new _ _ _ rfl
              have hRf := (hR2.trans (hb.mono hR2.size)).trans (hb4.mono (hR2.trans (hb.mono hR2.size)).size)
              have bP4 := (bP2.next hb).next hb4
              clear hb hb4 m0 m1 p0 p1 p2 p3 hd0 hd1 hx0 hx1
              obtain ⟨p0, p1, p2, p3⟩ := ppos_cells bP4
              obtain ⟨q0, q1, q2, q3⟩ := ppos_cells bQ4
              go_wp2_with fail
              refine (rkind_is 46 kk _ KX.out).mono ?_
              rintro e w5 ⟨rfl, rfl⟩
              go_wp2_with fail
              refine (rfind_is s 46 n1 _ F1.out).mono ?_
              rintro e w6 ⟨A6, k6, rfl, _, hb⟩
              have hRg := hRf.trans (hb.mono hRf.size)
              have bQ5 := bQ4.next hb
              clear hb p0 p1 p2 p3 q0 q1 q2 q3
              obtain ⟨q0, q1, q2, q3⟩ := ppos_cells bQ5
              go_wp2_with fail
              refine (rfind_is q 46 n1 _ F2.out).mono ?_
              rintro e w7 ⟨A7, k7, rfl, _, hb⟩
              have hRh := hRg.trans (hb.mono hRg.size)
              have bQ6 := bQ5.next hb
              clear hb q0 q1 q2 q3
              obtain ⟨q0, q1, q2, q3⟩ := ppos_cells bQ6
              go_wp2_with fail
              refine (check_is q y z c 0 _ KC.out).mono ?_
              rintro e w8 ⟨rfl, hb⟩
              go_wp2_with fail
              go_roundw
              case rel => exact ⟨k + 1, by omega, by go_num, hRh.trans (hb.mono hRh.size)⟩
              case measure => simp [intOf]; omega
            · obtain ⟨q, y, z, c, HV2, hcq, hcnt⟩ := HGO.out hk75
              rw [HV.out] at HV2
              simp only [if_neg h46] at HV2 hcnt
              subst HV2
              obtain ⟨kk, hkk⟩ : ∃ kk, kindN x = kk := ⟨_, rfl⟩
              have KX := Lib.hid hkk
              have k75 : ((kk : Int) == 75) = false := by rw [beq_eq_false_iff_ne]; omega
              have KC := Lib.hid hcq
              obtain ⟨n1, hn1⟩ : ∃ n, (findL s 46).length = n := ⟨_, rfl⟩
              have hn190 : n1 ≤ 90 := by rw [← hn1]; exact find_le s 46
              rw [hn1] at hcnt
              have F1 := Lib.hid hn1
              have F2 := Lib.hid hcnt
              have iw : IntKind.i64.wrap ((n1 : Int) + 1) = (n1 : Int) + 1 := IntWalk.i64_in _ (by omega)
              have x0 : ((x : Int) == 0) = false := by rw [beq_eq_false_iff_ne]; omega
              have x1 : ((x : Int) != 0) = true := by rw [bne_iff_ne]; omega
              have x46 : ((x : Int) == 46) = false := by rw [beq_eq_false_iff_ne]; omega
              clear h46
              clear hk75 hcq hkk hn1 hcnt hbyte
              refine (HAP.out _ (by repeat (first | exact Below.refl _ _ | refine below_drewN ?_ _ | refine Below.drew ?_))).mono ?_
              rintro e w3 ⟨rfl, hb⟩
              obtain ⟨W4, hW4⟩ : ∃ W4, w3.alloc (.cells #[.string q, .int .i64 y, .int .i64 z, .int .i64 c] 23) = W4 := ⟨_, rfl⟩
              have hb4 : Below w3.heap.size w3 W4 := by rw [← hW4]; exact (by repeat (first | exact Below.refl _ _ | (refine Below.setCell ?_ (by first | omega | (simp; done) | (simp; omega) | (simp at *; omega)) _) | (refine Below.alloc ?_ (by first | omega | (simp; done) | (simp; omega) | (simp at *; omega)) _) | refine Below.drew ?_ | (refine below_drewN ?_ _) | (refine Below.trans ?_ (Below.mono (by assumption) (by first | omega | (simp; done) | (simp; omega) | (simp at *; omega))))))
              have bQ4 : Blk W4 w3.heap.size 23 #[.string q, .int .i64 y, .int .i64 z, .int .i64 c] := by rw [← hW4]; exact Blk.new _ _ _ rfl
              have hRf := (hR2.trans (hb.mono hR2.size)).trans (hb4.mono (hR2.trans (hb.mono hR2.size)).size)
              have bP4 := (bP2.next hb).next hb4
              clear hb hb4 m0 m1 p0 p1 p2 p3 hd0 hd1 hx0 hx1
              obtain ⟨p0, p1, p2, p3⟩ := ppos_cells bP4
              obtain ⟨q0, q1, q2, q3⟩ := ppos_cells bQ4
              go_wp2_with fail
              refine (rkind_is x kk _ KX.out).mono ?_
              rintro e w5 ⟨rfl, rfl⟩
              go_wp2_with fail
              refine (rfind_is s 46 n1 _ F1.out).mono ?_
              rintro e w6 ⟨A6, k6, rfl, _, hb⟩
              have hRg := hRf.trans (hb.mono hRf.size)
              have bQ5 := bQ4.next hb
              clear hb p0 p1 p2 p3 q0 q1 q2 q3
              obtain ⟨q0, q1, q2, q3⟩ := ppos_cells bQ5
              go_wp2_with fail
              refine (rfind_is q 46 (n1 + 1) _ F2.out).mono ?_
              rintro e w7 ⟨A7, k7, rfl, _, hb⟩
              have hRh := hRg.trans (hb.mono hRg.size)
              have bQ6 := bQ5.next hb
              clear hb q0 q1 q2 q3
              obtain ⟨q0, q1, q2, q3⟩ := ppos_cells bQ6
              go_wp2_with fail
              refine (check_is q y z c 0 _ KC.out).mono ?_
              rintro e w8 ⟨rfl, hb⟩
              go_wp2_with fail
              go_roundw
              case rel => exact ⟨k + 1, by omega, by go_num, hRh.trans (hb.mono hRh.size)⟩
              case measure => simp [intOf]; omega
    · obtain rfl : k = m := by omega
      obtain ⟨p0, p1, p2, p3⟩ := ppos_cells (bP.next hR)
      by_cases hk0 : ke = 0
      · subst hk0
        go_wp2_with fail
        refine (check_is s side clock full 0 _ HKE.out).mono ?_
        rintro e w2 ⟨rfl, hb⟩
        have hR2 := hR.trans (hb.mono hR.size)
        clear hb p0 p1 p2 p3
        go_wp2_with fail
        refine (live6_any _ (hT.next hR2)).mono ?_
        rintro e w3 ⟨rfl, hb⟩
        go_wp2
        go_ret
        exact ⟨rfl, (hB.trans (hR2.mono hB.size)).trans (hb.mono (hB.trans (hR2.mono hB.size)).size)⟩
      · obtain rfl := HEM.out hk0
        have e0 : (ke == 0) = false := by rw [beq_eq_false_iff_ne]; exact hk0
        clear hk0
        go_wp2_with fail
        refine (check_is s side clock full ke _ HKE.out).mono ?_
        rintro e w2 ⟨rfl, hb⟩
        have hR2 := hR.trans (hb.mono hR.size)
        clear hb p0 p1 p2 p3
        go_wp2_with fail
        refine (live6_any _ (hT.next hR2)).mono ?_
        rintro e w3 ⟨rfl, hb⟩
        go_wp2
        go_ret
        exact ⟨rfl, (hB.trans (hR2.mono hB.size)).trans (hb.mono (hB.trans (hR2.mono hB.size)).size)⟩
theorem walk (s : ByteArray) (side clock full : Int) (w : World) (hT : Tab w) : Calls Tryd.prog 5 #[.agg #[.string s, .int .i64 side, .int .i64 clock, .int .i64 full]] w (Gives w (.bool true)) := by
  by_cases hs : s.size ≤ 200
  · exact small s side clock full w hT hs
  · exact large s side clock full w hT (by omega)
end Go.Proofs.YtbfkkedcjodceaaDoor.pright
