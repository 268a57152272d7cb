/- A move that gives check chases nothing, one that gives none what All tells: the call answers true. -/
import Derived.Test.YtnpenlmlggpemaaGreatDoorChaseV
import Derived.Test.YtnpenlmlggpemaaGreatDoorChaseN
namespace Go.Proofs.YtnpenlmlggpemaaGreatDoor.ccheck
open Go.RowKit Go.Shelf
open M (S)

abbrev HeldC (w W : World) (s : ByteArray) (y : Int) (gp gx : Nat) (c : Bool) (A : Option Addr) (n a : Nat) : Prop := W.cell? ⟨gp, 0, none⟩ = some (.string s) ∧ W.cell? ⟨gp, 1, none⟩ = some (.int .i64 y) ∧ W.cell? ⟨gx, 0, none⟩ = some (.bool c) ∧ W.cell? ⟨gx, 1, none⟩ = some (.slice A n a) ∧ Tab W ∧ Below w.heap.size w W
theorem held_start {w W : World} {s : ByteArray} {y z u : Int} {gp gx : Nat} {c : Bool} {A : Option Addr} {n a : Nat} (hP : Blk W gp 31 #[.string s, .int .i64 y, .int .i64 z, .int .i64 u]) (hX : Blk W gx 43 #[.bool c, .slice A n a]) (hT : Tab W) (hB : Below w.heap.size w W) : HeldC w W.drew s y gp gx c A n a := ⟨(hP.next (Below.refl _ _).drew).cell 0, (hP.next (Below.refl _ _).drew).cell 1, (hX.next (Below.refl _ _).drew).cell 0, (hX.next (Below.refl _ _).drew).cell 1, hT.next (Below.refl _ _).drew, hB.drew⟩
theorem held_next {w W W' : World} {s : ByteArray} {y : Int} {gp gx : Nat} {c : Bool} {A : Option Addr} {n a : Nat} (h : W.cell? ⟨gp, 0, none⟩ = some (.string s) ∧ W.cell? ⟨gp, 1, none⟩ = some (.int .i64 y) ∧ W.cell? ⟨gx, 0, none⟩ = some (.bool c) ∧ W.cell? ⟨gx, 1, none⟩ = some (.slice A n a) ∧ Tab W ∧ Below w.heap.size w W) (hb : Below W.heap.size W W') : HeldC w W' s y gp gx c A n a := by
  obtain ⟨h0, h1, h2, h3, h4, h5⟩ := h
  exact ⟨(hb.cell (p := ⟨gp, 0, none⟩) (cell_lt h0)).trans h0, (hb.cell (p := ⟨gp, 1, none⟩) (cell_lt h1)).trans h1, (hb.cell (p := ⟨gx, 0, none⟩) (cell_lt h2)).trans h2, (hb.cell (p := ⟨gx, 1, none⟩) (cell_lt h3)).trans h3, h4.next hb, h5.trans (hb.mono h5.size)⟩
theorem held_tab {w W : World} {s : ByteArray} {y : Int} {gp gx : Nat} {c : Bool} {A : Option Addr} {n a : Nat} (h : W.cell? ⟨gp, 0, none⟩ = some (.string s) ∧ W.cell? ⟨gp, 1, none⟩ = some (.int .i64 y) ∧ W.cell? ⟨gx, 0, none⟩ = some (.bool c) ∧ W.cell? ⟨gx, 1, none⟩ = some (.slice A n a) ∧ Tab W ∧ Below w.heap.size w W) : Tab W := h.2.2.2.2.1
theorem held_below {w W : World} {s : ByteArray} {y : Int} {gp gx : Nat} {c : Bool} {A : Option Addr} {n a : Nat} (h : W.cell? ⟨gp, 0, none⟩ = some (.string s) ∧ W.cell? ⟨gp, 1, none⟩ = some (.int .i64 y) ∧ W.cell? ⟨gx, 0, none⟩ = some (.bool c) ∧ W.cell? ⟨gx, 1, none⟩ = some (.slice A n a) ∧ Tab W ∧ Below w.heap.size w W) : Below w.heap.size w W := h.2.2.2.2.2
theorem all_c (s : ByteArray) (side : Int) (l : List Int) (n : Nat) (w : World) (hT : Tab w) (h : Hid (chasedL s side = l ∧ l.length = n)) : Calls Tryz.prog 27 #[.string s, .int .i64 side] w fun e w' => ∃ A c, e = .returned (.slice A n c) ∧ Rd w' A (l.map iv) ∧ Below w.heap.size w w' := (all_is s side w hT).mono fun e w' ⟨v, he, ho, hb⟩ => by
  obtain ⟨h1, h2⟩ := h.out
  rw [h1] at ho
  obtain ⟨A, c, rfl⟩ := own_slice ho
  rw [h2] at he
  exact ⟨A, c, he, Rd.own ho, hb⟩
theorem cof_n (s : ByteArray) (y z u : Int) (c : Bool) (l : List Int) (n : Nat) (w : World) (hT : Tab w) (hc : plyC s y z u = c) (hl : plyL s y z u = l) (hk : wellN s y z u = 0) (hn : l.length = n) : Calls Tryz.prog 29 #[.agg #[.string s, .int .i64 y, .int .i64 z, .int .i64 u]] w fun e w' => ∃ A cap, e = .returned (.tuple #[.agg #[.bool c, .slice A n cap], .int .i64 0]) ∧ Rd w' A (l.map iv) ∧ Below w.heap.size w w' := by
  subst hn
  exact cof_is s y z u c l 0 w hT hc hl hk
theorem same_hid (A B : Option Addr) (l : List Int) (n c d : Nat) (w : World) (hx : Rd w A (l.map iv)) (hy : Rd w B (l.map iv)) (h : Hid (l.length = n ∧ n ≤ 1000000)) : Calls Tryz.prog 26 #[.slice A n c, .slice B n d] w (Gives w (.bool true)) := ints_true A B l n c d w hx hy h.out.1 h.out.2
set_option maxRecDepth 100000 in
set_option maxHeartbeats 2000000 in
theorem large (s : ByteArray) (y z u : Int) (w : World) (hT : Tab w) (hs : 200 < s.size) : Calls Tryz.prog 10 #[.agg #[.string s, .int .i64 y, .int .i64 z, .int .i64 u]] w (Gives w (.bool true)) := by
  unfold Gives
  have hd : decide (200 < (s.size : Int)) = true := by simp; omega
  clear hs
  go_enter Tryz.func10, Tryz.ntmps10
  go_wp2_with fail
  obtain ⟨W0, hW0⟩ : ∃ W0, w.alloc (.cells #[.string s, .int .i64 y, .int .i64 z, .int .i64 u] 31) = W0 := ⟨_, rfl⟩
  have hB : Below w.heap.size w W0 := by rw [← hW0]; exact below_new _ _
  replace hT := hT.below hB hT.lt
  rw [hW0]
  refine (live16_any _ hT).mono ?_
  rintro e w9 ⟨rfl, hb⟩
  go_wp2
  go_ret
  exact ⟨rfl, hB.trans (hb.mono hB.size)⟩
set_option maxRecDepth 100000 in
set_option maxHeartbeats 2000000 in
theorem ill (s : ByteArray) (y z u : Int) (w : World) (hT : Tab w) (hs : s.size ≤ 200) (k : Int) (hk : wellN s y z u = k) (h : k ≠ 0) : Calls Tryz.prog 10 #[.agg #[.string s, .int .i64 y, .int .i64 z, .int .i64 u]] w (Gives w (.bool true)) := by
  unfold Gives
  have hd : decide (200 < (s.size : Int)) = false := by simp; omega
  clear hs
  obtain ⟨W0, hW0⟩ : ∃ W0, w.alloc (.cells #[.string s, .int .i64 y, .int .i64 z, .int .i64 u] 31) = W0 := ⟨_, rfl⟩
  have hB : Below w.heap.size w W0 := by rw [← hW0]; exact below_new _ _
  have bP : Blk W0 w.heap.size 31 #[.string s, .int .i64 y, .int .i64 z, .int .i64 u] := by rw [← hW0]; exact Blk.new _ _ _ rfl
  replace hT := hT.below hB hT.lt
  have HW := Lib.hid hW0
  obtain ⟨p0, p1, p2, p3⟩ := ppos_cells bP
  have HK := Lib.hid hk
  have k0 : (k != 0) = true := by rw [bne_iff_ne]; exact h
  clear hW0 hk h
  go_enter Tryz.func10, Tryz.ntmps10
  go_wp2_with fail
  rw [HW.out]
  refine (rwell_is s y z u k _ HK.out).mono ?_
  rintro e w1 ⟨rfl, hb⟩
  replace hT := hT.next hb
  replace hB := hB.trans (hb.mono hB.size)
  clear p0 p1 p2 p3 hb
  go_wp2_with fail
  refine (live16_any _ hT).mono ?_
  rintro e w9 ⟨rfl, hb⟩
  go_wp2
  go_ret
  exact ⟨rfl, hB.trans (hb.mono hB.size)⟩
set_option maxRecDepth 100000 in
set_option maxHeartbeats 2000000 in
theorem checks (s : ByteArray) (y z u : Int) (w : World) (hT : Tab w) (hs : s.size ≤ 200) (hk : wellN s y z u = 0) (hi : inB s y = true) : Calls Tryz.prog 10 #[.agg #[.string s, .int .i64 y, .int .i64 z, .int .i64 u]] w (Gives w (.bool true)) := by
  unfold Gives
  have hd : decide (200 < (s.size : Int)) = false := by simp; omega
  clear hs
  obtain ⟨W0, hW0⟩ : ∃ W0, w.alloc (.cells #[.string s, .int .i64 y, .int .i64 z, .int .i64 u] 31) = W0 := ⟨_, rfl⟩
  have hB : Below w.heap.size w W0 := by rw [← hW0]; exact below_new _ _
  have bP : Blk W0 w.heap.size 31 #[.string s, .int .i64 y, .int .i64 z, .int .i64 u] := by rw [← hW0]; exact Blk.new _ _ _ rfl
  replace hT := hT.below hB hT.lt
  have HW := Lib.hid hW0
  obtain ⟨p0, p1, p2, p3⟩ := ppos_cells bP
  have HK := Lib.hid hk
  have HI := Lib.hid hi
  have HC := Lib.hid (ply_check hk hi).1
  have HL := Lib.hid (ply_check hk hi).2
  clear hW0 hk hi
  go_enter Tryz.func10, Tryz.ntmps10
  go_wp2_with fail
  rw [HW.out]
  refine (rwell_is s y z u 0 _ HK.out).mono ?_
  rintro e w1 ⟨rfl, hb⟩
  replace bP := bP.next hb
  replace hT := hT.next hb
  replace hB := hB.trans (hb.mono hB.size)
  clear p0 p1 p2 p3 hb
  obtain ⟨p0, p1, p2, p3⟩ := ppos_cells bP
  go_wp2_with fail
  refine (cof_n s y z u true [] 0 _ hT HC.out HL.out HK.out rfl).mono ?_
  rintro e w2 ⟨A, a1, rfl, hr, hb⟩
  replace bP := bP.next hb
  replace hT := hT.next hb
  replace hB := hB.trans (hb.mono hB.size)
  clear p0 p1 p2 p3 hb
  obtain ⟨p0, p1, p2, p3⟩ := ppos_cells bP
  have hgp := bP.lt
  obtain ⟨U, hU⟩ : ∃ U, w2.alloc (.cells #[.bool true, .slice A 0 a1] 43) = U := ⟨_, rfl⟩
  have HU := Lib.hid hU
  have bX : Blk U w2.heap.size 43 #[.bool true, .slice A 0 a1] := by rw [← hU]; exact Blk.new _ _ _ rfl
  have hbU : Below w2.heap.size w2 U := by rw [← hU]; exact below_new _ _
  have hSU : HeldC w U.drew s y w.heap.size w2.heap.size true A 0 a1 := held_start (bP.next hbU) bX (hT.next hbU) (hB.trans (hbU.mono hB.size))
  replace hr := (hr.next hbU).next (Below.refl _ _).drew
  clear p0 p1 p2 p3 hgp hU bP bX hT hB hbU
  go_wp2_with fail
  rw [HU.out]
  go_region_held3 (fun W => W.cell? ⟨w.heap.size, 0, none⟩ = some (.string s) ∧ W.cell? ⟨w.heap.size, 1, none⟩ = some (.int .i64 y) ∧ W.cell? ⟨w2.heap.size, 0, none⟩ = some (.bool true) ∧ W.cell? ⟨w2.heap.size, 1, none⟩ = some (.slice A 0 a1) ∧ Tab W ∧ Below w.heap.size w W)
    (first | exact hSU | exact held_next (by assumption) hb)
    (first | (go_at_call 37; refine (in_is s y true _ ?_ HI.out).mono ?_; (exact held_tab (by assumption)); rintro e w3 ⟨rfl, hb⟩; replace hr := hr.next hb))
  all_goals
    have hS := ‹HeldC w w3 s y w.heap.size w2.heap.size true A 0 a1›
    obtain ⟨p0, p1, x0, x1, hT, hB⟩ := hS
    go_wp2_with fail
    refine (live16_any _ hT).mono ?_
    rintro e w9 ⟨rfl, hb⟩
    go_wp2
    go_ret
    exact ⟨rfl, hB.trans (hb.mono hB.size)⟩
set_option maxRecDepth 100000 in
set_option maxHeartbeats 2000000 in
theorem quiet (s : ByteArray) (y z u : Int) (w : World) (hT : Tab w) (hs : s.size ≤ 200) (o : Int) (l : List Int) (hk : wellN s y z u = 0) (hi : inB s y = false) (ho : 1 - y = o) (hl : chasedL s o = l) (hy0 : 0 ≤ y) (hy1 : y ≤ 1) (n : Nat) (hn : l.length = n) (hln : n ≤ 1000000) : Calls Tryz.prog 10 #[.agg #[.string s, .int .i64 y, .int .i64 z, .int .i64 u]] w (Gives w (.bool true)) := by
  unfold Gives
  have hd : decide (200 < (s.size : Int)) = false := by simp; omega
  clear hs
  obtain ⟨W0, hW0⟩ : ∃ W0, w.alloc (.cells #[.string s, .int .i64 y, .int .i64 z, .int .i64 u] 31) = W0 := ⟨_, rfl⟩
  have hB : Below w.heap.size w W0 := by rw [← hW0]; exact below_new _ _
  have bP : Blk W0 w.heap.size 31 #[.string s, .int .i64 y, .int .i64 z, .int .i64 u] := by rw [← hW0]; exact Blk.new _ _ _ rfl
  replace hT := hT.below hB hT.lt
  have HW := Lib.hid hW0
  obtain ⟨p0, p1, p2, p3⟩ := ppos_cells bP
  have HK := Lib.hid hk
  have HI := Lib.hid hi
  have HC := Lib.hid (ply_quiet hk hi).1
  have HL : Hid (plyL s y z u = l) := by show _ = _; rw [(ply_quiet hk hi).2, ho, hl]
  have HA : Hid (chasedL s o = l ∧ l.length = n) := ⟨hl, hn⟩
  have HLN : Hid (l.length = n ∧ n ≤ 1000000) := ⟨hn, hln⟩
  have ho0 : 0 ≤ o := by omega
  have ho1 : o ≤ 1 := by omega
  clear hl hn hln
  clear hW0 hk hi
  go_enter Tryz.func10, Tryz.ntmps10
  go_wp2_with fail
  rw [HW.out]
  refine (rwell_is s y z u 0 _ HK.out).mono ?_
  rintro e w1 ⟨rfl, hb⟩
  replace bP := bP.next hb
  replace hT := hT.next hb
  replace hB := hB.trans (hb.mono hB.size)
  clear p0 p1 p2 p3 hb
  obtain ⟨p0, p1, p2, p3⟩ := ppos_cells bP
  go_wp2_with fail
  refine (cof_n s y z u false l n _ hT HC.out HL.out HK.out HLN.out.1).mono ?_
  rintro e w2 ⟨A, a1, rfl, hr, hb⟩
  replace bP := bP.next hb
  replace hT := hT.next hb
  replace hB := hB.trans (hb.mono hB.size)
  clear p0 p1 p2 p3 hb
  obtain ⟨p0, p1, p2, p3⟩ := ppos_cells bP
  have hgp := bP.lt
  obtain ⟨U, hU⟩ : ∃ U, w2.alloc (.cells #[.bool false, .slice A n a1] 43) = U := ⟨_, rfl⟩
  have HU := Lib.hid hU
  have bX : Blk U w2.heap.size 43 #[.bool false, .slice A n a1] := by rw [← hU]; exact Blk.new _ _ _ rfl
  have hbU : Below w2.heap.size w2 U := by rw [← hU]; exact below_new _ _
  have hSU : HeldC w U.drew s y w.heap.size w2.heap.size false A n a1 := held_start (bP.next hbU) bX (hT.next hbU) (hB.trans (hbU.mono hB.size))
  replace hr := (hr.next hbU).next (Below.refl _ _).drew
  clear p0 p1 p2 p3 hgp hU bP bX hT hB hbU
  go_wp2_with fail
  rw [HU.out]
  go_region_held3 (fun W => W.cell? ⟨w.heap.size, 0, none⟩ = some (.string s) ∧ W.cell? ⟨w.heap.size, 1, none⟩ = some (.int .i64 y) ∧ W.cell? ⟨w2.heap.size, 0, none⟩ = some (.bool false) ∧ W.cell? ⟨w2.heap.size, 1, none⟩ = some (.slice A n a1) ∧ Tab W ∧ Below w.heap.size w W)
    (first | exact hSU | exact held_next (by assumption) hb)
    (first | (go_at_call 37; refine (in_is s y false _ ?_ HI.out).mono ?_; (exact held_tab (by assumption)); rintro e w3 ⟨rfl, hb⟩; replace hr := hr.next hb))
  all_goals
    have hS := ‹HeldC w w3 s y w.heap.size w2.heap.size false A n a1›
    obtain ⟨p0, p1, x0, x1, hT, hB⟩ := hS
    go_wp2_with fail
    have hwo : IntKind.i64.wrap o = o := by
      rw [IntKind.wrap_i64]
      omega
    have hSW : HeldC w w3.drew s y w.heap.size w2.heap.size false A n a1 := held_next ⟨p0, p1, x0, x1, hT, hB⟩ (Below.refl _ _).drew
    replace hr := hr.next (Below.refl _ _).drew
    clear p0 p1 x0 x1 hT hB
    refine wp_region_held_drew (S := fun W => W.cell? ⟨w.heap.size, 0, none⟩ = some (.string s) ∧ W.cell? ⟨w.heap.size, 1, none⟩ = some (.int .i64 y) ∧ W.cell? ⟨w2.heap.size, 0, none⟩ = some (.bool false) ∧ W.cell? ⟨w2.heap.size, 1, none⟩ = some (.slice A n a1) ∧ Tab W ∧ Below w.heap.size w W) (by kernel_rfl) (hSW) (fun hHeld => ?_)
    refine wpAnyH_take (i := 0) (oi := { dst := some 41, op := Op.fieldAddr 43 (Operand.tmp 3) 1, type := 0, pos := "law.go:109", after := #[], guard := none }) (v := ?_) rfl (by kernel_rfl) (by kernel_rfl) (by kernel_rfl) (fun _ _ _ h => h) (Or.inl ⟨by rfl, ?_⟩) (by assumption) ?_
    case refine_2 =>
      intro w hSw
      (try dsimp only at hSw)
      (try go_simp)
      all_goals (with_reducible rfl)
    (try dsimp only [Act.put]); (try simp only [List.setIfInBounds_toArray, List.set_cons_zero, List.set_cons_succ])
    refine wpAnyH_take (i := 1) (oi := { dst := some 42, op := Op.load 40 (Operand.tmp 41), type := 40, pos := "law.go:109", after := #[{ on := 0, ground := Ground.data }], guard := none }) (v := ?_) rfl (by kernel_rfl) (by kernel_rfl) (by kernel_rfl) (fun _ _ _ h => h) (Or.inl ⟨by rfl, ?_⟩) (by assumption) ?_
    case refine_2 =>
      intro w hSw
      (try dsimp only at hSw)
      (try go_simp)
      all_goals (with_reducible rfl)
    (try dsimp only [Act.put]); (try simp only [List.setIfInBounds_toArray, List.set_cons_zero, List.set_cons_succ])
    refine wpAnyH_take (i := 2) (oi := { dst := some 43, op := Op.fieldAddr 31 (Operand.tmp 1) 0, type := 0, pos := "law.go:109", after := #[], guard := none }) (v := ?_) rfl (by kernel_rfl) (by kernel_rfl) (by kernel_rfl) (fun _ _ _ h => h) (Or.inl ⟨by rfl, ?_⟩) (by assumption) ?_
    case refine_2 =>
      intro w hSw
      (try dsimp only at hSw)
      (try go_simp)
      all_goals (with_reducible rfl)
    (try dsimp only [Act.put]); (try simp only [List.setIfInBounds_toArray, List.set_cons_zero, List.set_cons_succ])
    refine wpAnyH_take (i := 3) (oi := { dst := some 44, op := Op.load 9 (Operand.tmp 43), type := 9, pos := "law.go:109", after := #[{ on := 2, ground := Ground.data }], guard := none }) (v := ?_) rfl (by kernel_rfl) (by kernel_rfl) (by kernel_rfl) (fun _ _ _ h => h) (Or.inl ⟨by rfl, ?_⟩) (by assumption) ?_
    case refine_2 =>
      intro w hSw
      (try dsimp only at hSw)
      (try go_simp)
      all_goals (with_reducible rfl)
    (try dsimp only [Act.put]); (try simp only [List.setIfInBounds_toArray, List.set_cons_zero, List.set_cons_succ])
    refine wpAnyH_take (i := 4) (oi := { dst := some 45, op := Op.fieldAddr 31 (Operand.tmp 1) 1, type := 0, pos := "law.go:109", after := #[], guard := none }) (v := ?_) rfl (by kernel_rfl) (by kernel_rfl) (by kernel_rfl) (fun _ _ _ h => h) (Or.inl ⟨by rfl, ?_⟩) (by assumption) ?_
    case refine_2 =>
      intro w hSw
      (try dsimp only at hSw)
      (try go_simp)
      all_goals (with_reducible rfl)
    (try dsimp only [Act.put]); (try simp only [List.setIfInBounds_toArray, List.set_cons_zero, List.set_cons_succ])
    refine wpAnyH_take (i := 5) (oi := { dst := some 46, op := Op.load 3 (Operand.tmp 45), type := 3, pos := "law.go:109", after := #[{ on := 4, ground := Ground.data }], guard := none }) (v := ?_) rfl (by kernel_rfl) (by kernel_rfl) (by kernel_rfl) (fun _ _ _ h => h) (Or.inl ⟨by rfl, ?_⟩) (by assumption) ?_
    case refine_2 =>
      intro w hSw
      (try dsimp only at hSw)
      (try go_simp)
      all_goals (with_reducible rfl)
    (try dsimp only [Act.put]); (try simp only [List.setIfInBounds_toArray, List.set_cons_zero, List.set_cons_succ])
    refine wpAnyH_take (i := 6) (oi := { dst := some 47, op := Op.binOp BinOp.sub 3 (Operand.const (Value.int IntKind.i64 1)) (Operand.tmp 46) 3, type := 3, pos := "law.go:109", after := #[{ on := 5, ground := Ground.data }], guard := none }) (v := ?_) rfl (by kernel_rfl) (by kernel_rfl) (by kernel_rfl) (fun _ _ _ h => h) (Or.inl ⟨by rfl, ?_⟩) (by assumption) ?_
    case refine_2 =>
      intro w hSw
      (try dsimp only at hSw)
      (try go_simp)
      all_goals (with_reducible rfl)
    (try dsimp only [Act.put]); (try simp only [List.setIfInBounds_toArray, List.set_cons_zero, List.set_cons_succ])
    refine wpAnyH_ready (rs := [7]) (by kernel_rfl) (by simp) (AllReadyH.cons (o := { dst := some 48, op := Op.call { callee := Callee.value (Operand.func 27), args := #[Operand.tmp 44, Operand.tmp 47], argTypes := #[9, 3] }, type := 40, pos := "law.go:109", after := #[{ on := 3, ground := Ground.data }, { on := 6, ground := Ground.data }], guard := none }) rfl (fun K hK => ?_) AllReadyH.nil)
    go_simp
    (try rw [hwo]); refine (all_c s o l n _ (held_tab hHeld) HA).mono ?_; rintro e w4 ⟨A2, a2, rfl, hr2, hb⟩; replace hr := hr.next hb
    refine hK.out _ _ ?_ (fun hHeld => ?_)
    · exact held_next hHeld hb
    clear hK K
    refine wpAnyH_ready (rs := [8]) (by kernel_rfl) (by simp) (AllReadyH.cons (o := { dst := some 49, op := Op.call { callee := Callee.value (Operand.func 26), args := #[Operand.tmp 42, Operand.tmp 48], argTypes := #[40, 40] }, type := 4, pos := "law.go:109", after := #[{ on := 1, ground := Ground.data }, { on := 7, ground := Ground.data }, { on := 7, ground := Ground.chain }], guard := none }) rfl (fun K hK => ?_) AllReadyH.nil)
    go_simp
    refine (same_hid _ _ l n _ _ _ hr hr2 HLN).mono ?_; rintro e w5 ⟨rfl, hb⟩
    refine hK.out _ _ ?_ (fun hHeld => ?_)
    · exact held_next hHeld hb
    clear hK K
    refine wpAnyH_take (i := 9) (oi := { dst := some 50, op := Op.move (Operand.tmp 49), type := 4, pos := "law.go:109", after := #[{ on := 8, ground := Ground.data }, { on := 8, ground := Ground.chain }], guard := none }) (v := ?_) rfl (by kernel_rfl) (by kernel_rfl) (by kernel_rfl) (fun _ _ _ h => h) (Or.inl ⟨by rfl, ?_⟩) (by assumption) ?_
    case refine_2 =>
      intro w hSw
      (try dsimp only at hSw)
      (try go_simp)
      all_goals (with_reducible rfl)
    (try dsimp only [Act.put]); (try simp only [List.setIfInBounds_toArray, List.set_cons_zero, List.set_cons_succ])
    refine wpAnyH_ready (rs := [10]) (by kernel_rfl) (by simp) (AllReadyH.cons (o := { dst := some 51, op := Op.call { callee := Callee.value (Operand.func 23), args := #[], argTypes := #[] }, type := 4, pos := "law.go:109", after := #[{ on := 9, ground := Ground.chain }, { on := 9, ground := Ground.guard }], guard := some (9, true) }) rfl (fun K hK => ?_) AllReadyH.nil)
    go_simp
    refine (live16_any _ (held_tab hHeld)).mono ?_; rintro e w6 ⟨rfl, hb⟩
    refine hK.out _ _ ?_ (fun hHeld => ?_)
    · exact held_next hHeld hb
    clear hK K
    refine wpAnyH_take (i := 11) (oi := { dst := some 52, op := Op.pick (Operand.tmp 50) (Operand.tmp 51) (Operand.const (Value.bool false)), type := 4, pos := "law.go:109", after := #[{ on := 9, ground := Ground.data }, { on := 10, ground := Ground.data }], guard := none }) (v := ?_) rfl (by kernel_rfl) (by kernel_rfl) (by kernel_rfl) (fun _ _ _ h => h) (Or.inl ⟨by rfl, ?_⟩) (by assumption) ?_
    case refine_2 =>
      intro w hSw
      (try dsimp only at hSw)
      (try go_simp)
      all_goals (with_reducible rfl)
    (try dsimp only [Act.put]); (try simp only [List.setIfInBounds_toArray, List.set_cons_zero, List.set_cons_succ])
    refine wpAnyH_take (i := 12) (oi := { dst := some 2, op := Op.assign (Operand.tmp 52), type := 4, pos := "law.go:109", after := #[{ on := 11, ground := Ground.data }, { on := 10, ground := Ground.chain }, { on := 0, ground := Ground.phase }, { on := 1, ground := Ground.phase }, { on := 2, ground := Ground.phase }, { on := 3, ground := Ground.phase }, { on := 4, ground := Ground.phase }, { on := 5, ground := Ground.phase }, { on := 6, ground := Ground.phase }, { on := 7, ground := Ground.phase }, { on := 8, ground := Ground.phase }, { on := 9, ground := Ground.phase }, { on := 10, ground := Ground.phase }, { on := 11, ground := Ground.phase }], guard := none }) (v := ?_) rfl (by kernel_rfl) (by kernel_rfl) (by kernel_rfl) (fun _ _ _ h => h) (Or.inl ⟨by rfl, ?_⟩) (by assumption) ?_
    case refine_2 =>
      intro w hSw
      (try dsimp only at hSw)
      (try go_simp)
      all_goals (with_reducible rfl)
    (try dsimp only [Act.put]); (try simp only [List.setIfInBounds_toArray, List.set_cons_zero, List.set_cons_succ])
    refine wpAnyH_done (by kernel_rfl) ?_ _
    all_goals
      go_wp2
      go_ret
      exact ⟨rfl, held_below hHeld⟩
theorem walk (s : ByteArray) (y z u : Int) (w : World) (hT : Tab w) : Calls Tryz.prog 10 #[.agg #[.string s, .int .i64 y, .int .i64 z, .int .i64 u]] w (Gives w (.bool true)) := by
  by_cases hs : s.size ≤ 200
  · by_cases hk : wellN s y z u = 0
    · cases hi : inB s y
      · have hsd := (check_other (well_zero hk).1).1
        exact quiet s y z u w hT hs _ _ hk hi rfl rfl (by omega) (by omega) _ rfl (by rw [chasedL_map, List.length_map]; exact Nat.le_trans (chasedN_len _ _) (by decide))
      · exact checks s y z u w hT hs hk hi
    · exact ill s y z u w hT hs _ rfl hk
  · exact large s y z u w hT (by omega)
end Go.Proofs.YtnpenlmlggpemaaGreatDoor.ccheck
