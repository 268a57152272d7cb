/- The document's own examples of layer 10 hold. -/
import Derived.Test.YtocdmnkmepplcaaKeyC
namespace Go.Proofs.Ytocdmnkmepplcaa
open Go.RowKit Go.Shelf
open M (S)

def startK : ByteArray := ⟨#[82, 78, 66, 65, 75, 65, 66, 78, 82, 46, 46, 46, 46, 46, 46, 46, 46, 46, 46, 67, 46, 46, 46, 46, 46, 67, 46, 80, 46, 80, 46, 80, 46, 80, 46, 80, 46, 46, 46, 46, 46, 46, 46, 46, 46, 46, 46, 46, 46, 46, 46, 46, 46, 46, 112, 46, 112, 46, 112, 46, 112, 46, 112, 46, 99, 46, 46, 46, 46, 46, 99, 46, 46, 46, 46, 46, 46, 46, 46, 46, 46, 114, 110, 98, 97, 107, 97, 98, 110, 114]⟩
theorem startK_board : isB startK = true := by decide +kernel
theorem turn_some : turnK ≠ 0 := by decide +kernel
theorem next_one : nextK 1 = 1082269761 := by decide +kernel
theorem key_sides (s : ByteArray) (hs : isB s = true) : keyB s 0 ^^^ keyB s 1 = turnK := by
  rw [keyB_board 0 hs, keyB_board 1 hs, if_neg (by decide), if_pos rfl, Nat.xor_zero, ← Nat.xor_assoc, Nat.xor_self, Nat.zero_xor]
theorem two_keep {g0 g1 : Nat} {st : ByteArray} {w W W' : World} (h : W.cell? ⟨g0, 0, none⟩ = some (.string st) ∧ W.cell? ⟨g0, 1, none⟩ = some (.int .i64 0) ∧ W.cell? ⟨g0, 2, none⟩ = some (.int .i64 0) ∧ W.cell? ⟨g0, 3, none⟩ = some (.int .i64 1) ∧ W.cell? ⟨g1, 0, none⟩ = some (.string st) ∧ W.cell? ⟨g1, 1, none⟩ = some (.int .i64 1) ∧ W.cell? ⟨g1, 2, none⟩ = some (.int .i64 9) ∧ W.cell? ⟨g1, 3, none⟩ = some (.int .i64 1) ∧ Below w.heap.size w W) (hb : Below W.heap.size W W') : W'.cell? ⟨g0, 0, none⟩ = some (.string st) ∧ W'.cell? ⟨g0, 1, none⟩ = some (.int .i64 0) ∧ W'.cell? ⟨g0, 2, none⟩ = some (.int .i64 0) ∧ W'.cell? ⟨g0, 3, none⟩ = some (.int .i64 1) ∧ W'.cell? ⟨g1, 0, none⟩ = some (.string st) ∧ W'.cell? ⟨g1, 1, none⟩ = some (.int .i64 1) ∧ W'.cell? ⟨g1, 2, none⟩ = some (.int .i64 9) ∧ W'.cell? ⟨g1, 3, none⟩ = some (.int .i64 1) ∧ Below w.heap.size w W' := by
  obtain ⟨h0, h1, h2, h3, h4, h5, h6, h7, h8⟩ := h
  exact ⟨(hb.cell (p := ⟨g0, 0, none⟩) (cell_lt h0)).trans h0, (hb.cell (p := ⟨g0, 1, none⟩) (cell_lt h1)).trans h1, (hb.cell (p := ⟨g0, 2, none⟩) (cell_lt h2)).trans h2, (hb.cell (p := ⟨g0, 3, none⟩) (cell_lt h3)).trans h3, (hb.cell (p := ⟨g1, 0, none⟩) (cell_lt h4)).trans h4, (hb.cell (p := ⟨g1, 1, none⟩) (cell_lt h5)).trans h5, (hb.cell (p := ⟨g1, 2, none⟩) (cell_lt h6)).trans h6, (hb.cell (p := ⟨g1, 3, none⟩) (cell_lt h7)).trans h7, h8.trans (hb.mono h8.size)⟩
theorem two_below {g0 g1 : Nat} {st : ByteArray} {w W : World} (h : W.cell? ⟨g0, 0, none⟩ = some (.string st) ∧ W.cell? ⟨g0, 1, none⟩ = some (.int .i64 0) ∧ W.cell? ⟨g0, 2, none⟩ = some (.int .i64 0) ∧ W.cell? ⟨g0, 3, none⟩ = some (.int .i64 1) ∧ W.cell? ⟨g1, 0, none⟩ = some (.string st) ∧ W.cell? ⟨g1, 1, none⟩ = some (.int .i64 1) ∧ W.cell? ⟨g1, 2, none⟩ = some (.int .i64 9) ∧ W.cell? ⟨g1, 3, none⟩ = some (.int .i64 1) ∧ Below w.heap.size w W) : Below w.heap.size w W := h.2.2.2.2.2.2.2.2
set_option maxRecDepth 100000 in
set_option maxHeartbeats 4000000 in
theorem live10_any (w : World) : Calls Try.prog 16 #[] w (Gives w (.bool true)) := by
  unfold Gives
  obtain ⟨x, hx⟩ : ∃ x, rowK 1 = x := ⟨_, rfl⟩
  have hn : nextK 7640891576956012809 = x := hx
  have hc1 : cellK 75 0 = x := by rw [← hx]; decide +kernel
  have hc2 : cellK 46 0 = 0 := by decide +kernel
  have hc3 : cellK 75 90 = 0 := by decide +kernel
  have he : keyB ⟨#[]⟩ 0 = 0 := by decide +kernel
  obtain ⟨t, ht⟩ : ∃ t, turnK = t := ⟨_, rfl⟩
  have ht0 : t ≠ 0 := by rw [← ht]; exact turn_some
  obtain ⟨a, ha⟩ : ∃ a, keyB startK 0 = a := ⟨_, rfl⟩
  obtain ⟨b, hb⟩ : ∃ b, keyB startK 1 = b := ⟨_, rfl⟩
  have hab := key_sides startK startK_board
  rw [ha, hb, ht] at hab
  have la : a < 18446744073709551616 := by rw [← ha]; exact key_lt _ _
  have lb : b < 18446744073709551616 := by rw [← hb]; exact key_lt _ _
  have xab : bits .xor .u64 (a : Int) (b : Int) = (t : Int) := by rw [u64_xor_nat _ _ la lb, hab]
  have t1 : ((t : Int) != 0) = true := by rw [bne_iff_ne]; omega
  have HN := Lib.hid hn
  have HN1 : Hid (∀ W, Calls Try.prog 10 #[.int .u64 1] W fun e w' => e = .returned (.int .u64 1082269761) ∧ W = w') := by
    show ∀ W, _
    intro W
    have h := next_any 1 W (by decide)
    rw [next_one] at h
    exact h
  have HC1 := Lib.hid hc1
  have HC2 := Lib.hid hc2
  have HC3 := Lib.hid hc3
  have HE := Lib.hid he
  have HT := Lib.hid ht
  have HA := Lib.hid ha
  have HB := Lib.hid hb
  clear hx hn hc1 hc2 hc3 he ht ht0 ha hb hab la lb
  go_enter Try.func16, Try.ntmps16
  go_wp2_with fail
  have hlit : (⟨#[82, 78, 66, 65, 75, 65, 66, 78, 82, 46, 46, 46, 46, 46, 46, 46, 46, 46, 46, 67, 46, 46, 46, 46, 46, 67, 46, 80, 46, 80, 46, 80, 46, 80, 46, 80, 46, 46, 46, 46, 46, 46, 46, 46, 46, 46, 46, 46, 46, 46, 46, 46, 46, 46, 112, 46, 112, 46, 112, 46, 112, 46, 112, 46, 99, 46, 46, 46, 46, 46, 99, 46, 46, 46, 46, 46, 46, 46, 46, 46, 46, 114, 110, 98, 97, 107, 97, 98, 110, 114]⟩ : ByteArray) = startK := rfl
  simp only [hlit]
  clear hlit
  generalize startK = st at HA HB ⊢
  obtain ⟨W0, hW0⟩ : ∃ W0, (w.alloc (.cells #[.string st, .int .i64 0, .int .i64 0, .int .i64 1] 29)).alloc (.cells #[.string st, .int .i64 1, .int .i64 9, .int .i64 1] 29) = W0 := ⟨_, rfl⟩
  have hB : Below w.heap.size w W0 := by rw [← hW0]; exact (by repeat (first | exact Below.refl _ _ | (refine Below.setCell ?_ (by first | omega | (simp; done) | (simp; omega) | (simp at *; omega)) _) | (refine Below.alloc ?_ (by first | omega | (simp; done) | (simp; omega) | (simp at *; omega)) _) | refine Below.drew ?_ | (refine below_drewN ?_ _) | (refine Below.trans ?_ (Below.mono (by assumption) (by first | omega | (simp; done) | (simp; omega) | (simp at *; omega))))))
  have bP : Blk W0 w.heap.size 29 #[.string st, .int .i64 0, .int .i64 0, .int .i64 1] := by rw [← hW0]; exact (Blk.new _ _ _ rfl).alloc _
  have bQ : Blk W0 (w.heap.size + 1) 29 #[.string st, .int .i64 1, .int .i64 9, .int .i64 1] := by rw [← hW0]; exact Blk.new _ _ _ (by simp)
  rw [hW0]
  clear hW0
  have hnx := next_any 7640891576956012809 W0 (by decide)
  rw [HN.out] at hnx
  refine hnx.mono ?_
  rintro e w1 ⟨rfl, rfl⟩
  clear hnx
  obtain ⟨p0, p1, p2, p3⟩ := kpos_cells bP
  obtain ⟨q0, q1, q2, q3⟩ := kpos_cells bQ
  have hS : W0.drew.cell? ⟨w.heap.size, 0, none⟩ = some (.string st) ∧ W0.drew.cell? ⟨w.heap.size, 1, none⟩ = some (.int .i64 0) ∧ W0.drew.cell? ⟨w.heap.size, 2, none⟩ = some (.int .i64 0) ∧ W0.drew.cell? ⟨w.heap.size, 3, none⟩ = some (.int .i64 1) ∧ W0.drew.cell? ⟨w.heap.size + 1, 0, none⟩ = some (.string st) ∧ W0.drew.cell? ⟨w.heap.size + 1, 1, none⟩ = some (.int .i64 1) ∧ W0.drew.cell? ⟨w.heap.size + 1, 2, none⟩ = some (.int .i64 9) ∧ W0.drew.cell? ⟨w.heap.size + 1, 3, none⟩ = some (.int .i64 1) ∧ Below w.heap.size w W0.drew := ⟨p0, p1, p2, p3, q0, q1, q2, q3, hB.drew⟩
  clear p0 p1 p2 p3 q0 q1 q2 q3 bP bQ hB
  go_wp2_with fail
  refine wp_region_held_drew (S := fun W => W.cell? ⟨w.heap.size, 0, none⟩ = some (.string st) ∧ W.cell? ⟨w.heap.size, 1, none⟩ = some (.int .i64 0) ∧ W.cell? ⟨w.heap.size, 2, none⟩ = some (.int .i64 0) ∧ W.cell? ⟨w.heap.size, 3, none⟩ = some (.int .i64 1) ∧ W.cell? ⟨w.heap.size + 1, 0, none⟩ = some (.string st) ∧ W.cell? ⟨w.heap.size + 1, 1, none⟩ = some (.int .i64 1) ∧ W.cell? ⟨w.heap.size + 1, 2, none⟩ = some (.int .i64 9) ∧ W.cell? ⟨w.heap.size + 1, 3, none⟩ = some (.int .i64 1) ∧ Below w.heap.size w W) (by kernel_rfl) (hS) (fun hHeld => ?_)
  refine wpAnyH_ready (rs := [0]) (by kernel_rfl) (by simp) (AllReadyH.cons (o := { dst := some 9, op := Op.call { callee := Callee.value (Operand.func 10), args := #[Operand.const (Value.int IntKind.u64 1)], argTypes := #[22] }, type := 22, pos := "law.go:19", after := #[], guard := none }) rfl (fun K hK => ?_) AllReadyH.nil)
  go_simp
  refine (HN1.out _).mono ?_; rintro e w1 ⟨rfl, rfl⟩
  refine hK.out _ _ ?_ (fun hHeld => ?_)
  · first | with_reducible assumption | exact two_keep (by assumption) hb
  clear hK K
  refine wpAnyH_take (i := 1) (oi := { dst := some 10, op := Op.binOp BinOp.eql 22 (Operand.tmp 9) (Operand.const (Value.int IntKind.u64 1082269761)) 22, type := 4, pos := "law.go:19", after := #[{ on := 0, ground := Ground.data }], guard := none }) (v := ?_) rfl (by kernel_rfl) (by kernel_rfl) (by kernel_rfl) (fun _ _ _ h => h) (Or.inl ⟨by rfl, ?_⟩) (by assumption) ?_
  case refine_2 =>
    intro w hSw
    (try dsimp only at hSw)
    (try go_simp)
    all_goals (with_reducible rfl)
  try simp only [Act.put, List.setIfInBounds_toArray, List.set_cons_zero, List.set_cons_succ]
  refine wpAnyH_take (i := 2) (oi := { dst := some 11, op := Op.move (Operand.tmp 10), type := 4, pos := "law.go:19", after := #[{ on := 1, ground := Ground.data }, { on := 0, ground := Ground.chain }], guard := none }) (v := ?_) rfl (by kernel_rfl) (by kernel_rfl) (by kernel_rfl) (fun _ _ _ h => h) (Or.inl ⟨by rfl, ?_⟩) (by assumption) ?_
  case refine_2 =>
    intro w hSw
    (try dsimp only at hSw)
    (try go_simp)
    all_goals (with_reducible rfl)
  try simp only [Act.put, List.setIfInBounds_toArray, List.set_cons_zero, List.set_cons_succ]
  refine wpAnyH_take (i := 4) (oi := { dst := some 13, op := Op.move (Operand.tmp 3), type := 22, pos := "law.go:19", after := #[{ on := 2, ground := Ground.guard }], guard := some (2, true) }) (v := ?_) rfl (by kernel_rfl) (by kernel_rfl) (by kernel_rfl) (fun _ _ _ h => h) (Or.inl ⟨by rfl, ?_⟩) (by assumption) ?_
  case refine_2 =>
    intro w hSw
    (try dsimp only at hSw)
    (try go_simp)
    all_goals (with_reducible rfl)
  try simp only [Act.put, List.setIfInBounds_toArray, List.set_cons_zero, List.set_cons_succ]
  refine wpAnyH_ready (rs := [3]) (by kernel_rfl) (by simp) (AllReadyH.cons (o := { dst := some 12, op := Op.call { callee := Callee.value (Operand.func 12), args := #[Operand.const (Value.int IntKind.u8 75), Operand.const (Value.int IntKind.i64 0)], argTypes := #[5, 3] }, type := 22, pos := "law.go:19", after := #[{ on := 2, ground := Ground.chain }, { on := 2, ground := Ground.guard }], guard := some (2, true) }) rfl (fun K hK => ?_) AllReadyH.nil)
  go_simp
  refine (cell_is 75 0 x _ (by decide) HC1.out).mono ?_; rintro e w1 ⟨rfl, hb⟩
  refine hK.out _ _ ?_ (fun hHeld => ?_)
  · first | with_reducible assumption | exact two_keep (by assumption) hb
  clear hK K
  refine wpAnyH_take (i := 5) (oi := { dst := some 14, op := Op.binOp BinOp.eql 22 (Operand.tmp 12) (Operand.tmp 13) 22, type := 4, pos := "law.go:19", after := #[{ on := 3, ground := Ground.data }, { on := 4, ground := Ground.data }, { on := 2, ground := Ground.guard }], guard := some (2, true) }) (v := ?_) rfl (by kernel_rfl) (by kernel_rfl) (by kernel_rfl) (fun _ _ _ h => h) (Or.inl ⟨by rfl, ?_⟩) (by assumption) ?_
  case refine_2 =>
    intro w hSw
    (try dsimp only at hSw)
    (try go_simp)
    all_goals (with_reducible rfl)
  try simp only [Act.put, List.setIfInBounds_toArray, List.set_cons_zero, List.set_cons_succ]
  refine wpAnyH_take (i := 6) (oi := { dst := some 15, op := Op.pick (Operand.tmp 11) (Operand.tmp 14) (Operand.const (Value.bool false)), type := 4, pos := "law.go:19", after := #[{ on := 2, ground := Ground.data }, { on := 5, ground := Ground.data }], guard := none }) (v := ?_) rfl (by kernel_rfl) (by kernel_rfl) (by kernel_rfl) (fun _ _ _ h => h) (Or.inl ⟨by rfl, ?_⟩) (by assumption) ?_
  case refine_2 =>
    intro w hSw
    (try dsimp only at hSw)
    (try go_simp)
    all_goals (with_reducible rfl)
  try simp only [Act.put, List.setIfInBounds_toArray, List.set_cons_zero, List.set_cons_succ]
  refine wpAnyH_take (i := 7) (oi := { dst := some 16, op := Op.move (Operand.tmp 15), type := 4, pos := "law.go:19", after := #[{ on := 6, ground := Ground.data }, { on := 3, ground := Ground.chain }], guard := none }) (v := ?_) rfl (by kernel_rfl) (by kernel_rfl) (by kernel_rfl) (fun _ _ _ h => h) (Or.inl ⟨by rfl, ?_⟩) (by assumption) ?_
  case refine_2 =>
    intro w hSw
    (try dsimp only at hSw)
    (try go_simp)
    all_goals (with_reducible rfl)
  try simp only [Act.put, List.setIfInBounds_toArray, List.set_cons_zero, List.set_cons_succ]
  refine wpAnyH_ready (rs := [8]) (by kernel_rfl) (by simp) (AllReadyH.cons (o := { dst := some 17, op := Op.call { callee := Callee.value (Operand.func 12), args := #[Operand.const (Value.int IntKind.u8 46), Operand.const (Value.int IntKind.i64 0)], argTypes := #[5, 3] }, type := 22, pos := "law.go:19", after := #[{ on := 7, ground := Ground.chain }, { on := 7, ground := Ground.guard }], guard := some (7, true) }) rfl (fun K hK => ?_) AllReadyH.nil)
  go_simp
  refine (cell_is 46 0 0 _ (by decide) HC2.out).mono ?_; rintro e w1 ⟨rfl, hb⟩
  refine hK.out _ _ ?_ (fun hHeld => ?_)
  · first | with_reducible assumption | exact two_keep (by assumption) hb
  clear hK K
  refine wpAnyH_take (i := 9) (oi := { dst := some 18, op := Op.binOp BinOp.eql 22 (Operand.tmp 17) (Operand.const (Value.int IntKind.u64 0)) 22, type := 4, pos := "law.go:19", after := #[{ on := 8, ground := Ground.data }, { on := 7, ground := Ground.guard }], guard := some (7, true) }) (v := ?_) rfl (by kernel_rfl) (by kernel_rfl) (by kernel_rfl) (fun _ _ _ h => h) (Or.inl ⟨by rfl, ?_⟩) (by assumption) ?_
  case refine_2 =>
    intro w hSw
    (try dsimp only at hSw)
    (try go_simp)
    all_goals (with_reducible rfl)
  try simp only [Act.put, List.setIfInBounds_toArray, List.set_cons_zero, List.set_cons_succ]
  refine wpAnyH_take (i := 10) (oi := { dst := some 19, op := Op.pick (Operand.tmp 16) (Operand.tmp 18) (Operand.const (Value.bool false)), type := 4, pos := "law.go:19", after := #[{ on := 7, ground := Ground.data }, { on := 9, ground := Ground.data }], guard := none }) (v := ?_) rfl (by kernel_rfl) (by kernel_rfl) (by kernel_rfl) (fun _ _ _ h => h) (Or.inl ⟨by rfl, ?_⟩) (by assumption) ?_
  case refine_2 =>
    intro w hSw
    (try dsimp only at hSw)
    (try go_simp)
    all_goals (with_reducible rfl)
  try simp only [Act.put, List.setIfInBounds_toArray, List.set_cons_zero, List.set_cons_succ]
  refine wpAnyH_take (i := 11) (oi := { dst := some 20, op := Op.move (Operand.tmp 19), type := 4, pos := "law.go:19", after := #[{ on := 10, ground := Ground.data }, { on := 8, ground := Ground.chain }], guard := none }) (v := ?_) rfl (by kernel_rfl) (by kernel_rfl) (by kernel_rfl) (fun _ _ _ h => h) (Or.inl ⟨by rfl, ?_⟩) (by assumption) ?_
  case refine_2 =>
    intro w hSw
    (try dsimp only at hSw)
    (try go_simp)
    all_goals (with_reducible rfl)
  try simp only [Act.put, List.setIfInBounds_toArray, List.set_cons_zero, List.set_cons_succ]
  refine wpAnyH_ready (rs := [12]) (by kernel_rfl) (by simp) (AllReadyH.cons (o := { dst := some 21, op := Op.call { callee := Callee.value (Operand.func 12), args := #[Operand.const (Value.int IntKind.u8 75), Operand.const (Value.int IntKind.i64 90)], argTypes := #[5, 3] }, type := 22, pos := "law.go:19", after := #[{ on := 11, ground := Ground.chain }, { on := 11, ground := Ground.guard }], guard := some (11, true) }) rfl (fun K hK => ?_) AllReadyH.nil)
  go_simp
  refine (cell_is 75 90 0 _ (by decide) HC3.out).mono ?_; rintro e w1 ⟨rfl, hb⟩
  refine hK.out _ _ ?_ (fun hHeld => ?_)
  · first | with_reducible assumption | exact two_keep (by assumption) hb
  clear hK K
  refine wpAnyH_take (i := 13) (oi := { dst := some 22, op := Op.binOp BinOp.eql 22 (Operand.tmp 21) (Operand.const (Value.int IntKind.u64 0)) 22, type := 4, pos := "law.go:19", after := #[{ on := 12, ground := Ground.data }, { on := 11, ground := Ground.guard }], guard := some (11, true) }) (v := ?_) rfl (by kernel_rfl) (by kernel_rfl) (by kernel_rfl) (fun _ _ _ h => h) (Or.inl ⟨by rfl, ?_⟩) (by assumption) ?_
  case refine_2 =>
    intro w hSw
    (try dsimp only at hSw)
    (try go_simp)
    all_goals (with_reducible rfl)
  try simp only [Act.put, List.setIfInBounds_toArray, List.set_cons_zero, List.set_cons_succ]
  refine wpAnyH_take (i := 14) (oi := { dst := some 23, op := Op.pick (Operand.tmp 20) (Operand.tmp 22) (Operand.const (Value.bool false)), type := 4, pos := "law.go:19", after := #[{ on := 11, ground := Ground.data }, { on := 13, ground := Ground.data }], guard := none }) (v := ?_) rfl (by kernel_rfl) (by kernel_rfl) (by kernel_rfl) (fun _ _ _ h => h) (Or.inl ⟨by rfl, ?_⟩) (by assumption) ?_
  case refine_2 =>
    intro w hSw
    (try dsimp only at hSw)
    (try go_simp)
    all_goals (with_reducible rfl)
  try simp only [Act.put, List.setIfInBounds_toArray, List.set_cons_zero, List.set_cons_succ]
  refine wpAnyH_take (i := 15) (oi := { dst := some 24, op := Op.move (Operand.tmp 23), type := 4, pos := "law.go:19", after := #[{ on := 14, ground := Ground.data }, { on := 12, ground := Ground.chain }], guard := none }) (v := ?_) rfl (by kernel_rfl) (by kernel_rfl) (by kernel_rfl) (fun _ _ _ h => h) (Or.inl ⟨by rfl, ?_⟩) (by assumption) ?_
  case refine_2 =>
    intro w hSw
    (try dsimp only at hSw)
    (try go_simp)
    all_goals (with_reducible rfl)
  try simp only [Act.put, List.setIfInBounds_toArray, List.set_cons_zero, List.set_cons_succ]
  refine wpAnyH_take (i := 16) (oi := { dst := some 25, op := Op.load 29 (Operand.tmp 1), type := 29, pos := "law.go:19", after := #[{ on := 15, ground := Ground.guard }], guard := some (15, true) }) (v := ?_) rfl (by kernel_rfl) (by kernel_rfl) (by kernel_rfl) (fun _ _ _ h => h) (Or.inl ⟨by rfl, ?_⟩) (by assumption) ?_
  case refine_2 =>
    intro w hSw
    (try dsimp only at hSw)
    (try go_simp)
    all_goals (with_reducible rfl)
  try simp only [Act.put, List.setIfInBounds_toArray, List.set_cons_zero, List.set_cons_succ]
  refine wpAnyH_take (i := 18) (oi := { dst := some 27, op := Op.load 29 (Operand.tmp 2), type := 29, pos := "law.go:19", after := #[{ on := 15, ground := Ground.guard }], guard := some (15, true) }) (v := ?_) rfl (by kernel_rfl) (by kernel_rfl) (by kernel_rfl) (fun _ _ _ h => h) (Or.inl ⟨by rfl, ?_⟩) (by assumption) ?_
  case refine_2 =>
    intro w hSw
    (try dsimp only at hSw)
    (try go_simp)
    all_goals (with_reducible rfl)
  try simp only [Act.put, List.setIfInBounds_toArray, List.set_cons_zero, List.set_cons_succ]
  refine wpAnyH_ready (rs := [17]) (by kernel_rfl) (by simp) (AllReadyH.cons (o := { dst := some 26, op := Op.call { callee := Callee.value (Operand.func 17), args := #[Operand.tmp 25], argTypes := #[29] }, type := 22, pos := "law.go:19", after := #[{ on := 16, ground := Ground.data }, { on := 15, ground := Ground.chain }, { on := 15, ground := Ground.guard }], guard := some (15, true) }) rfl (fun K hK => ?_) AllReadyH.nil)
  go_simp
  refine (kof_is st 0 0 1 a _ HA.out).mono ?_; rintro e w1 ⟨rfl, hb⟩
  refine hK.out _ _ ?_ (fun hHeld => ?_)
  · first | with_reducible assumption | exact two_keep (by assumption) hb
  clear hK K
  refine wpAnyH_ready (rs := [19]) (by kernel_rfl) (by simp) (AllReadyH.cons (o := { dst := some 28, op := Op.call { callee := Callee.value (Operand.func 17), args := #[Operand.tmp 27], argTypes := #[29] }, type := 22, pos := "law.go:19", after := #[{ on := 18, ground := Ground.data }, { on := 17, ground := Ground.chain }, { on := 15, ground := Ground.guard }], guard := some (15, true) }) rfl (fun K hK => ?_) AllReadyH.nil)
  go_simp
  refine (kof_is st 1 9 1 b _ HB.out).mono ?_; rintro e w1 ⟨rfl, hb⟩
  refine hK.out _ _ ?_ (fun hHeld => ?_)
  · first | with_reducible assumption | exact two_keep (by assumption) hb
  clear hK K
  refine wpAnyH_take (i := 20) (oi := { dst := some 29, op := Op.binOp BinOp.xor 22 (Operand.tmp 26) (Operand.tmp 28) 22, type := 22, pos := "law.go:19", after := #[{ on := 17, ground := Ground.data }, { on := 19, ground := Ground.data }, { on := 15, ground := Ground.guard }], guard := some (15, true) }) (v := ?_) rfl (by kernel_rfl) (by kernel_rfl) (by kernel_rfl) (fun _ _ _ h => h) (Or.inl ⟨by rfl, ?_⟩) (by assumption) ?_
  case refine_2 =>
    intro w hSw
    (try dsimp only at hSw)
    (try go_simp)
    all_goals (with_reducible rfl)
  try simp only [Act.put, List.setIfInBounds_toArray, List.set_cons_zero, List.set_cons_succ]
  refine wpAnyH_ready (rs := [21]) (by kernel_rfl) (by simp) (AllReadyH.cons (o := { dst := some 30, op := Op.call { callee := Callee.value (Operand.func 14), args := #[], argTypes := #[] }, type := 22, pos := "law.go:19", after := #[{ on := 19, ground := Ground.chain }, { on := 15, ground := Ground.guard }], guard := some (15, true) }) rfl (fun K hK => ?_) AllReadyH.nil)
  go_simp
  refine (kturn_is t _ HT.out).mono ?_; rintro e w1 ⟨rfl, hb⟩
  refine hK.out _ _ ?_ (fun hHeld => ?_)
  · first | with_reducible assumption | exact two_keep (by assumption) hb
  clear hK K
  refine wpAnyH_take (i := 22) (oi := { dst := some 31, op := Op.binOp BinOp.eql 22 (Operand.tmp 29) (Operand.tmp 30) 22, type := 4, pos := "law.go:19", after := #[{ on := 20, ground := Ground.data }, { on := 21, ground := Ground.data }, { on := 15, ground := Ground.guard }], guard := some (15, true) }) (v := ?_) rfl (by kernel_rfl) (by kernel_rfl) (by kernel_rfl) (fun _ _ _ h => h) (Or.inl ⟨by rfl, ?_⟩) (by assumption) ?_
  case refine_2 =>
    intro w hSw
    (try dsimp only at hSw)
    (try go_simp)
    all_goals (with_reducible rfl)
  try simp only [Act.put, List.setIfInBounds_toArray, List.set_cons_zero, List.set_cons_succ]
  refine wpAnyH_take (i := 23) (oi := { dst := some 32, op := Op.pick (Operand.tmp 24) (Operand.tmp 31) (Operand.const (Value.bool false)), type := 4, pos := "law.go:19", after := #[{ on := 15, ground := Ground.data }, { on := 22, ground := Ground.data }], guard := none }) (v := ?_) rfl (by kernel_rfl) (by kernel_rfl) (by kernel_rfl) (fun _ _ _ h => h) (Or.inl ⟨by rfl, ?_⟩) (by assumption) ?_
  case refine_2 =>
    intro w hSw
    (try dsimp only at hSw)
    (try go_simp)
    all_goals (with_reducible rfl)
  try simp only [Act.put, List.setIfInBounds_toArray, List.set_cons_zero, List.set_cons_succ]
  refine wpAnyH_take (i := 24) (oi := { dst := some 33, op := Op.move (Operand.tmp 32), type := 4, pos := "law.go:19", after := #[{ on := 23, ground := Ground.data }, { on := 21, ground := Ground.chain }], guard := none }) (v := ?_) rfl (by kernel_rfl) (by kernel_rfl) (by kernel_rfl) (fun _ _ _ h => h) (Or.inl ⟨by rfl, ?_⟩) (by assumption) ?_
  case refine_2 =>
    intro w hSw
    (try dsimp only at hSw)
    (try go_simp)
    all_goals (with_reducible rfl)
  try simp only [Act.put, List.setIfInBounds_toArray, List.set_cons_zero, List.set_cons_succ]
  refine wpAnyH_ready (rs := [25]) (by kernel_rfl) (by simp) (AllReadyH.cons (o := { dst := some 34, op := Op.call { callee := Callee.value (Operand.func 14), args := #[], argTypes := #[] }, type := 22, pos := "law.go:19", after := #[{ on := 24, ground := Ground.chain }, { on := 24, ground := Ground.guard }], guard := some (24, true) }) rfl (fun K hK => ?_) AllReadyH.nil)
  go_simp
  refine (kturn_is t _ HT.out).mono ?_; rintro e w1 ⟨rfl, hb⟩
  refine hK.out _ _ ?_ (fun hHeld => ?_)
  · first | with_reducible assumption | exact two_keep (by assumption) hb
  clear hK K
  refine wpAnyH_take (i := 26) (oi := { dst := some 35, op := Op.binOp BinOp.neq 22 (Operand.tmp 34) (Operand.const (Value.int IntKind.u64 0)) 22, type := 4, pos := "law.go:19", after := #[{ on := 25, ground := Ground.data }, { on := 24, ground := Ground.guard }], guard := some (24, true) }) (v := ?_) rfl (by kernel_rfl) (by kernel_rfl) (by kernel_rfl) (fun _ _ _ h => h) (Or.inl ⟨by rfl, ?_⟩) (by assumption) ?_
  case refine_2 =>
    intro w hSw
    (try dsimp only at hSw)
    (try go_simp)
    all_goals (with_reducible rfl)
  try simp only [Act.put, List.setIfInBounds_toArray, List.set_cons_zero, List.set_cons_succ]
  refine wpAnyH_take (i := 27) (oi := { dst := some 36, op := Op.pick (Operand.tmp 33) (Operand.tmp 35) (Operand.const (Value.bool false)), type := 4, pos := "law.go:19", after := #[{ on := 24, ground := Ground.data }, { on := 26, ground := Ground.data }], guard := none }) (v := ?_) rfl (by kernel_rfl) (by kernel_rfl) (by kernel_rfl) (fun _ _ _ h => h) (Or.inl ⟨by rfl, ?_⟩) (by assumption) ?_
  case refine_2 =>
    intro w hSw
    (try dsimp only at hSw)
    (try go_simp)
    all_goals (with_reducible rfl)
  try simp only [Act.put, List.setIfInBounds_toArray, List.set_cons_zero, List.set_cons_succ]
  refine wpAnyH_take (i := 28) (oi := { dst := some 37, op := Op.move (Operand.tmp 36), type := 4, pos := "law.go:19", after := #[{ on := 27, ground := Ground.data }, { on := 25, ground := Ground.chain }], guard := none }) (v := ?_) rfl (by kernel_rfl) (by kernel_rfl) (by kernel_rfl) (fun _ _ _ h => h) (Or.inl ⟨by rfl, ?_⟩) (by assumption) ?_
  case refine_2 =>
    intro w hSw
    (try dsimp only at hSw)
    (try go_simp)
    all_goals (with_reducible rfl)
  try simp only [Act.put, List.setIfInBounds_toArray, List.set_cons_zero, List.set_cons_succ]
  refine wpAnyH_take (i := 29) (oi := { dst := some 38, op := Op.build 29 #[], type := 29, pos := "law.go:19", after := #[{ on := 28, ground := Ground.guard }], guard := some (28, true) }) (v := ?_) rfl (by kernel_rfl) (by kernel_rfl) (by kernel_rfl) (fun _ _ _ h => h) (Or.inl ⟨by rfl, ?_⟩) (by assumption) ?_
  case refine_2 =>
    intro w hSw
    (try dsimp only at hSw)
    (try go_simp)
    all_goals (with_reducible rfl)
  try simp only [Act.put, List.setIfInBounds_toArray, List.set_cons_zero, List.set_cons_succ]
  refine wpAnyH_ready (rs := [30]) (by kernel_rfl) (by simp) (AllReadyH.cons (o := { dst := some 39, op := Op.call { callee := Callee.value (Operand.func 17), args := #[Operand.tmp 38], argTypes := #[29] }, type := 22, pos := "law.go:19", after := #[{ on := 29, ground := Ground.data }, { on := 28, ground := Ground.chain }, { on := 28, ground := Ground.guard }], guard := some (28, true) }) rfl (fun K hK => ?_) AllReadyH.nil)
  go_simp
  refine (kof_is ⟨#[]⟩ 0 0 0 0 _ HE.out).mono ?_; rintro e w1 ⟨rfl, hb⟩
  refine hK.out _ _ ?_ (fun hHeld => ?_)
  · first | with_reducible assumption | exact two_keep (by assumption) hb
  clear hK K
  refine wpAnyH_take (i := 31) (oi := { dst := some 40, op := Op.binOp BinOp.eql 22 (Operand.tmp 39) (Operand.const (Value.int IntKind.u64 0)) 22, type := 4, pos := "law.go:19", after := #[{ on := 30, ground := Ground.data }, { on := 28, ground := Ground.guard }], guard := some (28, true) }) (v := ?_) rfl (by kernel_rfl) (by kernel_rfl) (by kernel_rfl) (fun _ _ _ h => h) (Or.inl ⟨by rfl, ?_⟩) (by assumption) ?_
  case refine_2 =>
    intro w hSw
    (try dsimp only at hSw)
    (try go_simp)
    all_goals (with_reducible rfl)
  try simp only [Act.put, List.setIfInBounds_toArray, List.set_cons_zero, List.set_cons_succ]
  refine wpAnyH_take (i := 32) (oi := { dst := some 41, op := Op.pick (Operand.tmp 37) (Operand.tmp 40) (Operand.const (Value.bool false)), type := 4, pos := "law.go:19", after := #[{ on := 28, ground := Ground.data }, { on := 31, ground := Ground.data }], guard := none }) (v := ?_) rfl (by kernel_rfl) (by kernel_rfl) (by kernel_rfl) (fun _ _ _ h => h) (Or.inl ⟨by rfl, ?_⟩) (by assumption) ?_
  case refine_2 =>
    intro w hSw
    (try dsimp only at hSw)
    (try go_simp)
    all_goals (with_reducible rfl)
  try simp only [Act.put, List.setIfInBounds_toArray, List.set_cons_zero, List.set_cons_succ]
  refine wpAnyH_take (i := 33) (oi := { dst := some 0, op := Op.assign (Operand.tmp 41), type := 4, pos := "law.go:19", after := #[{ on := 32, ground := Ground.data }, { on := 30, ground := Ground.chain }, { on := 0, ground := Ground.phase }, { on := 1, ground := Ground.phase }, { on := 2, ground := Ground.phase }, { on := 3, ground := Ground.phase }, { on := 4, ground := Ground.phase }, { on := 5, ground := Ground.phase }, { on := 6, ground := Ground.phase }, { on := 7, ground := Ground.phase }, { on := 8, ground := Ground.phase }, { on := 9, ground := Ground.phase }, { on := 10, ground := Ground.phase }, { on := 11, ground := Ground.phase }, { on := 12, ground := Ground.phase }, { on := 13, ground := Ground.phase }, { on := 14, ground := Ground.phase }, { on := 15, ground := Ground.phase }, { on := 16, ground := Ground.phase }, { on := 17, ground := Ground.phase }, { on := 18, ground := Ground.phase }, { on := 19, ground := Ground.phase }, { on := 20, ground := Ground.phase }, { on := 21, ground := Ground.phase }, { on := 22, ground := Ground.phase }, { on := 23, ground := Ground.phase }, { on := 24, ground := Ground.phase }, { on := 25, ground := Ground.phase }, { on := 26, ground := Ground.phase }, { on := 27, ground := Ground.phase }, { on := 28, ground := Ground.phase }, { on := 29, ground := Ground.phase }, { on := 30, ground := Ground.phase }, { on := 31, ground := Ground.phase }, { on := 32, ground := Ground.phase }], guard := none }) (v := ?_) rfl (by kernel_rfl) (by kernel_rfl) (by kernel_rfl) (fun _ _ _ h => h) (Or.inl ⟨by rfl, ?_⟩) (by assumption) ?_
  case refine_2 =>
    intro w hSw
    (try dsimp only at hSw)
    (try go_simp)
    all_goals (with_reducible rfl)
  try simp only [Act.put, List.setIfInBounds_toArray, List.set_cons_zero]
  refine wpAnyH_done (by kernel_rfl) ?_ _
  go_wp2
  go_ret
  exact ⟨rfl, two_below (by assumption)⟩
end Go.Proofs.Ytocdmnkmepplcaa
