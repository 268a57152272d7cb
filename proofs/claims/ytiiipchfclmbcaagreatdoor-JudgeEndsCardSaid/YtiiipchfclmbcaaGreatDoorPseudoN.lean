/- Merged: PseudoJ PseudoL. -/
import Derived.Test.YtiiipchfclmbcaaGreatDoorPseudoM

namespace Go.Proofs.YtiiipchfclmbcaaGreatDoor
open Go.RowKit Go.Shelf
open M (S)
theorem asA {α : Type _} (l : List α) (i : Nat) (a : α) : l.toArray.setIfInBounds i a = (l.set i a).toArray := List.setIfInBounds_toArray l i a
theorem asB {α : Type _} {x : α} {xs : List α} {a : α} : (x :: xs).set 0 a = a :: xs := List.set_cons_zero
theorem asC {α : Type _} {x : α} {xs : List α} {i : Nat} {a : α} : (x :: xs).set (i + 1) a = x :: xs.set i a := List.set_cons_succ
theorem tkV {P : Program} {ops : Array Oper} {Q : Exit → Act → World → Prop} {md : Region.Mode} {S : World → Prop} (i : Nat) (oi : Oper) {v : Value} {fuel : Nat} {listed : Array Bool} {a : Act} {w : World} (hi : ops[i]? = some oi) (hQ : ∀ c a w, Q (.panic c) (a.put oi.dst v) w → Q (.panic c) a w) (hy : YieldsIf P ops S oi v a) (hS : S w) (h : wpAnyH P md ops Q S fuel (listed.setIfInBounds i true) (a.put oi.dst v) w) (hs : Region.noSelect ops = true := by kernel_rfl) (hf : Region.free md ops listed i = true := by kernel_rfl) (hr : (Region.ready md ops listed).contains i = true := by kernel_rfl) : wpAnyH P md ops Q S (fuel + 1) listed a w := wpAnyH_take hi hs hf hr hQ hy hS h
set_option maxRecDepth 100000 in
set_option maxHeartbeats 4000000 in
theorem rapply_bad (s : ByteArray) (side clock full a b k : Int) (w : World) (hc : (checkN s side clock full : Int) = k) (h0 : (k != 0) = true) :
    Calls Tryz.prog 48 #[.agg #[.string s, .int .i64 side, .int .i64 clock, .int .i64 full], .agg #[.int .i64 a, .int .i64 b]] w (Gives w (.tuple #[.agg #[.string ⟨#[]⟩, .int .i64 0, .int .i64 0, .int .i64 0], .int .u8 0, .int .i64 k])) := by
  unfold Gives
  obtain ⟨W1, hW1⟩ : ∃ W1, ((w.alloc (.cells #[.string s, .int .i64 side, .int .i64 clock, .int .i64 full] 23)).alloc (.cells #[.int .i64 a, .int .i64 b] 37)).alloc (.cells #[.string ⟨#[]⟩, .int .i64 0, .int .i64 0, .int .i64 0] 23) = W1 := ⟨_, rfl⟩
  obtain ⟨hB, bP, bM, bR⟩ := ap_start hW1
  obtain ⟨p0, p1, p2, p3⟩ := ppos_cells bP
  have HC := Lib.hid hc
  have HW := Lib.hid hW1
  clear hc hW1
  go_enter Tryz.func48, Tryz.ntmps48
  go_wp2_with fail
  rw [HW.out]
  have f0 := ppos_frozen bR
  go_wp2_with fail
  refine (rcheck_is s side clock full k _ HC.out).mono ?_
  rintro e w1 ⟨rfl, hb⟩
  have bR1 := bR.next hb
  obtain ⟨g0, g1, g2, g3⟩ := ppos_cells bR1
  obtain ⟨f0, f1, f2, f3⟩ := ppos_frozen bR1
  go_wp2_with fail
  refine bodyPost_ret (res_pos3 rfl _ _ rfl (mvEnd (bR1) (by omega) (hB.trans (hb.mono hB.size))).1) rfl ⟨rfl, (mvEnd (bR1) (by omega) (hB.trans (hb.mono hB.size))).2⟩
set_option maxRecDepth 100000 in
set_option maxHeartbeats 8000000 in
theorem rapply_a0 (s : ByteArray) (side clock full : Int) (a b : Int) (w : World) (hc : (checkN s side clock full : Int) = 0) (h : a < 0) :
    Calls Tryz.prog 48 #[.agg #[.string s, .int .i64 side, .int .i64 clock, .int .i64 full], .agg #[.int .i64 a, .int .i64 b]] w (Gives w (.tuple #[.agg #[.string ⟨#[]⟩, .int .i64 0, .int .i64 0, .int .i64 0], .int .u8 0, .int .i64 7])) := by
  unfold Gives
  have e0 : decide (a < 0) = true := by simp; omega
  clear h
  obtain ⟨W1, hW1⟩ : ∃ W1, ((w.alloc (.cells #[.string s, .int .i64 side, .int .i64 clock, .int .i64 full] 23)).alloc (.cells #[.int .i64 a, .int .i64 b] 37)).alloc (.cells #[.string ⟨#[]⟩, .int .i64 0, .int .i64 0, .int .i64 0] 23) = W1 := ⟨_, rfl⟩
  obtain ⟨hB, bP, bM, bR⟩ := ap_start hW1
  obtain ⟨p0, p1, p2, p3⟩ := ppos_cells bP
  have HC := Lib.hid hc
  have HW := Lib.hid hW1
  clear hc hW1
  go_enter Tryz.func48, Tryz.ntmps48
  go_wp2_with fail
  rw [HW.out]
  have f0 := ppos_frozen bR
  go_wp2_with fail
  refine (rcheck_is s side clock full 0 _ HC.out).mono ?_
  rintro e w1 ⟨rfl, hb⟩
  have bR1 := bR.next hb
  have bM1 := bM.next hb
  have bP1 := bP.next hb
  have hB1 := hB.trans (hb.mono hB.size)
  obtain ⟨t0, t1, t2, t3⟩ := ppos_cells bP1
  have m0 : w1.cell? ⟨w.heap.size + 1, 0, none⟩ = some (.int .i64 a) := bM1.cell 0
  have m1 : w1.cell? ⟨w.heap.size + 1, 1, none⟩ = some (.int .i64 b) := bM1.cell 1
  obtain ⟨g0, g1, g2, g3⟩ := ppos_cells bR1
  obtain ⟨f0, f1, f2, f3⟩ := ppos_frozen bR1
  go_wp2_with fail
  have hS : w1.drew.cell? ⟨w.heap.size, 0, none⟩ = some (.string s) ∧ w1.drew.cell? ⟨w.heap.size, 1, none⟩ = some (.int .i64 side) ∧ w1.drew.cell? ⟨w.heap.size + 1, 0, none⟩ = some (.int .i64 a) ∧ w1.drew.cell? ⟨w.heap.size + 1, 1, none⟩ = some (.int .i64 b) ∧ Below w.heap.size w w1.drew := ⟨t0, t1, m0, m1, hB1.drew⟩
  have bR2 := bR1.next (Below.refl _ _).drew
  refine wp_region_held_drew (S := fun W => W.cell? ⟨w.heap.size, 0, none⟩ = some (.string s) ∧ W.cell? ⟨w.heap.size, 1, none⟩ = some (.int .i64 side) ∧ W.cell? ⟨w.heap.size + 1, 0, none⟩ = some (.int .i64 a) ∧ W.cell? ⟨w.heap.size + 1, 1, none⟩ = some (.int .i64 b) ∧ Below w.heap.size w W) (by kernel_rfl) (hS) (fun hHeld => ?_)
  refine tkV 0 ⟨some 16, .fieldAddr 37 (.tmp 3) 0, 0, "ref.go:61", #[], none⟩ (v := ?_) rfl (fun _ _ _ h => h) (Or.inl ⟨by rfl, ?_⟩) (by assumption) ?_
  case refine_2 =>
    intro w hSw
    (try dsimp only at hSw)
    (try go_simp)
    all_goals (with_reducible rfl)
  try simp only [Act.put, asA, asB, asC]
  refine tkV 1 ⟨some 17, .load 3 (.tmp 16), 3, "ref.go:61", #[⟨0, .data⟩], none⟩ (v := ?_) rfl (fun _ _ _ h => h) (Or.inl ⟨by rfl, ?_⟩) (by assumption) ?_
  case refine_2 =>
    intro w hSw
    (try dsimp only at hSw)
    (try go_simp)
    all_goals (with_reducible rfl)
  try simp only [Act.put, asA, asB, asC]
  refine tkV 2 ⟨some 18, .binOp .lss 3 (.tmp 17) (.const (.int .i64 0)) 3, 4, "ref.go:61", #[⟨1, .data⟩], none⟩ (v := ?_) rfl (fun _ _ _ h => h) (Or.inl ⟨by rfl, ?_⟩) (by assumption) ?_
  case refine_2 =>
    intro w hSw
    (try dsimp only at hSw)
    (try go_simp)
    all_goals (with_reducible rfl)
  try simp only [Act.put, asA, asB, asC]
  refine tkV 3 ⟨some 19, .move (.tmp 18), 4, "ref.go:61", #[⟨2, .data⟩], none⟩ (v := ?_) rfl (fun _ _ _ h => h) (Or.inl ⟨by rfl, ?_⟩) (by assumption) ?_
  case refine_2 =>
    intro w hSw
    (try dsimp only at hSw)
    (try go_simp)
    all_goals (with_reducible rfl)
  try simp only [Act.put, asA, asB, asC]
  refine tkV 4 ⟨some 20, .fieldAddr 37 (.tmp 3) 0, 0, "ref.go:61", #[⟨3, .guard⟩], some (3, false)⟩ (v := undef) rfl (fun _ _ _ h => h) (Or.inr ⟨by rfl, rfl⟩) (by assumption) ?_
  try simp only [Act.put, asA, asB, asC]
  refine tkV 5 ⟨some 21, .load 3 (.tmp 20), 3, "ref.go:61", #[⟨4, .data⟩, ⟨3, .guard⟩], some (3, false)⟩ (v := undef) rfl (fun _ _ _ h => h) (Or.inr ⟨by rfl, rfl⟩) (by assumption) ?_
  try simp only [Act.put, asA, asB, asC]
  refine tkV 6 ⟨some 22, .binOp .gtr 3 (.tmp 21) (.const (.int .i64 89)) 3, 4, "ref.go:61", #[⟨5, .data⟩, ⟨3, .guard⟩], some (3, false)⟩ (v := undef) rfl (fun _ _ _ h => h) (Or.inr ⟨by rfl, rfl⟩) (by assumption) ?_
  try simp only [Act.put, asA, asB, asC]
  refine tkV 7 ⟨some 23, .pick (.tmp 19) (.const (.bool true)) (.tmp 22), 4, "ref.go:61", #[⟨3, .data⟩, ⟨6, .data⟩], none⟩ (v := ?_) rfl (fun _ _ _ h => h) (Or.inl ⟨by rfl, ?_⟩) (by assumption) ?_
  case refine_2 =>
    intro w hSw
    (try dsimp only at hSw)
    (try go_simp)
    all_goals (with_reducible rfl)
  try simp only [Act.put, asA, asB, asC]
  refine tkV 8 ⟨some 24, .move (.tmp 23), 4, "ref.go:61", #[⟨7, .data⟩, ⟨3, .chain⟩], none⟩ (v := ?_) rfl (fun _ _ _ h => h) (Or.inl ⟨by rfl, ?_⟩) (by assumption) ?_
  case refine_2 =>
    intro w hSw
    (try dsimp only at hSw)
    (try go_simp)
    all_goals (with_reducible rfl)
  try simp only [Act.put, asA, asB, asC]
  refine tkV 9 ⟨some 25, .fieldAddr 37 (.tmp 3) 1, 0, "ref.go:61", #[⟨8, .guard⟩], some (8, false)⟩ (v := undef) rfl (fun _ _ _ h => h) (Or.inr ⟨by rfl, rfl⟩) (by assumption) ?_
  try simp only [Act.put, asA, asB, asC]
  refine tkV 10 ⟨some 26, .load 3 (.tmp 25), 3, "ref.go:61", #[⟨9, .data⟩, ⟨8, .guard⟩], some (8, false)⟩ (v := undef) rfl (fun _ _ _ h => h) (Or.inr ⟨by rfl, rfl⟩) (by assumption) ?_
  try simp only [Act.put, asA, asB, asC]
  refine tkV 11 ⟨some 27, .binOp .lss 3 (.tmp 26) (.const (.int .i64 0)) 3, 4, "ref.go:61", #[⟨10, .data⟩, ⟨8, .guard⟩], some (8, false)⟩ (v := undef) rfl (fun _ _ _ h => h) (Or.inr ⟨by rfl, rfl⟩) (by assumption) ?_
  try simp only [Act.put, asA, asB, asC]
  refine tkV 12 ⟨some 28, .pick (.tmp 24) (.const (.bool true)) (.tmp 27), 4, "ref.go:61", #[⟨8, .data⟩, ⟨11, .data⟩], none⟩ (v := ?_) rfl (fun _ _ _ h => h) (Or.inl ⟨by rfl, ?_⟩) (by assumption) ?_
  case refine_2 =>
    intro w hSw
    (try dsimp only at hSw)
    (try go_simp)
    all_goals (with_reducible rfl)
  try simp only [Act.put, asA, asB, asC]
  refine tkV 13 ⟨some 29, .move (.tmp 28), 4, "ref.go:61", #[⟨12, .data⟩, ⟨8, .chain⟩], none⟩ (v := ?_) rfl (fun _ _ _ h => h) (Or.inl ⟨by rfl, ?_⟩) (by assumption) ?_
  case refine_2 =>
    intro w hSw
    (try dsimp only at hSw)
    (try go_simp)
    all_goals (with_reducible rfl)
  try simp only [Act.put, asA, asB, asC]
  refine tkV 14 ⟨some 30, .fieldAddr 37 (.tmp 3) 1, 0, "ref.go:61", #[⟨13, .guard⟩], some (13, false)⟩ (v := undef) rfl (fun _ _ _ h => h) (Or.inr ⟨by rfl, rfl⟩) (by assumption) ?_
  try simp only [Act.put, asA, asB, asC]
  refine tkV 15 ⟨some 31, .load 3 (.tmp 30), 3, "ref.go:61", #[⟨14, .data⟩, ⟨13, .guard⟩], some (13, false)⟩ (v := undef) rfl (fun _ _ _ h => h) (Or.inr ⟨by rfl, rfl⟩) (by assumption) ?_
  try simp only [Act.put, asA, asB, asC]
  refine tkV 16 ⟨some 32, .binOp .gtr 3 (.tmp 31) (.const (.int .i64 89)) 3, 4, "ref.go:61", #[⟨15, .data⟩, ⟨13, .guard⟩], some (13, false)⟩ (v := undef) rfl (fun _ _ _ h => h) (Or.inr ⟨by rfl, rfl⟩) (by assumption) ?_
  try simp only [Act.put, asA, asB, asC]
  refine tkV 17 ⟨some 33, .pick (.tmp 29) (.const (.bool true)) (.tmp 32), 4, "ref.go:61", #[⟨13, .data⟩, ⟨16, .data⟩], none⟩ (v := ?_) rfl (fun _ _ _ h => h) (Or.inl ⟨by rfl, ?_⟩) (by assumption) ?_
  case refine_2 =>
    intro w hSw
    (try dsimp only at hSw)
    (try go_simp)
    all_goals (with_reducible rfl)
  try simp only [Act.put, asA, asB, asC]
  refine tkV 18 ⟨some 34, .move (.tmp 33), 4, "ref.go:61", #[⟨17, .data⟩, ⟨13, .chain⟩], none⟩ (v := ?_) rfl (fun _ _ _ h => h) (Or.inl ⟨by rfl, ?_⟩) (by assumption) ?_
  case refine_2 =>
    intro w hSw
    (try dsimp only at hSw)
    (try go_simp)
    all_goals (with_reducible rfl)
  try simp only [Act.put, asA, asB, asC]
  refine tkV 19 ⟨some 35, .fieldAddr 23 (.tmp 2) 0, 0, "ref.go:61", #[⟨18, .guard⟩], some (18, false)⟩ (v := undef) rfl (fun _ _ _ h => h) (Or.inr ⟨by rfl, rfl⟩) (by assumption) ?_
  try simp only [Act.put, asA, asB, asC]
  refine tkV 20 ⟨some 36, .load 9 (.tmp 35), 9, "ref.go:61", #[⟨19, .data⟩, ⟨18, .guard⟩], some (18, false)⟩ (v := undef) rfl (fun _ _ _ h => h) (Or.inr ⟨by rfl, rfl⟩) (by assumption) ?_
  try simp only [Act.put, asA, asB, asC]
  refine tkV 21 ⟨some 37, .fieldAddr 37 (.tmp 3) 0, 0, "ref.go:61", #[⟨18, .guard⟩], some (18, false)⟩ (v := undef) rfl (fun _ _ _ h => h) (Or.inr ⟨by rfl, rfl⟩) (by assumption) ?_
  try simp only [Act.put, asA, asB, asC]
  refine tkV 22 ⟨some 38, .load 3 (.tmp 37), 3, "ref.go:61", #[⟨21, .data⟩, ⟨18, .guard⟩], some (18, false)⟩ (v := undef) rfl (fun _ _ _ h => h) (Or.inr ⟨by rfl, rfl⟩) (by assumption) ?_
  try simp only [Act.put, asA, asB, asC]
  refine tkV 23 ⟨some 39, .index 9 (.tmp 36) (.tmp 38), 5, "ref.go:61", #[⟨20, .data⟩, ⟨22, .data⟩, ⟨18, .guard⟩], some (18, false)⟩ (v := undef) rfl (fun _ _ _ h => h) (Or.inr ⟨by rfl, rfl⟩) (by assumption) ?_
  try simp only [Act.put, asA, asB, asC]
  refine tkV 25 ⟨some 41, .fieldAddr 23 (.tmp 2) 1, 0, "ref.go:61", #[⟨18, .guard⟩], some (18, false)⟩ (v := undef) rfl (fun _ _ _ h => h) (Or.inr ⟨by rfl, rfl⟩) (by assumption) ?_
  try simp only [Act.put, asA, asB, asC]
  refine tkV 26 ⟨some 42, .load 3 (.tmp 41), 3, "ref.go:61", #[⟨25, .data⟩, ⟨18, .guard⟩], some (18, false)⟩ (v := undef) rfl (fun _ _ _ h => h) (Or.inr ⟨by rfl, rfl⟩) (by assumption) ?_
  try simp only [Act.put, asA, asB, asC]
  refine wpAnyH_ready (rs := [24]) (by kernel_rfl) (by simp) (AllReadyH.cons (o := { dst := some 40, op := Op.call { callee := Callee.value (Operand.func 79), args := #[Operand.tmp 39], argTypes := #[5] }, type := 3, pos := "ref.go:61", after := #[{ on := 23, ground := Ground.data }, { on := 18, ground := Ground.chain }, { on := 18, ground := Ground.guard }], guard := some (18, false) }) rfl (fun K hK => ?_) AllReadyH.nil)
  split
  · rename_i hw
    exact Bool.noConfusion (show false = true from hw)
  refine hK.out _ _ ?_ (fun hHeld => ?_)
  · assumption
  clear hK K
  try simp only [Act.put, asA, asB, asC]
  refine tkV 27 ⟨some 43, .binOp .neq 3 (.tmp 40) (.tmp 42) 3, 4, "ref.go:61", #[⟨24, .data⟩, ⟨26, .data⟩, ⟨18, .guard⟩], some (18, false)⟩ (v := undef) rfl (fun _ _ _ h => h) (Or.inr ⟨by rfl, rfl⟩) (by assumption) ?_
  try simp only [Act.put, asA, asB, asC]
  refine tkV 28 ⟨some 44, .pick (.tmp 34) (.const (.bool true)) (.tmp 43), 4, "ref.go:61", #[⟨18, .data⟩, ⟨27, .data⟩], none⟩ (v := ?_) rfl (fun _ _ _ h => h) (Or.inl ⟨by rfl, ?_⟩) (by assumption) ?_
  case refine_2 =>
    intro w hSw
    (try dsimp only at hSw)
    (try go_simp)
    all_goals (with_reducible rfl)
  try simp only [Act.put, asA, asB, asC]
  refine tkV 29 ⟨some 45, .move (.tmp 44), 4, "ref.go:61", #[⟨28, .data⟩, ⟨24, .chain⟩], none⟩ (v := ?_) rfl (fun _ _ _ h => h) (Or.inl ⟨by rfl, ?_⟩) (by assumption) ?_
  case refine_2 =>
    intro w hSw
    (try dsimp only at hSw)
    (try go_simp)
    all_goals (with_reducible rfl)
  try simp only [Act.put, asA, asB, asC]
  refine tkV 30 ⟨some 46, .fieldAddr 23 (.tmp 2) 0, 0, "ref.go:61", #[⟨29, .guard⟩], some (29, false)⟩ (v := undef) rfl (fun _ _ _ h => h) (Or.inr ⟨by rfl, rfl⟩) (by assumption) ?_
  try simp only [Act.put, asA, asB, asC]
  refine tkV 31 ⟨some 47, .load 9 (.tmp 46), 9, "ref.go:61", #[⟨30, .data⟩, ⟨29, .guard⟩], some (29, false)⟩ (v := undef) rfl (fun _ _ _ h => h) (Or.inr ⟨by rfl, rfl⟩) (by assumption) ?_
  try simp only [Act.put, asA, asB, asC]
  refine tkV 32 ⟨some 48, .fieldAddr 37 (.tmp 3) 0, 0, "ref.go:61", #[⟨29, .guard⟩], some (29, false)⟩ (v := undef) rfl (fun _ _ _ h => h) (Or.inr ⟨by rfl, rfl⟩) (by assumption) ?_
  try simp only [Act.put, asA, asB, asC]
  refine tkV 33 ⟨some 49, .load 3 (.tmp 48), 3, "ref.go:61", #[⟨32, .data⟩, ⟨29, .guard⟩], some (29, false)⟩ (v := undef) rfl (fun _ _ _ h => h) (Or.inr ⟨by rfl, rfl⟩) (by assumption) ?_
  try simp only [Act.put, asA, asB, asC]
  refine tkV 34 ⟨some 50, .fieldAddr 37 (.tmp 3) 1, 0, "ref.go:61", #[⟨29, .guard⟩], some (29, false)⟩ (v := undef) rfl (fun _ _ _ h => h) (Or.inr ⟨by rfl, rfl⟩) (by assumption) ?_
  try simp only [Act.put, asA, asB, asC]
  refine tkV 35 ⟨some 51, .load 3 (.tmp 50), 3, "ref.go:61", #[⟨34, .data⟩, ⟨29, .guard⟩], some (29, false)⟩ (v := undef) rfl (fun _ _ _ h => h) (Or.inr ⟨by rfl, rfl⟩) (by assumption) ?_
  try simp only [Act.put, asA, asB, asC]
  refine wpAnyH_ready (rs := [36]) (by kernel_rfl) (by simp) (AllReadyH.cons (o := { dst := some 52, op := Op.call { callee := Callee.value (Operand.func 80), args := #[Operand.tmp 47, Operand.tmp 49, Operand.tmp 51], argTypes := #[9, 3, 3] }, type := 4, pos := "ref.go:61", after := #[{ on := 31, ground := Ground.data }, { on := 33, ground := Ground.data }, { on := 35, ground := Ground.data }, { on := 29, ground := Ground.chain }, { on := 29, ground := Ground.guard }], guard := some (29, false) }) rfl (fun K hK => ?_) AllReadyH.nil)
  split
  · rename_i hw
    exact Bool.noConfusion (show false = true from hw)
  refine hK.out _ _ ?_ (fun hHeld => ?_)
  · assumption
  clear hK K
  try simp only [Act.put, asA, asB, asC]
  refine tkV 37 ⟨some 53, .unOp .not 4 (.tmp 52), 4, "ref.go:61", #[⟨36, .data⟩, ⟨29, .guard⟩], some (29, false)⟩ (v := undef) rfl (fun _ _ _ h => h) (Or.inr ⟨by rfl, rfl⟩) (by assumption) ?_
  try simp only [Act.put, asA, asB, asC]
  refine tkV 38 ⟨some 54, .pick (.tmp 45) (.const (.bool true)) (.tmp 53), 4, "ref.go:61", #[⟨29, .data⟩, ⟨37, .data⟩], none⟩ (v := ?_) rfl (fun _ _ _ h => h) (Or.inl ⟨by rfl, ?_⟩) (by assumption) ?_
  case refine_2 =>
    intro w hSw
    (try dsimp only at hSw)
    (try go_simp)
    all_goals (with_reducible rfl)
  try simp only [Act.put, asA, asB, asC]
  refine tkV 39 ⟨some 55, .move (.tmp 54), 4, "ref.go:61", #[⟨38, .data⟩, ⟨36, .chain⟩], none⟩ (v := ?_) rfl (fun _ _ _ h => h) (Or.inl ⟨by rfl, ?_⟩) (by assumption) ?_
  case refine_2 =>
    intro w hSw
    (try dsimp only at hSw)
    (try go_simp)
    all_goals (with_reducible rfl)
  try simp only [Act.put, asA, asB, asC]
  refine tkV 40 ⟨some 56, .fieldAddr 23 (.tmp 2) 0, 0, "ref.go:61", #[⟨39, .guard⟩], some (39, false)⟩ (v := undef) rfl (fun _ _ _ h => h) (Or.inr ⟨by rfl, rfl⟩) (by assumption) ?_
  try simp only [Act.put, asA, asB, asC]
  refine tkV 41 ⟨some 57, .load 9 (.tmp 56), 9, "ref.go:61", #[⟨40, .data⟩, ⟨39, .guard⟩], some (39, false)⟩ (v := undef) rfl (fun _ _ _ h => h) (Or.inr ⟨by rfl, rfl⟩) (by assumption) ?_
  try simp only [Act.put, asA, asB, asC]
  refine tkV 42 ⟨some 58, .fieldAddr 37 (.tmp 3) 1, 0, "ref.go:61", #[⟨39, .guard⟩], some (39, false)⟩ (v := undef) rfl (fun _ _ _ h => h) (Or.inr ⟨by rfl, rfl⟩) (by assumption) ?_
  try simp only [Act.put, asA, asB, asC]
  refine tkV 43 ⟨some 59, .load 3 (.tmp 58), 3, "ref.go:61", #[⟨42, .data⟩, ⟨39, .guard⟩], some (39, false)⟩ (v := undef) rfl (fun _ _ _ h => h) (Or.inr ⟨by rfl, rfl⟩) (by assumption) ?_
  try simp only [Act.put, asA, asB, asC]
  refine tkV 44 ⟨some 60, .index 9 (.tmp 57) (.tmp 59), 5, "ref.go:61", #[⟨41, .data⟩, ⟨43, .data⟩, ⟨39, .guard⟩], some (39, false)⟩ (v := undef) rfl (fun _ _ _ h => h) (Or.inr ⟨by rfl, rfl⟩) (by assumption) ?_
  try simp only [Act.put, asA, asB, asC]
  refine wpAnyH_ready (rs := [45]) (by kernel_rfl) (by simp) (AllReadyH.cons (o := { dst := some 61, op := Op.call { callee := Callee.value (Operand.func 81), args := #[Operand.tmp 60], argTypes := #[5] }, type := 5, pos := "ref.go:61", after := #[{ on := 44, ground := Ground.data }, { on := 39, ground := Ground.chain }, { on := 39, ground := Ground.guard }], guard := some (39, false) }) rfl (fun K hK => ?_) AllReadyH.nil)
  split
  · rename_i hw
    exact Bool.noConfusion (show false = true from hw)
  refine hK.out _ _ ?_ (fun hHeld => ?_)
  · assumption
  clear hK K
  try simp only [Act.put, asA, asB, asC]
  refine tkV 46 ⟨some 62, .binOp .eql 5 (.tmp 61) (.const (.int .u8 75)) 5, 4, "ref.go:61", #[⟨45, .data⟩, ⟨39, .guard⟩], some (39, false)⟩ (v := undef) rfl (fun _ _ _ h => h) (Or.inr ⟨by rfl, rfl⟩) (by assumption) ?_
  try simp only [Act.put, asA, asB, asC]
  refine tkV 47 ⟨some 63, .pick (.tmp 55) (.const (.bool true)) (.tmp 62), 4, "ref.go:61", #[⟨39, .data⟩, ⟨46, .data⟩], none⟩ (v := ?_) rfl (fun _ _ _ h => h) (Or.inl ⟨by rfl, ?_⟩) (by assumption) ?_
  case refine_2 =>
    intro w hSw
    (try dsimp only at hSw)
    (try go_simp)
    all_goals (with_reducible rfl)
  try simp only [Act.put, asA, asB, asC]
  refine wpAnyH_done (by kernel_rfl) ?_ _
  go_wp2_with fail
  refine bodyPost_ret (res_pos3 rfl _ _ rfl (mvEnd bR2 (by omega) hB1.drew).1) rfl ⟨rfl, (mvEnd bR2 (by omega) hB1.drew).2⟩
set_option maxRecDepth 100000 in
set_option maxHeartbeats 8000000 in
theorem rapply_a9 (s : ByteArray) (side clock full : Int) (a b : Int) (w : World) (hc : (checkN s side clock full : Int) = 0) (h0 : 0 ≤ a) (h : 89 < a) :
    Calls Tryz.prog 48 #[.agg #[.string s, .int .i64 side, .int .i64 clock, .int .i64 full], .agg #[.int .i64 a, .int .i64 b]] w (Gives w (.tuple #[.agg #[.string ⟨#[]⟩, .int .i64 0, .int .i64 0, .int .i64 0], .int .u8 0, .int .i64 7])) := by
  unfold Gives
  have e0 : decide (a < 0) = false := by simp; omega
  have e1 : decide (89 < a) = true := by simp; omega
  clear h h0
  obtain ⟨W1, hW1⟩ : ∃ W1, ((w.alloc (.cells #[.string s, .int .i64 side, .int .i64 clock, .int .i64 full] 23)).alloc (.cells #[.int .i64 a, .int .i64 b] 37)).alloc (.cells #[.string ⟨#[]⟩, .int .i64 0, .int .i64 0, .int .i64 0] 23) = W1 := ⟨_, rfl⟩
  obtain ⟨hB, bP, bM, bR⟩ := ap_start hW1
  obtain ⟨p0, p1, p2, p3⟩ := ppos_cells bP
  have HC := Lib.hid hc
  have HW := Lib.hid hW1
  clear hc hW1
  go_enter Tryz.func48, Tryz.ntmps48
  go_wp2_with fail
  rw [HW.out]
  have f0 := ppos_frozen bR
  go_wp2_with fail
  refine (rcheck_is s side clock full 0 _ HC.out).mono ?_
  rintro e w1 ⟨rfl, hb⟩
  have bR1 := bR.next hb
  have bM1 := bM.next hb
  have bP1 := bP.next hb
  have hB1 := hB.trans (hb.mono hB.size)
  obtain ⟨t0, t1, t2, t3⟩ := ppos_cells bP1
  have m0 : w1.cell? ⟨w.heap.size + 1, 0, none⟩ = some (.int .i64 a) := bM1.cell 0
  have m1 : w1.cell? ⟨w.heap.size + 1, 1, none⟩ = some (.int .i64 b) := bM1.cell 1
  obtain ⟨g0, g1, g2, g3⟩ := ppos_cells bR1
  obtain ⟨f0, f1, f2, f3⟩ := ppos_frozen bR1
  go_wp2_with fail
  have hS : w1.drew.cell? ⟨w.heap.size, 0, none⟩ = some (.string s) ∧ w1.drew.cell? ⟨w.heap.size, 1, none⟩ = some (.int .i64 side) ∧ w1.drew.cell? ⟨w.heap.size + 1, 0, none⟩ = some (.int .i64 a) ∧ w1.drew.cell? ⟨w.heap.size + 1, 1, none⟩ = some (.int .i64 b) ∧ Below w.heap.size w w1.drew := ⟨t0, t1, m0, m1, hB1.drew⟩
  have bR2 := bR1.next (Below.refl _ _).drew
  refine wp_region_held_drew (S := fun W => W.cell? ⟨w.heap.size, 0, none⟩ = some (.string s) ∧ W.cell? ⟨w.heap.size, 1, none⟩ = some (.int .i64 side) ∧ W.cell? ⟨w.heap.size + 1, 0, none⟩ = some (.int .i64 a) ∧ W.cell? ⟨w.heap.size + 1, 1, none⟩ = some (.int .i64 b) ∧ Below w.heap.size w W) (by kernel_rfl) (hS) (fun hHeld => ?_)
  refine tkV 0 ⟨some 16, .fieldAddr 37 (.tmp 3) 0, 0, "ref.go:61", #[], none⟩ (v := ?_) rfl (fun _ _ _ h => h) (Or.inl ⟨by rfl, ?_⟩) (by assumption) ?_
  case refine_2 =>
    intro w hSw
    (try dsimp only at hSw)
    (try go_simp)
    all_goals (with_reducible rfl)
  try simp only [Act.put, asA, asB, asC]
  refine tkV 1 ⟨some 17, .load 3 (.tmp 16), 3, "ref.go:61", #[⟨0, .data⟩], none⟩ (v := ?_) rfl (fun _ _ _ h => h) (Or.inl ⟨by rfl, ?_⟩) (by assumption) ?_
  case refine_2 =>
    intro w hSw
    (try dsimp only at hSw)
    (try go_simp)
    all_goals (with_reducible rfl)
  try simp only [Act.put, asA, asB, asC]
  refine tkV 2 ⟨some 18, .binOp .lss 3 (.tmp 17) (.const (.int .i64 0)) 3, 4, "ref.go:61", #[⟨1, .data⟩], none⟩ (v := ?_) rfl (fun _ _ _ h => h) (Or.inl ⟨by rfl, ?_⟩) (by assumption) ?_
  case refine_2 =>
    intro w hSw
    (try dsimp only at hSw)
    (try go_simp)
    all_goals (with_reducible rfl)
  try simp only [Act.put, asA, asB, asC]
  refine tkV 3 ⟨some 19, .move (.tmp 18), 4, "ref.go:61", #[⟨2, .data⟩], none⟩ (v := ?_) rfl (fun _ _ _ h => h) (Or.inl ⟨by rfl, ?_⟩) (by assumption) ?_
  case refine_2 =>
    intro w hSw
    (try dsimp only at hSw)
    (try go_simp)
    all_goals (with_reducible rfl)
  try simp only [Act.put, asA, asB, asC]
  refine tkV 4 ⟨some 20, .fieldAddr 37 (.tmp 3) 0, 0, "ref.go:61", #[⟨3, .guard⟩], some (3, false)⟩ (v := ?_) rfl (fun _ _ _ h => h) (Or.inl ⟨by rfl, ?_⟩) (by assumption) ?_
  case refine_2 =>
    intro w hSw
    (try dsimp only at hSw)
    (try go_simp)
    all_goals (with_reducible rfl)
  try simp only [Act.put, asA, asB, asC]
  refine tkV 5 ⟨some 21, .load 3 (.tmp 20), 3, "ref.go:61", #[⟨4, .data⟩, ⟨3, .guard⟩], some (3, false)⟩ (v := ?_) rfl (fun _ _ _ h => h) (Or.inl ⟨by rfl, ?_⟩) (by assumption) ?_
  case refine_2 =>
    intro w hSw
    (try dsimp only at hSw)
    (try go_simp)
    all_goals (with_reducible rfl)
  try simp only [Act.put, asA, asB, asC]
  refine tkV 6 ⟨some 22, .binOp .gtr 3 (.tmp 21) (.const (.int .i64 89)) 3, 4, "ref.go:61", #[⟨5, .data⟩, ⟨3, .guard⟩], some (3, false)⟩ (v := ?_) rfl (fun _ _ _ h => h) (Or.inl ⟨by rfl, ?_⟩) (by assumption) ?_
  case refine_2 =>
    intro w hSw
    (try dsimp only at hSw)
    (try go_simp)
    all_goals (with_reducible rfl)
  try simp only [Act.put, asA, asB, asC]
  refine tkV 7 ⟨some 23, .pick (.tmp 19) (.const (.bool true)) (.tmp 22), 4, "ref.go:61", #[⟨3, .data⟩, ⟨6, .data⟩], none⟩ (v := ?_) rfl (fun _ _ _ h => h) (Or.inl ⟨by rfl, ?_⟩) (by assumption) ?_
  case refine_2 =>
    intro w hSw
    (try dsimp only at hSw)
    (try go_simp)
    all_goals (with_reducible rfl)
  try simp only [Act.put, asA, asB, asC]
  refine tkV 8 ⟨some 24, .move (.tmp 23), 4, "ref.go:61", #[⟨7, .data⟩, ⟨3, .chain⟩], none⟩ (v := ?_) rfl (fun _ _ _ h => h) (Or.inl ⟨by rfl, ?_⟩) (by assumption) ?_
  case refine_2 =>
    intro w hSw
    (try dsimp only at hSw)
    (try go_simp)
    all_goals (with_reducible rfl)
  try simp only [Act.put, asA, asB, asC]
  refine tkV 9 ⟨some 25, .fieldAddr 37 (.tmp 3) 1, 0, "ref.go:61", #[⟨8, .guard⟩], some (8, false)⟩ (v := undef) rfl (fun _ _ _ h => h) (Or.inr ⟨by rfl, rfl⟩) (by assumption) ?_
  try simp only [Act.put, asA, asB, asC]
  refine tkV 10 ⟨some 26, .load 3 (.tmp 25), 3, "ref.go:61", #[⟨9, .data⟩, ⟨8, .guard⟩], some (8, false)⟩ (v := undef) rfl (fun _ _ _ h => h) (Or.inr ⟨by rfl, rfl⟩) (by assumption) ?_
  try simp only [Act.put, asA, asB, asC]
  refine tkV 11 ⟨some 27, .binOp .lss 3 (.tmp 26) (.const (.int .i64 0)) 3, 4, "ref.go:61", #[⟨10, .data⟩, ⟨8, .guard⟩], some (8, false)⟩ (v := undef) rfl (fun _ _ _ h => h) (Or.inr ⟨by rfl, rfl⟩) (by assumption) ?_
  try simp only [Act.put, asA, asB, asC]
  refine tkV 12 ⟨some 28, .pick (.tmp 24) (.const (.bool true)) (.tmp 27), 4, "ref.go:61", #[⟨8, .data⟩, ⟨11, .data⟩], none⟩ (v := ?_) rfl (fun _ _ _ h => h) (Or.inl ⟨by rfl, ?_⟩) (by assumption) ?_
  case refine_2 =>
    intro w hSw
    (try dsimp only at hSw)
    (try go_simp)
    all_goals (with_reducible rfl)
  try simp only [Act.put, asA, asB, asC]
  refine tkV 13 ⟨some 29, .move (.tmp 28), 4, "ref.go:61", #[⟨12, .data⟩, ⟨8, .chain⟩], none⟩ (v := ?_) rfl (fun _ _ _ h => h) (Or.inl ⟨by rfl, ?_⟩) (by assumption) ?_
  case refine_2 =>
    intro w hSw
    (try dsimp only at hSw)
    (try go_simp)
    all_goals (with_reducible rfl)
  try simp only [Act.put, asA, asB, asC]
  refine tkV 14 ⟨some 30, .fieldAddr 37 (.tmp 3) 1, 0, "ref.go:61", #[⟨13, .guard⟩], some (13, false)⟩ (v := undef) rfl (fun _ _ _ h => h) (Or.inr ⟨by rfl, rfl⟩) (by assumption) ?_
  try simp only [Act.put, asA, asB, asC]
  refine tkV 15 ⟨some 31, .load 3 (.tmp 30), 3, "ref.go:61", #[⟨14, .data⟩, ⟨13, .guard⟩], some (13, false)⟩ (v := undef) rfl (fun _ _ _ h => h) (Or.inr ⟨by rfl, rfl⟩) (by assumption) ?_
  try simp only [Act.put, asA, asB, asC]
  refine tkV 16 ⟨some 32, .binOp .gtr 3 (.tmp 31) (.const (.int .i64 89)) 3, 4, "ref.go:61", #[⟨15, .data⟩, ⟨13, .guard⟩], some (13, false)⟩ (v := undef) rfl (fun _ _ _ h => h) (Or.inr ⟨by rfl, rfl⟩) (by assumption) ?_
  try simp only [Act.put, asA, asB, asC]
  refine tkV 17 ⟨some 33, .pick (.tmp 29) (.const (.bool true)) (.tmp 32), 4, "ref.go:61", #[⟨13, .data⟩, ⟨16, .data⟩], none⟩ (v := ?_) rfl (fun _ _ _ h => h) (Or.inl ⟨by rfl, ?_⟩) (by assumption) ?_
  case refine_2 =>
    intro w hSw
    (try dsimp only at hSw)
    (try go_simp)
    all_goals (with_reducible rfl)
  try simp only [Act.put, asA, asB, asC]
  refine tkV 18 ⟨some 34, .move (.tmp 33), 4, "ref.go:61", #[⟨17, .data⟩, ⟨13, .chain⟩], none⟩ (v := ?_) rfl (fun _ _ _ h => h) (Or.inl ⟨by rfl, ?_⟩) (by assumption) ?_
  case refine_2 =>
    intro w hSw
    (try dsimp only at hSw)
    (try go_simp)
    all_goals (with_reducible rfl)
  try simp only [Act.put, asA, asB, asC]
  refine tkV 19 ⟨some 35, .fieldAddr 23 (.tmp 2) 0, 0, "ref.go:61", #[⟨18, .guard⟩], some (18, false)⟩ (v := undef) rfl (fun _ _ _ h => h) (Or.inr ⟨by rfl, rfl⟩) (by assumption) ?_
  try simp only [Act.put, asA, asB, asC]
  refine tkV 20 ⟨some 36, .load 9 (.tmp 35), 9, "ref.go:61", #[⟨19, .data⟩, ⟨18, .guard⟩], some (18, false)⟩ (v := undef) rfl (fun _ _ _ h => h) (Or.inr ⟨by rfl, rfl⟩) (by assumption) ?_
  try simp only [Act.put, asA, asB, asC]
  refine tkV 21 ⟨some 37, .fieldAddr 37 (.tmp 3) 0, 0, "ref.go:61", #[⟨18, .guard⟩], some (18, false)⟩ (v := undef) rfl (fun _ _ _ h => h) (Or.inr ⟨by rfl, rfl⟩) (by assumption) ?_
  try simp only [Act.put, asA, asB, asC]
  refine tkV 22 ⟨some 38, .load 3 (.tmp 37), 3, "ref.go:61", #[⟨21, .data⟩, ⟨18, .guard⟩], some (18, false)⟩ (v := undef) rfl (fun _ _ _ h => h) (Or.inr ⟨by rfl, rfl⟩) (by assumption) ?_
  try simp only [Act.put, asA, asB, asC]
  refine tkV 23 ⟨some 39, .index 9 (.tmp 36) (.tmp 38), 5, "ref.go:61", #[⟨20, .data⟩, ⟨22, .data⟩, ⟨18, .guard⟩], some (18, false)⟩ (v := undef) rfl (fun _ _ _ h => h) (Or.inr ⟨by rfl, rfl⟩) (by assumption) ?_
  try simp only [Act.put, asA, asB, asC]
  refine tkV 25 ⟨some 41, .fieldAddr 23 (.tmp 2) 1, 0, "ref.go:61", #[⟨18, .guard⟩], some (18, false)⟩ (v := undef) rfl (fun _ _ _ h => h) (Or.inr ⟨by rfl, rfl⟩) (by assumption) ?_
  try simp only [Act.put, asA, asB, asC]
  refine tkV 26 ⟨some 42, .load 3 (.tmp 41), 3, "ref.go:61", #[⟨25, .data⟩, ⟨18, .guard⟩], some (18, false)⟩ (v := undef) rfl (fun _ _ _ h => h) (Or.inr ⟨by rfl, rfl⟩) (by assumption) ?_
  try simp only [Act.put, asA, asB, asC]
  refine wpAnyH_ready (rs := [24]) (by kernel_rfl) (by simp) (AllReadyH.cons (o := { dst := some 40, op := Op.call { callee := Callee.value (Operand.func 79), args := #[Operand.tmp 39], argTypes := #[5] }, type := 3, pos := "ref.go:61", after := #[{ on := 23, ground := Ground.data }, { on := 18, ground := Ground.chain }, { on := 18, ground := Ground.guard }], guard := some (18, false) }) rfl (fun K hK => ?_) AllReadyH.nil)
  split
  · rename_i hw
    exact Bool.noConfusion (show false = true from hw)
  refine hK.out _ _ ?_ (fun hHeld => ?_)
  · assumption
  clear hK K
  try simp only [Act.put, asA, asB, asC]
  refine tkV 27 ⟨some 43, .binOp .neq 3 (.tmp 40) (.tmp 42) 3, 4, "ref.go:61", #[⟨24, .data⟩, ⟨26, .data⟩, ⟨18, .guard⟩], some (18, false)⟩ (v := undef) rfl (fun _ _ _ h => h) (Or.inr ⟨by rfl, rfl⟩) (by assumption) ?_
  try simp only [Act.put, asA, asB, asC]
  refine tkV 28 ⟨some 44, .pick (.tmp 34) (.const (.bool true)) (.tmp 43), 4, "ref.go:61", #[⟨18, .data⟩, ⟨27, .data⟩], none⟩ (v := ?_) rfl (fun _ _ _ h => h) (Or.inl ⟨by rfl, ?_⟩) (by assumption) ?_
  case refine_2 =>
    intro w hSw
    (try dsimp only at hSw)
    (try go_simp)
    all_goals (with_reducible rfl)
  try simp only [Act.put, asA, asB, asC]
  refine tkV 29 ⟨some 45, .move (.tmp 44), 4, "ref.go:61", #[⟨28, .data⟩, ⟨24, .chain⟩], none⟩ (v := ?_) rfl (fun _ _ _ h => h) (Or.inl ⟨by rfl, ?_⟩) (by assumption) ?_
  case refine_2 =>
    intro w hSw
    (try dsimp only at hSw)
    (try go_simp)
    all_goals (with_reducible rfl)
  try simp only [Act.put, asA, asB, asC]
  refine tkV 30 ⟨some 46, .fieldAddr 23 (.tmp 2) 0, 0, "ref.go:61", #[⟨29, .guard⟩], some (29, false)⟩ (v := undef) rfl (fun _ _ _ h => h) (Or.inr ⟨by rfl, rfl⟩) (by assumption) ?_
  try simp only [Act.put, asA, asB, asC]
  refine tkV 31 ⟨some 47, .load 9 (.tmp 46), 9, "ref.go:61", #[⟨30, .data⟩, ⟨29, .guard⟩], some (29, false)⟩ (v := undef) rfl (fun _ _ _ h => h) (Or.inr ⟨by rfl, rfl⟩) (by assumption) ?_
  try simp only [Act.put, asA, asB, asC]
  refine tkV 32 ⟨some 48, .fieldAddr 37 (.tmp 3) 0, 0, "ref.go:61", #[⟨29, .guard⟩], some (29, false)⟩ (v := undef) rfl (fun _ _ _ h => h) (Or.inr ⟨by rfl, rfl⟩) (by assumption) ?_
  try simp only [Act.put, asA, asB, asC]
  refine tkV 33 ⟨some 49, .load 3 (.tmp 48), 3, "ref.go:61", #[⟨32, .data⟩, ⟨29, .guard⟩], some (29, false)⟩ (v := undef) rfl (fun _ _ _ h => h) (Or.inr ⟨by rfl, rfl⟩) (by assumption) ?_
  try simp only [Act.put, asA, asB, asC]
  refine tkV 34 ⟨some 50, .fieldAddr 37 (.tmp 3) 1, 0, "ref.go:61", #[⟨29, .guard⟩], some (29, false)⟩ (v := undef) rfl (fun _ _ _ h => h) (Or.inr ⟨by rfl, rfl⟩) (by assumption) ?_
  try simp only [Act.put, asA, asB, asC]
  refine tkV 35 ⟨some 51, .load 3 (.tmp 50), 3, "ref.go:61", #[⟨34, .data⟩, ⟨29, .guard⟩], some (29, false)⟩ (v := undef) rfl (fun _ _ _ h => h) (Or.inr ⟨by rfl, rfl⟩) (by assumption) ?_
  try simp only [Act.put, asA, asB, asC]
  refine wpAnyH_ready (rs := [36]) (by kernel_rfl) (by simp) (AllReadyH.cons (o := { dst := some 52, op := Op.call { callee := Callee.value (Operand.func 80), args := #[Operand.tmp 47, Operand.tmp 49, Operand.tmp 51], argTypes := #[9, 3, 3] }, type := 4, pos := "ref.go:61", after := #[{ on := 31, ground := Ground.data }, { on := 33, ground := Ground.data }, { on := 35, ground := Ground.data }, { on := 29, ground := Ground.chain }, { on := 29, ground := Ground.guard }], guard := some (29, false) }) rfl (fun K hK => ?_) AllReadyH.nil)
  split
  · rename_i hw
    exact Bool.noConfusion (show false = true from hw)
  refine hK.out _ _ ?_ (fun hHeld => ?_)
  · assumption
  clear hK K
  try simp only [Act.put, asA, asB, asC]
  refine tkV 37 ⟨some 53, .unOp .not 4 (.tmp 52), 4, "ref.go:61", #[⟨36, .data⟩, ⟨29, .guard⟩], some (29, false)⟩ (v := undef) rfl (fun _ _ _ h => h) (Or.inr ⟨by rfl, rfl⟩) (by assumption) ?_
  try simp only [Act.put, asA, asB, asC]
  refine tkV 38 ⟨some 54, .pick (.tmp 45) (.const (.bool true)) (.tmp 53), 4, "ref.go:61", #[⟨29, .data⟩, ⟨37, .data⟩], none⟩ (v := ?_) rfl (fun _ _ _ h => h) (Or.inl ⟨by rfl, ?_⟩) (by assumption) ?_
  case refine_2 =>
    intro w hSw
    (try dsimp only at hSw)
    (try go_simp)
    all_goals (with_reducible rfl)
  try simp only [Act.put, asA, asB, asC]
  refine tkV 39 ⟨some 55, .move (.tmp 54), 4, "ref.go:61", #[⟨38, .data⟩, ⟨36, .chain⟩], none⟩ (v := ?_) rfl (fun _ _ _ h => h) (Or.inl ⟨by rfl, ?_⟩) (by assumption) ?_
  case refine_2 =>
    intro w hSw
    (try dsimp only at hSw)
    (try go_simp)
    all_goals (with_reducible rfl)
  try simp only [Act.put, asA, asB, asC]
  refine tkV 40 ⟨some 56, .fieldAddr 23 (.tmp 2) 0, 0, "ref.go:61", #[⟨39, .guard⟩], some (39, false)⟩ (v := undef) rfl (fun _ _ _ h => h) (Or.inr ⟨by rfl, rfl⟩) (by assumption) ?_
  try simp only [Act.put, asA, asB, asC]
  refine tkV 41 ⟨some 57, .load 9 (.tmp 56), 9, "ref.go:61", #[⟨40, .data⟩, ⟨39, .guard⟩], some (39, false)⟩ (v := undef) rfl (fun _ _ _ h => h) (Or.inr ⟨by rfl, rfl⟩) (by assumption) ?_
  try simp only [Act.put, asA, asB, asC]
  refine tkV 42 ⟨some 58, .fieldAddr 37 (.tmp 3) 1, 0, "ref.go:61", #[⟨39, .guard⟩], some (39, false)⟩ (v := undef) rfl (fun _ _ _ h => h) (Or.inr ⟨by rfl, rfl⟩) (by assumption) ?_
  try simp only [Act.put, asA, asB, asC]
  refine tkV 43 ⟨some 59, .load 3 (.tmp 58), 3, "ref.go:61", #[⟨42, .data⟩, ⟨39, .guard⟩], some (39, false)⟩ (v := undef) rfl (fun _ _ _ h => h) (Or.inr ⟨by rfl, rfl⟩) (by assumption) ?_
  try simp only [Act.put, asA, asB, asC]
  refine tkV 44 ⟨some 60, .index 9 (.tmp 57) (.tmp 59), 5, "ref.go:61", #[⟨41, .data⟩, ⟨43, .data⟩, ⟨39, .guard⟩], some (39, false)⟩ (v := undef) rfl (fun _ _ _ h => h) (Or.inr ⟨by rfl, rfl⟩) (by assumption) ?_
  try simp only [Act.put, asA, asB, asC]
  refine wpAnyH_ready (rs := [45]) (by kernel_rfl) (by simp) (AllReadyH.cons (o := { dst := some 61, op := Op.call { callee := Callee.value (Operand.func 81), args := #[Operand.tmp 60], argTypes := #[5] }, type := 5, pos := "ref.go:61", after := #[{ on := 44, ground := Ground.data }, { on := 39, ground := Ground.chain }, { on := 39, ground := Ground.guard }], guard := some (39, false) }) rfl (fun K hK => ?_) AllReadyH.nil)
  split
  · rename_i hw
    exact Bool.noConfusion (show false = true from hw)
  refine hK.out _ _ ?_ (fun hHeld => ?_)
  · assumption
  clear hK K
  try simp only [Act.put, asA, asB, asC]
  refine tkV 46 ⟨some 62, .binOp .eql 5 (.tmp 61) (.const (.int .u8 75)) 5, 4, "ref.go:61", #[⟨45, .data⟩, ⟨39, .guard⟩], some (39, false)⟩ (v := undef) rfl (fun _ _ _ h => h) (Or.inr ⟨by rfl, rfl⟩) (by assumption) ?_
  try simp only [Act.put, asA, asB, asC]
  refine tkV 47 ⟨some 63, .pick (.tmp 55) (.const (.bool true)) (.tmp 62), 4, "ref.go:61", #[⟨39, .data⟩, ⟨46, .data⟩], none⟩ (v := ?_) rfl (fun _ _ _ h => h) (Or.inl ⟨by rfl, ?_⟩) (by assumption) ?_
  case refine_2 =>
    intro w hSw
    (try dsimp only at hSw)
    (try go_simp)
    all_goals (with_reducible rfl)
  try simp only [Act.put, asA, asB, asC]
  refine wpAnyH_done (by kernel_rfl) ?_ _
  go_wp2_with fail
  refine bodyPost_ret (res_pos3 rfl _ _ rfl (mvEnd bR2 (by omega) hB1.drew).1) rfl ⟨rfl, (mvEnd bR2 (by omega) hB1.drew).2⟩
set_option maxRecDepth 100000 in
set_option maxHeartbeats 8000000 in
theorem rapply_b0 (s : ByteArray) (side clock full : Int) (a b : Int) (w : World) (hc : (checkN s side clock full : Int) = 0) (h0 : 0 ≤ a) (h1 : a ≤ 89) (h : b < 0) :
    Calls Tryz.prog 48 #[.agg #[.string s, .int .i64 side, .int .i64 clock, .int .i64 full], .agg #[.int .i64 a, .int .i64 b]] w (Gives w (.tuple #[.agg #[.string ⟨#[]⟩, .int .i64 0, .int .i64 0, .int .i64 0], .int .u8 0, .int .i64 7])) := by
  unfold Gives
  have e0 : decide (a < 0) = false := by simp; omega
  have e1 : decide (89 < a) = false := by simp; omega
  have e2 : decide (b < 0) = true := by simp; omega
  clear h h0 h1
  obtain ⟨W1, hW1⟩ : ∃ W1, ((w.alloc (.cells #[.string s, .int .i64 side, .int .i64 clock, .int .i64 full] 23)).alloc (.cells #[.int .i64 a, .int .i64 b] 37)).alloc (.cells #[.string ⟨#[]⟩, .int .i64 0, .int .i64 0, .int .i64 0] 23) = W1 := ⟨_, rfl⟩
  obtain ⟨hB, bP, bM, bR⟩ := ap_start hW1
  obtain ⟨p0, p1, p2, p3⟩ := ppos_cells bP
  have HC := Lib.hid hc
  have HW := Lib.hid hW1
  clear hc hW1
  go_enter Tryz.func48, Tryz.ntmps48
  go_wp2_with fail
  rw [HW.out]
  have f0 := ppos_frozen bR
  go_wp2_with fail
  refine (rcheck_is s side clock full 0 _ HC.out).mono ?_
  rintro e w1 ⟨rfl, hb⟩
  have bR1 := bR.next hb
  have bM1 := bM.next hb
  have bP1 := bP.next hb
  have hB1 := hB.trans (hb.mono hB.size)
  obtain ⟨t0, t1, t2, t3⟩ := ppos_cells bP1
  have m0 : w1.cell? ⟨w.heap.size + 1, 0, none⟩ = some (.int .i64 a) := bM1.cell 0
  have m1 : w1.cell? ⟨w.heap.size + 1, 1, none⟩ = some (.int .i64 b) := bM1.cell 1
  obtain ⟨g0, g1, g2, g3⟩ := ppos_cells bR1
  obtain ⟨f0, f1, f2, f3⟩ := ppos_frozen bR1
  go_wp2_with fail
  have hS : w1.drew.cell? ⟨w.heap.size, 0, none⟩ = some (.string s) ∧ w1.drew.cell? ⟨w.heap.size, 1, none⟩ = some (.int .i64 side) ∧ w1.drew.cell? ⟨w.heap.size + 1, 0, none⟩ = some (.int .i64 a) ∧ w1.drew.cell? ⟨w.heap.size + 1, 1, none⟩ = some (.int .i64 b) ∧ Below w.heap.size w w1.drew := ⟨t0, t1, m0, m1, hB1.drew⟩
  have bR2 := bR1.next (Below.refl _ _).drew
  refine wp_region_held_drew (S := fun W => W.cell? ⟨w.heap.size, 0, none⟩ = some (.string s) ∧ W.cell? ⟨w.heap.size, 1, none⟩ = some (.int .i64 side) ∧ W.cell? ⟨w.heap.size + 1, 0, none⟩ = some (.int .i64 a) ∧ W.cell? ⟨w.heap.size + 1, 1, none⟩ = some (.int .i64 b) ∧ Below w.heap.size w W) (by kernel_rfl) (hS) (fun hHeld => ?_)
  refine tkV 0 ⟨some 16, .fieldAddr 37 (.tmp 3) 0, 0, "ref.go:61", #[], none⟩ (v := ?_) rfl (fun _ _ _ h => h) (Or.inl ⟨by rfl, ?_⟩) (by assumption) ?_
  case refine_2 =>
    intro w hSw
    (try dsimp only at hSw)
    (try go_simp)
    all_goals (with_reducible rfl)
  try simp only [Act.put, asA, asB, asC]
  refine tkV 1 ⟨some 17, .load 3 (.tmp 16), 3, "ref.go:61", #[⟨0, .data⟩], none⟩ (v := ?_) rfl (fun _ _ _ h => h) (Or.inl ⟨by rfl, ?_⟩) (by assumption) ?_
  case refine_2 =>
    intro w hSw
    (try dsimp only at hSw)
    (try go_simp)
    all_goals (with_reducible rfl)
  try simp only [Act.put, asA, asB, asC]
  refine tkV 2 ⟨some 18, .binOp .lss 3 (.tmp 17) (.const (.int .i64 0)) 3, 4, "ref.go:61", #[⟨1, .data⟩], none⟩ (v := ?_) rfl (fun _ _ _ h => h) (Or.inl ⟨by rfl, ?_⟩) (by assumption) ?_
  case refine_2 =>
    intro w hSw
    (try dsimp only at hSw)
    (try go_simp)
    all_goals (with_reducible rfl)
  try simp only [Act.put, asA, asB, asC]
  refine tkV 3 ⟨some 19, .move (.tmp 18), 4, "ref.go:61", #[⟨2, .data⟩], none⟩ (v := ?_) rfl (fun _ _ _ h => h) (Or.inl ⟨by rfl, ?_⟩) (by assumption) ?_
  case refine_2 =>
    intro w hSw
    (try dsimp only at hSw)
    (try go_simp)
    all_goals (with_reducible rfl)
  try simp only [Act.put, asA, asB, asC]
  refine tkV 4 ⟨some 20, .fieldAddr 37 (.tmp 3) 0, 0, "ref.go:61", #[⟨3, .guard⟩], some (3, false)⟩ (v := ?_) rfl (fun _ _ _ h => h) (Or.inl ⟨by rfl, ?_⟩) (by assumption) ?_
  case refine_2 =>
    intro w hSw
    (try dsimp only at hSw)
    (try go_simp)
    all_goals (with_reducible rfl)
  try simp only [Act.put, asA, asB, asC]
  refine tkV 5 ⟨some 21, .load 3 (.tmp 20), 3, "ref.go:61", #[⟨4, .data⟩, ⟨3, .guard⟩], some (3, false)⟩ (v := ?_) rfl (fun _ _ _ h => h) (Or.inl ⟨by rfl, ?_⟩) (by assumption) ?_
  case refine_2 =>
    intro w hSw
    (try dsimp only at hSw)
    (try go_simp)
    all_goals (with_reducible rfl)
  try simp only [Act.put, asA, asB, asC]
  refine tkV 6 ⟨some 22, .binOp .gtr 3 (.tmp 21) (.const (.int .i64 89)) 3, 4, "ref.go:61", #[⟨5, .data⟩, ⟨3, .guard⟩], some (3, false)⟩ (v := ?_) rfl (fun _ _ _ h => h) (Or.inl ⟨by rfl, ?_⟩) (by assumption) ?_
  case refine_2 =>
    intro w hSw
    (try dsimp only at hSw)
    (try go_simp)
    all_goals (with_reducible rfl)
  try simp only [Act.put, asA, asB, asC]
  refine tkV 7 ⟨some 23, .pick (.tmp 19) (.const (.bool true)) (.tmp 22), 4, "ref.go:61", #[⟨3, .data⟩, ⟨6, .data⟩], none⟩ (v := ?_) rfl (fun _ _ _ h => h) (Or.inl ⟨by rfl, ?_⟩) (by assumption) ?_
  case refine_2 =>
    intro w hSw
    (try dsimp only at hSw)
    (try go_simp)
    all_goals (with_reducible rfl)
  try simp only [Act.put, asA, asB, asC]
  refine tkV 8 ⟨some 24, .move (.tmp 23), 4, "ref.go:61", #[⟨7, .data⟩, ⟨3, .chain⟩], none⟩ (v := ?_) rfl (fun _ _ _ h => h) (Or.inl ⟨by rfl, ?_⟩) (by assumption) ?_
  case refine_2 =>
    intro w hSw
    (try dsimp only at hSw)
    (try go_simp)
    all_goals (with_reducible rfl)
  try simp only [Act.put, asA, asB, asC]
  refine tkV 9 ⟨some 25, .fieldAddr 37 (.tmp 3) 1, 0, "ref.go:61", #[⟨8, .guard⟩], some (8, false)⟩ (v := ?_) rfl (fun _ _ _ h => h) (Or.inl ⟨by rfl, ?_⟩) (by assumption) ?_
  case refine_2 =>
    intro w hSw
    (try dsimp only at hSw)
    (try go_simp)
    all_goals (with_reducible rfl)
  try simp only [Act.put, asA, asB, asC]
  refine tkV 10 ⟨some 26, .load 3 (.tmp 25), 3, "ref.go:61", #[⟨9, .data⟩, ⟨8, .guard⟩], some (8, false)⟩ (v := ?_) rfl (fun _ _ _ h => h) (Or.inl ⟨by rfl, ?_⟩) (by assumption) ?_
  case refine_2 =>
    intro w hSw
    (try dsimp only at hSw)
    (try go_simp)
    all_goals (with_reducible rfl)
  try simp only [Act.put, asA, asB, asC]
  refine tkV 11 ⟨some 27, .binOp .lss 3 (.tmp 26) (.const (.int .i64 0)) 3, 4, "ref.go:61", #[⟨10, .data⟩, ⟨8, .guard⟩], some (8, false)⟩ (v := ?_) rfl (fun _ _ _ h => h) (Or.inl ⟨by rfl, ?_⟩) (by assumption) ?_
  case refine_2 =>
    intro w hSw
    (try dsimp only at hSw)
    (try go_simp)
    all_goals (with_reducible rfl)
  try simp only [Act.put, asA, asB, asC]
  refine tkV 12 ⟨some 28, .pick (.tmp 24) (.const (.bool true)) (.tmp 27), 4, "ref.go:61", #[⟨8, .data⟩, ⟨11, .data⟩], none⟩ (v := ?_) rfl (fun _ _ _ h => h) (Or.inl ⟨by rfl, ?_⟩) (by assumption) ?_
  case refine_2 =>
    intro w hSw
    (try dsimp only at hSw)
    (try go_simp)
    all_goals (with_reducible rfl)
  try simp only [Act.put, asA, asB, asC]
  refine tkV 13 ⟨some 29, .move (.tmp 28), 4, "ref.go:61", #[⟨12, .data⟩, ⟨8, .chain⟩], none⟩ (v := ?_) rfl (fun _ _ _ h => h) (Or.inl ⟨by rfl, ?_⟩) (by assumption) ?_
  case refine_2 =>
    intro w hSw
    (try dsimp only at hSw)
    (try go_simp)
    all_goals (with_reducible rfl)
  try simp only [Act.put, asA, asB, asC]
  refine tkV 14 ⟨some 30, .fieldAddr 37 (.tmp 3) 1, 0, "ref.go:61", #[⟨13, .guard⟩], some (13, false)⟩ (v := undef) rfl (fun _ _ _ h => h) (Or.inr ⟨by rfl, rfl⟩) (by assumption) ?_
  try simp only [Act.put, asA, asB, asC]
  refine tkV 15 ⟨some 31, .load 3 (.tmp 30), 3, "ref.go:61", #[⟨14, .data⟩, ⟨13, .guard⟩], some (13, false)⟩ (v := undef) rfl (fun _ _ _ h => h) (Or.inr ⟨by rfl, rfl⟩) (by assumption) ?_
  try simp only [Act.put, asA, asB, asC]
  refine tkV 16 ⟨some 32, .binOp .gtr 3 (.tmp 31) (.const (.int .i64 89)) 3, 4, "ref.go:61", #[⟨15, .data⟩, ⟨13, .guard⟩], some (13, false)⟩ (v := undef) rfl (fun _ _ _ h => h) (Or.inr ⟨by rfl, rfl⟩) (by assumption) ?_
  try simp only [Act.put, asA, asB, asC]
  refine tkV 17 ⟨some 33, .pick (.tmp 29) (.const (.bool true)) (.tmp 32), 4, "ref.go:61", #[⟨13, .data⟩, ⟨16, .data⟩], none⟩ (v := ?_) rfl (fun _ _ _ h => h) (Or.inl ⟨by rfl, ?_⟩) (by assumption) ?_
  case refine_2 =>
    intro w hSw
    (try dsimp only at hSw)
    (try go_simp)
    all_goals (with_reducible rfl)
  try simp only [Act.put, asA, asB, asC]
  refine tkV 18 ⟨some 34, .move (.tmp 33), 4, "ref.go:61", #[⟨17, .data⟩, ⟨13, .chain⟩], none⟩ (v := ?_) rfl (fun _ _ _ h => h) (Or.inl ⟨by rfl, ?_⟩) (by assumption) ?_
  case refine_2 =>
    intro w hSw
    (try dsimp only at hSw)
    (try go_simp)
    all_goals (with_reducible rfl)
  try simp only [Act.put, asA, asB, asC]
  refine tkV 19 ⟨some 35, .fieldAddr 23 (.tmp 2) 0, 0, "ref.go:61", #[⟨18, .guard⟩], some (18, false)⟩ (v := undef) rfl (fun _ _ _ h => h) (Or.inr ⟨by rfl, rfl⟩) (by assumption) ?_
  try simp only [Act.put, asA, asB, asC]
  refine tkV 20 ⟨some 36, .load 9 (.tmp 35), 9, "ref.go:61", #[⟨19, .data⟩, ⟨18, .guard⟩], some (18, false)⟩ (v := undef) rfl (fun _ _ _ h => h) (Or.inr ⟨by rfl, rfl⟩) (by assumption) ?_
  try simp only [Act.put, asA, asB, asC]
  refine tkV 21 ⟨some 37, .fieldAddr 37 (.tmp 3) 0, 0, "ref.go:61", #[⟨18, .guard⟩], some (18, false)⟩ (v := undef) rfl (fun _ _ _ h => h) (Or.inr ⟨by rfl, rfl⟩) (by assumption) ?_
  try simp only [Act.put, asA, asB, asC]
  refine tkV 22 ⟨some 38, .load 3 (.tmp 37), 3, "ref.go:61", #[⟨21, .data⟩, ⟨18, .guard⟩], some (18, false)⟩ (v := undef) rfl (fun _ _ _ h => h) (Or.inr ⟨by rfl, rfl⟩) (by assumption) ?_
  try simp only [Act.put, asA, asB, asC]
  refine tkV 23 ⟨some 39, .index 9 (.tmp 36) (.tmp 38), 5, "ref.go:61", #[⟨20, .data⟩, ⟨22, .data⟩, ⟨18, .guard⟩], some (18, false)⟩ (v := undef) rfl (fun _ _ _ h => h) (Or.inr ⟨by rfl, rfl⟩) (by assumption) ?_
  try simp only [Act.put, asA, asB, asC]
  refine tkV 25 ⟨some 41, .fieldAddr 23 (.tmp 2) 1, 0, "ref.go:61", #[⟨18, .guard⟩], some (18, false)⟩ (v := undef) rfl (fun _ _ _ h => h) (Or.inr ⟨by rfl, rfl⟩) (by assumption) ?_
  try simp only [Act.put, asA, asB, asC]
  refine tkV 26 ⟨some 42, .load 3 (.tmp 41), 3, "ref.go:61", #[⟨25, .data⟩, ⟨18, .guard⟩], some (18, false)⟩ (v := undef) rfl (fun _ _ _ h => h) (Or.inr ⟨by rfl, rfl⟩) (by assumption) ?_
  try simp only [Act.put, asA, asB, asC]
  refine wpAnyH_ready (rs := [24]) (by kernel_rfl) (by simp) (AllReadyH.cons (o := { dst := some 40, op := Op.call { callee := Callee.value (Operand.func 79), args := #[Operand.tmp 39], argTypes := #[5] }, type := 3, pos := "ref.go:61", after := #[{ on := 23, ground := Ground.data }, { on := 18, ground := Ground.chain }, { on := 18, ground := Ground.guard }], guard := some (18, false) }) rfl (fun K hK => ?_) AllReadyH.nil)
  split
  · rename_i hw
    exact Bool.noConfusion (show false = true from hw)
  refine hK.out _ _ ?_ (fun hHeld => ?_)
  · assumption
  clear hK K
  try simp only [Act.put, asA, asB, asC]
  refine tkV 27 ⟨some 43, .binOp .neq 3 (.tmp 40) (.tmp 42) 3, 4, "ref.go:61", #[⟨24, .data⟩, ⟨26, .data⟩, ⟨18, .guard⟩], some (18, false)⟩ (v := undef) rfl (fun _ _ _ h => h) (Or.inr ⟨by rfl, rfl⟩) (by assumption) ?_
  try simp only [Act.put, asA, asB, asC]
  refine tkV 28 ⟨some 44, .pick (.tmp 34) (.const (.bool true)) (.tmp 43), 4, "ref.go:61", #[⟨18, .data⟩, ⟨27, .data⟩], none⟩ (v := ?_) rfl (fun _ _ _ h => h) (Or.inl ⟨by rfl, ?_⟩) (by assumption) ?_
  case refine_2 =>
    intro w hSw
    (try dsimp only at hSw)
    (try go_simp)
    all_goals (with_reducible rfl)
  try simp only [Act.put, asA, asB, asC]
  refine tkV 29 ⟨some 45, .move (.tmp 44), 4, "ref.go:61", #[⟨28, .data⟩, ⟨24, .chain⟩], none⟩ (v := ?_) rfl (fun _ _ _ h => h) (Or.inl ⟨by rfl, ?_⟩) (by assumption) ?_
  case refine_2 =>
    intro w hSw
    (try dsimp only at hSw)
    (try go_simp)
    all_goals (with_reducible rfl)
  try simp only [Act.put, asA, asB, asC]
  refine tkV 30 ⟨some 46, .fieldAddr 23 (.tmp 2) 0, 0, "ref.go:61", #[⟨29, .guard⟩], some (29, false)⟩ (v := undef) rfl (fun _ _ _ h => h) (Or.inr ⟨by rfl, rfl⟩) (by assumption) ?_
  try simp only [Act.put, asA, asB, asC]
  refine tkV 31 ⟨some 47, .load 9 (.tmp 46), 9, "ref.go:61", #[⟨30, .data⟩, ⟨29, .guard⟩], some (29, false)⟩ (v := undef) rfl (fun _ _ _ h => h) (Or.inr ⟨by rfl, rfl⟩) (by assumption) ?_
  try simp only [Act.put, asA, asB, asC]
  refine tkV 32 ⟨some 48, .fieldAddr 37 (.tmp 3) 0, 0, "ref.go:61", #[⟨29, .guard⟩], some (29, false)⟩ (v := undef) rfl (fun _ _ _ h => h) (Or.inr ⟨by rfl, rfl⟩) (by assumption) ?_
  try simp only [Act.put, asA, asB, asC]
  refine tkV 33 ⟨some 49, .load 3 (.tmp 48), 3, "ref.go:61", #[⟨32, .data⟩, ⟨29, .guard⟩], some (29, false)⟩ (v := undef) rfl (fun _ _ _ h => h) (Or.inr ⟨by rfl, rfl⟩) (by assumption) ?_
  try simp only [Act.put, asA, asB, asC]
  refine tkV 34 ⟨some 50, .fieldAddr 37 (.tmp 3) 1, 0, "ref.go:61", #[⟨29, .guard⟩], some (29, false)⟩ (v := undef) rfl (fun _ _ _ h => h) (Or.inr ⟨by rfl, rfl⟩) (by assumption) ?_
  try simp only [Act.put, asA, asB, asC]
  refine tkV 35 ⟨some 51, .load 3 (.tmp 50), 3, "ref.go:61", #[⟨34, .data⟩, ⟨29, .guard⟩], some (29, false)⟩ (v := undef) rfl (fun _ _ _ h => h) (Or.inr ⟨by rfl, rfl⟩) (by assumption) ?_
  try simp only [Act.put, asA, asB, asC]
  refine wpAnyH_ready (rs := [36]) (by kernel_rfl) (by simp) (AllReadyH.cons (o := { dst := some 52, op := Op.call { callee := Callee.value (Operand.func 80), args := #[Operand.tmp 47, Operand.tmp 49, Operand.tmp 51], argTypes := #[9, 3, 3] }, type := 4, pos := "ref.go:61", after := #[{ on := 31, ground := Ground.data }, { on := 33, ground := Ground.data }, { on := 35, ground := Ground.data }, { on := 29, ground := Ground.chain }, { on := 29, ground := Ground.guard }], guard := some (29, false) }) rfl (fun K hK => ?_) AllReadyH.nil)
  split
  · rename_i hw
    exact Bool.noConfusion (show false = true from hw)
  refine hK.out _ _ ?_ (fun hHeld => ?_)
  · assumption
  clear hK K
  try simp only [Act.put, asA, asB, asC]
  refine tkV 37 ⟨some 53, .unOp .not 4 (.tmp 52), 4, "ref.go:61", #[⟨36, .data⟩, ⟨29, .guard⟩], some (29, false)⟩ (v := undef) rfl (fun _ _ _ h => h) (Or.inr ⟨by rfl, rfl⟩) (by assumption) ?_
  try simp only [Act.put, asA, asB, asC]
  refine tkV 38 ⟨some 54, .pick (.tmp 45) (.const (.bool true)) (.tmp 53), 4, "ref.go:61", #[⟨29, .data⟩, ⟨37, .data⟩], none⟩ (v := ?_) rfl (fun _ _ _ h => h) (Or.inl ⟨by rfl, ?_⟩) (by assumption) ?_
  case refine_2 =>
    intro w hSw
    (try dsimp only at hSw)
    (try go_simp)
    all_goals (with_reducible rfl)
  try simp only [Act.put, asA, asB, asC]
  refine tkV 39 ⟨some 55, .move (.tmp 54), 4, "ref.go:61", #[⟨38, .data⟩, ⟨36, .chain⟩], none⟩ (v := ?_) rfl (fun _ _ _ h => h) (Or.inl ⟨by rfl, ?_⟩) (by assumption) ?_
  case refine_2 =>
    intro w hSw
    (try dsimp only at hSw)
    (try go_simp)
    all_goals (with_reducible rfl)
  try simp only [Act.put, asA, asB, asC]
  refine tkV 40 ⟨some 56, .fieldAddr 23 (.tmp 2) 0, 0, "ref.go:61", #[⟨39, .guard⟩], some (39, false)⟩ (v := undef) rfl (fun _ _ _ h => h) (Or.inr ⟨by rfl, rfl⟩) (by assumption) ?_
  try simp only [Act.put, asA, asB, asC]
  refine tkV 41 ⟨some 57, .load 9 (.tmp 56), 9, "ref.go:61", #[⟨40, .data⟩, ⟨39, .guard⟩], some (39, false)⟩ (v := undef) rfl (fun _ _ _ h => h) (Or.inr ⟨by rfl, rfl⟩) (by assumption) ?_
  try simp only [Act.put, asA, asB, asC]
  refine tkV 42 ⟨some 58, .fieldAddr 37 (.tmp 3) 1, 0, "ref.go:61", #[⟨39, .guard⟩], some (39, false)⟩ (v := undef) rfl (fun _ _ _ h => h) (Or.inr ⟨by rfl, rfl⟩) (by assumption) ?_
  try simp only [Act.put, asA, asB, asC]
  refine tkV 43 ⟨some 59, .load 3 (.tmp 58), 3, "ref.go:61", #[⟨42, .data⟩, ⟨39, .guard⟩], some (39, false)⟩ (v := undef) rfl (fun _ _ _ h => h) (Or.inr ⟨by rfl, rfl⟩) (by assumption) ?_
  try simp only [Act.put, asA, asB, asC]
  refine tkV 44 ⟨some 60, .index 9 (.tmp 57) (.tmp 59), 5, "ref.go:61", #[⟨41, .data⟩, ⟨43, .data⟩, ⟨39, .guard⟩], some (39, false)⟩ (v := undef) rfl (fun _ _ _ h => h) (Or.inr ⟨by rfl, rfl⟩) (by assumption) ?_
  try simp only [Act.put, asA, asB, asC]
  refine wpAnyH_ready (rs := [45]) (by kernel_rfl) (by simp) (AllReadyH.cons (o := { dst := some 61, op := Op.call { callee := Callee.value (Operand.func 81), args := #[Operand.tmp 60], argTypes := #[5] }, type := 5, pos := "ref.go:61", after := #[{ on := 44, ground := Ground.data }, { on := 39, ground := Ground.chain }, { on := 39, ground := Ground.guard }], guard := some (39, false) }) rfl (fun K hK => ?_) AllReadyH.nil)
  split
  · rename_i hw
    exact Bool.noConfusion (show false = true from hw)
  refine hK.out _ _ ?_ (fun hHeld => ?_)
  · assumption
  clear hK K
  try simp only [Act.put, asA, asB, asC]
  refine tkV 46 ⟨some 62, .binOp .eql 5 (.tmp 61) (.const (.int .u8 75)) 5, 4, "ref.go:61", #[⟨45, .data⟩, ⟨39, .guard⟩], some (39, false)⟩ (v := undef) rfl (fun _ _ _ h => h) (Or.inr ⟨by rfl, rfl⟩) (by assumption) ?_
  try simp only [Act.put, asA, asB, asC]
  refine tkV 47 ⟨some 63, .pick (.tmp 55) (.const (.bool true)) (.tmp 62), 4, "ref.go:61", #[⟨39, .data⟩, ⟨46, .data⟩], none⟩ (v := ?_) rfl (fun _ _ _ h => h) (Or.inl ⟨by rfl, ?_⟩) (by assumption) ?_
  case refine_2 =>
    intro w hSw
    (try dsimp only at hSw)
    (try go_simp)
    all_goals (with_reducible rfl)
  try simp only [Act.put, asA, asB, asC]
  refine wpAnyH_done (by kernel_rfl) ?_ _
  go_wp2_with fail
  refine bodyPost_ret (res_pos3 rfl _ _ rfl (mvEnd bR2 (by omega) hB1.drew).1) rfl ⟨rfl, (mvEnd bR2 (by omega) hB1.drew).2⟩
set_option maxRecDepth 100000 in
set_option maxHeartbeats 8000000 in
theorem rapply_b9 (s : ByteArray) (side clock full : Int) (a b : Int) (w : World) (hc : (checkN s side clock full : Int) = 0) (h0 : 0 ≤ a) (h1 : a ≤ 89) (h2 : 0 ≤ b) (h : 89 < b) :
    Calls Tryz.prog 48 #[.agg #[.string s, .int .i64 side, .int .i64 clock, .int .i64 full], .agg #[.int .i64 a, .int .i64 b]] w (Gives w (.tuple #[.agg #[.string ⟨#[]⟩, .int .i64 0, .int .i64 0, .int .i64 0], .int .u8 0, .int .i64 7])) := by
  unfold Gives
  have e0 : decide (a < 0) = false := by simp; omega
  have e1 : decide (89 < a) = false := by simp; omega
  have e2 : decide (b < 0) = false := by simp; omega
  have e3 : decide (89 < b) = true := by simp; omega
  clear h h0 h1 h2
  obtain ⟨W1, hW1⟩ : ∃ W1, ((w.alloc (.cells #[.string s, .int .i64 side, .int .i64 clock, .int .i64 full] 23)).alloc (.cells #[.int .i64 a, .int .i64 b] 37)).alloc (.cells #[.string ⟨#[]⟩, .int .i64 0, .int .i64 0, .int .i64 0] 23) = W1 := ⟨_, rfl⟩
  obtain ⟨hB, bP, bM, bR⟩ := ap_start hW1
  obtain ⟨p0, p1, p2, p3⟩ := ppos_cells bP
  have HC := Lib.hid hc
  have HW := Lib.hid hW1
  clear hc hW1
  go_enter Tryz.func48, Tryz.ntmps48
  go_wp2_with fail
  rw [HW.out]
  have f0 := ppos_frozen bR
  go_wp2_with fail
  refine (rcheck_is s side clock full 0 _ HC.out).mono ?_
  rintro e w1 ⟨rfl, hb⟩
  have bR1 := bR.next hb
  have bM1 := bM.next hb
  have bP1 := bP.next hb
  have hB1 := hB.trans (hb.mono hB.size)
  obtain ⟨t0, t1, t2, t3⟩ := ppos_cells bP1
  have m0 : w1.cell? ⟨w.heap.size + 1, 0, none⟩ = some (.int .i64 a) := bM1.cell 0
  have m1 : w1.cell? ⟨w.heap.size + 1, 1, none⟩ = some (.int .i64 b) := bM1.cell 1
  obtain ⟨g0, g1, g2, g3⟩ := ppos_cells bR1
  obtain ⟨f0, f1, f2, f3⟩ := ppos_frozen bR1
  go_wp2_with fail
  have hS : w1.drew.cell? ⟨w.heap.size, 0, none⟩ = some (.string s) ∧ w1.drew.cell? ⟨w.heap.size, 1, none⟩ = some (.int .i64 side) ∧ w1.drew.cell? ⟨w.heap.size + 1, 0, none⟩ = some (.int .i64 a) ∧ w1.drew.cell? ⟨w.heap.size + 1, 1, none⟩ = some (.int .i64 b) ∧ Below w.heap.size w w1.drew := ⟨t0, t1, m0, m1, hB1.drew⟩
  have bR2 := bR1.next (Below.refl _ _).drew
  refine wp_region_held_drew (S := fun W => W.cell? ⟨w.heap.size, 0, none⟩ = some (.string s) ∧ W.cell? ⟨w.heap.size, 1, none⟩ = some (.int .i64 side) ∧ W.cell? ⟨w.heap.size + 1, 0, none⟩ = some (.int .i64 a) ∧ W.cell? ⟨w.heap.size + 1, 1, none⟩ = some (.int .i64 b) ∧ Below w.heap.size w W) (by kernel_rfl) (hS) (fun hHeld => ?_)
  refine tkV 0 ⟨some 16, .fieldAddr 37 (.tmp 3) 0, 0, "ref.go:61", #[], none⟩ (v := ?_) rfl (fun _ _ _ h => h) (Or.inl ⟨by rfl, ?_⟩) (by assumption) ?_
  case refine_2 =>
    intro w hSw
    (try dsimp only at hSw)
    (try go_simp)
    all_goals (with_reducible rfl)
  try simp only [Act.put, asA, asB, asC]
  refine tkV 1 ⟨some 17, .load 3 (.tmp 16), 3, "ref.go:61", #[⟨0, .data⟩], none⟩ (v := ?_) rfl (fun _ _ _ h => h) (Or.inl ⟨by rfl, ?_⟩) (by assumption) ?_
  case refine_2 =>
    intro w hSw
    (try dsimp only at hSw)
    (try go_simp)
    all_goals (with_reducible rfl)
  try simp only [Act.put, asA, asB, asC]
  refine tkV 2 ⟨some 18, .binOp .lss 3 (.tmp 17) (.const (.int .i64 0)) 3, 4, "ref.go:61", #[⟨1, .data⟩], none⟩ (v := ?_) rfl (fun _ _ _ h => h) (Or.inl ⟨by rfl, ?_⟩) (by assumption) ?_
  case refine_2 =>
    intro w hSw
    (try dsimp only at hSw)
    (try go_simp)
    all_goals (with_reducible rfl)
  try simp only [Act.put, asA, asB, asC]
  refine tkV 3 ⟨some 19, .move (.tmp 18), 4, "ref.go:61", #[⟨2, .data⟩], none⟩ (v := ?_) rfl (fun _ _ _ h => h) (Or.inl ⟨by rfl, ?_⟩) (by assumption) ?_
  case refine_2 =>
    intro w hSw
    (try dsimp only at hSw)
    (try go_simp)
    all_goals (with_reducible rfl)
  try simp only [Act.put, asA, asB, asC]
  refine tkV 4 ⟨some 20, .fieldAddr 37 (.tmp 3) 0, 0, "ref.go:61", #[⟨3, .guard⟩], some (3, false)⟩ (v := ?_) rfl (fun _ _ _ h => h) (Or.inl ⟨by rfl, ?_⟩) (by assumption) ?_
  case refine_2 =>
    intro w hSw
    (try dsimp only at hSw)
    (try go_simp)
    all_goals (with_reducible rfl)
  try simp only [Act.put, asA, asB, asC]
  refine tkV 5 ⟨some 21, .load 3 (.tmp 20), 3, "ref.go:61", #[⟨4, .data⟩, ⟨3, .guard⟩], some (3, false)⟩ (v := ?_) rfl (fun _ _ _ h => h) (Or.inl ⟨by rfl, ?_⟩) (by assumption) ?_
  case refine_2 =>
    intro w hSw
    (try dsimp only at hSw)
    (try go_simp)
    all_goals (with_reducible rfl)
  try simp only [Act.put, asA, asB, asC]
  refine tkV 6 ⟨some 22, .binOp .gtr 3 (.tmp 21) (.const (.int .i64 89)) 3, 4, "ref.go:61", #[⟨5, .data⟩, ⟨3, .guard⟩], some (3, false)⟩ (v := ?_) rfl (fun _ _ _ h => h) (Or.inl ⟨by rfl, ?_⟩) (by assumption) ?_
  case refine_2 =>
    intro w hSw
    (try dsimp only at hSw)
    (try go_simp)
    all_goals (with_reducible rfl)
  try simp only [Act.put, asA, asB, asC]
  refine tkV 7 ⟨some 23, .pick (.tmp 19) (.const (.bool true)) (.tmp 22), 4, "ref.go:61", #[⟨3, .data⟩, ⟨6, .data⟩], none⟩ (v := ?_) rfl (fun _ _ _ h => h) (Or.inl ⟨by rfl, ?_⟩) (by assumption) ?_
  case refine_2 =>
    intro w hSw
    (try dsimp only at hSw)
    (try go_simp)
    all_goals (with_reducible rfl)
  try simp only [Act.put, asA, asB, asC]
  refine tkV 8 ⟨some 24, .move (.tmp 23), 4, "ref.go:61", #[⟨7, .data⟩, ⟨3, .chain⟩], none⟩ (v := ?_) rfl (fun _ _ _ h => h) (Or.inl ⟨by rfl, ?_⟩) (by assumption) ?_
  case refine_2 =>
    intro w hSw
    (try dsimp only at hSw)
    (try go_simp)
    all_goals (with_reducible rfl)
  try simp only [Act.put, asA, asB, asC]
  refine tkV 9 ⟨some 25, .fieldAddr 37 (.tmp 3) 1, 0, "ref.go:61", #[⟨8, .guard⟩], some (8, false)⟩ (v := ?_) rfl (fun _ _ _ h => h) (Or.inl ⟨by rfl, ?_⟩) (by assumption) ?_
  case refine_2 =>
    intro w hSw
    (try dsimp only at hSw)
    (try go_simp)
    all_goals (with_reducible rfl)
  try simp only [Act.put, asA, asB, asC]
  refine tkV 10 ⟨some 26, .load 3 (.tmp 25), 3, "ref.go:61", #[⟨9, .data⟩, ⟨8, .guard⟩], some (8, false)⟩ (v := ?_) rfl (fun _ _ _ h => h) (Or.inl ⟨by rfl, ?_⟩) (by assumption) ?_
  case refine_2 =>
    intro w hSw
    (try dsimp only at hSw)
    (try go_simp)
    all_goals (with_reducible rfl)
  try simp only [Act.put, asA, asB, asC]
  refine tkV 11 ⟨some 27, .binOp .lss 3 (.tmp 26) (.const (.int .i64 0)) 3, 4, "ref.go:61", #[⟨10, .data⟩, ⟨8, .guard⟩], some (8, false)⟩ (v := ?_) rfl (fun _ _ _ h => h) (Or.inl ⟨by rfl, ?_⟩) (by assumption) ?_
  case refine_2 =>
    intro w hSw
    (try dsimp only at hSw)
    (try go_simp)
    all_goals (with_reducible rfl)
  try simp only [Act.put, asA, asB, asC]
  refine tkV 12 ⟨some 28, .pick (.tmp 24) (.const (.bool true)) (.tmp 27), 4, "ref.go:61", #[⟨8, .data⟩, ⟨11, .data⟩], none⟩ (v := ?_) rfl (fun _ _ _ h => h) (Or.inl ⟨by rfl, ?_⟩) (by assumption) ?_
  case refine_2 =>
    intro w hSw
    (try dsimp only at hSw)
    (try go_simp)
    all_goals (with_reducible rfl)
  try simp only [Act.put, asA, asB, asC]
  refine tkV 13 ⟨some 29, .move (.tmp 28), 4, "ref.go:61", #[⟨12, .data⟩, ⟨8, .chain⟩], none⟩ (v := ?_) rfl (fun _ _ _ h => h) (Or.inl ⟨by rfl, ?_⟩) (by assumption) ?_
  case refine_2 =>
    intro w hSw
    (try dsimp only at hSw)
    (try go_simp)
    all_goals (with_reducible rfl)
  try simp only [Act.put, asA, asB, asC]
  refine tkV 14 ⟨some 30, .fieldAddr 37 (.tmp 3) 1, 0, "ref.go:61", #[⟨13, .guard⟩], some (13, false)⟩ (v := ?_) rfl (fun _ _ _ h => h) (Or.inl ⟨by rfl, ?_⟩) (by assumption) ?_
  case refine_2 =>
    intro w hSw
    (try dsimp only at hSw)
    (try go_simp)
    all_goals (with_reducible rfl)
  try simp only [Act.put, asA, asB, asC]
  refine tkV 15 ⟨some 31, .load 3 (.tmp 30), 3, "ref.go:61", #[⟨14, .data⟩, ⟨13, .guard⟩], some (13, false)⟩ (v := ?_) rfl (fun _ _ _ h => h) (Or.inl ⟨by rfl, ?_⟩) (by assumption) ?_
  case refine_2 =>
    intro w hSw
    (try dsimp only at hSw)
    (try go_simp)
    all_goals (with_reducible rfl)
  try simp only [Act.put, asA, asB, asC]
  refine tkV 16 ⟨some 32, .binOp .gtr 3 (.tmp 31) (.const (.int .i64 89)) 3, 4, "ref.go:61", #[⟨15, .data⟩, ⟨13, .guard⟩], some (13, false)⟩ (v := ?_) rfl (fun _ _ _ h => h) (Or.inl ⟨by rfl, ?_⟩) (by assumption) ?_
  case refine_2 =>
    intro w hSw
    (try dsimp only at hSw)
    (try go_simp)
    all_goals (with_reducible rfl)
  try simp only [Act.put, asA, asB, asC]
  refine tkV 17 ⟨some 33, .pick (.tmp 29) (.const (.bool true)) (.tmp 32), 4, "ref.go:61", #[⟨13, .data⟩, ⟨16, .data⟩], none⟩ (v := ?_) rfl (fun _ _ _ h => h) (Or.inl ⟨by rfl, ?_⟩) (by assumption) ?_
  case refine_2 =>
    intro w hSw
    (try dsimp only at hSw)
    (try go_simp)
    all_goals (with_reducible rfl)
  try simp only [Act.put, asA, asB, asC]
  refine tkV 18 ⟨some 34, .move (.tmp 33), 4, "ref.go:61", #[⟨17, .data⟩, ⟨13, .chain⟩], none⟩ (v := ?_) rfl (fun _ _ _ h => h) (Or.inl ⟨by rfl, ?_⟩) (by assumption) ?_
  case refine_2 =>
    intro w hSw
    (try dsimp only at hSw)
    (try go_simp)
    all_goals (with_reducible rfl)
  try simp only [Act.put, asA, asB, asC]
  refine tkV 19 ⟨some 35, .fieldAddr 23 (.tmp 2) 0, 0, "ref.go:61", #[⟨18, .guard⟩], some (18, false)⟩ (v := undef) rfl (fun _ _ _ h => h) (Or.inr ⟨by rfl, rfl⟩) (by assumption) ?_
  try simp only [Act.put, asA, asB, asC]
  refine tkV 20 ⟨some 36, .load 9 (.tmp 35), 9, "ref.go:61", #[⟨19, .data⟩, ⟨18, .guard⟩], some (18, false)⟩ (v := undef) rfl (fun _ _ _ h => h) (Or.inr ⟨by rfl, rfl⟩) (by assumption) ?_
  try simp only [Act.put, asA, asB, asC]
  refine tkV 21 ⟨some 37, .fieldAddr 37 (.tmp 3) 0, 0, "ref.go:61", #[⟨18, .guard⟩], some (18, false)⟩ (v := undef) rfl (fun _ _ _ h => h) (Or.inr ⟨by rfl, rfl⟩) (by assumption) ?_
  try simp only [Act.put, asA, asB, asC]
  refine tkV 22 ⟨some 38, .load 3 (.tmp 37), 3, "ref.go:61", #[⟨21, .data⟩, ⟨18, .guard⟩], some (18, false)⟩ (v := undef) rfl (fun _ _ _ h => h) (Or.inr ⟨by rfl, rfl⟩) (by assumption) ?_
  try simp only [Act.put, asA, asB, asC]
  refine tkV 23 ⟨some 39, .index 9 (.tmp 36) (.tmp 38), 5, "ref.go:61", #[⟨20, .data⟩, ⟨22, .data⟩, ⟨18, .guard⟩], some (18, false)⟩ (v := undef) rfl (fun _ _ _ h => h) (Or.inr ⟨by rfl, rfl⟩) (by assumption) ?_
  try simp only [Act.put, asA, asB, asC]
  refine tkV 25 ⟨some 41, .fieldAddr 23 (.tmp 2) 1, 0, "ref.go:61", #[⟨18, .guard⟩], some (18, false)⟩ (v := undef) rfl (fun _ _ _ h => h) (Or.inr ⟨by rfl, rfl⟩) (by assumption) ?_
  try simp only [Act.put, asA, asB, asC]
  refine tkV 26 ⟨some 42, .load 3 (.tmp 41), 3, "ref.go:61", #[⟨25, .data⟩, ⟨18, .guard⟩], some (18, false)⟩ (v := undef) rfl (fun _ _ _ h => h) (Or.inr ⟨by rfl, rfl⟩) (by assumption) ?_
  try simp only [Act.put, asA, asB, asC]
  refine wpAnyH_ready (rs := [24]) (by kernel_rfl) (by simp) (AllReadyH.cons (o := { dst := some 40, op := Op.call { callee := Callee.value (Operand.func 79), args := #[Operand.tmp 39], argTypes := #[5] }, type := 3, pos := "ref.go:61", after := #[{ on := 23, ground := Ground.data }, { on := 18, ground := Ground.chain }, { on := 18, ground := Ground.guard }], guard := some (18, false) }) rfl (fun K hK => ?_) AllReadyH.nil)
  split
  · rename_i hw
    exact Bool.noConfusion (show false = true from hw)
  refine hK.out _ _ ?_ (fun hHeld => ?_)
  · assumption
  clear hK K
  try simp only [Act.put, asA, asB, asC]
  refine tkV 27 ⟨some 43, .binOp .neq 3 (.tmp 40) (.tmp 42) 3, 4, "ref.go:61", #[⟨24, .data⟩, ⟨26, .data⟩, ⟨18, .guard⟩], some (18, false)⟩ (v := undef) rfl (fun _ _ _ h => h) (Or.inr ⟨by rfl, rfl⟩) (by assumption) ?_
  try simp only [Act.put, asA, asB, asC]
  refine tkV 28 ⟨some 44, .pick (.tmp 34) (.const (.bool true)) (.tmp 43), 4, "ref.go:61", #[⟨18, .data⟩, ⟨27, .data⟩], none⟩ (v := ?_) rfl (fun _ _ _ h => h) (Or.inl ⟨by rfl, ?_⟩) (by assumption) ?_
  case refine_2 =>
    intro w hSw
    (try dsimp only at hSw)
    (try go_simp)
    all_goals (with_reducible rfl)
  try simp only [Act.put, asA, asB, asC]
  refine tkV 29 ⟨some 45, .move (.tmp 44), 4, "ref.go:61", #[⟨28, .data⟩, ⟨24, .chain⟩], none⟩ (v := ?_) rfl (fun _ _ _ h => h) (Or.inl ⟨by rfl, ?_⟩) (by assumption) ?_
  case refine_2 =>
    intro w hSw
    (try dsimp only at hSw)
    (try go_simp)
    all_goals (with_reducible rfl)
  try simp only [Act.put, asA, asB, asC]
  refine tkV 30 ⟨some 46, .fieldAddr 23 (.tmp 2) 0, 0, "ref.go:61", #[⟨29, .guard⟩], some (29, false)⟩ (v := undef) rfl (fun _ _ _ h => h) (Or.inr ⟨by rfl, rfl⟩) (by assumption) ?_
  try simp only [Act.put, asA, asB, asC]
  refine tkV 31 ⟨some 47, .load 9 (.tmp 46), 9, "ref.go:61", #[⟨30, .data⟩, ⟨29, .guard⟩], some (29, false)⟩ (v := undef) rfl (fun _ _ _ h => h) (Or.inr ⟨by rfl, rfl⟩) (by assumption) ?_
  try simp only [Act.put, asA, asB, asC]
  refine tkV 32 ⟨some 48, .fieldAddr 37 (.tmp 3) 0, 0, "ref.go:61", #[⟨29, .guard⟩], some (29, false)⟩ (v := undef) rfl (fun _ _ _ h => h) (Or.inr ⟨by rfl, rfl⟩) (by assumption) ?_
  try simp only [Act.put, asA, asB, asC]
  refine tkV 33 ⟨some 49, .load 3 (.tmp 48), 3, "ref.go:61", #[⟨32, .data⟩, ⟨29, .guard⟩], some (29, false)⟩ (v := undef) rfl (fun _ _ _ h => h) (Or.inr ⟨by rfl, rfl⟩) (by assumption) ?_
  try simp only [Act.put, asA, asB, asC]
  refine tkV 34 ⟨some 50, .fieldAddr 37 (.tmp 3) 1, 0, "ref.go:61", #[⟨29, .guard⟩], some (29, false)⟩ (v := undef) rfl (fun _ _ _ h => h) (Or.inr ⟨by rfl, rfl⟩) (by assumption) ?_
  try simp only [Act.put, asA, asB, asC]
  refine tkV 35 ⟨some 51, .load 3 (.tmp 50), 3, "ref.go:61", #[⟨34, .data⟩, ⟨29, .guard⟩], some (29, false)⟩ (v := undef) rfl (fun _ _ _ h => h) (Or.inr ⟨by rfl, rfl⟩) (by assumption) ?_
  try simp only [Act.put, asA, asB, asC]
  refine wpAnyH_ready (rs := [36]) (by kernel_rfl) (by simp) (AllReadyH.cons (o := { dst := some 52, op := Op.call { callee := Callee.value (Operand.func 80), args := #[Operand.tmp 47, Operand.tmp 49, Operand.tmp 51], argTypes := #[9, 3, 3] }, type := 4, pos := "ref.go:61", after := #[{ on := 31, ground := Ground.data }, { on := 33, ground := Ground.data }, { on := 35, ground := Ground.data }, { on := 29, ground := Ground.chain }, { on := 29, ground := Ground.guard }], guard := some (29, false) }) rfl (fun K hK => ?_) AllReadyH.nil)
  split
  · rename_i hw
    exact Bool.noConfusion (show false = true from hw)
  refine hK.out _ _ ?_ (fun hHeld => ?_)
  · assumption
  clear hK K
  try simp only [Act.put, asA, asB, asC]
  refine tkV 37 ⟨some 53, .unOp .not 4 (.tmp 52), 4, "ref.go:61", #[⟨36, .data⟩, ⟨29, .guard⟩], some (29, false)⟩ (v := undef) rfl (fun _ _ _ h => h) (Or.inr ⟨by rfl, rfl⟩) (by assumption) ?_
  try simp only [Act.put, asA, asB, asC]
  refine tkV 38 ⟨some 54, .pick (.tmp 45) (.const (.bool true)) (.tmp 53), 4, "ref.go:61", #[⟨29, .data⟩, ⟨37, .data⟩], none⟩ (v := ?_) rfl (fun _ _ _ h => h) (Or.inl ⟨by rfl, ?_⟩) (by assumption) ?_
  case refine_2 =>
    intro w hSw
    (try dsimp only at hSw)
    (try go_simp)
    all_goals (with_reducible rfl)
  try simp only [Act.put, asA, asB, asC]
  refine tkV 39 ⟨some 55, .move (.tmp 54), 4, "ref.go:61", #[⟨38, .data⟩, ⟨36, .chain⟩], none⟩ (v := ?_) rfl (fun _ _ _ h => h) (Or.inl ⟨by rfl, ?_⟩) (by assumption) ?_
  case refine_2 =>
    intro w hSw
    (try dsimp only at hSw)
    (try go_simp)
    all_goals (with_reducible rfl)
  try simp only [Act.put, asA, asB, asC]
  refine tkV 40 ⟨some 56, .fieldAddr 23 (.tmp 2) 0, 0, "ref.go:61", #[⟨39, .guard⟩], some (39, false)⟩ (v := undef) rfl (fun _ _ _ h => h) (Or.inr ⟨by rfl, rfl⟩) (by assumption) ?_
  try simp only [Act.put, asA, asB, asC]
  refine tkV 41 ⟨some 57, .load 9 (.tmp 56), 9, "ref.go:61", #[⟨40, .data⟩, ⟨39, .guard⟩], some (39, false)⟩ (v := undef) rfl (fun _ _ _ h => h) (Or.inr ⟨by rfl, rfl⟩) (by assumption) ?_
  try simp only [Act.put, asA, asB, asC]
  refine tkV 42 ⟨some 58, .fieldAddr 37 (.tmp 3) 1, 0, "ref.go:61", #[⟨39, .guard⟩], some (39, false)⟩ (v := undef) rfl (fun _ _ _ h => h) (Or.inr ⟨by rfl, rfl⟩) (by assumption) ?_
  try simp only [Act.put, asA, asB, asC]
  refine tkV 43 ⟨some 59, .load 3 (.tmp 58), 3, "ref.go:61", #[⟨42, .data⟩, ⟨39, .guard⟩], some (39, false)⟩ (v := undef) rfl (fun _ _ _ h => h) (Or.inr ⟨by rfl, rfl⟩) (by assumption) ?_
  try simp only [Act.put, asA, asB, asC]
  refine tkV 44 ⟨some 60, .index 9 (.tmp 57) (.tmp 59), 5, "ref.go:61", #[⟨41, .data⟩, ⟨43, .data⟩, ⟨39, .guard⟩], some (39, false)⟩ (v := undef) rfl (fun _ _ _ h => h) (Or.inr ⟨by rfl, rfl⟩) (by assumption) ?_
  try simp only [Act.put, asA, asB, asC]
  refine wpAnyH_ready (rs := [45]) (by kernel_rfl) (by simp) (AllReadyH.cons (o := { dst := some 61, op := Op.call { callee := Callee.value (Operand.func 81), args := #[Operand.tmp 60], argTypes := #[5] }, type := 5, pos := "ref.go:61", after := #[{ on := 44, ground := Ground.data }, { on := 39, ground := Ground.chain }, { on := 39, ground := Ground.guard }], guard := some (39, false) }) rfl (fun K hK => ?_) AllReadyH.nil)
  split
  · rename_i hw
    exact Bool.noConfusion (show false = true from hw)
  refine hK.out _ _ ?_ (fun hHeld => ?_)
  · assumption
  clear hK K
  try simp only [Act.put, asA, asB, asC]
  refine tkV 46 ⟨some 62, .binOp .eql 5 (.tmp 61) (.const (.int .u8 75)) 5, 4, "ref.go:61", #[⟨45, .data⟩, ⟨39, .guard⟩], some (39, false)⟩ (v := undef) rfl (fun _ _ _ h => h) (Or.inr ⟨by rfl, rfl⟩) (by assumption) ?_
  try simp only [Act.put, asA, asB, asC]
  refine tkV 47 ⟨some 63, .pick (.tmp 55) (.const (.bool true)) (.tmp 62), 4, "ref.go:61", #[⟨39, .data⟩, ⟨46, .data⟩], none⟩ (v := ?_) rfl (fun _ _ _ h => h) (Or.inl ⟨by rfl, ?_⟩) (by assumption) ?_
  case refine_2 =>
    intro w hSw
    (try dsimp only at hSw)
    (try go_simp)
    all_goals (with_reducible rfl)
  try simp only [Act.put, asA, asB, asC]
  refine wpAnyH_done (by kernel_rfl) ?_ _
  go_wp2_with fail
  refine bodyPost_ret (res_pos3 rfl _ _ rfl (mvEnd bR2 (by omega) hB1.drew).1) rfl ⟨rfl, (mvEnd bR2 (by omega) hB1.drew).2⟩
set_option maxRecDepth 100000 in
set_option maxHeartbeats 8000000 in
theorem rapply_side (s : ByteArray) (side clock full : Int) (a b c x k : Nat) (d : Int) (r : Bool) (w : World) (hc : (checkN s side clock full : Int) = 0) (hs : 90 ≤ s.size) (ha : a < 90) (hb : b < 90) (hca : bAt s a = c) (hxb : bAt s b = x) (hd : sideN c = d) (hr : canB s a b = r) (hk : kindN x = k) (h : (d != side) = true) :
    Calls Tryz.prog 48 #[.agg #[.string s, .int .i64 side, .int .i64 clock, .int .i64 full], .agg #[.int .i64 (a : Int), .int .i64 (b : Int)]] w (Gives w (.tuple #[.agg #[.string ⟨#[]⟩, .int .i64 0, .int .i64 0, .int .i64 0], .int .u8 0, .int .i64 7])) := by
  unfold Gives
  have a0 : (0 : Int) ≤ (a : Int) := by omega
  have b0 : (0 : Int) ≤ (b : Int) := by omega
  have a9 : (a : Int) ≤ 89 := by omega
  have b9 : (b : Int) ≤ 89 := by omega
  have hak : s[a].toNat = c := (bAt_eq s a (by omega)).trans hca
  have hbk : s[b].toNat = x := (bAt_eq s b (by omega)).trans hxb
  have e0 : decide ((a : Int) < 0) = false := by simp
  have e1 : decide (89 < (a : Int)) = false := by simp; omega
  have e2 : decide ((b : Int) < 0) = false := by simp
  have e3 : decide (89 < (b : Int)) = false := by simp; omega
  have a90 : (a : Int) < 90 := by omega
  have b90 : (b : Int) < 90 := by omega
  have asz : (a : Int) < (s.size : Int) := by omega
  have bsz : (b : Int) < (s.size : Int) := by omega
  have HD := Lib.hid hd
  have HR := Lib.hid hr
  have HK := Lib.hid hk
  clear hca hxb hd hr hk
  obtain ⟨W1, hW1⟩ : ∃ W1, ((w.alloc (.cells #[.string s, .int .i64 side, .int .i64 clock, .int .i64 full] 23)).alloc (.cells #[.int .i64 (a : Int), .int .i64 (b : Int)] 37)).alloc (.cells #[.string ⟨#[]⟩, .int .i64 0, .int .i64 0, .int .i64 0] 23) = W1 := ⟨_, rfl⟩
  obtain ⟨hB, bP, bM, bR⟩ := ap_start hW1
  obtain ⟨p0, p1, p2, p3⟩ := ppos_cells bP
  have HC := Lib.hid hc
  have HW := Lib.hid hW1
  clear hc hW1
  go_enter Tryz.func48, Tryz.ntmps48
  go_wp2_with fail
  rw [HW.out]
  have f0 := ppos_frozen bR
  go_wp2_with fail
  refine (rcheck_is s side clock full 0 _ HC.out).mono ?_
  rintro e w1 ⟨rfl, hbw⟩
  have bR1 := bR.next hbw
  have bM1 := bM.next hbw
  have bP1 := bP.next hbw
  have hB1 := hB.trans (hbw.mono hB.size)
  obtain ⟨t0, t1, t2, t3⟩ := ppos_cells bP1
  have m0 : w1.cell? ⟨w.heap.size + 1, 0, none⟩ = some (.int .i64 (a : Int)) := bM1.cell 0
  have m1 : w1.cell? ⟨w.heap.size + 1, 1, none⟩ = some (.int .i64 (b : Int)) := bM1.cell 1
  obtain ⟨g0, g1, g2, g3⟩ := ppos_cells bR1
  obtain ⟨f0, f1, f2, f3⟩ := ppos_frozen bR1
  go_wp2_with fail
  have hS : w1.drew.cell? ⟨w.heap.size, 0, none⟩ = some (.string s) ∧ w1.drew.cell? ⟨w.heap.size, 1, none⟩ = some (.int .i64 side) ∧ w1.drew.cell? ⟨w.heap.size + 1, 0, none⟩ = some (.int .i64 (a : Int)) ∧ w1.drew.cell? ⟨w.heap.size + 1, 1, none⟩ = some (.int .i64 (b : Int)) ∧ Below w.heap.size w w1.drew := ⟨t0, t1, m0, m1, hB1.drew⟩
  have bR2 := bR1.next (Below.refl _ _).drew
  refine wp_region_held_drew (S := fun W => W.cell? ⟨w.heap.size, 0, none⟩ = some (.string s) ∧ W.cell? ⟨w.heap.size, 1, none⟩ = some (.int .i64 side) ∧ W.cell? ⟨w.heap.size + 1, 0, none⟩ = some (.int .i64 (a : Int)) ∧ W.cell? ⟨w.heap.size + 1, 1, none⟩ = some (.int .i64 (b : Int)) ∧ Below w.heap.size w W) (by kernel_rfl) (hS) (fun hHeld => ?_)
  refine tkV 0 ⟨some 16, .fieldAddr 37 (.tmp 3) 0, 0, "ref.go:61", #[], none⟩ (v := ?_) rfl (fun _ _ _ h => h) (Or.inl ⟨by rfl, ?_⟩) (by assumption) ?_
  case refine_2 =>
    intro w hSw
    (try dsimp only at hSw)
    (try go_simp)
    all_goals (with_reducible rfl)
  try simp only [Act.put, asA, asB, asC]
  refine tkV 1 ⟨some 17, .load 3 (.tmp 16), 3, "ref.go:61", #[⟨0, .data⟩], none⟩ (v := ?_) rfl (fun _ _ _ h => h) (Or.inl ⟨by rfl, ?_⟩) (by assumption) ?_
  case refine_2 =>
    intro w hSw
    (try dsimp only at hSw)
    (try go_simp)
    all_goals (with_reducible rfl)
  try simp only [Act.put, asA, asB, asC]
  refine tkV 2 ⟨some 18, .binOp .lss 3 (.tmp 17) (.const (.int .i64 0)) 3, 4, "ref.go:61", #[⟨1, .data⟩], none⟩ (v := ?_) rfl (fun _ _ _ h => h) (Or.inl ⟨by rfl, ?_⟩) (by assumption) ?_
  case refine_2 =>
    intro w hSw
    (try dsimp only at hSw)
    (try go_simp)
    all_goals (with_reducible rfl)
  try simp only [Act.put, asA, asB, asC]
  refine tkV 3 ⟨some 19, .move (.tmp 18), 4, "ref.go:61", #[⟨2, .data⟩], none⟩ (v := ?_) rfl (fun _ _ _ h => h) (Or.inl ⟨by rfl, ?_⟩) (by assumption) ?_
  case refine_2 =>
    intro w hSw
    (try dsimp only at hSw)
    (try go_simp)
    all_goals (with_reducible rfl)
  try simp only [Act.put, asA, asB, asC]
  refine tkV 4 ⟨some 20, .fieldAddr 37 (.tmp 3) 0, 0, "ref.go:61", #[⟨3, .guard⟩], some (3, false)⟩ (v := ?_) rfl (fun _ _ _ h => h) (Or.inl ⟨by rfl, ?_⟩) (by assumption) ?_
  case refine_2 =>
    intro w hSw
    (try dsimp only at hSw)
    (try go_simp)
    all_goals (with_reducible rfl)
  try simp only [Act.put, asA, asB, asC]
  refine tkV 5 ⟨some 21, .load 3 (.tmp 20), 3, "ref.go:61", #[⟨4, .data⟩, ⟨3, .guard⟩], some (3, false)⟩ (v := ?_) rfl (fun _ _ _ h => h) (Or.inl ⟨by rfl, ?_⟩) (by assumption) ?_
  case refine_2 =>
    intro w hSw
    (try dsimp only at hSw)
    (try go_simp)
    all_goals (with_reducible rfl)
  try simp only [Act.put, asA, asB, asC]
  refine tkV 6 ⟨some 22, .binOp .gtr 3 (.tmp 21) (.const (.int .i64 89)) 3, 4, "ref.go:61", #[⟨5, .data⟩, ⟨3, .guard⟩], some (3, false)⟩ (v := ?_) rfl (fun _ _ _ h => h) (Or.inl ⟨by rfl, ?_⟩) (by assumption) ?_
  case refine_2 =>
    intro w hSw
    (try dsimp only at hSw)
    (try go_simp)
    all_goals (with_reducible rfl)
  try simp only [Act.put, asA, asB, asC]
  refine tkV 7 ⟨some 23, .pick (.tmp 19) (.const (.bool true)) (.tmp 22), 4, "ref.go:61", #[⟨3, .data⟩, ⟨6, .data⟩], none⟩ (v := ?_) rfl (fun _ _ _ h => h) (Or.inl ⟨by rfl, ?_⟩) (by assumption) ?_
  case refine_2 =>
    intro w hSw
    (try dsimp only at hSw)
    (try go_simp)
    all_goals (with_reducible rfl)
  try simp only [Act.put, asA, asB, asC]
  refine tkV 8 ⟨some 24, .move (.tmp 23), 4, "ref.go:61", #[⟨7, .data⟩, ⟨3, .chain⟩], none⟩ (v := ?_) rfl (fun _ _ _ h => h) (Or.inl ⟨by rfl, ?_⟩) (by assumption) ?_
  case refine_2 =>
    intro w hSw
    (try dsimp only at hSw)
    (try go_simp)
    all_goals (with_reducible rfl)
  try simp only [Act.put, asA, asB, asC]
  refine tkV 9 ⟨some 25, .fieldAddr 37 (.tmp 3) 1, 0, "ref.go:61", #[⟨8, .guard⟩], some (8, false)⟩ (v := ?_) rfl (fun _ _ _ h => h) (Or.inl ⟨by rfl, ?_⟩) (by assumption) ?_
  case refine_2 =>
    intro w hSw
    (try dsimp only at hSw)
    (try go_simp)
    all_goals (with_reducible rfl)
  try simp only [Act.put, asA, asB, asC]
  refine tkV 10 ⟨some 26, .load 3 (.tmp 25), 3, "ref.go:61", #[⟨9, .data⟩, ⟨8, .guard⟩], some (8, false)⟩ (v := ?_) rfl (fun _ _ _ h => h) (Or.inl ⟨by rfl, ?_⟩) (by assumption) ?_
  case refine_2 =>
    intro w hSw
    (try dsimp only at hSw)
    (try go_simp)
    all_goals (with_reducible rfl)
  try simp only [Act.put, asA, asB, asC]
  refine tkV 11 ⟨some 27, .binOp .lss 3 (.tmp 26) (.const (.int .i64 0)) 3, 4, "ref.go:61", #[⟨10, .data⟩, ⟨8, .guard⟩], some (8, false)⟩ (v := ?_) rfl (fun _ _ _ h => h) (Or.inl ⟨by rfl, ?_⟩) (by assumption) ?_
  case refine_2 =>
    intro w hSw
    (try dsimp only at hSw)
    (try go_simp)
    all_goals (with_reducible rfl)
  try simp only [Act.put, asA, asB, asC]
  refine tkV 12 ⟨some 28, .pick (.tmp 24) (.const (.bool true)) (.tmp 27), 4, "ref.go:61", #[⟨8, .data⟩, ⟨11, .data⟩], none⟩ (v := ?_) rfl (fun _ _ _ h => h) (Or.inl ⟨by rfl, ?_⟩) (by assumption) ?_
  case refine_2 =>
    intro w hSw
    (try dsimp only at hSw)
    (try go_simp)
    all_goals (with_reducible rfl)
  try simp only [Act.put, asA, asB, asC]
  refine tkV 13 ⟨some 29, .move (.tmp 28), 4, "ref.go:61", #[⟨12, .data⟩, ⟨8, .chain⟩], none⟩ (v := ?_) rfl (fun _ _ _ h => h) (Or.inl ⟨by rfl, ?_⟩) (by assumption) ?_
  case refine_2 =>
    intro w hSw
    (try dsimp only at hSw)
    (try go_simp)
    all_goals (with_reducible rfl)
  try simp only [Act.put, asA, asB, asC]
  refine tkV 14 ⟨some 30, .fieldAddr 37 (.tmp 3) 1, 0, "ref.go:61", #[⟨13, .guard⟩], some (13, false)⟩ (v := ?_) rfl (fun _ _ _ h => h) (Or.inl ⟨by rfl, ?_⟩) (by assumption) ?_
  case refine_2 =>
    intro w hSw
    (try dsimp only at hSw)
    (try go_simp)
    all_goals (with_reducible rfl)
  try simp only [Act.put, asA, asB, asC]
  refine tkV 15 ⟨some 31, .load 3 (.tmp 30), 3, "ref.go:61", #[⟨14, .data⟩, ⟨13, .guard⟩], some (13, false)⟩ (v := ?_) rfl (fun _ _ _ h => h) (Or.inl ⟨by rfl, ?_⟩) (by assumption) ?_
  case refine_2 =>
    intro w hSw
    (try dsimp only at hSw)
    (try go_simp)
    all_goals (with_reducible rfl)
  try simp only [Act.put, asA, asB, asC]
  refine tkV 16 ⟨some 32, .binOp .gtr 3 (.tmp 31) (.const (.int .i64 89)) 3, 4, "ref.go:61", #[⟨15, .data⟩, ⟨13, .guard⟩], some (13, false)⟩ (v := ?_) rfl (fun _ _ _ h => h) (Or.inl ⟨by rfl, ?_⟩) (by assumption) ?_
  case refine_2 =>
    intro w hSw
    (try dsimp only at hSw)
    (try go_simp)
    all_goals (with_reducible rfl)
  try simp only [Act.put, asA, asB, asC]
  refine tkV 17 ⟨some 33, .pick (.tmp 29) (.const (.bool true)) (.tmp 32), 4, "ref.go:61", #[⟨13, .data⟩, ⟨16, .data⟩], none⟩ (v := ?_) rfl (fun _ _ _ h => h) (Or.inl ⟨by rfl, ?_⟩) (by assumption) ?_
  case refine_2 =>
    intro w hSw
    (try dsimp only at hSw)
    (try go_simp)
    all_goals (with_reducible rfl)
  try simp only [Act.put, asA, asB, asC]
  refine tkV 18 ⟨some 34, .move (.tmp 33), 4, "ref.go:61", #[⟨17, .data⟩, ⟨13, .chain⟩], none⟩ (v := ?_) rfl (fun _ _ _ h => h) (Or.inl ⟨by rfl, ?_⟩) (by assumption) ?_
  case refine_2 =>
    intro w hSw
    (try dsimp only at hSw)
    (try go_simp)
    all_goals (with_reducible rfl)
  try simp only [Act.put, asA, asB, asC]
  refine tkV 19 ⟨some 35, .fieldAddr 23 (.tmp 2) 0, 0, "ref.go:61", #[⟨18, .guard⟩], some (18, false)⟩ (v := ?_) rfl (fun _ _ _ h => h) (Or.inl ⟨by rfl, ?_⟩) (by assumption) ?_
  case refine_2 =>
    intro w hSw
    (try dsimp only at hSw)
    (try go_simp)
    all_goals (with_reducible rfl)
  try simp only [Act.put, asA, asB, asC]
  refine tkV 20 ⟨some 36, .load 9 (.tmp 35), 9, "ref.go:61", #[⟨19, .data⟩, ⟨18, .guard⟩], some (18, false)⟩ (v := ?_) rfl (fun _ _ _ h => h) (Or.inl ⟨by rfl, ?_⟩) (by assumption) ?_
  case refine_2 =>
    intro w hSw
    (try dsimp only at hSw)
    (try go_simp)
    all_goals (with_reducible rfl)
  try simp only [Act.put, asA, asB, asC]
  refine tkV 21 ⟨some 37, .fieldAddr 37 (.tmp 3) 0, 0, "ref.go:61", #[⟨18, .guard⟩], some (18, false)⟩ (v := ?_) rfl (fun _ _ _ h => h) (Or.inl ⟨by rfl, ?_⟩) (by assumption) ?_
  case refine_2 =>
    intro w hSw
    (try dsimp only at hSw)
    (try go_simp)
    all_goals (with_reducible rfl)
  try simp only [Act.put, asA, asB, asC]
  refine tkV 22 ⟨some 38, .load 3 (.tmp 37), 3, "ref.go:61", #[⟨21, .data⟩, ⟨18, .guard⟩], some (18, false)⟩ (v := ?_) rfl (fun _ _ _ h => h) (Or.inl ⟨by rfl, ?_⟩) (by assumption) ?_
  case refine_2 =>
    intro w hSw
    (try dsimp only at hSw)
    (try go_simp)
    all_goals (with_reducible rfl)
  try simp only [Act.put, asA, asB, asC]
  refine tkV 23 ⟨some 39, .index 9 (.tmp 36) (.tmp 38), 5, "ref.go:61", #[⟨20, .data⟩, ⟨22, .data⟩, ⟨18, .guard⟩], some (18, false)⟩ (v := ?_) rfl (fun _ _ _ h => h) (Or.inl ⟨by rfl, ?_⟩) (by assumption) ?_
  case refine_2 =>
    intro w hSw
    (try dsimp only at hSw)
    (try go_simp)
    all_goals (with_reducible rfl)
  try simp only [Act.put, asA, asB, asC]
  refine tkV 25 ⟨some 41, .fieldAddr 23 (.tmp 2) 1, 0, "ref.go:61", #[⟨18, .guard⟩], some (18, false)⟩ (v := ?_) rfl (fun _ _ _ h => h) (Or.inl ⟨by rfl, ?_⟩) (by assumption) ?_
  case refine_2 =>
    intro w hSw
    (try dsimp only at hSw)
    (try go_simp)
    all_goals (with_reducible rfl)
  try simp only [Act.put, asA, asB, asC]
  refine tkV 26 ⟨some 42, .load 3 (.tmp 41), 3, "ref.go:61", #[⟨25, .data⟩, ⟨18, .guard⟩], some (18, false)⟩ (v := ?_) rfl (fun _ _ _ h => h) (Or.inl ⟨by rfl, ?_⟩) (by assumption) ?_
  case refine_2 =>
    intro w hSw
    (try dsimp only at hSw)
    (try go_simp)
    all_goals (with_reducible rfl)
  try simp only [Act.put, asA, asB, asC]
  refine wpAnyH_ready (rs := [24]) (by kernel_rfl) (by simp) (AllReadyH.cons (o := { dst := some 40, op := Op.call { callee := Callee.value (Operand.func 79), args := #[Operand.tmp 39], argTypes := #[5] }, type := 3, pos := "ref.go:61", after := #[{ on := 23, ground := Ground.data }, { on := 18, ground := Ground.chain }, { on := 18, ground := Ground.guard }], guard := some (18, false) }) rfl (fun K hK => ?_) AllReadyH.nil)
  go_simp
  refine (rside_is c d _ HD.out).mono ?_; rintro e w2 ⟨rfl, rfl⟩
  refine hK.out _ _ ?_ (fun hHeld => ?_)
  · exact hHeld
  clear hK K
  refine tkV 27 ⟨some 43, .binOp .neq 3 (.tmp 40) (.tmp 42) 3, 4, "ref.go:61", #[⟨24, .data⟩, ⟨26, .data⟩, ⟨18, .guard⟩], some (18, false)⟩ (v := ?_) rfl (fun _ _ _ h => h) (Or.inl ⟨by rfl, ?_⟩) (by assumption) ?_
  case refine_2 =>
    intro w hSw
    (try dsimp only at hSw)
    (try go_simp)
    all_goals (with_reducible rfl)
  try simp only [Act.put, asA, asB, asC]
  refine tkV 28 ⟨some 44, .pick (.tmp 34) (.const (.bool true)) (.tmp 43), 4, "ref.go:61", #[⟨18, .data⟩, ⟨27, .data⟩], none⟩ (v := ?_) rfl (fun _ _ _ h => h) (Or.inl ⟨by rfl, ?_⟩) (by assumption) ?_
  case refine_2 =>
    intro w hSw
    (try dsimp only at hSw)
    (try go_simp)
    all_goals (with_reducible rfl)
  try simp only [Act.put, asA, asB, asC]
  refine tkV 29 ⟨some 45, .move (.tmp 44), 4, "ref.go:61", #[⟨28, .data⟩, ⟨24, .chain⟩], none⟩ (v := ?_) rfl (fun _ _ _ h => h) (Or.inl ⟨by rfl, ?_⟩) (by assumption) ?_
  case refine_2 =>
    intro w hSw
    (try dsimp only at hSw)
    (try go_simp)
    all_goals (with_reducible rfl)
  try simp only [Act.put, asA, asB, asC]
  refine tkV 30 ⟨some 46, .fieldAddr 23 (.tmp 2) 0, 0, "ref.go:61", #[⟨29, .guard⟩], some (29, false)⟩ (v := undef) rfl (fun _ _ _ h => h) (Or.inr ⟨by rfl, rfl⟩) (by assumption) ?_
  try simp only [Act.put, asA, asB, asC]
  refine tkV 31 ⟨some 47, .load 9 (.tmp 46), 9, "ref.go:61", #[⟨30, .data⟩, ⟨29, .guard⟩], some (29, false)⟩ (v := undef) rfl (fun _ _ _ h => h) (Or.inr ⟨by rfl, rfl⟩) (by assumption) ?_
  try simp only [Act.put, asA, asB, asC]
  refine tkV 32 ⟨some 48, .fieldAddr 37 (.tmp 3) 0, 0, "ref.go:61", #[⟨29, .guard⟩], some (29, false)⟩ (v := undef) rfl (fun _ _ _ h => h) (Or.inr ⟨by rfl, rfl⟩) (by assumption) ?_
  try simp only [Act.put, asA, asB, asC]
  refine tkV 33 ⟨some 49, .load 3 (.tmp 48), 3, "ref.go:61", #[⟨32, .data⟩, ⟨29, .guard⟩], some (29, false)⟩ (v := undef) rfl (fun _ _ _ h => h) (Or.inr ⟨by rfl, rfl⟩) (by assumption) ?_
  try simp only [Act.put, asA, asB, asC]
  refine tkV 34 ⟨some 50, .fieldAddr 37 (.tmp 3) 1, 0, "ref.go:61", #[⟨29, .guard⟩], some (29, false)⟩ (v := undef) rfl (fun _ _ _ h => h) (Or.inr ⟨by rfl, rfl⟩) (by assumption) ?_
  try simp only [Act.put, asA, asB, asC]
  refine tkV 35 ⟨some 51, .load 3 (.tmp 50), 3, "ref.go:61", #[⟨34, .data⟩, ⟨29, .guard⟩], some (29, false)⟩ (v := undef) rfl (fun _ _ _ h => h) (Or.inr ⟨by rfl, rfl⟩) (by assumption) ?_
  try simp only [Act.put, asA, asB, asC]
  refine wpAnyH_ready (rs := [36]) (by kernel_rfl) (by simp) (AllReadyH.cons (o := { dst := some 52, op := Op.call { callee := Callee.value (Operand.func 80), args := #[Operand.tmp 47, Operand.tmp 49, Operand.tmp 51], argTypes := #[9, 3, 3] }, type := 4, pos := "ref.go:61", after := #[{ on := 31, ground := Ground.data }, { on := 33, ground := Ground.data }, { on := 35, ground := Ground.data }, { on := 29, ground := Ground.chain }, { on := 29, ground := Ground.guard }], guard := some (29, false) }) rfl (fun K hK => ?_) AllReadyH.nil)
  split
  · rename_i hw
    exact Bool.noConfusion (show false = true from hw)
  refine hK.out _ _ ?_ (fun hHeld => ?_)
  · assumption
  clear hK K
  try simp only [Act.put, asA, asB, asC]
  refine tkV 37 ⟨some 53, .unOp .not 4 (.tmp 52), 4, "ref.go:61", #[⟨36, .data⟩, ⟨29, .guard⟩], some (29, false)⟩ (v := undef) rfl (fun _ _ _ h => h) (Or.inr ⟨by rfl, rfl⟩) (by assumption) ?_
  try simp only [Act.put, asA, asB, asC]
  refine tkV 38 ⟨some 54, .pick (.tmp 45) (.const (.bool true)) (.tmp 53), 4, "ref.go:61", #[⟨29, .data⟩, ⟨37, .data⟩], none⟩ (v := ?_) rfl (fun _ _ _ h => h) (Or.inl ⟨by rfl, ?_⟩) (by assumption) ?_
  case refine_2 =>
    intro w hSw
    (try dsimp only at hSw)
    (try go_simp)
    all_goals (with_reducible rfl)
  try simp only [Act.put, asA, asB, asC]
  refine tkV 39 ⟨some 55, .move (.tmp 54), 4, "ref.go:61", #[⟨38, .data⟩, ⟨36, .chain⟩], none⟩ (v := ?_) rfl (fun _ _ _ h => h) (Or.inl ⟨by rfl, ?_⟩) (by assumption) ?_
  case refine_2 =>
    intro w hSw
    (try dsimp only at hSw)
    (try go_simp)
    all_goals (with_reducible rfl)
  try simp only [Act.put, asA, asB, asC]
  refine tkV 40 ⟨some 56, .fieldAddr 23 (.tmp 2) 0, 0, "ref.go:61", #[⟨39, .guard⟩], some (39, false)⟩ (v := undef) rfl (fun _ _ _ h => h) (Or.inr ⟨by rfl, rfl⟩) (by assumption) ?_
  try simp only [Act.put, asA, asB, asC]
  refine tkV 41 ⟨some 57, .load 9 (.tmp 56), 9, "ref.go:61", #[⟨40, .data⟩, ⟨39, .guard⟩], some (39, false)⟩ (v := undef) rfl (fun _ _ _ h => h) (Or.inr ⟨by rfl, rfl⟩) (by assumption) ?_
  try simp only [Act.put, asA, asB, asC]
  refine tkV 42 ⟨some 58, .fieldAddr 37 (.tmp 3) 1, 0, "ref.go:61", #[⟨39, .guard⟩], some (39, false)⟩ (v := undef) rfl (fun _ _ _ h => h) (Or.inr ⟨by rfl, rfl⟩) (by assumption) ?_
  try simp only [Act.put, asA, asB, asC]
  refine tkV 43 ⟨some 59, .load 3 (.tmp 58), 3, "ref.go:61", #[⟨42, .data⟩, ⟨39, .guard⟩], some (39, false)⟩ (v := undef) rfl (fun _ _ _ h => h) (Or.inr ⟨by rfl, rfl⟩) (by assumption) ?_
  try simp only [Act.put, asA, asB, asC]
  refine tkV 44 ⟨some 60, .index 9 (.tmp 57) (.tmp 59), 5, "ref.go:61", #[⟨41, .data⟩, ⟨43, .data⟩, ⟨39, .guard⟩], some (39, false)⟩ (v := undef) rfl (fun _ _ _ h => h) (Or.inr ⟨by rfl, rfl⟩) (by assumption) ?_
  try simp only [Act.put, asA, asB, asC]
  refine wpAnyH_ready (rs := [45]) (by kernel_rfl) (by simp) (AllReadyH.cons (o := { dst := some 61, op := Op.call { callee := Callee.value (Operand.func 81), args := #[Operand.tmp 60], argTypes := #[5] }, type := 5, pos := "ref.go:61", after := #[{ on := 44, ground := Ground.data }, { on := 39, ground := Ground.chain }, { on := 39, ground := Ground.guard }], guard := some (39, false) }) rfl (fun K hK => ?_) AllReadyH.nil)
  split
  · rename_i hw
    exact Bool.noConfusion (show false = true from hw)
  refine hK.out _ _ ?_ (fun hHeld => ?_)
  · assumption
  clear hK K
  try simp only [Act.put, asA, asB, asC]
  refine tkV 46 ⟨some 62, .binOp .eql 5 (.tmp 61) (.const (.int .u8 75)) 5, 4, "ref.go:61", #[⟨45, .data⟩, ⟨39, .guard⟩], some (39, false)⟩ (v := undef) rfl (fun _ _ _ h => h) (Or.inr ⟨by rfl, rfl⟩) (by assumption) ?_
  try simp only [Act.put, asA, asB, asC]
  refine tkV 47 ⟨some 63, .pick (.tmp 55) (.const (.bool true)) (.tmp 62), 4, "ref.go:61", #[⟨39, .data⟩, ⟨46, .data⟩], none⟩ (v := ?_) rfl (fun _ _ _ h => h) (Or.inl ⟨by rfl, ?_⟩) (by assumption) ?_
  case refine_2 =>
    intro w hSw
    (try dsimp only at hSw)
    (try go_simp)
    all_goals (with_reducible rfl)
  try simp only [Act.put, asA, asB, asC]
  refine wpAnyH_done (by kernel_rfl) ?_ _
  go_wp2_with fail
  refine bodyPost_ret (res_pos3 rfl _ _ rfl (mvEnd bR2 (by omega) hB1.drew).1) rfl ⟨rfl, (mvEnd bR2 (by omega) hB1.drew).2⟩
set_option maxRecDepth 100000 in
set_option maxHeartbeats 8000000 in
theorem rapply_fast (s : ByteArray) (side clock full : Int) (a b c x k : Nat) (d : Int) (r : Bool) (w : World) (hc : (checkN s side clock full : Int) = 0) (hs : 90 ≤ s.size) (ha : a < 90) (hb : b < 90) (hca : bAt s a = c) (hxb : bAt s b = x) (hd : sideN c = d) (hr : canB s a b = r) (hk : kindN x = k) (h : (d != side) = false) (hf : r = false) :
    Calls Tryz.prog 48 #[.agg #[.string s, .int .i64 side, .int .i64 clock, .int .i64 full], .agg #[.int .i64 (a : Int), .int .i64 (b : Int)]] w (Gives w (.tuple #[.agg #[.string ⟨#[]⟩, .int .i64 0, .int .i64 0, .int .i64 0], .int .u8 0, .int .i64 7])) := by
  unfold Gives
  subst hf
  have a0 : (0 : Int) ≤ (a : Int) := by omega
  have b0 : (0 : Int) ≤ (b : Int) := by omega
  have a9 : (a : Int) ≤ 89 := by omega
  have b9 : (b : Int) ≤ 89 := by omega
  have hak : s[a].toNat = c := (bAt_eq s a (by omega)).trans hca
  have hbk : s[b].toNat = x := (bAt_eq s b (by omega)).trans hxb
  have e0 : decide ((a : Int) < 0) = false := by simp
  have e1 : decide (89 < (a : Int)) = false := by simp; omega
  have e2 : decide ((b : Int) < 0) = false := by simp
  have e3 : decide (89 < (b : Int)) = false := by simp; omega
  have a90 : (a : Int) < 90 := by omega
  have b90 : (b : Int) < 90 := by omega
  have asz : (a : Int) < (s.size : Int) := by omega
  have bsz : (b : Int) < (s.size : Int) := by omega
  have HD := Lib.hid hd
  have HR := Lib.hid hr
  have HK := Lib.hid hk
  clear hca hxb hd hr hk
  obtain ⟨W1, hW1⟩ : ∃ W1, ((w.alloc (.cells #[.string s, .int .i64 side, .int .i64 clock, .int .i64 full] 23)).alloc (.cells #[.int .i64 (a : Int), .int .i64 (b : Int)] 37)).alloc (.cells #[.string ⟨#[]⟩, .int .i64 0, .int .i64 0, .int .i64 0] 23) = W1 := ⟨_, rfl⟩
  obtain ⟨hB, bP, bM, bR⟩ := ap_start hW1
  obtain ⟨p0, p1, p2, p3⟩ := ppos_cells bP
  have HC := Lib.hid hc
  have HW := Lib.hid hW1
  clear hc hW1
  go_enter Tryz.func48, Tryz.ntmps48
  go_wp2_with fail
  rw [HW.out]
  have f0 := ppos_frozen bR
  go_wp2_with fail
  refine (rcheck_is s side clock full 0 _ HC.out).mono ?_
  rintro e w1 ⟨rfl, hbw⟩
  have bR1 := bR.next hbw
  have bM1 := bM.next hbw
  have bP1 := bP.next hbw
  have hB1 := hB.trans (hbw.mono hB.size)
  obtain ⟨t0, t1, t2, t3⟩ := ppos_cells bP1
  have m0 : w1.cell? ⟨w.heap.size + 1, 0, none⟩ = some (.int .i64 (a : Int)) := bM1.cell 0
  have m1 : w1.cell? ⟨w.heap.size + 1, 1, none⟩ = some (.int .i64 (b : Int)) := bM1.cell 1
  obtain ⟨g0, g1, g2, g3⟩ := ppos_cells bR1
  obtain ⟨f0, f1, f2, f3⟩ := ppos_frozen bR1
  go_wp2_with fail
  have hS : w1.drew.cell? ⟨w.heap.size, 0, none⟩ = some (.string s) ∧ w1.drew.cell? ⟨w.heap.size, 1, none⟩ = some (.int .i64 side) ∧ w1.drew.cell? ⟨w.heap.size + 1, 0, none⟩ = some (.int .i64 (a : Int)) ∧ w1.drew.cell? ⟨w.heap.size + 1, 1, none⟩ = some (.int .i64 (b : Int)) ∧ Below w.heap.size w w1.drew := ⟨t0, t1, m0, m1, hB1.drew⟩
  have bR2 := bR1.next (Below.refl _ _).drew
  refine wp_region_held_drew (S := fun W => W.cell? ⟨w.heap.size, 0, none⟩ = some (.string s) ∧ W.cell? ⟨w.heap.size, 1, none⟩ = some (.int .i64 side) ∧ W.cell? ⟨w.heap.size + 1, 0, none⟩ = some (.int .i64 (a : Int)) ∧ W.cell? ⟨w.heap.size + 1, 1, none⟩ = some (.int .i64 (b : Int)) ∧ Below w.heap.size w W) (by kernel_rfl) (hS) (fun hHeld => ?_)
  refine tkV 0 ⟨some 16, .fieldAddr 37 (.tmp 3) 0, 0, "ref.go:61", #[], none⟩ (v := ?_) rfl (fun _ _ _ h => h) (Or.inl ⟨by rfl, ?_⟩) (by assumption) ?_
  case refine_2 =>
    intro w hSw
    (try dsimp only at hSw)
    (try go_simp)
    all_goals (with_reducible rfl)
  try simp only [Act.put, asA, asB, asC]
  refine tkV 1 ⟨some 17, .load 3 (.tmp 16), 3, "ref.go:61", #[⟨0, .data⟩], none⟩ (v := ?_) rfl (fun _ _ _ h => h) (Or.inl ⟨by rfl, ?_⟩) (by assumption) ?_
  case refine_2 =>
    intro w hSw
    (try dsimp only at hSw)
    (try go_simp)
    all_goals (with_reducible rfl)
  try simp only [Act.put, asA, asB, asC]
  refine tkV 2 ⟨some 18, .binOp .lss 3 (.tmp 17) (.const (.int .i64 0)) 3, 4, "ref.go:61", #[⟨1, .data⟩], none⟩ (v := ?_) rfl (fun _ _ _ h => h) (Or.inl ⟨by rfl, ?_⟩) (by assumption) ?_
  case refine_2 =>
    intro w hSw
    (try dsimp only at hSw)
    (try go_simp)
    all_goals (with_reducible rfl)
  try simp only [Act.put, asA, asB, asC]
  refine tkV 3 ⟨some 19, .move (.tmp 18), 4, "ref.go:61", #[⟨2, .data⟩], none⟩ (v := ?_) rfl (fun _ _ _ h => h) (Or.inl ⟨by rfl, ?_⟩) (by assumption) ?_
  case refine_2 =>
    intro w hSw
    (try dsimp only at hSw)
    (try go_simp)
    all_goals (with_reducible rfl)
  try simp only [Act.put, asA, asB, asC]
  refine tkV 4 ⟨some 20, .fieldAddr 37 (.tmp 3) 0, 0, "ref.go:61", #[⟨3, .guard⟩], some (3, false)⟩ (v := ?_) rfl (fun _ _ _ h => h) (Or.inl ⟨by rfl, ?_⟩) (by assumption) ?_
  case refine_2 =>
    intro w hSw
    (try dsimp only at hSw)
    (try go_simp)
    all_goals (with_reducible rfl)
  try simp only [Act.put, asA, asB, asC]
  refine tkV 5 ⟨some 21, .load 3 (.tmp 20), 3, "ref.go:61", #[⟨4, .data⟩, ⟨3, .guard⟩], some (3, false)⟩ (v := ?_) rfl (fun _ _ _ h => h) (Or.inl ⟨by rfl, ?_⟩) (by assumption) ?_
  case refine_2 =>
    intro w hSw
    (try dsimp only at hSw)
    (try go_simp)
    all_goals (with_reducible rfl)
  try simp only [Act.put, asA, asB, asC]
  refine tkV 6 ⟨some 22, .binOp .gtr 3 (.tmp 21) (.const (.int .i64 89)) 3, 4, "ref.go:61", #[⟨5, .data⟩, ⟨3, .guard⟩], some (3, false)⟩ (v := ?_) rfl (fun _ _ _ h => h) (Or.inl ⟨by rfl, ?_⟩) (by assumption) ?_
  case refine_2 =>
    intro w hSw
    (try dsimp only at hSw)
    (try go_simp)
    all_goals (with_reducible rfl)
  try simp only [Act.put, asA, asB, asC]
  refine tkV 7 ⟨some 23, .pick (.tmp 19) (.const (.bool true)) (.tmp 22), 4, "ref.go:61", #[⟨3, .data⟩, ⟨6, .data⟩], none⟩ (v := ?_) rfl (fun _ _ _ h => h) (Or.inl ⟨by rfl, ?_⟩) (by assumption) ?_
  case refine_2 =>
    intro w hSw
    (try dsimp only at hSw)
    (try go_simp)
    all_goals (with_reducible rfl)
  try simp only [Act.put, asA, asB, asC]
  refine tkV 8 ⟨some 24, .move (.tmp 23), 4, "ref.go:61", #[⟨7, .data⟩, ⟨3, .chain⟩], none⟩ (v := ?_) rfl (fun _ _ _ h => h) (Or.inl ⟨by rfl, ?_⟩) (by assumption) ?_
  case refine_2 =>
    intro w hSw
    (try dsimp only at hSw)
    (try go_simp)
    all_goals (with_reducible rfl)
  try simp only [Act.put, asA, asB, asC]
  refine tkV 9 ⟨some 25, .fieldAddr 37 (.tmp 3) 1, 0, "ref.go:61", #[⟨8, .guard⟩], some (8, false)⟩ (v := ?_) rfl (fun _ _ _ h => h) (Or.inl ⟨by rfl, ?_⟩) (by assumption) ?_
  case refine_2 =>
    intro w hSw
    (try dsimp only at hSw)
    (try go_simp)
    all_goals (with_reducible rfl)
  try simp only [Act.put, asA, asB, asC]
  refine tkV 10 ⟨some 26, .load 3 (.tmp 25), 3, "ref.go:61", #[⟨9, .data⟩, ⟨8, .guard⟩], some (8, false)⟩ (v := ?_) rfl (fun _ _ _ h => h) (Or.inl ⟨by rfl, ?_⟩) (by assumption) ?_
  case refine_2 =>
    intro w hSw
    (try dsimp only at hSw)
    (try go_simp)
    all_goals (with_reducible rfl)
  try simp only [Act.put, asA, asB, asC]
  refine tkV 11 ⟨some 27, .binOp .lss 3 (.tmp 26) (.const (.int .i64 0)) 3, 4, "ref.go:61", #[⟨10, .data⟩, ⟨8, .guard⟩], some (8, false)⟩ (v := ?_) rfl (fun _ _ _ h => h) (Or.inl ⟨by rfl, ?_⟩) (by assumption) ?_
  case refine_2 =>
    intro w hSw
    (try dsimp only at hSw)
    (try go_simp)
    all_goals (with_reducible rfl)
  try simp only [Act.put, asA, asB, asC]
  refine tkV 12 ⟨some 28, .pick (.tmp 24) (.const (.bool true)) (.tmp 27), 4, "ref.go:61", #[⟨8, .data⟩, ⟨11, .data⟩], none⟩ (v := ?_) rfl (fun _ _ _ h => h) (Or.inl ⟨by rfl, ?_⟩) (by assumption) ?_
  case refine_2 =>
    intro w hSw
    (try dsimp only at hSw)
    (try go_simp)
    all_goals (with_reducible rfl)
  try simp only [Act.put, asA, asB, asC]
  refine tkV 13 ⟨some 29, .move (.tmp 28), 4, "ref.go:61", #[⟨12, .data⟩, ⟨8, .chain⟩], none⟩ (v := ?_) rfl (fun _ _ _ h => h) (Or.inl ⟨by rfl, ?_⟩) (by assumption) ?_
  case refine_2 =>
    intro w hSw
    (try dsimp only at hSw)
    (try go_simp)
    all_goals (with_reducible rfl)
  try simp only [Act.put, asA, asB, asC]
  refine tkV 14 ⟨some 30, .fieldAddr 37 (.tmp 3) 1, 0, "ref.go:61", #[⟨13, .guard⟩], some (13, false)⟩ (v := ?_) rfl (fun _ _ _ h => h) (Or.inl ⟨by rfl, ?_⟩) (by assumption) ?_
  case refine_2 =>
    intro w hSw
    (try dsimp only at hSw)
    (try go_simp)
    all_goals (with_reducible rfl)
  try simp only [Act.put, asA, asB, asC]
  refine tkV 15 ⟨some 31, .load 3 (.tmp 30), 3, "ref.go:61", #[⟨14, .data⟩, ⟨13, .guard⟩], some (13, false)⟩ (v := ?_) rfl (fun _ _ _ h => h) (Or.inl ⟨by rfl, ?_⟩) (by assumption) ?_
  case refine_2 =>
    intro w hSw
    (try dsimp only at hSw)
    (try go_simp)
    all_goals (with_reducible rfl)
  try simp only [Act.put, asA, asB, asC]
  refine tkV 16 ⟨some 32, .binOp .gtr 3 (.tmp 31) (.const (.int .i64 89)) 3, 4, "ref.go:61", #[⟨15, .data⟩, ⟨13, .guard⟩], some (13, false)⟩ (v := ?_) rfl (fun _ _ _ h => h) (Or.inl ⟨by rfl, ?_⟩) (by assumption) ?_
  case refine_2 =>
    intro w hSw
    (try dsimp only at hSw)
    (try go_simp)
    all_goals (with_reducible rfl)
  try simp only [Act.put, asA, asB, asC]
  refine tkV 17 ⟨some 33, .pick (.tmp 29) (.const (.bool true)) (.tmp 32), 4, "ref.go:61", #[⟨13, .data⟩, ⟨16, .data⟩], none⟩ (v := ?_) rfl (fun _ _ _ h => h) (Or.inl ⟨by rfl, ?_⟩) (by assumption) ?_
  case refine_2 =>
    intro w hSw
    (try dsimp only at hSw)
    (try go_simp)
    all_goals (with_reducible rfl)
  try simp only [Act.put, asA, asB, asC]
  refine tkV 18 ⟨some 34, .move (.tmp 33), 4, "ref.go:61", #[⟨17, .data⟩, ⟨13, .chain⟩], none⟩ (v := ?_) rfl (fun _ _ _ h => h) (Or.inl ⟨by rfl, ?_⟩) (by assumption) ?_
  case refine_2 =>
    intro w hSw
    (try dsimp only at hSw)
    (try go_simp)
    all_goals (with_reducible rfl)
  try simp only [Act.put, asA, asB, asC]
  refine tkV 19 ⟨some 35, .fieldAddr 23 (.tmp 2) 0, 0, "ref.go:61", #[⟨18, .guard⟩], some (18, false)⟩ (v := ?_) rfl (fun _ _ _ h => h) (Or.inl ⟨by rfl, ?_⟩) (by assumption) ?_
  case refine_2 =>
    intro w hSw
    (try dsimp only at hSw)
    (try go_simp)
    all_goals (with_reducible rfl)
  try simp only [Act.put, asA, asB, asC]
  refine tkV 20 ⟨some 36, .load 9 (.tmp 35), 9, "ref.go:61", #[⟨19, .data⟩, ⟨18, .guard⟩], some (18, false)⟩ (v := ?_) rfl (fun _ _ _ h => h) (Or.inl ⟨by rfl, ?_⟩) (by assumption) ?_
  case refine_2 =>
    intro w hSw
    (try dsimp only at hSw)
    (try go_simp)
    all_goals (with_reducible rfl)
  try simp only [Act.put, asA, asB, asC]
  refine tkV 21 ⟨some 37, .fieldAddr 37 (.tmp 3) 0, 0, "ref.go:61", #[⟨18, .guard⟩], some (18, false)⟩ (v := ?_) rfl (fun _ _ _ h => h) (Or.inl ⟨by rfl, ?_⟩) (by assumption) ?_
  case refine_2 =>
    intro w hSw
    (try dsimp only at hSw)
    (try go_simp)
    all_goals (with_reducible rfl)
  try simp only [Act.put, asA, asB, asC]
  refine tkV 22 ⟨some 38, .load 3 (.tmp 37), 3, "ref.go:61", #[⟨21, .data⟩, ⟨18, .guard⟩], some (18, false)⟩ (v := ?_) rfl (fun _ _ _ h => h) (Or.inl ⟨by rfl, ?_⟩) (by assumption) ?_
  case refine_2 =>
    intro w hSw
    (try dsimp only at hSw)
    (try go_simp)
    all_goals (with_reducible rfl)
  try simp only [Act.put, asA, asB, asC]
  refine tkV 23 ⟨some 39, .index 9 (.tmp 36) (.tmp 38), 5, "ref.go:61", #[⟨20, .data⟩, ⟨22, .data⟩, ⟨18, .guard⟩], some (18, false)⟩ (v := ?_) rfl (fun _ _ _ h => h) (Or.inl ⟨by rfl, ?_⟩) (by assumption) ?_
  case refine_2 =>
    intro w hSw
    (try dsimp only at hSw)
    (try go_simp)
    all_goals (with_reducible rfl)
  try simp only [Act.put, asA, asB, asC]
  refine tkV 25 ⟨some 41, .fieldAddr 23 (.tmp 2) 1, 0, "ref.go:61", #[⟨18, .guard⟩], some (18, false)⟩ (v := ?_) rfl (fun _ _ _ h => h) (Or.inl ⟨by rfl, ?_⟩) (by assumption) ?_
  case refine_2 =>
    intro w hSw
    (try dsimp only at hSw)
    (try go_simp)
    all_goals (with_reducible rfl)
  try simp only [Act.put, asA, asB, asC]
  refine tkV 26 ⟨some 42, .load 3 (.tmp 41), 3, "ref.go:61", #[⟨25, .data⟩, ⟨18, .guard⟩], some (18, false)⟩ (v := ?_) rfl (fun _ _ _ h => h) (Or.inl ⟨by rfl, ?_⟩) (by assumption) ?_
  case refine_2 =>
    intro w hSw
    (try dsimp only at hSw)
    (try go_simp)
    all_goals (with_reducible rfl)
  try simp only [Act.put, asA, asB, asC]
  refine wpAnyH_ready (rs := [24]) (by kernel_rfl) (by simp) (AllReadyH.cons (o := { dst := some 40, op := Op.call { callee := Callee.value (Operand.func 79), args := #[Operand.tmp 39], argTypes := #[5] }, type := 3, pos := "ref.go:61", after := #[{ on := 23, ground := Ground.data }, { on := 18, ground := Ground.chain }, { on := 18, ground := Ground.guard }], guard := some (18, false) }) rfl (fun K hK => ?_) AllReadyH.nil)
  go_simp
  refine (rside_is c d _ HD.out).mono ?_; rintro e w2 ⟨rfl, rfl⟩
  refine hK.out _ _ ?_ (fun hHeld => ?_)
  · exact hHeld
  clear hK K
  refine tkV 27 ⟨some 43, .binOp .neq 3 (.tmp 40) (.tmp 42) 3, 4, "ref.go:61", #[⟨24, .data⟩, ⟨26, .data⟩, ⟨18, .guard⟩], some (18, false)⟩ (v := ?_) rfl (fun _ _ _ h => h) (Or.inl ⟨by rfl, ?_⟩) (by assumption) ?_
  case refine_2 =>
    intro w hSw
    (try dsimp only at hSw)
    (try go_simp)
    all_goals (with_reducible rfl)
  try simp only [Act.put, asA, asB, asC]
  refine tkV 28 ⟨some 44, .pick (.tmp 34) (.const (.bool true)) (.tmp 43), 4, "ref.go:61", #[⟨18, .data⟩, ⟨27, .data⟩], none⟩ (v := ?_) rfl (fun _ _ _ h => h) (Or.inl ⟨by rfl, ?_⟩) (by assumption) ?_
  case refine_2 =>
    intro w hSw
    (try dsimp only at hSw)
    (try go_simp)
    all_goals (with_reducible rfl)
  try simp only [Act.put, asA, asB, asC]
  refine tkV 29 ⟨some 45, .move (.tmp 44), 4, "ref.go:61", #[⟨28, .data⟩, ⟨24, .chain⟩], none⟩ (v := ?_) rfl (fun _ _ _ h => h) (Or.inl ⟨by rfl, ?_⟩) (by assumption) ?_
  case refine_2 =>
    intro w hSw
    (try dsimp only at hSw)
    (try go_simp)
    all_goals (with_reducible rfl)
  try simp only [Act.put, asA, asB, asC]
  refine tkV 30 ⟨some 46, .fieldAddr 23 (.tmp 2) 0, 0, "ref.go:61", #[⟨29, .guard⟩], some (29, false)⟩ (v := ?_) rfl (fun _ _ _ h => h) (Or.inl ⟨by rfl, ?_⟩) (by assumption) ?_
  case refine_2 =>
    intro w hSw
    (try dsimp only at hSw)
    (try go_simp)
    all_goals (with_reducible rfl)
  try simp only [Act.put, asA, asB, asC]
  refine tkV 31 ⟨some 47, .load 9 (.tmp 46), 9, "ref.go:61", #[⟨30, .data⟩, ⟨29, .guard⟩], some (29, false)⟩ (v := ?_) rfl (fun _ _ _ h => h) (Or.inl ⟨by rfl, ?_⟩) (by assumption) ?_
  case refine_2 =>
    intro w hSw
    (try dsimp only at hSw)
    (try go_simp)
    all_goals (with_reducible rfl)
  try simp only [Act.put, asA, asB, asC]
  refine tkV 32 ⟨some 48, .fieldAddr 37 (.tmp 3) 0, 0, "ref.go:61", #[⟨29, .guard⟩], some (29, false)⟩ (v := ?_) rfl (fun _ _ _ h => h) (Or.inl ⟨by rfl, ?_⟩) (by assumption) ?_
  case refine_2 =>
    intro w hSw
    (try dsimp only at hSw)
    (try go_simp)
    all_goals (with_reducible rfl)
  try simp only [Act.put, asA, asB, asC]
  refine tkV 33 ⟨some 49, .load 3 (.tmp 48), 3, "ref.go:61", #[⟨32, .data⟩, ⟨29, .guard⟩], some (29, false)⟩ (v := ?_) rfl (fun _ _ _ h => h) (Or.inl ⟨by rfl, ?_⟩) (by assumption) ?_
  case refine_2 =>
    intro w hSw
    (try dsimp only at hSw)
    (try go_simp)
    all_goals (with_reducible rfl)
  try simp only [Act.put, asA, asB, asC]
  refine tkV 34 ⟨some 50, .fieldAddr 37 (.tmp 3) 1, 0, "ref.go:61", #[⟨29, .guard⟩], some (29, false)⟩ (v := ?_) rfl (fun _ _ _ h => h) (Or.inl ⟨by rfl, ?_⟩) (by assumption) ?_
  case refine_2 =>
    intro w hSw
    (try dsimp only at hSw)
    (try go_simp)
    all_goals (with_reducible rfl)
  try simp only [Act.put, asA, asB, asC]
  refine tkV 35 ⟨some 51, .load 3 (.tmp 50), 3, "ref.go:61", #[⟨34, .data⟩, ⟨29, .guard⟩], some (29, false)⟩ (v := ?_) rfl (fun _ _ _ h => h) (Or.inl ⟨by rfl, ?_⟩) (by assumption) ?_
  case refine_2 =>
    intro w hSw
    (try dsimp only at hSw)
    (try go_simp)
    all_goals (with_reducible rfl)
  try simp only [Act.put, asA, asB, asC]
  refine wpAnyH_ready (rs := [36]) (by kernel_rfl) (by simp) (AllReadyH.cons (o := { dst := some 52, op := Op.call { callee := Callee.value (Operand.func 80), args := #[Operand.tmp 47, Operand.tmp 49, Operand.tmp 51], argTypes := #[9, 3, 3] }, type := 4, pos := "ref.go:61", after := #[{ on := 31, ground := Ground.data }, { on := 33, ground := Ground.data }, { on := 35, ground := Ground.data }, { on := 29, ground := Ground.chain }, { on := 29, ground := Ground.guard }], guard := some (29, false) }) rfl (fun K hK => ?_) AllReadyH.nil)
  go_simp
  refine (fast_is s a b _ _ hs ha hb HR.out).mono ?_; rintro e w2 ⟨rfl, rfl⟩
  refine hK.out _ _ ?_ (fun hHeld => ?_)
  · exact hHeld
  clear hK K
  refine tkV 37 ⟨some 53, .unOp .not 4 (.tmp 52), 4, "ref.go:61", #[⟨36, .data⟩, ⟨29, .guard⟩], some (29, false)⟩ (v := ?_) rfl (fun _ _ _ h => h) (Or.inl ⟨by rfl, ?_⟩) (by assumption) ?_
  case refine_2 =>
    intro w hSw
    (try dsimp only at hSw)
    (try go_simp)
    all_goals (with_reducible rfl)
  try simp only [Act.put, asA, asB, asC]
  refine tkV 38 ⟨some 54, .pick (.tmp 45) (.const (.bool true)) (.tmp 53), 4, "ref.go:61", #[⟨29, .data⟩, ⟨37, .data⟩], none⟩ (v := ?_) rfl (fun _ _ _ h => h) (Or.inl ⟨by rfl, ?_⟩) (by assumption) ?_
  case refine_2 =>
    intro w hSw
    (try dsimp only at hSw)
    (try go_simp)
    all_goals (with_reducible rfl)
  try simp only [Act.put, asA, asB, asC]
  refine tkV 39 ⟨some 55, .move (.tmp 54), 4, "ref.go:61", #[⟨38, .data⟩, ⟨36, .chain⟩], none⟩ (v := ?_) rfl (fun _ _ _ h => h) (Or.inl ⟨by rfl, ?_⟩) (by assumption) ?_
  case refine_2 =>
    intro w hSw
    (try dsimp only at hSw)
    (try go_simp)
    all_goals (with_reducible rfl)
  try simp only [Act.put, asA, asB, asC]
  refine tkV 40 ⟨some 56, .fieldAddr 23 (.tmp 2) 0, 0, "ref.go:61", #[⟨39, .guard⟩], some (39, false)⟩ (v := undef) rfl (fun _ _ _ h => h) (Or.inr ⟨by rfl, rfl⟩) (by assumption) ?_
  try simp only [Act.put, asA, asB, asC]
  refine tkV 41 ⟨some 57, .load 9 (.tmp 56), 9, "ref.go:61", #[⟨40, .data⟩, ⟨39, .guard⟩], some (39, false)⟩ (v := undef) rfl (fun _ _ _ h => h) (Or.inr ⟨by rfl, rfl⟩) (by assumption) ?_
  try simp only [Act.put, asA, asB, asC]
  refine tkV 42 ⟨some 58, .fieldAddr 37 (.tmp 3) 1, 0, "ref.go:61", #[⟨39, .guard⟩], some (39, false)⟩ (v := undef) rfl (fun _ _ _ h => h) (Or.inr ⟨by rfl, rfl⟩) (by assumption) ?_
  try simp only [Act.put, asA, asB, asC]
  refine tkV 43 ⟨some 59, .load 3 (.tmp 58), 3, "ref.go:61", #[⟨42, .data⟩, ⟨39, .guard⟩], some (39, false)⟩ (v := undef) rfl (fun _ _ _ h => h) (Or.inr ⟨by rfl, rfl⟩) (by assumption) ?_
  try simp only [Act.put, asA, asB, asC]
  refine tkV 44 ⟨some 60, .index 9 (.tmp 57) (.tmp 59), 5, "ref.go:61", #[⟨41, .data⟩, ⟨43, .data⟩, ⟨39, .guard⟩], some (39, false)⟩ (v := undef) rfl (fun _ _ _ h => h) (Or.inr ⟨by rfl, rfl⟩) (by assumption) ?_
  try simp only [Act.put, asA, asB, asC]
  refine wpAnyH_ready (rs := [45]) (by kernel_rfl) (by simp) (AllReadyH.cons (o := { dst := some 61, op := Op.call { callee := Callee.value (Operand.func 81), args := #[Operand.tmp 60], argTypes := #[5] }, type := 5, pos := "ref.go:61", after := #[{ on := 44, ground := Ground.data }, { on := 39, ground := Ground.chain }, { on := 39, ground := Ground.guard }], guard := some (39, false) }) rfl (fun K hK => ?_) AllReadyH.nil)
  split
  · rename_i hw
    exact Bool.noConfusion (show false = true from hw)
  refine hK.out _ _ ?_ (fun hHeld => ?_)
  · assumption
  clear hK K
  try simp only [Act.put, asA, asB, asC]
  refine tkV 46 ⟨some 62, .binOp .eql 5 (.tmp 61) (.const (.int .u8 75)) 5, 4, "ref.go:61", #[⟨45, .data⟩, ⟨39, .guard⟩], some (39, false)⟩ (v := undef) rfl (fun _ _ _ h => h) (Or.inr ⟨by rfl, rfl⟩) (by assumption) ?_
  try simp only [Act.put, asA, asB, asC]
  refine tkV 47 ⟨some 63, .pick (.tmp 55) (.const (.bool true)) (.tmp 62), 4, "ref.go:61", #[⟨39, .data⟩, ⟨46, .data⟩], none⟩ (v := ?_) rfl (fun _ _ _ h => h) (Or.inl ⟨by rfl, ?_⟩) (by assumption) ?_
  case refine_2 =>
    intro w hSw
    (try dsimp only at hSw)
    (try go_simp)
    all_goals (with_reducible rfl)
  try simp only [Act.put, asA, asB, asC]
  refine wpAnyH_done (by kernel_rfl) ?_ _
  go_wp2_with fail
  refine bodyPost_ret (res_pos3 rfl _ _ rfl (mvEnd bR2 (by omega) hB1.drew).1) rfl ⟨rfl, (mvEnd bR2 (by omega) hB1.drew).2⟩
set_option maxRecDepth 100000 in
set_option maxHeartbeats 8000000 in
theorem rapply_king (s : ByteArray) (side clock full : Int) (a b c x k : Nat) (d : Int) (r : Bool) (w : World) (hc : (checkN s side clock full : Int) = 0) (hs : 90 ≤ s.size) (ha : a < 90) (hb : b < 90) (hca : bAt s a = c) (hxb : bAt s b = x) (hd : sideN c = d) (hr : canB s a b = r) (hk : kindN x = k) (h : (d != side) = false) (hf : r = true) (hn : ((k : Int) == 75) = true) :
    Calls Tryz.prog 48 #[.agg #[.string s, .int .i64 side, .int .i64 clock, .int .i64 full], .agg #[.int .i64 (a : Int), .int .i64 (b : Int)]] w (Gives w (.tuple #[.agg #[.string ⟨#[]⟩, .int .i64 0, .int .i64 0, .int .i64 0], .int .u8 0, .int .i64 7])) := by
  unfold Gives
  subst hf
  have a0 : (0 : Int) ≤ (a : Int) := by omega
  have b0 : (0 : Int) ≤ (b : Int) := by omega
  have a9 : (a : Int) ≤ 89 := by omega
  have b9 : (b : Int) ≤ 89 := by omega
  have hak : s[a].toNat = c := (bAt_eq s a (by omega)).trans hca
  have hbk : s[b].toNat = x := (bAt_eq s b (by omega)).trans hxb
  have e0 : decide ((a : Int) < 0) = false := by simp
  have e1 : decide (89 < (a : Int)) = false := by simp; omega
  have e2 : decide ((b : Int) < 0) = false := by simp
  have e3 : decide (89 < (b : Int)) = false := by simp; omega
  have a90 : (a : Int) < 90 := by omega
  have b90 : (b : Int) < 90 := by omega
  have asz : (a : Int) < (s.size : Int) := by omega
  have bsz : (b : Int) < (s.size : Int) := by omega
  have HD := Lib.hid hd
  have HR := Lib.hid hr
  have HK := Lib.hid hk
  clear hca hxb hd hr hk
  obtain ⟨W1, hW1⟩ : ∃ W1, ((w.alloc (.cells #[.string s, .int .i64 side, .int .i64 clock, .int .i64 full] 23)).alloc (.cells #[.int .i64 (a : Int), .int .i64 (b : Int)] 37)).alloc (.cells #[.string ⟨#[]⟩, .int .i64 0, .int .i64 0, .int .i64 0] 23) = W1 := ⟨_, rfl⟩
  obtain ⟨hB, bP, bM, bR⟩ := ap_start hW1
  obtain ⟨p0, p1, p2, p3⟩ := ppos_cells bP
  have HC := Lib.hid hc
  have HW := Lib.hid hW1
  clear hc hW1
  go_enter Tryz.func48, Tryz.ntmps48
  go_wp2_with fail
  rw [HW.out]
  have f0 := ppos_frozen bR
  go_wp2_with fail
  refine (rcheck_is s side clock full 0 _ HC.out).mono ?_
  rintro e w1 ⟨rfl, hbw⟩
  have bR1 := bR.next hbw
  have bM1 := bM.next hbw
  have bP1 := bP.next hbw
  have hB1 := hB.trans (hbw.mono hB.size)
  obtain ⟨t0, t1, t2, t3⟩ := ppos_cells bP1
  have m0 : w1.cell? ⟨w.heap.size + 1, 0, none⟩ = some (.int .i64 (a : Int)) := bM1.cell 0
  have m1 : w1.cell? ⟨w.heap.size + 1, 1, none⟩ = some (.int .i64 (b : Int)) := bM1.cell 1
  obtain ⟨g0, g1, g2, g3⟩ := ppos_cells bR1
  obtain ⟨f0, f1, f2, f3⟩ := ppos_frozen bR1
  go_wp2_with fail
  have hS : w1.drew.cell? ⟨w.heap.size, 0, none⟩ = some (.string s) ∧ w1.drew.cell? ⟨w.heap.size, 1, none⟩ = some (.int .i64 side) ∧ w1.drew.cell? ⟨w.heap.size + 1, 0, none⟩ = some (.int .i64 (a : Int)) ∧ w1.drew.cell? ⟨w.heap.size + 1, 1, none⟩ = some (.int .i64 (b : Int)) ∧ Below w.heap.size w w1.drew := ⟨t0, t1, m0, m1, hB1.drew⟩
  have bR2 := bR1.next (Below.refl _ _).drew
  refine wp_region_held_drew (S := fun W => W.cell? ⟨w.heap.size, 0, none⟩ = some (.string s) ∧ W.cell? ⟨w.heap.size, 1, none⟩ = some (.int .i64 side) ∧ W.cell? ⟨w.heap.size + 1, 0, none⟩ = some (.int .i64 (a : Int)) ∧ W.cell? ⟨w.heap.size + 1, 1, none⟩ = some (.int .i64 (b : Int)) ∧ Below w.heap.size w W) (by kernel_rfl) (hS) (fun hHeld => ?_)
  refine tkV 0 ⟨some 16, .fieldAddr 37 (.tmp 3) 0, 0, "ref.go:61", #[], none⟩ (v := ?_) rfl (fun _ _ _ h => h) (Or.inl ⟨by rfl, ?_⟩) (by assumption) ?_
  case refine_2 =>
    intro w hSw
    (try dsimp only at hSw)
    (try go_simp)
    all_goals (with_reducible rfl)
  try simp only [Act.put, asA, asB, asC]
  refine tkV 1 ⟨some 17, .load 3 (.tmp 16), 3, "ref.go:61", #[⟨0, .data⟩], none⟩ (v := ?_) rfl (fun _ _ _ h => h) (Or.inl ⟨by rfl, ?_⟩) (by assumption) ?_
  case refine_2 =>
    intro w hSw
    (try dsimp only at hSw)
    (try go_simp)
    all_goals (with_reducible rfl)
  try simp only [Act.put, asA, asB, asC]
  refine tkV 2 ⟨some 18, .binOp .lss 3 (.tmp 17) (.const (.int .i64 0)) 3, 4, "ref.go:61", #[⟨1, .data⟩], none⟩ (v := ?_) rfl (fun _ _ _ h => h) (Or.inl ⟨by rfl, ?_⟩) (by assumption) ?_
  case refine_2 =>
    intro w hSw
    (try dsimp only at hSw)
    (try go_simp)
    all_goals (with_reducible rfl)
  try simp only [Act.put, asA, asB, asC]
  refine tkV 3 ⟨some 19, .move (.tmp 18), 4, "ref.go:61", #[⟨2, .data⟩], none⟩ (v := ?_) rfl (fun _ _ _ h => h) (Or.inl ⟨by rfl, ?_⟩) (by assumption) ?_
  case refine_2 =>
    intro w hSw
    (try dsimp only at hSw)
    (try go_simp)
    all_goals (with_reducible rfl)
  try simp only [Act.put, asA, asB, asC]
  refine tkV 4 ⟨some 20, .fieldAddr 37 (.tmp 3) 0, 0, "ref.go:61", #[⟨3, .guard⟩], some (3, false)⟩ (v := ?_) rfl (fun _ _ _ h => h) (Or.inl ⟨by rfl, ?_⟩) (by assumption) ?_
  case refine_2 =>
    intro w hSw
    (try dsimp only at hSw)
    (try go_simp)
    all_goals (with_reducible rfl)
  try simp only [Act.put, asA, asB, asC]
  refine tkV 5 ⟨some 21, .load 3 (.tmp 20), 3, "ref.go:61", #[⟨4, .data⟩, ⟨3, .guard⟩], some (3, false)⟩ (v := ?_) rfl (fun _ _ _ h => h) (Or.inl ⟨by rfl, ?_⟩) (by assumption) ?_
  case refine_2 =>
    intro w hSw
    (try dsimp only at hSw)
    (try go_simp)
    all_goals (with_reducible rfl)
  try simp only [Act.put, asA, asB, asC]
  refine tkV 6 ⟨some 22, .binOp .gtr 3 (.tmp 21) (.const (.int .i64 89)) 3, 4, "ref.go:61", #[⟨5, .data⟩, ⟨3, .guard⟩], some (3, false)⟩ (v := ?_) rfl (fun _ _ _ h => h) (Or.inl ⟨by rfl, ?_⟩) (by assumption) ?_
  case refine_2 =>
    intro w hSw
    (try dsimp only at hSw)
    (try go_simp)
    all_goals (with_reducible rfl)
  try simp only [Act.put, asA, asB, asC]
  refine tkV 7 ⟨some 23, .pick (.tmp 19) (.const (.bool true)) (.tmp 22), 4, "ref.go:61", #[⟨3, .data⟩, ⟨6, .data⟩], none⟩ (v := ?_) rfl (fun _ _ _ h => h) (Or.inl ⟨by rfl, ?_⟩) (by assumption) ?_
  case refine_2 =>
    intro w hSw
    (try dsimp only at hSw)
    (try go_simp)
    all_goals (with_reducible rfl)
  try simp only [Act.put, asA, asB, asC]
  refine tkV 8 ⟨some 24, .move (.tmp 23), 4, "ref.go:61", #[⟨7, .data⟩, ⟨3, .chain⟩], none⟩ (v := ?_) rfl (fun _ _ _ h => h) (Or.inl ⟨by rfl, ?_⟩) (by assumption) ?_
  case refine_2 =>
    intro w hSw
    (try dsimp only at hSw)
    (try go_simp)
    all_goals (with_reducible rfl)
  try simp only [Act.put, asA, asB, asC]
  refine tkV 9 ⟨some 25, .fieldAddr 37 (.tmp 3) 1, 0, "ref.go:61", #[⟨8, .guard⟩], some (8, false)⟩ (v := ?_) rfl (fun _ _ _ h => h) (Or.inl ⟨by rfl, ?_⟩) (by assumption) ?_
  case refine_2 =>
    intro w hSw
    (try dsimp only at hSw)
    (try go_simp)
    all_goals (with_reducible rfl)
  try simp only [Act.put, asA, asB, asC]
  refine tkV 10 ⟨some 26, .load 3 (.tmp 25), 3, "ref.go:61", #[⟨9, .data⟩, ⟨8, .guard⟩], some (8, false)⟩ (v := ?_) rfl (fun _ _ _ h => h) (Or.inl ⟨by rfl, ?_⟩) (by assumption) ?_
  case refine_2 =>
    intro w hSw
    (try dsimp only at hSw)
    (try go_simp)
    all_goals (with_reducible rfl)
  try simp only [Act.put, asA, asB, asC]
  refine tkV 11 ⟨some 27, .binOp .lss 3 (.tmp 26) (.const (.int .i64 0)) 3, 4, "ref.go:61", #[⟨10, .data⟩, ⟨8, .guard⟩], some (8, false)⟩ (v := ?_) rfl (fun _ _ _ h => h) (Or.inl ⟨by rfl, ?_⟩) (by assumption) ?_
  case refine_2 =>
    intro w hSw
    (try dsimp only at hSw)
    (try go_simp)
    all_goals (with_reducible rfl)
  try simp only [Act.put, asA, asB, asC]
  refine tkV 12 ⟨some 28, .pick (.tmp 24) (.const (.bool true)) (.tmp 27), 4, "ref.go:61", #[⟨8, .data⟩, ⟨11, .data⟩], none⟩ (v := ?_) rfl (fun _ _ _ h => h) (Or.inl ⟨by rfl, ?_⟩) (by assumption) ?_
  case refine_2 =>
    intro w hSw
    (try dsimp only at hSw)
    (try go_simp)
    all_goals (with_reducible rfl)
  try simp only [Act.put, asA, asB, asC]
  refine tkV 13 ⟨some 29, .move (.tmp 28), 4, "ref.go:61", #[⟨12, .data⟩, ⟨8, .chain⟩], none⟩ (v := ?_) rfl (fun _ _ _ h => h) (Or.inl ⟨by rfl, ?_⟩) (by assumption) ?_
  case refine_2 =>
    intro w hSw
    (try dsimp only at hSw)
    (try go_simp)
    all_goals (with_reducible rfl)
  try simp only [Act.put, asA, asB, asC]
  refine tkV 14 ⟨some 30, .fieldAddr 37 (.tmp 3) 1, 0, "ref.go:61", #[⟨13, .guard⟩], some (13, false)⟩ (v := ?_) rfl (fun _ _ _ h => h) (Or.inl ⟨by rfl, ?_⟩) (by assumption) ?_
  case refine_2 =>
    intro w hSw
    (try dsimp only at hSw)
    (try go_simp)
    all_goals (with_reducible rfl)
  try simp only [Act.put, asA, asB, asC]
  refine tkV 15 ⟨some 31, .load 3 (.tmp 30), 3, "ref.go:61", #[⟨14, .data⟩, ⟨13, .guard⟩], some (13, false)⟩ (v := ?_) rfl (fun _ _ _ h => h) (Or.inl ⟨by rfl, ?_⟩) (by assumption) ?_
  case refine_2 =>
    intro w hSw
    (try dsimp only at hSw)
    (try go_simp)
    all_goals (with_reducible rfl)
  try simp only [Act.put, asA, asB, asC]
  refine tkV 16 ⟨some 32, .binOp .gtr 3 (.tmp 31) (.const (.int .i64 89)) 3, 4, "ref.go:61", #[⟨15, .data⟩, ⟨13, .guard⟩], some (13, false)⟩ (v := ?_) rfl (fun _ _ _ h => h) (Or.inl ⟨by rfl, ?_⟩) (by assumption) ?_
  case refine_2 =>
    intro w hSw
    (try dsimp only at hSw)
    (try go_simp)
    all_goals (with_reducible rfl)
  try simp only [Act.put, asA, asB, asC]
  refine tkV 17 ⟨some 33, .pick (.tmp 29) (.const (.bool true)) (.tmp 32), 4, "ref.go:61", #[⟨13, .data⟩, ⟨16, .data⟩], none⟩ (v := ?_) rfl (fun _ _ _ h => h) (Or.inl ⟨by rfl, ?_⟩) (by assumption) ?_
  case refine_2 =>
    intro w hSw
    (try dsimp only at hSw)
    (try go_simp)
    all_goals (with_reducible rfl)
  try simp only [Act.put, asA, asB, asC]
  refine tkV 18 ⟨some 34, .move (.tmp 33), 4, "ref.go:61", #[⟨17, .data⟩, ⟨13, .chain⟩], none⟩ (v := ?_) rfl (fun _ _ _ h => h) (Or.inl ⟨by rfl, ?_⟩) (by assumption) ?_
  case refine_2 =>
    intro w hSw
    (try dsimp only at hSw)
    (try go_simp)
    all_goals (with_reducible rfl)
  try simp only [Act.put, asA, asB, asC]
  refine tkV 19 ⟨some 35, .fieldAddr 23 (.tmp 2) 0, 0, "ref.go:61", #[⟨18, .guard⟩], some (18, false)⟩ (v := ?_) rfl (fun _ _ _ h => h) (Or.inl ⟨by rfl, ?_⟩) (by assumption) ?_
  case refine_2 =>
    intro w hSw
    (try dsimp only at hSw)
    (try go_simp)
    all_goals (with_reducible rfl)
  try simp only [Act.put, asA, asB, asC]
  refine tkV 20 ⟨some 36, .load 9 (.tmp 35), 9, "ref.go:61", #[⟨19, .data⟩, ⟨18, .guard⟩], some (18, false)⟩ (v := ?_) rfl (fun _ _ _ h => h) (Or.inl ⟨by rfl, ?_⟩) (by assumption) ?_
  case refine_2 =>
    intro w hSw
    (try dsimp only at hSw)
    (try go_simp)
    all_goals (with_reducible rfl)
  try simp only [Act.put, asA, asB, asC]
  refine tkV 21 ⟨some 37, .fieldAddr 37 (.tmp 3) 0, 0, "ref.go:61", #[⟨18, .guard⟩], some (18, false)⟩ (v := ?_) rfl (fun _ _ _ h => h) (Or.inl ⟨by rfl, ?_⟩) (by assumption) ?_
  case refine_2 =>
    intro w hSw
    (try dsimp only at hSw)
    (try go_simp)
    all_goals (with_reducible rfl)
  try simp only [Act.put, asA, asB, asC]
  refine tkV 22 ⟨some 38, .load 3 (.tmp 37), 3, "ref.go:61", #[⟨21, .data⟩, ⟨18, .guard⟩], some (18, false)⟩ (v := ?_) rfl (fun _ _ _ h => h) (Or.inl ⟨by rfl, ?_⟩) (by assumption) ?_
  case refine_2 =>
    intro w hSw
    (try dsimp only at hSw)
    (try go_simp)
    all_goals (with_reducible rfl)
  try simp only [Act.put, asA, asB, asC]
  refine tkV 23 ⟨some 39, .index 9 (.tmp 36) (.tmp 38), 5, "ref.go:61", #[⟨20, .data⟩, ⟨22, .data⟩, ⟨18, .guard⟩], some (18, false)⟩ (v := ?_) rfl (fun _ _ _ h => h) (Or.inl ⟨by rfl, ?_⟩) (by assumption) ?_
  case refine_2 =>
    intro w hSw
    (try dsimp only at hSw)
    (try go_simp)
    all_goals (with_reducible rfl)
  try simp only [Act.put, asA, asB, asC]
  refine tkV 25 ⟨some 41, .fieldAddr 23 (.tmp 2) 1, 0, "ref.go:61", #[⟨18, .guard⟩], some (18, false)⟩ (v := ?_) rfl (fun _ _ _ h => h) (Or.inl ⟨by rfl, ?_⟩) (by assumption) ?_
  case refine_2 =>
    intro w hSw
    (try dsimp only at hSw)
    (try go_simp)
    all_goals (with_reducible rfl)
  try simp only [Act.put, asA, asB, asC]
  refine tkV 26 ⟨some 42, .load 3 (.tmp 41), 3, "ref.go:61", #[⟨25, .data⟩, ⟨18, .guard⟩], some (18, false)⟩ (v := ?_) rfl (fun _ _ _ h => h) (Or.inl ⟨by rfl, ?_⟩) (by assumption) ?_
  case refine_2 =>
    intro w hSw
    (try dsimp only at hSw)
    (try go_simp)
    all_goals (with_reducible rfl)
  try simp only [Act.put, asA, asB, asC]
  refine wpAnyH_ready (rs := [24]) (by kernel_rfl) (by simp) (AllReadyH.cons (o := { dst := some 40, op := Op.call { callee := Callee.value (Operand.func 79), args := #[Operand.tmp 39], argTypes := #[5] }, type := 3, pos := "ref.go:61", after := #[{ on := 23, ground := Ground.data }, { on := 18, ground := Ground.chain }, { on := 18, ground := Ground.guard }], guard := some (18, false) }) rfl (fun K hK => ?_) AllReadyH.nil)
  go_simp
  refine (rside_is c d _ HD.out).mono ?_; rintro e w2 ⟨rfl, rfl⟩
  refine hK.out _ _ ?_ (fun hHeld => ?_)
  · exact hHeld
  clear hK K
  refine tkV 27 ⟨some 43, .binOp .neq 3 (.tmp 40) (.tmp 42) 3, 4, "ref.go:61", #[⟨24, .data⟩, ⟨26, .data⟩, ⟨18, .guard⟩], some (18, false)⟩ (v := ?_) rfl (fun _ _ _ h => h) (Or.inl ⟨by rfl, ?_⟩) (by assumption) ?_
  case refine_2 =>
    intro w hSw
    (try dsimp only at hSw)
    (try go_simp)
    all_goals (with_reducible rfl)
  try simp only [Act.put, asA, asB, asC]
  refine tkV 28 ⟨some 44, .pick (.tmp 34) (.const (.bool true)) (.tmp 43), 4, "ref.go:61", #[⟨18, .data⟩, ⟨27, .data⟩], none⟩ (v := ?_) rfl (fun _ _ _ h => h) (Or.inl ⟨by rfl, ?_⟩) (by assumption) ?_
  case refine_2 =>
    intro w hSw
    (try dsimp only at hSw)
    (try go_simp)
    all_goals (with_reducible rfl)
  try simp only [Act.put, asA, asB, asC]
  refine tkV 29 ⟨some 45, .move (.tmp 44), 4, "ref.go:61", #[⟨28, .data⟩, ⟨24, .chain⟩], none⟩ (v := ?_) rfl (fun _ _ _ h => h) (Or.inl ⟨by rfl, ?_⟩) (by assumption) ?_
  case refine_2 =>
    intro w hSw
    (try dsimp only at hSw)
    (try go_simp)
    all_goals (with_reducible rfl)
  try simp only [Act.put, asA, asB, asC]
  refine tkV 30 ⟨some 46, .fieldAddr 23 (.tmp 2) 0, 0, "ref.go:61", #[⟨29, .guard⟩], some (29, false)⟩ (v := ?_) rfl (fun _ _ _ h => h) (Or.inl ⟨by rfl, ?_⟩) (by assumption) ?_
  case refine_2 =>
    intro w hSw
    (try dsimp only at hSw)
    (try go_simp)
    all_goals (with_reducible rfl)
  try simp only [Act.put, asA, asB, asC]
  refine tkV 31 ⟨some 47, .load 9 (.tmp 46), 9, "ref.go:61", #[⟨30, .data⟩, ⟨29, .guard⟩], some (29, false)⟩ (v := ?_) rfl (fun _ _ _ h => h) (Or.inl ⟨by rfl, ?_⟩) (by assumption) ?_
  case refine_2 =>
    intro w hSw
    (try dsimp only at hSw)
    (try go_simp)
    all_goals (with_reducible rfl)
  try simp only [Act.put, asA, asB, asC]
  refine tkV 32 ⟨some 48, .fieldAddr 37 (.tmp 3) 0, 0, "ref.go:61", #[⟨29, .guard⟩], some (29, false)⟩ (v := ?_) rfl (fun _ _ _ h => h) (Or.inl ⟨by rfl, ?_⟩) (by assumption) ?_
  case refine_2 =>
    intro w hSw
    (try dsimp only at hSw)
    (try go_simp)
    all_goals (with_reducible rfl)
  try simp only [Act.put, asA, asB, asC]
  refine tkV 33 ⟨some 49, .load 3 (.tmp 48), 3, "ref.go:61", #[⟨32, .data⟩, ⟨29, .guard⟩], some (29, false)⟩ (v := ?_) rfl (fun _ _ _ h => h) (Or.inl ⟨by rfl, ?_⟩) (by assumption) ?_
  case refine_2 =>
    intro w hSw
    (try dsimp only at hSw)
    (try go_simp)
    all_goals (with_reducible rfl)
  try simp only [Act.put, asA, asB, asC]
  refine tkV 34 ⟨some 50, .fieldAddr 37 (.tmp 3) 1, 0, "ref.go:61", #[⟨29, .guard⟩], some (29, false)⟩ (v := ?_) rfl (fun _ _ _ h => h) (Or.inl ⟨by rfl, ?_⟩) (by assumption) ?_
  case refine_2 =>
    intro w hSw
    (try dsimp only at hSw)
    (try go_simp)
    all_goals (with_reducible rfl)
  try simp only [Act.put, asA, asB, asC]
  refine tkV 35 ⟨some 51, .load 3 (.tmp 50), 3, "ref.go:61", #[⟨34, .data⟩, ⟨29, .guard⟩], some (29, false)⟩ (v := ?_) rfl (fun _ _ _ h => h) (Or.inl ⟨by rfl, ?_⟩) (by assumption) ?_
  case refine_2 =>
    intro w hSw
    (try dsimp only at hSw)
    (try go_simp)
    all_goals (with_reducible rfl)
  try simp only [Act.put, asA, asB, asC]
  refine wpAnyH_ready (rs := [36]) (by kernel_rfl) (by simp) (AllReadyH.cons (o := { dst := some 52, op := Op.call { callee := Callee.value (Operand.func 80), args := #[Operand.tmp 47, Operand.tmp 49, Operand.tmp 51], argTypes := #[9, 3, 3] }, type := 4, pos := "ref.go:61", after := #[{ on := 31, ground := Ground.data }, { on := 33, ground := Ground.data }, { on := 35, ground := Ground.data }, { on := 29, ground := Ground.chain }, { on := 29, ground := Ground.guard }], guard := some (29, false) }) rfl (fun K hK => ?_) AllReadyH.nil)
  go_simp
  refine (fast_is s a b _ _ hs ha hb HR.out).mono ?_; rintro e w2 ⟨rfl, rfl⟩
  refine hK.out _ _ ?_ (fun hHeld => ?_)
  · exact hHeld
  clear hK K
  refine tkV 37 ⟨some 53, .unOp .not 4 (.tmp 52), 4, "ref.go:61", #[⟨36, .data⟩, ⟨29, .guard⟩], some (29, false)⟩ (v := ?_) rfl (fun _ _ _ h => h) (Or.inl ⟨by rfl, ?_⟩) (by assumption) ?_
  case refine_2 =>
    intro w hSw
    (try dsimp only at hSw)
    (try go_simp)
    all_goals (with_reducible rfl)
  try simp only [Act.put, asA, asB, asC]
  refine tkV 38 ⟨some 54, .pick (.tmp 45) (.const (.bool true)) (.tmp 53), 4, "ref.go:61", #[⟨29, .data⟩, ⟨37, .data⟩], none⟩ (v := ?_) rfl (fun _ _ _ h => h) (Or.inl ⟨by rfl, ?_⟩) (by assumption) ?_
  case refine_2 =>
    intro w hSw
    (try dsimp only at hSw)
    (try go_simp)
    all_goals (with_reducible rfl)
  try simp only [Act.put, asA, asB, asC]
  refine tkV 39 ⟨some 55, .move (.tmp 54), 4, "ref.go:61", #[⟨38, .data⟩, ⟨36, .chain⟩], none⟩ (v := ?_) rfl (fun _ _ _ h => h) (Or.inl ⟨by rfl, ?_⟩) (by assumption) ?_
  case refine_2 =>
    intro w hSw
    (try dsimp only at hSw)
    (try go_simp)
    all_goals (with_reducible rfl)
  try simp only [Act.put, asA, asB, asC]
  refine tkV 40 ⟨some 56, .fieldAddr 23 (.tmp 2) 0, 0, "ref.go:61", #[⟨39, .guard⟩], some (39, false)⟩ (v := ?_) rfl (fun _ _ _ h => h) (Or.inl ⟨by rfl, ?_⟩) (by assumption) ?_
  case refine_2 =>
    intro w hSw
    (try dsimp only at hSw)
    (try go_simp)
    all_goals (with_reducible rfl)
  try simp only [Act.put, asA, asB, asC]
  refine tkV 41 ⟨some 57, .load 9 (.tmp 56), 9, "ref.go:61", #[⟨40, .data⟩, ⟨39, .guard⟩], some (39, false)⟩ (v := ?_) rfl (fun _ _ _ h => h) (Or.inl ⟨by rfl, ?_⟩) (by assumption) ?_
  case refine_2 =>
    intro w hSw
    (try dsimp only at hSw)
    (try go_simp)
    all_goals (with_reducible rfl)
  try simp only [Act.put, asA, asB, asC]
  refine tkV 42 ⟨some 58, .fieldAddr 37 (.tmp 3) 1, 0, "ref.go:61", #[⟨39, .guard⟩], some (39, false)⟩ (v := ?_) rfl (fun _ _ _ h => h) (Or.inl ⟨by rfl, ?_⟩) (by assumption) ?_
  case refine_2 =>
    intro w hSw
    (try dsimp only at hSw)
    (try go_simp)
    all_goals (with_reducible rfl)
  try simp only [Act.put, asA, asB, asC]
  refine tkV 43 ⟨some 59, .load 3 (.tmp 58), 3, "ref.go:61", #[⟨42, .data⟩, ⟨39, .guard⟩], some (39, false)⟩ (v := ?_) rfl (fun _ _ _ h => h) (Or.inl ⟨by rfl, ?_⟩) (by assumption) ?_
  case refine_2 =>
    intro w hSw
    (try dsimp only at hSw)
    (try go_simp)
    all_goals (with_reducible rfl)
  try simp only [Act.put, asA, asB, asC]
  refine tkV 44 ⟨some 60, .index 9 (.tmp 57) (.tmp 59), 5, "ref.go:61", #[⟨41, .data⟩, ⟨43, .data⟩, ⟨39, .guard⟩], some (39, false)⟩ (v := ?_) rfl (fun _ _ _ h => h) (Or.inl ⟨by rfl, ?_⟩) (by assumption) ?_
  case refine_2 =>
    intro w hSw
    (try dsimp only at hSw)
    (try go_simp)
    all_goals (with_reducible rfl)
  try simp only [Act.put, asA, asB, asC]
  refine wpAnyH_ready (rs := [45]) (by kernel_rfl) (by simp) (AllReadyH.cons (o := { dst := some 61, op := Op.call { callee := Callee.value (Operand.func 81), args := #[Operand.tmp 60], argTypes := #[5] }, type := 5, pos := "ref.go:61", after := #[{ on := 44, ground := Ground.data }, { on := 39, ground := Ground.chain }, { on := 39, ground := Ground.guard }], guard := some (39, false) }) rfl (fun K hK => ?_) AllReadyH.nil)
  go_simp
  refine (rkind_is x k _ HK.out).mono ?_; rintro e w2 ⟨rfl, rfl⟩
  refine hK.out _ _ ?_ (fun hHeld => ?_)
  · exact hHeld
  clear hK K
  refine tkV 46 ⟨some 62, .binOp .eql 5 (.tmp 61) (.const (.int .u8 75)) 5, 4, "ref.go:61", #[⟨45, .data⟩, ⟨39, .guard⟩], some (39, false)⟩ (v := ?_) rfl (fun _ _ _ h => h) (Or.inl ⟨by rfl, ?_⟩) (by assumption) ?_
  case refine_2 =>
    intro w hSw
    (try dsimp only at hSw)
    (try go_simp)
    all_goals (with_reducible rfl)
  try simp only [Act.put, asA, asB, asC]
  refine tkV 47 ⟨some 63, .pick (.tmp 55) (.const (.bool true)) (.tmp 62), 4, "ref.go:61", #[⟨39, .data⟩, ⟨46, .data⟩], none⟩ (v := ?_) rfl (fun _ _ _ h => h) (Or.inl ⟨by rfl, ?_⟩) (by assumption) ?_
  case refine_2 =>
    intro w hSw
    (try dsimp only at hSw)
    (try go_simp)
    all_goals (with_reducible rfl)
  try simp only [Act.put, asA, asB, asC]
  refine wpAnyH_done (by kernel_rfl) ?_ _
  go_wp2_with fail
  refine bodyPost_ret (res_pos3 rfl _ _ rfl (mvEnd bR2 (by omega) hB1.drew).1) rfl ⟨rfl, (mvEnd bR2 (by omega) hB1.drew).2⟩
end Go.Proofs.YtiiipchfclmbcaaGreatDoor

namespace Go.Proofs.YtiiipchfclmbcaaGreatDoor
open Go.RowKit Go.Shelf
open M (S)
/-- What the making of the position keeps. -/
abbrev ApS (w : World) (s : ByteArray) (side clock full : Int) (a b : Nat) (W : World) : Prop := W.cell? ⟨w.heap.size, 0, none⟩ = some (.string s) ∧ W.cell? ⟨w.heap.size, 1, none⟩ = some (.int .i64 side) ∧ W.cell? ⟨w.heap.size, 2, none⟩ = some (.int .i64 clock) ∧ W.cell? ⟨w.heap.size, 3, none⟩ = some (.int .i64 full) ∧ W.cell? ⟨w.heap.size + 1, 0, none⟩ = some (.int .i64 (a : Int)) ∧ W.cell? ⟨w.heap.size + 1, 1, none⟩ = some (.int .i64 (b : Int)) ∧ Blk W (w.heap.size + 2) 23 #[.string ⟨#[]⟩, .int .i64 0, .int .i64 0, .int .i64 0] ∧ Below w.heap.size w W
theorem apS_keep {w : World} {s : ByteArray} {side clock full : Int} {a b : Nat} {W W' : World} (h : ApS w s side clock full a b W) (hb : Below W.heap.size W W') : ApS w s side clock full a b W' := by
  obtain ⟨h0, h1, h2, h3, h4, h5, h6, h7⟩ := h
  exact ⟨(hb.cell (p := ⟨w.heap.size, 0, none⟩) (World.block_lt_of_cell? _ _ h0)).trans h0, (hb.cell (p := ⟨w.heap.size, 1, none⟩) (World.block_lt_of_cell? _ _ h1)).trans h1, (hb.cell (p := ⟨w.heap.size, 2, none⟩) (World.block_lt_of_cell? _ _ h2)).trans h2, (hb.cell (p := ⟨w.heap.size, 3, none⟩) (World.block_lt_of_cell? _ _ h3)).trans h3, (hb.cell (p := ⟨w.heap.size + 1, 0, none⟩) (World.block_lt_of_cell? _ _ h4)).trans h4, (hb.cell (p := ⟨w.heap.size + 1, 1, none⟩) (World.block_lt_of_cell? _ _ h5)).trans h5, h6.next hb, h7.trans (hb.mono h7.size)⟩
theorem apS_set {w : World} {s : ByteArray} {side clock full : Int} {a b : Nat} {W X : World} (h : ApS w s side clock full a b W) (hx : ApS w s side clock full a b X) (k : Nat) (u : Value) : ApS w s side clock full a b (W.setCell ⟨X.heap.size, k, none⟩ u) := by
  obtain ⟨h0, h1, h2, h3, h4, h5, h6, h7⟩ := h
  have hlt : w.heap.size + 2 < X.heap.size := hx.2.2.2.2.2.2.1.lt
  have far : ∀ (q i : Nat), q < X.heap.size → (W.setCell ⟨X.heap.size, k, none⟩ u).cell? ⟨q, i, none⟩ = W.cell? ⟨q, i, none⟩ := fun q i hq => World.cell?_setCell_other _ _ _ _ (by intro e; injection e with e1; omega)
  exact ⟨(far _ 0 (by omega)).trans h0, (far _ 1 (by omega)).trans h1, (far _ 2 (by omega)).trans h2, (far _ 3 (by omega)).trans h3, (far _ 0 (by omega)).trans h4, (far _ 1 (by omega)).trans h5, h6.far (p := ⟨X.heap.size, k, none⟩) (by simp only; omega) u, h7.setCell (p := ⟨X.heap.size, k, none⟩) (by simp only; omega) u⟩
theorem with_one {P R : Prop} (h : P) (k : P → R) : R := k h
theorem blk4_drew {W w2 : World} {x : ByteArray} {y z u : Int} {t : TypeId} (hb : Below ((W.alloc (.cells #[.string x, .int .i64 y, .int .i64 z, .int .i64 u] t)).drew).heap.size ((W.alloc (.cells #[.string x, .int .i64 y, .int .i64 z, .int .i64 u] t)).drew) w2) :
    Blk w2 W.heap.size t #[.string x, .int .i64 y, .int .i64 z, .int .i64 u] ∧ (w2.cell? ⟨W.heap.size, 0, none⟩ = some (.string x) ∧ w2.cell? ⟨W.heap.size, 1, none⟩ = some (.int .i64 y) ∧ w2.cell? ⟨W.heap.size, 2, none⟩ = some (.int .i64 z) ∧ w2.cell? ⟨W.heap.size, 3, none⟩ = some (.int .i64 u)) ∧ w2.frozen? ⟨W.heap.size, 0, none⟩ = false ∧ w2.frozen? ⟨W.heap.size, 1, none⟩ = false ∧ w2.frozen? ⟨W.heap.size, 2, none⟩ = false ∧ w2.frozen? ⟨W.heap.size, 3, none⟩ = false := by
  have h1 : Blk w2 W.heap.size t #[.string x, .int .i64 y, .int .i64 z, .int .i64 u] := ((Blk.new W t _ rfl).next (Below.refl _ _).drew).next hb
  exact ⟨h1, ppos_cells h1, ppos_frozen h1⟩
set_option maxRecDepth 100000 in
set_option maxHeartbeats 8000000 in
theorem rapply_good (s : ByteArray) (side clock full : Int) (a b c x k : Nat) (d : Int) (r : Bool) (w : World) (hc : (checkN s side clock full : Int) = 0) (hs : 90 ≤ s.size) (ha : a < 90) (hb : b < 90) (hca : bAt s a = c) (hxb : bAt s b = x) (hd : sideN c = d) (hr : canB s a b = r) (hk : kindN x = k) (h : (d != side) = false) (hf : r = true) (hn : ((k : Int) == 75) = false) (hz : s.size = 90) (hab : a ≠ b) (hside : side = 0 ∨ side = 1) (c0 : 0 ≤ clock) (c1 : clock ≤ 120) (l0 : 1 ≤ full) (l1 : full ≤ 9999) :
    Calls Tryz.prog 48 #[.agg #[.string s, .int .i64 side, .int .i64 clock, .int .i64 full], .agg #[.int .i64 (a : Int), .int .i64 (b : Int)]] w (Gives w (.tuple #[.agg #[.string (movedS s a b c), .int .i64 (1 - side), .int .i64 (clockA s clock b), .int .i64 (fullA side full)], .int .u8 (takenN s b : Nat), .int .i64 0])) := by
  unfold Gives
  subst hf
  have HMV := Lib.hid fun W => rmoved_is s a b c W hz ha hb hab hca
  have a0 : (0 : Int) ≤ (a : Int) := by omega
  have b0 : (0 : Int) ≤ (b : Int) := by omega
  have a9 : (a : Int) ≤ 89 := by omega
  have b9 : (b : Int) ≤ 89 := by omega
  have hak : s[a].toNat = c := (bAt_eq s a (by omega)).trans hca
  have hbk : s[b].toNat = x := (bAt_eq s b (by omega)).trans hxb
  have e0 : decide ((a : Int) < 0) = false := by simp
  have e1 : decide (89 < (a : Int)) = false := by simp; omega
  have e2 : decide ((b : Int) < 0) = false := by simp
  have e3 : decide (89 < (b : Int)) = false := by simp; omega
  have a90 : (a : Int) < 90 := by omega
  have b90 : (b : Int) < 90 := by omega
  have asz : (a : Int) < (s.size : Int) := by omega
  have bsz : (b : Int) < (s.size : Int) := by omega
  have HD := Lib.hid hd
  have HR := Lib.hid hr
  have HK := Lib.hid hk
  have HX := Lib.hid hxb
  clear hca hxb hd hr hk
  obtain ⟨W1, hW1⟩ : ∃ W1, ((w.alloc (.cells #[.string s, .int .i64 side, .int .i64 clock, .int .i64 full] 23)).alloc (.cells #[.int .i64 (a : Int), .int .i64 (b : Int)] 37)).alloc (.cells #[.string ⟨#[]⟩, .int .i64 0, .int .i64 0, .int .i64 0] 23) = W1 := ⟨_, rfl⟩
  obtain ⟨hB, bP, bM, bR⟩ := ap_start hW1
  obtain ⟨p0, p1, p2, p3⟩ := ppos_cells bP
  have HC := Lib.hid hc
  have HW := Lib.hid hW1
  clear hc hW1
  go_enter Tryz.func48, Tryz.ntmps48
  go_wp2_with fail
  rw [HW.out]
  have f0 := ppos_frozen bR
  go_wp2_with fail
  refine (rcheck_is s side clock full 0 _ HC.out).mono ?_
  rintro e w1 ⟨rfl, hbw⟩
  have bR1 := bR.next hbw
  have bM1 := bM.next hbw
  have bP1 := bP.next hbw
  have hB1 := hB.trans (hbw.mono hB.size)
  obtain ⟨t0, t1, t2, t3⟩ := ppos_cells bP1
  have m0 : w1.cell? ⟨w.heap.size + 1, 0, none⟩ = some (.int .i64 (a : Int)) := bM1.cell 0
  have m1 : w1.cell? ⟨w.heap.size + 1, 1, none⟩ = some (.int .i64 (b : Int)) := bM1.cell 1
  obtain ⟨g0, g1, g2, g3⟩ := ppos_cells bR1
  obtain ⟨f0, f1, f2, f3⟩ := ppos_frozen bR1
  go_wp2_with fail
  have hS : w1.drew.cell? ⟨w.heap.size, 0, none⟩ = some (.string s) ∧ w1.drew.cell? ⟨w.heap.size, 1, none⟩ = some (.int .i64 side) ∧ w1.drew.cell? ⟨w.heap.size + 1, 0, none⟩ = some (.int .i64 (a : Int)) ∧ w1.drew.cell? ⟨w.heap.size + 1, 1, none⟩ = some (.int .i64 (b : Int)) ∧ Below w.heap.size w w1.drew := ⟨t0, t1, m0, m1, hB1.drew⟩
  have bR2 := bR1.next (Below.refl _ _).drew
  refine wp_region_held_drew (S := fun W => W.cell? ⟨w.heap.size, 0, none⟩ = some (.string s) ∧ W.cell? ⟨w.heap.size, 1, none⟩ = some (.int .i64 side) ∧ W.cell? ⟨w.heap.size + 1, 0, none⟩ = some (.int .i64 (a : Int)) ∧ W.cell? ⟨w.heap.size + 1, 1, none⟩ = some (.int .i64 (b : Int)) ∧ Below w.heap.size w W) (by kernel_rfl) (hS) (fun hHeld => ?_)
  refine tkV 0 ⟨some 16, .fieldAddr 37 (.tmp 3) 0, 0, "ref.go:61", #[], none⟩ (v := ?_) rfl (fun _ _ _ h => h) (Or.inl ⟨by rfl, ?_⟩) (by assumption) ?_
  case refine_2 =>
    intro w hSw
    (try dsimp only at hSw)
    (try go_simp)
    all_goals (with_reducible rfl)
  try simp only [Act.put, asA, asB, asC]
  refine tkV 1 ⟨some 17, .load 3 (.tmp 16), 3, "ref.go:61", #[⟨0, .data⟩], none⟩ (v := ?_) rfl (fun _ _ _ h => h) (Or.inl ⟨by rfl, ?_⟩) (by assumption) ?_
  case refine_2 =>
    intro w hSw
    (try dsimp only at hSw)
    (try go_simp)
    all_goals (with_reducible rfl)
  try simp only [Act.put, asA, asB, asC]
  refine tkV 2 ⟨some 18, .binOp .lss 3 (.tmp 17) (.const (.int .i64 0)) 3, 4, "ref.go:61", #[⟨1, .data⟩], none⟩ (v := ?_) rfl (fun _ _ _ h => h) (Or.inl ⟨by rfl, ?_⟩) (by assumption) ?_
  case refine_2 =>
    intro w hSw
    (try dsimp only at hSw)
    (try go_simp)
    all_goals (with_reducible rfl)
  try simp only [Act.put, asA, asB, asC]
  refine tkV 3 ⟨some 19, .move (.tmp 18), 4, "ref.go:61", #[⟨2, .data⟩], none⟩ (v := ?_) rfl (fun _ _ _ h => h) (Or.inl ⟨by rfl, ?_⟩) (by assumption) ?_
  case refine_2 =>
    intro w hSw
    (try dsimp only at hSw)
    (try go_simp)
    all_goals (with_reducible rfl)
  try simp only [Act.put, asA, asB, asC]
  refine tkV 4 ⟨some 20, .fieldAddr 37 (.tmp 3) 0, 0, "ref.go:61", #[⟨3, .guard⟩], some (3, false)⟩ (v := ?_) rfl (fun _ _ _ h => h) (Or.inl ⟨by rfl, ?_⟩) (by assumption) ?_
  case refine_2 =>
    intro w hSw
    (try dsimp only at hSw)
    (try go_simp)
    all_goals (with_reducible rfl)
  try simp only [Act.put, asA, asB, asC]
  refine tkV 5 ⟨some 21, .load 3 (.tmp 20), 3, "ref.go:61", #[⟨4, .data⟩, ⟨3, .guard⟩], some (3, false)⟩ (v := ?_) rfl (fun _ _ _ h => h) (Or.inl ⟨by rfl, ?_⟩) (by assumption) ?_
  case refine_2 =>
    intro w hSw
    (try dsimp only at hSw)
    (try go_simp)
    all_goals (with_reducible rfl)
  try simp only [Act.put, asA, asB, asC]
  refine tkV 6 ⟨some 22, .binOp .gtr 3 (.tmp 21) (.const (.int .i64 89)) 3, 4, "ref.go:61", #[⟨5, .data⟩, ⟨3, .guard⟩], some (3, false)⟩ (v := ?_) rfl (fun _ _ _ h => h) (Or.inl ⟨by rfl, ?_⟩) (by assumption) ?_
  case refine_2 =>
    intro w hSw
    (try dsimp only at hSw)
    (try go_simp)
    all_goals (with_reducible rfl)
  try simp only [Act.put, asA, asB, asC]
  refine tkV 7 ⟨some 23, .pick (.tmp 19) (.const (.bool true)) (.tmp 22), 4, "ref.go:61", #[⟨3, .data⟩, ⟨6, .data⟩], none⟩ (v := ?_) rfl (fun _ _ _ h => h) (Or.inl ⟨by rfl, ?_⟩) (by assumption) ?_
  case refine_2 =>
    intro w hSw
    (try dsimp only at hSw)
    (try go_simp)
    all_goals (with_reducible rfl)
  try simp only [Act.put, asA, asB, asC]
  refine tkV 8 ⟨some 24, .move (.tmp 23), 4, "ref.go:61", #[⟨7, .data⟩, ⟨3, .chain⟩], none⟩ (v := ?_) rfl (fun _ _ _ h => h) (Or.inl ⟨by rfl, ?_⟩) (by assumption) ?_
  case refine_2 =>
    intro w hSw
    (try dsimp only at hSw)
    (try go_simp)
    all_goals (with_reducible rfl)
  try simp only [Act.put, asA, asB, asC]
  refine tkV 9 ⟨some 25, .fieldAddr 37 (.tmp 3) 1, 0, "ref.go:61", #[⟨8, .guard⟩], some (8, false)⟩ (v := ?_) rfl (fun _ _ _ h => h) (Or.inl ⟨by rfl, ?_⟩) (by assumption) ?_
  case refine_2 =>
    intro w hSw
    (try dsimp only at hSw)
    (try go_simp)
    all_goals (with_reducible rfl)
  try simp only [Act.put, asA, asB, asC]
  refine tkV 10 ⟨some 26, .load 3 (.tmp 25), 3, "ref.go:61", #[⟨9, .data⟩, ⟨8, .guard⟩], some (8, false)⟩ (v := ?_) rfl (fun _ _ _ h => h) (Or.inl ⟨by rfl, ?_⟩) (by assumption) ?_
  case refine_2 =>
    intro w hSw
    (try dsimp only at hSw)
    (try go_simp)
    all_goals (with_reducible rfl)
  try simp only [Act.put, asA, asB, asC]
  refine tkV 11 ⟨some 27, .binOp .lss 3 (.tmp 26) (.const (.int .i64 0)) 3, 4, "ref.go:61", #[⟨10, .data⟩, ⟨8, .guard⟩], some (8, false)⟩ (v := ?_) rfl (fun _ _ _ h => h) (Or.inl ⟨by rfl, ?_⟩) (by assumption) ?_
  case refine_2 =>
    intro w hSw
    (try dsimp only at hSw)
    (try go_simp)
    all_goals (with_reducible rfl)
  try simp only [Act.put, asA, asB, asC]
  refine tkV 12 ⟨some 28, .pick (.tmp 24) (.const (.bool true)) (.tmp 27), 4, "ref.go:61", #[⟨8, .data⟩, ⟨11, .data⟩], none⟩ (v := ?_) rfl (fun _ _ _ h => h) (Or.inl ⟨by rfl, ?_⟩) (by assumption) ?_
  case refine_2 =>
    intro w hSw
    (try dsimp only at hSw)
    (try go_simp)
    all_goals (with_reducible rfl)
  try simp only [Act.put, asA, asB, asC]
  refine tkV 13 ⟨some 29, .move (.tmp 28), 4, "ref.go:61", #[⟨12, .data⟩, ⟨8, .chain⟩], none⟩ (v := ?_) rfl (fun _ _ _ h => h) (Or.inl ⟨by rfl, ?_⟩) (by assumption) ?_
  case refine_2 =>
    intro w hSw
    (try dsimp only at hSw)
    (try go_simp)
    all_goals (with_reducible rfl)
  try simp only [Act.put, asA, asB, asC]
  refine tkV 14 ⟨some 30, .fieldAddr 37 (.tmp 3) 1, 0, "ref.go:61", #[⟨13, .guard⟩], some (13, false)⟩ (v := ?_) rfl (fun _ _ _ h => h) (Or.inl ⟨by rfl, ?_⟩) (by assumption) ?_
  case refine_2 =>
    intro w hSw
    (try dsimp only at hSw)
    (try go_simp)
    all_goals (with_reducible rfl)
  try simp only [Act.put, asA, asB, asC]
  refine tkV 15 ⟨some 31, .load 3 (.tmp 30), 3, "ref.go:61", #[⟨14, .data⟩, ⟨13, .guard⟩], some (13, false)⟩ (v := ?_) rfl (fun _ _ _ h => h) (Or.inl ⟨by rfl, ?_⟩) (by assumption) ?_
  case refine_2 =>
    intro w hSw
    (try dsimp only at hSw)
    (try go_simp)
    all_goals (with_reducible rfl)
  try simp only [Act.put, asA, asB, asC]
  refine tkV 16 ⟨some 32, .binOp .gtr 3 (.tmp 31) (.const (.int .i64 89)) 3, 4, "ref.go:61", #[⟨15, .data⟩, ⟨13, .guard⟩], some (13, false)⟩ (v := ?_) rfl (fun _ _ _ h => h) (Or.inl ⟨by rfl, ?_⟩) (by assumption) ?_
  case refine_2 =>
    intro w hSw
    (try dsimp only at hSw)
    (try go_simp)
    all_goals (with_reducible rfl)
  try simp only [Act.put, asA, asB, asC]
  refine tkV 17 ⟨some 33, .pick (.tmp 29) (.const (.bool true)) (.tmp 32), 4, "ref.go:61", #[⟨13, .data⟩, ⟨16, .data⟩], none⟩ (v := ?_) rfl (fun _ _ _ h => h) (Or.inl ⟨by rfl, ?_⟩) (by assumption) ?_
  case refine_2 =>
    intro w hSw
    (try dsimp only at hSw)
    (try go_simp)
    all_goals (with_reducible rfl)
  try simp only [Act.put, asA, asB, asC]
  refine tkV 18 ⟨some 34, .move (.tmp 33), 4, "ref.go:61", #[⟨17, .data⟩, ⟨13, .chain⟩], none⟩ (v := ?_) rfl (fun _ _ _ h => h) (Or.inl ⟨by rfl, ?_⟩) (by assumption) ?_
  case refine_2 =>
    intro w hSw
    (try dsimp only at hSw)
    (try go_simp)
    all_goals (with_reducible rfl)
  try simp only [Act.put, asA, asB, asC]
  refine tkV 19 ⟨some 35, .fieldAddr 23 (.tmp 2) 0, 0, "ref.go:61", #[⟨18, .guard⟩], some (18, false)⟩ (v := ?_) rfl (fun _ _ _ h => h) (Or.inl ⟨by rfl, ?_⟩) (by assumption) ?_
  case refine_2 =>
    intro w hSw
    (try dsimp only at hSw)
    (try go_simp)
    all_goals (with_reducible rfl)
  try simp only [Act.put, asA, asB, asC]
  refine tkV 20 ⟨some 36, .load 9 (.tmp 35), 9, "ref.go:61", #[⟨19, .data⟩, ⟨18, .guard⟩], some (18, false)⟩ (v := ?_) rfl (fun _ _ _ h => h) (Or.inl ⟨by rfl, ?_⟩) (by assumption) ?_
  case refine_2 =>
    intro w hSw
    (try dsimp only at hSw)
    (try go_simp)
    all_goals (with_reducible rfl)
  try simp only [Act.put, asA, asB, asC]
  refine tkV 21 ⟨some 37, .fieldAddr 37 (.tmp 3) 0, 0, "ref.go:61", #[⟨18, .guard⟩], some (18, false)⟩ (v := ?_) rfl (fun _ _ _ h => h) (Or.inl ⟨by rfl, ?_⟩) (by assumption) ?_
  case refine_2 =>
    intro w hSw
    (try dsimp only at hSw)
    (try go_simp)
    all_goals (with_reducible rfl)
  try simp only [Act.put, asA, asB, asC]
  refine tkV 22 ⟨some 38, .load 3 (.tmp 37), 3, "ref.go:61", #[⟨21, .data⟩, ⟨18, .guard⟩], some (18, false)⟩ (v := ?_) rfl (fun _ _ _ h => h) (Or.inl ⟨by rfl, ?_⟩) (by assumption) ?_
  case refine_2 =>
    intro w hSw
    (try dsimp only at hSw)
    (try go_simp)
    all_goals (with_reducible rfl)
  try simp only [Act.put, asA, asB, asC]
  refine tkV 23 ⟨some 39, .index 9 (.tmp 36) (.tmp 38), 5, "ref.go:61", #[⟨20, .data⟩, ⟨22, .data⟩, ⟨18, .guard⟩], some (18, false)⟩ (v := ?_) rfl (fun _ _ _ h => h) (Or.inl ⟨by rfl, ?_⟩) (by assumption) ?_
  case refine_2 =>
    intro w hSw
    (try dsimp only at hSw)
    (try go_simp)
    all_goals (with_reducible rfl)
  try simp only [Act.put, asA, asB, asC]
  refine tkV 25 ⟨some 41, .fieldAddr 23 (.tmp 2) 1, 0, "ref.go:61", #[⟨18, .guard⟩], some (18, false)⟩ (v := ?_) rfl (fun _ _ _ h => h) (Or.inl ⟨by rfl, ?_⟩) (by assumption) ?_
  case refine_2 =>
    intro w hSw
    (try dsimp only at hSw)
    (try go_simp)
    all_goals (with_reducible rfl)
  try simp only [Act.put, asA, asB, asC]
  refine tkV 26 ⟨some 42, .load 3 (.tmp 41), 3, "ref.go:61", #[⟨25, .data⟩, ⟨18, .guard⟩], some (18, false)⟩ (v := ?_) rfl (fun _ _ _ h => h) (Or.inl ⟨by rfl, ?_⟩) (by assumption) ?_
  case refine_2 =>
    intro w hSw
    (try dsimp only at hSw)
    (try go_simp)
    all_goals (with_reducible rfl)
  try simp only [Act.put, asA, asB, asC]
  refine wpAnyH_ready (rs := [24]) (by kernel_rfl) (by simp) (AllReadyH.cons (o := { dst := some 40, op := Op.call { callee := Callee.value (Operand.func 79), args := #[Operand.tmp 39], argTypes := #[5] }, type := 3, pos := "ref.go:61", after := #[{ on := 23, ground := Ground.data }, { on := 18, ground := Ground.chain }, { on := 18, ground := Ground.guard }], guard := some (18, false) }) rfl (fun K hK => ?_) AllReadyH.nil)
  go_simp
  refine (rside_is c d _ HD.out).mono ?_; rintro e w2 ⟨rfl, rfl⟩
  refine hK.out _ _ ?_ (fun hHeld => ?_)
  · exact hHeld
  clear hK K
  refine tkV 27 ⟨some 43, .binOp .neq 3 (.tmp 40) (.tmp 42) 3, 4, "ref.go:61", #[⟨24, .data⟩, ⟨26, .data⟩, ⟨18, .guard⟩], some (18, false)⟩ (v := ?_) rfl (fun _ _ _ h => h) (Or.inl ⟨by rfl, ?_⟩) (by assumption) ?_
  case refine_2 =>
    intro w hSw
    (try dsimp only at hSw)
    (try go_simp)
    all_goals (with_reducible rfl)
  try simp only [Act.put, asA, asB, asC]
  refine tkV 28 ⟨some 44, .pick (.tmp 34) (.const (.bool true)) (.tmp 43), 4, "ref.go:61", #[⟨18, .data⟩, ⟨27, .data⟩], none⟩ (v := ?_) rfl (fun _ _ _ h => h) (Or.inl ⟨by rfl, ?_⟩) (by assumption) ?_
  case refine_2 =>
    intro w hSw
    (try dsimp only at hSw)
    (try go_simp)
    all_goals (with_reducible rfl)
  try simp only [Act.put, asA, asB, asC]
  refine tkV 29 ⟨some 45, .move (.tmp 44), 4, "ref.go:61", #[⟨28, .data⟩, ⟨24, .chain⟩], none⟩ (v := ?_) rfl (fun _ _ _ h => h) (Or.inl ⟨by rfl, ?_⟩) (by assumption) ?_
  case refine_2 =>
    intro w hSw
    (try dsimp only at hSw)
    (try go_simp)
    all_goals (with_reducible rfl)
  try simp only [Act.put, asA, asB, asC]
  refine tkV 30 ⟨some 46, .fieldAddr 23 (.tmp 2) 0, 0, "ref.go:61", #[⟨29, .guard⟩], some (29, false)⟩ (v := ?_) rfl (fun _ _ _ h => h) (Or.inl ⟨by rfl, ?_⟩) (by assumption) ?_
  case refine_2 =>
    intro w hSw
    (try dsimp only at hSw)
    (try go_simp)
    all_goals (with_reducible rfl)
  try simp only [Act.put, asA, asB, asC]
  refine tkV 31 ⟨some 47, .load 9 (.tmp 46), 9, "ref.go:61", #[⟨30, .data⟩, ⟨29, .guard⟩], some (29, false)⟩ (v := ?_) rfl (fun _ _ _ h => h) (Or.inl ⟨by rfl, ?_⟩) (by assumption) ?_
  case refine_2 =>
    intro w hSw
    (try dsimp only at hSw)
    (try go_simp)
    all_goals (with_reducible rfl)
  try simp only [Act.put, asA, asB, asC]
  refine tkV 32 ⟨some 48, .fieldAddr 37 (.tmp 3) 0, 0, "ref.go:61", #[⟨29, .guard⟩], some (29, false)⟩ (v := ?_) rfl (fun _ _ _ h => h) (Or.inl ⟨by rfl, ?_⟩) (by assumption) ?_
  case refine_2 =>
    intro w hSw
    (try dsimp only at hSw)
    (try go_simp)
    all_goals (with_reducible rfl)
  try simp only [Act.put, asA, asB, asC]
  refine tkV 33 ⟨some 49, .load 3 (.tmp 48), 3, "ref.go:61", #[⟨32, .data⟩, ⟨29, .guard⟩], some (29, false)⟩ (v := ?_) rfl (fun _ _ _ h => h) (Or.inl ⟨by rfl, ?_⟩) (by assumption) ?_
  case refine_2 =>
    intro w hSw
    (try dsimp only at hSw)
    (try go_simp)
    all_goals (with_reducible rfl)
  try simp only [Act.put, asA, asB, asC]
  refine tkV 34 ⟨some 50, .fieldAddr 37 (.tmp 3) 1, 0, "ref.go:61", #[⟨29, .guard⟩], some (29, false)⟩ (v := ?_) rfl (fun _ _ _ h => h) (Or.inl ⟨by rfl, ?_⟩) (by assumption) ?_
  case refine_2 =>
    intro w hSw
    (try dsimp only at hSw)
    (try go_simp)
    all_goals (with_reducible rfl)
  try simp only [Act.put, asA, asB, asC]
  refine tkV 35 ⟨some 51, .load 3 (.tmp 50), 3, "ref.go:61", #[⟨34, .data⟩, ⟨29, .guard⟩], some (29, false)⟩ (v := ?_) rfl (fun _ _ _ h => h) (Or.inl ⟨by rfl, ?_⟩) (by assumption) ?_
  case refine_2 =>
    intro w hSw
    (try dsimp only at hSw)
    (try go_simp)
    all_goals (with_reducible rfl)
  try simp only [Act.put, asA, asB, asC]
  refine wpAnyH_ready (rs := [36]) (by kernel_rfl) (by simp) (AllReadyH.cons (o := { dst := some 52, op := Op.call { callee := Callee.value (Operand.func 80), args := #[Operand.tmp 47, Operand.tmp 49, Operand.tmp 51], argTypes := #[9, 3, 3] }, type := 4, pos := "ref.go:61", after := #[{ on := 31, ground := Ground.data }, { on := 33, ground := Ground.data }, { on := 35, ground := Ground.data }, { on := 29, ground := Ground.chain }, { on := 29, ground := Ground.guard }], guard := some (29, false) }) rfl (fun K hK => ?_) AllReadyH.nil)
  go_simp
  refine (fast_is s a b _ _ hs ha hb HR.out).mono ?_; rintro e w2 ⟨rfl, rfl⟩
  refine hK.out _ _ ?_ (fun hHeld => ?_)
  · exact hHeld
  clear hK K
  refine tkV 37 ⟨some 53, .unOp .not 4 (.tmp 52), 4, "ref.go:61", #[⟨36, .data⟩, ⟨29, .guard⟩], some (29, false)⟩ (v := ?_) rfl (fun _ _ _ h => h) (Or.inl ⟨by rfl, ?_⟩) (by assumption) ?_
  case refine_2 =>
    intro w hSw
    (try dsimp only at hSw)
    (try go_simp)
    all_goals (with_reducible rfl)
  try simp only [Act.put, asA, asB, asC]
  refine tkV 38 ⟨some 54, .pick (.tmp 45) (.const (.bool true)) (.tmp 53), 4, "ref.go:61", #[⟨29, .data⟩, ⟨37, .data⟩], none⟩ (v := ?_) rfl (fun _ _ _ h => h) (Or.inl ⟨by rfl, ?_⟩) (by assumption) ?_
  case refine_2 =>
    intro w hSw
    (try dsimp only at hSw)
    (try go_simp)
    all_goals (with_reducible rfl)
  try simp only [Act.put, asA, asB, asC]
  refine tkV 39 ⟨some 55, .move (.tmp 54), 4, "ref.go:61", #[⟨38, .data⟩, ⟨36, .chain⟩], none⟩ (v := ?_) rfl (fun _ _ _ h => h) (Or.inl ⟨by rfl, ?_⟩) (by assumption) ?_
  case refine_2 =>
    intro w hSw
    (try dsimp only at hSw)
    (try go_simp)
    all_goals (with_reducible rfl)
  try simp only [Act.put, asA, asB, asC]
  refine tkV 40 ⟨some 56, .fieldAddr 23 (.tmp 2) 0, 0, "ref.go:61", #[⟨39, .guard⟩], some (39, false)⟩ (v := ?_) rfl (fun _ _ _ h => h) (Or.inl ⟨by rfl, ?_⟩) (by assumption) ?_
  case refine_2 =>
    intro w hSw
    (try dsimp only at hSw)
    (try go_simp)
    all_goals (with_reducible rfl)
  try simp only [Act.put, asA, asB, asC]
  refine tkV 41 ⟨some 57, .load 9 (.tmp 56), 9, "ref.go:61", #[⟨40, .data⟩, ⟨39, .guard⟩], some (39, false)⟩ (v := ?_) rfl (fun _ _ _ h => h) (Or.inl ⟨by rfl, ?_⟩) (by assumption) ?_
  case refine_2 =>
    intro w hSw
    (try dsimp only at hSw)
    (try go_simp)
    all_goals (with_reducible rfl)
  try simp only [Act.put, asA, asB, asC]
  refine tkV 42 ⟨some 58, .fieldAddr 37 (.tmp 3) 1, 0, "ref.go:61", #[⟨39, .guard⟩], some (39, false)⟩ (v := ?_) rfl (fun _ _ _ h => h) (Or.inl ⟨by rfl, ?_⟩) (by assumption) ?_
  case refine_2 =>
    intro w hSw
    (try dsimp only at hSw)
    (try go_simp)
    all_goals (with_reducible rfl)
  try simp only [Act.put, asA, asB, asC]
  refine tkV 43 ⟨some 59, .load 3 (.tmp 58), 3, "ref.go:61", #[⟨42, .data⟩, ⟨39, .guard⟩], some (39, false)⟩ (v := ?_) rfl (fun _ _ _ h => h) (Or.inl ⟨by rfl, ?_⟩) (by assumption) ?_
  case refine_2 =>
    intro w hSw
    (try dsimp only at hSw)
    (try go_simp)
    all_goals (with_reducible rfl)
  try simp only [Act.put, asA, asB, asC]
  refine tkV 44 ⟨some 60, .index 9 (.tmp 57) (.tmp 59), 5, "ref.go:61", #[⟨41, .data⟩, ⟨43, .data⟩, ⟨39, .guard⟩], some (39, false)⟩ (v := ?_) rfl (fun _ _ _ h => h) (Or.inl ⟨by rfl, ?_⟩) (by assumption) ?_
  case refine_2 =>
    intro w hSw
    (try dsimp only at hSw)
    (try go_simp)
    all_goals (with_reducible rfl)
  try simp only [Act.put, asA, asB, asC]
  refine wpAnyH_ready (rs := [45]) (by kernel_rfl) (by simp) (AllReadyH.cons (o := { dst := some 61, op := Op.call { callee := Callee.value (Operand.func 81), args := #[Operand.tmp 60], argTypes := #[5] }, type := 5, pos := "ref.go:61", after := #[{ on := 44, ground := Ground.data }, { on := 39, ground := Ground.chain }, { on := 39, ground := Ground.guard }], guard := some (39, false) }) rfl (fun K hK => ?_) AllReadyH.nil)
  go_simp
  refine (rkind_is x k _ HK.out).mono ?_; rintro e w2 ⟨rfl, rfl⟩
  refine hK.out _ _ ?_ (fun hHeld => ?_)
  · exact hHeld
  clear hK K
  refine tkV 46 ⟨some 62, .binOp .eql 5 (.tmp 61) (.const (.int .u8 75)) 5, 4, "ref.go:61", #[⟨45, .data⟩, ⟨39, .guard⟩], some (39, false)⟩ (v := ?_) rfl (fun _ _ _ h => h) (Or.inl ⟨by rfl, ?_⟩) (by assumption) ?_
  case refine_2 =>
    intro w hSw
    (try dsimp only at hSw)
    (try go_simp)
    all_goals (with_reducible rfl)
  try simp only [Act.put, asA, asB, asC]
  refine tkV 47 ⟨some 63, .pick (.tmp 55) (.const (.bool true)) (.tmp 62), 4, "ref.go:61", #[⟨39, .data⟩, ⟨46, .data⟩], none⟩ (v := ?_) rfl (fun _ _ _ h => h) (Or.inl ⟨by rfl, ?_⟩) (by assumption) ?_
  case refine_2 =>
    intro w hSw
    (try dsimp only at hSw)
    (try go_simp)
    all_goals (with_reducible rfl)
  try simp only [Act.put, asA, asB, asC]
  refine wpAnyH_done (by kernel_rfl) ?_ _
  have bM2 := bM1.next (Below.refl _ _).drew
  have bP2 := bP1.next (Below.refl _ _).drew
  have hB2 := hB1.drew
  obtain ⟨w2, hw2⟩ : ∃ w2, w1.drew = w2 := ⟨_, rfl⟩
  rw [hw2] at bM2 bP2 bR2 hB2 ⊢
  clear hS hHeld hw2 bR1 bM1 bP1 hB1 t0 t1 t2 t3 m0 m1 g0 g1 g2 g3 f0 f1 f2 f3 e0 e1 e2 e3
  obtain ⟨q0, q1, q2, q3⟩ := ppos_cells bP2
  have n0 : w2.cell? ⟨w.heap.size + 1, 0, none⟩ = some (.int .i64 (a : Int)) := bM2.cell 0
  have n1 : w2.cell? ⟨w.heap.size + 1, 1, none⟩ = some (.int .i64 (b : Int)) := bM2.cell 1
  go_wp2_with fail
  obtain ⟨t, ht⟩ : ∃ t, movedS s a b c = t := ⟨_, rfl⟩
  obtain ⟨o, ho⟩ : ∃ o : Int, 1 - side = o := ⟨_, rfl⟩
  obtain ⟨l, hl⟩ : ∃ l : Int, min (clock + 1) 120 = l := ⟨_, rfl⟩
  have i0 : IntKind.i64.wrap o = o := IntWalk.i64_in _ (by omega)
  have i1 : IntKind.i64.wrap (clock + 1) = clock + 1 := IntWalk.i64_in _ (by omega)
  have i2 : IntKind.i64.wrap (full + 1) = full + 1 := IntWalk.i64_in _ (by omega)
  have HMT : Hid (∀ W, Calls Tryz.prog 82 #[.string s, .agg #[.int .i64 (a : Int), .int .i64 (b : Int)]] W (Gives W (.string t))) := by
    show ∀ W, _
    rw [← ht]
    exact HMV.out
  have hS0 : ApS w s side clock full a b w2 := ⟨q0, q1, q2, q3, n0, n1, bR2, hB2⟩
  have hS : ApS w s side clock full a b w2.drew := apS_keep hS0 (Below.refl _ _).drew
  go_region_held3 (fun W => W.cell? ⟨w.heap.size, 0, none⟩ = some (.string s) ∧ W.cell? ⟨w.heap.size, 1, none⟩ = some (.int .i64 side) ∧ W.cell? ⟨w.heap.size, 2, none⟩ = some (.int .i64 clock) ∧ W.cell? ⟨w.heap.size, 3, none⟩ = some (.int .i64 full) ∧ W.cell? ⟨w.heap.size + 1, 0, none⟩ = some (.int .i64 (a : Int)) ∧ W.cell? ⟨w.heap.size + 1, 1, none⟩ = some (.int .i64 (b : Int)) ∧ Blk W (w.heap.size + 2) 23 #[.string ⟨#[]⟩, .int .i64 0, .int .i64 0, .int .i64 0] ∧ Below w.heap.size w W)
    (first | with_reducible exact hS | with_reducible assumption | with_reducible exact apS_keep (by assumption) hb | with_reducible exact apS_keep (by assumption) ((Below.refl _ _).alloc (Nat.le_refl _) _) | with_reducible exact apS_set (apS_set (apS_set (apS_set (by assumption) hS0 _ _) hS0 _ _) hS0 _ _) hS0 _ _)
    (first
      | (go_at_call 82; refine (HMT.out _).mono ?_; rintro e w4 ⟨rfl, hb⟩; have h4 : ApS w s side clock full a b w4 := apS_keep (by assumption) hb; (first | (refine with_one (blk4_drew hb) ?_; rintro ⟨bz, ⟨z0, z1, z2, z3⟩, y0, y1, y2, y3⟩) | skip)))
  iterate 3
    rename_i hh
    clear hh
    obtain ⟨W4, hW4⟩ : ∃ W4, w4.alloc (.cells #[.string t, .int .i64 o, .int .i64 l, .int .i64 full] 23) = W4 := ⟨_, rfl⟩
    have hS4 : ApS w s side clock full a b W4 := by rw [← hW4]; exact apS_keep h4 ((Below.refl _ _).alloc (Nat.le_refl _) _)
    have hql : w.heap.size + 2 < w4.heap.size := h4.2.2.2.2.2.2.1.lt
    have bQ : Blk W4 w4.heap.size 23 #[.string t, .int .i64 o, .int .i64 l, .int .i64 full] := by rw [← hW4]; exact Blk.new _ _ _ rfl
    rw [hW4]
    obtain ⟨qb, hqb⟩ : ∃ qb, w4.heap.size = qb := ⟨_, rfl⟩
    rw [hqb] at bQ hql ⊢
    clear hqb
    have hS4b := hS4
    obtain ⟨c4, c5, c6, c7, c8, c9, bR4, hB4⟩ := hS4
    obtain ⟨u0, u1, u2, u3⟩ := ppos_cells bQ
    obtain ⟨v0, v1, v2, v3⟩ := ppos_frozen bQ
    obtain ⟨r0, r1, r2, r3⟩ := ppos_cells bR4
    obtain ⟨s0, s1, s2, s3⟩ := ppos_frozen bR4
    have nq : w.heap.size + 2 ≠ qb := by omega
    have nq' : qb ≠ w.heap.size + 2 := by omega
    have nq1 : w.heap.size + 1 + 1 ≠ qb := by omega
    have nq2 : qb ≠ w.heap.size + 1 + 1 := by omega
    have nq3 : qb ≠ w.heap.size := by omega
    have nq4 : w.heap.size ≠ qb := by omega
    have nq5 : qb ≠ w.heap.size + 1 := by omega
    have hqw : w.heap.size ≤ qb := by omega
    clear hS hS0 hb h4 hB2 bR2 bP2 bM2 hS4b n0 n1 q0 q1 q2 q3 HMT HMV hW4 HC HW bP bM bR hB hbw f0 p0 p1 p2 p3
    have HQ := Lib.hid bQ
    have HR4 := Lib.hid bR4
    have HB4 := Lib.hid hB4
    clear bQ bR4 hB4
    rcases hside with rfl | rfl
    · by_cases h46 : x = 46
      · subst h46
        go_wp2_with fail
        refine bodyPost_ret (res_pos3 rfl _ _ rfl (mvEnd (HR4.out) (by omega) (HB4.out)).1) rfl ⟨?_, (mvEnd (HR4.out) (by omega) (HB4.out)).2⟩
        subst ht ho hl
        simp [clockA, fullA, takenN, HX.out]
      · have hxn : ¬ (x : Int) = 46 := by omega
        go_wp2_with fail
        refine bodyPost_ret (res_pos3 rfl _ _ rfl (mvEnd (HR4.out.far (p := ⟨qb, 2, none⟩) nq _) (by omega) (HB4.out.setCell (p := ⟨qb, 2, none⟩) hqw _)).1) rfl ⟨?_, (mvEnd (HR4.out.far (p := ⟨qb, 2, none⟩) nq _) (by omega) (HB4.out.setCell (p := ⟨qb, 2, none⟩) hqw _)).2⟩
        subst ht ho hl
        simp [clockA, fullA, takenN, HX.out, h46]
    · by_cases h46 : x = 46
      · subst h46
        go_wp2_with fail
        refine bodyPost_ret (res_pos3 rfl _ _ rfl (mvEnd (HR4.out.far (p := ⟨qb, 3, none⟩) nq _) (by omega) (HB4.out.setCell (p := ⟨qb, 3, none⟩) hqw _)).1) rfl ⟨?_, (mvEnd (HR4.out.far (p := ⟨qb, 3, none⟩) nq _) (by omega) (HB4.out.setCell (p := ⟨qb, 3, none⟩) hqw _)).2⟩
        subst ht ho hl
        simp [clockA, fullA, takenN, HX.out]
      · have hxn : ¬ (x : Int) = 46 := by omega
        go_wp2_with fail
        refine bodyPost_ret (res_pos3 rfl _ _ rfl (mvEnd ((HR4.out.far (p := ⟨qb, 2, none⟩) nq _).far (p := ⟨qb, 3, none⟩) nq _) (by omega) ((HB4.out.setCell (p := ⟨qb, 2, none⟩) hqw _).setCell (p := ⟨qb, 3, none⟩) hqw _)).1) rfl ⟨?_, (mvEnd ((HR4.out.far (p := ⟨qb, 2, none⟩) nq _).far (p := ⟨qb, 3, none⟩) nq _) (by omega) ((HB4.out.setCell (p := ⟨qb, 2, none⟩) hqw _).setCell (p := ⟨qb, 3, none⟩) hqw _)).2⟩
        subst ht ho hl
        simp [clockA, fullA, takenN, HX.out, h46]
  iterate 3
    rename_i hh
    clear hh
    obtain ⟨W4, hW4⟩ : ∃ W4, (((w4.setCell ⟨w2.heap.size, 0, none⟩ (.string t)).setCell ⟨w2.heap.size, 1, none⟩ (.int .i64 o)).setCell ⟨w2.heap.size, 2, none⟩ (.int .i64 l)).setCell ⟨w2.heap.size, 3, none⟩ (.int .i64 full) = W4 := ⟨_, rfl⟩
    have hS4 : ApS w s side clock full a b W4 := by rw [← hW4]; exact apS_set (apS_set (apS_set (apS_set h4 hS0 _ _) hS0 _ _) hS0 _ _) hS0 _ _
    have hql : w.heap.size + 2 < w2.heap.size := hS0.2.2.2.2.2.2.1.lt
    have bQ : Blk W4 w2.heap.size 23 #[.string t, .int .i64 o, .int .i64 l, .int .i64 full] := by rw [← hW4]; exact pblk_four bz
    rw [hW4]
    obtain ⟨qb, hqb⟩ : ∃ qb, w2.heap.size = qb := ⟨_, rfl⟩
    rw [hqb] at bQ hql ⊢
    clear hqb z0 z1 z2 z3 y0 y1 y2 y3
    have hS4b := hS4
    obtain ⟨c4, c5, c6, c7, c8, c9, bR4, hB4⟩ := hS4
    obtain ⟨u0, u1, u2, u3⟩ := ppos_cells bQ
    obtain ⟨v0, v1, v2, v3⟩ := ppos_frozen bQ
    obtain ⟨r0, r1, r2, r3⟩ := ppos_cells bR4
    obtain ⟨s0, s1, s2, s3⟩ := ppos_frozen bR4
    have nq : w.heap.size + 2 ≠ qb := by omega
    have nq' : qb ≠ w.heap.size + 2 := by omega
    have nq1 : w.heap.size + 1 + 1 ≠ qb := by omega
    have nq2 : qb ≠ w.heap.size + 1 + 1 := by omega
    have nq3 : qb ≠ w.heap.size := by omega
    have nq4 : w.heap.size ≠ qb := by omega
    have nq5 : qb ≠ w.heap.size + 1 := by omega
    have hqw : w.heap.size ≤ qb := by omega
    clear hS hS0 hb bz h4 hB2 bR2 bP2 bM2 hS4b n0 n1 q0 q1 q2 q3 HMT HMV hW4 HC HW bP bM bR hB hbw f0 p0 p1 p2 p3
    have HQ := Lib.hid bQ
    have HR4 := Lib.hid bR4
    have HB4 := Lib.hid hB4
    clear bQ bR4 hB4
    rcases hside with rfl | rfl
    · by_cases h46 : x = 46
      · subst h46
        go_wp2_with fail
        refine bodyPost_ret (res_pos3 rfl _ _ rfl (mvEnd (HR4.out) (by omega) (HB4.out)).1) rfl ⟨?_, (mvEnd (HR4.out) (by omega) (HB4.out)).2⟩
        subst ht ho hl
        simp [clockA, fullA, takenN, HX.out]
      · have hxn : ¬ (x : Int) = 46 := by omega
        go_wp2_with fail
        refine bodyPost_ret (res_pos3 rfl _ _ rfl (mvEnd (HR4.out.far (p := ⟨qb, 2, none⟩) nq _) (by omega) (HB4.out.setCell (p := ⟨qb, 2, none⟩) hqw _)).1) rfl ⟨?_, (mvEnd (HR4.out.far (p := ⟨qb, 2, none⟩) nq _) (by omega) (HB4.out.setCell (p := ⟨qb, 2, none⟩) hqw _)).2⟩
        subst ht ho hl
        simp [clockA, fullA, takenN, HX.out, h46]
    · by_cases h46 : x = 46
      · subst h46
        go_wp2_with fail
        refine bodyPost_ret (res_pos3 rfl _ _ rfl (mvEnd (HR4.out.far (p := ⟨qb, 3, none⟩) nq _) (by omega) (HB4.out.setCell (p := ⟨qb, 3, none⟩) hqw _)).1) rfl ⟨?_, (mvEnd (HR4.out.far (p := ⟨qb, 3, none⟩) nq _) (by omega) (HB4.out.setCell (p := ⟨qb, 3, none⟩) hqw _)).2⟩
        subst ht ho hl
        simp [clockA, fullA, takenN, HX.out]
      · have hxn : ¬ (x : Int) = 46 := by omega
        go_wp2_with fail
        refine bodyPost_ret (res_pos3 rfl _ _ rfl (mvEnd ((HR4.out.far (p := ⟨qb, 2, none⟩) nq _).far (p := ⟨qb, 3, none⟩) nq _) (by omega) ((HB4.out.setCell (p := ⟨qb, 2, none⟩) hqw _).setCell (p := ⟨qb, 3, none⟩) hqw _)).1) rfl ⟨?_, (mvEnd ((HR4.out.far (p := ⟨qb, 2, none⟩) nq _).far (p := ⟨qb, 3, none⟩) nq _) (by omega) ((HB4.out.setCell (p := ⟨qb, 2, none⟩) hqw _).setCell (p := ⟨qb, 3, none⟩) hqw _)).2⟩
        subst ht ho hl
        simp [clockA, fullA, takenN, HX.out, h46]
theorem isM_in {s : ByteArray} {side : Int} (hB : isB s = true) {a b : Nat} (ha : a < 90) (hb : b < 90) : isM s side (a : Int) (b : Int) = (canB s a b && (sideN (bAt s a) == side)) := by
  unfold isM canI
  rw [hB, sqI_true (n := (a : Int)) (by omega), sqI_true (n := (b : Int)) (by omega), Int.toNat_natCast, Int.toNat_natCast]
  rfl
theorem rapply_is (s : ByteArray) (side clock full a b : Int) (v : Value) (w : World) (h : applyV s side clock full a b = v) :
    Calls Tryz.prog 48 #[.agg #[.string s, .int .i64 side, .int .i64 clock, .int .i64 full], .agg #[.int .i64 a, .int .i64 b]] w (Gives w v) := by
  subst h
  unfold applyV
  by_cases hc : checkN s side clock full = 0
  · rw [if_neg (fun e => e hc)]
    have hc' : (checkN s side clock full : Int) = 0 := by rw [hc]; rfl
    have hp := (check_zero hc').1
    have hB := parts_board hp
    have hz := isB_size hB
    by_cases A0 : a < 0
    · rw [if_neg (fun e => absurd (isM_parts e.1).2.1 (by omega))]
      exact rapply_a0 s side clock full a b w hc' A0
    by_cases A9 : 89 < a
    · rw [if_neg (fun e => absurd (isM_parts e.1).2.1 (by omega))]
      exact rapply_a9 s side clock full a b w hc' (by omega) A9
    by_cases B0 : b < 0
    · rw [if_neg (fun e => absurd (isM_parts e.1).2.2.1 (by omega))]
      exact rapply_b0 s side clock full a b w hc' (by omega) (by omega) B0
    by_cases B9 : 89 < b
    · rw [if_neg (fun e => absurd (isM_parts e.1).2.2.1 (by omega))]
      exact rapply_b9 s side clock full a b w hc' (by omega) (by omega) (by omega) B9
    obtain ⟨m, rfl⟩ : ∃ m : Nat, a = m := ⟨a.toNat, by omega⟩
    obtain ⟨n, rfl⟩ : ∃ n : Nat, b = n := ⟨b.toNat, by omega⟩
    have hm : m < 90 := by omega
    have hn : n < 90 := by omega
    rw [Int.toNat_natCast, Int.toNat_natCast, isM_in hB hm hn]
    cases hd : sideN (bAt s m) != side
    · have hd2 : (sideN (bAt s m) == side) = true := by simpa [bne] using hd
      rw [hd2, Bool.and_true]
      cases hr : canB s m n
      · rw [if_neg (by simp)]
        exact rapply_fast s side clock full m n (bAt s m) (bAt s n) (kindN (bAt s n)) (sideN (bAt s m)) false w hc' (by omega) hm hn rfl rfl rfl hr rfl hd rfl
      · by_cases hk : kindN (bAt s n) = 75
        · rw [if_neg (fun e => e.2 hk)]
          exact rapply_king s side clock full m n (bAt s m) (bAt s n) (kindN (bAt s n)) (sideN (bAt s m)) true w hc' (by omega) hm hn rfl rfl rfl hr rfl hd rfl (by rw [hk]; rfl)
        · rw [if_pos ⟨rfl, hk⟩]
          simp only [partsB, Bool.and_eq_true, Bool.or_eq_true, beq_iff_eq, decide_eq_true_eq] at hp
          exact rapply_good s side clock full m n (bAt s m) (bAt s n) (kindN (bAt s n)) (sideN (bAt s m)) true w hc' (by omega) hm hn rfl rfl rfl hr rfl hd rfl (by rw [beq_eq_false_iff_ne]; omega) hz (can_self hr) hp.1.1.1.1.2 hp.1.1.1.2 hp.1.1.2 hp.1.2 hp.2
    · have hd2 : (sideN (bAt s m) == side) = false := by simpa [bne] using hd
      rw [hd2, Bool.and_false, if_neg (by simp)]
      exact rapply_side s side clock full m n (bAt s m) (bAt s n) (kindN (bAt s n)) (sideN (bAt s m)) (canB s m n) w hc' (by omega) hm hn rfl rfl rfl rfl rfl hd
  · rw [if_pos hc]
    exact rapply_bad s side clock full a b _ w rfl (by simp; omega)
end Go.Proofs.YtiiipchfclmbcaaGreatDoor
