/- What any position is worth; and behind any move of any worth: the call answers true. -/
import Derived.Test.YtkejhebicibjlaaDoorValueL
namespace Go.Proofs.YtkejhebicibjlaaDoor.vof
open Go.RowKit Go.Shelf
open M (S)

theorem e8_keep {s : ByteArray} {side ck fl : Int} {c : Nat} {a b : Int} {t : Nat} {w W W' : World} (h : W.cell? ⟨w.heap.size, 0, none⟩ = some (.string s) ∧ W.cell? ⟨w.heap.size, 1, none⟩ = some (.int .i64 side) ∧ W.cell? ⟨w.heap.size, 2, none⟩ = some (.int .i64 ck) ∧ W.cell? ⟨w.heap.size, 3, none⟩ = some (.int .i64 fl) ∧ W.cell? ⟨w.heap.size, 4, none⟩ = some (.int .u8 (c : Int)) ∧ W.cell? ⟨w.heap.size, 5, none⟩ = some (.int .i64 a) ∧ W.cell? ⟨w.heap.size, 6, none⟩ = some (.int .i64 b) ∧ W.cell? ⟨w.heap.size, 7, none⟩ = some (.int .u8 (t : Int)) ∧ Below w.heap.size w W) (hb : Below W.heap.size W W') : W'.cell? ⟨w.heap.size, 0, none⟩ = some (.string s) ∧ W'.cell? ⟨w.heap.size, 1, none⟩ = some (.int .i64 side) ∧ W'.cell? ⟨w.heap.size, 2, none⟩ = some (.int .i64 ck) ∧ W'.cell? ⟨w.heap.size, 3, none⟩ = some (.int .i64 fl) ∧ W'.cell? ⟨w.heap.size, 4, none⟩ = some (.int .u8 (c : Int)) ∧ W'.cell? ⟨w.heap.size, 5, none⟩ = some (.int .i64 a) ∧ W'.cell? ⟨w.heap.size, 6, none⟩ = some (.int .i64 b) ∧ W'.cell? ⟨w.heap.size, 7, none⟩ = some (.int .u8 (t : Int)) ∧ Below w.heap.size w W' := by
  obtain ⟨h0, h1, h2, h3, h4, h5, h6, h7, h8⟩ := h
  exact ⟨(hb.cell (p := ⟨w.heap.size, 0, none⟩) (cell_lt h0)).trans h0, (hb.cell (p := ⟨w.heap.size, 1, none⟩) (cell_lt h1)).trans h1, (hb.cell (p := ⟨w.heap.size, 2, none⟩) (cell_lt h2)).trans h2, (hb.cell (p := ⟨w.heap.size, 3, none⟩) (cell_lt h3)).trans h3, (hb.cell (p := ⟨w.heap.size, 4, none⟩) (cell_lt h4)).trans h4, (hb.cell (p := ⟨w.heap.size, 5, none⟩) (cell_lt h5)).trans h5, (hb.cell (p := ⟨w.heap.size, 6, none⟩) (cell_lt h6)).trans h6, (hb.cell (p := ⟨w.heap.size, 7, none⟩) (cell_lt h7)).trans h7, h8.trans (hb.mono h8.size)⟩
theorem q6_keep {s : ByteArray} {side ck fl : Int} {a b : Int} {g1 g2 : Nat} {w W W' : World} (h : W.cell? ⟨g1, 0, none⟩ = some (.string s) ∧ W.cell? ⟨g1, 1, none⟩ = some (.int .i64 side) ∧ W.cell? ⟨g1, 2, none⟩ = some (.int .i64 ck) ∧ W.cell? ⟨g1, 3, none⟩ = some (.int .i64 fl) ∧ W.cell? ⟨g2, 0, none⟩ = some (.int .i64 a) ∧ W.cell? ⟨g2, 1, none⟩ = some (.int .i64 b) ∧ Below w.heap.size w W) (hb : Below W.heap.size W W') : W'.cell? ⟨g1, 0, none⟩ = some (.string s) ∧ W'.cell? ⟨g1, 1, none⟩ = some (.int .i64 side) ∧ W'.cell? ⟨g1, 2, none⟩ = some (.int .i64 ck) ∧ W'.cell? ⟨g1, 3, none⟩ = some (.int .i64 fl) ∧ W'.cell? ⟨g2, 0, none⟩ = some (.int .i64 a) ∧ W'.cell? ⟨g2, 1, none⟩ = some (.int .i64 b) ∧ Below w.heap.size w W' := by
  obtain ⟨h0, h1, h2, h3, h4, h5, h8⟩ := h
  exact ⟨(hb.cell (p := ⟨g1, 0, none⟩) (cell_lt h0)).trans h0, (hb.cell (p := ⟨g1, 1, none⟩) (cell_lt h1)).trans h1, (hb.cell (p := ⟨g1, 2, none⟩) (cell_lt h2)).trans h2, (hb.cell (p := ⟨g1, 3, none⟩) (cell_lt h3)).trans h3, (hb.cell (p := ⟨g2, 0, none⟩) (cell_lt h4)).trans h4, (hb.cell (p := ⟨g2, 1, none⟩) (cell_lt h5)).trans h5, h8.trans (hb.mono h8.size)⟩
theorem q6_dr {s : ByteArray} {side ck fl : Int} {a b : Int} {g1 g2 : Nat} {w W : World} (h : W.cell? ⟨g1, 0, none⟩ = some (.string s) ∧ W.cell? ⟨g1, 1, none⟩ = some (.int .i64 side) ∧ W.cell? ⟨g1, 2, none⟩ = some (.int .i64 ck) ∧ W.cell? ⟨g1, 3, none⟩ = some (.int .i64 fl) ∧ W.cell? ⟨g2, 0, none⟩ = some (.int .i64 a) ∧ W.cell? ⟨g2, 1, none⟩ = some (.int .i64 b) ∧ Below w.heap.size w W) : W.drew.cell? ⟨g1, 0, none⟩ = some (.string s) ∧ W.drew.cell? ⟨g1, 1, none⟩ = some (.int .i64 side) ∧ W.drew.cell? ⟨g1, 2, none⟩ = some (.int .i64 ck) ∧ W.drew.cell? ⟨g1, 3, none⟩ = some (.int .i64 fl) ∧ W.drew.cell? ⟨g2, 0, none⟩ = some (.int .i64 a) ∧ W.drew.cell? ⟨g2, 1, none⟩ = some (.int .i64 b) ∧ Below w.heap.size w W.drew := by
  obtain ⟨h0, h1, h2, h3, h4, h5, h8⟩ := h
  exact ⟨h0, h1, h2, h3, h4, h5, h8.drew⟩
theorem q6_below {s : ByteArray} {side ck fl : Int} {a b : Int} {g1 g2 : Nat} {w W : World} (h : W.cell? ⟨g1, 0, none⟩ = some (.string s) ∧ W.cell? ⟨g1, 1, none⟩ = some (.int .i64 side) ∧ W.cell? ⟨g1, 2, none⟩ = some (.int .i64 ck) ∧ W.cell? ⟨g1, 3, none⟩ = some (.int .i64 fl) ∧ W.cell? ⟨g2, 0, none⟩ = some (.int .i64 a) ∧ W.cell? ⟨g2, 1, none⟩ = some (.int .i64 b) ∧ Below w.heap.size w W) : Below w.heap.size w W := h.2.2.2.2.2.2
set_option maxRecDepth 100000 in
set_option maxHeartbeats 8000000 in
theorem large (s : ByteArray) (side ck fl : Int) (c : Nat) (a b : Int) (t : Nat) (w : World) (hT : Tab w) (hs : 200 < s.size) : Calls Tryd.prog 4 #[.agg #[.string s, .int .i64 side, .int .i64 ck, .int .i64 fl, .int .u8 (c : Int), .int .i64 a, .int .i64 b, .int .u8 (t : Int)]] w (Gives w (.bool true)) := by
  unfold Gives
  have hd : decide (200 < (s.size : Int)) = true := by simp; omega
  clear hs
  obtain ⟨W0, hW0⟩ : ∃ W0, w.alloc (.cells #[.string s, .int .i64 side, .int .i64 ck, .int .i64 fl, .int .u8 (c : Int), .int .i64 a, .int .i64 b, .int .u8 (t : Int)] 31) = W0 := ⟨_, rfl⟩
  have hB : Below w.heap.size w W0 := by rw [← hW0]; exact (by repeat (first | exact Below.refl _ _ | (refine Below.setCell ?_ (by first | omega | (simp; done) | (simp; omega) | (simp at *; omega)) _) | (refine Below.alloc ?_ (by first | omega | (simp; done) | (simp; omega) | (simp at *; omega)) _) | refine Below.drew ?_ | (refine below_drewN ?_ _) | (refine Below.trans ?_ (Below.mono (by assumption) (by first | omega | (simp; done) | (simp; omega) | (simp at *; omega))))))
  have bX : Blk W0 w.heap.size 31 #[.string s, .int .i64 side, .int .i64 ck, .int .i64 fl, .int .u8 (c : Int), .int .i64 a, .int .i64 b, .int .u8 (t : Int)] := by rw [← hW0]; exact Blk.new _ _ _ rfl
  have hS : W0.drew.cell? ⟨w.heap.size, 0, none⟩ = some (.string s) ∧ W0.drew.cell? ⟨w.heap.size, 1, none⟩ = some (.int .i64 side) ∧ W0.drew.cell? ⟨w.heap.size, 2, none⟩ = some (.int .i64 ck) ∧ W0.drew.cell? ⟨w.heap.size, 3, none⟩ = some (.int .i64 fl) ∧ W0.drew.cell? ⟨w.heap.size, 4, none⟩ = some (.int .u8 (c : Int)) ∧ W0.drew.cell? ⟨w.heap.size, 5, none⟩ = some (.int .i64 a) ∧ W0.drew.cell? ⟨w.heap.size, 6, none⟩ = some (.int .i64 b) ∧ W0.drew.cell? ⟨w.heap.size, 7, none⟩ = some (.int .u8 (t : Int)) ∧ Below w.heap.size w W0.drew := ⟨bX.cell 0, bX.cell 1, bX.cell 2, bX.cell 3, bX.cell 4, bX.cell 5, bX.cell 6, bX.cell 7, hB.drew⟩
  have hS0 : W0.cell? ⟨w.heap.size, 0, none⟩ = some (.string s) ∧ W0.cell? ⟨w.heap.size, 1, none⟩ = some (.int .i64 side) ∧ W0.cell? ⟨w.heap.size, 2, none⟩ = some (.int .i64 ck) ∧ W0.cell? ⟨w.heap.size, 3, none⟩ = some (.int .i64 fl) ∧ W0.cell? ⟨w.heap.size, 4, none⟩ = some (.int .u8 (c : Int)) ∧ W0.cell? ⟨w.heap.size, 5, none⟩ = some (.int .i64 a) ∧ W0.cell? ⟨w.heap.size, 6, none⟩ = some (.int .i64 b) ∧ W0.cell? ⟨w.heap.size, 7, none⟩ = some (.int .u8 (t : Int)) ∧ Below w.heap.size w W0 := ⟨bX.cell 0, bX.cell 1, bX.cell 2, bX.cell 3, bX.cell 4, bX.cell 5, bX.cell 6, bX.cell 7, hB⟩
  have HW := Lib.hid hW0
  clear hW0 bX hB
  go_enter Tryd.func4, Tryd.ntmps4
  go_wp2_with fail
  rw [HW.out]
  clear HW
  refine wp_region_held_drew (S := fun W => W.cell? ⟨w.heap.size, 0, none⟩ = some (.string s) ∧ W.cell? ⟨w.heap.size, 1, none⟩ = some (.int .i64 side) ∧ W.cell? ⟨w.heap.size, 2, none⟩ = some (.int .i64 ck) ∧ W.cell? ⟨w.heap.size, 3, none⟩ = some (.int .i64 fl) ∧ W.cell? ⟨w.heap.size, 4, none⟩ = some (.int .u8 (c : Int)) ∧ W.cell? ⟨w.heap.size, 5, none⟩ = some (.int .i64 a) ∧ W.cell? ⟨w.heap.size, 6, none⟩ = some (.int .i64 b) ∧ W.cell? ⟨w.heap.size, 7, none⟩ = some (.int .u8 (t : Int)) ∧ Below w.heap.size w W) (by kernel_rfl) (hS) (fun hHeld => ?_)
  refine wpAnyH_take (i := 0) (oi := { dst := some 8, op := Op.fieldAddr 31 (Operand.tmp 1) 0, type := 0, pos := "law.go:34", after := #[], guard := none }) (v := ?_) rfl (by kernel_rfl) (by kernel_rfl) (by kernel_rfl) (fun _ _ _ h => h) (Or.inl ⟨by rfl, ?_⟩) (by assumption) ?_
  case refine_2 =>
    intro w hSw
    (try dsimp only at hSw)
    (try go_simp)
    all_goals (with_reducible rfl)
  (try dsimp only [Act.put]); (try simp only [List.setIfInBounds_toArray, List.set_cons_zero, List.set_cons_succ])
  refine wpAnyH_take (i := 1) (oi := { dst := some 9, op := Op.load 27 (Operand.tmp 8), type := 27, pos := "law.go:34", after := #[{ on := 0, ground := Ground.data }], guard := none }) (v := ?_) rfl (by kernel_rfl) (by kernel_rfl) (by kernel_rfl) (fun _ _ _ h => h) (Or.inl ⟨by rfl, ?_⟩) (by assumption) ?_
  case refine_2 =>
    intro w hSw
    (try dsimp only at hSw)
    (try go_simp)
    all_goals (with_reducible rfl)
  (try dsimp only [Act.put]); (try simp only [List.setIfInBounds_toArray, List.set_cons_zero, List.set_cons_succ])
  refine wpAnyH_take (i := 2) (oi := { dst := some 10, op := Op.fieldAddr 31 (Operand.tmp 1) 1, type := 0, pos := "law.go:34", after := #[{ on := 10, ground := Ground.gcOnly Departure.lateStores }], guard := none }) (v := ?_) rfl (by kernel_rfl) (by kernel_rfl) (by kernel_rfl) (fun _ _ _ h => h) (Or.inl ⟨by rfl, ?_⟩) (by assumption) ?_
  case refine_2 =>
    intro w hSw
    (try dsimp only at hSw)
    (try go_simp)
    all_goals (with_reducible rfl)
  (try dsimp only [Act.put]); (try simp only [List.setIfInBounds_toArray, List.set_cons_zero, List.set_cons_succ])
  refine wpAnyH_take (i := 3) (oi := { dst := some 11, op := Op.load 5 (Operand.tmp 10), type := 5, pos := "law.go:34", after := #[{ on := 2, ground := Ground.data }, { on := 10, ground := Ground.gcOnly Departure.lateStores }], guard := none }) (v := ?_) rfl (by kernel_rfl) (by kernel_rfl) (by kernel_rfl) (fun _ _ _ h => h) (Or.inl ⟨by rfl, ?_⟩) (by assumption) ?_
  case refine_2 =>
    intro w hSw
    (try dsimp only at hSw)
    (try go_simp)
    all_goals (with_reducible rfl)
  (try dsimp only [Act.put]); (try simp only [List.setIfInBounds_toArray, List.set_cons_zero, List.set_cons_succ])
  refine wpAnyH_take (i := 4) (oi := { dst := some 12, op := Op.fieldAddr 31 (Operand.tmp 1) 2, type := 0, pos := "law.go:34", after := #[{ on := 11, ground := Ground.gcOnly Departure.lateStores }], guard := none }) (v := ?_) rfl (by kernel_rfl) (by kernel_rfl) (by kernel_rfl) (fun _ _ _ h => h) (Or.inl ⟨by rfl, ?_⟩) (by assumption) ?_
  case refine_2 =>
    intro w hSw
    (try dsimp only at hSw)
    (try go_simp)
    all_goals (with_reducible rfl)
  (try dsimp only [Act.put]); (try simp only [List.setIfInBounds_toArray, List.set_cons_zero, List.set_cons_succ])
  refine wpAnyH_take (i := 5) (oi := { dst := some 13, op := Op.load 29 (Operand.tmp 12), type := 29, pos := "law.go:34", after := #[{ on := 4, ground := Ground.data }, { on := 11, ground := Ground.gcOnly Departure.lateStores }], guard := none }) (v := ?_) rfl (by kernel_rfl) (by kernel_rfl) (by kernel_rfl) (fun _ _ _ h => h) (Or.inl ⟨by rfl, ?_⟩) (by assumption) ?_
  case refine_2 =>
    intro w hSw
    (try dsimp only at hSw)
    (try go_simp)
    all_goals (with_reducible rfl)
  (try dsimp only [Act.put]); (try simp only [List.setIfInBounds_toArray, List.set_cons_zero, List.set_cons_succ])
  refine wpAnyH_take (i := 6) (oi := { dst := some 14, op := Op.fieldAddr 31 (Operand.tmp 1) 3, type := 0, pos := "law.go:34", after := #[{ on := 12, ground := Ground.gcOnly Departure.lateStores }], guard := none }) (v := ?_) rfl (by kernel_rfl) (by kernel_rfl) (by kernel_rfl) (fun _ _ _ h => h) (Or.inl ⟨by rfl, ?_⟩) (by assumption) ?_
  case refine_2 =>
    intro w hSw
    (try dsimp only at hSw)
    (try go_simp)
    all_goals (with_reducible rfl)
  (try dsimp only [Act.put]); (try simp only [List.setIfInBounds_toArray, List.set_cons_zero, List.set_cons_succ])
  refine wpAnyH_take (i := 7) (oi := { dst := some 15, op := Op.load 5 (Operand.tmp 14), type := 5, pos := "law.go:34", after := #[{ on := 6, ground := Ground.data }, { on := 12, ground := Ground.gcOnly Departure.lateStores }], guard := none }) (v := ?_) rfl (by kernel_rfl) (by kernel_rfl) (by kernel_rfl) (fun _ _ _ h => h) (Or.inl ⟨by rfl, ?_⟩) (by assumption) ?_
  case refine_2 =>
    intro w hSw
    (try dsimp only at hSw)
    (try go_simp)
    all_goals (with_reducible rfl)
  (try dsimp only [Act.put]); (try simp only [List.setIfInBounds_toArray, List.set_cons_zero, List.set_cons_succ])
  refine wpAnyH_ready (rs := [8, 9]) (by kernel_rfl) (by simp) (AllReadyH.cons (o := { dst := some 3, op := Op.alloc 27, type := 0, pos := "law.go:34", after := #[], guard := none }) rfl (fun K hK => ?rd1) (AllReadyH.cons (o := { dst := some 5, op := Op.alloc 29, type := 0, pos := "law.go:34", after := #[], guard := none }) rfl (fun K hK => ?rd2) AllReadyH.nil))
  case' rd1 =>
    go_simp
    refine hK.out _ _ ?_ (fun hHeld => ?_)
    · exact e8_keep hS0 (by repeat (first | exact Below.refl _ _ | (refine Below.setCell ?_ (by first | omega | (simp; done) | (simp; omega) | (simp at *; omega)) _) | (refine Below.alloc ?_ (by first | omega | (simp; done) | (simp; omega) | (simp at *; omega)) _) | refine Below.drew ?_ | (refine below_drewN ?_ _) | (refine Below.trans ?_ (Below.mono (by assumption) (by first | omega | (simp; done) | (simp; omega) | (simp at *; omega))))))
    clear hK K
    (try dsimp only [Act.put]); (try simp only [List.setIfInBounds_toArray, List.set_cons_zero, List.set_cons_succ])
    refine wpAnyH_ready (rs := [9]) (by kernel_rfl) (by simp) (AllReadyH.cons (o := { dst := some 5, op := Op.alloc 29, type := 0, pos := "law.go:34", after := #[], guard := none }) rfl (fun K hK => ?_) AllReadyH.nil)
    go_simp
    refine hK.out _ _ ?_ (fun hHeld => ?_)
    · exact e8_keep hS0 (by repeat (first | exact Below.refl _ _ | (refine Below.setCell ?_ (by first | omega | (simp; done) | (simp; omega) | (simp at *; omega)) _) | (refine Below.alloc ?_ (by first | omega | (simp; done) | (simp; omega) | (simp at *; omega)) _) | refine Below.drew ?_ | (refine below_drewN ?_ _) | (refine Below.trans ?_ (Below.mono (by assumption) (by first | omega | (simp; done) | (simp; omega) | (simp at *; omega))))))
    clear hK K
    (try dsimp only [Act.put]); (try simp only [List.setIfInBounds_toArray, List.set_cons_zero, List.set_cons_succ])
    refine wpAnyH_ready (rs := [10]) (by kernel_rfl) (by simp) (AllReadyH.cons (o := { dst := none, op := Op.store 27 (Operand.tmp 3) (Operand.tmp 9), type := 0, pos := "law.go:34", after := #[{ on := 8, ground := Ground.data }, { on := 1, ground := Ground.data }, { on := 0, ground := Ground.phase }, { on := 1, ground := Ground.phase }, { on := 2, ground := Ground.textOnly Departure.lateStores }, { on := 3, ground := Ground.textOnly Departure.lateStores }, { on := 4, ground := Ground.textOnly Departure.lateStores }, { on := 5, ground := Ground.textOnly Departure.lateStores }, { on := 6, ground := Ground.textOnly Departure.lateStores }, { on := 7, ground := Ground.textOnly Departure.lateStores }, { on := 8, ground := Ground.phase }, { on := 9, ground := Ground.phase }], guard := none }) rfl (fun K hK => ?_) AllReadyH.nil)
    go_simp
    refine hK.out _ _ ?_ (fun hHeld => ?_)
    · exact e8_keep hS0 (by repeat (first | exact Below.refl _ _ | (refine Below.setCell ?_ (by first | omega | (simp; done) | (simp; omega) | (simp at *; omega)) _) | (refine Below.alloc ?_ (by first | omega | (simp; done) | (simp; omega) | (simp at *; omega)) _) | refine Below.drew ?_ | (refine below_drewN ?_ _) | (refine Below.trans ?_ (Below.mono (by assumption) (by first | omega | (simp; done) | (simp; omega) | (simp at *; omega))))))
    clear hK K
    (try dsimp only [Act.put]); (try simp only [List.setIfInBounds_toArray, List.set_cons_zero, List.set_cons_succ])
    refine wpAnyH_take (i := 11) (oi := { dst := some 4, op := Op.assign (Operand.tmp 11), type := 5, pos := "law.go:34", after := #[{ on := 3, ground := Ground.data }, { on := 10, ground := Ground.chain }, { on := 0, ground := Ground.phase }, { on := 1, ground := Ground.phase }, { on := 2, ground := Ground.phase }, { on := 3, ground := Ground.phase }, { on := 4, ground := Ground.textOnly Departure.lateStores }, { on := 5, ground := Ground.textOnly Departure.lateStores }, { on := 6, ground := Ground.textOnly Departure.lateStores }, { on := 7, ground := Ground.textOnly Departure.lateStores }, { on := 8, ground := Ground.phase }, { on := 9, ground := Ground.phase }, { on := 10, ground := Ground.phase }], guard := none }) (v := ?_) rfl (by kernel_rfl) (by kernel_rfl) (by kernel_rfl) (fun _ _ _ h => h) (Or.inl ⟨by rfl, ?_⟩) (by assumption) ?_
    case refine_2 =>
      intro w hSw
      (try dsimp only at hSw)
      (try go_simp)
      all_goals (with_reducible rfl)
    (try dsimp only [Act.put]); (try simp only [List.setIfInBounds_toArray, List.set_cons_zero, List.set_cons_succ])
    refine wpAnyH_ready (rs := [12]) (by kernel_rfl) (by simp) (AllReadyH.cons (o := { dst := none, op := Op.store 29 (Operand.tmp 5) (Operand.tmp 13), type := 0, pos := "law.go:34", after := #[{ on := 9, ground := Ground.data }, { on := 5, ground := Ground.data }, { on := 11, ground := Ground.chain }, { on := 0, ground := Ground.phase }, { on := 1, ground := Ground.phase }, { on := 2, ground := Ground.phase }, { on := 3, ground := Ground.phase }, { on := 4, ground := Ground.phase }, { on := 5, ground := Ground.phase }, { on := 6, ground := Ground.textOnly Departure.lateStores }, { on := 7, ground := Ground.textOnly Departure.lateStores }, { on := 8, ground := Ground.phase }, { on := 9, ground := Ground.phase }, { on := 10, ground := Ground.phase }, { on := 11, ground := Ground.phase }], guard := none }) rfl (fun K hK => ?_) AllReadyH.nil)
    go_simp
    refine hK.out _ _ ?_ (fun hHeld => ?_)
    · exact e8_keep hS0 (by repeat (first | exact Below.refl _ _ | (refine Below.setCell ?_ (by first | omega | (simp; done) | (simp; omega) | (simp at *; omega)) _) | (refine Below.alloc ?_ (by first | omega | (simp; done) | (simp; omega) | (simp at *; omega)) _) | refine Below.drew ?_ | (refine below_drewN ?_ _) | (refine Below.trans ?_ (Below.mono (by assumption) (by first | omega | (simp; done) | (simp; omega) | (simp at *; omega))))))
    clear hK K
    (try dsimp only [Act.put]); (try simp only [List.setIfInBounds_toArray, List.set_cons_zero, List.set_cons_succ])
    refine wpAnyH_take (i := 13) (oi := { dst := some 6, op := Op.assign (Operand.tmp 15), type := 5, pos := "law.go:34", after := #[{ on := 7, ground := Ground.data }, { on := 12, ground := Ground.chain }, { on := 0, ground := Ground.phase }, { on := 1, ground := Ground.phase }, { on := 2, ground := Ground.phase }, { on := 3, ground := Ground.phase }, { on := 4, ground := Ground.phase }, { on := 5, ground := Ground.phase }, { on := 6, ground := Ground.phase }, { on := 7, ground := Ground.phase }, { on := 8, ground := Ground.phase }, { on := 9, ground := Ground.phase }, { on := 10, ground := Ground.phase }, { on := 11, ground := Ground.phase }, { on := 12, ground := Ground.phase }], guard := none }) (v := ?_) rfl (by kernel_rfl) (by kernel_rfl) (by kernel_rfl) (fun _ _ _ h => h) (Or.inl ⟨by rfl, ?_⟩) (by assumption) ?_
    case refine_2 =>
      intro w hSw
      (try dsimp only at hSw)
      (try go_simp)
      all_goals (with_reducible rfl)
    (try dsimp only [Act.put]); (try simp only [List.setIfInBounds_toArray, List.set_cons_zero, List.set_cons_succ])
    refine wpAnyH_done (by kernel_rfl) ?_ _
  case' rd2 =>
    go_simp
    refine hK.out _ _ ?_ (fun hHeld => ?_)
    · exact e8_keep hS0 (by repeat (first | exact Below.refl _ _ | (refine Below.setCell ?_ (by first | omega | (simp; done) | (simp; omega) | (simp at *; omega)) _) | (refine Below.alloc ?_ (by first | omega | (simp; done) | (simp; omega) | (simp at *; omega)) _) | refine Below.drew ?_ | (refine below_drewN ?_ _) | (refine Below.trans ?_ (Below.mono (by assumption) (by first | omega | (simp; done) | (simp; omega) | (simp at *; omega))))))
    clear hK K
    (try dsimp only [Act.put]); (try simp only [List.setIfInBounds_toArray, List.set_cons_zero, List.set_cons_succ])
    refine wpAnyH_ready (rs := [8]) (by kernel_rfl) (by simp) (AllReadyH.cons (o := { dst := some 3, op := Op.alloc 27, type := 0, pos := "law.go:34", after := #[], guard := none }) rfl (fun K hK => ?_) AllReadyH.nil)
    go_simp
    refine hK.out _ _ ?_ (fun hHeld => ?_)
    · exact e8_keep hS0 (by repeat (first | exact Below.refl _ _ | (refine Below.setCell ?_ (by first | omega | (simp; done) | (simp; omega) | (simp at *; omega)) _) | (refine Below.alloc ?_ (by first | omega | (simp; done) | (simp; omega) | (simp at *; omega)) _) | refine Below.drew ?_ | (refine below_drewN ?_ _) | (refine Below.trans ?_ (Below.mono (by assumption) (by first | omega | (simp; done) | (simp; omega) | (simp at *; omega))))))
    clear hK K
    (try dsimp only [Act.put]); (try simp only [List.setIfInBounds_toArray, List.set_cons_zero, List.set_cons_succ])
    refine wpAnyH_ready (rs := [10]) (by kernel_rfl) (by simp) (AllReadyH.cons (o := { dst := none, op := Op.store 27 (Operand.tmp 3) (Operand.tmp 9), type := 0, pos := "law.go:34", after := #[{ on := 8, ground := Ground.data }, { on := 1, ground := Ground.data }, { on := 0, ground := Ground.phase }, { on := 1, ground := Ground.phase }, { on := 2, ground := Ground.textOnly Departure.lateStores }, { on := 3, ground := Ground.textOnly Departure.lateStores }, { on := 4, ground := Ground.textOnly Departure.lateStores }, { on := 5, ground := Ground.textOnly Departure.lateStores }, { on := 6, ground := Ground.textOnly Departure.lateStores }, { on := 7, ground := Ground.textOnly Departure.lateStores }, { on := 8, ground := Ground.phase }, { on := 9, ground := Ground.phase }], guard := none }) rfl (fun K hK => ?_) AllReadyH.nil)
    go_simp
    refine hK.out _ _ ?_ (fun hHeld => ?_)
    · exact e8_keep hS0 (by repeat (first | exact Below.refl _ _ | (refine Below.setCell ?_ (by first | omega | (simp; done) | (simp; omega) | (simp at *; omega)) _) | (refine Below.alloc ?_ (by first | omega | (simp; done) | (simp; omega) | (simp at *; omega)) _) | refine Below.drew ?_ | (refine below_drewN ?_ _) | (refine Below.trans ?_ (Below.mono (by assumption) (by first | omega | (simp; done) | (simp; omega) | (simp at *; omega))))))
    clear hK K
    (try dsimp only [Act.put]); (try simp only [List.setIfInBounds_toArray, List.set_cons_zero, List.set_cons_succ])
    refine wpAnyH_take (i := 11) (oi := { dst := some 4, op := Op.assign (Operand.tmp 11), type := 5, pos := "law.go:34", after := #[{ on := 3, ground := Ground.data }, { on := 10, ground := Ground.chain }, { on := 0, ground := Ground.phase }, { on := 1, ground := Ground.phase }, { on := 2, ground := Ground.phase }, { on := 3, ground := Ground.phase }, { on := 4, ground := Ground.textOnly Departure.lateStores }, { on := 5, ground := Ground.textOnly Departure.lateStores }, { on := 6, ground := Ground.textOnly Departure.lateStores }, { on := 7, ground := Ground.textOnly Departure.lateStores }, { on := 8, ground := Ground.phase }, { on := 9, ground := Ground.phase }, { on := 10, ground := Ground.phase }], guard := none }) (v := ?_) rfl (by kernel_rfl) (by kernel_rfl) (by kernel_rfl) (fun _ _ _ h => h) (Or.inl ⟨by rfl, ?_⟩) (by assumption) ?_
    case refine_2 =>
      intro w hSw
      (try dsimp only at hSw)
      (try go_simp)
      all_goals (with_reducible rfl)
    (try dsimp only [Act.put]); (try simp only [List.setIfInBounds_toArray, List.set_cons_zero, List.set_cons_succ])
    refine wpAnyH_ready (rs := [12]) (by kernel_rfl) (by simp) (AllReadyH.cons (o := { dst := none, op := Op.store 29 (Operand.tmp 5) (Operand.tmp 13), type := 0, pos := "law.go:34", after := #[{ on := 9, ground := Ground.data }, { on := 5, ground := Ground.data }, { on := 11, ground := Ground.chain }, { on := 0, ground := Ground.phase }, { on := 1, ground := Ground.phase }, { on := 2, ground := Ground.phase }, { on := 3, ground := Ground.phase }, { on := 4, ground := Ground.phase }, { on := 5, ground := Ground.phase }, { on := 6, ground := Ground.textOnly Departure.lateStores }, { on := 7, ground := Ground.textOnly Departure.lateStores }, { on := 8, ground := Ground.phase }, { on := 9, ground := Ground.phase }, { on := 10, ground := Ground.phase }, { on := 11, ground := Ground.phase }], guard := none }) rfl (fun K hK => ?_) AllReadyH.nil)
    go_simp
    refine hK.out _ _ ?_ (fun hHeld => ?_)
    · exact e8_keep hS0 (by repeat (first | exact Below.refl _ _ | (refine Below.setCell ?_ (by first | omega | (simp; done) | (simp; omega) | (simp at *; omega)) _) | (refine Below.alloc ?_ (by first | omega | (simp; done) | (simp; omega) | (simp at *; omega)) _) | refine Below.drew ?_ | (refine below_drewN ?_ _) | (refine Below.trans ?_ (Below.mono (by assumption) (by first | omega | (simp; done) | (simp; omega) | (simp at *; omega))))))
    clear hK K
    (try dsimp only [Act.put]); (try simp only [List.setIfInBounds_toArray, List.set_cons_zero, List.set_cons_succ])
    refine wpAnyH_take (i := 13) (oi := { dst := some 6, op := Op.assign (Operand.tmp 15), type := 5, pos := "law.go:34", after := #[{ on := 7, ground := Ground.data }, { on := 12, ground := Ground.chain }, { on := 0, ground := Ground.phase }, { on := 1, ground := Ground.phase }, { on := 2, ground := Ground.phase }, { on := 3, ground := Ground.phase }, { on := 4, ground := Ground.phase }, { on := 5, ground := Ground.phase }, { on := 6, ground := Ground.phase }, { on := 7, ground := Ground.phase }, { on := 8, ground := Ground.phase }, { on := 9, ground := Ground.phase }, { on := 10, ground := Ground.phase }, { on := 11, ground := Ground.phase }, { on := 12, ground := Ground.phase }], guard := none }) (v := ?_) rfl (by kernel_rfl) (by kernel_rfl) (by kernel_rfl) (fun _ _ _ h => h) (Or.inl ⟨by rfl, ?_⟩) (by assumption) ?_
    case refine_2 =>
      intro w hSw
      (try dsimp only at hSw)
      (try go_simp)
      all_goals (with_reducible rfl)
    (try dsimp only [Act.put]); (try simp only [List.setIfInBounds_toArray, List.set_cons_zero, List.set_cons_succ])
    refine wpAnyH_done (by kernel_rfl) ?_ _
  all_goals
    first
    | (obtain ⟨W2, hW2⟩ : ∃ x, ((W0.alloc (.cells #[.int .i64 a, .int .i64 b] 29)).alloc (.cells #[.string s, .int .i64 side, .int .i64 ck, .int .i64 fl] 27)).drew = x := ⟨_, rfl⟩
       have bM : Blk W2 W0.heap.size 29 #[.int .i64 a, .int .i64 b] := by rw [← hW2]; exact ((Blk.new W0 _ _ rfl).alloc _).next (Below.refl _ _).drew
       have bP : Blk W2 (W0.heap.size + 1) 27 #[.string s, .int .i64 side, .int .i64 ck, .int .i64 fl] := by rw [← hW2]; exact (Blk.new _ _ _ (by simp)).next (Below.refl _ _).drew
       have hB2 : Below w.heap.size w W2 := by rw [← hW2]; exact ((hS0.2.2.2.2.2.2.2.2.alloc hS0.2.2.2.2.2.2.2.2.size _).alloc (by simp; exact Nat.le_succ_of_le hS0.2.2.2.2.2.2.2.2.size) _).drew
       rw [hW2]
       clear hW2 hS hS0 hHeld
       generalize W0.heap.size + 1 = g1 at bP ⊢
       generalize W0.heap.size = g2 at bM ⊢)
    | (obtain ⟨W2, hW2⟩ : ∃ x, ((W0.alloc (.cells #[.string s, .int .i64 side, .int .i64 ck, .int .i64 fl] 27)).alloc (.cells #[.int .i64 a, .int .i64 b] 29)).drew = x := ⟨_, rfl⟩
       have bP : Blk W2 W0.heap.size 27 #[.string s, .int .i64 side, .int .i64 ck, .int .i64 fl] := by rw [← hW2]; exact ((Blk.new W0 _ _ rfl).alloc _).next (Below.refl _ _).drew
       have bM : Blk W2 (W0.heap.size + 1) 29 #[.int .i64 a, .int .i64 b] := by rw [← hW2]; exact (Blk.new _ _ _ (by simp)).next (Below.refl _ _).drew
       have hB2 : Below w.heap.size w W2 := by rw [← hW2]; exact ((hS0.2.2.2.2.2.2.2.2.alloc hS0.2.2.2.2.2.2.2.2.size _).alloc (by simp; exact Nat.le_succ_of_le hS0.2.2.2.2.2.2.2.2.size) _).drew
       rw [hW2]
       clear hW2 hS hS0 hHeld
       generalize W0.heap.size + 1 = g2 at bM ⊢
       generalize W0.heap.size = g1 at bP ⊢)
    obtain ⟨p0, p1, p2, p3⟩ := vpos_cells bP
    have m0 := bM.cell 0
    have m1 := bM.cell 1
    simp only [List.getElem?_toArray, List.getElem?_cons_zero, List.getElem?_cons_succ] at m0 m1
    go_wp2_with fail
    refine (live14_any _ (hT.next hB2)).mono ?_
    rintro e w1 ⟨rfl, hb⟩
    go_wp2
    go_ret
    exact ⟨rfl, hB2.trans (hb.mono hB2.size)⟩
set_option maxRecDepth 100000 in
set_option maxHeartbeats 8000000 in
theorem small (s : ByteArray) (side ck fl : Int) (c : Nat) (a b : Int) (t : Nat) (w : World) (hT : Tab w) (hs : s.size ≤ 200) : Calls Tryd.prog 4 #[.agg #[.string s, .int .i64 side, .int .i64 ck, .int .i64 fl, .int .u8 (c : Int), .int .i64 a, .int .i64 b, .int .u8 (t : Int)]] w (Gives w (.bool true)) := by
  unfold Gives
  have hd : decide (200 < (s.size : Int)) = false := by simp; omega
  clear hs
  obtain ⟨v, hv⟩ : ∃ v, ofV s side = v := ⟨_, rfl⟩
  obtain ⟨u, hu⟩ : ∃ u, mvW v (pieceV c a) (pieceV c b) (pieceV t b) = u := ⟨_, rfl⟩
  have HV := Lib.hid hv
  have HU := Lib.hid hu
  clear hv hu
  obtain ⟨W0, hW0⟩ : ∃ W0, w.alloc (.cells #[.string s, .int .i64 side, .int .i64 ck, .int .i64 fl, .int .u8 (c : Int), .int .i64 a, .int .i64 b, .int .u8 (t : Int)] 31) = W0 := ⟨_, rfl⟩
  have hB : Below w.heap.size w W0 := by rw [← hW0]; exact (by repeat (first | exact Below.refl _ _ | (refine Below.setCell ?_ (by first | omega | (simp; done) | (simp; omega) | (simp at *; omega)) _) | (refine Below.alloc ?_ (by first | omega | (simp; done) | (simp; omega) | (simp at *; omega)) _) | refine Below.drew ?_ | (refine below_drewN ?_ _) | (refine Below.trans ?_ (Below.mono (by assumption) (by first | omega | (simp; done) | (simp; omega) | (simp at *; omega))))))
  have bX : Blk W0 w.heap.size 31 #[.string s, .int .i64 side, .int .i64 ck, .int .i64 fl, .int .u8 (c : Int), .int .i64 a, .int .i64 b, .int .u8 (t : Int)] := by rw [← hW0]; exact Blk.new _ _ _ rfl
  have hS : W0.drew.cell? ⟨w.heap.size, 0, none⟩ = some (.string s) ∧ W0.drew.cell? ⟨w.heap.size, 1, none⟩ = some (.int .i64 side) ∧ W0.drew.cell? ⟨w.heap.size, 2, none⟩ = some (.int .i64 ck) ∧ W0.drew.cell? ⟨w.heap.size, 3, none⟩ = some (.int .i64 fl) ∧ W0.drew.cell? ⟨w.heap.size, 4, none⟩ = some (.int .u8 (c : Int)) ∧ W0.drew.cell? ⟨w.heap.size, 5, none⟩ = some (.int .i64 a) ∧ W0.drew.cell? ⟨w.heap.size, 6, none⟩ = some (.int .i64 b) ∧ W0.drew.cell? ⟨w.heap.size, 7, none⟩ = some (.int .u8 (t : Int)) ∧ Below w.heap.size w W0.drew := ⟨bX.cell 0, bX.cell 1, bX.cell 2, bX.cell 3, bX.cell 4, bX.cell 5, bX.cell 6, bX.cell 7, hB.drew⟩
  have hS0 : W0.cell? ⟨w.heap.size, 0, none⟩ = some (.string s) ∧ W0.cell? ⟨w.heap.size, 1, none⟩ = some (.int .i64 side) ∧ W0.cell? ⟨w.heap.size, 2, none⟩ = some (.int .i64 ck) ∧ W0.cell? ⟨w.heap.size, 3, none⟩ = some (.int .i64 fl) ∧ W0.cell? ⟨w.heap.size, 4, none⟩ = some (.int .u8 (c : Int)) ∧ W0.cell? ⟨w.heap.size, 5, none⟩ = some (.int .i64 a) ∧ W0.cell? ⟨w.heap.size, 6, none⟩ = some (.int .i64 b) ∧ W0.cell? ⟨w.heap.size, 7, none⟩ = some (.int .u8 (t : Int)) ∧ Below w.heap.size w W0 := ⟨bX.cell 0, bX.cell 1, bX.cell 2, bX.cell 3, bX.cell 4, bX.cell 5, bX.cell 6, bX.cell 7, hB⟩
  have HW := Lib.hid hW0
  clear hW0 bX hB
  go_enter Tryd.func4, Tryd.ntmps4
  go_wp2_with fail
  rw [HW.out]
  clear HW
  refine wp_region_held_drew (S := fun W => W.cell? ⟨w.heap.size, 0, none⟩ = some (.string s) ∧ W.cell? ⟨w.heap.size, 1, none⟩ = some (.int .i64 side) ∧ W.cell? ⟨w.heap.size, 2, none⟩ = some (.int .i64 ck) ∧ W.cell? ⟨w.heap.size, 3, none⟩ = some (.int .i64 fl) ∧ W.cell? ⟨w.heap.size, 4, none⟩ = some (.int .u8 (c : Int)) ∧ W.cell? ⟨w.heap.size, 5, none⟩ = some (.int .i64 a) ∧ W.cell? ⟨w.heap.size, 6, none⟩ = some (.int .i64 b) ∧ W.cell? ⟨w.heap.size, 7, none⟩ = some (.int .u8 (t : Int)) ∧ Below w.heap.size w W) (by kernel_rfl) (hS) (fun hHeld => ?_)
  refine wpAnyH_take (i := 0) (oi := { dst := some 8, op := Op.fieldAddr 31 (Operand.tmp 1) 0, type := 0, pos := "law.go:34", after := #[], guard := none }) (v := ?_) rfl (by kernel_rfl) (by kernel_rfl) (by kernel_rfl) (fun _ _ _ h => h) (Or.inl ⟨by rfl, ?_⟩) (by assumption) ?_
  case refine_2 =>
    intro w hSw
    (try dsimp only at hSw)
    (try go_simp)
    all_goals (with_reducible rfl)
  (try dsimp only [Act.put]); (try simp only [List.setIfInBounds_toArray, List.set_cons_zero, List.set_cons_succ])
  refine wpAnyH_take (i := 1) (oi := { dst := some 9, op := Op.load 27 (Operand.tmp 8), type := 27, pos := "law.go:34", after := #[{ on := 0, ground := Ground.data }], guard := none }) (v := ?_) rfl (by kernel_rfl) (by kernel_rfl) (by kernel_rfl) (fun _ _ _ h => h) (Or.inl ⟨by rfl, ?_⟩) (by assumption) ?_
  case refine_2 =>
    intro w hSw
    (try dsimp only at hSw)
    (try go_simp)
    all_goals (with_reducible rfl)
  (try dsimp only [Act.put]); (try simp only [List.setIfInBounds_toArray, List.set_cons_zero, List.set_cons_succ])
  refine wpAnyH_take (i := 2) (oi := { dst := some 10, op := Op.fieldAddr 31 (Operand.tmp 1) 1, type := 0, pos := "law.go:34", after := #[{ on := 10, ground := Ground.gcOnly Departure.lateStores }], guard := none }) (v := ?_) rfl (by kernel_rfl) (by kernel_rfl) (by kernel_rfl) (fun _ _ _ h => h) (Or.inl ⟨by rfl, ?_⟩) (by assumption) ?_
  case refine_2 =>
    intro w hSw
    (try dsimp only at hSw)
    (try go_simp)
    all_goals (with_reducible rfl)
  (try dsimp only [Act.put]); (try simp only [List.setIfInBounds_toArray, List.set_cons_zero, List.set_cons_succ])
  refine wpAnyH_take (i := 3) (oi := { dst := some 11, op := Op.load 5 (Operand.tmp 10), type := 5, pos := "law.go:34", after := #[{ on := 2, ground := Ground.data }, { on := 10, ground := Ground.gcOnly Departure.lateStores }], guard := none }) (v := ?_) rfl (by kernel_rfl) (by kernel_rfl) (by kernel_rfl) (fun _ _ _ h => h) (Or.inl ⟨by rfl, ?_⟩) (by assumption) ?_
  case refine_2 =>
    intro w hSw
    (try dsimp only at hSw)
    (try go_simp)
    all_goals (with_reducible rfl)
  (try dsimp only [Act.put]); (try simp only [List.setIfInBounds_toArray, List.set_cons_zero, List.set_cons_succ])
  refine wpAnyH_take (i := 4) (oi := { dst := some 12, op := Op.fieldAddr 31 (Operand.tmp 1) 2, type := 0, pos := "law.go:34", after := #[{ on := 11, ground := Ground.gcOnly Departure.lateStores }], guard := none }) (v := ?_) rfl (by kernel_rfl) (by kernel_rfl) (by kernel_rfl) (fun _ _ _ h => h) (Or.inl ⟨by rfl, ?_⟩) (by assumption) ?_
  case refine_2 =>
    intro w hSw
    (try dsimp only at hSw)
    (try go_simp)
    all_goals (with_reducible rfl)
  (try dsimp only [Act.put]); (try simp only [List.setIfInBounds_toArray, List.set_cons_zero, List.set_cons_succ])
  refine wpAnyH_take (i := 5) (oi := { dst := some 13, op := Op.load 29 (Operand.tmp 12), type := 29, pos := "law.go:34", after := #[{ on := 4, ground := Ground.data }, { on := 11, ground := Ground.gcOnly Departure.lateStores }], guard := none }) (v := ?_) rfl (by kernel_rfl) (by kernel_rfl) (by kernel_rfl) (fun _ _ _ h => h) (Or.inl ⟨by rfl, ?_⟩) (by assumption) ?_
  case refine_2 =>
    intro w hSw
    (try dsimp only at hSw)
    (try go_simp)
    all_goals (with_reducible rfl)
  (try dsimp only [Act.put]); (try simp only [List.setIfInBounds_toArray, List.set_cons_zero, List.set_cons_succ])
  refine wpAnyH_take (i := 6) (oi := { dst := some 14, op := Op.fieldAddr 31 (Operand.tmp 1) 3, type := 0, pos := "law.go:34", after := #[{ on := 12, ground := Ground.gcOnly Departure.lateStores }], guard := none }) (v := ?_) rfl (by kernel_rfl) (by kernel_rfl) (by kernel_rfl) (fun _ _ _ h => h) (Or.inl ⟨by rfl, ?_⟩) (by assumption) ?_
  case refine_2 =>
    intro w hSw
    (try dsimp only at hSw)
    (try go_simp)
    all_goals (with_reducible rfl)
  (try dsimp only [Act.put]); (try simp only [List.setIfInBounds_toArray, List.set_cons_zero, List.set_cons_succ])
  refine wpAnyH_take (i := 7) (oi := { dst := some 15, op := Op.load 5 (Operand.tmp 14), type := 5, pos := "law.go:34", after := #[{ on := 6, ground := Ground.data }, { on := 12, ground := Ground.gcOnly Departure.lateStores }], guard := none }) (v := ?_) rfl (by kernel_rfl) (by kernel_rfl) (by kernel_rfl) (fun _ _ _ h => h) (Or.inl ⟨by rfl, ?_⟩) (by assumption) ?_
  case refine_2 =>
    intro w hSw
    (try dsimp only at hSw)
    (try go_simp)
    all_goals (with_reducible rfl)
  (try dsimp only [Act.put]); (try simp only [List.setIfInBounds_toArray, List.set_cons_zero, List.set_cons_succ])
  refine wpAnyH_ready (rs := [8, 9]) (by kernel_rfl) (by simp) (AllReadyH.cons (o := { dst := some 3, op := Op.alloc 27, type := 0, pos := "law.go:34", after := #[], guard := none }) rfl (fun K hK => ?rd1_1) (AllReadyH.cons (o := { dst := some 5, op := Op.alloc 29, type := 0, pos := "law.go:34", after := #[], guard := none }) rfl (fun K hK => ?rd1_2) AllReadyH.nil))
  case' rd1_1 =>
    go_simp
    refine hK.out _ _ ?_ (fun hHeld => ?_)
    · exact e8_keep hS0 (by repeat (first | exact Below.refl _ _ | (refine Below.setCell ?_ (by first | omega | (simp; done) | (simp; omega) | (simp at *; omega)) _) | (refine Below.alloc ?_ (by first | omega | (simp; done) | (simp; omega) | (simp at *; omega)) _) | refine Below.drew ?_ | (refine below_drewN ?_ _) | (refine Below.trans ?_ (Below.mono (by assumption) (by first | omega | (simp; done) | (simp; omega) | (simp at *; omega))))))
    clear hK K
    (try dsimp only [Act.put]); (try simp only [List.setIfInBounds_toArray, List.set_cons_zero, List.set_cons_succ])
    refine wpAnyH_ready (rs := [9]) (by kernel_rfl) (by simp) (AllReadyH.cons (o := { dst := some 5, op := Op.alloc 29, type := 0, pos := "law.go:34", after := #[], guard := none }) rfl (fun K hK => ?_) AllReadyH.nil)
    go_simp
    refine hK.out _ _ ?_ (fun hHeld => ?_)
    · exact e8_keep hS0 (by repeat (first | exact Below.refl _ _ | (refine Below.setCell ?_ (by first | omega | (simp; done) | (simp; omega) | (simp at *; omega)) _) | (refine Below.alloc ?_ (by first | omega | (simp; done) | (simp; omega) | (simp at *; omega)) _) | refine Below.drew ?_ | (refine below_drewN ?_ _) | (refine Below.trans ?_ (Below.mono (by assumption) (by first | omega | (simp; done) | (simp; omega) | (simp at *; omega))))))
    clear hK K
    (try dsimp only [Act.put]); (try simp only [List.setIfInBounds_toArray, List.set_cons_zero, List.set_cons_succ])
    refine wpAnyH_ready (rs := [10]) (by kernel_rfl) (by simp) (AllReadyH.cons (o := { dst := none, op := Op.store 27 (Operand.tmp 3) (Operand.tmp 9), type := 0, pos := "law.go:34", after := #[{ on := 8, ground := Ground.data }, { on := 1, ground := Ground.data }, { on := 0, ground := Ground.phase }, { on := 1, ground := Ground.phase }, { on := 2, ground := Ground.textOnly Departure.lateStores }, { on := 3, ground := Ground.textOnly Departure.lateStores }, { on := 4, ground := Ground.textOnly Departure.lateStores }, { on := 5, ground := Ground.textOnly Departure.lateStores }, { on := 6, ground := Ground.textOnly Departure.lateStores }, { on := 7, ground := Ground.textOnly Departure.lateStores }, { on := 8, ground := Ground.phase }, { on := 9, ground := Ground.phase }], guard := none }) rfl (fun K hK => ?_) AllReadyH.nil)
    go_simp
    refine hK.out _ _ ?_ (fun hHeld => ?_)
    · exact e8_keep hS0 (by repeat (first | exact Below.refl _ _ | (refine Below.setCell ?_ (by first | omega | (simp; done) | (simp; omega) | (simp at *; omega)) _) | (refine Below.alloc ?_ (by first | omega | (simp; done) | (simp; omega) | (simp at *; omega)) _) | refine Below.drew ?_ | (refine below_drewN ?_ _) | (refine Below.trans ?_ (Below.mono (by assumption) (by first | omega | (simp; done) | (simp; omega) | (simp at *; omega))))))
    clear hK K
    (try dsimp only [Act.put]); (try simp only [List.setIfInBounds_toArray, List.set_cons_zero, List.set_cons_succ])
    refine wpAnyH_take (i := 11) (oi := { dst := some 4, op := Op.assign (Operand.tmp 11), type := 5, pos := "law.go:34", after := #[{ on := 3, ground := Ground.data }, { on := 10, ground := Ground.chain }, { on := 0, ground := Ground.phase }, { on := 1, ground := Ground.phase }, { on := 2, ground := Ground.phase }, { on := 3, ground := Ground.phase }, { on := 4, ground := Ground.textOnly Departure.lateStores }, { on := 5, ground := Ground.textOnly Departure.lateStores }, { on := 6, ground := Ground.textOnly Departure.lateStores }, { on := 7, ground := Ground.textOnly Departure.lateStores }, { on := 8, ground := Ground.phase }, { on := 9, ground := Ground.phase }, { on := 10, ground := Ground.phase }], guard := none }) (v := ?_) rfl (by kernel_rfl) (by kernel_rfl) (by kernel_rfl) (fun _ _ _ h => h) (Or.inl ⟨by rfl, ?_⟩) (by assumption) ?_
    case refine_2 =>
      intro w hSw
      (try dsimp only at hSw)
      (try go_simp)
      all_goals (with_reducible rfl)
    (try dsimp only [Act.put]); (try simp only [List.setIfInBounds_toArray, List.set_cons_zero, List.set_cons_succ])
    refine wpAnyH_ready (rs := [12]) (by kernel_rfl) (by simp) (AllReadyH.cons (o := { dst := none, op := Op.store 29 (Operand.tmp 5) (Operand.tmp 13), type := 0, pos := "law.go:34", after := #[{ on := 9, ground := Ground.data }, { on := 5, ground := Ground.data }, { on := 11, ground := Ground.chain }, { on := 0, ground := Ground.phase }, { on := 1, ground := Ground.phase }, { on := 2, ground := Ground.phase }, { on := 3, ground := Ground.phase }, { on := 4, ground := Ground.phase }, { on := 5, ground := Ground.phase }, { on := 6, ground := Ground.textOnly Departure.lateStores }, { on := 7, ground := Ground.textOnly Departure.lateStores }, { on := 8, ground := Ground.phase }, { on := 9, ground := Ground.phase }, { on := 10, ground := Ground.phase }, { on := 11, ground := Ground.phase }], guard := none }) rfl (fun K hK => ?_) AllReadyH.nil)
    go_simp
    refine hK.out _ _ ?_ (fun hHeld => ?_)
    · exact e8_keep hS0 (by repeat (first | exact Below.refl _ _ | (refine Below.setCell ?_ (by first | omega | (simp; done) | (simp; omega) | (simp at *; omega)) _) | (refine Below.alloc ?_ (by first | omega | (simp; done) | (simp; omega) | (simp at *; omega)) _) | refine Below.drew ?_ | (refine below_drewN ?_ _) | (refine Below.trans ?_ (Below.mono (by assumption) (by first | omega | (simp; done) | (simp; omega) | (simp at *; omega))))))
    clear hK K
    (try dsimp only [Act.put]); (try simp only [List.setIfInBounds_toArray, List.set_cons_zero, List.set_cons_succ])
    refine wpAnyH_take (i := 13) (oi := { dst := some 6, op := Op.assign (Operand.tmp 15), type := 5, pos := "law.go:34", after := #[{ on := 7, ground := Ground.data }, { on := 12, ground := Ground.chain }, { on := 0, ground := Ground.phase }, { on := 1, ground := Ground.phase }, { on := 2, ground := Ground.phase }, { on := 3, ground := Ground.phase }, { on := 4, ground := Ground.phase }, { on := 5, ground := Ground.phase }, { on := 6, ground := Ground.phase }, { on := 7, ground := Ground.phase }, { on := 8, ground := Ground.phase }, { on := 9, ground := Ground.phase }, { on := 10, ground := Ground.phase }, { on := 11, ground := Ground.phase }, { on := 12, ground := Ground.phase }], guard := none }) (v := ?_) rfl (by kernel_rfl) (by kernel_rfl) (by kernel_rfl) (fun _ _ _ h => h) (Or.inl ⟨by rfl, ?_⟩) (by assumption) ?_
    case refine_2 =>
      intro w hSw
      (try dsimp only at hSw)
      (try go_simp)
      all_goals (with_reducible rfl)
    (try dsimp only [Act.put]); (try simp only [List.setIfInBounds_toArray, List.set_cons_zero, List.set_cons_succ])
    refine wpAnyH_done (by kernel_rfl) ?_ _
  case' rd1_2 =>
    go_simp
    refine hK.out _ _ ?_ (fun hHeld => ?_)
    · exact e8_keep hS0 (by repeat (first | exact Below.refl _ _ | (refine Below.setCell ?_ (by first | omega | (simp; done) | (simp; omega) | (simp at *; omega)) _) | (refine Below.alloc ?_ (by first | omega | (simp; done) | (simp; omega) | (simp at *; omega)) _) | refine Below.drew ?_ | (refine below_drewN ?_ _) | (refine Below.trans ?_ (Below.mono (by assumption) (by first | omega | (simp; done) | (simp; omega) | (simp at *; omega))))))
    clear hK K
    (try dsimp only [Act.put]); (try simp only [List.setIfInBounds_toArray, List.set_cons_zero, List.set_cons_succ])
    refine wpAnyH_ready (rs := [8]) (by kernel_rfl) (by simp) (AllReadyH.cons (o := { dst := some 3, op := Op.alloc 27, type := 0, pos := "law.go:34", after := #[], guard := none }) rfl (fun K hK => ?_) AllReadyH.nil)
    go_simp
    refine hK.out _ _ ?_ (fun hHeld => ?_)
    · exact e8_keep hS0 (by repeat (first | exact Below.refl _ _ | (refine Below.setCell ?_ (by first | omega | (simp; done) | (simp; omega) | (simp at *; omega)) _) | (refine Below.alloc ?_ (by first | omega | (simp; done) | (simp; omega) | (simp at *; omega)) _) | refine Below.drew ?_ | (refine below_drewN ?_ _) | (refine Below.trans ?_ (Below.mono (by assumption) (by first | omega | (simp; done) | (simp; omega) | (simp at *; omega))))))
    clear hK K
    (try dsimp only [Act.put]); (try simp only [List.setIfInBounds_toArray, List.set_cons_zero, List.set_cons_succ])
    refine wpAnyH_ready (rs := [10]) (by kernel_rfl) (by simp) (AllReadyH.cons (o := { dst := none, op := Op.store 27 (Operand.tmp 3) (Operand.tmp 9), type := 0, pos := "law.go:34", after := #[{ on := 8, ground := Ground.data }, { on := 1, ground := Ground.data }, { on := 0, ground := Ground.phase }, { on := 1, ground := Ground.phase }, { on := 2, ground := Ground.textOnly Departure.lateStores }, { on := 3, ground := Ground.textOnly Departure.lateStores }, { on := 4, ground := Ground.textOnly Departure.lateStores }, { on := 5, ground := Ground.textOnly Departure.lateStores }, { on := 6, ground := Ground.textOnly Departure.lateStores }, { on := 7, ground := Ground.textOnly Departure.lateStores }, { on := 8, ground := Ground.phase }, { on := 9, ground := Ground.phase }], guard := none }) rfl (fun K hK => ?_) AllReadyH.nil)
    go_simp
    refine hK.out _ _ ?_ (fun hHeld => ?_)
    · exact e8_keep hS0 (by repeat (first | exact Below.refl _ _ | (refine Below.setCell ?_ (by first | omega | (simp; done) | (simp; omega) | (simp at *; omega)) _) | (refine Below.alloc ?_ (by first | omega | (simp; done) | (simp; omega) | (simp at *; omega)) _) | refine Below.drew ?_ | (refine below_drewN ?_ _) | (refine Below.trans ?_ (Below.mono (by assumption) (by first | omega | (simp; done) | (simp; omega) | (simp at *; omega))))))
    clear hK K
    (try dsimp only [Act.put]); (try simp only [List.setIfInBounds_toArray, List.set_cons_zero, List.set_cons_succ])
    refine wpAnyH_take (i := 11) (oi := { dst := some 4, op := Op.assign (Operand.tmp 11), type := 5, pos := "law.go:34", after := #[{ on := 3, ground := Ground.data }, { on := 10, ground := Ground.chain }, { on := 0, ground := Ground.phase }, { on := 1, ground := Ground.phase }, { on := 2, ground := Ground.phase }, { on := 3, ground := Ground.phase }, { on := 4, ground := Ground.textOnly Departure.lateStores }, { on := 5, ground := Ground.textOnly Departure.lateStores }, { on := 6, ground := Ground.textOnly Departure.lateStores }, { on := 7, ground := Ground.textOnly Departure.lateStores }, { on := 8, ground := Ground.phase }, { on := 9, ground := Ground.phase }, { on := 10, ground := Ground.phase }], guard := none }) (v := ?_) rfl (by kernel_rfl) (by kernel_rfl) (by kernel_rfl) (fun _ _ _ h => h) (Or.inl ⟨by rfl, ?_⟩) (by assumption) ?_
    case refine_2 =>
      intro w hSw
      (try dsimp only at hSw)
      (try go_simp)
      all_goals (with_reducible rfl)
    (try dsimp only [Act.put]); (try simp only [List.setIfInBounds_toArray, List.set_cons_zero, List.set_cons_succ])
    refine wpAnyH_ready (rs := [12]) (by kernel_rfl) (by simp) (AllReadyH.cons (o := { dst := none, op := Op.store 29 (Operand.tmp 5) (Operand.tmp 13), type := 0, pos := "law.go:34", after := #[{ on := 9, ground := Ground.data }, { on := 5, ground := Ground.data }, { on := 11, ground := Ground.chain }, { on := 0, ground := Ground.phase }, { on := 1, ground := Ground.phase }, { on := 2, ground := Ground.phase }, { on := 3, ground := Ground.phase }, { on := 4, ground := Ground.phase }, { on := 5, ground := Ground.phase }, { on := 6, ground := Ground.textOnly Departure.lateStores }, { on := 7, ground := Ground.textOnly Departure.lateStores }, { on := 8, ground := Ground.phase }, { on := 9, ground := Ground.phase }, { on := 10, ground := Ground.phase }, { on := 11, ground := Ground.phase }], guard := none }) rfl (fun K hK => ?_) AllReadyH.nil)
    go_simp
    refine hK.out _ _ ?_ (fun hHeld => ?_)
    · exact e8_keep hS0 (by repeat (first | exact Below.refl _ _ | (refine Below.setCell ?_ (by first | omega | (simp; done) | (simp; omega) | (simp at *; omega)) _) | (refine Below.alloc ?_ (by first | omega | (simp; done) | (simp; omega) | (simp at *; omega)) _) | refine Below.drew ?_ | (refine below_drewN ?_ _) | (refine Below.trans ?_ (Below.mono (by assumption) (by first | omega | (simp; done) | (simp; omega) | (simp at *; omega))))))
    clear hK K
    (try dsimp only [Act.put]); (try simp only [List.setIfInBounds_toArray, List.set_cons_zero, List.set_cons_succ])
    refine wpAnyH_take (i := 13) (oi := { dst := some 6, op := Op.assign (Operand.tmp 15), type := 5, pos := "law.go:34", after := #[{ on := 7, ground := Ground.data }, { on := 12, ground := Ground.chain }, { on := 0, ground := Ground.phase }, { on := 1, ground := Ground.phase }, { on := 2, ground := Ground.phase }, { on := 3, ground := Ground.phase }, { on := 4, ground := Ground.phase }, { on := 5, ground := Ground.phase }, { on := 6, ground := Ground.phase }, { on := 7, ground := Ground.phase }, { on := 8, ground := Ground.phase }, { on := 9, ground := Ground.phase }, { on := 10, ground := Ground.phase }, { on := 11, ground := Ground.phase }, { on := 12, ground := Ground.phase }], guard := none }) (v := ?_) rfl (by kernel_rfl) (by kernel_rfl) (by kernel_rfl) (fun _ _ _ h => h) (Or.inl ⟨by rfl, ?_⟩) (by assumption) ?_
    case refine_2 =>
      intro w hSw
      (try dsimp only at hSw)
      (try go_simp)
      all_goals (with_reducible rfl)
    (try dsimp only [Act.put]); (try simp only [List.setIfInBounds_toArray, List.set_cons_zero, List.set_cons_succ])
    refine wpAnyH_done (by kernel_rfl) ?_ _
  all_goals
    first
    | (obtain ⟨W2, hW2⟩ : ∃ x, ((W0.alloc (.cells #[.int .i64 a, .int .i64 b] 29)).alloc (.cells #[.string s, .int .i64 side, .int .i64 ck, .int .i64 fl] 27)).drew = x := ⟨_, rfl⟩
       have bM : Blk W2 W0.heap.size 29 #[.int .i64 a, .int .i64 b] := by rw [← hW2]; exact ((Blk.new W0 _ _ rfl).alloc _).next (Below.refl _ _).drew
       have bP : Blk W2 (W0.heap.size + 1) 27 #[.string s, .int .i64 side, .int .i64 ck, .int .i64 fl] := by rw [← hW2]; exact (Blk.new _ _ _ (by simp)).next (Below.refl _ _).drew
       have hB2 : Below w.heap.size w W2 := by rw [← hW2]; exact ((hS0.2.2.2.2.2.2.2.2.alloc hS0.2.2.2.2.2.2.2.2.size _).alloc (by simp; exact Nat.le_succ_of_le hS0.2.2.2.2.2.2.2.2.size) _).drew
       rw [hW2]
       clear hW2 hS hS0 hHeld
       generalize W0.heap.size + 1 = g1 at bP ⊢
       generalize W0.heap.size = g2 at bM ⊢)
    | (obtain ⟨W2, hW2⟩ : ∃ x, ((W0.alloc (.cells #[.string s, .int .i64 side, .int .i64 ck, .int .i64 fl] 27)).alloc (.cells #[.int .i64 a, .int .i64 b] 29)).drew = x := ⟨_, rfl⟩
       have bP : Blk W2 W0.heap.size 27 #[.string s, .int .i64 side, .int .i64 ck, .int .i64 fl] := by rw [← hW2]; exact ((Blk.new W0 _ _ rfl).alloc _).next (Below.refl _ _).drew
       have bM : Blk W2 (W0.heap.size + 1) 29 #[.int .i64 a, .int .i64 b] := by rw [← hW2]; exact (Blk.new _ _ _ (by simp)).next (Below.refl _ _).drew
       have hB2 : Below w.heap.size w W2 := by rw [← hW2]; exact ((hS0.2.2.2.2.2.2.2.2.alloc hS0.2.2.2.2.2.2.2.2.size _).alloc (by simp; exact Nat.le_succ_of_le hS0.2.2.2.2.2.2.2.2.size) _).drew
       rw [hW2]
       clear hW2 hS hS0 hHeld
       generalize W0.heap.size + 1 = g2 at bM ⊢
       generalize W0.heap.size = g1 at bP ⊢)
    obtain ⟨p0, p1, p2, p3⟩ := vpos_cells bP
    have m0 := bM.cell 0
    have m1 := bM.cell 1
    simp only [List.getElem?_toArray, List.getElem?_cons_zero, List.getElem?_cons_succ] at m0 m1
    go_wp2_with fail
    refine (vof_is s side ck fl v _ (hT.next hB2) HV.out).mono ?_
    rintro e w3 ⟨rfl, hb⟩
    have bP3 := bP.next hb
    have bM3 := bM.next hb
    have hB3 := hB2.trans (hb.mono hB2.size)
    clear hb bP bM hB2 p0 p1 p2 p3 m0 m1
    obtain ⟨p0, p1, p2, p3⟩ := vpos_cells bP3
    have m0 := bM3.cell 0
    have m1 := bM3.cell 1
    simp only [List.getElem?_toArray, List.getElem?_cons_zero, List.getElem?_cons_succ] at m0 m1
    have hS : w3.drew.cell? ⟨g1, 0, none⟩ = some (.string s) ∧ w3.drew.cell? ⟨g1, 1, none⟩ = some (.int .i64 side) ∧ w3.drew.cell? ⟨g1, 2, none⟩ = some (.int .i64 ck) ∧ w3.drew.cell? ⟨g1, 3, none⟩ = some (.int .i64 fl) ∧ w3.drew.cell? ⟨g2, 0, none⟩ = some (.int .i64 a) ∧ w3.drew.cell? ⟨g2, 1, none⟩ = some (.int .i64 b) ∧ Below w.heap.size w w3.drew := ⟨p0, p1, p2, p3, m0, m1, hB3.drew⟩
    go_wp2_with fail
    clear p0 p1 p2 p3 m0 m1 bP3 bM3 hB3
    go_region_held3 (fun W => W.cell? ⟨g1, 0, none⟩ = some (.string s) ∧ W.cell? ⟨g1, 1, none⟩ = some (.int .i64 side) ∧ W.cell? ⟨g1, 2, none⟩ = some (.int .i64 ck) ∧ W.cell? ⟨g1, 3, none⟩ = some (.int .i64 fl) ∧ W.cell? ⟨g2, 0, none⟩ = some (.int .i64 a) ∧ W.cell? ⟨g2, 1, none⟩ = some (.int .i64 b) ∧ Below w.heap.size w W)
      (first | exact hS | with_reducible assumption | exact q6_keep (by assumption) hb)
      (first
        | (go_at_call 15; refine (rof14_is _ _ _ _ v _ HV.out).mono ?_; rintro e w6 ⟨rfl, hb⟩)
        | (go_at_call 16; refine (vmoved_is _ _ _ _ _ u _ HU.out).mono ?_; rintro e w6 ⟨rfl, hb⟩)
        | (go_at_call 17; refine (rmoved14_is _ _ _ _ _ u _ HU.out).mono ?_; rintro e w6 ⟨rfl, hb⟩)
        | (go_at_call 13; refine (live14_any _ (hT.next (q6_below (by assumption)))).mono ?_; rintro e w6 ⟨rfl, hb⟩))
  all_goals go_wp2
  all_goals (go_ret; exact ⟨rfl, q6_below (by assumption)⟩)
theorem walk (s : ByteArray) (side ck fl : Int) (c : Nat) (a b : Int) (t : Nat) (w : World) (hT : Tab w) : Calls Tryd.prog 4 #[.agg #[.string s, .int .i64 side, .int .i64 ck, .int .i64 fl, .int .u8 (c : Int), .int .i64 a, .int .i64 b, .int .u8 (t : Int)]] w (Gives w (.bool true)) := by
  by_cases hs : s.size ≤ 200
  · exact small s side ck fl c a b t w hT hs
  · exact large s side ck fl c a b t w hT (by omega)
end Go.Proofs.YtkejhebicibjlaaDoor.vof
