/- A move is made. -/
import Derived.Test.YtelngcfpnbeakaaGreatDoorGameD
namespace Go.Proofs.YtelngcfpnbeakaaGreatDoor
open Go.RowKit Go.Shelf
open M (S)

theorem gmake_nil (a b : Int) (w : World) : Calls Tryz.prog 35 #[.pointer none, .agg #[.int .i64 a, .int .i64 b]] w (Gives w (.int .i64 1)) := by
  unfold Gives
  have hB : Below w.heap.size w (w.alloc (.cells #[.int .i64 a, .int .i64 b] 37)) := (by repeat (first | exact Below.refl _ _ | (refine Below.setCell ?_ (by first | omega | (simp; done) | (simp; omega) | (simp at *; omega)) _) | (refine Below.alloc ?_ (by first | omega | (simp; done) | (simp; omega) | (simp at *; omega)) _) | refine Below.drew ?_ | (refine below_drewN ?_ _) | (refine Below.trans ?_ (Below.mono (by assumption) (by first | omega | (simp; done) | (simp; omega) | (simp at *; omega))))))
  go_enter Tryz.func35, Tryz.ntmps35
  go_wp2
  go_ret
  exact ⟨rfl, hB⟩
set_option maxHeartbeats 2000000 in
theorem gmake_full {n₀ : Nat} {w : World} {g : Nat} {v : Value} {st : List Stp} {now : Po} (h : GAt n₀ w g v st now) (a b : Int) (hl : st.length = 1024) : Calls Tryz.prog 35 #[.pointer (some ⟨g, 0, none⟩), .agg #[.int .i64 a, .int .i64 b]] w (Gives w (.int .i64 8)) := by
  unfold Gives
  obtain ⟨A, c, rfl⟩ := h.slice
  obtain ⟨W0, hW0⟩ : ∃ W0, w.alloc (.cells #[.int .i64 a, .int .i64 b] 37) = W0 := ⟨_, rfl⟩
  have hB : Below w.heap.size w W0 := by rw [← hW0]; exact (by repeat (first | exact Below.refl _ _ | (refine Below.setCell ?_ (by first | omega | (simp; done) | (simp; omega) | (simp at *; omega)) _) | (refine Below.alloc ?_ (by first | omega | (simp; done) | (simp; omega) | (simp at *; omega)) _) | refine Below.drew ?_ | (refine below_drewN ?_ _) | (refine Below.trans ?_ (Below.mono (by assumption) (by first | omega | (simp; done) | (simp; omega) | (simp at *; omega))))))
  have hc := (gcells (h.next hB).blk).1
  rw [hl] at hc
  have HW := Lib.hid hW0
  clear hW0 h hl
  go_enter Tryz.func35, Tryz.ntmps35
  go_wp2_with fail
  rw [HW.out]
  refine (count_is g 1024 _ _ _ hc).mono ?_
  rintro e w1 ⟨rfl, rfl⟩
  go_wp2
  go_ret
  exact ⟨rfl, hB⟩
/-- What is read ahead of the move stays. -/
theorem mk_keep {W0 w : World} {g : Nat} {now : Po} {a b : Int} (h : Below W0.heap.size W0 W0 ∧ W0.cell? ⟨g, 1, none⟩ = some (.string now.s) ∧ W0.cell? ⟨g, 2, none⟩ = some (.int .i64 now.y) ∧ W0.cell? ⟨g, 3, none⟩ = some (.int .i64 now.z) ∧ W0.cell? ⟨g, 4, none⟩ = some (.int .i64 now.u) ∧ W0.cell? ⟨w.heap.size, 0, none⟩ = some (.int .i64 a) ∧ W0.cell? ⟨w.heap.size, 1, none⟩ = some (.int .i64 b) ∧ Tab W0) {W : World} (hb : Below W0.heap.size W0 W) : Below W0.heap.size W0 W ∧ W.cell? ⟨g, 1, none⟩ = some (.string now.s) ∧ W.cell? ⟨g, 2, none⟩ = some (.int .i64 now.y) ∧ W.cell? ⟨g, 3, none⟩ = some (.int .i64 now.z) ∧ W.cell? ⟨g, 4, none⟩ = some (.int .i64 now.u) ∧ W.cell? ⟨w.heap.size, 0, none⟩ = some (.int .i64 a) ∧ W.cell? ⟨w.heap.size, 1, none⟩ = some (.int .i64 b) ∧ Tab W := by
  obtain ⟨_, h1, h2, h3, h4, h5, h6, h7⟩ := h
  exact ⟨hb, (hb.cell (p := ⟨g, 1, none⟩) (cell_lt h1)).trans h1, (hb.cell (p := ⟨g, 2, none⟩) (cell_lt h2)).trans h2, (hb.cell (p := ⟨g, 3, none⟩) (cell_lt h3)).trans h3, (hb.cell (p := ⟨g, 4, none⟩) (cell_lt h4)).trans h4, (hb.cell (p := ⟨w.heap.size, 0, none⟩) (cell_lt h5)).trans h5, (hb.cell (p := ⟨w.heap.size, 1, none⟩) (cell_lt h6)).trans h6, h7.next hb⟩
theorem hid_tab {W0 w : World} {g : Nat} {now : Po} {a b : Int} {W : World} (h : Below W0.heap.size W0 W ∧ W.cell? ⟨g, 1, none⟩ = some (.string now.s) ∧ W.cell? ⟨g, 2, none⟩ = some (.int .i64 now.y) ∧ W.cell? ⟨g, 3, none⟩ = some (.int .i64 now.z) ∧ W.cell? ⟨g, 4, none⟩ = some (.int .i64 now.u) ∧ W.cell? ⟨w.heap.size, 0, none⟩ = some (.int .i64 a) ∧ W.cell? ⟨w.heap.size, 1, none⟩ = some (.int .i64 b) ∧ Tab W) : Tab W := h.2.2.2.2.2.2.2
set_option maxRecDepth 100000 in
set_option maxHeartbeats 8000000 in
theorem gmake_any {n₀ : Nat} {w : World} {g : Nat} {v : Value} {st : List Stp} {now : Po} (h : GAt n₀ w g v st now) (hT : Tab w) (a b : Int) (hl : st.length < 1024) (q : ByteArray) (y z u k : Int) (t : Nat) (ok : Bool)
    (hV : makeV now.s now.y now.z now.u a b = .tuple #[.agg #[.string q, .int .i64 y, .int .i64 z, .int .i64 u], .int .u8 t, .int .i64 k]) (hok : (k == 0) = ok) :
    Calls Tryz.prog 35 #[.pointer (some ⟨g, 0, none⟩), .agg #[.int .i64 a, .int .i64 b]] w fun e w' => if ok then Goes n₀ w g v (st ++ [⟨a, b, now⟩]) ⟨q, y, z, u⟩ (.int .i64 0) e w' else Gives w (.int .i64 7) e w' := by
  obtain ⟨A, c, rfl⟩ := h.slice
  obtain ⟨W0, hW0⟩ : ∃ W0, w.alloc (.cells #[.int .i64 a, .int .i64 b] 37) = W0 := ⟨_, rfl⟩
  have hB : Below w.heap.size w W0 := by rw [← hW0]; exact (by repeat (first | exact Below.refl _ _ | (refine Below.setCell ?_ (by first | omega | (simp; done) | (simp; omega) | (simp at *; omega)) _) | (refine Below.alloc ?_ (by first | omega | (simp; done) | (simp; omega) | (simp at *; omega)) _) | refine Below.drew ?_ | (refine below_drewN ?_ _) | (refine Below.trans ?_ (Below.mono (by assumption) (by first | omega | (simp; done) | (simp; omega) | (simp at *; omega))))))
  have bM : Blk W0 w.heap.size 37 #[.int .i64 a, .int .i64 b] := by rw [← hW0]; exact Blk.new _ _ _ rfl
  have hW0s : w.heap.size < W0.heap.size := bM.lt
  have h0 := h.next hB
  obtain ⟨n, hn⟩ : ∃ n, st.length = n := ⟨_, rfl⟩
  have hc := (gcells h0.blk).1
  rw [hn] at hc
  have hlt : decide (1024 ≤ (n : Int)) = false := by simp; omega
  obtain ⟨_, g1, g2, g3, g4⟩ := gcells h0.blk
  have hS0 : Below W0.heap.size W0 W0 ∧ W0.cell? ⟨g, 1, none⟩ = some (.string now.s) ∧ W0.cell? ⟨g, 2, none⟩ = some (.int .i64 now.y) ∧ W0.cell? ⟨g, 3, none⟩ = some (.int .i64 now.z) ∧ W0.cell? ⟨g, 4, none⟩ = some (.int .i64 now.u) ∧ W0.cell? ⟨w.heap.size, 0, none⟩ = some (.int .i64 a) ∧ W0.cell? ⟨w.heap.size, 1, none⟩ = some (.int .i64 b) ∧ Tab W0 := ⟨Below.refl _ _, g1, g2, g3, g4, bM.cell 0, bM.cell 1, hT.next hB⟩
  have hS1 : Below W0.heap.size W0 W0.drew ∧ W0.drew.cell? ⟨g, 1, none⟩ = some (.string now.s) ∧ W0.drew.cell? ⟨g, 2, none⟩ = some (.int .i64 now.y) ∧ W0.drew.cell? ⟨g, 3, none⟩ = some (.int .i64 now.z) ∧ W0.drew.cell? ⟨g, 4, none⟩ = some (.int .i64 now.u) ∧ W0.drew.cell? ⟨w.heap.size, 0, none⟩ = some (.int .i64 a) ∧ W0.drew.cell? ⟨w.heap.size, 1, none⟩ = some (.int .i64 b) ∧ Tab W0.drew := mk_keep hS0 (Below.refl _ _).drew
  have HMK : Hid (∀ W, Tab W → Calls Tryz.prog 51 #[.agg #[.string now.s, .int .i64 now.y, .int .i64 now.z, .int .i64 now.u], .agg #[.int .i64 a, .int .i64 b]] W (Gives W (.tuple #[.agg #[.string q, .int .i64 y, .int .i64 z, .int .i64 u], .int .u8 t, .int .i64 k]))) := fun W hW => make_is now.s now.y now.z now.u a b _ W hW hV
  have HBZ : Hid (Blk (W0.alloc (.cells #[.string ⟨#[]⟩, .int .i64 0, .int .i64 0, .int .i64 0] 23)).drew W0.heap.size 23 #[.string ⟨#[]⟩, .int .i64 0, .int .i64 0, .int .i64 0]) := (Blk.new W0 23 #[.string ⟨#[]⟩, .int .i64 0, .int .i64 0, .int .i64 0] rfl).next (Below.refl _ _).drew
  have HW := Lib.hid hW0
  have HN := Lib.hid hn
  have HOK := Lib.hid hok
  clear hW0 hn hV hok g1 g2 g3 g4
  go_enter Tryz.func35, Tryz.ntmps35
  go_wp2_with fail
  rw [HW.out]
  refine (count_is g _ _ _ _ hc).mono ?_
  rintro e w1 ⟨rfl, rfl⟩
  clear hc
  go_wp2_with fail
  refine wp_region_held_drew (S := fun W => Below W0.heap.size W0 W ∧ W.cell? ⟨g, 1, none⟩ = some (.string now.s) ∧ W.cell? ⟨g, 2, none⟩ = some (.int .i64 now.y) ∧ W.cell? ⟨g, 3, none⟩ = some (.int .i64 now.z) ∧ W.cell? ⟨g, 4, none⟩ = some (.int .i64 now.u) ∧ W.cell? ⟨w.heap.size, 0, none⟩ = some (.int .i64 a) ∧ W.cell? ⟨w.heap.size, 1, none⟩ = some (.int .i64 b) ∧ Tab W) (by kernel_rfl) (hS1) (fun hHeld => ?_)
  refine wpAnyH_take (i := 0) (oi := { dst := some 18, op := Op.move (Operand.tmp 0), type := 40, pos := "game.go:35", after := #[], guard := none }) (v := ?_) rfl (by kernel_rfl) (by kernel_rfl) (by kernel_rfl) (fun _ _ _ h => h) (Or.inl ⟨by rfl, ?_⟩) (by assumption) ?_
  case refine_2 =>
    intro w hSw
    (try dsimp only at hSw)
    (try go_simp)
    all_goals (with_reducible rfl)
  try simp only [Act.put, List.setIfInBounds_toArray, List.set_cons_zero, List.set_cons_succ]
  refine wpAnyH_take (i := 1) (oi := { dst := some 19, op := Op.nilCheck (Operand.tmp 18), type := 0, pos := "game.go:35", after := #[{ on := 0, ground := Ground.data }], guard := none }) (v := ?_) rfl (by kernel_rfl) (by kernel_rfl) (by kernel_rfl) (fun _ _ _ h => h) (Or.inl ⟨by rfl, ?_⟩) (by assumption) ?_
  case refine_2 =>
    intro w hSw
    (try dsimp only at hSw)
    (try go_simp)
    all_goals (with_reducible rfl)
  try simp only [Act.put, List.setIfInBounds_toArray, List.set_cons_zero, List.set_cons_succ]
  refine wpAnyH_take (i := 2) (oi := { dst := some 20, op := Op.fieldAddr 63 (Operand.tmp 19) 1, type := 0, pos := "game.go:35", after := #[{ on := 1, ground := Ground.data }], guard := none }) (v := ?_) rfl (by kernel_rfl) (by kernel_rfl) (by kernel_rfl) (fun _ _ _ h => h) (Or.inl ⟨by rfl, ?_⟩) (by assumption) ?_
  case refine_2 =>
    intro w hSw
    (try dsimp only at hSw)
    (try go_simp)
    all_goals (with_reducible rfl)
  try simp only [Act.put, List.setIfInBounds_toArray, List.set_cons_zero, List.set_cons_succ]
  refine wpAnyH_take (i := 3) (oi := { dst := some 21, op := Op.load 23 (Operand.tmp 20), type := 23, pos := "game.go:35", after := #[{ on := 2, ground := Ground.data }], guard := none }) (v := ?_) rfl (by kernel_rfl) (by kernel_rfl) (by kernel_rfl) (fun _ _ _ h => h) (Or.inl ⟨by rfl, ?_⟩) (by assumption) ?_
  case refine_2 =>
    intro w hSw
    (try dsimp only at hSw)
    (try go_simp)
    all_goals (with_reducible rfl)
  try simp only [Act.put, List.setIfInBounds_toArray, List.set_cons_zero, List.set_cons_succ]
  refine wpAnyH_take (i := 4) (oi := { dst := some 22, op := Op.load 37 (Operand.tmp 3), type := 37, pos := "game.go:35", after := #[], guard := none }) (v := ?_) rfl (by kernel_rfl) (by kernel_rfl) (by kernel_rfl) (fun _ _ _ h => h) (Or.inl ⟨by rfl, ?_⟩) (by assumption) ?_
  case refine_2 =>
    intro w hSw
    (try dsimp only at hSw)
    (try go_simp)
    all_goals (with_reducible rfl)
  try simp only [Act.put, List.setIfInBounds_toArray, List.set_cons_zero, List.set_cons_succ]
  refine wpAnyH_ready (rs := [5, 10]) (by kernel_rfl) (by simp) (AllReadyH.cons (o := { dst := some 23, op := Op.call { callee := Callee.value (Operand.func 51), args := #[Operand.tmp 21, Operand.tmp 22], argTypes := #[23, 37] }, type := 79, pos := "game.go:35", after := #[{ on := 3, ground := Ground.data }, { on := 4, ground := Ground.data }], guard := none }) rfl (fun K hK => ?rd1) (AllReadyH.cons (o := { dst := some 5, op := Op.alloc 23, type := 0, pos := "game.go:35", after := #[], guard := none }) rfl (fun K hK => ?rd2) AllReadyH.nil))
  case' rd1 =>
    go_simp
    refine (HMK.out _ (by first | exact hid_tab hHeld | exact hid_tab hS1)).mono ?_; rintro e w3 ⟨rfl, hb⟩; (try (have bz := HBZ.out.next hb; obtain ⟨z0, z1, z2, z3⟩ := ppos_cells bz; obtain ⟨f0, f1, f2, f3⟩ := ppos_frozen bz))
    refine hK.out _ _ ?_ (fun hHeld => ?_)
    · first | exact mk_keep hS0 (hHeld.1.trans (hb.mono hHeld.1.size)) | exact mk_keep hS0 (hS1.1.trans (hb.mono hS1.1.size))
    clear hK K
    refine wpAnyH_take (i := 6) (oi := { dst := some 17, op := Op.move (Operand.tmp 23), type := 79, pos := "game.go:35", after := #[{ on := 5, ground := Ground.data }], guard := none }) (v := ?_) rfl (by kernel_rfl) (by kernel_rfl) (by kernel_rfl) (fun _ _ _ h => h) (Or.inl ⟨by rfl, ?_⟩) (by assumption) ?_
    case refine_2 =>
      intro w hSw
      (try dsimp only at hSw)
      (try go_simp)
      all_goals (with_reducible rfl)
    try simp only [Act.put, List.setIfInBounds_toArray, List.set_cons_zero, List.set_cons_succ]
    refine wpAnyH_take (i := 7) (oi := { dst := some 24, op := Op.extract (Operand.tmp 17) 0, type := 23, pos := "game.go:35", after := #[{ on := 6, ground := Ground.data }], guard := none }) (v := ?_) rfl (by kernel_rfl) (by kernel_rfl) (by kernel_rfl) (fun _ _ _ h => h) (Or.inl ⟨by rfl, ?_⟩) (by assumption) ?_
    case refine_2 =>
      intro w hSw
      (try dsimp only at hSw)
      (try go_simp)
      all_goals (with_reducible rfl)
    try simp only [Act.put, List.setIfInBounds_toArray, List.set_cons_zero, List.set_cons_succ]
    refine wpAnyH_take (i := 8) (oi := { dst := some 25, op := Op.extract (Operand.tmp 17) 1, type := 5, pos := "game.go:35", after := #[{ on := 6, ground := Ground.data }, { on := 11, ground := Ground.gcOnly Departure.lateStores }], guard := none }) (v := ?_) rfl (by kernel_rfl) (by kernel_rfl) (by kernel_rfl) (fun _ _ _ h => h) (Or.inl ⟨by rfl, ?_⟩) (by assumption) ?_
    case refine_2 =>
      intro w hSw
      (try dsimp only at hSw)
      (try go_simp)
      all_goals (with_reducible rfl)
    try simp only [Act.put, List.setIfInBounds_toArray, List.set_cons_zero, List.set_cons_succ]
    refine wpAnyH_take (i := 9) (oi := { dst := some 26, op := Op.extract (Operand.tmp 17) 2, type := 26, pos := "game.go:35", after := #[{ on := 6, ground := Ground.data }, { on := 12, ground := Ground.gcOnly Departure.lateStores }], guard := none }) (v := ?_) rfl (by kernel_rfl) (by kernel_rfl) (by kernel_rfl) (fun _ _ _ h => h) (Or.inl ⟨by rfl, ?_⟩) (by assumption) ?_
    case refine_2 =>
      intro w hSw
      (try dsimp only at hSw)
      (try go_simp)
      all_goals (with_reducible rfl)
    try simp only [Act.put, List.setIfInBounds_toArray, List.set_cons_zero, List.set_cons_succ]
    refine wpAnyH_ready (rs := [10]) (by kernel_rfl) (by simp) (AllReadyH.cons (o := { dst := some 5, op := Op.alloc 23, type := 0, pos := "game.go:35", after := #[], guard := none }) rfl (fun K hK => ?_) AllReadyH.nil)
    go_simp
    refine hK.out _ _ ?_ (fun hHeld => ?_)
    · first | exact mk_keep hS0 (((Below.refl _ W0).alloc (Nat.le_refl _) _).drew) | exact mk_keep hS0 (hHeld.1.alloc hHeld.1.size _)
    clear hK K
    try simp only [Act.put, List.setIfInBounds_toArray, List.set_cons_zero, List.set_cons_succ]
    refine wpAnyH_ready (rs := [11]) (by kernel_rfl) (by simp) (AllReadyH.cons (o := { dst := none, op := Op.store 23 (Operand.tmp 5) (Operand.tmp 24), type := 0, pos := "game.go:35", after := #[{ on := 10, ground := Ground.data }, { on := 7, ground := Ground.data }, { on := 5, ground := Ground.chain }, { on := 0, ground := Ground.phase }, { on := 1, ground := Ground.phase }, { on := 2, ground := Ground.phase }, { on := 3, ground := Ground.phase }, { on := 4, ground := Ground.phase }, { on := 5, ground := Ground.phase }, { on := 6, ground := Ground.phase }, { on := 7, ground := Ground.phase }, { on := 8, ground := Ground.textOnly Departure.lateStores }, { on := 9, ground := Ground.textOnly Departure.lateStores }, { on := 10, ground := Ground.phase }], guard := none }) rfl (fun K hK => ?_) AllReadyH.nil)
    go_simp
    refine hK.out _ _ ?_ (fun hHeld => ?_)
    · first | exact mk_keep hS0 ((((hHeld.1.setCell (p := ⟨W0.heap.size, 0, none⟩) (Nat.le_refl _) _).setCell (p := ⟨W0.heap.size, 1, none⟩) (Nat.le_refl _) _).setCell (p := ⟨W0.heap.size, 2, none⟩) (Nat.le_refl _) _).setCell (p := ⟨W0.heap.size, 3, none⟩) (Nat.le_refl _) _) | exact mk_keep hS0 ((hS1.1.trans (hb.mono hS1.1.size)).alloc (hS1.1.trans (hb.mono hS1.1.size)).size _)
    clear hK K
    try simp only [Act.put, List.setIfInBounds_toArray, List.set_cons_zero, List.set_cons_succ]
    refine wpAnyH_take (i := 12) (oi := { dst := some 6, op := Op.assign (Operand.tmp 25), type := 5, pos := "game.go:35", after := #[{ on := 8, ground := Ground.data }, { on := 11, ground := Ground.chain }, { on := 0, ground := Ground.phase }, { on := 1, ground := Ground.phase }, { on := 2, ground := Ground.phase }, { on := 3, ground := Ground.phase }, { on := 4, ground := Ground.phase }, { on := 5, ground := Ground.phase }, { on := 6, ground := Ground.phase }, { on := 7, ground := Ground.phase }, { on := 8, ground := Ground.phase }, { on := 9, ground := Ground.textOnly Departure.lateStores }, { on := 10, ground := Ground.phase }, { on := 11, ground := Ground.phase }], guard := none }) (v := ?_) rfl (by kernel_rfl) (by kernel_rfl) (by kernel_rfl) (fun _ _ _ h => h) (Or.inl ⟨by rfl, ?_⟩) (by assumption) ?_
    case refine_2 =>
      intro w hSw
      (try dsimp only at hSw)
      (try go_simp)
      all_goals (with_reducible rfl)
    try simp only [Act.put, List.setIfInBounds_toArray, List.set_cons_zero, List.set_cons_succ]
    refine wpAnyH_take (i := 13) (oi := { dst := some 7, op := Op.assign (Operand.tmp 26), type := 26, pos := "game.go:35", after := #[{ on := 9, ground := Ground.data }, { on := 12, ground := Ground.chain }, { on := 0, ground := Ground.phase }, { on := 1, ground := Ground.phase }, { on := 2, ground := Ground.phase }, { on := 3, ground := Ground.phase }, { on := 4, ground := Ground.phase }, { on := 5, ground := Ground.phase }, { on := 6, ground := Ground.phase }, { on := 7, ground := Ground.phase }, { on := 8, ground := Ground.phase }, { on := 9, ground := Ground.phase }, { on := 10, ground := Ground.phase }, { on := 11, ground := Ground.phase }, { on := 12, ground := Ground.phase }], guard := none }) (v := ?_) rfl (by kernel_rfl) (by kernel_rfl) (by kernel_rfl) (fun _ _ _ h => h) (Or.inl ⟨by rfl, ?_⟩) (by assumption) ?_
    case refine_2 =>
      intro w hSw
      (try dsimp only at hSw)
      (try go_simp)
      all_goals (with_reducible rfl)
    try simp only [Act.put, List.setIfInBounds_toArray, List.set_cons_zero, List.set_cons_succ]
    refine wpAnyH_done (by kernel_rfl) ?_ _
  case' rd2 =>
    go_simp
    refine hK.out _ _ ?_ (fun hHeld => ?_)
    · first | exact mk_keep hS0 (((Below.refl _ W0).alloc (Nat.le_refl _) _).drew) | exact mk_keep hS0 (hHeld.1.alloc hHeld.1.size _)
    clear hK K
    try simp only [Act.put, List.setIfInBounds_toArray, List.set_cons_zero, List.set_cons_succ]
    refine wpAnyH_ready (rs := [5]) (by kernel_rfl) (by simp) (AllReadyH.cons (o := { dst := some 23, op := Op.call { callee := Callee.value (Operand.func 51), args := #[Operand.tmp 21, Operand.tmp 22], argTypes := #[23, 37] }, type := 79, pos := "game.go:35", after := #[{ on := 3, ground := Ground.data }, { on := 4, ground := Ground.data }], guard := none }) rfl (fun K hK => ?_) AllReadyH.nil)
    go_simp
    refine (HMK.out _ (by first | exact hid_tab hHeld | exact hid_tab hS1)).mono ?_; rintro e w3 ⟨rfl, hb⟩; (try (have bz := HBZ.out.next hb; obtain ⟨z0, z1, z2, z3⟩ := ppos_cells bz; obtain ⟨f0, f1, f2, f3⟩ := ppos_frozen bz))
    refine hK.out _ _ ?_ (fun hHeld => ?_)
    · first | exact mk_keep hS0 (hHeld.1.trans (hb.mono hHeld.1.size)) | exact mk_keep hS0 (hS1.1.trans (hb.mono hS1.1.size))
    clear hK K
    refine wpAnyH_take (i := 6) (oi := { dst := some 17, op := Op.move (Operand.tmp 23), type := 79, pos := "game.go:35", after := #[{ on := 5, ground := Ground.data }], guard := none }) (v := ?_) rfl (by kernel_rfl) (by kernel_rfl) (by kernel_rfl) (fun _ _ _ h => h) (Or.inl ⟨by rfl, ?_⟩) (by assumption) ?_
    case refine_2 =>
      intro w hSw
      (try dsimp only at hSw)
      (try go_simp)
      all_goals (with_reducible rfl)
    try simp only [Act.put, List.setIfInBounds_toArray, List.set_cons_zero, List.set_cons_succ]
    refine wpAnyH_take (i := 7) (oi := { dst := some 24, op := Op.extract (Operand.tmp 17) 0, type := 23, pos := "game.go:35", after := #[{ on := 6, ground := Ground.data }], guard := none }) (v := ?_) rfl (by kernel_rfl) (by kernel_rfl) (by kernel_rfl) (fun _ _ _ h => h) (Or.inl ⟨by rfl, ?_⟩) (by assumption) ?_
    case refine_2 =>
      intro w hSw
      (try dsimp only at hSw)
      (try go_simp)
      all_goals (with_reducible rfl)
    try simp only [Act.put, List.setIfInBounds_toArray, List.set_cons_zero, List.set_cons_succ]
    refine wpAnyH_take (i := 8) (oi := { dst := some 25, op := Op.extract (Operand.tmp 17) 1, type := 5, pos := "game.go:35", after := #[{ on := 6, ground := Ground.data }, { on := 11, ground := Ground.gcOnly Departure.lateStores }], guard := none }) (v := ?_) rfl (by kernel_rfl) (by kernel_rfl) (by kernel_rfl) (fun _ _ _ h => h) (Or.inl ⟨by rfl, ?_⟩) (by assumption) ?_
    case refine_2 =>
      intro w hSw
      (try dsimp only at hSw)
      (try go_simp)
      all_goals (with_reducible rfl)
    try simp only [Act.put, List.setIfInBounds_toArray, List.set_cons_zero, List.set_cons_succ]
    refine wpAnyH_take (i := 9) (oi := { dst := some 26, op := Op.extract (Operand.tmp 17) 2, type := 26, pos := "game.go:35", after := #[{ on := 6, ground := Ground.data }, { on := 12, ground := Ground.gcOnly Departure.lateStores }], guard := none }) (v := ?_) rfl (by kernel_rfl) (by kernel_rfl) (by kernel_rfl) (fun _ _ _ h => h) (Or.inl ⟨by rfl, ?_⟩) (by assumption) ?_
    case refine_2 =>
      intro w hSw
      (try dsimp only at hSw)
      (try go_simp)
      all_goals (with_reducible rfl)
    try simp only [Act.put, List.setIfInBounds_toArray, List.set_cons_zero, List.set_cons_succ]
    refine wpAnyH_ready (rs := [11]) (by kernel_rfl) (by simp) (AllReadyH.cons (o := { dst := none, op := Op.store 23 (Operand.tmp 5) (Operand.tmp 24), type := 0, pos := "game.go:35", after := #[{ on := 10, ground := Ground.data }, { on := 7, ground := Ground.data }, { on := 5, ground := Ground.chain }, { on := 0, ground := Ground.phase }, { on := 1, ground := Ground.phase }, { on := 2, ground := Ground.phase }, { on := 3, ground := Ground.phase }, { on := 4, ground := Ground.phase }, { on := 5, ground := Ground.phase }, { on := 6, ground := Ground.phase }, { on := 7, ground := Ground.phase }, { on := 8, ground := Ground.textOnly Departure.lateStores }, { on := 9, ground := Ground.textOnly Departure.lateStores }, { on := 10, ground := Ground.phase }], guard := none }) rfl (fun K hK => ?_) AllReadyH.nil)
    go_simp
    refine hK.out _ _ ?_ (fun hHeld => ?_)
    · first | exact mk_keep hS0 ((((hHeld.1.setCell (p := ⟨W0.heap.size, 0, none⟩) (Nat.le_refl _) _).setCell (p := ⟨W0.heap.size, 1, none⟩) (Nat.le_refl _) _).setCell (p := ⟨W0.heap.size, 2, none⟩) (Nat.le_refl _) _).setCell (p := ⟨W0.heap.size, 3, none⟩) (Nat.le_refl _) _) | exact mk_keep hS0 ((hS1.1.trans (hb.mono hS1.1.size)).alloc (hS1.1.trans (hb.mono hS1.1.size)).size _)
    clear hK K
    try simp only [Act.put, List.setIfInBounds_toArray, List.set_cons_zero, List.set_cons_succ]
    refine wpAnyH_take (i := 12) (oi := { dst := some 6, op := Op.assign (Operand.tmp 25), type := 5, pos := "game.go:35", after := #[{ on := 8, ground := Ground.data }, { on := 11, ground := Ground.chain }, { on := 0, ground := Ground.phase }, { on := 1, ground := Ground.phase }, { on := 2, ground := Ground.phase }, { on := 3, ground := Ground.phase }, { on := 4, ground := Ground.phase }, { on := 5, ground := Ground.phase }, { on := 6, ground := Ground.phase }, { on := 7, ground := Ground.phase }, { on := 8, ground := Ground.phase }, { on := 9, ground := Ground.textOnly Departure.lateStores }, { on := 10, ground := Ground.phase }, { on := 11, ground := Ground.phase }], guard := none }) (v := ?_) rfl (by kernel_rfl) (by kernel_rfl) (by kernel_rfl) (fun _ _ _ h => h) (Or.inl ⟨by rfl, ?_⟩) (by assumption) ?_
    case refine_2 =>
      intro w hSw
      (try dsimp only at hSw)
      (try go_simp)
      all_goals (with_reducible rfl)
    try simp only [Act.put, List.setIfInBounds_toArray, List.set_cons_zero, List.set_cons_succ]
    refine wpAnyH_take (i := 13) (oi := { dst := some 7, op := Op.assign (Operand.tmp 26), type := 26, pos := "game.go:35", after := #[{ on := 9, ground := Ground.data }, { on := 12, ground := Ground.chain }, { on := 0, ground := Ground.phase }, { on := 1, ground := Ground.phase }, { on := 2, ground := Ground.phase }, { on := 3, ground := Ground.phase }, { on := 4, ground := Ground.phase }, { on := 5, ground := Ground.phase }, { on := 6, ground := Ground.phase }, { on := 7, ground := Ground.phase }, { on := 8, ground := Ground.phase }, { on := 9, ground := Ground.phase }, { on := 10, ground := Ground.phase }, { on := 11, ground := Ground.phase }, { on := 12, ground := Ground.phase }], guard := none }) (v := ?_) rfl (by kernel_rfl) (by kernel_rfl) (by kernel_rfl) (fun _ _ _ h => h) (Or.inl ⟨by rfl, ?_⟩) (by assumption) ?_
    case refine_2 =>
      intro w hSw
      (try dsimp only at hSw)
      (try go_simp)
      all_goals (with_reducible rfl)
    try simp only [Act.put, List.setIfInBounds_toArray, List.set_cons_zero, List.set_cons_succ]
    refine wpAnyH_done (by kernel_rfl) ?_ _
  all_goals
    first
    | (obtain ⟨W4, hW4⟩ : ∃ x, ((((w3.setCell ⟨W0.heap.size, 0, none⟩ (.string q)).setCell ⟨W0.heap.size, 1, none⟩ (.int .i64 y)).setCell ⟨W0.heap.size, 2, none⟩ (.int .i64 z)).setCell ⟨W0.heap.size, 3, none⟩ (.int .i64 u)) = x := ⟨_, rfl⟩
       have bQ : Blk W4 W0.heap.size 23 #[.string q, .int .i64 y, .int .i64 z, .int .i64 u] := by rw [← hW4]; exact (((bz.set_ 0 (.string q)).set_ 1 (.int .i64 y)).set_ 2 (.int .i64 z)).set_ 3 (.int .i64 u)
       have hgq : w.heap.size < W0.heap.size := hW0s
       have hb4 : Below W0.heap.size W0 W4 := by rw [← hW4]; exact hHeld.1
       rw [hW4]
       clear hW4 bz z0 z1 z2 z3 f0 f1 f2 f3
       generalize W0.heap.size = gq at bQ hgq ⊢)
    | (obtain ⟨W4, hW4⟩ : ∃ x, w3.alloc (.cells #[.string q, .int .i64 y, .int .i64 z, .int .i64 u] 23) = x := ⟨_, rfl⟩
       have bQ : Blk W4 w3.heap.size 23 #[.string q, .int .i64 y, .int .i64 z, .int .i64 u] := by rw [← hW4]; exact Blk.new _ _ _ rfl
       have hgq : w.heap.size < w3.heap.size := Nat.lt_of_lt_of_le hW0s (hS1.1.trans (hb.mono hS1.1.size)).size
       have hb4 : Below W0.heap.size W0 W4 := by rw [← hW4]; exact hHeld.1
       rw [hW4]
       clear hW4
       generalize w3.heap.size = gq at bQ hgq ⊢)
    clear hHeld hb hS1 HBZ
    have hB4 := hB.trans (hb4.mono hB.size)
    have hSd := mk_keep hS0 (hb4.drew)
    have h4 := (h0.next hb4).next (Below.refl _ _).drew
    have bQd := bQ.next (Below.refl W4.heap.size W4).drew
    cases ok
    · have e0 : (k != 0) = true := by have := HOK.out; rw [beq_eq_false_iff_ne] at this; rw [bne_iff_ne]; exact this
      clear h4 bQd bQ
      go_wp2_with fail
      go_ret
      exact ⟨rfl, hB4⟩
    · have hk : k = 0 := by have := HOK.out; rwa [beq_iff_eq] at this
      subst hk
      obtain ⟨_, g1, g2, g3, g4, m0, m1, _⟩ := hSd
      clear bQ hb4
      go_wp2_with fail
      go_region_with (go_at_call 52; refine (push_is h4 a b now (by omega)).mono ?_; rintro e w5 ⟨⟨r, rfl⟩, v5, h5, ho5, hf5⟩)
      all_goals
        have hgl := h.lt
        have hgw := h.le
        have hno : ¬ OfG g (.slice A st.length c) gq := by
          rintro (e | e)
          · omega
          · have := (h.own e).2; omega
        have bQ5 := hf5.blk bQd hno
        have hf0 : Far (OfG g (.slice A st.length c)) w w5 := ((Far.of hB4).trans (Far.of (Below.refl W4.heap.size W4).drew)).trans hf5
        have hs4 : w.heap.size ≤ W4.drew.heap.size := hB4.size
        have ho : ∀ k, v5.ownBlock = some k → (Value.slice A st.length c).ownBlock = some k ∨ w.heap.size ≤ k := fun k e => (ho5 k e).imp id (fun h => Nat.le_trans hs4 h)
        obtain ⟨n0, n1, n2, n3⟩ := ppos_cells bQ5
        obtain ⟨c0, c1, c2, c3, c4⟩ := gcells h5.blk
        obtain ⟨f0, f1, f2, f3, f4, _⟩ := gfrozen h5.blk
        obtain ⟨W6, hW6⟩ : ∃ W6, ((((w5.setCell ⟨g, 1, none⟩ (.string q)).setCell ⟨g, 2, none⟩ (.int .i64 y)).setCell ⟨g, 3, none⟩ (.int .i64 z)).setCell ⟨g, 4, none⟩ (.int .i64 u)) = W6 := ⟨_, rfl⟩
        have b6 : Blk W6 g 63 #[v5, .string q, .int .i64 y, .int .i64 z, .int .i64 u] := by rw [← hW6]; exact (((h5.blk.set_ 1 (.string q)).set_ 2 (.int .i64 y)).set_ 3 (.int .i64 z)).set_ 4 (.int .i64 u)
        have hf6 : Far (OfG g (.slice A st.length c)) w W6 := by rw [← hW6]; exact (((hf0.trans (Far.set (p := ⟨g, 1, none⟩) (Or.inl rfl) _)).trans (Far.set (p := ⟨g, 2, none⟩) (Or.inl rfl) _)).trans (Far.set (p := ⟨g, 3, none⟩) (Or.inl rfl) _)).trans (Far.set (p := ⟨g, 4, none⟩) (Or.inl rfl) _)
        have hr6 : W6.ownsRow n₀ 83 6 v5 (st ++ [Stp.mk a b now]).length (stepsL (st ++ [Stp.mk a b now])) := by
          refine row_next h5.row (fun k _ e => ?_)
          have hk : k ≠ g := by have := (h5.own e).1; omega
          rw [← hW6, Below.heap_setCell _ _ _ _ hk, Below.heap_setCell _ _ _ _ hk, Below.heap_setCell _ _ _ _ hk, Below.heap_setCell _ _ _ _ hk]
        have HEND := Lib.hid (And.intro b6 (And.intro hr6 (And.intro hf6 ho)))
        clear g1 g2 g3 g4 m0 m1 b6 hr6 hf6 ho ho5 hf0 hf5 h5 bQ5 bQd h4 hS0 HOK
        go_wp2_with fail
        go_ret
        obtain ⟨b6, hr6, hf6, ho⟩ := HEND.out
        exact ⟨rfl, v5, ⟨b6, hr6, hgl, Nat.le_trans hgw hf6.size⟩, ho, hf6⟩
end Go.Proofs.YtelngcfpnbeakaaGreatDoor
