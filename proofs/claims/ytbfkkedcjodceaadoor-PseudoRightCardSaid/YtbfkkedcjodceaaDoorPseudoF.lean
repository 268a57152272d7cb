/- What is behind a move that a piece can make. -/
import Derived.Test.YtbfkkedcjodceaaDoorPseudoE
namespace Go.Proofs.YtbfkkedcjodceaaDoor
open Go.RowKit Go.Shelf
open M (S)

/-- What a region that moves a piece keeps: the position's and the move's cells; two bytes that may be written. -/
def MvS (w : World) (g h k : Nat) (s : ByteArray) (side clock full : Int) (a b : Nat) (W : World) : Prop :=
  W.cell? ⟨g, 0, none⟩ = some (.string s) ∧ W.cell? ⟨g, 1, none⟩ = some (.int .i64 side) ∧ W.cell? ⟨g, 2, none⟩ = some (.int .i64 clock) ∧ W.cell? ⟨g, 3, none⟩ = some (.int .i64 full) ∧ W.cell? ⟨h, 0, none⟩ = some (.int .i64 (a : Int)) ∧ W.cell? ⟨h, 1, none⟩ = some (.int .i64 (b : Int)) ∧
  W.cell? ⟨k, a, none⟩ = some (cellOf W ⟨k, a, none⟩) ∧ W.cell? ⟨k, b, none⟩ = some (cellOf W ⟨k, b, none⟩) ∧ W.frozen? ⟨k, a, none⟩ = false ∧ W.frozen? ⟨k, b, none⟩ = false ∧ Below w.heap.size w W
theorem mvS_set {w : World} {g h k : Nat} {s : ByteArray} {side clock full : Int} {a b : Nat} {W : World} (hS : MvS w g h k s side clock full a b W) (hg : g ≠ k) (hh : h ≠ k) (hk : w.heap.size ≤ k) (o : Nat) (u : Value) : MvS w g h k s side clock full a b (W.setCell ⟨k, o, none⟩ u) := by
  obtain ⟨h0, h1, h2, h3, h4, h5, h6, h7, h8, h9, h10⟩ := hS
  have far : ∀ (q : Nat) (i : Nat), q ≠ k → (W.setCell ⟨k, o, none⟩ u).cell? ⟨q, i, none⟩ = W.cell? ⟨q, i, none⟩ := fun q i hq => World.cell?_setCell_other _ _ _ _ (by intro e; injection e with e1; exact hq e1.symm)
  exact ⟨(far g 0 hg).trans h0, (far g 1 hg).trans h1, (far g 2 hg).trans h2, (far g 3 hg).trans h3, (far h 0 hh).trans h4, (far h 1 hh).trans h5, cellOf_some (isSome_set (isSome_of h6)), cellOf_some (isSome_set (isSome_of h7)), by simpa using h8, by simpa using h9, h10.setCell (p := ⟨k, o, none⟩) hk u⟩
theorem pblk_four {W : World} {g : Nat} {t : TypeId} {x y z u a b c d : Value} (h : Blk W g t #[x, y, z, u]) : Blk ((((W.setCell ⟨g, 0, none⟩ a).setCell ⟨g, 1, none⟩ b).setCell ⟨g, 2, none⟩ c).setCell ⟨g, 3, none⟩ d) g t #[a, b, c, d] := (((h.set_ 0 a).set_ 1 b).set_ 2 c).set_ 3 d
/-- Results, the first of them a position in memory. -/
theorem pres_pos {fn : Func} {p u : Tmp} (h : fn.results = #[.cell p 23, .tmp u]) (tmps : Array Value) (w : World) {g : Nat} (hp : tmps.getD p undef = .pointer (some ⟨g, 0, none⟩)) {t : TypeId} {a b c d : Value} (hb : Blk w g t #[a, b, c, d]) :
    (results fn tmps).run Tryd.prog w = .ok (.tuple #[.agg #[a, b, c, d], tmps.getD u undef]) w := by
  rw [results_cell_tmp h, hp]
  have h1 := run_loadVar_row (P := Tryd.prog) w g t 23 #[a, b, c, d] (0, 0) _ hb Tryd.underlying23 rfl (by kernel_rfl)
  simp [asAddr, h1, Result.andThen]
theorem mvEnd {w W : World} {g : Nat} {t : TypeId} {x y z u a b c d : Value} (h : Blk W g t #[x, y, z, u]) (hg : w.heap.size ≤ g) (hB : Below w.heap.size w W) : Blk ((((W.setCell ⟨g, 0, none⟩ a).setCell ⟨g, 1, none⟩ b).setCell ⟨g, 2, none⟩ c).setCell ⟨g, 3, none⟩ d) g t #[a, b, c, d] ∧ Below w.heap.size w ((((W.setCell ⟨g, 0, none⟩ a).setCell ⟨g, 1, none⟩ b).setCell ⟨g, 2, none⟩ c).setCell ⟨g, 3, none⟩ d) :=
  ⟨pblk_four h, (((hB.setCell (p := ⟨g, 0, none⟩) hg _).setCell (p := ⟨g, 1, none⟩) hg _).setCell (p := ⟨g, 2, none⟩) hg _).setCell (p := ⟨g, 3, none⟩) hg _⟩
set_option maxRecDepth 100000 in
set_option maxHeartbeats 4000000 in
theorem moved_is (s : ByteArray) (side clock full : Int) (a b c x : Nat) (w : World) (hs : s.size = 90) (ha : a < 90) (hb : b < 90) (hab : a ≠ b) (hside : side = 0 ∨ side = 1) (h0 : 0 ≤ clock) (h1 : clock ≤ 120) (h2 : 1 ≤ full) (h3 : full ≤ 9999) (hc : bAt s a = c) (hx : bAt s b = x) :
    Calls Tryd.prog 56 #[.agg #[.string s, .int .i64 side, .int .i64 clock, .int .i64 full], .agg #[.int .i64 (a : Int), .int .i64 (b : Int)]] w (Gives w (.tuple #[.agg #[.string (movedS s a b c), .int .i64 (1 - side), .int .i64 (clockA s clock b), .int .i64 (fullA side full)], .int .u8 (takenN s b : Nat)])) := by
  unfold Gives
  obtain ⟨W1, hW1⟩ : ∃ W1, ((w.alloc (.cells #[.string s, .int .i64 side, .int .i64 clock, .int .i64 full] 23)).alloc (.cells #[.int .i64 (a : Int), .int .i64 (b : Int)] 30)).alloc (.cells #[.string ⟨#[]⟩, .int .i64 0, .int .i64 0, .int .i64 0] 23) = W1 := ⟨_, rfl⟩
  have hB : Below w.heap.size w W1 := by rw [← hW1]; exact (by repeat (first | exact Below.refl _ _ | (refine Below.setCell ?_ (by first | omega | (simp; done) | (simp; omega) | (simp at *; omega)) _) | (refine Below.alloc ?_ (by first | omega | (simp; done) | (simp; omega) | (simp at *; omega)) _) | refine Below.drew ?_ | (refine below_drewN ?_ _) | (refine Below.trans ?_ (Below.mono (by assumption) (by first | omega | (simp; done) | (simp; omega) | (simp at *; omega))))))
  have bP : Blk W1 w.heap.size 23 #[.string s, .int .i64 side, .int .i64 clock, .int .i64 full] := by rw [← hW1]; exact ((Blk.new _ _ _ rfl).alloc _).alloc _
  have bM : Blk W1 (w.heap.size + 1) 30 #[.int .i64 (a : Int), .int .i64 (b : Int)] := by rw [← hW1]; exact (Blk.new _ _ _ (by simp)).alloc _
  have bR : Blk W1 (w.heap.size + 2) 23 #[.string ⟨#[]⟩, .int .i64 0, .int .i64 0, .int .i64 0] := by rw [← hW1]; exact Blk.new _ _ _ (by simp)
  have hsz : W1.heap.size = w.heap.size + 3 := by rw [← hW1]; simp
  have hk1 : w.heap.size ≠ W1.heap.size := by omega
  have hk2 : w.heap.size + 1 ≠ W1.heap.size := by omega
  have hk3 : w.heap.size ≤ W1.heap.size := by omega
  have hk4 : w.heap.size + 2 ≠ W1.heap.size := by omega
  have HZ := Lib.hid hsz
  clear hsz
  obtain ⟨C, W2, hconv, hcell, hfr, hbel⟩ := bytes_of s W1 hs
  have hbs : b < s.size := by omega
  have hbk : s[b].toNat = x := (bAt_eq s b hbs).trans hx
  have p0 := bP.cell 0
  have m1 := bM.cell 1
  simp only [List.getElem?_toArray, List.getElem?_cons_zero, List.getElem?_cons_succ] at p0 m1
  go_enter Tryd.func56, Tryd.ntmps56
  go_wp2_with fail
  have bP2 := bP.next hbel
  have bM2 := bM.next hbel
  have bR2 := bR.next hbel
  have ca := hcell a ha
  have cb := hcell b hb
  rw [hc] at ca
  have hS : MvS w w.heap.size (w.heap.size + 1) W1.heap.size s side clock full a b W2.drew := ⟨bP2.cell 0, bP2.cell 1, bP2.cell 2, bP2.cell 3, bM2.cell 0, bM2.cell 1, cellOf_some (isSome_of ca), cellOf_some (isSome_of cb), hfr a ha, hfr b hb, (hB.trans (hbel.mono hB.size)).drew⟩
  have hba : b ≠ a := fun e => hab e.symm
  have fa := hfr a ha
  have fb := hfr b hb
  have c2 : (W2.drew.setCell ⟨W1.heap.size, a, none⟩ (.int .u8 46)).cell? ⟨W1.heap.size, b, none⟩ = some (.int .u8 (bAt s b : Nat)) := by rw [World.cell?_setCell_other _ _ _ _ (by intro e; injection e with _ e2; first | exact hab e2 | exact hab e2.symm)]; exact cb
  have f2 : (W2.drew.setCell ⟨W1.heap.size, a, none⟩ (.int .u8 46)).frozen? ⟨W1.heap.size, b, none⟩ = false := by simpa using hfr b hb
  have ha0 : (0 : Int) ≤ (a : Int) := by omega
  have hb0 : (0 : Int) ≤ (b : Int) := by omega
  have ha9 : (a : Int) < 90 := by omega
  have hb9 : (b : Int) < 90 := by omega
  have hcv : cellOf W2.drew ⟨W1.heap.size, a, none⟩ = .int .u8 (c : Int) := by
    unfold cellOf
    rw [show W2.drew.cell? ⟨W1.heap.size, a, none⟩ = some (.int .u8 (c : Int)) from ca]
    rfl
  refine wp_region_held_drew (S := fun W => W.cell? ⟨w.heap.size, 0, none⟩ = some (.string s) ∧ W.cell? ⟨w.heap.size, 1, none⟩ = some (.int .i64 side) ∧ W.cell? ⟨w.heap.size, 2, none⟩ = some (.int .i64 clock) ∧ W.cell? ⟨w.heap.size, 3, none⟩ = some (.int .i64 full) ∧ W.cell? ⟨w.heap.size + 1, 0, none⟩ = some (.int .i64 (a : Int)) ∧ W.cell? ⟨w.heap.size + 1, 1, none⟩ = some (.int .i64 (b : Int)) ∧ W.cell? ⟨W1.heap.size, a, none⟩ = some (cellOf W ⟨W1.heap.size, a, none⟩) ∧ W.cell? ⟨W1.heap.size, b, none⟩ = some (cellOf W ⟨W1.heap.size, b, none⟩) ∧ W.frozen? ⟨W1.heap.size, a, none⟩ = false ∧ W.frozen? ⟨W1.heap.size, b, none⟩ = false ∧ Below w.heap.size w W) (by kernel_rfl) (hS) (fun hHeld => ?_)
  refine wpAnyH_take (i := 0) (oi := { dst := some 17, op := Op.move (Operand.tmp 7), type := 70, pos := "pseudo.go:69", after := #[], guard := none }) (v := ?_) rfl (by kernel_rfl) (by kernel_rfl) (by kernel_rfl) (fun _ _ _ h => h) (Or.inl ⟨by rfl, ?_⟩) (by assumption) ?_
  case refine_2 =>
    intro w hSw
    (try dsimp only at hSw)
    (try go_simp)
    all_goals (with_reducible rfl)
  try simp only [Act.put, List.setIfInBounds_toArray, List.set_cons_zero, List.set_cons_succ]
  refine wpAnyH_take (i := 1) (oi := { dst := some 18, op := Op.fieldAddr 30 (Operand.tmp 3) 0, type := 0, pos := "pseudo.go:69", after := #[], guard := none }) (v := ?_) rfl (by kernel_rfl) (by kernel_rfl) (by kernel_rfl) (fun _ _ _ h => h) (Or.inl ⟨by rfl, ?_⟩) (by assumption) ?_
  case refine_2 =>
    intro w hSw
    (try dsimp only at hSw)
    (try go_simp)
    all_goals (with_reducible rfl)
  try simp only [Act.put, List.setIfInBounds_toArray, List.set_cons_zero, List.set_cons_succ]
  refine wpAnyH_take (i := 2) (oi := { dst := some 19, op := Op.load 3 (Operand.tmp 18), type := 3, pos := "pseudo.go:69", after := #[{ on := 1, ground := Ground.data }], guard := none }) (v := ?_) rfl (by kernel_rfl) (by kernel_rfl) (by kernel_rfl) (fun _ _ _ h => h) (Or.inl ⟨by rfl, ?_⟩) (by assumption) ?_
  case refine_2 =>
    intro w hSw
    (try dsimp only at hSw)
    (try go_simp)
    all_goals (with_reducible rfl)
  try simp only [Act.put, List.setIfInBounds_toArray, List.set_cons_zero, List.set_cons_succ]
  refine wpAnyH_take (i := 3) (oi := { dst := some 20, op := Op.move (Operand.tmp 7), type := 70, pos := "pseudo.go:69", after := #[{ on := 12, ground := Ground.gcOnly Departure.lateStores }], guard := none }) (v := ?_) rfl (by kernel_rfl) (by kernel_rfl) (by kernel_rfl) (fun _ _ _ h => h) (Or.inl ⟨by rfl, ?_⟩) (by assumption) ?_
  case refine_2 =>
    intro w hSw
    (try dsimp only at hSw)
    (try go_simp)
    all_goals (with_reducible rfl)
  try simp only [Act.put, List.setIfInBounds_toArray, List.set_cons_zero, List.set_cons_succ]
  refine wpAnyH_take (i := 4) (oi := { dst := some 21, op := Op.fieldAddr 30 (Operand.tmp 3) 1, type := 0, pos := "pseudo.go:69", after := #[{ on := 12, ground := Ground.gcOnly Departure.lateStores }], guard := none }) (v := ?_) rfl (by kernel_rfl) (by kernel_rfl) (by kernel_rfl) (fun _ _ _ h => h) (Or.inl ⟨by rfl, ?_⟩) (by assumption) ?_
  case refine_2 =>
    intro w hSw
    (try dsimp only at hSw)
    (try go_simp)
    all_goals (with_reducible rfl)
  try simp only [Act.put, List.setIfInBounds_toArray, List.set_cons_zero, List.set_cons_succ]
  refine wpAnyH_take (i := 5) (oi := { dst := some 22, op := Op.load 3 (Operand.tmp 21), type := 3, pos := "pseudo.go:69", after := #[{ on := 4, ground := Ground.data }, { on := 12, ground := Ground.gcOnly Departure.lateStores }], guard := none }) (v := ?_) rfl (by kernel_rfl) (by kernel_rfl) (by kernel_rfl) (fun _ _ _ h => h) (Or.inl ⟨by rfl, ?_⟩) (by assumption) ?_
  case refine_2 =>
    intro w hSw
    (try dsimp only at hSw)
    (try go_simp)
    all_goals (with_reducible rfl)
  try simp only [Act.put, List.setIfInBounds_toArray, List.set_cons_zero, List.set_cons_succ]
  refine wpAnyH_take (i := 6) (oi := { dst := some 23, op := Op.move (Operand.tmp 7), type := 70, pos := "pseudo.go:69", after := #[], guard := none }) (v := ?_) rfl (by kernel_rfl) (by kernel_rfl) (by kernel_rfl) (fun _ _ _ h => h) (Or.inl ⟨by rfl, ?_⟩) (by assumption) ?_
  case refine_2 =>
    intro w hSw
    (try dsimp only at hSw)
    (try go_simp)
    all_goals (with_reducible rfl)
  try simp only [Act.put, List.setIfInBounds_toArray, List.set_cons_zero, List.set_cons_succ]
  refine wpAnyH_take (i := 7) (oi := { dst := some 24, op := Op.fieldAddr 30 (Operand.tmp 3) 0, type := 0, pos := "pseudo.go:69", after := #[], guard := none }) (v := ?_) rfl (by kernel_rfl) (by kernel_rfl) (by kernel_rfl) (fun _ _ _ h => h) (Or.inl ⟨by rfl, ?_⟩) (by assumption) ?_
  case refine_2 =>
    intro w hSw
    (try dsimp only at hSw)
    (try go_simp)
    all_goals (with_reducible rfl)
  try simp only [Act.put, List.setIfInBounds_toArray, List.set_cons_zero, List.set_cons_succ]
  refine wpAnyH_take (i := 8) (oi := { dst := some 25, op := Op.load 3 (Operand.tmp 24), type := 3, pos := "pseudo.go:69", after := #[{ on := 7, ground := Ground.data }], guard := none }) (v := ?_) rfl (by kernel_rfl) (by kernel_rfl) (by kernel_rfl) (fun _ _ _ h => h) (Or.inl ⟨by rfl, ?_⟩) (by assumption) ?_
  case refine_2 =>
    intro w hSw
    (try dsimp only at hSw)
    (try go_simp)
    all_goals (with_reducible rfl)
  try simp only [Act.put, List.setIfInBounds_toArray, List.set_cons_zero, List.set_cons_succ]
  refine wpAnyH_take (i := 9) (oi := { dst := some 26, op := Op.indexAddr 70 (Operand.tmp 23) (Operand.tmp 25), type := 0, pos := "pseudo.go:69", after := #[{ on := 6, ground := Ground.data }, { on := 8, ground := Ground.data }], guard := none }) (v := ?_) rfl (by kernel_rfl) (by kernel_rfl) (by kernel_rfl) (fun _ _ _ h => h) (Or.inl ⟨by rfl, ?_⟩) (by assumption) ?_
  case refine_2 =>
    intro w hSw
    (try dsimp only at hSw)
    (try go_simp)
    all_goals (with_reducible rfl)
  try simp only [Act.put, List.setIfInBounds_toArray, List.set_cons_zero, List.set_cons_succ]
  refine wpAnyH_ready (rs := [10]) (by kernel_rfl) (by simp) (AllReadyH.cons (o := { dst := some 27, op := Op.load 5 (Operand.tmp 26), type := 5, pos := "pseudo.go:69", after := #[{ on := 9, ground := Ground.data }], guard := none }) rfl (fun K hK => ?_) AllReadyH.nil)
  go_simp
  refine hK.out _ _ ?_ (fun hHeld => ?_)
  · exact hHeld
  clear hK K
  try simp only [hcv]
  try simp only [Act.put, List.setIfInBounds_toArray, List.set_cons_zero, List.set_cons_succ]
  refine wpAnyH_take (i := 11) (oi := { dst := some 28, op := Op.indexAddr 70 (Operand.tmp 17) (Operand.tmp 19), type := 0, pos := "pseudo.go:69", after := #[{ on := 0, ground := Ground.data }, { on := 2, ground := Ground.data }, { on := 0, ground := Ground.phase }, { on := 1, ground := Ground.phase }, { on := 2, ground := Ground.phase }, { on := 3, ground := Ground.textOnly Departure.lateStores }, { on := 4, ground := Ground.textOnly Departure.lateStores }, { on := 5, ground := Ground.textOnly Departure.lateStores }, { on := 6, ground := Ground.textOnly Departure.lateStores }, { on := 7, ground := Ground.textOnly Departure.lateStores }, { on := 8, ground := Ground.textOnly Departure.lateStores }, { on := 9, ground := Ground.textOnly Departure.lateStoresUnsure }, { on := 10, ground := Ground.phase }], guard := none }) (v := ?_) rfl (by kernel_rfl) (by kernel_rfl) (by kernel_rfl) (fun _ _ _ h => h) (Or.inl ⟨by rfl, ?_⟩) (by assumption) ?_
  case refine_2 =>
    intro w hSw
    (try dsimp only at hSw)
    (try go_simp)
    all_goals (with_reducible rfl)
  try simp only [Act.put, List.setIfInBounds_toArray, List.set_cons_zero, List.set_cons_succ]
  refine wpAnyH_ready (rs := [12]) (by kernel_rfl) (by simp) (AllReadyH.cons (o := { dst := none, op := Op.store 5 (Operand.tmp 28) (Operand.const (Value.int IntKind.u8 46)), type := 0, pos := "pseudo.go:69", after := #[{ on := 11, ground := Ground.data }, { on := 0, ground := Ground.phase }, { on := 1, ground := Ground.phase }, { on := 2, ground := Ground.phase }, { on := 3, ground := Ground.textOnly Departure.lateStores }, { on := 4, ground := Ground.textOnly Departure.lateStores }, { on := 5, ground := Ground.textOnly Departure.lateStores }, { on := 6, ground := Ground.textOnly Departure.lateStores }, { on := 7, ground := Ground.textOnly Departure.lateStores }, { on := 8, ground := Ground.textOnly Departure.lateStores }, { on := 9, ground := Ground.textOnly Departure.lateStoresUnsure }, { on := 10, ground := Ground.phase }], guard := none }) rfl (fun K hK => ?_) AllReadyH.nil)
  go_simp
  refine hK.out _ _ ?_ (fun hHeld => ?_)
  · exact mvS_set hHeld hk1 hk2 hk3 _ _
  clear hK K
  try simp only [Act.put, List.setIfInBounds_toArray, List.set_cons_zero, List.set_cons_succ]
  refine wpAnyH_take (i := 13) (oi := { dst := some 29, op := Op.indexAddr 70 (Operand.tmp 20) (Operand.tmp 22), type := 0, pos := "pseudo.go:69", after := #[{ on := 3, ground := Ground.data }, { on := 5, ground := Ground.data }, { on := 0, ground := Ground.phase }, { on := 1, ground := Ground.phase }, { on := 2, ground := Ground.phase }, { on := 3, ground := Ground.phase }, { on := 4, ground := Ground.phase }, { on := 5, ground := Ground.phase }, { on := 6, ground := Ground.phase }, { on := 7, ground := Ground.phase }, { on := 8, ground := Ground.phase }, { on := 9, ground := Ground.phase }, { on := 10, ground := Ground.phase }, { on := 11, ground := Ground.phase }, { on := 12, ground := Ground.phase }], guard := none }) (v := ?_) rfl (by kernel_rfl) (by kernel_rfl) (by kernel_rfl) (fun _ _ _ h => h) (Or.inl ⟨by rfl, ?_⟩) (by assumption) ?_
  case refine_2 =>
    intro w hSw
    (try dsimp only at hSw)
    (try go_simp)
    all_goals (with_reducible rfl)
  try simp only [Act.put, List.setIfInBounds_toArray, List.set_cons_zero, List.set_cons_succ]
  refine wpAnyH_ready (rs := [14]) (by kernel_rfl) (by simp) (AllReadyH.cons (o := { dst := none, op := Op.store 5 (Operand.tmp 29) (Operand.tmp 27), type := 0, pos := "pseudo.go:69", after := #[{ on := 13, ground := Ground.data }, { on := 10, ground := Ground.data }, { on := 12, ground := Ground.chain }, { on := 0, ground := Ground.phase }, { on := 1, ground := Ground.phase }, { on := 2, ground := Ground.phase }, { on := 3, ground := Ground.phase }, { on := 4, ground := Ground.phase }, { on := 5, ground := Ground.phase }, { on := 6, ground := Ground.phase }, { on := 7, ground := Ground.phase }, { on := 8, ground := Ground.phase }, { on := 9, ground := Ground.phase }, { on := 10, ground := Ground.phase }, { on := 11, ground := Ground.phase }, { on := 12, ground := Ground.phase }], guard := none }) rfl (fun K hK => ?_) AllReadyH.nil)
  go_simp
  refine hK.out _ _ ?_ (fun hHeld => ?_)
  · exact mvS_set hHeld hk1 hk2 hk3 _ _
  clear hK K
  try simp only [Act.put, List.setIfInBounds_toArray, List.set_cons_zero, List.set_cons_succ]
  refine wpAnyH_done (by kernel_rfl) ?_ _
  obtain ⟨W3, hW3⟩ : ∃ W3, ((W2.setCell ⟨W1.heap.size, a, none⟩ (.int .u8 46)).setCell ⟨W1.heap.size, b, none⟩ (.int .u8 (c : Int))).drew = W3 := ⟨_, rfl⟩
  have hback : (convert 70 9 (.slice (some ⟨W1.heap.size, 0, none⟩) 90 C)).run Tryd.prog W3 = .ok (.string (movedS s a b c)) W3 := by
    have hlen : s.data.toList.length = 90 := by simpa using hs
    have hmv : movedS s a b c = ⟨((s.data.toList.set a (UInt8.ofNat 46)).set b (UInt8.ofNat c)).toArray⟩ := by simp [movedS, putS]
    rw [hmv]
    refine string_of W3 W1.heap.size C _ (by rw [List.length_set, List.length_set]; exact hlen) fun i hi => ?_
    rw [← hW3]
    show World.cell? ((W2.setCell ⟨W1.heap.size, a, none⟩ (.int .u8 46)).setCell ⟨W1.heap.size, b, none⟩ (.int .u8 (c : Int))) _ = _
    have hc256 : c < 256 := by rw [← hc]; exact bAt_lt s a
    by_cases e1 : i = b
    · subst e1
      rw [World.cell?_setCell_same' _ _ _ (by rw [World.cell?_setCell_other _ _ _ _ (by intro e; injection e with _ e2; first | exact hab e2 | exact hab e2.symm), cb]; rfl), List.getElem_set_self, UInt8.toNat_ofNat_of_lt' (by omega)]
    · rw [World.cell?_setCell_other _ _ _ _ (by intro e; injection e with _ e2; exact e1 e2.symm), List.getElem_set_ne (fun e => e1 e.symm)]
      by_cases e2 : i = a
      · subst e2
        rw [World.cell?_setCell_same' _ _ _ (by rw [ca]; rfl), List.getElem_set_self]
        rfl
      · rw [World.cell?_setCell_other _ _ _ _ (by intro e; injection e with _ e3; exact e2 e3.symm), hcell i hi, List.getElem_set_ne (fun e => e2 e.symm), bAt_list]
  have bP3 : Blk W3 w.heap.size 23 #[.string s, .int .i64 side, .int .i64 clock, .int .i64 full] := by rw [← hW3]; exact (bP2.far hk1 _).far hk1 _
  have bR3 : Blk W3 (w.heap.size + 2) 23 #[.string ⟨#[]⟩, .int .i64 0, .int .i64 0, .int .i64 0] := by rw [← hW3]; exact (bR2.far hk4 _).far hk4 _
  have hB3 : Below w.heap.size w W3 := by rw [← hW3]; exact (((hB.trans (hbel.mono hB.size)).setCell (p := ⟨W1.heap.size, a, none⟩) hk3 _).setCell (p := ⟨W1.heap.size, b, none⟩) hk3 _).drew
  obtain ⟨W4, hW4⟩ : ∃ W4, W3.alloc (.cells #[.string (movedS s a b c), .int .i64 0, .int .i64 (min (clock + 1) 120), .int .i64 full] 23) = W4 := ⟨_, rfl⟩
  have bQ4 : Blk W4 W3.heap.size 23 #[.string (movedS s a b c), .int .i64 0, .int .i64 (min (clock + 1) 120), .int .i64 full] := by rw [← hW4]; exact Blk.new _ _ _ rfl
  have bP4 : Blk W4 w.heap.size 23 #[.string s, .int .i64 side, .int .i64 clock, .int .i64 full] := by rw [← hW4]; exact bP3.alloc _
  have bR4 : Blk W4 (w.heap.size + 2) 23 #[.string ⟨#[]⟩, .int .i64 0, .int .i64 0, .int .i64 0] := by rw [← hW4]; exact bR3.alloc _
  have hB4 : Below w.heap.size w W4 := by rw [← hW4]; exact hB3.alloc hB3.size _
  have r2 := bP3.cell 2
  have r3 := bP3.cell 3
  have t1 := bP4.cell 1
  have t3 := bP4.cell 3
  have q0 := bQ4.cell 0
  have q1 := bQ4.cell 1
  have q2 := bQ4.cell 2
  have q3 := bQ4.cell 3
  have f0 := bQ4.frozen 0
  have f1 := bQ4.frozen 1
  have f2' := bQ4.frozen 2
  have f3 := bQ4.frozen 3
  have w0 : W4.cell? ⟨w.heap.size + 1 + 1, 0, none⟩ = some (.string ⟨#[]⟩) := bR4.cell 0
  have w1 : W4.cell? ⟨w.heap.size + 1 + 1, 1, none⟩ = some (.int .i64 0) := bR4.cell 1
  have w2 : W4.cell? ⟨w.heap.size + 1 + 1, 2, none⟩ = some (.int .i64 0) := bR4.cell 2
  have w3 : W4.cell? ⟨w.heap.size + 1 + 1, 3, none⟩ = some (.int .i64 0) := bR4.cell 3
  have e0 : W4.frozen? ⟨w.heap.size + 1 + 1, 0, none⟩ = false := bR4.frozen 0
  have e1 : W4.frozen? ⟨w.heap.size + 1 + 1, 1, none⟩ = false := bR4.frozen 1
  have e2 : W4.frozen? ⟨w.heap.size + 1 + 1, 2, none⟩ = false := bR4.frozen 2
  have e3 : W4.frozen? ⟨w.heap.size + 1 + 1, 3, none⟩ = false := bR4.frozen 3
  have n1 : w.heap.size + 1 + 1 ≠ W3.heap.size := by have := bR3.lt; omega
  have n2 : W3.heap.size ≠ w.heap.size + 1 + 1 := fun e => n1 e.symm
  have n3 : w.heap.size ≠ W3.heap.size := by have := bR3.lt; omega
  have n4h : w.heap.size ≤ W3.heap.size := by have := bR3.lt; omega
  simp only [List.getElem?_toArray, List.getElem?_cons_zero, List.getElem?_cons_succ] at r2 r3 t1 t3 q0 q1 q2 q3
  clear hS ca cb hcell hfr hconv p0 m1 hcv fa fb c2 f2
  have HB4 := Lib.hid hB4
  have HR4 := Lib.hid bR4
  have HP4 := Lib.hid bP4
  have HQ4 := Lib.hid bQ4
  clear hB4 bR4 bP4 bQ4 bP3 bR3 hB3 bP2 bM2 bR2 bP bM bR
  have n4 : w.heap.size ≤ W3.heap.size := n4h
  rcases hside with rfl | rfl
  · by_cases h46 : x = 46
    · subst h46
      go_wp2_with fail
      refine bodyPost_ret (pres_pos rfl _ _ rfl (mvEnd (HR4.out.far (p := ⟨W3.heap.size, 1, none⟩) n1 _) (by omega) (HB4.out.setCell (p := ⟨W3.heap.size, 1, none⟩) n4 _)).1) rfl ⟨?_, (mvEnd (HR4.out.far (p := ⟨W3.heap.size, 1, none⟩) n1 _) (by omega) (HB4.out.setCell (p := ⟨W3.heap.size, 1, none⟩) n4 _)).2⟩
      simp [clockA, fullA, takenN, hx]
    · have hxn : ¬ (x : Int) = 46 := by omega
      go_wp2_with fail
      refine bodyPost_ret (pres_pos rfl _ _ rfl (mvEnd ((HR4.out.far (p := ⟨W3.heap.size, 1, none⟩) n1 _).far (p := ⟨W3.heap.size, 2, none⟩) n1 _) (by omega) ((HB4.out.setCell (p := ⟨W3.heap.size, 1, none⟩) n4 _).setCell (p := ⟨W3.heap.size, 2, none⟩) n4 _)).1) rfl ⟨?_, (mvEnd ((HR4.out.far (p := ⟨W3.heap.size, 1, none⟩) n1 _).far (p := ⟨W3.heap.size, 2, none⟩) n1 _) (by omega) ((HB4.out.setCell (p := ⟨W3.heap.size, 1, none⟩) n4 _).setCell (p := ⟨W3.heap.size, 2, none⟩) n4 _)).2⟩
      simp [clockA, fullA, takenN, hx, h46]
  · by_cases h46 : x = 46
    · subst h46
      go_wp2_with fail
      refine bodyPost_ret (pres_pos rfl _ _ rfl (mvEnd (HR4.out.far (p := ⟨W3.heap.size, 3, none⟩) n1 _) (by omega) (HB4.out.setCell (p := ⟨W3.heap.size, 3, none⟩) n4 _)).1) rfl ⟨?_, (mvEnd (HR4.out.far (p := ⟨W3.heap.size, 3, none⟩) n1 _) (by omega) (HB4.out.setCell (p := ⟨W3.heap.size, 3, none⟩) n4 _)).2⟩
      simp [clockA, fullA, takenN, hx]
    · have hxn : ¬ (x : Int) = 46 := by omega
      go_wp2_with fail
      refine bodyPost_ret (pres_pos rfl _ _ rfl (mvEnd ((HR4.out.far (p := ⟨W3.heap.size, 3, none⟩) n1 _).far (p := ⟨W3.heap.size, 2, none⟩) n1 _) (by omega) ((HB4.out.setCell (p := ⟨W3.heap.size, 3, none⟩) n4 _).setCell (p := ⟨W3.heap.size, 2, none⟩) n4 _)).1) rfl ⟨?_, (mvEnd ((HR4.out.far (p := ⟨W3.heap.size, 3, none⟩) n1 _).far (p := ⟨W3.heap.size, 2, none⟩) n1 _) (by omega) ((HB4.out.setCell (p := ⟨W3.heap.size, 3, none⟩) n4 _).setCell (p := ⟨W3.heap.size, 2, none⟩) n4 _)).2⟩
      simp [clockA, fullA, takenN, hx, h46]
end Go.Proofs.YtbfkkedcjodceaaDoor
