/- The document's own examples of layer 9 hold. -/
import Derived.Test.YtdpaiolppccinaaGreatDoorGameE
namespace Go.Proofs.YtdpaiolppccinaaGreatDoor
open Go.RowKit Go.Shelf
open M (S)

theorem GAt.new {w : World} {g : Nat} {p : Po} (h : Blk w g 57 #[.slice none 0 0, .string p.s, .int .i64 p.y, .int .i64 p.z, .int .i64 p.u]) : GAt w.heap.size w g (.slice none 0 0) [] p := ⟨h, World.ownsRow_nil _ _ _ _, h.lt, Nat.le_refl _⟩
theorem OfG.low {g : Nat} {v : Value} {n₀ : Nat} {w : World} {st : List Stp} {now : Po} (h : GAt n₀ w g v st now) {B : Nat} (hg : B ≤ g) (hn : B ≤ n₀) (k : Nat) (hk : OfG g v k) : B ≤ k := by
  rcases hk with rfl | e
  · exact hg
  · exact Nat.le_trans hn (h.own e).1
theorem live9_well : wellN startS 0 0 1 = 0 := by decide +kernel
theorem live9_none : wellN ⟨#[]⟩ 0 0 0 = 1 := by decide +kernel
theorem live9_make : ∃ q : ByteArray, makeV startS 0 0 1 19 82 = .tuple #[.agg #[.string q, .int .i64 1, .int .i64 0, .int .i64 1], .int .u8 (110 : Nat), .int .i64 0] ∧ isV q 1 0 1 19 82 = false := by
  have h1 : isM startS 0 19 82 = true := by decide +kernel
  have h2 : kindN (bAt startS 82) ≠ 75 := by decide +kernel
  have h3 : leavesI startS 0 0 1 19 82 = true := by decide +kernel
  have h4 : bAt startS 82 = 110 := by decide +kernel
  have h5 : bAt startS 19 = 67 := by decide +kernel
  refine ⟨movedS startS 19 82 67, ?_, by decide +kernel⟩
  unfold makeV
  rw [if_pos live9_well, if_pos h3, apply_good_value (well_check live9_well) ⟨h1, h2⟩]
  simp only [show (82 : Int).toNat = 82 from rfl, show (19 : Int).toNat = 19 from rfl, clockA, fullA, takenN, h4, h5]
  rfl
theorem live9_pieces : (piecesL startS 0).length = 16 := by decide +kernel
theorem fin_keep {qb n₀ g : Nat} {v9 : Value} {st : ByteArray} {w W W' : World} (h : W.cell? ⟨qb, 1, none⟩ = some (.int .i64 1) ∧ W.cell? ⟨w.heap.size, 0, none⟩ = some (.string st) ∧ W.cell? ⟨w.heap.size, 1, none⟩ = some (.int .i64 0) ∧ W.cell? ⟨w.heap.size, 2, none⟩ = some (.int .i64 0) ∧ W.cell? ⟨w.heap.size, 3, none⟩ = some (.int .i64 1) ∧ GAt n₀ W g v9 [] ⟨st, 0, 0, 1⟩ ∧ Tab W ∧ Below w.heap.size w W) (hb : Below W.heap.size W W') : W'.cell? ⟨qb, 1, none⟩ = some (.int .i64 1) ∧ W'.cell? ⟨w.heap.size, 0, none⟩ = some (.string st) ∧ W'.cell? ⟨w.heap.size, 1, none⟩ = some (.int .i64 0) ∧ W'.cell? ⟨w.heap.size, 2, none⟩ = some (.int .i64 0) ∧ W'.cell? ⟨w.heap.size, 3, none⟩ = some (.int .i64 1) ∧ GAt n₀ W' g v9 [] ⟨st, 0, 0, 1⟩ ∧ Tab W' ∧ Below w.heap.size w W' := by
  obtain ⟨h0, h1, h2, h3, h4, h5, h6, h7⟩ := h
  exact ⟨(hb.cell (p := ⟨qb, 1, none⟩) (cell_lt h0)).trans h0, (hb.cell (p := ⟨w.heap.size, 0, none⟩) (cell_lt h1)).trans h1, (hb.cell (p := ⟨w.heap.size, 1, none⟩) (cell_lt h2)).trans h2, (hb.cell (p := ⟨w.heap.size, 2, none⟩) (cell_lt h3)).trans h3, (hb.cell (p := ⟨w.heap.size, 3, none⟩) (cell_lt h4)).trans h4, h5.next hb, h6.next hb, h7.trans (hb.mono h7.size)⟩
theorem fin_below {qb n₀ g : Nat} {v9 : Value} {st : ByteArray} {w W : World} (h : W.cell? ⟨qb, 1, none⟩ = some (.int .i64 1) ∧ W.cell? ⟨w.heap.size, 0, none⟩ = some (.string st) ∧ W.cell? ⟨w.heap.size, 1, none⟩ = some (.int .i64 0) ∧ W.cell? ⟨w.heap.size, 2, none⟩ = some (.int .i64 0) ∧ W.cell? ⟨w.heap.size, 3, none⟩ = some (.int .i64 1) ∧ GAt n₀ W g v9 [] ⟨st, 0, 0, 1⟩ ∧ Tab W ∧ Below w.heap.size w W) : Below w.heap.size w W := h.2.2.2.2.2.2.2
theorem fin_pos {qb n₀ g : Nat} {v9 : Value} {st : ByteArray} {w W : World} (h : W.cell? ⟨qb, 1, none⟩ = some (.int .i64 1) ∧ W.cell? ⟨w.heap.size, 0, none⟩ = some (.string st) ∧ W.cell? ⟨w.heap.size, 1, none⟩ = some (.int .i64 0) ∧ W.cell? ⟨w.heap.size, 2, none⟩ = some (.int .i64 0) ∧ W.cell? ⟨w.heap.size, 3, none⟩ = some (.int .i64 1) ∧ GAt n₀ W g v9 [] ⟨st, 0, 0, 1⟩ ∧ Tab W ∧ Below w.heap.size w W) : Calls Tryz.prog 12 #[.pointer (some ⟨g, 0, none⟩)] W (Gives W (.agg #[.string st, .int .i64 0, .int .i64 0, .int .i64 1])) := position_is h.2.2.2.2.2.1
theorem fin_past {qb n₀ g : Nat} {v9 : Value} {st : ByteArray} {w W : World} (h : W.cell? ⟨qb, 1, none⟩ = some (.int .i64 1) ∧ W.cell? ⟨w.heap.size, 0, none⟩ = some (.string st) ∧ W.cell? ⟨w.heap.size, 1, none⟩ = some (.int .i64 0) ∧ W.cell? ⟨w.heap.size, 2, none⟩ = some (.int .i64 0) ∧ W.cell? ⟨w.heap.size, 3, none⟩ = some (.int .i64 1) ∧ GAt n₀ W g v9 [] ⟨st, 0, 0, 1⟩ ∧ Tab W ∧ Below w.heap.size w W) : Calls Tryz.prog 15 #[.pointer (some ⟨g, 0, none⟩)] W fun e w' => ∃ A c, e = .returned (.slice A 0 c) ∧ Below W.heap.size W w' := past_none h.2.2.2.2.2.1
theorem fin_pieces {qb n₀ g : Nat} {v9 : Value} {st : ByteArray} {w W : World} (h : W.cell? ⟨qb, 1, none⟩ = some (.int .i64 1) ∧ W.cell? ⟨w.heap.size, 0, none⟩ = some (.string st) ∧ W.cell? ⟨w.heap.size, 1, none⟩ = some (.int .i64 0) ∧ W.cell? ⟨w.heap.size, 2, none⟩ = some (.int .i64 0) ∧ W.cell? ⟨w.heap.size, 3, none⟩ = some (.int .i64 1) ∧ GAt n₀ W g v9 [] ⟨st, 0, 0, 1⟩ ∧ Tab W ∧ Below w.heap.size w W) (hn : (piecesL st 0).length = 16) : Calls Tryz.prog 17 #[.pointer (some ⟨g, 0, none⟩), .int .i64 0] W (GivesN W (piecesL st 0) 16) := gpieces_is h.2.2.2.2.2.1 h.2.2.2.2.2.2.1 0 16 hn
set_option maxRecDepth 100000 in
set_option maxHeartbeats 8000000 in
theorem live9_any (w : World) (hT : Tab w) : Calls Tryz.prog 4 #[] w (Gives w (.bool true)) := by
  unfold Gives
  have hW := live9_well
  have hP := live9_pieces
  obtain ⟨q, hq, hi⟩ := live9_make
  obtain ⟨q2, y2, z2, u2, t2, k2, hV2, hk2⟩ := makeV_parts q 1 0 1 19 82
  rw [hi] at hk2
  go_enter Tryz.func4, Tryz.ntmps4
  go_wp2_with fail
  have hlit : (⟨#[82, 78, 66, 65, 75, 65, 66, 78, 82, 46, 46, 46, 46, 46, 46, 46, 46, 46, 46, 67, 46, 46, 46, 46, 46, 67, 46, 80, 46, 80, 46, 80, 46, 80, 46, 80, 46, 46, 46, 46, 46, 46, 46, 46, 46, 46, 46, 46, 46, 46, 46, 46, 46, 46, 112, 46, 112, 46, 112, 46, 112, 46, 112, 46, 99, 46, 46, 46, 46, 46, 99, 46, 46, 46, 46, 46, 46, 46, 46, 46, 46, 114, 110, 98, 97, 107, 97, 98, 110, 114]⟩ : ByteArray) = startS := rfl
  simp only [hlit]
  clear hlit
  generalize startS = st at hW hP hq ⊢
  have HW := Lib.hid hW
  have HP := Lib.hid hP
  have HQ := Lib.hid hq
  have HQ2 := Lib.hid hV2
  have HK2 := Lib.hid hk2
  clear hW hP hq hi hV2 hk2
  have hBr := Below.refl w.heap.size w
  obtain ⟨V0, hV0⟩ : ∃ x, w.alloc (.cells #[.string st, .int .i64 0, .int .i64 0, .int .i64 1] 23) = x := ⟨_, rfl⟩
  have hB0 : Below w.heap.size w V0 := by rw [← hV0]; exact (by repeat (first | exact Below.refl _ _ | (refine Below.setCell ?_ (by first | omega | (simp; done) | (simp; omega) | (simp at *; omega)) _) | (refine Below.alloc ?_ (by first | omega | (simp; done) | (simp; omega) | (simp at *; omega)) _) | refine Below.drew ?_ | (refine below_drewN ?_ _) | (refine Below.trans ?_ (Below.mono (by assumption) (by first | omega | (simp; done) | (simp; omega) | (simp at *; omega))))))
  have bP : Blk V0 w.heap.size 23 #[.string st, .int .i64 0, .int .i64 0, .int .i64 1] := by rw [← hV0]; exact Blk.new _ _ _ rfl
  have hs0 : w.heap.size < V0.heap.size := bP.lt
  rw [hV0]
  clear hV0
  refine (new_is st 0 0 1 _ (hT.next hB0) HW.out).mono ?_
  rintro e w1 ⟨g, rfl, hg, bG, hb⟩
  have hB1 := hB0.trans (hb.mono hB0.size)
  have hgw : w.heap.size < g := Nat.lt_of_lt_of_le hs0 hg
  have bP1 := bP.next hb
  obtain ⟨p0, p1, p2, p3⟩ := ppos_cells bP1
  clear hb hB0 bP
  go_wp2_with fail
  refine (new_bad ⟨#[]⟩ 0 0 0 1 _ (hT.next hB1) live9_none rfl).mono ?_
  rintro e w2 ⟨rfl, hb⟩
  have hB2 := hB1.trans (hb.mono hB1.size)
  have bP2 := bP1.next hb
  have bG2 := bG.next hb
  have h2 := GAt.new (p := ⟨st, 0, 0, 1⟩) bG2
  clear hb hB1 bP1 bG p0 p1 p2 p3
  obtain ⟨V3, hV3⟩ : ∃ x, w2.alloc (.cells #[.int .i64 19, .int .i64 82] 34) = x := ⟨_, rfl⟩
  have hb3 : Below w2.heap.size w2 V3 := by rw [← hV3]; exact (by repeat (first | exact Below.refl _ _ | (refine Below.setCell ?_ (by first | omega | (simp; done) | (simp; omega) | (simp at *; omega)) _) | (refine Below.alloc ?_ (by first | omega | (simp; done) | (simp; omega) | (simp at *; omega)) _) | refine Below.drew ?_ | (refine below_drewN ?_ _) | (refine Below.trans ?_ (Below.mono (by assumption) (by first | omega | (simp; done) | (simp; omega) | (simp at *; omega))))))
  have bM : Blk V3 w2.heap.size 34 #[.int .i64 19, .int .i64 82] := by rw [← hV3]; exact Blk.new _ _ _ rfl
  have h3 := h2.next hb3
  have hB3 := hB2.trans (hb3.mono hB2.size)
  have bP3 := bP2.next hb3
  have m0 : V3.cell? ⟨w2.heap.size, 0, none⟩ = some (.int .i64 19) := bM.cell 0
  have m1 : V3.cell? ⟨w2.heap.size, 1, none⟩ = some (.int .i64 82) := bM.cell 1
  go_wp2_with fail
  have hgn := h3.lt
  refine (gmake_any h3 (hT.next hB3) 19 82 (by decide) q 1 0 1 0 110 true HQ.out rfl).mono ?_
  rintro e w4 hgo
  rw [if_pos rfl] at hgo
  obtain ⟨rfl, v4, h4, ho4, hf4⟩ := hgo
  have hB4 : Below w.heap.size w w4 := hB3.trans (hf4.below (OfG.low h3 (Nat.le_of_lt hgw) hB2.size) hB3.size)
  have hno1 : ¬ OfG g (.slice none 0 0) w.heap.size := by
    rintro (e | e)
    · omega
    · cases e
  have hno2 : ¬ OfG g (.slice none 0 0) w2.heap.size := by
    rintro (e | e)
    · omega
    · cases e
  have bP4 := hf4.blk bP3 hno1
  have bM4 := hf4.blk bM hno2
  have hw24 : w2.heap.size < w4.heap.size := bM4.lt
  have ho4' : ∀ k, v4.ownBlock = some k → V3.heap.size ≤ k ∧ k < w4.heap.size := fun k e => ⟨(ho4 k e).resolve_left (fun e => by cases e), (h4.own e).2⟩
  have hs3 : w2.heap.size < V3.heap.size := bM.lt
  have hw2 : w.heap.size < w2.heap.size := bP2.lt
  clear hf4 ho4 h3 hno1 hno2 bP3 bM hB3 m0 m1 hV3 hb3 bP2 bG2 h2
  have hpos : Calls Tryz.prog 12 #[.pointer (some ⟨g, 0, none⟩)] w4 (Gives w4 (.agg #[.string q, .int .i64 1, .int .i64 0, .int .i64 1])) := position_is h4
  go_wp2_with fail
  refine hpos.mono ?_
  rintro e w5 ⟨rfl, hb5⟩
  clear hpos
  obtain ⟨V6, hV6⟩ : ∃ x, w5.alloc (.cells #[.string q, .int .i64 1, .int .i64 0, .int .i64 1] 23) = x := ⟨_, rfl⟩
  have hb6 : Below w5.heap.size w5 V6 := by rw [← hV6]; exact (by repeat (first | exact Below.refl _ _ | (refine Below.setCell ?_ (by first | omega | (simp; done) | (simp; omega) | (simp at *; omega)) _) | (refine Below.alloc ?_ (by first | omega | (simp; done) | (simp; omega) | (simp at *; omega)) _) | refine Below.drew ?_ | (refine below_drewN ?_ _) | (refine Below.trans ?_ (Below.mono (by assumption) (by first | omega | (simp; done) | (simp; omega) | (simp at *; omega))))))
  have bQ : Blk V6 w5.heap.size 23 #[.string q, .int .i64 1, .int .i64 0, .int .i64 1] := by rw [← hV6]; exact Blk.new _ _ _ rfl
  have h6 := (h4.next hb5).next hb6
  have bP6 := (bP4.next hb5).next hb6
  have bM6 := (bM4.next hb5).next hb6
  have hB6 := (hB4.trans (hb5.mono hB4.size)).trans (hb6.mono (hB4.trans (hb5.mono hB4.size)).size)
  have hs5 := hb5.size
  have m0 : V6.cell? ⟨w2.heap.size, 0, none⟩ = some (.int .i64 19) := bM6.cell 0
  have m1 : V6.cell? ⟨w2.heap.size, 1, none⟩ = some (.int .i64 82) := bM6.cell 1
  clear h4 bP4 bM4 hB4 hb5 hb6
  go_wp2_with fail
  refine (gmake_any h6 (hT.next hB6) 19 82 (by simp) q2 y2 z2 u2 k2 t2 false HQ2.out HK2.out).mono ?_
  rintro e w7 hgo
  rw [if_neg (by decide)] at hgo
  obtain ⟨rfl, hb⟩ := hgo
  have h7 := h6.next hb
  have bP7 := bP6.next hb
  have bQ7 := bQ.next hb
  have hB7 := hB6.trans (hb.mono hB6.size)
  have hs7 : w5.heap.size < w7.heap.size := bQ7.lt
  clear h6 bP6 bM6 bQ hB6 hb m0 m1 hV6
  go_wp2_with fail
  refine (plies_is h7 1 rfl).mono ?_
  rintro e w7' ⟨rfl, rfl⟩
  go_wp2_with fail
  refine (unmake_is (st := []) (x := ⟨19, 82, ⟨st, 0, 0, 1⟩⟩) h7 (by decide)).mono ?_
  rintro e w9 ⟨rfl, v9, h9, ho9, hf9⟩
  have hnP : ¬ OfG g v4 w.heap.size := by
    rintro (e | e)
    · omega
    · have := (ho4' _ e).1; omega
  have hnQ : ¬ OfG g v4 w5.heap.size := by
    rintro (e | e)
    · omega
    · have := (ho4' _ e).2; omega
  have bP9 := hf9.blk bP7 hnP
  have bQ9 := hf9.blk bQ7 hnQ
  have hB9 : Below w.heap.size w w9 := hB7.trans (hf9.below (OfG.low h7 (Nat.le_of_lt hgw) (Nat.le_of_lt hw2)) hB7.size)
  clear h7 bP7 bQ7 hB7 hf9 ho9 hnP hnQ
  go_wp2_with fail
  refine (unmake_end h9).mono ?_
  rintro e w10 ⟨rfl, hb⟩
  have h10 := h9.next hb
  have bP10 := bP9.next hb
  have bQ10 := bQ9.next hb
  have hB10 := hB9.trans (hb.mono hB9.size)
  have hS : w10.drew.cell? ⟨w5.heap.size, 1, none⟩ = some (.int .i64 1) ∧ w10.drew.cell? ⟨w.heap.size, 0, none⟩ = some (.string st) ∧ w10.drew.cell? ⟨w.heap.size, 1, none⟩ = some (.int .i64 0) ∧ w10.drew.cell? ⟨w.heap.size, 2, none⟩ = some (.int .i64 0) ∧ w10.drew.cell? ⟨w.heap.size, 3, none⟩ = some (.int .i64 1) ∧ GAt w2.heap.size w10.drew g v9 [] ⟨st, 0, 0, 1⟩ ∧ Tab w10.drew ∧ Below w.heap.size w w10.drew := ⟨bQ10.cell 1, bP10.cell 0, bP10.cell 1, bP10.cell 2, bP10.cell 3, h10.next (Below.refl _ _).drew, hT.next hB10.drew, hB10.drew⟩
  clear h9 bP9 bQ9 hB9 hb h10 bP10 bQ10 hB10
  go_wp2_with fail
  refine wp_region_held_drew (S := fun W => W.cell? ⟨w5.heap.size, 1, none⟩ = some (.int .i64 1) ∧ W.cell? ⟨w.heap.size, 0, none⟩ = some (.string st) ∧ W.cell? ⟨w.heap.size, 1, none⟩ = some (.int .i64 0) ∧ W.cell? ⟨w.heap.size, 2, none⟩ = some (.int .i64 0) ∧ W.cell? ⟨w.heap.size, 3, none⟩ = some (.int .i64 1) ∧ GAt w2.heap.size W g v9 [] ⟨st, 0, 0, 1⟩ ∧ Tab W ∧ Below w.heap.size w W) (by kernel_rfl) (hS) (fun hHeld => ?_)
  refine wpAnyH_take (i := 0) (oi := { dst := some 49, op := Op.move (Operand.tmp 7), type := 27, pos := "law.go:30", after := #[], guard := none }) (v := ?_) rfl (by kernel_rfl) (by kernel_rfl) (by kernel_rfl) (fun _ _ _ h => h) (Or.inl ⟨by rfl, ?_⟩) (by assumption) ?_
  case refine_2 =>
    intro w hSw
    (try dsimp only at hSw)
    (try go_simp)
    all_goals (with_reducible rfl)
  try simp only [Act.put, List.setIfInBounds_toArray, List.set_cons_zero, List.set_cons_succ]
  refine wpAnyH_take (i := 1) (oi := { dst := some 50, op := Op.binOp BinOp.eql 27 (Operand.tmp 49) (Operand.const (Value.int IntKind.i64 0)) 27, type := 4, pos := "law.go:30", after := #[{ on := 0, ground := Ground.data }], guard := none }) (v := ?_) rfl (by kernel_rfl) (by kernel_rfl) (by kernel_rfl) (fun _ _ _ h => h) (Or.inl ⟨by rfl, ?_⟩) (by assumption) ?_
  case refine_2 =>
    intro w hSw
    (try dsimp only at hSw)
    (try go_simp)
    all_goals (with_reducible rfl)
  try simp only [Act.put, List.setIfInBounds_toArray, List.set_cons_zero, List.set_cons_succ]
  refine wpAnyH_take (i := 2) (oi := { dst := some 51, op := Op.move (Operand.tmp 50), type := 4, pos := "law.go:30", after := #[{ on := 1, ground := Ground.data }], guard := none }) (v := ?_) rfl (by kernel_rfl) (by kernel_rfl) (by kernel_rfl) (fun _ _ _ h => h) (Or.inl ⟨by rfl, ?_⟩) (by assumption) ?_
  case refine_2 =>
    intro w hSw
    (try dsimp only at hSw)
    (try go_simp)
    all_goals (with_reducible rfl)
  try simp only [Act.put, List.setIfInBounds_toArray, List.set_cons_zero, List.set_cons_succ]
  refine wpAnyH_take (i := 3) (oi := { dst := some 52, op := Op.fieldAddr 23 (Operand.tmp 8) 1, type := 0, pos := "law.go:30", after := #[{ on := 2, ground := Ground.guard }], guard := some (2, true) }) (v := ?_) rfl (by kernel_rfl) (by kernel_rfl) (by kernel_rfl) (fun _ _ _ h => h) (Or.inl ⟨by rfl, ?_⟩) (by assumption) ?_
  case refine_2 =>
    intro w hSw
    (try dsimp only at hSw)
    (try go_simp)
    all_goals (with_reducible rfl)
  try simp only [Act.put, List.setIfInBounds_toArray, List.set_cons_zero, List.set_cons_succ]
  refine wpAnyH_take (i := 4) (oi := { dst := some 53, op := Op.load 3 (Operand.tmp 52), type := 3, pos := "law.go:30", after := #[{ on := 3, ground := Ground.data }, { on := 2, ground := Ground.guard }], guard := some (2, true) }) (v := ?_) rfl (by kernel_rfl) (by kernel_rfl) (by kernel_rfl) (fun _ _ _ h => h) (Or.inl ⟨by rfl, ?_⟩) (by assumption) ?_
  case refine_2 =>
    intro w hSw
    (try dsimp only at hSw)
    (try go_simp)
    all_goals (with_reducible rfl)
  try simp only [Act.put, List.setIfInBounds_toArray, List.set_cons_zero, List.set_cons_succ]
  refine wpAnyH_take (i := 5) (oi := { dst := some 54, op := Op.binOp BinOp.eql 3 (Operand.tmp 53) (Operand.const (Value.int IntKind.i64 1)) 3, type := 4, pos := "law.go:30", after := #[{ on := 4, ground := Ground.data }, { on := 2, ground := Ground.guard }], guard := some (2, true) }) (v := ?_) rfl (by kernel_rfl) (by kernel_rfl) (by kernel_rfl) (fun _ _ _ h => h) (Or.inl ⟨by rfl, ?_⟩) (by assumption) ?_
  case refine_2 =>
    intro w hSw
    (try dsimp only at hSw)
    (try go_simp)
    all_goals (with_reducible rfl)
  try simp only [Act.put, List.setIfInBounds_toArray, List.set_cons_zero, List.set_cons_succ]
  refine wpAnyH_take (i := 6) (oi := { dst := some 55, op := Op.pick (Operand.tmp 51) (Operand.tmp 54) (Operand.const (Value.bool false)), type := 4, pos := "law.go:30", after := #[{ on := 2, ground := Ground.data }, { on := 5, ground := Ground.data }], guard := none }) (v := ?_) rfl (by kernel_rfl) (by kernel_rfl) (by kernel_rfl) (fun _ _ _ h => h) (Or.inl ⟨by rfl, ?_⟩) (by assumption) ?_
  case refine_2 =>
    intro w hSw
    (try dsimp only at hSw)
    (try go_simp)
    all_goals (with_reducible rfl)
  try simp only [Act.put, List.setIfInBounds_toArray, List.set_cons_zero, List.set_cons_succ]
  refine wpAnyH_take (i := 7) (oi := { dst := some 56, op := Op.move (Operand.tmp 55), type := 4, pos := "law.go:30", after := #[{ on := 6, ground := Ground.data }, { on := 2, ground := Ground.chain }], guard := none }) (v := ?_) rfl (by kernel_rfl) (by kernel_rfl) (by kernel_rfl) (fun _ _ _ h => h) (Or.inl ⟨by rfl, ?_⟩) (by assumption) ?_
  case refine_2 =>
    intro w hSw
    (try dsimp only at hSw)
    (try go_simp)
    all_goals (with_reducible rfl)
  try simp only [Act.put, List.setIfInBounds_toArray, List.set_cons_zero, List.set_cons_succ]
  refine wpAnyH_take (i := 8) (oi := { dst := some 57, op := Op.move (Operand.tmp 9), type := 27, pos := "law.go:30", after := #[{ on := 7, ground := Ground.guard }], guard := some (7, true) }) (v := ?_) rfl (by kernel_rfl) (by kernel_rfl) (by kernel_rfl) (fun _ _ _ h => h) (Or.inl ⟨by rfl, ?_⟩) (by assumption) ?_
  case refine_2 =>
    intro w hSw
    (try dsimp only at hSw)
    (try go_simp)
    all_goals (with_reducible rfl)
  try simp only [Act.put, List.setIfInBounds_toArray, List.set_cons_zero, List.set_cons_succ]
  refine wpAnyH_take (i := 9) (oi := { dst := some 58, op := Op.binOp BinOp.eql 27 (Operand.tmp 57) (Operand.const (Value.int IntKind.i64 7)) 27, type := 4, pos := "law.go:30", after := #[{ on := 8, ground := Ground.data }, { on := 7, ground := Ground.guard }], guard := some (7, true) }) (v := ?_) rfl (by kernel_rfl) (by kernel_rfl) (by kernel_rfl) (fun _ _ _ h => h) (Or.inl ⟨by rfl, ?_⟩) (by assumption) ?_
  case refine_2 =>
    intro w hSw
    (try dsimp only at hSw)
    (try go_simp)
    all_goals (with_reducible rfl)
  try simp only [Act.put, List.setIfInBounds_toArray, List.set_cons_zero, List.set_cons_succ]
  refine wpAnyH_take (i := 10) (oi := { dst := some 59, op := Op.pick (Operand.tmp 56) (Operand.tmp 58) (Operand.const (Value.bool false)), type := 4, pos := "law.go:30", after := #[{ on := 7, ground := Ground.data }, { on := 9, ground := Ground.data }], guard := none }) (v := ?_) rfl (by kernel_rfl) (by kernel_rfl) (by kernel_rfl) (fun _ _ _ h => h) (Or.inl ⟨by rfl, ?_⟩) (by assumption) ?_
  case refine_2 =>
    intro w hSw
    (try dsimp only at hSw)
    (try go_simp)
    all_goals (with_reducible rfl)
  try simp only [Act.put, List.setIfInBounds_toArray, List.set_cons_zero, List.set_cons_succ]
  refine wpAnyH_take (i := 11) (oi := { dst := some 60, op := Op.move (Operand.tmp 59), type := 4, pos := "law.go:30", after := #[{ on := 10, ground := Ground.data }, { on := 7, ground := Ground.chain }], guard := none }) (v := ?_) rfl (by kernel_rfl) (by kernel_rfl) (by kernel_rfl) (fun _ _ _ h => h) (Or.inl ⟨by rfl, ?_⟩) (by assumption) ?_
  case refine_2 =>
    intro w hSw
    (try dsimp only at hSw)
    (try go_simp)
    all_goals (with_reducible rfl)
  try simp only [Act.put, List.setIfInBounds_toArray, List.set_cons_zero, List.set_cons_succ]
  refine wpAnyH_take (i := 12) (oi := { dst := some 61, op := Op.move (Operand.tmp 10), type := 3, pos := "law.go:30", after := #[{ on := 11, ground := Ground.guard }], guard := some (11, true) }) (v := ?_) rfl (by kernel_rfl) (by kernel_rfl) (by kernel_rfl) (fun _ _ _ h => h) (Or.inl ⟨by rfl, ?_⟩) (by assumption) ?_
  case refine_2 =>
    intro w hSw
    (try dsimp only at hSw)
    (try go_simp)
    all_goals (with_reducible rfl)
  try simp only [Act.put, List.setIfInBounds_toArray, List.set_cons_zero, List.set_cons_succ]
  refine wpAnyH_take (i := 13) (oi := { dst := some 62, op := Op.binOp BinOp.eql 3 (Operand.tmp 61) (Operand.const (Value.int IntKind.i64 1)) 3, type := 4, pos := "law.go:30", after := #[{ on := 12, ground := Ground.data }, { on := 11, ground := Ground.guard }], guard := some (11, true) }) (v := ?_) rfl (by kernel_rfl) (by kernel_rfl) (by kernel_rfl) (fun _ _ _ h => h) (Or.inl ⟨by rfl, ?_⟩) (by assumption) ?_
  case refine_2 =>
    intro w hSw
    (try dsimp only at hSw)
    (try go_simp)
    all_goals (with_reducible rfl)
  try simp only [Act.put, List.setIfInBounds_toArray, List.set_cons_zero, List.set_cons_succ]
  refine wpAnyH_take (i := 14) (oi := { dst := some 63, op := Op.pick (Operand.tmp 60) (Operand.tmp 62) (Operand.const (Value.bool false)), type := 4, pos := "law.go:30", after := #[{ on := 11, ground := Ground.data }, { on := 13, ground := Ground.data }], guard := none }) (v := ?_) rfl (by kernel_rfl) (by kernel_rfl) (by kernel_rfl) (fun _ _ _ h => h) (Or.inl ⟨by rfl, ?_⟩) (by assumption) ?_
  case refine_2 =>
    intro w hSw
    (try dsimp only at hSw)
    (try go_simp)
    all_goals (with_reducible rfl)
  try simp only [Act.put, List.setIfInBounds_toArray, List.set_cons_zero, List.set_cons_succ]
  refine wpAnyH_take (i := 15) (oi := { dst := some 64, op := Op.move (Operand.tmp 63), type := 4, pos := "law.go:30", after := #[{ on := 14, ground := Ground.data }, { on := 11, ground := Ground.chain }], guard := none }) (v := ?_) rfl (by kernel_rfl) (by kernel_rfl) (by kernel_rfl) (fun _ _ _ h => h) (Or.inl ⟨by rfl, ?_⟩) (by assumption) ?_
  case refine_2 =>
    intro w hSw
    (try dsimp only at hSw)
    (try go_simp)
    all_goals (with_reducible rfl)
  try simp only [Act.put, List.setIfInBounds_toArray, List.set_cons_zero, List.set_cons_succ]
  refine wpAnyH_take (i := 16) (oi := { dst := some 65, op := Op.move (Operand.tmp 11), type := 27, pos := "law.go:30", after := #[{ on := 15, ground := Ground.guard }], guard := some (15, true) }) (v := ?_) rfl (by kernel_rfl) (by kernel_rfl) (by kernel_rfl) (fun _ _ _ h => h) (Or.inl ⟨by rfl, ?_⟩) (by assumption) ?_
  case refine_2 =>
    intro w hSw
    (try dsimp only at hSw)
    (try go_simp)
    all_goals (with_reducible rfl)
  try simp only [Act.put, List.setIfInBounds_toArray, List.set_cons_zero, List.set_cons_succ]
  refine wpAnyH_take (i := 17) (oi := { dst := some 66, op := Op.binOp BinOp.eql 27 (Operand.tmp 65) (Operand.const (Value.int IntKind.i64 0)) 27, type := 4, pos := "law.go:30", after := #[{ on := 16, ground := Ground.data }, { on := 15, ground := Ground.guard }], guard := some (15, true) }) (v := ?_) rfl (by kernel_rfl) (by kernel_rfl) (by kernel_rfl) (fun _ _ _ h => h) (Or.inl ⟨by rfl, ?_⟩) (by assumption) ?_
  case refine_2 =>
    intro w hSw
    (try dsimp only at hSw)
    (try go_simp)
    all_goals (with_reducible rfl)
  try simp only [Act.put, List.setIfInBounds_toArray, List.set_cons_zero, List.set_cons_succ]
  refine wpAnyH_take (i := 18) (oi := { dst := some 67, op := Op.pick (Operand.tmp 64) (Operand.tmp 66) (Operand.const (Value.bool false)), type := 4, pos := "law.go:30", after := #[{ on := 15, ground := Ground.data }, { on := 17, ground := Ground.data }], guard := none }) (v := ?_) rfl (by kernel_rfl) (by kernel_rfl) (by kernel_rfl) (fun _ _ _ h => h) (Or.inl ⟨by rfl, ?_⟩) (by assumption) ?_
  case refine_2 =>
    intro w hSw
    (try dsimp only at hSw)
    (try go_simp)
    all_goals (with_reducible rfl)
  try simp only [Act.put, List.setIfInBounds_toArray, List.set_cons_zero, List.set_cons_succ]
  refine wpAnyH_take (i := 19) (oi := { dst := some 68, op := Op.move (Operand.tmp 67), type := 4, pos := "law.go:30", after := #[{ on := 18, ground := Ground.data }, { on := 15, ground := Ground.chain }], guard := none }) (v := ?_) rfl (by kernel_rfl) (by kernel_rfl) (by kernel_rfl) (fun _ _ _ h => h) (Or.inl ⟨by rfl, ?_⟩) (by assumption) ?_
  case refine_2 =>
    intro w hSw
    (try dsimp only at hSw)
    (try go_simp)
    all_goals (with_reducible rfl)
  try simp only [Act.put, List.setIfInBounds_toArray, List.set_cons_zero, List.set_cons_succ]
  refine wpAnyH_take (i := 20) (oi := { dst := some 69, op := Op.move (Operand.tmp 12), type := 27, pos := "law.go:30", after := #[{ on := 19, ground := Ground.guard }], guard := some (19, true) }) (v := ?_) rfl (by kernel_rfl) (by kernel_rfl) (by kernel_rfl) (fun _ _ _ h => h) (Or.inl ⟨by rfl, ?_⟩) (by assumption) ?_
  case refine_2 =>
    intro w hSw
    (try dsimp only at hSw)
    (try go_simp)
    all_goals (with_reducible rfl)
  try simp only [Act.put, List.setIfInBounds_toArray, List.set_cons_zero, List.set_cons_succ]
  refine wpAnyH_take (i := 21) (oi := { dst := some 70, op := Op.binOp BinOp.eql 27 (Operand.tmp 69) (Operand.const (Value.int IntKind.i64 10)) 27, type := 4, pos := "law.go:30", after := #[{ on := 20, ground := Ground.data }, { on := 19, ground := Ground.guard }], guard := some (19, true) }) (v := ?_) rfl (by kernel_rfl) (by kernel_rfl) (by kernel_rfl) (fun _ _ _ h => h) (Or.inl ⟨by rfl, ?_⟩) (by assumption) ?_
  case refine_2 =>
    intro w hSw
    (try dsimp only at hSw)
    (try go_simp)
    all_goals (with_reducible rfl)
  try simp only [Act.put, List.setIfInBounds_toArray, List.set_cons_zero, List.set_cons_succ]
  refine wpAnyH_take (i := 22) (oi := { dst := some 71, op := Op.pick (Operand.tmp 68) (Operand.tmp 70) (Operand.const (Value.bool false)), type := 4, pos := "law.go:30", after := #[{ on := 19, ground := Ground.data }, { on := 21, ground := Ground.data }], guard := none }) (v := ?_) rfl (by kernel_rfl) (by kernel_rfl) (by kernel_rfl) (fun _ _ _ h => h) (Or.inl ⟨by rfl, ?_⟩) (by assumption) ?_
  case refine_2 =>
    intro w hSw
    (try dsimp only at hSw)
    (try go_simp)
    all_goals (with_reducible rfl)
  try simp only [Act.put, List.setIfInBounds_toArray, List.set_cons_zero, List.set_cons_succ]
  refine wpAnyH_take (i := 23) (oi := { dst := some 72, op := Op.move (Operand.tmp 71), type := 4, pos := "law.go:30", after := #[{ on := 22, ground := Ground.data }, { on := 19, ground := Ground.chain }], guard := none }) (v := ?_) rfl (by kernel_rfl) (by kernel_rfl) (by kernel_rfl) (fun _ _ _ h => h) (Or.inl ⟨by rfl, ?_⟩) (by assumption) ?_
  case refine_2 =>
    intro w hSw
    (try dsimp only at hSw)
    (try go_simp)
    all_goals (with_reducible rfl)
  try simp only [Act.put, List.setIfInBounds_toArray, List.set_cons_zero, List.set_cons_succ]
  refine wpAnyH_take (i := 24) (oi := { dst := some 73, op := Op.move (Operand.tmp 2), type := 26, pos := "law.go:30", after := #[{ on := 23, ground := Ground.guard }], guard := some (23, true) }) (v := ?_) rfl (by kernel_rfl) (by kernel_rfl) (by kernel_rfl) (fun _ _ _ h => h) (Or.inl ⟨by rfl, ?_⟩) (by assumption) ?_
  case refine_2 =>
    intro w hSw
    (try dsimp only at hSw)
    (try go_simp)
    all_goals (with_reducible rfl)
  try simp only [Act.put, List.setIfInBounds_toArray, List.set_cons_zero, List.set_cons_succ]
  refine wpAnyH_take (i := 26) (oi := { dst := some 75, op := Op.load 23 (Operand.tmp 1), type := 23, pos := "law.go:30", after := #[{ on := 23, ground := Ground.guard }], guard := some (23, true) }) (v := ?_) rfl (by kernel_rfl) (by kernel_rfl) (by kernel_rfl) (fun _ _ _ h => h) (Or.inl ⟨by rfl, ?_⟩) (by assumption) ?_
  case refine_2 =>
    intro w hSw
    (try dsimp only at hSw)
    (try go_simp)
    all_goals (with_reducible rfl)
  try simp only [Act.put, List.setIfInBounds_toArray, List.set_cons_zero, List.set_cons_succ]
  refine wpAnyH_ready (rs := [25]) (by kernel_rfl) (by simp) (AllReadyH.cons (o := { dst := some 74, op := Op.call { callee := Callee.value (Operand.func 12), args := #[Operand.tmp 73], argTypes := #[26] }, type := 23, pos := "law.go:30", after := #[{ on := 24, ground := Ground.data }, { on := 23, ground := Ground.chain }, { on := 23, ground := Ground.guard }], guard := some (23, true) }) rfl (fun K hK => ?_) AllReadyH.nil)
  go_simp
  refine (fin_pos hHeld).mono ?_; rintro e w11 ⟨rfl, hb⟩
  refine hK.out _ _ ?_ (fun hHeld => ?_)
  · first | with_reducible assumption | exact fin_keep (by assumption) hb
  clear hK K
  refine wpAnyH_take (i := 27) (oi := { dst := some 76, op := Op.binOp BinOp.eql 23 (Operand.tmp 74) (Operand.tmp 75) 23, type := 4, pos := "law.go:30", after := #[{ on := 25, ground := Ground.data }, { on := 26, ground := Ground.data }, { on := 23, ground := Ground.guard }], guard := some (23, true) }) (v := ?_) rfl (by kernel_rfl) (by kernel_rfl) (by kernel_rfl) (fun _ _ _ h => h) (Or.inl ⟨by rfl, ?_⟩) (by assumption) ?_
  case refine_2 =>
    intro w hSw
    (try dsimp only at hSw)
    (try go_simp)
    all_goals (with_reducible rfl)
  try simp only [Act.put, List.setIfInBounds_toArray, List.set_cons_zero, List.set_cons_succ]
  refine wpAnyH_take (i := 28) (oi := { dst := some 77, op := Op.pick (Operand.tmp 72) (Operand.tmp 76) (Operand.const (Value.bool false)), type := 4, pos := "law.go:30", after := #[{ on := 23, ground := Ground.data }, { on := 27, ground := Ground.data }], guard := none }) (v := ?_) rfl (by kernel_rfl) (by kernel_rfl) (by kernel_rfl) (fun _ _ _ h => h) (Or.inl ⟨by rfl, ?_⟩) (by assumption) ?_
  case refine_2 =>
    intro w hSw
    (try dsimp only at hSw)
    (try go_simp)
    all_goals (with_reducible rfl)
  try simp only [Act.put, List.setIfInBounds_toArray, List.set_cons_zero, List.set_cons_succ]
  refine wpAnyH_take (i := 29) (oi := { dst := some 78, op := Op.move (Operand.tmp 77), type := 4, pos := "law.go:30", after := #[{ on := 28, ground := Ground.data }, { on := 25, ground := Ground.chain }], guard := none }) (v := ?_) rfl (by kernel_rfl) (by kernel_rfl) (by kernel_rfl) (fun _ _ _ h => h) (Or.inl ⟨by rfl, ?_⟩) (by assumption) ?_
  case refine_2 =>
    intro w hSw
    (try dsimp only at hSw)
    (try go_simp)
    all_goals (with_reducible rfl)
  try simp only [Act.put, List.setIfInBounds_toArray, List.set_cons_zero, List.set_cons_succ]
  refine wpAnyH_take (i := 30) (oi := { dst := some 79, op := Op.move (Operand.tmp 2), type := 26, pos := "law.go:30", after := #[{ on := 29, ground := Ground.guard }], guard := some (29, true) }) (v := ?_) rfl (by kernel_rfl) (by kernel_rfl) (by kernel_rfl) (fun _ _ _ h => h) (Or.inl ⟨by rfl, ?_⟩) (by assumption) ?_
  case refine_2 =>
    intro w hSw
    (try dsimp only at hSw)
    (try go_simp)
    all_goals (with_reducible rfl)
  try simp only [Act.put, List.setIfInBounds_toArray, List.set_cons_zero, List.set_cons_succ]
  refine wpAnyH_ready (rs := [31]) (by kernel_rfl) (by simp) (AllReadyH.cons (o := { dst := some 80, op := Op.call { callee := Callee.value (Operand.func 15), args := #[Operand.tmp 79], argTypes := #[26] }, type := 42, pos := "law.go:30", after := #[{ on := 30, ground := Ground.data }, { on := 29, ground := Ground.chain }, { on := 29, ground := Ground.guard }], guard := some (29, true) }) rfl (fun K hK => ?_) AllReadyH.nil)
  go_simp
  refine (fin_past hHeld).mono ?_; rintro e w11 ⟨A1, c1, rfl, hb⟩
  refine hK.out _ _ ?_ (fun hHeld => ?_)
  · first | with_reducible assumption | exact fin_keep (by assumption) hb
  clear hK K
  refine wpAnyH_take (i := 32) (oi := { dst := some 81, op := Op.call { callee := Callee.builtin Builtin.len, args := #[Operand.tmp 80], argTypes := #[42] }, type := 3, pos := "law.go:30", after := #[{ on := 31, ground := Ground.data }, { on := 29, ground := Ground.guard }], guard := some (29, true) }) (v := ?_) rfl (by kernel_rfl) (by kernel_rfl) (by kernel_rfl) (fun _ _ _ h => h) (Or.inl ⟨by rfl, ?_⟩) (by assumption) ?_
  case refine_2 =>
    intro w hSw
    (try dsimp only at hSw)
    (try go_simp)
    all_goals (with_reducible rfl)
  try simp only [Act.put, List.setIfInBounds_toArray, List.set_cons_zero, List.set_cons_succ]
  refine wpAnyH_take (i := 33) (oi := { dst := some 82, op := Op.binOp BinOp.eql 3 (Operand.tmp 81) (Operand.const (Value.int IntKind.i64 0)) 3, type := 4, pos := "law.go:30", after := #[{ on := 32, ground := Ground.data }, { on := 29, ground := Ground.guard }], guard := some (29, true) }) (v := ?_) rfl (by kernel_rfl) (by kernel_rfl) (by kernel_rfl) (fun _ _ _ h => h) (Or.inl ⟨by rfl, ?_⟩) (by assumption) ?_
  case refine_2 =>
    intro w hSw
    (try dsimp only at hSw)
    (try go_simp)
    all_goals (with_reducible rfl)
  try simp only [Act.put, List.setIfInBounds_toArray, List.set_cons_zero, List.set_cons_succ]
  refine wpAnyH_take (i := 34) (oi := { dst := some 83, op := Op.pick (Operand.tmp 78) (Operand.tmp 82) (Operand.const (Value.bool false)), type := 4, pos := "law.go:30", after := #[{ on := 29, ground := Ground.data }, { on := 33, ground := Ground.data }], guard := none }) (v := ?_) rfl (by kernel_rfl) (by kernel_rfl) (by kernel_rfl) (fun _ _ _ h => h) (Or.inl ⟨by rfl, ?_⟩) (by assumption) ?_
  case refine_2 =>
    intro w hSw
    (try dsimp only at hSw)
    (try go_simp)
    all_goals (with_reducible rfl)
  try simp only [Act.put, List.setIfInBounds_toArray, List.set_cons_zero, List.set_cons_succ]
  refine wpAnyH_take (i := 35) (oi := { dst := some 84, op := Op.move (Operand.tmp 83), type := 4, pos := "law.go:30", after := #[{ on := 34, ground := Ground.data }, { on := 31, ground := Ground.chain }], guard := none }) (v := ?_) rfl (by kernel_rfl) (by kernel_rfl) (by kernel_rfl) (fun _ _ _ h => h) (Or.inl ⟨by rfl, ?_⟩) (by assumption) ?_
  case refine_2 =>
    intro w hSw
    (try dsimp only at hSw)
    (try go_simp)
    all_goals (with_reducible rfl)
  try simp only [Act.put, List.setIfInBounds_toArray, List.set_cons_zero, List.set_cons_succ]
  refine wpAnyH_take (i := 36) (oi := { dst := some 85, op := Op.move (Operand.tmp 2), type := 26, pos := "law.go:30", after := #[{ on := 35, ground := Ground.guard }], guard := some (35, true) }) (v := ?_) rfl (by kernel_rfl) (by kernel_rfl) (by kernel_rfl) (fun _ _ _ h => h) (Or.inl ⟨by rfl, ?_⟩) (by assumption) ?_
  case refine_2 =>
    intro w hSw
    (try dsimp only at hSw)
    (try go_simp)
    all_goals (with_reducible rfl)
  try simp only [Act.put, List.setIfInBounds_toArray, List.set_cons_zero, List.set_cons_succ]
  refine wpAnyH_ready (rs := [37]) (by kernel_rfl) (by simp) (AllReadyH.cons (o := { dst := some 86, op := Op.call { callee := Callee.value (Operand.func 17), args := #[Operand.tmp 85, Operand.const (Value.int IntKind.i64 0)], argTypes := #[26, 3] }, type := 48, pos := "law.go:30", after := #[{ on := 36, ground := Ground.data }, { on := 35, ground := Ground.chain }, { on := 35, ground := Ground.guard }], guard := some (35, true) }) rfl (fun K hK => ?_) AllReadyH.nil)
  go_simp
  refine (fin_pieces hHeld HP.out).mono ?_; rintro e w11 ⟨A2, c2, rfl, rd, hb⟩
  refine hK.out _ _ ?_ (fun hHeld => ?_)
  · first | with_reducible assumption | exact fin_keep (by assumption) hb
  clear hK K
  refine wpAnyH_take (i := 38) (oi := { dst := some 87, op := Op.call { callee := Callee.builtin Builtin.len, args := #[Operand.tmp 86], argTypes := #[48] }, type := 3, pos := "law.go:30", after := #[{ on := 37, ground := Ground.data }, { on := 35, ground := Ground.guard }], guard := some (35, true) }) (v := ?_) rfl (by kernel_rfl) (by kernel_rfl) (by kernel_rfl) (fun _ _ _ h => h) (Or.inl ⟨by rfl, ?_⟩) (by assumption) ?_
  case refine_2 =>
    intro w hSw
    (try dsimp only at hSw)
    (try go_simp)
    all_goals (with_reducible rfl)
  try simp only [Act.put, List.setIfInBounds_toArray, List.set_cons_zero, List.set_cons_succ]
  refine wpAnyH_take (i := 39) (oi := { dst := some 88, op := Op.binOp BinOp.eql 3 (Operand.tmp 87) (Operand.const (Value.int IntKind.i64 16)) 3, type := 4, pos := "law.go:30", after := #[{ on := 38, ground := Ground.data }, { on := 35, ground := Ground.guard }], guard := some (35, true) }) (v := ?_) rfl (by kernel_rfl) (by kernel_rfl) (by kernel_rfl) (fun _ _ _ h => h) (Or.inl ⟨by rfl, ?_⟩) (by assumption) ?_
  case refine_2 =>
    intro w hSw
    (try dsimp only at hSw)
    (try go_simp)
    all_goals (with_reducible rfl)
  try simp only [Act.put, List.setIfInBounds_toArray, List.set_cons_zero, List.set_cons_succ]
  refine wpAnyH_take (i := 40) (oi := { dst := some 89, op := Op.pick (Operand.tmp 84) (Operand.tmp 88) (Operand.const (Value.bool false)), type := 4, pos := "law.go:30", after := #[{ on := 35, ground := Ground.data }, { on := 39, ground := Ground.data }], guard := none }) (v := ?_) rfl (by kernel_rfl) (by kernel_rfl) (by kernel_rfl) (fun _ _ _ h => h) (Or.inl ⟨by rfl, ?_⟩) (by assumption) ?_
  case refine_2 =>
    intro w hSw
    (try dsimp only at hSw)
    (try go_simp)
    all_goals (with_reducible rfl)
  try simp only [Act.put, List.setIfInBounds_toArray, List.set_cons_zero, List.set_cons_succ]
  refine wpAnyH_take (i := 41) (oi := { dst := some 0, op := Op.assign (Operand.tmp 89), type := 4, pos := "law.go:30", after := #[{ on := 40, ground := Ground.data }, { on := 37, ground := Ground.chain }, { on := 0, ground := Ground.phase }, { on := 1, ground := Ground.phase }, { on := 2, ground := Ground.phase }, { on := 3, ground := Ground.phase }, { on := 4, ground := Ground.phase }, { on := 5, ground := Ground.phase }, { on := 6, ground := Ground.phase }, { on := 7, ground := Ground.phase }, { on := 8, ground := Ground.phase }, { on := 9, ground := Ground.phase }, { on := 10, ground := Ground.phase }, { on := 11, ground := Ground.phase }, { on := 12, ground := Ground.phase }, { on := 13, ground := Ground.phase }, { on := 14, ground := Ground.phase }, { on := 15, ground := Ground.phase }, { on := 16, ground := Ground.phase }, { on := 17, ground := Ground.phase }, { on := 18, ground := Ground.phase }, { on := 19, ground := Ground.phase }, { on := 20, ground := Ground.phase }, { on := 21, ground := Ground.phase }, { on := 22, ground := Ground.phase }, { on := 23, ground := Ground.phase }, { on := 24, ground := Ground.phase }, { on := 25, ground := Ground.phase }, { on := 26, ground := Ground.phase }, { on := 27, ground := Ground.phase }, { on := 28, ground := Ground.phase }, { on := 29, ground := Ground.phase }, { on := 30, ground := Ground.phase }, { on := 31, ground := Ground.phase }, { on := 32, ground := Ground.phase }, { on := 33, ground := Ground.phase }, { on := 34, ground := Ground.phase }, { on := 35, ground := Ground.phase }, { on := 36, ground := Ground.phase }, { on := 37, ground := Ground.phase }, { on := 38, ground := Ground.phase }, { on := 39, ground := Ground.phase }, { on := 40, ground := Ground.phase }], guard := none }) (v := ?_) rfl (by kernel_rfl) (by kernel_rfl) (by kernel_rfl) (fun _ _ _ h => h) (Or.inl ⟨by rfl, ?_⟩) (by assumption) ?_
  case refine_2 =>
    intro w hSw
    (try dsimp only at hSw)
    (try go_simp)
    all_goals (with_reducible rfl)
  try simp only [Act.put, List.setIfInBounds_toArray, List.set_cons_zero]
  refine wpAnyH_done (by kernel_rfl) ?_ _
  go_wp2
  go_ret
  exact ⟨rfl, fin_below (by assumption)⟩
end Go.Proofs.YtdpaiolppccinaaGreatDoor
