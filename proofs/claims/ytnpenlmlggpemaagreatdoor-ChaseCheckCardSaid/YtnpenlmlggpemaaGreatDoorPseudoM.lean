/- Merged: PseudoC PseudoD PseudoE PseudoF PseudoG PseudoH PseudoI. -/
import Derived.Test.YtnpenlmlggpemaaGreatDoorPseudoB
import Derived.Test.YtnpenlmlggpemaaGreatDoorShelf
import Derived.Deep.LoopGhost

namespace Go.Proofs.YtnpenlmlggpemaaGreatDoor
open Go.RowKit Go.Shelf
open M (S)

theorem least_of {p : Nat → Bool} : ∀ n, (∃ i, i < n ∧ p i = true) → ∃ i, i < n ∧ p i = true ∧ ∀ j, j < i → p j = false
  | 0, ⟨i, h, _⟩ => absurd h (Nat.not_lt_zero i)
  | n + 1, ⟨i, h, hp⟩ => by
    by_cases h2 : ∃ i, i < n ∧ p i = true
    · obtain ⟨k, hk, h3⟩ := least_of n h2
      exact ⟨k, by omega, h3⟩
    · refine ⟨i, h, hp, fun j hj => ?_⟩
      cases e : p j
      · rfl
      · exact absurd ⟨j, by omega, e⟩ h2
theorem filter_none {p : Fin 90 → Bool} : ∀ {l : List (Fin 90)}, (∀ k, k < l.length → p l[k]! = false) → l.filter p = []
  | [], _ => rfl
  | x :: l, h => by
    rw [List.filter_cons, show p x = false by simpa using h 0 (by simp)]
    exact filter_none fun k hk => by simpa using h (k + 1) (by simpa using hk)
theorem filter_hit {p : Fin 90 → Bool} {l : List (Fin 90)} {i : Nat} (hi : i < l.length) (hp : p l[i]! = true) (hne : ∀ k, k < i → p l[k]! = false) : (l.take (i + 1)).filter p = [l[i]!] := by
  rw [List.take_succ_eq_append_getElem hi, List.filter_append, filter_none (p := p) (l := l.take i) fun k hk => ?_]
  · rw [getElem!_pos l i hi] at hp ⊢
    simp [hp]
  · have hk' : k < i := by simp at hk; omega
    have h1 := hne k hk'
    rw [getElem!_pos (l.take i) k hk, List.getElem_take]
    rw [getElem!_pos l k (by omega)] at h1
    exact h1
/-- The squares of a side's pieces; the moves of one piece to squares that fit; those of the first t pieces. -/
def piecesN (s : ByteArray) (side : Int) : List Nat := (List.range 90).filter fun k => ofSide (bAt s k) side
def goQ (s : ByteArray) (q : Nat → Bool) (a : Nat) : List (Nat × Nat) := ((finL fun b => canB s a b).filter fun b => q b.val).map fun b => (a, b.val)
def preQ (s : ByteArray) (side : Int) (q : Nat → Bool) (t : Nat) : List (Nat × Nat) := ((piecesN s side).take t).flatMap (goQ s q)
theorem preQ_succ {s : ByteArray} {side : Int} {q : Nat → Bool} {t : Nat} (h : t < (piecesN s side).length) : preQ s side q (t + 1) = preQ s side q t ++ goQ s q (piecesN s side)[t] := by
  unfold preQ
  rw [List.take_succ_eq_append_getElem h, List.flatMap_append]
  simp
/-- Those of a piece to the first j of what it reaches. -/
def midQ (s : ByteArray) (q : Nat → Bool) (a j : Nat) : List (Nat × Nat) := (((finL fun b => canB s a b).take j).filter fun b => q b.val).map fun b => (a, b.val)
theorem midQ_len (s : ByteArray) (q : Nat → Bool) (a j : Nat) : (midQ s q a j).length ≤ 90 := by
  unfold midQ
  rw [List.length_map]
  refine Nat.le_trans (List.length_filter_le _ _) ?_
  rw [List.length_take, finL_len]
  have := trues_le (fun b => canB s a b) 90
  omega
theorem midQ_all {s : ByteArray} {q : Nat → Bool} {a j : Nat} (h : ∀ k, k < ((finL fun b => canB s a b).drop j).length → q (((finL fun b => canB s a b).drop j)[k]!).val = false) : midQ s q a j = goQ s q a := by
  have h1 : (finL fun b => canB s a b).filter (fun b => q b.val) = ((finL fun b => canB s a b).take j).filter fun b => q b.val := by
    conv => lhs; rw [← List.take_append_drop j (finL fun b => canB s a b)]
    rw [List.filter_append, filter_none (p := fun b => q b.val) h, List.append_nil]
  unfold midQ goQ
  rw [h1]
theorem midQ_hit {s : ByteArray} {q : Nat → Bool} {a j i : Nat} {R Z : List (Fin 90)} (hR : (finL fun b => canB s a b) = R) (hZ : R.drop j = Z) (hi : i < Z.length) (hp : q (Z[i]!).val = true) (hne : ∀ k, k < i → q (Z[k]!).val = false) : midQ s q a (j + (i + 1)) = midQ s q a j ++ [(a, (Z[i]!).val)] := by
  unfold midQ
  rw [hR, List.take_add, hZ, List.filter_append, filter_hit (p := fun b => q b.val) hi hp hne, List.map_append]
  rfl
theorem preQ_len (s : ByteArray) (side : Int) (q : Nat → Bool) : ∀ t, (preQ s side q t).length ≤ t * 90
  | 0 => by simp [preQ]
  | t + 1 => by
    have h1 := preQ_len s side q t
    by_cases h : t < (piecesN s side).length
    · rw [preQ_succ h, List.length_append]
      have h2 : (goQ s q (piecesN s side)[t]).length ≤ 90 := by
        unfold goQ
        rw [List.length_map]
        refine Nat.le_trans (List.length_filter_le _ _) ?_
        rw [finL_len]
        exact trues_le _ _
      omega
    · have : preQ s side q (t + 1) = preQ s side q t := by unfold preQ; rw [List.take_of_length_le (by omega), List.take_of_length_le (by omega)]
      rw [this]
      omega
theorem piecesN_len (s : ByteArray) (side : Int) : (piecesN s side).length ≤ 90 := by
  unfold piecesN
  exact Nat.le_trans (List.length_filter_le _ _) (by simp)
theorem piecesN_list {s : ByteArray} {side : Int} (h : isB s = true) : piecesL s side = (piecesN s side).map fun k : Nat => (k : Int) := by unfold piecesL; rw [if_pos h]; rfl
theorem piecesN_lt {s : ByteArray} {side : Int} {t : Nat} (h : t < (piecesN s side).length) : (piecesN s side)[t] < 90 := List.mem_range.1 (List.mem_filter.1 (List.getElem_mem h)).1
theorem rd_plain {w : World} {A : Option Addr} {Z : List (Fin 90)} (h : Rd w A (Z.map fqv)) (h0 : 0 < Z.length) : ∃ b o, A = some ⟨b, o, none⟩ ∧ ∀ k, k < Z.length → w.cell? ⟨b, o + k, none⟩ = some (fqv Z[k]!) := by
  have hat : ∀ k (hk : k < Z.length), (Z.map fqv)[k]? = some (fqv Z[k]!) := fun k hk => by
    rw [List.getElem?_map, List.getElem?_eq_getElem hk, getElem!_pos Z k hk]
    rfl
  obtain ⟨⟨b, o, sp⟩, rfl, hc⟩ := h _ _ (hat 0 h0)
  have hsp : sp = none := by simpa [Addr.add] using World.cell?_spot hc
  subst hsp
  have hadd : ∀ j, (Addr.add ⟨b, o, none⟩ j) = ⟨b, o + j, none⟩ := fun j => by
    simp only [Addr.add]
    split <;> simp_all
  refine ⟨b, o, rfl, fun k hk => ?_⟩
  obtain ⟨a', e, hk2⟩ := h _ _ (hat k hk)
  cases e
  rwa [hadd] at hk2
theorem rd_cut {w : World} {b o : Nat} {Z : List (Fin 90)} (h : Rd w (some ⟨b, o, none⟩) (Z.map fqv)) (d : Nat) : Rd w (some ⟨b, o + d, none⟩) ((Z.drop d).map fqv) := fun j u hu => by
  refine ⟨_, rfl, ?_⟩
  rw [List.map_drop, List.getElem?_drop] at hu
  obtain ⟨a', e, hc⟩ := h _ _ hu
  cases e
  have hadd : ∀ b o j, (Addr.add ⟨b, o, none⟩ j) = ⟨b, o + j, none⟩ := fun b o j => by
    simp only [Addr.add]
    split <;> simp_all
  rw [hadd] at hc ⊢
  rwa [Nat.add_assoc]
theorem rd_grown {w w' : World} {A : Option Addr} {xs : List Value} {o : Obj} {row : Option Nat} (h : Rd w A xs) (hg : (w.alloc o).grownBy w' row) (hne : ∀ ad, A = some ad → some ad.block ≠ row) : Rd w' A xs := fun j u hu => by
  obtain ⟨ad, hA, hc⟩ := h j u hu
  refine ⟨ad, hA, ?_⟩
  have h1 := ((Below.refl w.heap.size w).alloc (Nat.le_refl _) o).cell (p := ad.add j) (cell_lt hc)
  refine hg.cell (h1.trans hc) ?_
  have : (ad.add j).block = ad.block := by
    simp only [Addr.add]
    split <;> rfl
  rw [this]
  exact hne ad hA
theorem idx_hit {q : Nat → Bool} {Z : List (Fin 90)} {i : Nat} (hi : i < Z.length) (hp : q (Z[i]!).val = true) (hne : ∀ k, k < i → q (Z[k]!).val = false) : Lib.idxBy (fun _ (y : Fin 90) => q y.val) Z default = (i : Int) := by
  have := Lib.idxBy_hit (fun _ (y : Fin 90) => q y.val) Z Z.length i default hi (Nat.le_refl _) hp hne
  rwa [List.take_of_length_le (Nat.le_refl _)] at this
theorem idx_miss {q : Nat → Bool} {Z : List (Fin 90)} (h : ∀ k, k < Z.length → q (Z[k]!).val = false) : Lib.idxBy (fun _ (y : Fin 90) => q y.val) Z default = -1 := by
  have := Lib.idxBy_miss (fun _ (y : Fin 90) => q y.val) Z Z.length default h
  rwa [List.take_of_length_le (Nat.le_refl _)] at this
end Go.Proofs.YtnpenlmlggpemaaGreatDoor

namespace Go.Proofs.YtnpenlmlggpemaaGreatDoor
open Go.RowKit Go.Shelf
open M (S)

theorem goQ_moves {s : ByteArray} {side : Int} {q : Nat → Bool} {a : Nat} (h : sideN (bAt s a) = side) : goQ s q a = (movesOf s side a).filter fun m => q m.2 := by
  have h1 : (finL fun b => canB s a b).map Fin.val = reachN s a := by
    unfold finL reachN
    rw [← (show (List.finRange 90).map Fin.val = List.range 90 by decide +kernel), List.filter_map]
    rfl
  unfold goQ movesOf
  rw [if_pos h, ← h1, List.filter_map, List.filter_map, List.map_map]
  rfl
theorem flat_filter {f : Nat → List (Nat × Nat)} {p : Nat → Bool} {r : Nat × Nat → Bool} {g : Nat → List (Nat × Nat)} (h1 : ∀ a, p a = true → g a = (f a).filter r) (h2 : ∀ a, p a = false → f a = []) : ∀ l : List Nat, (l.filter p).flatMap g = (l.flatMap f).filter r
  | [] => rfl
  | a :: l => by
    rw [List.flatMap_cons, List.filter_append, List.filter_cons, ← flat_filter h1 h2 l]
    cases e : p a
    · rw [if_neg (by simp), h2 a e]
      rfl
    · rw [if_pos rfl, List.flatMap_cons, h1 a e]
theorem of_side6 {c : Nat} {side : Int} (h : 0 ≤ side) : ofSide c side = (sideN c == side) := by
  unfold ofSide
  by_cases e : c = 46
  · subst e
    rw [show sideN 46 = -1 from rfl, show ((-1 : Int) == side) = false by rw [beq_eq_false_iff_ne]; omega]
    rfl
  · rw [show (c != 46) = true by rw [bne_iff_ne]; exact e, Bool.true_and]
theorem preQ_all {s : ByteArray} {side : Int} {q : Nat → Bool} (h0 : 0 ≤ side) : preQ s side q (piecesN s side).length = (movesN s side).filter fun m => q m.2 := by
  unfold preQ
  rw [List.take_of_length_le (Nat.le_refl _)]
  unfold piecesN movesN
  refine flat_filter (fun a ha => ?_) (fun a ha => ?_) _
  · rw [of_side6 h0, beq_iff_eq] at ha
    exact goQ_moves ha
  · rw [of_side6 h0, beq_eq_false_iff_ne] at ha
    exact movesOf_no ha
/-- What Captures answers. -/
def capsV (s : ByteArray) (side clock full : Int) : List (Nat × Nat) := (movesV s side clock full).filter fun m => bAt s m.2 != 46
theorem check_side {s : ByteArray} {side clock full : Int} (h : checkN s side clock full = 0) : side = 0 ∨ side = 1 := by
  have hp := (check_zero (s := s) (side := side) (clock := clock) (full := full) (by rw [h]; rfl)).1
  simp only [partsB, Bool.and_eq_true, Bool.or_eq_true, beq_iff_eq, decide_eq_true_eq] at hp
  exact hp.1.1.1.1.2
end Go.Proofs.YtnpenlmlggpemaaGreatDoor

namespace Go.Proofs.YtnpenlmlggpemaaGreatDoor
open Go.RowKit Go.Shelf
open M (S)

/-- Is a move one of those of a side? -/
def isM (s : ByteArray) (side a b : Int) : Bool := canI s a b && (sideN (bAt s a.toNat) == side)
theorem pm_keep {w : World} {p0 p1 q0 q1 : Value} {g h : Nat} {W W' : World} (hS : W.cell? ⟨g, 0, none⟩ = some p0 ∧ W.cell? ⟨g, 1, none⟩ = some p1 ∧ W.cell? ⟨h, 0, none⟩ = some q0 ∧ W.cell? ⟨h, 1, none⟩ = some q1 ∧ Below w.heap.size w W) (hb : Below W.heap.size W W') :
    W'.cell? ⟨g, 0, none⟩ = some p0 ∧ W'.cell? ⟨g, 1, none⟩ = some p1 ∧ W'.cell? ⟨h, 0, none⟩ = some q0 ∧ W'.cell? ⟨h, 1, none⟩ = some q1 ∧ Below w.heap.size w W' := by
  obtain ⟨h0, h1, h2, h3, h4⟩ := hS
  exact ⟨(hb.cell (p := ⟨g, 0, none⟩) (cell_lt h0)).trans h0, (hb.cell (p := ⟨g, 1, none⟩) (cell_lt h1)).trans h1, (hb.cell (p := ⟨h, 0, none⟩) (cell_lt h2)).trans h2, (hb.cell (p := ⟨h, 1, none⟩) (cell_lt h3)).trans h3, h4.trans (hb.mono h4.size)⟩
end Go.Proofs.YtnpenlmlggpemaaGreatDoor

namespace Go.Proofs.YtnpenlmlggpemaaGreatDoor
open Go.RowKit Go.Shelf
open M (S)

/-- What a region that moves a piece keeps: the position's and the move's cells; two bytes that may be written. -/
def MvS (w : World) (g h k : Nat) (s : ByteArray) (side clock full : Int) (a b : Nat) (W : World) : Prop :=
  W.cell? ⟨g, 0, none⟩ = some (.string s) ∧ W.cell? ⟨g, 1, none⟩ = some (.int .i64 side) ∧ W.cell? ⟨g, 2, none⟩ = some (.int .i64 clock) ∧ W.cell? ⟨g, 3, none⟩ = some (.int .i64 full) ∧ W.cell? ⟨h, 0, none⟩ = some (.int .i64 (a : Int)) ∧ W.cell? ⟨h, 1, none⟩ = some (.int .i64 (b : Int)) ∧
  W.cell? ⟨k, a, none⟩ = some (cellOf W ⟨k, a, none⟩) ∧ W.cell? ⟨k, b, none⟩ = some (cellOf W ⟨k, b, none⟩) ∧ W.frozen? ⟨k, a, none⟩ = false ∧ W.frozen? ⟨k, b, none⟩ = false ∧ Below w.heap.size w W
theorem mvS_set {w : World} {g h k : Nat} {s : ByteArray} {side clock full : Int} {a b : Nat} {W : World} (hS : MvS w g h k s side clock full a b W) (hg : g ≠ k) (hh : h ≠ k) (hk : w.heap.size ≤ k) (o : Nat) (u : Value) : MvS w g h k s side clock full a b (W.setCell ⟨k, o, none⟩ u) := by
  obtain ⟨h0, h1, h2, h3, h4, h5, h6, h7, h8, h9, h10⟩ := hS
  have far : ∀ (q : Nat) (i : Nat), q ≠ k → (W.setCell ⟨k, o, none⟩ u).cell? ⟨q, i, none⟩ = W.cell? ⟨q, i, none⟩ := fun q i hq => World.cell?_setCell_other _ _ _ _ (by intro e; injection e with e1; exact hq e1.symm)
  exact ⟨(far g 0 hg).trans h0, (far g 1 hg).trans h1, (far g 2 hg).trans h2, (far g 3 hg).trans h3, (far h 0 hh).trans h4, (far h 1 hh).trans h5, cellOf_some (isSome_set (isSome_of h6)), cellOf_some (isSome_set (isSome_of h7)), by simpa using h8, by simpa using h9, h10.setCell (p := ⟨k, o, none⟩) hk u⟩
theorem pblk_four {W : World} {g : Nat} {t : TypeId} {x y z u a b c d : Value} (h : Blk W g t #[x, y, z, u]) : Blk ((((W.setCell ⟨g, 0, none⟩ a).setCell ⟨g, 1, none⟩ b).setCell ⟨g, 2, none⟩ c).setCell ⟨g, 3, none⟩ d) g t #[a, b, c, d] := (((h.set_ 0 a).set_ 1 b).set_ 2 c).set_ 3 d
/-- Results, the first of them a position in memory. -/
theorem pres_pos {fn : Func} {p u : Tmp} (h : fn.results = #[.cell p 31, .tmp u]) (tmps : Array Value) (w : World) {g : Nat} (hp : tmps.getD p undef = .pointer (some ⟨g, 0, none⟩)) {t : TypeId} {a b c d : Value} (hb : Blk w g t #[a, b, c, d]) :
    (results fn tmps).run Tryz.prog w = .ok (.tuple #[.agg #[a, b, c, d], tmps.getD u undef]) w := by
  rw [results_cell_tmp h, hp]
  have h1 := run_loadVar_row (P := Tryz.prog) w g t 31 #[a, b, c, d] (0, 0) _ hb Tryz.underlying31 rfl (by kernel_rfl)
  simp [asAddr, h1, Result.andThen]
theorem mvEnd {w W : World} {g : Nat} {t : TypeId} {x y z u a b c d : Value} (h : Blk W g t #[x, y, z, u]) (hg : w.heap.size ≤ g) (hB : Below w.heap.size w W) : Blk ((((W.setCell ⟨g, 0, none⟩ a).setCell ⟨g, 1, none⟩ b).setCell ⟨g, 2, none⟩ c).setCell ⟨g, 3, none⟩ d) g t #[a, b, c, d] ∧ Below w.heap.size w ((((W.setCell ⟨g, 0, none⟩ a).setCell ⟨g, 1, none⟩ b).setCell ⟨g, 2, none⟩ c).setCell ⟨g, 3, none⟩ d) :=
  ⟨pblk_four h, (((hB.setCell (p := ⟨g, 0, none⟩) hg _).setCell (p := ⟨g, 1, none⟩) hg _).setCell (p := ⟨g, 2, none⟩) hg _).setCell (p := ⟨g, 3, none⟩) hg _⟩
end Go.Proofs.YtnpenlmlggpemaaGreatDoor

namespace Go.Proofs.YtnpenlmlggpemaaGreatDoor
open Go.RowKit Go.Shelf
open M (S)

theorem movesV_lt {s : ByteArray} {side clock full : Int} {m : Nat × Nat} (h : m ∈ movesV s side clock full) : m.1 < 90 ∧ m.2 < 90 := by
  unfold movesV at h
  split at h
  · have := (moves_mem (a := m.1) (b := m.2)).1 h
    exact ⟨this.1, this.2.1⟩
  · simp at h
/-- Those of the first k moves that take. -/
def capsTo (s : ByteArray) (l : List (Nat × Nat)) (k : Nat) : List (Nat × Nat) := (l.take k).filter fun m => bAt s m.2 != 46
theorem capsTo_succ {s : ByteArray} {l : List (Nat × Nat)} {k : Nat} (h : k < l.length) : capsTo s l (k + 1) = if bAt s l[k].2 != 46 then capsTo s l k ++ [l[k]] else capsTo s l k := by
  unfold capsTo
  rw [List.take_succ_eq_append_getElem h, List.filter_append]
  cases e : (bAt s l[k].2 != 46) <;> simp [e]
theorem capsTo_len (s : ByteArray) (l : List (Nat × Nat)) (k : Nat) : (capsTo s l k).length ≤ k := by
  unfold capsTo
  exact Nat.le_trans (List.length_filter_le _ _) (by simp; omega)
theorem movesV_len (s : ByteArray) (side clock full : Int) : (movesV s side clock full).length ≤ 8100 := by
  unfold movesV
  split
  · exact movesTo_len s side 90
  · exact Nat.zero_le _
end Go.Proofs.YtnpenlmlggpemaaGreatDoor

namespace Go.Proofs.YtnpenlmlggpemaaGreatDoor
open Go.RowKit Go.Shelf
open M (S)

/-- What the document says of a move of a position: the position behind it, what was taken, the error's number. -/
def applyV (s : ByteArray) (side clock full a b : Int) : Value :=
  if checkN s side clock full ≠ 0 then .tuple #[.agg #[.string ⟨#[]⟩, .int .i64 0, .int .i64 0, .int .i64 0], .int .u8 0, .int .i64 (checkN s side clock full)]
  else if isM s side a b = true ∧ kindN (bAt s b.toNat) ≠ 75 then .tuple #[.agg #[.string (movedS s a.toNat b.toNat (bAt s a.toNat)), .int .i64 (1 - side), .int .i64 (clockA s clock b.toNat), .int .i64 (fullA side full)], .int .u8 (takenN s b.toNat : Nat), .int .i64 0]
  else .tuple #[.agg #[.string ⟨#[]⟩, .int .i64 0, .int .i64 0, .int .i64 0], .int .u8 0, .int .i64 7]
theorem isM_parts {s : ByteArray} {side a b : Int} (h : isM s side a b = true) : isB s = true ∧ (0 ≤ a ∧ a < 90) ∧ (0 ≤ b ∧ b < 90) ∧ canB s a.toNat b.toNat = true := by
  simp only [isM, canI, sqI, Bool.and_eq_true, decide_eq_true_eq] at h
  exact ⟨h.1.1.1.1, h.1.1.1.2, h.1.1.2, h.1.2⟩
theorem ppos_cells {W : World} {g : Nat} {t : TypeId} {s : ByteArray} {a b c : Int} (h : Blk W g t #[.string s, .int .i64 a, .int .i64 b, .int .i64 c]) : W.cell? ⟨g, 0, none⟩ = some (.string s) ∧ W.cell? ⟨g, 1, none⟩ = some (.int .i64 a) ∧ W.cell? ⟨g, 2, none⟩ = some (.int .i64 b) ∧ W.cell? ⟨g, 3, none⟩ = some (.int .i64 c) := ⟨h.cell 0, h.cell 1, h.cell 2, h.cell 3⟩
theorem ppos_frozen {W : World} {g : Nat} {t : TypeId} {cs : Array Value} (h : Blk W g t cs) : W.frozen? ⟨g, 0, none⟩ = false ∧ W.frozen? ⟨g, 1, none⟩ = false ∧ W.frozen? ⟨g, 2, none⟩ = false ∧ W.frozen? ⟨g, 3, none⟩ = false := ⟨h.frozen 0, h.frozen 1, h.frozen 2, h.frozen 3⟩
/-- The world at the start: the position, the move, the results. -/
theorem ap_start {w W1 : World} {x y z u m n : Value} (h : ((w.alloc (.cells #[x, y, z, u] 31)).alloc (.cells #[m, n] 23)).alloc (.cells #[.string ⟨#[]⟩, .int .i64 0, .int .i64 0, .int .i64 0] 31) = W1) :
    Below w.heap.size w W1 ∧ Blk W1 w.heap.size 31 #[x, y, z, u] ∧ Blk W1 (w.heap.size + 1) 23 #[m, n] ∧ Blk W1 (w.heap.size + 2) 31 #[.string ⟨#[]⟩, .int .i64 0, .int .i64 0, .int .i64 0] := by
  subst h
  exact ⟨(by repeat (first | exact Below.refl _ _ | (refine Below.setCell ?_ (by first | omega | (simp; done) | (simp; omega) | (simp at *; omega)) _) | (refine Below.alloc ?_ (by first | omega | (simp; done) | (simp; omega) | (simp at *; omega)) _) | refine Below.drew ?_ | (refine below_drewN ?_ _) | (refine Below.trans ?_ (Below.mono (by assumption) (by first | omega | (simp; done) | (simp; omega) | (simp at *; omega)))))), ((Blk.new _ _ _ rfl).alloc _).alloc _, (Blk.new _ _ _ (by simp)).alloc _, Blk.new _ _ _ (by simp)⟩
theorem results_cell_tmp_tmp {fn : Func} {p u v : Tmp} {ty : TypeId} (h : fn.results = #[.cell p ty, .tmp u, .tmp v]) (tmps : Array Value) (P : Program) (w : World) :
    (results fn tmps).run P w = ((asAddr (tmps.getD p undef)).run P w).andThen fun a w₁ => ((loadVar ty a).run P w₁).andThen fun x w₂ => .ok (.tuple #[x, tmps.getD u undef, tmps.getD v undef]) w₂ := by
  simp only [results, h]
  simp [Sem.run_bind, Result.andThen]
theorem res_pos3 {fn : Func} {p u v : Tmp} (h : fn.results = #[.cell p 31, .tmp u, .tmp v]) (tmps : Array Value) (w : World) {g : Nat} (hp : tmps.getD p undef = .pointer (some ⟨g, 0, none⟩)) {t : TypeId} {a b c d : Value} (hb : Blk w g t #[a, b, c, d]) :
    (results fn tmps).run Tryz.prog w = .ok (.tuple #[.agg #[a, b, c, d], tmps.getD u undef, tmps.getD v undef]) w := by
  rw [results_cell_tmp_tmp h, hp]
  have h1 := run_loadVar_row (P := Tryz.prog) w g t 31 #[a, b, c, d] (0, 0) _ hb Tryz.underlying31 rfl (by kernel_rfl)
  simp [asAddr, h1, Result.andThen]
end Go.Proofs.YtnpenlmlggpemaaGreatDoor

namespace Go.Proofs.YtnpenlmlggpemaaGreatDoor
open Go.RowKit Go.Shelf
open M (S)

def hasM (l : List (Nat × Nat)) (a b : Nat) : Bool := l.any fun m => (m.1 == a) && (m.2 == b)
theorem hasM_iff {l : List (Nat × Nat)} {a b : Nat} : hasM l a b = true ↔ (a, b) ∈ l := by
  unfold hasM
  rw [List.any_eq_true]
  constructor
  · rintro ⟨⟨x, y⟩, h, h2⟩
    simp only [Bool.and_eq_true, beq_iff_eq] at h2
    rw [← h2.1, ← h2.2]
    exact h
  · intro h
    exact ⟨(a, b), h, by simp⟩
theorem hasM_yes {l : List (Nat × Nat)} {a b k : Nat} (hk : k < l.length) (h : ((l[k].1 : Int) == (a : Int) && (l[k].2 : Int) == (b : Int)) = true) : hasM l a b = true := by
  rw [hasM_iff]
  simp only [Bool.and_eq_true, beq_iff_eq] at h
  have : (a, b) = l[k] := by
    have h1 : l[k].1 = a := by omega
    have h2 : l[k].2 = b := by omega
    rw [← h1, ← h2]
  rw [this]
  exact List.getElem_mem hk
theorem hasM_no {l : List (Nat × Nat)} {a b : Nat} (h : ∀ k (hk : k < l.length), ((l[k].1 : Int) == (a : Int) && (l[k].2 : Int) == (b : Int)) = false) : hasM l a b = false := by
  rw [Bool.eq_false_iff]
  intro h2
  rw [hasM_iff] at h2
  obtain ⟨k, hk, e⟩ := List.mem_iff_getElem.1 h2
  have := h k hk
  rw [e] at this
  simp at this
set_option maxRecDepth 100000 in
set_option maxHeartbeats 2000000 in
theorem has_any (A : Option Addr) (l : List (Nat × Nat)) (n c a b : Nat) (w : World) (hx : Rd w A (mvs l)) (hn : l.length = n) (hm : n ≤ 1000000) :
    Calls Tryz.prog 20 #[.slice A n c, .agg #[.int .i64 (a : Int), .int .i64 (b : Int)]] w (Gives w (.bool (hasM l a b))) := by
  unfold Gives
  obtain ⟨r, hr⟩ : ∃ r, hasM l a b = r := ⟨_, rfl⟩
  have HR := Lib.hid hr
  have HN := Lib.hid hn
  rw [hr]
  clear hn hr
  obtain ⟨W0, hW0⟩ : ∃ W0, w.alloc (.cells #[.int .i64 (a : Int), .int .i64 (b : Int)] 23) = W0 := ⟨_, rfl⟩
  have hB0 : Below w.heap.size w W0 := by rw [← hW0]; exact (by repeat (first | exact Below.refl _ _ | (refine Below.setCell ?_ (by first | omega | (simp; done) | (simp; omega) | (simp at *; omega)) _) | (refine Below.alloc ?_ (by first | omega | (simp; done) | (simp; omega) | (simp at *; omega)) _) | refine Below.drew ?_ | (refine below_drewN ?_ _) | (refine Below.trans ?_ (Below.mono (by assumption) (by first | omega | (simp; done) | (simp; omega) | (simp at *; omega))))))
  have bM0 : Blk W0 w.heap.size 23 #[.int .i64 (a : Int), .int .i64 (b : Int)] := by rw [← hW0]; exact Blk.new _ _ _ rfl
  have HW := Lib.hid hW0
  clear hW0
  go_enter Tryz.func20, Tryz.ntmps20
  go_wp2
  rw [HW.out]
  go_loopw [5] (fun i wr => ∃ k : Nat, k ≤ n ∧ i = .int .i64 k ∧ Blk wr w.heap.size 23 #[.int .i64 (a : Int), .int .i64 (b : Int)] ∧ Below w.heap.size w wr ∧ Hid (∀ j (hj : j < l.length), j < k → ((l[j].1 : Int) == (a : Int) && (l[j].2 : Int) == (b : Int)) = false)) (fun i _ => n - (intOf i).toNat)
  case atStart => exact ⟨0, Nat.zero_le _, rfl, bM0, hB0, fun j _ h => absurd h (Nat.not_lt_zero _)⟩
  case round =>
    obtain ⟨k, hk, rfl, bM, hB, hno⟩ := hrel
    by_cases hlt : k < n
    · have hkl : k < l.length := by rw [HN.out]; exact hlt
      obtain ⟨g1, o1, rfl, c0, c1⟩ := hx.move hkl
      obtain ⟨u, hu⟩ : ∃ u, l[k].1 = u := ⟨_, rfl⟩
      obtain ⟨v, hv⟩ : ∃ v, l[k].2 = v := ⟨_, rfl⟩
      have HU := Lib.hid hu
      have HV := Lib.hid hv
      rw [hu] at c0
      rw [hv] at c1
      have hc0 := (hB.cell (p := ⟨g1, o1 + k * 2, none⟩) (cell_lt c0)).trans c0
      have hc1 := (hB.cell (p := ⟨g1, o1 + k * 2 + 1, none⟩) (cell_lt c1)).trans c1
      have m0 : wr.cell? ⟨w.heap.size, 0, none⟩ = some (.int .i64 (a : Int)) := bM.cell 0
      have m1 : wr.cell? ⟨w.heap.size, 1, none⟩ = some (.int .i64 (b : Int)) := bM.cell 1
      have b1 : (k : Int) < (n : Int) := by omega
      have hne := eql_move
      clear c0 c1 hu hv
      cases he : ((u : Int) == (a : Int) && (v : Int) == (b : Int))
      · have HE := Lib.hid he
        go_wp2_with fail
        try (go_quiet (fail))
        go_wp2_with fail
        go_roundw
        case rel =>
          refine ⟨k + 1, by omega, by go_num, by first | exact bM | exact bM.next (below_drewN (Below.refl _ _) _), by first | exact hB | exact below_drewN hB _, ?_⟩
          show ∀ j (hj : j < l.length), j < k + 1 → _
          intro j hj hjk
          by_cases e : j = k
          · subst e
            rw [HU.out, HV.out]
            exact HE.out
          · exact hno.out j hj (by omega)
        case measure => simp [intOf]; omega
      · have K : Hid (r = true) := by
          show _ = _
          rw [← HR.out]
          exact hasM_yes hkl (by rw [HU.out, HV.out]; exact he)
        go_wp2_with fail
        try (go_quiet (fail))
        go_wp2_with fail
        go_ret
        exact ⟨by rw [K.out]; rfl, by first | exact hB | exact below_drewN hB _⟩
    · obtain rfl : k = n := by omega
      have K : Hid (r = false) := by
        show _ = _
        rw [← HR.out]
        exact hasM_no fun j hj => hno.out j hj (by rw [← HN.out]; exact hj)
      go_wp2
      go_ret
      exact ⟨by rw [K.out]; rfl, hB⟩
theorem mv6_set {h k a b : Nat} {x y z : Value} {W : World} (hS : W.cell? ⟨h, 0, none⟩ = some x ∧ W.cell? ⟨h, 1, none⟩ = some y ∧ W.cell? ⟨k, a, none⟩ = some z) (hk : h ≠ k) (hab : a ≠ b) (u : Value) : (W.setCell ⟨k, b, none⟩ u).cell? ⟨h, 0, none⟩ = some x ∧ (W.setCell ⟨k, b, none⟩ u).cell? ⟨h, 1, none⟩ = some y ∧ (W.setCell ⟨k, b, none⟩ u).cell? ⟨k, a, none⟩ = some z := by
  obtain ⟨h0, h1, h2⟩ := hS
  refine ⟨?_, ?_, ?_⟩
  · rw [World.cell?_setCell_other _ _ _ _ (by intro e; injection e with e1; exact hk e1.symm)]
    exact h0
  · rw [World.cell?_setCell_other _ _ _ _ (by intro e; injection e with e1; exact hk e1.symm)]
    exact h1
  · rw [World.cell?_setCell_other _ _ _ _ (by intro e; injection e with _ e2; exact hab e2.symm)]
    exact h2
set_option maxRecDepth 100000 in
set_option maxHeartbeats 4000000 in
theorem rmoved_is (s : ByteArray) (a b c : Nat) (w : World) (hs : s.size = 90) (ha : a < 90) (hb : b < 90) (hab : a ≠ b) (hc : bAt s a = c) :
    Calls Tryz.prog 50 #[.string s, .agg #[.int .i64 (a : Int), .int .i64 (b : Int)]] w (Gives w (.string (movedS s a b c))) := by
  unfold Gives
  obtain ⟨W1, hW1⟩ : ∃ W1, w.alloc (.cells #[.int .i64 (a : Int), .int .i64 (b : Int)] 23) = W1 := ⟨_, rfl⟩
  have hB : Below w.heap.size w W1 := by rw [← hW1]; exact (by repeat (first | exact Below.refl _ _ | (refine Below.setCell ?_ (by first | omega | (simp; done) | (simp; omega) | (simp at *; omega)) _) | (refine Below.alloc ?_ (by first | omega | (simp; done) | (simp; omega) | (simp at *; omega)) _) | refine Below.drew ?_ | (refine below_drewN ?_ _) | (refine Below.trans ?_ (Below.mono (by assumption) (by first | omega | (simp; done) | (simp; omega) | (simp at *; omega))))))
  have bM : Blk W1 w.heap.size 23 #[.int .i64 (a : Int), .int .i64 (b : Int)] := by rw [← hW1]; exact Blk.new _ _ _ rfl
  have hsz : W1.heap.size = w.heap.size + 1 := by rw [← hW1]; simp
  have hk1 : w.heap.size ≠ W1.heap.size := by omega
  have hk3 : w.heap.size ≤ W1.heap.size := by omega
  have HW := Lib.hid hW1
  clear hsz hW1
  obtain ⟨C, W2, hconv, hcell, hfr, hbel⟩ := bytes_of s W1 hs
  have bM2 := bM.next hbel
  have ca := hcell a ha
  have cb := hcell b hb
  rw [hc] at ca
  have hba : b ≠ a := fun e => hab e.symm
  have fa := hfr a ha
  have fb := hfr b hb
  have m0 : W2.cell? ⟨w.heap.size, 0, none⟩ = some (.int .i64 (a : Int)) := bM2.cell 0
  have m1 : W2.cell? ⟨w.heap.size, 1, none⟩ = some (.int .i64 (b : Int)) := bM2.cell 1
  have ha0 : (0 : Int) ≤ (a : Int) := by omega
  have hb0 : (0 : Int) ≤ (b : Int) := by omega
  have ha9 : (a : Int) < 90 := by omega
  have hb9 : (b : Int) < 90 := by omega
  go_enter Tryz.func50, Tryz.ntmps50
  go_wp2_with fail
  rw [HW.out, hconv]
  go_wp2_with fail
  have hS : W2.drew.cell? ⟨w.heap.size, 0, none⟩ = some (.int .i64 (a : Int)) ∧ W2.drew.cell? ⟨w.heap.size, 1, none⟩ = some (.int .i64 (b : Int)) ∧ W2.drew.cell? ⟨W1.heap.size, a, none⟩ = some (.int .u8 (c : Int)) := ⟨m0, m1, ca⟩
  have cb' : W2.drew.cell? ⟨W1.heap.size, b, none⟩ = some (.int .u8 (bAt s b : Nat)) := cb
  have fb' : W2.drew.frozen? ⟨W1.heap.size, b, none⟩ = false := fb
  go_region_held3 (fun W => W.cell? ⟨w.heap.size, 0, none⟩ = some (.int .i64 (a : Int)) ∧ W.cell? ⟨w.heap.size, 1, none⟩ = some (.int .i64 (b : Int)) ∧ W.cell? ⟨W1.heap.size, a, none⟩ = some (.int .u8 (c : Int)))
    (first | exact hS | exact mv6_set (by assumption) hk1 hab _)
    (fail)
  obtain ⟨W3, hW3⟩ : ∃ W3, (W2.setCell ⟨W1.heap.size, b, none⟩ (.int .u8 (c : Int))).drew = W3 := ⟨_, rfl⟩
  rename_i hh
  rw [hW3] at hh ⊢
  obtain ⟨n0, n1, na⟩ := hh
  have fa3 : W3.frozen? ⟨W1.heap.size, a, none⟩ = false := by rw [← hW3]; simpa using fa
  clear hS cb' fb'
  go_wp2_with fail
  have hback : (convert 87 9 (.slice (some ⟨W1.heap.size, 0, none⟩) 90 C)).run Tryz.prog (W3.setCell ⟨W1.heap.size, a, none⟩ (.int .u8 46)) = .ok (.string (movedS s a b c)) (W3.setCell ⟨W1.heap.size, a, none⟩ (.int .u8 46)) := by
    have hlen : s.data.toList.length = 90 := by simpa using hs
    have hmv : movedS s a b c = ⟨((s.data.toList.set a (UInt8.ofNat 46)).set b (UInt8.ofNat c)).toArray⟩ := by simp [movedS, putS]
    rw [hmv]
    refine string_of (W3.setCell ⟨W1.heap.size, a, none⟩ (.int .u8 46)) W1.heap.size C _ (by rw [List.length_set, List.length_set]; exact hlen) fun i hi => ?_
    have hc256 : c < 256 := by rw [← hc]; exact bAt_lt s a
    by_cases e2 : i = a
    · subst e2
      rw [World.cell?_setCell_same' _ _ _ (by rw [na]; rfl), List.getElem_set_ne hba, List.getElem_set_self]
      rfl
    · rw [World.cell?_setCell_other _ _ _ _ (by intro e; injection e with _ e3; exact e2 e3.symm), ← hW3]
      show World.cell? (W2.setCell ⟨W1.heap.size, b, none⟩ (.int .u8 (c : Int))) _ = _
      by_cases e1 : i = b
      · subst e1
        rw [World.cell?_setCell_same' _ _ _ (by rw [cb]; rfl), List.getElem_set_self, UInt8.toNat_ofNat_of_lt' (by omega)]
      · rw [World.cell?_setCell_other _ _ _ _ (by intro e; injection e with _ e3; exact e1 e3.symm), hcell i hi, List.getElem_set_ne (fun e => e1 e.symm), List.getElem_set_ne (fun e => e2 e.symm), bAt_list]
  have hBf : Below w.heap.size w (W3.setCell ⟨W1.heap.size, a, none⟩ (.int .u8 46)) := by
    rw [← hW3]
    exact (((hB.trans (hbel.mono hB.size)).setCell (p := ⟨W1.heap.size, b, none⟩) hk3 _).drew).setCell (p := ⟨W1.heap.size, a, none⟩) hk3 _
  rw [hback]
  clear hback hW3 hcell hfr hconv
  go_wp2
  go_ret
  exact ⟨rfl, hBf⟩
theorem rmoved_any (s : ByteArray) (a b c : Nat) (t : ByteArray) (w : World) (hs : s.size = 90) (ha : a < 90) (hb : b < 90) (hab : a ≠ b) (hc : bAt s a = c) (ht : movedS s a b c = t) :
    Calls Tryz.prog 50 #[.string s, .agg #[.int .i64 (a : Int), .int .i64 (b : Int)]] w (Gives w (.string t)) := by subst ht; exact rmoved_is s a b c w hs ha hb hab hc
end Go.Proofs.YtnpenlmlggpemaaGreatDoor
