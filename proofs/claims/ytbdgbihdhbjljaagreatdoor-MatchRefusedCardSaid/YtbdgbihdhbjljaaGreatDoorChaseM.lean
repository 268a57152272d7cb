/- Merged: ChaseA ChaseP ChaseQ ChaseB ChaseC ChaseD ChaseE ChaseF ChaseG. -/
import Derived.Test.YtbdgbihdhbjljaaGreatDoorGuardM
import Derived.Test.YtbdgbihdhbjljaaGreatDoorCheckM
import Derived.Test.YtbdgbihdhbjljaaGreatDoorBoardO

namespace Go.Proofs.YtbdgbihdhbjljaaGreatDoor

/-- Of moment: the taker's kind, the taken one's. -/
def momentB (s : ByteArray) (a b : Nat) : Bool := (kindN (bAt s a) != 75 && kindN (bAt s a) != 80) && (kindN (bAt s b) != 80 || overB (b : Int) (sideN (bAt s b)))
def worthB (s : ByteArray) (a b : Nat) : Bool := ((kindN (bAt s a) == 78 || kindN (bAt s a) == 67) && kindN (bAt s b) == 82) || !guardB s a b
def fairB (s : ByteArray) (a b : Nat) : Bool := kindN (bAt s a) != kindN (bAt s b) || !couldB s (sideN (bAt s b)) b a
/-- Whether a capture threatens what it takes. -/
def threatB (s : ByteArray) (a b : Nat) : Bool := ((bAt s b != 46) && couldB s (sideN (bAt s a)) a b) && momentB s a b && worthB s a b && fairB s a b
def threatI (s : ByteArray) (a b : Int) : Bool := isB s && sqI a && sqI b && threatB s a.toNat b.toNat
/-- What a side chases. -/
def chasedB (s : ByteArray) (side : Int) (n : Nat) : Bool := (takesG s side).any fun m => m.2 == n && threatB s m.1 m.2
def chasedL (s : ByteArray) (side : Int) : List Int := trues (chasedB s side) 90

theorem threatI_nat {s : ByteArray} (hs : isB s = true) {a b : Nat} (ha : a < 90) (hb : b < 90) : threatI s (a : Int) (b : Int) = threatB s a b := by
  unfold threatI
  rw [hs, sqI_true (by omega), sqI_true (by omega), Int.toNat_natCast, Int.toNat_natCast]
  rfl
theorem threat_parts {s : ByteArray} {a b : Nat} : threatB s a b = true ↔ bAt s b ≠ 46 ∧ couldB s (sideN (bAt s a)) a b = true ∧ momentB s a b = true ∧ worthB s a b = true ∧ fairB s a b = true := by
  unfold threatB
  simp only [Bool.and_eq_true, bne_iff_ne, ne_eq]
  constructor
  · rintro ⟨⟨⟨⟨h1, h2⟩, h3⟩, h4⟩, h5⟩
    exact ⟨h1, h2, h3, h4, h5⟩
  · rintro ⟨h1, h2, h3, h4, h5⟩
    exact ⟨⟨⟨⟨h1, h2⟩, h3⟩, h4⟩, h5⟩
theorem chased_none {s : ByteArray} {side : Int} (h : isB s = false ∨ ¬ (side = 0 ∨ side = 1)) : chasedL s side = [] := by
  have e : takesG s side = [] := by
    unfold takesG
    rw [if_neg]
    rintro h1
    rw [Bool.and_eq_true, Bool.or_eq_true, beq_iff_eq, beq_iff_eq] at h1
    rcases h with h | h
    · rw [h] at h1
      cases h1.1
    · exact h h1.2
  unfold chasedL trues
  rw [List.map_eq_nil_iff, List.filter_eq_nil_iff]
  intro n _
  unfold chasedB
  rw [e]
  simp
/-- What is chased could be taken by a threat. -/
theorem chased_mem {s : ByteArray} {side : Int} {n : Nat} (h : chasedB s side n = true) : ∃ a, (a, n) ∈ takesG s side ∧ threatB s a n = true := by
  unfold chasedB at h
  rw [List.any_eq_true] at h
  obtain ⟨⟨a, b⟩, hm, h⟩ := h
  rw [Bool.and_eq_true, beq_iff_eq] at h
  obtain ⟨h1, h2⟩ := h
  have h1 : b = n := h1
  subst h1
  exact ⟨a, hm, h2⟩
/-- Seen from the other side. -/
theorem threat_turn {s : ByteArray} (hs : isB s = true) (h : Few1 s) {a b : Nat} (ha : a < 90) (hb : b < 90) {side : Int} (hc : couldB s side a b = true) (h46 : bAt s b ≠ 46) : threatB (turnB s) (89 - a) (89 - b) = threatB s a b := by
  have hsd := could_sides hc
  have e1 := (could_parts.1 hc).1
  have e2 := could_to hs hb hc h46
  have t1 : sideN (bAt (turnB s) (89 - a)) = 1 - side := by
    rw [side_turn hs ha hsd]
    exact e1
  have t2 : sideN (bAt (turnB s) (89 - b)) = 1 - (1 - side) := by
    rw [side_turn hs hb (side := 1 - side) (by omega)]
    exact e2
  unfold threatB momentB worthB fairB
  rw [t1, t2, e1, e2, could_turn hs h hsd ha hb, guard_turn hs h ha hb hc, could_turn hs h (side := 1 - side) (by omega) hb ha, turn_bAt hs ha, turn_bAt hs hb, swap_kind, swap_kind, swap_empty, over_turn2 hb (x := 1 - side) (y := 1 - (1 - side)) (by omega) rfl]
theorem chased_turn {s : ByteArray} (hs : isB s = true) (h : Few1 s) {side : Int} (hsd : side = 0 ∨ side = 1) {n : Nat} (hn : n < 90) : chasedB (turnB s) (1 - side) (89 - n) = chasedB s side n := by
  unfold chasedB
  rw [takes_turn hs h hsd, List.any_reverse, List.any_map]
  have : ∀ l : List (Nat × Nat), (∀ m ∈ l, m ∈ takesG s side) → (l.any ((fun m => m.2 == 89 - n && threatB (turnB s) m.1 m.2) ∘ turnM)) = l.any fun m => m.2 == n && threatB s m.1 m.2 := fun l hl => by
    induction l with
    | nil => rfl
    | cons x r ih =>
      rw [List.any_cons, List.any_cons, ih fun m hm => hl m (List.mem_cons_of_mem _ hm)]
      congr 1
      obtain ⟨a, b⟩ := x
      obtain ⟨_, ha, hb, hc, h46⟩ := takes_mem.1 (hl (a, b) (by simp))
      show ((89 - b == 89 - n) && threatB (turnB s) (89 - a) (89 - b)) = ((b == n) && threatB s a b)
      rw [threat_turn hs h ha hb hc h46]
      congr 1
      rw [Bool.eq_iff_iff, beq_iff_eq, beq_iff_eq]
      omega
  exact this _ fun m hm => hm
end Go.Proofs.YtbdgbihdhbjljaaGreatDoor

namespace Go.Proofs.YtbdgbihdhbjljaaGreatDoor

/-- The squares of what a side chases, as numbers. -/
def chasedN (s : ByteArray) (side : Int) : List Nat := (List.range 90).filter (chasedB s side)
theorem chasedL_map (s : ByteArray) (side : Int) : chasedL s side = (chasedN s side).map fun n : Nat => (n : Int) := rfl
theorem chasedN_len (s : ByteArray) (side : Int) : (chasedN s side).length ≤ 90 := Nat.le_trans (List.length_filter_le _ _) (by simp)
theorem chasedN_at {s : ByteArray} {side : Int} {k : Nat} (h : k < (chasedN s side).length) : (chasedN s side)[k] < 90 ∧ chasedB s side (chasedN s side)[k] = true := by
  have := List.mem_filter.1 (List.getElem_mem h)
  exact ⟨List.mem_range.1 this.1, this.2⟩
theorem chasedN_next {s : ByteArray} {side : Int} {k : Nat} (h : k + 1 < (chasedN s side).length) : (chasedN s side)[k] < (chasedN s side)[k + 1] := by
  unfold chasedN at h ⊢
  exact List.pairwise_iff_getElem.1 (List.Pairwise.filter _ List.pairwise_lt_range) k (k + 1) (by omega) h (by omega)
theorem chasedN_turn {s : ByteArray} (hs : isB s = true) (h : Few1 s) {side : Int} (hsd : side = 0 ∨ side = 1) : chasedN (turnB s) (1 - side) = ((chasedN s side).map fun k => 89 - k).reverse := by
  unfold chasedN
  rw [← filt_back]
  refine List.filter_congr fun b hb => ?_
  have hb := List.mem_range.1 hb
  have := chased_turn hs h hsd (n := 89 - b) (by omega)
  rw [show 89 - (89 - b) = b by omega] at this
  exact this
/-- What is chased is of the other side, no general, and no pawn at home. -/
theorem chased_kind {s : ByteArray} {side : Int} {n : Nat} (h : chasedB s side n = true) : isB s = true ∧ n < 90 ∧ (side = 0 ∨ side = 1) ∧ sideN (bAt s n) = 1 - side ∧ kindN (bAt s n) ≠ 75 ∧ (kindN (bAt s n) = 80 → overB (n : Int) (1 - side) = true) := by
  obtain ⟨a, hm, ht⟩ := chased_mem h
  obtain ⟨hs, ha, hn, hc, h46⟩ := takes_mem.1 hm
  have hsd := could_sides hc
  have hto := could_to hs hn hc h46
  refine ⟨hs, hn, hsd, hto, (could_parts.1 hc).2.2.1, fun h80 => ?_⟩
  have := (threat_parts.1 ht).2.2.1
  unfold momentB at this
  simp only [Bool.and_eq_true, Bool.or_eq_true, bne_iff_ne] at this
  rcases this.2 with h | h
  · exact absurd h80 h
  · rw [hto] at h
    exact h
theorem few_of_well {s : ByteArray} {side clock full : Int} (h : wellN s side clock full = 0) : Few1 s := by
  obtain ⟨_, hc, _⟩ := check_zero (well_zero h).1
  obtain ⟨_, h1, h2⟩ := counts_parts hc
  exact ⟨by omega, by omega⟩
end Go.Proofs.YtbdgbihdhbjljaaGreatDoor

namespace Go.Proofs.YtbdgbihdhbjljaaGreatDoor
open Go.RowKit Go.Shelf
open M (S)

/-- What a move did, plainly. -/
def plyC (s : ByteArray) (side clock full : Int) : Bool := decide (wellN s side clock full = 0) && inB s side
def plyL (s : ByteArray) (side clock full : Int) : List Int := if wellN s side clock full = 0 ∧ inB s side = false then chasedL s (1 - side) else []
def GivesP (w : World) (c : Bool) (l : List Int) (k : Int) (e : Ending) (w' : World) : Prop := ∃ A cap, e = .returned (.tuple #[.agg #[.bool c, .slice A l.length cap], .int .i64 k]) ∧ Rd w' A (l.map iv) ∧ Below w.heap.size w w'
theorem ply_bad {s : ByteArray} {side clock full : Int} (h : wellN s side clock full ≠ 0) : plyC s side clock full = false ∧ plyL s side clock full = [] := by
  unfold plyC plyL
  rw [decide_eq_false h, if_neg fun e => h e.1]
  exact ⟨rfl, rfl⟩
theorem ply_check {s : ByteArray} {side clock full : Int} (h : wellN s side clock full = 0) (hi : inB s side = true) : plyC s side clock full = true ∧ plyL s side clock full = [] := by
  unfold plyC plyL
  rw [decide_eq_true h, hi, if_neg fun e => by cases e.2]
  exact ⟨rfl, rfl⟩
theorem ply_quiet {s : ByteArray} {side clock full : Int} (h : wellN s side clock full = 0) (hi : inB s side = false) : plyC s side clock full = false ∧ plyL s side clock full = chasedL s (1 - side) := by
  unfold plyC plyL
  rw [decide_eq_true h, hi, if_pos ⟨h, rfl⟩]
  exact ⟨rfl, rfl⟩
theorem rd_none (W : World) (A : Option Addr) : Rd W A (([] : List Int).map iv) := fun j u hu => by simp at hu
theorem rd_far {W : World} {A : Option Addr} {b : Nat} {xs : List Value} (h : Rd W A xs) (i : Nat) (u : Value) (hne : ∀ ad, A = some ad → b < ad.block) : Rd (W.setCell ⟨b, i, none⟩ u) A xs := fun j x hx => by
  obtain ⟨ad, ha, hc⟩ := h j x hx
  refine ⟨ad, ha, ?_⟩
  have hb := hne ad ha
  rw [World.cell?_setCell_other (h := fun e => by
    have e1 := congrArg Addr.block e
    have e2 : (ad.add j).block = ad.block := by
      unfold Addr.add
      split <;> rfl
    rw [e2] at e1
    have : b = ad.block := by first | exact e1 | exact e1.symm
    omega)]
  exact hc
theorem ply_cells {W : World} {g : Nat} {t : TypeId} {b x : Value} (h : Blk W g t #[b, x]) : W.cell? ⟨g, 0, none⟩ = some b ∧ W.cell? ⟨g, 1, none⟩ = some x := ⟨h.cell 0, h.cell 1⟩
theorem ply_frozen {W : World} {g : Nat} {t : TypeId} {cs : Array Value} (h : Blk W g t cs) : W.frozen? ⟨g, 0, none⟩ = false ∧ W.frozen? ⟨g, 1, none⟩ = false := ⟨h.frozen 0, h.frozen 1⟩
end Go.Proofs.YtbdgbihdhbjljaaGreatDoor

namespace Go.Proofs.YtbdgbihdhbjljaaGreatDoor
open Go.RowKit Go.Shelf
open M (S)

/-- The four conditions, of what stands there. -/
def must1 (s : ByteArray) (a b : Int) (x y : Nat) : Bool := (y != 46) && couldI s (sideN x) a b
def must2 (b : Int) (x y : Nat) : Bool := (kindN x != 75 && kindN x != 80) && (kindN y != 80 || overB b (sideN y))
def must3 (s : ByteArray) (a b : Int) (x y : Nat) : Bool := ((kindN x == 78 || kindN x == 67) && kindN y == 82) || !guardI s a b
def must4 (s : ByteArray) (a b : Int) (x y : Nat) : Bool := kindN x != kindN y || !couldI s (sideN y) b a
abbrev capV (s : ByteArray) (a b : Int) (x y : Nat) : Value := .agg #[.string s, .int .i64 a, .int .i64 b, .int .u8 (x : Int), .int .u8 (y : Int)]
abbrev CapS (w : World) (s : ByteArray) (a b : Int) (x y : Nat) (W : World) : Prop := W.cell? ⟨w.heap.size, 0, none⟩ = some (.string s) ∧ W.cell? ⟨w.heap.size, 1, none⟩ = some (.int .i64 a) ∧ W.cell? ⟨w.heap.size, 2, none⟩ = some (.int .i64 b) ∧ W.cell? ⟨w.heap.size, 3, none⟩ = some (.int .u8 (x : Int)) ∧ W.cell? ⟨w.heap.size, 4, none⟩ = some (.int .u8 (y : Int)) ∧ Tab W ∧ Below w.heap.size w W
theorem cap_keep {w : World} {s : ByteArray} {a b : Int} {x y : Nat} {W W' : World} (h : CapS w s a b x y W) (hb : Below W.heap.size W W') : CapS w s a b x y W' := by
  obtain ⟨h0, h1, h2, h3, h4, h5, h6⟩ := h
  exact ⟨(hb.cell (p := ⟨w.heap.size, 0, none⟩) (cell_lt h0)).trans h0, (hb.cell (p := ⟨w.heap.size, 1, none⟩) (cell_lt h1)).trans h1, (hb.cell (p := ⟨w.heap.size, 2, none⟩) (cell_lt h2)).trans h2, (hb.cell (p := ⟨w.heap.size, 3, none⟩) (cell_lt h3)).trans h3, (hb.cell (p := ⟨w.heap.size, 4, none⟩) (cell_lt h4)).trans h4, h5.next hb, h6.trans (hb.mono h6.size)⟩
theorem cap_tab {w : World} {s : ByteArray} {a b : Int} {x y : Nat} {W : World} (h : CapS w s a b x y W) : Tab W := h.2.2.2.2.2.1
theorem cap_below {w : World} {s : ByteArray} {a b : Int} {x y : Nat} {W : World} (h : CapS w s a b x y W) : Below w.heap.size w W := h.2.2.2.2.2.2
theorem cap_start (w : World) (s : ByteArray) (a b : Int) (x y : Nat) (hT : Tab w) : CapS w s a b x y (w.alloc (.cells #[.string s, .int .i64 a, .int .i64 b, .int .u8 (x : Int), .int .u8 (y : Int)] 182)) := by
  have bC : Blk (w.alloc (.cells #[.string s, .int .i64 a, .int .i64 b, .int .u8 (x : Int), .int .u8 (y : Int)] 182)) w.heap.size 182 #[.string s, .int .i64 a, .int .i64 b, .int .u8 (x : Int), .int .u8 (y : Int)] := Blk.new _ _ _ rfl
  exact ⟨bC.cell 0, bC.cell 1, bC.cell 2, bC.cell 3, bC.cell 4, hT.next (below_new _ _), below_new _ _⟩
theorem kind_g (c k : Nat) (w : World) (h : kindN c = k) : Calls Tryz.prog 130 #[.int .u8 (c : Int)] w (Gives w (.int .u8 (k : Int))) := (kind_is c k w h).mono fun _ _ ⟨a, b⟩ => ⟨a, b ▸ Below.refl _ _⟩
theorem kind_h (c k : Nat) (w : World) (h : Hid (kindN c = k)) : Calls Tryz.prog 130 #[.int .u8 (c : Int)] w (Gives w (.int .u8 (k : Int))) := kind_g c k w h.out
set_option maxRecDepth 100000 in
set_option maxHeartbeats 8000000 in
theorem could_be (s : ByteArray) (a b : Int) (x y : Nat) (v : Bool) (w : World) (hT : Tab w) (h : must1 s a b x y = v) : Calls Tryz.prog 244 #[capV s a b x y] w (Gives w (.bool v)) := by
  unfold Gives
  obtain ⟨W0, hW0⟩ : ∃ W0, w.alloc (.cells #[.string s, .int .i64 a, .int .i64 b, .int .u8 (x : Int), .int .u8 (y : Int)] 182) = W0 := ⟨_, rfl⟩
  have hS0 := cap_start w s a b x y hT
  rw [hW0] at hS0
  have HW := Lib.hid hW0
  unfold must1 at h
  obtain ⟨p0, p1, p2, p3, p4, hT0, hB⟩ := hS0
  by_cases h46 : y = 46
  · have e46 : ((y : Int) != 46) = false := by rw [h46]; rfl
    have hv : v = false := by rw [← h, h46]; rfl
    subst hv
    clear h h46 hW0
    go_enter Tryz.func244, Tryz.ntmps244
    go_wp2_with fail
    rw [HW.out]
    go_quiet (fail)
    go_wp2
    go_ret
    exact ⟨rfl, below_drewN hB _⟩
  · have e46 : ((y : Int) != 46) = true := by rw [bne_iff_ne]; omega
    obtain ⟨k, hk⟩ : ∃ k, sideN x = k := ⟨_, rfl⟩
    have hy : (y != 46) = true := by rw [bne_iff_ne]; exact h46
    rw [hy, Bool.true_and, hk] at h
    have HK := Lib.hid hk
    have HV := Lib.hid h
    have hS : CapS w s a b x y W0.drew := cap_keep ⟨p0, p1, p2, p3, p4, hT0, hB⟩ (Below.refl _ _).drew
    clear h h46 hW0 hk hy p0 p1 p2 p3 p4 hT0 hB
    go_enter Tryz.func244, Tryz.ntmps244
    go_wp2_with fail
    rw [HW.out]
    go_region_held3 (fun W => W.cell? ⟨w.heap.size, 0, none⟩ = some (.string s) ∧ W.cell? ⟨w.heap.size, 1, none⟩ = some (.int .i64 a) ∧ W.cell? ⟨w.heap.size, 2, none⟩ = some (.int .i64 b) ∧ W.cell? ⟨w.heap.size, 3, none⟩ = some (.int .u8 (x : Int)) ∧ W.cell? ⟨w.heap.size, 4, none⟩ = some (.int .u8 (y : Int)) ∧ Tab W ∧ Below w.heap.size w W)
      (first | exact hS | exact cap_keep (by assumption) hb)
      (first
        | (go_at_call 175; refine (gside_g x k _ HK.out).mono ?_; rintro e w1 ⟨rfl, hb⟩)
        | (go_at_call 243; refine (gcan_is s k a b v _ ?_ HV.out).mono ?_; (exact cap_tab (by assumption)); rintro e w2 ⟨rfl, hb⟩))
    all_goals
      go_wp2
      go_ret
      exact ⟨rfl, cap_below (by assumption)⟩
set_option maxRecDepth 100000 in
set_option maxHeartbeats 8000000 in
theorem moment_no (s : ByteArray) (a b : Int) (x y k : Nat) (w : World) (hT : Tab w) (hk : kindN x = k) (h : k = 75 ∨ k = 80) : Calls Tryz.prog 245 #[capV s a b x y] w (Gives w (.bool false)) := by
  unfold Gives
  obtain ⟨W0, hW0⟩ : ∃ W0, w.alloc (.cells #[.string s, .int .i64 a, .int .i64 b, .int .u8 (x : Int), .int .u8 (y : Int)] 182) = W0 := ⟨_, rfl⟩
  have hS0 := cap_start w s a b x y hT
  rw [hW0] at hS0
  have HW := Lib.hid hW0
  obtain ⟨p0, p1, p2, p3, p4, hT0, hB⟩ := hS0
  have HK := Lib.hid hk
  clear hk hW0
  by_cases h75 : k = 75
  · have e1 : ((k : Int) == 75) = true := by rw [beq_iff_eq]; omega
    clear h h75
    go_enter Tryz.func245, Tryz.ntmps245
    go_wp2_with fail
    rw [HW.out]
    refine (kind_g x k _ HK.out).mono ?_
    rintro e w1 ⟨rfl, hb⟩
    go_wp2
    go_ret
    exact ⟨rfl, hB.trans (hb.mono hB.size)⟩
  · have h80 : k = 80 := by omega
    have e1 : ((k : Int) == 75) = false := by rw [beq_eq_false_iff_ne]; omega
    have e2 : ((k : Int) == 80) = true := by rw [beq_iff_eq]; omega
    clear h h75 h80
    go_enter Tryz.func245, Tryz.ntmps245
    go_wp2_with fail
    rw [HW.out]
    refine (kind_g x k _ HK.out).mono ?_
    rintro e w1 ⟨rfl, hb⟩
    go_wp2
    go_ret
    exact ⟨rfl, hB.trans (hb.mono hB.size)⟩
set_option maxRecDepth 100000 in
set_option maxHeartbeats 8000000 in
theorem moment_far (s : ByteArray) (a b : Int) (x y k l : Nat) (w : World) (hT : Tab w) (hk : kindN x = k) (h1 : k ≠ 75) (h2 : k ≠ 80) (hl : kindN y = l) (h3 : l ≠ 80) : Calls Tryz.prog 245 #[capV s a b x y] w (Gives w (.bool true)) := by
  unfold Gives
  obtain ⟨W0, hW0⟩ : ∃ W0, w.alloc (.cells #[.string s, .int .i64 a, .int .i64 b, .int .u8 (x : Int), .int .u8 (y : Int)] 182) = W0 := ⟨_, rfl⟩
  have hS0 := cap_start w s a b x y hT
  rw [hW0] at hS0
  have HW := Lib.hid hW0
  have HS0 := Lib.hid hS0
  obtain ⟨_, _, _, p3, _, _, _⟩ := hS0
  have HK := Lib.hid hk
  have HL := Lib.hid hl
  have e1 : ((k : Int) == 75) = false := by rw [beq_eq_false_iff_ne]; omega
  have e2 : ((k : Int) == 80) = false := by rw [beq_eq_false_iff_ne]; omega
  have e3 : ((l : Int) != 80) = true := by rw [bne_iff_ne]; omega
  clear hk hl h1 h2 h3 hW0
  go_enter Tryz.func245, Tryz.ntmps245
  go_wp2_with fail
  rw [HW.out]
  refine (kind_g x k _ HK.out).mono ?_
  rintro e w1 ⟨rfl, hb0⟩
  have hS := cap_keep (cap_keep HS0.out hb0) (Below.refl _ _).drew
  clear p3
  go_wp2_with fail
  refine wp_region_held_drew (S := fun W => W.cell? ⟨w.heap.size, 0, none⟩ = some (.string s) ∧ W.cell? ⟨w.heap.size, 1, none⟩ = some (.int .i64 a) ∧ W.cell? ⟨w.heap.size, 2, none⟩ = some (.int .i64 b) ∧ W.cell? ⟨w.heap.size, 3, none⟩ = some (.int .u8 (x : Int)) ∧ W.cell? ⟨w.heap.size, 4, none⟩ = some (.int .u8 (y : Int)) ∧ Tab W ∧ Below w.heap.size w W) (by kernel_rfl) (hS) (fun hHeld => ?_)
  refine wpAnyH_take (i := 0) (oi := { dst := some 9, op := Op.fieldAddr 182 (Operand.tmp 1) 3, type := 0, pos := "chase.go:82", after := #[], guard := none }) (v := ?_) rfl (by kernel_rfl) (by kernel_rfl) (by kernel_rfl) (fun _ _ _ h => h) (Or.inl ⟨by rfl, ?_⟩) (by assumption) ?_
  case refine_2 =>
    intro w hSw
    (try dsimp only at hSw)
    (try go_simp)
    all_goals (with_reducible rfl)
  (try dsimp only [Act.put]); (try simp only [List.setIfInBounds_toArray, List.set_cons_zero, List.set_cons_succ])
  refine wpAnyH_take (i := 1) (oi := { dst := some 10, op := Op.load 5 (Operand.tmp 9), type := 5, pos := "chase.go:82", after := #[{ on := 0, ground := Ground.data }], guard := none }) (v := ?_) rfl (by kernel_rfl) (by kernel_rfl) (by kernel_rfl) (fun _ _ _ h => h) (Or.inl ⟨by rfl, ?_⟩) (by assumption) ?_
  case refine_2 =>
    intro w hSw
    (try dsimp only at hSw)
    (try go_simp)
    all_goals (with_reducible rfl)
  (try dsimp only [Act.put]); (try simp only [List.setIfInBounds_toArray, List.set_cons_zero, List.set_cons_succ])
  refine wpAnyH_ready (rs := [2]) (by kernel_rfl) (by simp) (AllReadyH.cons (o := { dst := some 11, op := Op.call { callee := Callee.value (Operand.func 130), args := #[Operand.tmp 10], argTypes := #[5] }, type := 5, pos := "chase.go:82", after := #[{ on := 1, ground := Ground.data }], guard := none }) rfl (fun K hK => ?_) AllReadyH.nil)
  go_simp
  refine (kind_g y l _ HL.out).mono ?_; rintro e w2 ⟨rfl, hb⟩
  refine hK.out _ _ ?_ (fun hHeld => ?_)
  · exact cap_keep hHeld hb
  clear hK K
  refine wpAnyH_take (i := 3) (oi := { dst := some 12, op := Op.binOp BinOp.neq 5 (Operand.tmp 11) (Operand.const (Value.int IntKind.u8 80)) 5, type := 4, pos := "chase.go:82", after := #[{ on := 2, ground := Ground.data }], guard := none }) (v := ?_) rfl (by kernel_rfl) (by kernel_rfl) (by kernel_rfl) (fun _ _ _ h => h) (Or.inl ⟨by rfl, ?_⟩) (by assumption) ?_
  case refine_2 =>
    intro w hSw
    (try dsimp only at hSw)
    (try go_simp)
    all_goals (with_reducible rfl)
  (try dsimp only [Act.put]); (try simp only [List.setIfInBounds_toArray, List.set_cons_zero, List.set_cons_succ])
  refine wpAnyH_take (i := 4) (oi := { dst := some 13, op := Op.move (Operand.tmp 12), type := 4, pos := "chase.go:82", after := #[{ on := 3, ground := Ground.data }, { on := 2, ground := Ground.chain }], guard := none }) (v := ?_) rfl (by kernel_rfl) (by kernel_rfl) (by kernel_rfl) (fun _ _ _ h => h) (Or.inl ⟨by rfl, ?_⟩) (by assumption) ?_
  case refine_2 =>
    intro w hSw
    (try dsimp only at hSw)
    (try go_simp)
    all_goals (with_reducible rfl)
  (try dsimp only [Act.put]); (try simp only [List.setIfInBounds_toArray, List.set_cons_zero, List.set_cons_succ])
  refine wpAnyH_take (i := 5) (oi := { dst := some 14, op := Op.fieldAddr 182 (Operand.tmp 1) 1, type := 0, pos := "chase.go:82", after := #[{ on := 4, ground := Ground.guard }], guard := some (4, false) }) (v := undef) rfl (by kernel_rfl) (by kernel_rfl) (by kernel_rfl) (fun _ _ _ h => h) (Or.inr ⟨by rfl, rfl⟩) (by assumption) ?_
  (try dsimp only [Act.put]); (try simp only [List.setIfInBounds_toArray, List.set_cons_zero, List.set_cons_succ])
  refine wpAnyH_take (i := 6) (oi := { dst := some 15, op := Op.fieldAddr 48 (Operand.tmp 14) 1, type := 0, pos := "chase.go:82", after := #[{ on := 5, ground := Ground.data }, { on := 4, ground := Ground.guard }], guard := some (4, false) }) (v := undef) rfl (by kernel_rfl) (by kernel_rfl) (by kernel_rfl) (fun _ _ _ h => h) (Or.inr ⟨by rfl, rfl⟩) (by assumption) ?_
  (try dsimp only [Act.put]); (try simp only [List.setIfInBounds_toArray, List.set_cons_zero, List.set_cons_succ])
  refine wpAnyH_take (i := 7) (oi := { dst := some 16, op := Op.load 3 (Operand.tmp 15), type := 3, pos := "chase.go:82", after := #[{ on := 6, ground := Ground.data }, { on := 4, ground := Ground.guard }], guard := some (4, false) }) (v := undef) rfl (by kernel_rfl) (by kernel_rfl) (by kernel_rfl) (fun _ _ _ h => h) (Or.inr ⟨by rfl, rfl⟩) (by assumption) ?_
  (try dsimp only [Act.put]); (try simp only [List.setIfInBounds_toArray, List.set_cons_zero, List.set_cons_succ])
  refine wpAnyH_take (i := 8) (oi := { dst := some 17, op := Op.fieldAddr 182 (Operand.tmp 1) 3, type := 0, pos := "chase.go:82", after := #[{ on := 4, ground := Ground.guard }], guard := some (4, false) }) (v := undef) rfl (by kernel_rfl) (by kernel_rfl) (by kernel_rfl) (fun _ _ _ h => h) (Or.inr ⟨by rfl, rfl⟩) (by assumption) ?_
  (try dsimp only [Act.put]); (try simp only [List.setIfInBounds_toArray, List.set_cons_zero, List.set_cons_succ])
  refine wpAnyH_take (i := 9) (oi := { dst := some 18, op := Op.load 5 (Operand.tmp 17), type := 5, pos := "chase.go:82", after := #[{ on := 8, ground := Ground.data }, { on := 4, ground := Ground.guard }], guard := some (4, false) }) (v := undef) rfl (by kernel_rfl) (by kernel_rfl) (by kernel_rfl) (fun _ _ _ h => h) (Or.inr ⟨by rfl, rfl⟩) (by assumption) ?_
  (try dsimp only [Act.put]); (try simp only [List.setIfInBounds_toArray, List.set_cons_zero, List.set_cons_succ])
  refine wpAnyH_ready (rs := [10]) (by kernel_rfl) (by simp) (AllReadyH.cons (o := { dst := some 19, op := Op.call { callee := Callee.value (Operand.func 175), args := #[Operand.tmp 18], argTypes := #[5] }, type := 3, pos := "chase.go:82", after := #[{ on := 9, ground := Ground.data }, { on := 4, ground := Ground.chain }, { on := 4, ground := Ground.guard }], guard := some (4, false) }) rfl (fun K hK => ?_) AllReadyH.nil)
  split
  · rename_i hw
    exact Bool.noConfusion (show false = true from hw)
  refine hK.out _ _ ?_ (fun hHeld => ?_)
  · assumption
  clear hK K
  refine wpAnyH_ready (rs := [11]) (by kernel_rfl) (by simp) (AllReadyH.cons (o := { dst := some 20, op := Op.call { callee := Callee.value (Operand.func 212), args := #[Operand.tmp 16, Operand.tmp 19], argTypes := #[3, 3] }, type := 4, pos := "chase.go:82", after := #[{ on := 7, ground := Ground.data }, { on := 10, ground := Ground.data }, { on := 10, ground := Ground.chain }, { on := 4, ground := Ground.guard }], guard := some (4, false) }) rfl (fun K hK => ?_) AllReadyH.nil)
  split
  · rename_i hw
    exact Bool.noConfusion (show false = true from hw)
  refine hK.out _ _ ?_ (fun hHeld => ?_)
  · assumption
  clear hK K
  refine wpAnyH_take (i := 12) (oi := { dst := some 21, op := Op.pick (Operand.tmp 13) (Operand.const (Value.bool true)) (Operand.tmp 20), type := 4, pos := "chase.go:82", after := #[{ on := 4, ground := Ground.data }, { on := 11, ground := Ground.data }], guard := none }) (v := ?_) rfl (by kernel_rfl) (by kernel_rfl) (by kernel_rfl) (fun _ _ _ h => h) (Or.inl ⟨by rfl, ?_⟩) (by assumption) ?_
  case refine_2 =>
    intro w hSw
    (try dsimp only at hSw)
    (try go_simp)
    all_goals (with_reducible rfl)
  (try dsimp only [Act.put]); (try simp only [List.setIfInBounds_toArray, List.set_cons_zero, List.set_cons_succ])
  refine wpAnyH_take (i := 13) (oi := { dst := some 2, op := Op.assign (Operand.tmp 21), type := 4, pos := "chase.go:82", after := #[{ on := 12, ground := Ground.data }, { on := 11, ground := Ground.chain }, { on := 0, ground := Ground.phase }, { on := 1, ground := Ground.phase }, { on := 2, ground := Ground.phase }, { on := 3, ground := Ground.phase }, { on := 4, ground := Ground.phase }, { on := 5, ground := Ground.phase }, { on := 6, ground := Ground.phase }, { on := 7, ground := Ground.phase }, { on := 8, ground := Ground.phase }, { on := 9, ground := Ground.phase }, { on := 10, ground := Ground.phase }, { on := 11, ground := Ground.phase }, { on := 12, ground := Ground.phase }], guard := none }) (v := ?_) rfl (by kernel_rfl) (by kernel_rfl) (by kernel_rfl) (fun _ _ _ h => h) (Or.inl ⟨by rfl, ?_⟩) (by assumption) ?_
  case refine_2 =>
    intro w hSw
    (try dsimp only at hSw)
    (try go_simp)
    all_goals (with_reducible rfl)
  (try dsimp only [Act.put]); (try simp only [List.setIfInBounds_toArray, List.set_cons_zero, List.set_cons_succ])
  refine wpAnyH_done (by kernel_rfl) ?_ _
  go_wp2
  go_ret
  exact ⟨rfl, cap_below (by assumption)⟩
set_option maxRecDepth 100000 in
set_option maxHeartbeats 8000000 in
theorem moment_pawn (s : ByteArray) (a b : Int) (x y k l : Nat) (o : Int) (v : Bool) (w : World) (hT : Tab w) (hk : kindN x = k) (h1 : k ≠ 75) (h2 : k ≠ 80) (hl : kindN y = l) (h3 : l = 80) (ho : sideN y = o) (hv : overB b o = v) : Calls Tryz.prog 245 #[capV s a b x y] w (Gives w (.bool v)) := by
  unfold Gives
  obtain ⟨W0, hW0⟩ : ∃ W0, w.alloc (.cells #[.string s, .int .i64 a, .int .i64 b, .int .u8 (x : Int), .int .u8 (y : Int)] 182) = W0 := ⟨_, rfl⟩
  have hS0 := cap_start w s a b x y hT
  rw [hW0] at hS0
  have HW := Lib.hid hW0
  have HS0 := Lib.hid hS0
  obtain ⟨_, _, _, p3, _, _, _⟩ := hS0
  have HK := Lib.hid hk
  have HL := Lib.hid hl
  have HO := Lib.hid ho
  have HV := Lib.hid hv
  have e1 : ((k : Int) == 75) = false := by rw [beq_eq_false_iff_ne]; omega
  have e2 : ((k : Int) == 80) = false := by rw [beq_eq_false_iff_ne]; omega
  have e3 : ((l : Int) != 80) = false := by rw [h3]; rfl
  clear hk hl h1 h2 h3 hW0 ho hv
  go_enter Tryz.func245, Tryz.ntmps245
  go_wp2_with fail
  rw [HW.out]
  refine (kind_g x k _ HK.out).mono ?_
  rintro e w1 ⟨rfl, hb0⟩
  have hS := cap_keep (cap_keep HS0.out hb0) (Below.refl _ _).drew
  clear p3
  go_wp2_with fail
  refine wp_region_held_drew (S := fun W => W.cell? ⟨w.heap.size, 0, none⟩ = some (.string s) ∧ W.cell? ⟨w.heap.size, 1, none⟩ = some (.int .i64 a) ∧ W.cell? ⟨w.heap.size, 2, none⟩ = some (.int .i64 b) ∧ W.cell? ⟨w.heap.size, 3, none⟩ = some (.int .u8 (x : Int)) ∧ W.cell? ⟨w.heap.size, 4, none⟩ = some (.int .u8 (y : Int)) ∧ Tab W ∧ Below w.heap.size w W) (by kernel_rfl) (hS) (fun hHeld => ?_)
  refine wpAnyH_take (i := 0) (oi := { dst := some 9, op := Op.fieldAddr 182 (Operand.tmp 1) 3, type := 0, pos := "chase.go:82", after := #[], guard := none }) (v := ?_) rfl (by kernel_rfl) (by kernel_rfl) (by kernel_rfl) (fun _ _ _ h => h) (Or.inl ⟨by rfl, ?_⟩) (by assumption) ?_
  case refine_2 =>
    intro w hSw
    (try dsimp only at hSw)
    (try go_simp)
    all_goals (with_reducible rfl)
  (try dsimp only [Act.put]); (try simp only [List.setIfInBounds_toArray, List.set_cons_zero, List.set_cons_succ])
  refine wpAnyH_take (i := 1) (oi := { dst := some 10, op := Op.load 5 (Operand.tmp 9), type := 5, pos := "chase.go:82", after := #[{ on := 0, ground := Ground.data }], guard := none }) (v := ?_) rfl (by kernel_rfl) (by kernel_rfl) (by kernel_rfl) (fun _ _ _ h => h) (Or.inl ⟨by rfl, ?_⟩) (by assumption) ?_
  case refine_2 =>
    intro w hSw
    (try dsimp only at hSw)
    (try go_simp)
    all_goals (with_reducible rfl)
  (try dsimp only [Act.put]); (try simp only [List.setIfInBounds_toArray, List.set_cons_zero, List.set_cons_succ])
  refine wpAnyH_ready (rs := [2]) (by kernel_rfl) (by simp) (AllReadyH.cons (o := { dst := some 11, op := Op.call { callee := Callee.value (Operand.func 130), args := #[Operand.tmp 10], argTypes := #[5] }, type := 5, pos := "chase.go:82", after := #[{ on := 1, ground := Ground.data }], guard := none }) rfl (fun K hK => ?_) AllReadyH.nil)
  go_simp
  refine (kind_g y l _ HL.out).mono ?_; rintro e w2 ⟨rfl, hb⟩
  refine hK.out _ _ ?_ (fun hHeld => ?_)
  · exact cap_keep hHeld hb
  clear hK K
  refine wpAnyH_take (i := 3) (oi := { dst := some 12, op := Op.binOp BinOp.neq 5 (Operand.tmp 11) (Operand.const (Value.int IntKind.u8 80)) 5, type := 4, pos := "chase.go:82", after := #[{ on := 2, ground := Ground.data }], guard := none }) (v := ?_) rfl (by kernel_rfl) (by kernel_rfl) (by kernel_rfl) (fun _ _ _ h => h) (Or.inl ⟨by rfl, ?_⟩) (by assumption) ?_
  case refine_2 =>
    intro w hSw
    (try dsimp only at hSw)
    (try go_simp)
    all_goals (with_reducible rfl)
  (try dsimp only [Act.put]); (try simp only [List.setIfInBounds_toArray, List.set_cons_zero, List.set_cons_succ])
  refine wpAnyH_take (i := 4) (oi := { dst := some 13, op := Op.move (Operand.tmp 12), type := 4, pos := "chase.go:82", after := #[{ on := 3, ground := Ground.data }, { on := 2, ground := Ground.chain }], guard := none }) (v := ?_) rfl (by kernel_rfl) (by kernel_rfl) (by kernel_rfl) (fun _ _ _ h => h) (Or.inl ⟨by rfl, ?_⟩) (by assumption) ?_
  case refine_2 =>
    intro w hSw
    (try dsimp only at hSw)
    (try go_simp)
    all_goals (with_reducible rfl)
  (try dsimp only [Act.put]); (try simp only [List.setIfInBounds_toArray, List.set_cons_zero, List.set_cons_succ])
  refine wpAnyH_take (i := 5) (oi := { dst := some 14, op := Op.fieldAddr 182 (Operand.tmp 1) 1, type := 0, pos := "chase.go:82", after := #[{ on := 4, ground := Ground.guard }], guard := some (4, false) }) (v := ?_) rfl (by kernel_rfl) (by kernel_rfl) (by kernel_rfl) (fun _ _ _ h => h) (Or.inl ⟨by rfl, ?_⟩) (by assumption) ?_
  case refine_2 =>
    intro w hSw
    (try dsimp only at hSw)
    (try go_simp)
    all_goals (with_reducible rfl)
  (try dsimp only [Act.put]); (try simp only [List.setIfInBounds_toArray, List.set_cons_zero, List.set_cons_succ])
  refine wpAnyH_take (i := 6) (oi := { dst := some 15, op := Op.fieldAddr 48 (Operand.tmp 14) 1, type := 0, pos := "chase.go:82", after := #[{ on := 5, ground := Ground.data }, { on := 4, ground := Ground.guard }], guard := some (4, false) }) (v := ?_) rfl (by kernel_rfl) (by kernel_rfl) (by kernel_rfl) (fun _ _ _ h => h) (Or.inl ⟨by rfl, ?_⟩) (by assumption) ?_
  case refine_2 =>
    intro w hSw
    (try dsimp only at hSw)
    (try go_simp)
    all_goals (with_reducible rfl)
  (try dsimp only [Act.put]); (try simp only [List.setIfInBounds_toArray, List.set_cons_zero, List.set_cons_succ])
  refine wpAnyH_take (i := 7) (oi := { dst := some 16, op := Op.load 3 (Operand.tmp 15), type := 3, pos := "chase.go:82", after := #[{ on := 6, ground := Ground.data }, { on := 4, ground := Ground.guard }], guard := some (4, false) }) (v := ?_) rfl (by kernel_rfl) (by kernel_rfl) (by kernel_rfl) (fun _ _ _ h => h) (Or.inl ⟨by rfl, ?_⟩) (by assumption) ?_
  case refine_2 =>
    intro w hSw
    (try dsimp only at hSw)
    (try go_simp)
    all_goals (with_reducible rfl)
  (try dsimp only [Act.put]); (try simp only [List.setIfInBounds_toArray, List.set_cons_zero, List.set_cons_succ])
  refine wpAnyH_take (i := 8) (oi := { dst := some 17, op := Op.fieldAddr 182 (Operand.tmp 1) 3, type := 0, pos := "chase.go:82", after := #[{ on := 4, ground := Ground.guard }], guard := some (4, false) }) (v := ?_) rfl (by kernel_rfl) (by kernel_rfl) (by kernel_rfl) (fun _ _ _ h => h) (Or.inl ⟨by rfl, ?_⟩) (by assumption) ?_
  case refine_2 =>
    intro w hSw
    (try dsimp only at hSw)
    (try go_simp)
    all_goals (with_reducible rfl)
  (try dsimp only [Act.put]); (try simp only [List.setIfInBounds_toArray, List.set_cons_zero, List.set_cons_succ])
  refine wpAnyH_take (i := 9) (oi := { dst := some 18, op := Op.load 5 (Operand.tmp 17), type := 5, pos := "chase.go:82", after := #[{ on := 8, ground := Ground.data }, { on := 4, ground := Ground.guard }], guard := some (4, false) }) (v := ?_) rfl (by kernel_rfl) (by kernel_rfl) (by kernel_rfl) (fun _ _ _ h => h) (Or.inl ⟨by rfl, ?_⟩) (by assumption) ?_
  case refine_2 =>
    intro w hSw
    (try dsimp only at hSw)
    (try go_simp)
    all_goals (with_reducible rfl)
  (try dsimp only [Act.put]); (try simp only [List.setIfInBounds_toArray, List.set_cons_zero, List.set_cons_succ])
  refine wpAnyH_ready (rs := [10]) (by kernel_rfl) (by simp) (AllReadyH.cons (o := { dst := some 19, op := Op.call { callee := Callee.value (Operand.func 175), args := #[Operand.tmp 18], argTypes := #[5] }, type := 3, pos := "chase.go:82", after := #[{ on := 9, ground := Ground.data }, { on := 4, ground := Ground.chain }, { on := 4, ground := Ground.guard }], guard := some (4, false) }) rfl (fun K hK => ?_) AllReadyH.nil)
  go_simp
  refine (gside_g y o _ HO.out).mono ?_; rintro e w3 ⟨rfl, hb⟩
  refine hK.out _ _ ?_ (fun hHeld => ?_)
  · exact cap_keep hHeld hb
  clear hK K
  refine wpAnyH_ready (rs := [11]) (by kernel_rfl) (by simp) (AllReadyH.cons (o := { dst := some 20, op := Op.call { callee := Callee.value (Operand.func 212), args := #[Operand.tmp 16, Operand.tmp 19], argTypes := #[3, 3] }, type := 4, pos := "chase.go:82", after := #[{ on := 7, ground := Ground.data }, { on := 10, ground := Ground.data }, { on := 10, ground := Ground.chain }, { on := 4, ground := Ground.guard }], guard := some (4, false) }) rfl (fun K hK => ?_) AllReadyH.nil)
  go_simp
  refine (over_is b o v _ HV.out).mono ?_; rintro e w4 ⟨rfl, hb⟩
  refine hK.out _ _ ?_ (fun hHeld => ?_)
  · exact cap_keep hHeld hb
  clear hK K
  refine wpAnyH_take (i := 12) (oi := { dst := some 21, op := Op.pick (Operand.tmp 13) (Operand.const (Value.bool true)) (Operand.tmp 20), type := 4, pos := "chase.go:82", after := #[{ on := 4, ground := Ground.data }, { on := 11, ground := Ground.data }], guard := none }) (v := ?_) rfl (by kernel_rfl) (by kernel_rfl) (by kernel_rfl) (fun _ _ _ h => h) (Or.inl ⟨by rfl, ?_⟩) (by assumption) ?_
  case refine_2 =>
    intro w hSw
    (try dsimp only at hSw)
    (try go_simp)
    all_goals (with_reducible rfl)
  (try dsimp only [Act.put]); (try simp only [List.setIfInBounds_toArray, List.set_cons_zero, List.set_cons_succ])
  refine wpAnyH_take (i := 13) (oi := { dst := some 2, op := Op.assign (Operand.tmp 21), type := 4, pos := "chase.go:82", after := #[{ on := 12, ground := Ground.data }, { on := 11, ground := Ground.chain }, { on := 0, ground := Ground.phase }, { on := 1, ground := Ground.phase }, { on := 2, ground := Ground.phase }, { on := 3, ground := Ground.phase }, { on := 4, ground := Ground.phase }, { on := 5, ground := Ground.phase }, { on := 6, ground := Ground.phase }, { on := 7, ground := Ground.phase }, { on := 8, ground := Ground.phase }, { on := 9, ground := Ground.phase }, { on := 10, ground := Ground.phase }, { on := 11, ground := Ground.phase }, { on := 12, ground := Ground.phase }], guard := none }) (v := ?_) rfl (by kernel_rfl) (by kernel_rfl) (by kernel_rfl) (fun _ _ _ h => h) (Or.inl ⟨by rfl, ?_⟩) (by assumption) ?_
  case refine_2 =>
    intro w hSw
    (try dsimp only at hSw)
    (try go_simp)
    all_goals (with_reducible rfl)
  (try dsimp only [Act.put]); (try simp only [List.setIfInBounds_toArray, List.set_cons_zero, List.set_cons_succ])
  refine wpAnyH_done (by kernel_rfl) ?_ _
  go_wp2
  go_ret
  exact ⟨rfl, cap_below (by assumption)⟩
theorem of_moment (s : ByteArray) (a b : Int) (x y : Nat) (v : Bool) (w : World) (hT : Tab w) (h : must2 b x y = v) : Calls Tryz.prog 245 #[capV s a b x y] w (Gives w (.bool v)) := by
  subst h
  by_cases h75 : kindN x = 75
  · have e : must2 b x y = false := by
      unfold must2
      rw [h75]
      rfl
    rw [e]
    exact moment_no s a b x y _ w hT rfl (.inl h75)
  · by_cases h80 : kindN x = 80
    · have e : must2 b x y = false := by
        unfold must2
        rw [h80]
        rfl
      rw [e]
      exact moment_no s a b x y _ w hT rfl (.inr h80)
    · have e0 : (kindN x != 75 && kindN x != 80) = true := by
        rw [Bool.and_eq_true, bne_iff_ne, bne_iff_ne]
        exact ⟨h75, h80⟩
      by_cases hy : kindN y = 80
      · have e : must2 b x y = overB b (sideN y) := by
          unfold must2
          rw [e0, hy]
          rfl
        rw [e]
        exact moment_pawn s a b x y _ _ _ _ w hT rfl h75 h80 rfl hy rfl rfl
      · have e : must2 b x y = true := by
          unfold must2
          rw [e0, show (kindN y != 80) = true by rw [bne_iff_ne]; exact hy]
          rfl
        rw [e]
        exact moment_far s a b x y _ _ w hT rfl h75 h80 rfl hy
end Go.Proofs.YtbdgbihdhbjljaaGreatDoor

namespace Go.Proofs.YtbdgbihdhbjljaaGreatDoor
open Go.RowKit Go.Shelf
open M (S)

set_option maxRecDepth 100000 in
set_option maxHeartbeats 8000000 in
theorem worth_yes (s : ByteArray) (a b : Int) (x y k l : Nat) (w : World) (hT : Tab w) (hk : kindN x = k) (h1 : k = 78 ∨ k = 67) (hl : kindN y = l) (h2 : l = 82) : Calls Tryz.prog 246 #[capV s a b x y] w (Gives w (.bool true)) := by
  unfold Gives
  obtain ⟨W0, hW0⟩ : ∃ W0, w.alloc (.cells #[.string s, .int .i64 a, .int .i64 b, .int .u8 (x : Int), .int .u8 (y : Int)] 182) = W0 := ⟨_, rfl⟩
  have hS0 := cap_start w s a b x y hT
  rw [hW0] at hS0
  have HW := Lib.hid hW0
  have HS0 := Lib.hid hS0
  obtain ⟨_, _, _, p3, _, _, _⟩ := hS0
  have HK := Lib.hid hk
  have HL := Lib.hid hl
  have e3 : ((l : Int) == 82) = true := by rw [beq_iff_eq]; omega
  clear hk hl h2 hW0
  by_cases h78 : k = 78
  · have e1 : ((k : Int) == 78) = true := by rw [beq_iff_eq]; omega
    clear h1 h78
    go_enter Tryz.func246, Tryz.ntmps246
    go_wp2_with fail
    rw [HW.out]
    refine (kind_g x k _ HK.out).mono ?_
    rintro e w1 ⟨rfl, hb⟩
    obtain ⟨_, _, _, q3, q4, _, hB⟩ := cap_keep HS0.out hb
    clear p3 hb
    go_wp2_with fail
    refine (kind_g y l _ HL.out).mono ?_
    rintro e w2 ⟨rfl, hb⟩
    go_wp2
    go_ret
    exact ⟨rfl, hB.trans (hb.mono hB.size)⟩
  · have e1 : ((k : Int) == 78) = false := by rw [beq_eq_false_iff_ne]; omega
    have e2 : ((k : Int) == 67) = true := by rw [beq_iff_eq]; omega
    clear h1 h78
    go_enter Tryz.func246, Tryz.ntmps246
    go_wp2_with fail
    rw [HW.out]
    refine (kind_g x k _ HK.out).mono ?_
    rintro e w1 ⟨rfl, hb⟩
    obtain ⟨_, _, _, q3, q4, _, hB⟩ := cap_keep HS0.out hb
    clear p3 hb
    go_wp2_with fail
    refine (kind_g y l _ HL.out).mono ?_
    rintro e w2 ⟨rfl, hb⟩
    go_wp2
    go_ret
    exact ⟨rfl, hB.trans (hb.mono hB.size)⟩
set_option maxRecDepth 100000 in
set_option maxHeartbeats 8000000 in
theorem worth_not (s : ByteArray) (a b : Int) (x y k l : Nat) (g : Bool) (w : World) (hT : Tab w) (hk : kindN x = k) (hl : kindN y = l) (h : ¬ ((k = 78 ∨ k = 67) ∧ l = 82)) (hg : guardI s a b = g) : Calls Tryz.prog 246 #[capV s a b x y] w (Gives w (.bool (!g))) := by
  unfold Gives
  obtain ⟨W0, hW0⟩ : ∃ W0, w.alloc (.cells #[.string s, .int .i64 a, .int .i64 b, .int .u8 (x : Int), .int .u8 (y : Int)] 182) = W0 := ⟨_, rfl⟩
  have hS0 := cap_start w s a b x y hT
  rw [hW0] at hS0
  have HW := Lib.hid hW0
  have HS0 := Lib.hid hS0
  obtain ⟨_, _, _, p3, _, _, _⟩ := hS0
  have HK := Lib.hid hk
  have HL := Lib.hid hl
  have HG := Lib.hid hg
  clear hk hl hg hW0
  by_cases h1 : k = 78
  · have e1 : ((k : Int) == 78) = true := by rw [beq_iff_eq]; omega
    have e3 : ((l : Int) == 82) = false := by rw [beq_eq_false_iff_ne]; omega
    clear h h1
    go_enter Tryz.func246, Tryz.ntmps246
    go_wp2_with fail
    rw [HW.out]
    refine (kind_g x k _ HK.out).mono ?_
    rintro e w1 ⟨rfl, hb⟩
    have HS1 := Lib.hid (cap_keep HS0.out hb)
    obtain ⟨_, _, _, q3, q4, _, hB⟩ := HS1.out
    clear p3 hb
    go_wp2_with fail
    refine (kind_g y l _ HL.out).mono ?_
    rintro e w2 ⟨rfl, hb⟩
    obtain ⟨r0, r1, r2, _, _, hT2, hB2⟩ := cap_keep HS1.out hb
    clear q3 q4 hb hB
    go_wp2_with fail
    refine (gguard_is s a b g _ hT2 HG.out).mono ?_
    rintro e w3 ⟨rfl, hb⟩
    go_wp2
    go_ret
    exact ⟨rfl, hB2.trans (hb.mono hB2.size)⟩
  · by_cases h2 : k = 67
    · have e1 : ((k : Int) == 78) = false := by rw [beq_eq_false_iff_ne]; omega
      have e2 : ((k : Int) == 67) = true := by rw [beq_iff_eq]; omega
      have e3 : ((l : Int) == 82) = false := by rw [beq_eq_false_iff_ne]; omega
      clear h h1 h2
      go_enter Tryz.func246, Tryz.ntmps246
      go_wp2_with fail
      rw [HW.out]
      refine (kind_g x k _ HK.out).mono ?_
      rintro e w1 ⟨rfl, hb⟩
      have HS1 := Lib.hid (cap_keep HS0.out hb)
      obtain ⟨_, _, _, q3, q4, _, hB⟩ := HS1.out
      clear p3 hb
      go_wp2_with fail
      refine (kind_g y l _ HL.out).mono ?_
      rintro e w2 ⟨rfl, hb⟩
      obtain ⟨r0, r1, r2, _, _, hT2, hB2⟩ := cap_keep HS1.out hb
      clear q3 q4 hb hB
      go_wp2_with fail
      refine (gguard_is s a b g _ hT2 HG.out).mono ?_
      rintro e w3 ⟨rfl, hb⟩
      go_wp2
      go_ret
      exact ⟨rfl, hB2.trans (hb.mono hB2.size)⟩
    · have e1 : ((k : Int) == 78) = false := by rw [beq_eq_false_iff_ne]; omega
      have e2 : ((k : Int) == 67) = false := by rw [beq_eq_false_iff_ne]; omega
      clear h h1 h2
      go_enter Tryz.func246, Tryz.ntmps246
      go_wp2_with fail
      rw [HW.out]
      refine (kind_g x k _ HK.out).mono ?_
      rintro e w1 ⟨rfl, hb⟩
      obtain ⟨r0, r1, r2, _, _, hT2, hB2⟩ := cap_keep HS0.out hb
      clear p3 hb
      go_wp2_with fail
      refine (gguard_is s a b g _ hT2 HG.out).mono ?_
      rintro e w3 ⟨rfl, hb⟩
      go_wp2
      go_ret
      exact ⟨rfl, hB2.trans (hb.mono hB2.size)⟩
theorem of_worth (s : ByteArray) (a b : Int) (x y : Nat) (v : Bool) (w : World) (hT : Tab w) (h : must3 s a b x y = v) : Calls Tryz.prog 246 #[capV s a b x y] w (Gives w (.bool v)) := by
  subst h
  by_cases hc : (kindN x = 78 ∨ kindN x = 67) ∧ kindN y = 82
  · have e : must3 s a b x y = true := by
      unfold must3
      rw [hc.2]
      rcases hc.1 with h | h <;> rw [h] <;> rfl
    rw [e]
    exact worth_yes s a b x y _ _ w hT rfl hc.1 rfl hc.2
  · have e : must3 s a b x y = !guardI s a b := by
      unfold must3
      have : ((kindN x == 78 || kindN x == 67) && kindN y == 82) = false := by
        rw [Bool.eq_false_iff]
        intro h
        simp only [Bool.and_eq_true, Bool.or_eq_true, beq_iff_eq] at h
        exact hc h
      rw [this, Bool.false_or]
    rw [e]
    exact worth_not s a b x y _ _ _ w hT rfl rfl hc rfl
abbrev FairS (w : World) (s : ByteArray) (a b : Int) (x y : Nat) (W : World) : Prop := CapS w s a b x y W ∧ W.cell? ⟨w.heap.size + 1, 0, none⟩ = some (.int .i64 b) ∧ W.cell? ⟨w.heap.size + 1, 1, none⟩ = some (.int .i64 a)
theorem fair_keep {w : World} {s : ByteArray} {a b : Int} {x y : Nat} {W W' : World} (h : (W.cell? ⟨w.heap.size, 0, none⟩ = some (.string s) ∧ W.cell? ⟨w.heap.size, 1, none⟩ = some (.int .i64 a) ∧ W.cell? ⟨w.heap.size, 2, none⟩ = some (.int .i64 b) ∧ W.cell? ⟨w.heap.size, 3, none⟩ = some (.int .u8 (x : Int)) ∧ W.cell? ⟨w.heap.size, 4, none⟩ = some (.int .u8 (y : Int)) ∧ Tab W ∧ Below w.heap.size w W) ∧ W.cell? ⟨w.heap.size + 1, 0, none⟩ = some (.int .i64 b) ∧ W.cell? ⟨w.heap.size + 1, 1, none⟩ = some (.int .i64 a)) (hb : Below W.heap.size W W') : FairS w s a b x y W' :=
  ⟨cap_keep h.1 hb, (hb.cell (p := ⟨w.heap.size + 1, 0, none⟩) (cell_lt h.2.1)).trans h.2.1, (hb.cell (p := ⟨w.heap.size + 1, 1, none⟩) (cell_lt h.2.2)).trans h.2.2⟩
theorem fair_start (w : World) (s : ByteArray) (a b : Int) (x y : Nat) (hT : Tab w) : FairS w s a b x y ((w.alloc (.cells #[.string s, .int .i64 a, .int .i64 b, .int .u8 (x : Int), .int .u8 (y : Int)] 182)).alloc (.cells #[.int .i64 b, .int .i64 a] 48)) := by
  have bC : Blk ((w.alloc (.cells #[.string s, .int .i64 a, .int .i64 b, .int .u8 (x : Int), .int .u8 (y : Int)] 182)).alloc (.cells #[.int .i64 b, .int .i64 a] 48)) (w.heap.size + 1) 48 #[.int .i64 b, .int .i64 a] := Blk.new _ _ _ (by simp)
  exact ⟨cap_keep (cap_start w s a b x y hT) (below_new _ _), bC.cell 0, bC.cell 1⟩
set_option maxRecDepth 100000 in
set_option maxHeartbeats 8000000 in
theorem fair_yes (s : ByteArray) (a b : Int) (x y k l : Nat) (w : World) (hT : Tab w) (hk : kindN x = k) (hl : kindN y = l) (h : k ≠ l) : Calls Tryz.prog 247 #[capV s a b x y] w (Gives w (.bool true)) := by
  unfold Gives
  obtain ⟨W0, hW0⟩ : ∃ W0, (w.alloc (.cells #[.string s, .int .i64 a, .int .i64 b, .int .u8 (x : Int), .int .u8 (y : Int)] 182)).alloc (.cells #[.int .i64 b, .int .i64 a] 48) = W0 := ⟨_, rfl⟩
  have hS0 := fair_start w s a b x y hT
  rw [hW0] at hS0
  have hS := fair_keep hS0 (Below.refl _ _).drew
  have HW := Lib.hid hW0
  have HK := Lib.hid hk
  have HL := Lib.hid hl
  have e1 : ((k : Int) != (l : Int)) = true := by rw [bne_iff_ne]; omega
  clear hk hl h hW0 hS0
  go_enter Tryz.func247, Tryz.ntmps247
  go_wp2_with fail
  rw [HW.out]
  refine wp_region_held_drew (S := fun W => (W.cell? ⟨w.heap.size, 0, none⟩ = some (.string s) ∧ W.cell? ⟨w.heap.size, 1, none⟩ = some (.int .i64 a) ∧ W.cell? ⟨w.heap.size, 2, none⟩ = some (.int .i64 b) ∧ W.cell? ⟨w.heap.size, 3, none⟩ = some (.int .u8 (x : Int)) ∧ W.cell? ⟨w.heap.size, 4, none⟩ = some (.int .u8 (y : Int)) ∧ Tab W ∧ Below w.heap.size w W) ∧ W.cell? ⟨w.heap.size + 1, 0, none⟩ = some (.int .i64 b) ∧ W.cell? ⟨w.heap.size + 1, 1, none⟩ = some (.int .i64 a)) (by kernel_rfl) (hS) (fun hHeld => ?_)
  refine wpAnyH_take (i := 0) (oi := { dst := some 11, op := Op.fieldAddr 182 (Operand.tmp 1) 2, type := 0, pos := "chase.go:99", after := #[], guard := none }) (v := ?_) rfl (by kernel_rfl) (by kernel_rfl) (by kernel_rfl) (fun _ _ _ h => h) (Or.inl ⟨by rfl, ?_⟩) (by assumption) ?_
  case refine_2 =>
    intro w hSw
    (try dsimp only at hSw)
    (try go_simp)
    all_goals (with_reducible rfl)
  (try dsimp only [Act.put]); (try simp only [List.setIfInBounds_toArray, List.set_cons_zero, List.set_cons_succ])
  refine wpAnyH_take (i := 1) (oi := { dst := some 12, op := Op.load 5 (Operand.tmp 11), type := 5, pos := "chase.go:99", after := #[{ on := 0, ground := Ground.data }], guard := none }) (v := ?_) rfl (by kernel_rfl) (by kernel_rfl) (by kernel_rfl) (fun _ _ _ h => h) (Or.inl ⟨by rfl, ?_⟩) (by assumption) ?_
  case refine_2 =>
    intro w hSw
    (try dsimp only at hSw)
    (try go_simp)
    all_goals (with_reducible rfl)
  (try dsimp only [Act.put]); (try simp only [List.setIfInBounds_toArray, List.set_cons_zero, List.set_cons_succ])
  refine wpAnyH_take (i := 3) (oi := { dst := some 14, op := Op.fieldAddr 182 (Operand.tmp 1) 3, type := 0, pos := "chase.go:99", after := #[], guard := none }) (v := ?_) rfl (by kernel_rfl) (by kernel_rfl) (by kernel_rfl) (fun _ _ _ h => h) (Or.inl ⟨by rfl, ?_⟩) (by assumption) ?_
  case refine_2 =>
    intro w hSw
    (try dsimp only at hSw)
    (try go_simp)
    all_goals (with_reducible rfl)
  (try dsimp only [Act.put]); (try simp only [List.setIfInBounds_toArray, List.set_cons_zero, List.set_cons_succ])
  refine wpAnyH_take (i := 4) (oi := { dst := some 15, op := Op.load 5 (Operand.tmp 14), type := 5, pos := "chase.go:99", after := #[{ on := 3, ground := Ground.data }], guard := none }) (v := ?_) rfl (by kernel_rfl) (by kernel_rfl) (by kernel_rfl) (fun _ _ _ h => h) (Or.inl ⟨by rfl, ?_⟩) (by assumption) ?_
  case refine_2 =>
    intro w hSw
    (try dsimp only at hSw)
    (try go_simp)
    all_goals (with_reducible rfl)
  (try dsimp only [Act.put]); (try simp only [List.setIfInBounds_toArray, List.set_cons_zero, List.set_cons_succ])
  refine wpAnyH_ready (rs := [2]) (by kernel_rfl) (by simp) (AllReadyH.cons (o := { dst := some 13, op := Op.call { callee := Callee.value (Operand.func 130), args := #[Operand.tmp 12], argTypes := #[5] }, type := 5, pos := "chase.go:99", after := #[{ on := 1, ground := Ground.data }], guard := none }) rfl (fun K hK => ?_) AllReadyH.nil)
  go_simp
  refine (kind_h _ _ _ (by first | with_reducible exact HK | with_reducible exact HL)).mono ?_; rintro e w2 ⟨rfl, hb⟩
  refine hK.out _ _ ?_ (fun hHeld => ?_)
  · exact fair_keep hHeld hb
  clear hK K
  refine wpAnyH_ready (rs := [5]) (by kernel_rfl) (by simp) (AllReadyH.cons (o := { dst := some 16, op := Op.call { callee := Callee.value (Operand.func 130), args := #[Operand.tmp 15], argTypes := #[5] }, type := 5, pos := "chase.go:99", after := #[{ on := 4, ground := Ground.data }, { on := 2, ground := Ground.chain }], guard := none }) rfl (fun K hK => ?_) AllReadyH.nil)
  go_simp
  refine (kind_h _ _ _ (by first | with_reducible exact HK | with_reducible exact HL)).mono ?_; rintro e w2 ⟨rfl, hb⟩
  refine hK.out _ _ ?_ (fun hHeld => ?_)
  · exact fair_keep hHeld hb
  clear hK K
  refine wpAnyH_take (i := 6) (oi := { dst := some 17, op := Op.binOp BinOp.neq 5 (Operand.tmp 13) (Operand.tmp 16) 5, type := 4, pos := "chase.go:99", after := #[{ on := 2, ground := Ground.data }, { on := 5, ground := Ground.data }], guard := none }) (v := ?_) rfl (by kernel_rfl) (by kernel_rfl) (by kernel_rfl) (fun _ _ _ h => h) (Or.inl ⟨by rfl, ?_⟩) (by assumption) ?_
  case refine_2 =>
    intro w hSw
    (try dsimp only at hSw)
    (try go_simp)
    all_goals (with_reducible rfl)
  (try dsimp only [Act.put]); (try simp only [List.setIfInBounds_toArray, List.set_cons_zero, List.set_cons_succ])
  refine wpAnyH_take (i := 7) (oi := { dst := some 18, op := Op.move (Operand.tmp 17), type := 4, pos := "chase.go:99", after := #[{ on := 6, ground := Ground.data }, { on := 5, ground := Ground.chain }], guard := none }) (v := ?_) rfl (by kernel_rfl) (by kernel_rfl) (by kernel_rfl) (fun _ _ _ h => h) (Or.inl ⟨by rfl, ?_⟩) (by assumption) ?_
  case refine_2 =>
    intro w hSw
    (try dsimp only at hSw)
    (try go_simp)
    all_goals (with_reducible rfl)
  (try dsimp only [Act.put]); (try simp only [List.setIfInBounds_toArray, List.set_cons_zero, List.set_cons_succ])
  refine wpAnyH_take (i := 8) (oi := { dst := some 19, op := Op.fieldAddr 182 (Operand.tmp 1) 0, type := 0, pos := "chase.go:99", after := #[{ on := 7, ground := Ground.guard }], guard := some (7, false) }) (v := undef) rfl (by kernel_rfl) (by kernel_rfl) (by kernel_rfl) (fun _ _ _ h => h) (Or.inr ⟨by rfl, rfl⟩) (by assumption) ?_
  (try dsimp only [Act.put]); (try simp only [List.setIfInBounds_toArray, List.set_cons_zero, List.set_cons_succ])
  refine wpAnyH_take (i := 9) (oi := { dst := some 20, op := Op.load 9 (Operand.tmp 19), type := 9, pos := "chase.go:99", after := #[{ on := 8, ground := Ground.data }, { on := 7, ground := Ground.guard }], guard := some (7, false) }) (v := undef) rfl (by kernel_rfl) (by kernel_rfl) (by kernel_rfl) (fun _ _ _ h => h) (Or.inr ⟨by rfl, rfl⟩) (by assumption) ?_
  (try dsimp only [Act.put]); (try simp only [List.setIfInBounds_toArray, List.set_cons_zero, List.set_cons_succ])
  refine wpAnyH_take (i := 10) (oi := { dst := some 21, op := Op.fieldAddr 182 (Operand.tmp 1) 3, type := 0, pos := "chase.go:99", after := #[{ on := 7, ground := Ground.guard }], guard := some (7, false) }) (v := undef) rfl (by kernel_rfl) (by kernel_rfl) (by kernel_rfl) (fun _ _ _ h => h) (Or.inr ⟨by rfl, rfl⟩) (by assumption) ?_
  (try dsimp only [Act.put]); (try simp only [List.setIfInBounds_toArray, List.set_cons_zero, List.set_cons_succ])
  refine wpAnyH_take (i := 11) (oi := { dst := some 22, op := Op.load 5 (Operand.tmp 21), type := 5, pos := "chase.go:99", after := #[{ on := 10, ground := Ground.data }, { on := 7, ground := Ground.guard }], guard := some (7, false) }) (v := undef) rfl (by kernel_rfl) (by kernel_rfl) (by kernel_rfl) (fun _ _ _ h => h) (Or.inr ⟨by rfl, rfl⟩) (by assumption) ?_
  (try dsimp only [Act.put]); (try simp only [List.setIfInBounds_toArray, List.set_cons_zero, List.set_cons_succ])
  refine wpAnyH_take (i := 13) (oi := { dst := some 24, op := Op.load 48 (Operand.tmp 3), type := 48, pos := "chase.go:99", after := #[{ on := 7, ground := Ground.guard }], guard := some (7, false) }) (v := undef) rfl (by kernel_rfl) (by kernel_rfl) (by kernel_rfl) (fun _ _ _ h => h) (Or.inr ⟨by rfl, rfl⟩) (by assumption) ?_
  (try dsimp only [Act.put]); (try simp only [List.setIfInBounds_toArray, List.set_cons_zero, List.set_cons_succ])
  refine wpAnyH_ready (rs := [12]) (by kernel_rfl) (by simp) (AllReadyH.cons (o := { dst := some 23, op := Op.call { callee := Callee.value (Operand.func 175), args := #[Operand.tmp 22], argTypes := #[5] }, type := 3, pos := "chase.go:99", after := #[{ on := 11, ground := Ground.data }, { on := 7, ground := Ground.chain }, { on := 7, ground := Ground.guard }], guard := some (7, false) }) rfl (fun K hK => ?_) AllReadyH.nil)
  split
  · rename_i hw
    exact Bool.noConfusion (show false = true from hw)
  refine hK.out _ _ ?_ (fun hHeld => ?_)
  · assumption
  clear hK K
  refine wpAnyH_ready (rs := [14]) (by kernel_rfl) (by simp) (AllReadyH.cons (o := { dst := some 25, op := Op.call { callee := Callee.value (Operand.func 243), args := #[Operand.tmp 20, Operand.tmp 23, Operand.tmp 24], argTypes := #[9, 3, 48] }, type := 4, pos := "chase.go:99", after := #[{ on := 9, ground := Ground.data }, { on := 12, ground := Ground.data }, { on := 13, ground := Ground.data }, { on := 12, ground := Ground.chain }, { on := 7, ground := Ground.guard }], guard := some (7, false) }) rfl (fun K hK => ?_) AllReadyH.nil)
  split
  · rename_i hw
    exact Bool.noConfusion (show false = true from hw)
  refine hK.out _ _ ?_ (fun hHeld => ?_)
  · assumption
  clear hK K
  refine wpAnyH_take (i := 15) (oi := { dst := some 26, op := Op.unOp UnOp.not 4 (Operand.tmp 25), type := 4, pos := "chase.go:99", after := #[{ on := 14, ground := Ground.data }, { on := 7, ground := Ground.guard }], guard := some (7, false) }) (v := undef) rfl (by kernel_rfl) (by kernel_rfl) (by kernel_rfl) (fun _ _ _ h => h) (Or.inr ⟨by rfl, rfl⟩) (by assumption) ?_
  (try dsimp only [Act.put]); (try simp only [List.setIfInBounds_toArray, List.set_cons_zero, List.set_cons_succ])
  refine wpAnyH_take (i := 16) (oi := { dst := some 27, op := Op.pick (Operand.tmp 18) (Operand.const (Value.bool true)) (Operand.tmp 26), type := 4, pos := "chase.go:99", after := #[{ on := 7, ground := Ground.data }, { on := 15, ground := Ground.data }], guard := none }) (v := ?_) rfl (by kernel_rfl) (by kernel_rfl) (by kernel_rfl) (fun _ _ _ h => h) (Or.inl ⟨by rfl, ?_⟩) (by assumption) ?_
  case refine_2 =>
    intro w hSw
    (try dsimp only at hSw)
    (try go_simp)
    all_goals (with_reducible rfl)
  (try dsimp only [Act.put]); (try simp only [List.setIfInBounds_toArray, List.set_cons_zero, List.set_cons_succ])
  refine wpAnyH_take (i := 17) (oi := { dst := some 2, op := Op.assign (Operand.tmp 27), type := 4, pos := "chase.go:99", after := #[{ on := 16, ground := Ground.data }, { on := 14, ground := Ground.chain }, { on := 0, ground := Ground.phase }, { on := 1, ground := Ground.phase }, { on := 2, ground := Ground.phase }, { on := 3, ground := Ground.phase }, { on := 4, ground := Ground.phase }, { on := 5, ground := Ground.phase }, { on := 6, ground := Ground.phase }, { on := 7, ground := Ground.phase }, { on := 8, ground := Ground.phase }, { on := 9, ground := Ground.phase }, { on := 10, ground := Ground.phase }, { on := 11, ground := Ground.phase }, { on := 12, ground := Ground.phase }, { on := 13, ground := Ground.phase }, { on := 14, ground := Ground.phase }, { on := 15, ground := Ground.phase }, { on := 16, ground := Ground.phase }], guard := none }) (v := ?_) rfl (by kernel_rfl) (by kernel_rfl) (by kernel_rfl) (fun _ _ _ h => h) (Or.inl ⟨by rfl, ?_⟩) (by assumption) ?_
  case refine_2 =>
    intro w hSw
    (try dsimp only at hSw)
    (try go_simp)
    all_goals (with_reducible rfl)
  (try dsimp only [Act.put]); (try simp only [List.setIfInBounds_toArray, List.set_cons_zero, List.set_cons_succ])
  refine wpAnyH_done (by kernel_rfl) ?_ _
  all_goals
    go_wp2
    go_ret
    exact ⟨rfl, cap_below hHeld.1⟩
set_option maxRecDepth 100000 in
set_option maxHeartbeats 8000000 in
theorem fair_same (s : ByteArray) (a b : Int) (x y k : Nat) (o : Int) (v : Bool) (w : World) (hT : Tab w) (hk : kindN x = k) (hl : kindN y = k) (ho : sideN y = o) (hv : couldI s o b a = v) : Calls Tryz.prog 247 #[capV s a b x y] w (Gives w (.bool (!v))) := by
  unfold Gives
  obtain ⟨W0, hW0⟩ : ∃ W0, (w.alloc (.cells #[.string s, .int .i64 a, .int .i64 b, .int .u8 (x : Int), .int .u8 (y : Int)] 182)).alloc (.cells #[.int .i64 b, .int .i64 a] 48) = W0 := ⟨_, rfl⟩
  have hS0 := fair_start w s a b x y hT
  rw [hW0] at hS0
  have hS := fair_keep hS0 (Below.refl _ _).drew
  have HW := Lib.hid hW0
  have HK := Lib.hid hk
  have HL := Lib.hid hl
  have HO := Lib.hid ho
  have HV := Lib.hid hv
  have e1 : ((k : Int) != (k : Int)) = false := by simp
  clear hk hl ho hv hW0 hS0
  go_enter Tryz.func247, Tryz.ntmps247
  go_wp2_with fail
  rw [HW.out]
  refine wp_region_held_drew (S := fun W => (W.cell? ⟨w.heap.size, 0, none⟩ = some (.string s) ∧ W.cell? ⟨w.heap.size, 1, none⟩ = some (.int .i64 a) ∧ W.cell? ⟨w.heap.size, 2, none⟩ = some (.int .i64 b) ∧ W.cell? ⟨w.heap.size, 3, none⟩ = some (.int .u8 (x : Int)) ∧ W.cell? ⟨w.heap.size, 4, none⟩ = some (.int .u8 (y : Int)) ∧ Tab W ∧ Below w.heap.size w W) ∧ W.cell? ⟨w.heap.size + 1, 0, none⟩ = some (.int .i64 b) ∧ W.cell? ⟨w.heap.size + 1, 1, none⟩ = some (.int .i64 a)) (by kernel_rfl) (hS) (fun hHeld => ?_)
  refine wpAnyH_take (i := 0) (oi := { dst := some 11, op := Op.fieldAddr 182 (Operand.tmp 1) 2, type := 0, pos := "chase.go:99", after := #[], guard := none }) (v := ?_) rfl (by kernel_rfl) (by kernel_rfl) (by kernel_rfl) (fun _ _ _ h => h) (Or.inl ⟨by rfl, ?_⟩) (by assumption) ?_
  case refine_2 =>
    intro w hSw
    (try dsimp only at hSw)
    (try go_simp)
    all_goals (with_reducible rfl)
  (try dsimp only [Act.put]); (try simp only [List.setIfInBounds_toArray, List.set_cons_zero, List.set_cons_succ])
  refine wpAnyH_take (i := 1) (oi := { dst := some 12, op := Op.load 5 (Operand.tmp 11), type := 5, pos := "chase.go:99", after := #[{ on := 0, ground := Ground.data }], guard := none }) (v := ?_) rfl (by kernel_rfl) (by kernel_rfl) (by kernel_rfl) (fun _ _ _ h => h) (Or.inl ⟨by rfl, ?_⟩) (by assumption) ?_
  case refine_2 =>
    intro w hSw
    (try dsimp only at hSw)
    (try go_simp)
    all_goals (with_reducible rfl)
  (try dsimp only [Act.put]); (try simp only [List.setIfInBounds_toArray, List.set_cons_zero, List.set_cons_succ])
  refine wpAnyH_take (i := 3) (oi := { dst := some 14, op := Op.fieldAddr 182 (Operand.tmp 1) 3, type := 0, pos := "chase.go:99", after := #[], guard := none }) (v := ?_) rfl (by kernel_rfl) (by kernel_rfl) (by kernel_rfl) (fun _ _ _ h => h) (Or.inl ⟨by rfl, ?_⟩) (by assumption) ?_
  case refine_2 =>
    intro w hSw
    (try dsimp only at hSw)
    (try go_simp)
    all_goals (with_reducible rfl)
  (try dsimp only [Act.put]); (try simp only [List.setIfInBounds_toArray, List.set_cons_zero, List.set_cons_succ])
  refine wpAnyH_take (i := 4) (oi := { dst := some 15, op := Op.load 5 (Operand.tmp 14), type := 5, pos := "chase.go:99", after := #[{ on := 3, ground := Ground.data }], guard := none }) (v := ?_) rfl (by kernel_rfl) (by kernel_rfl) (by kernel_rfl) (fun _ _ _ h => h) (Or.inl ⟨by rfl, ?_⟩) (by assumption) ?_
  case refine_2 =>
    intro w hSw
    (try dsimp only at hSw)
    (try go_simp)
    all_goals (with_reducible rfl)
  (try dsimp only [Act.put]); (try simp only [List.setIfInBounds_toArray, List.set_cons_zero, List.set_cons_succ])
  refine wpAnyH_ready (rs := [2]) (by kernel_rfl) (by simp) (AllReadyH.cons (o := { dst := some 13, op := Op.call { callee := Callee.value (Operand.func 130), args := #[Operand.tmp 12], argTypes := #[5] }, type := 5, pos := "chase.go:99", after := #[{ on := 1, ground := Ground.data }], guard := none }) rfl (fun K hK => ?_) AllReadyH.nil)
  go_simp
  refine (kind_h _ _ _ (by first | with_reducible exact HK | with_reducible exact HL)).mono ?_; rintro e w2 ⟨rfl, hb⟩
  refine hK.out _ _ ?_ (fun hHeld => ?_)
  · exact fair_keep hHeld hb
  clear hK K
  refine wpAnyH_ready (rs := [5]) (by kernel_rfl) (by simp) (AllReadyH.cons (o := { dst := some 16, op := Op.call { callee := Callee.value (Operand.func 130), args := #[Operand.tmp 15], argTypes := #[5] }, type := 5, pos := "chase.go:99", after := #[{ on := 4, ground := Ground.data }, { on := 2, ground := Ground.chain }], guard := none }) rfl (fun K hK => ?_) AllReadyH.nil)
  go_simp
  refine (kind_h _ _ _ (by first | with_reducible exact HK | with_reducible exact HL)).mono ?_; rintro e w2 ⟨rfl, hb⟩
  refine hK.out _ _ ?_ (fun hHeld => ?_)
  · exact fair_keep hHeld hb
  clear hK K
  refine wpAnyH_take (i := 6) (oi := { dst := some 17, op := Op.binOp BinOp.neq 5 (Operand.tmp 13) (Operand.tmp 16) 5, type := 4, pos := "chase.go:99", after := #[{ on := 2, ground := Ground.data }, { on := 5, ground := Ground.data }], guard := none }) (v := ?_) rfl (by kernel_rfl) (by kernel_rfl) (by kernel_rfl) (fun _ _ _ h => h) (Or.inl ⟨by rfl, ?_⟩) (by assumption) ?_
  case refine_2 =>
    intro w hSw
    (try dsimp only at hSw)
    (try go_simp)
    all_goals (with_reducible rfl)
  (try dsimp only [Act.put]); (try simp only [List.setIfInBounds_toArray, List.set_cons_zero, List.set_cons_succ])
  refine wpAnyH_take (i := 7) (oi := { dst := some 18, op := Op.move (Operand.tmp 17), type := 4, pos := "chase.go:99", after := #[{ on := 6, ground := Ground.data }, { on := 5, ground := Ground.chain }], guard := none }) (v := ?_) rfl (by kernel_rfl) (by kernel_rfl) (by kernel_rfl) (fun _ _ _ h => h) (Or.inl ⟨by rfl, ?_⟩) (by assumption) ?_
  case refine_2 =>
    intro w hSw
    (try dsimp only at hSw)
    (try go_simp)
    all_goals (with_reducible rfl)
  (try dsimp only [Act.put]); (try simp only [List.setIfInBounds_toArray, List.set_cons_zero, List.set_cons_succ])
  refine wpAnyH_take (i := 8) (oi := { dst := some 19, op := Op.fieldAddr 182 (Operand.tmp 1) 0, type := 0, pos := "chase.go:99", after := #[{ on := 7, ground := Ground.guard }], guard := some (7, false) }) (v := ?_) rfl (by kernel_rfl) (by kernel_rfl) (by kernel_rfl) (fun _ _ _ h => h) (Or.inl ⟨by rfl, ?_⟩) (by assumption) ?_
  case refine_2 =>
    intro w hSw
    (try dsimp only at hSw)
    (try go_simp)
    all_goals (with_reducible rfl)
  (try dsimp only [Act.put]); (try simp only [List.setIfInBounds_toArray, List.set_cons_zero, List.set_cons_succ])
  refine wpAnyH_take (i := 9) (oi := { dst := some 20, op := Op.load 9 (Operand.tmp 19), type := 9, pos := "chase.go:99", after := #[{ on := 8, ground := Ground.data }, { on := 7, ground := Ground.guard }], guard := some (7, false) }) (v := ?_) rfl (by kernel_rfl) (by kernel_rfl) (by kernel_rfl) (fun _ _ _ h => h) (Or.inl ⟨by rfl, ?_⟩) (by assumption) ?_
  case refine_2 =>
    intro w hSw
    (try dsimp only at hSw)
    (try go_simp)
    all_goals (with_reducible rfl)
  (try dsimp only [Act.put]); (try simp only [List.setIfInBounds_toArray, List.set_cons_zero, List.set_cons_succ])
  refine wpAnyH_take (i := 10) (oi := { dst := some 21, op := Op.fieldAddr 182 (Operand.tmp 1) 3, type := 0, pos := "chase.go:99", after := #[{ on := 7, ground := Ground.guard }], guard := some (7, false) }) (v := ?_) rfl (by kernel_rfl) (by kernel_rfl) (by kernel_rfl) (fun _ _ _ h => h) (Or.inl ⟨by rfl, ?_⟩) (by assumption) ?_
  case refine_2 =>
    intro w hSw
    (try dsimp only at hSw)
    (try go_simp)
    all_goals (with_reducible rfl)
  (try dsimp only [Act.put]); (try simp only [List.setIfInBounds_toArray, List.set_cons_zero, List.set_cons_succ])
  refine wpAnyH_take (i := 11) (oi := { dst := some 22, op := Op.load 5 (Operand.tmp 21), type := 5, pos := "chase.go:99", after := #[{ on := 10, ground := Ground.data }, { on := 7, ground := Ground.guard }], guard := some (7, false) }) (v := ?_) rfl (by kernel_rfl) (by kernel_rfl) (by kernel_rfl) (fun _ _ _ h => h) (Or.inl ⟨by rfl, ?_⟩) (by assumption) ?_
  case refine_2 =>
    intro w hSw
    (try dsimp only at hSw)
    (try go_simp)
    all_goals (with_reducible rfl)
  (try dsimp only [Act.put]); (try simp only [List.setIfInBounds_toArray, List.set_cons_zero, List.set_cons_succ])
  refine wpAnyH_take (i := 13) (oi := { dst := some 24, op := Op.load 48 (Operand.tmp 3), type := 48, pos := "chase.go:99", after := #[{ on := 7, ground := Ground.guard }], guard := some (7, false) }) (v := ?_) rfl (by kernel_rfl) (by kernel_rfl) (by kernel_rfl) (fun _ _ _ h => h) (Or.inl ⟨by rfl, ?_⟩) (by assumption) ?_
  case refine_2 =>
    intro w hSw
    (try dsimp only at hSw)
    (try go_simp)
    all_goals (with_reducible rfl)
  (try dsimp only [Act.put]); (try simp only [List.setIfInBounds_toArray, List.set_cons_zero, List.set_cons_succ])
  refine wpAnyH_ready (rs := [12]) (by kernel_rfl) (by simp) (AllReadyH.cons (o := { dst := some 23, op := Op.call { callee := Callee.value (Operand.func 175), args := #[Operand.tmp 22], argTypes := #[5] }, type := 3, pos := "chase.go:99", after := #[{ on := 11, ground := Ground.data }, { on := 7, ground := Ground.chain }, { on := 7, ground := Ground.guard }], guard := some (7, false) }) rfl (fun K hK => ?_) AllReadyH.nil)
  go_simp
  refine (gside_g y o _ HO.out).mono ?_; rintro e w3 ⟨rfl, hb⟩
  refine hK.out _ _ ?_ (fun hHeld => ?_)
  · exact fair_keep hHeld hb
  clear hK K
  refine wpAnyH_ready (rs := [14]) (by kernel_rfl) (by simp) (AllReadyH.cons (o := { dst := some 25, op := Op.call { callee := Callee.value (Operand.func 243), args := #[Operand.tmp 20, Operand.tmp 23, Operand.tmp 24], argTypes := #[9, 3, 48] }, type := 4, pos := "chase.go:99", after := #[{ on := 9, ground := Ground.data }, { on := 12, ground := Ground.data }, { on := 13, ground := Ground.data }, { on := 12, ground := Ground.chain }, { on := 7, ground := Ground.guard }], guard := some (7, false) }) rfl (fun K hK => ?_) AllReadyH.nil)
  go_simp
  refine (gcan_is s o b a v _ (cap_tab hHeld.1) HV.out).mono ?_; rintro e w4 ⟨rfl, hb⟩
  refine hK.out _ _ ?_ (fun hHeld => ?_)
  · exact fair_keep hHeld hb
  clear hK K
  refine wpAnyH_take (i := 15) (oi := { dst := some 26, op := Op.unOp UnOp.not 4 (Operand.tmp 25), type := 4, pos := "chase.go:99", after := #[{ on := 14, ground := Ground.data }, { on := 7, ground := Ground.guard }], guard := some (7, false) }) (v := ?_) rfl (by kernel_rfl) (by kernel_rfl) (by kernel_rfl) (fun _ _ _ h => h) (Or.inl ⟨by rfl, ?_⟩) (by assumption) ?_
  case refine_2 =>
    intro w hSw
    (try dsimp only at hSw)
    (try go_simp)
    all_goals (with_reducible rfl)
  (try dsimp only [Act.put]); (try simp only [List.setIfInBounds_toArray, List.set_cons_zero, List.set_cons_succ])
  refine wpAnyH_take (i := 16) (oi := { dst := some 27, op := Op.pick (Operand.tmp 18) (Operand.const (Value.bool true)) (Operand.tmp 26), type := 4, pos := "chase.go:99", after := #[{ on := 7, ground := Ground.data }, { on := 15, ground := Ground.data }], guard := none }) (v := ?_) rfl (by kernel_rfl) (by kernel_rfl) (by kernel_rfl) (fun _ _ _ h => h) (Or.inl ⟨by rfl, ?_⟩) (by assumption) ?_
  case refine_2 =>
    intro w hSw
    (try dsimp only at hSw)
    (try go_simp)
    all_goals (with_reducible rfl)
  (try dsimp only [Act.put]); (try simp only [List.setIfInBounds_toArray, List.set_cons_zero, List.set_cons_succ])
  refine wpAnyH_take (i := 17) (oi := { dst := some 2, op := Op.assign (Operand.tmp 27), type := 4, pos := "chase.go:99", after := #[{ on := 16, ground := Ground.data }, { on := 14, ground := Ground.chain }, { on := 0, ground := Ground.phase }, { on := 1, ground := Ground.phase }, { on := 2, ground := Ground.phase }, { on := 3, ground := Ground.phase }, { on := 4, ground := Ground.phase }, { on := 5, ground := Ground.phase }, { on := 6, ground := Ground.phase }, { on := 7, ground := Ground.phase }, { on := 8, ground := Ground.phase }, { on := 9, ground := Ground.phase }, { on := 10, ground := Ground.phase }, { on := 11, ground := Ground.phase }, { on := 12, ground := Ground.phase }, { on := 13, ground := Ground.phase }, { on := 14, ground := Ground.phase }, { on := 15, ground := Ground.phase }, { on := 16, ground := Ground.phase }], guard := none }) (v := ?_) rfl (by kernel_rfl) (by kernel_rfl) (by kernel_rfl) (fun _ _ _ h => h) (Or.inl ⟨by rfl, ?_⟩) (by assumption) ?_
  case refine_2 =>
    intro w hSw
    (try dsimp only at hSw)
    (try go_simp)
    all_goals (with_reducible rfl)
  (try dsimp only [Act.put]); (try simp only [List.setIfInBounds_toArray, List.set_cons_zero, List.set_cons_succ])
  refine wpAnyH_done (by kernel_rfl) ?_ _
  all_goals
    go_wp2
    go_ret
    exact ⟨rfl, cap_below hHeld.1⟩
theorem of_fair (s : ByteArray) (a b : Int) (x y : Nat) (v : Bool) (w : World) (hT : Tab w) (h : must4 s a b x y = v) : Calls Tryz.prog 247 #[capV s a b x y] w (Gives w (.bool v)) := by
  subst h
  by_cases hc : kindN x = kindN y
  · have e : must4 s a b x y = !couldI s (sideN y) b a := by
      unfold must4
      rw [hc]
      simp
    rw [e]
    exact fair_same s a b x y _ _ _ w hT hc rfl rfl rfl
  · have e : must4 s a b x y = true := by
      unfold must4
      rw [show (kindN x != kindN y) = true by rw [bne_iff_ne]; exact hc]
      rfl
    rw [e]
    exact fair_yes s a b x y _ _ w hT rfl rfl hc
end Go.Proofs.YtbdgbihdhbjljaaGreatDoor

namespace Go.Proofs.YtbdgbihdhbjljaaGreatDoor
open Go.RowKit Go.Shelf
open M (S)

abbrev condsV : Value := .agg #[.func (.func 244) #[] #[], .func (.func 245) #[] #[], .func (.func 246) #[] #[], .func (.func 247) #[] #[]]
theorem musts_is (w : World) : Calls Tryz.prog 220 #[] w (Gives w condsV) := by
  unfold Gives
  go_enter Tryz.func220, Tryz.ntmps220
  go_wp2
  have bA : Blk (w.alloc (.cells #[.func (.func 244) #[] #[], .func (.func 245) #[] #[], .func (.func 246) #[] #[], .func (.func 247) #[] #[]] 184)) w.heap.size 184 #[.func (.func 244) #[] #[], .func (.func 245) #[] #[], .func (.func 246) #[] #[], .func (.func 247) #[] #[]] := Blk.new _ _ _ rfl
  exact bodyPost_ret (v := condsV) (by simp [results, Tryz.results220, go_sem, bA.cell 0, bA.cell 1, bA.cell 2, bA.cell 3]) rfl ⟨rfl, below_new _ _⟩
theorem conds_0 (W : World) : (Instr.index 184 condsV (.int .i64 0)).run Tryz.prog W = .ok (.func (.func 244) #[] #[]) W := by kernel_rfl
theorem conds_1 (W : World) : (Instr.index 184 condsV (.int .i64 1)).run Tryz.prog W = .ok (.func (.func 245) #[] #[]) W := by kernel_rfl
theorem conds_2 (W : World) : (Instr.index 184 condsV (.int .i64 2)).run Tryz.prog W = .ok (.func (.func 246) #[] #[]) W := by kernel_rfl
theorem conds_3 (W : World) : (Instr.index 184 condsV (.int .i64 3)).run Tryz.prog W = .ok (.func (.func 247) #[] #[]) W := by kernel_rfl
def threatV (s : ByteArray) (a b : Int) (x y : Nat) : Bool := must1 s a b x y && must2 b x y && must3 s a b x y && must4 s a b x y
def mustK (s : ByteArray) (a b : Int) (x y : Nat) : Nat → Bool
  | 0 => must1 s a b x y
  | 1 => must2 b x y
  | 2 => must3 s a b x y
  | _ => must4 s a b x y
theorem threat_no {s : ByteArray} {a b : Int} {x y : Nat} {k : Nat} (h : mustK s a b x y k = false) : threatV s a b x y = false := by
  unfold threatV
  rcases k with _ | _ | _ | k
  · rw [show must1 s a b x y = false from h]; rfl
  · rw [show must2 b x y = false from h]; simp
  · rw [show must3 s a b x y = false from h]; simp
  · rw [show must4 s a b x y = false from h]; simp
theorem threat_all {s : ByteArray} {a b : Int} {x y : Nat} (h : ∀ j, j < 4 → mustK s a b x y j = true) : threatV s a b x y = true := by
  unfold threatV
  rw [show must1 s a b x y = true from h 0 (by omega), show must2 b x y = true from h 1 (by omega), show must3 s a b x y = true from h 2 (by omega), show must4 s a b x y = true from h 3 (by omega)]
  rfl
theorem at_h (s : ByteArray) (n : Int) (c : Nat) (w : World) (h : Hid (atB s n = c)) : Calls Tryz.prog 219 #[.string s, .int .i64 n] w (Says w (.int .u8 (c : Int))) := at_is s n c w h.out
theorem conds_at (k : Nat) (h : k < 4) : ∃ f, ((k = 0 ∧ f = 244) ∨ (k = 1 ∧ f = 245) ∨ (k = 2 ∧ f = 246) ∨ (k = 3 ∧ f = 247)) ∧ (∀ W : World, (Instr.index 184 condsV (.int .i64 (k : Int))).run Tryz.prog W = .ok (.func (.func f) #[] #[]) W) ∧ ∀ (args : Array Value) (W : World), (callFunc f args).run Tryz.prog W = .ok (.enter f args) W := by
  rcases (show k = 0 ∨ k = 1 ∨ k = 2 ∨ k = 3 by omega) with rfl | rfl | rfl | rfl
  · exact ⟨_, .inl ⟨rfl, rfl⟩, conds_0, enters_of Tryz.func244 (by kernel_rfl) rfl⟩
  · exact ⟨_, .inr (.inl ⟨rfl, rfl⟩), conds_1, enters_of Tryz.func245 (by kernel_rfl) rfl⟩
  · exact ⟨_, .inr (.inr (.inl ⟨rfl, rfl⟩)), conds_2, enters_of Tryz.func246 (by kernel_rfl) rfl⟩
  · exact ⟨_, .inr (.inr (.inr ⟨rfl, rfl⟩)), conds_3, enters_of Tryz.func247 (by kernel_rfl) rfl⟩
theorem must_at (s : ByteArray) (a b : Int) (x y k f : Nat) (hf : (k = 0 ∧ f = 244) ∨ (k = 1 ∧ f = 245) ∨ (k = 2 ∧ f = 246) ∨ (k = 3 ∧ f = 247)) (v : Bool) (w : World) (hT : Tab w) (h : mustK s a b x y k = v) : Calls Tryz.prog f #[capV s a b x y] w (Gives w (.bool v)) := by
  rcases hf with ⟨rfl, rfl⟩ | ⟨rfl, rfl⟩ | ⟨rfl, rfl⟩ | ⟨rfl, rfl⟩
  · exact could_be s a b x y v w hT h
  · exact of_moment s a b x y v w hT h
  · exact of_worth s a b x y v w hT h
  · exact of_fair s a b x y v w hT h
set_option maxRecDepth 100000 in
set_option maxHeartbeats 8000000 in
theorem threat_any (s : ByteArray) (a b : Int) (x y : Nat) (v : Bool) (w : World) (hT : Tab w) (hx : atB s a = x) (hy : atB s b = y) (hv : threatV s a b x y = v) : Calls Tryz.prog 196 #[.string s, .agg #[.int .i64 a, .int .i64 b]] w (Gives w (.bool v)) := by
  unfold Gives
  obtain ⟨W0, hW0⟩ : ∃ W0, w.alloc (.cells #[.int .i64 a, .int .i64 b] 48) = W0 := ⟨_, rfl⟩
  have hS : W0.drew.cell? ⟨w.heap.size, 0, none⟩ = some (.int .i64 a) ∧ W0.drew.cell? ⟨w.heap.size, 1, none⟩ = some (.int .i64 b) ∧ Below w.heap.size w W0.drew := by
    have bM : Blk W0 w.heap.size 48 #[.int .i64 a, .int .i64 b] := by rw [← hW0]; exact Blk.new _ _ _ rfl
    exact ⟨(bM.next (Below.refl _ _).drew).cell 0, (bM.next (Below.refl _ _).drew).cell 1, by rw [← hW0]; exact (below_new _ _).drew⟩
  have HW := Lib.hid hW0
  have HX := Lib.hid hx
  have HY := Lib.hid hy
  have HV := Lib.hid hv
  have hB0 : Below w.heap.size w W0 := by rw [← hW0]; exact below_new _ _
  have hT0 := hT.below hB0 hT.lt
  clear hW0 hx hy hv
  go_enter Tryz.func196, Tryz.ntmps196
  go_wp2_with fail
  rw [HW.out]
  refine wp_region_held_drew (S := fun W => W.cell? ⟨w.heap.size, 0, none⟩ = some (.int .i64 a) ∧ W.cell? ⟨w.heap.size, 1, none⟩ = some (.int .i64 b) ∧ Below w.heap.size w W) (by kernel_rfl) (hS) (fun hHeld => ?_)
  refine wpAnyH_take (i := 0) (oi := { dst := some 8, op := Op.move (Operand.tmp 0), type := 9, pos := "chase.go:23", after := #[], guard := none }) (v := ?_) rfl (by kernel_rfl) (by kernel_rfl) (by kernel_rfl) (fun _ _ _ h => h) (Or.inl ⟨by rfl, ?_⟩) (by assumption) ?_
  case refine_2 =>
    intro w hSw
    (try dsimp only at hSw)
    (try go_simp)
    all_goals (with_reducible rfl)
  (try dsimp only [Act.put]); (try simp only [List.setIfInBounds_toArray, List.set_cons_zero, List.set_cons_succ])
  refine wpAnyH_take (i := 1) (oi := { dst := some 9, op := Op.load 48 (Operand.tmp 3), type := 48, pos := "chase.go:23", after := #[], guard := none }) (v := ?_) rfl (by kernel_rfl) (by kernel_rfl) (by kernel_rfl) (fun _ _ _ h => h) (Or.inl ⟨by rfl, ?_⟩) (by assumption) ?_
  case refine_2 =>
    intro w hSw
    (try dsimp only at hSw)
    (try go_simp)
    all_goals (with_reducible rfl)
  (try dsimp only [Act.put]); (try simp only [List.setIfInBounds_toArray, List.set_cons_zero, List.set_cons_succ])
  refine wpAnyH_take (i := 2) (oi := { dst := some 10, op := Op.move (Operand.tmp 0), type := 9, pos := "chase.go:23", after := #[], guard := none }) (v := ?_) rfl (by kernel_rfl) (by kernel_rfl) (by kernel_rfl) (fun _ _ _ h => h) (Or.inl ⟨by rfl, ?_⟩) (by assumption) ?_
  case refine_2 =>
    intro w hSw
    (try dsimp only at hSw)
    (try go_simp)
    all_goals (with_reducible rfl)
  (try dsimp only [Act.put]); (try simp only [List.setIfInBounds_toArray, List.set_cons_zero, List.set_cons_succ])
  refine wpAnyH_take (i := 3) (oi := { dst := some 11, op := Op.fieldAddr 48 (Operand.tmp 3) 0, type := 0, pos := "chase.go:23", after := #[], guard := none }) (v := ?_) rfl (by kernel_rfl) (by kernel_rfl) (by kernel_rfl) (fun _ _ _ h => h) (Or.inl ⟨by rfl, ?_⟩) (by assumption) ?_
  case refine_2 =>
    intro w hSw
    (try dsimp only at hSw)
    (try go_simp)
    all_goals (with_reducible rfl)
  (try dsimp only [Act.put]); (try simp only [List.setIfInBounds_toArray, List.set_cons_zero, List.set_cons_succ])
  refine wpAnyH_take (i := 4) (oi := { dst := some 12, op := Op.load 3 (Operand.tmp 11), type := 3, pos := "chase.go:23", after := #[{ on := 3, ground := Ground.data }], guard := none }) (v := ?_) rfl (by kernel_rfl) (by kernel_rfl) (by kernel_rfl) (fun _ _ _ h => h) (Or.inl ⟨by rfl, ?_⟩) (by assumption) ?_
  case refine_2 =>
    intro w hSw
    (try dsimp only at hSw)
    (try go_simp)
    all_goals (with_reducible rfl)
  (try dsimp only [Act.put]); (try simp only [List.setIfInBounds_toArray, List.set_cons_zero, List.set_cons_succ])
  refine wpAnyH_take (i := 6) (oi := { dst := some 14, op := Op.move (Operand.tmp 0), type := 9, pos := "chase.go:23", after := #[], guard := none }) (v := ?_) rfl (by kernel_rfl) (by kernel_rfl) (by kernel_rfl) (fun _ _ _ h => h) (Or.inl ⟨by rfl, ?_⟩) (by assumption) ?_
  case refine_2 =>
    intro w hSw
    (try dsimp only at hSw)
    (try go_simp)
    all_goals (with_reducible rfl)
  (try dsimp only [Act.put]); (try simp only [List.setIfInBounds_toArray, List.set_cons_zero, List.set_cons_succ])
  refine wpAnyH_take (i := 7) (oi := { dst := some 15, op := Op.fieldAddr 48 (Operand.tmp 3) 1, type := 0, pos := "chase.go:23", after := #[], guard := none }) (v := ?_) rfl (by kernel_rfl) (by kernel_rfl) (by kernel_rfl) (fun _ _ _ h => h) (Or.inl ⟨by rfl, ?_⟩) (by assumption) ?_
  case refine_2 =>
    intro w hSw
    (try dsimp only at hSw)
    (try go_simp)
    all_goals (with_reducible rfl)
  (try dsimp only [Act.put]); (try simp only [List.setIfInBounds_toArray, List.set_cons_zero, List.set_cons_succ])
  refine wpAnyH_take (i := 8) (oi := { dst := some 16, op := Op.load 3 (Operand.tmp 15), type := 3, pos := "chase.go:23", after := #[{ on := 7, ground := Ground.data }], guard := none }) (v := ?_) rfl (by kernel_rfl) (by kernel_rfl) (by kernel_rfl) (fun _ _ _ h => h) (Or.inl ⟨by rfl, ?_⟩) (by assumption) ?_
  case refine_2 =>
    intro w hSw
    (try dsimp only at hSw)
    (try go_simp)
    all_goals (with_reducible rfl)
  (try dsimp only [Act.put]); (try simp only [List.setIfInBounds_toArray, List.set_cons_zero, List.set_cons_succ])
  refine wpAnyH_ready (rs := [5, 11]) (by kernel_rfl) (by simp) (AllReadyH.cons (o := { dst := some 13, op := Op.call { callee := Callee.value (Operand.func 219), args := #[Operand.tmp 10, Operand.tmp 12], argTypes := #[9, 3] }, type := 5, pos := "chase.go:23", after := #[{ on := 2, ground := Ground.data }, { on := 4, ground := Ground.data }], guard := none }) rfl (fun K hK => ?rd1) (AllReadyH.cons (o := { dst := some 5, op := Op.alloc 182, type := 0, pos := "chase.go:23", after := #[], guard := none }) rfl (fun K hK => ?rd2) AllReadyH.nil))
  case' rd1 =>
    go_simp
    refine (at_h s _ _ _ (by first | with_reducible exact HX | with_reducible exact HY)).mono ?_; rintro e w1 ⟨rfl, rfl⟩
    refine hK.out _ _ ?_ (fun hHeld => ?_)
    · exact hHeld
    clear hK K
    refine wpAnyH_ready (rs := [9, 11]) (by kernel_rfl) (by simp) (AllReadyH.cons (o := { dst := some 17, op := Op.call { callee := Callee.value (Operand.func 219), args := #[Operand.tmp 14, Operand.tmp 16], argTypes := #[9, 3] }, type := 5, pos := "chase.go:23", after := #[{ on := 6, ground := Ground.data }, { on := 8, ground := Ground.data }, { on := 5, ground := Ground.chain }], guard := none }) rfl (fun K hK => ?rd3) (AllReadyH.cons (o := { dst := some 5, op := Op.alloc 182, type := 0, pos := "chase.go:23", after := #[], guard := none }) rfl (fun K hK => ?rd4) AllReadyH.nil))
    case' rd3 =>
      go_simp
      refine (at_h s _ _ _ (by first | with_reducible exact HX | with_reducible exact HY)).mono ?_; rintro e w1 ⟨rfl, rfl⟩
      refine hK.out _ _ ?_ (fun hHeld => ?_)
      · exact hHeld
      clear hK K
      refine wpAnyH_take (i := 10) (oi := { dst := some 18, op := Op.build 182 #[(0, Operand.tmp 8), (1, Operand.tmp 9), (2, Operand.tmp 13), (3, Operand.tmp 17)], type := 182, pos := "chase.go:23", after := #[{ on := 0, ground := Ground.data }, { on := 1, ground := Ground.data }, { on := 5, ground := Ground.data }, { on := 9, ground := Ground.data }], guard := none }) (v := ?_) rfl (by kernel_rfl) (by kernel_rfl) (by kernel_rfl) (fun _ _ _ h => h) (Or.inl ⟨by rfl, ?_⟩) (by assumption) ?_
      case refine_2 =>
        intro w hSw
        (try dsimp only at hSw)
        (try go_simp)
        all_goals (with_reducible rfl)
      (try dsimp only [Act.put]); (try simp only [List.setIfInBounds_toArray, List.set_cons_zero, List.set_cons_succ])
      refine wpAnyH_ready (rs := [11]) (by kernel_rfl) (by simp) (AllReadyH.cons (o := { dst := some 5, op := Op.alloc 182, type := 0, pos := "chase.go:23", after := #[], guard := none }) rfl (fun K hK => ?_) AllReadyH.nil)
      go_simp
      refine hK.out _ _ ?_ (fun hHeld => ?_)
      · exact mv2_keep hHeld (below_new _ _)
      clear hK K
      (try dsimp only [Act.put]); (try simp only [List.setIfInBounds_toArray, List.set_cons_zero, List.set_cons_succ])
      refine wpAnyH_ready (rs := [12]) (by kernel_rfl) (by simp) (AllReadyH.cons (o := { dst := none, op := Op.store 182 (Operand.tmp 5) (Operand.tmp 18), type := 0, pos := "chase.go:23", after := #[{ on := 11, ground := Ground.data }, { on := 10, ground := Ground.data }, { on := 9, ground := Ground.chain }, { on := 0, ground := Ground.phase }, { on := 1, ground := Ground.phase }, { on := 2, ground := Ground.phase }, { on := 3, ground := Ground.phase }, { on := 4, ground := Ground.phase }, { on := 5, ground := Ground.phase }, { on := 6, ground := Ground.phase }, { on := 7, ground := Ground.phase }, { on := 8, ground := Ground.phase }, { on := 9, ground := Ground.phase }, { on := 10, ground := Ground.phase }, { on := 11, ground := Ground.phase }], guard := none }) rfl (fun K hK => ?_) AllReadyH.nil)
      go_simp
      refine hK.out _ _ ?_ (fun hHeld => ?_)
      · exact mv2_keep hS (below_new _ _)
      clear hK K
      (try dsimp only [Act.put]); (try simp only [List.setIfInBounds_toArray, List.set_cons_zero, List.set_cons_succ])
      refine wpAnyH_done (by kernel_rfl) ?_ _
    case' rd4 =>
      go_simp
      refine hK.out _ _ ?_ (fun hHeld => ?_)
      · exact mv2_keep hHeld (below_new _ _)
      clear hK K
      (try dsimp only [Act.put]); (try simp only [List.setIfInBounds_toArray, List.set_cons_zero, List.set_cons_succ])
      refine wpAnyH_ready (rs := [9]) (by kernel_rfl) (by simp) (AllReadyH.cons (o := { dst := some 17, op := Op.call { callee := Callee.value (Operand.func 219), args := #[Operand.tmp 14, Operand.tmp 16], argTypes := #[9, 3] }, type := 5, pos := "chase.go:23", after := #[{ on := 6, ground := Ground.data }, { on := 8, ground := Ground.data }, { on := 5, ground := Ground.chain }], guard := none }) rfl (fun K hK => ?_) AllReadyH.nil)
      go_simp
      refine (at_h s _ _ _ (by first | with_reducible exact HX | with_reducible exact HY)).mono ?_; rintro e w1 ⟨rfl, rfl⟩
      refine hK.out _ _ ?_ (fun hHeld => ?_)
      · exact hHeld
      clear hK K
      refine wpAnyH_take (i := 10) (oi := { dst := some 18, op := Op.build 182 #[(0, Operand.tmp 8), (1, Operand.tmp 9), (2, Operand.tmp 13), (3, Operand.tmp 17)], type := 182, pos := "chase.go:23", after := #[{ on := 0, ground := Ground.data }, { on := 1, ground := Ground.data }, { on := 5, ground := Ground.data }, { on := 9, ground := Ground.data }], guard := none }) (v := ?_) rfl (by kernel_rfl) (by kernel_rfl) (by kernel_rfl) (fun _ _ _ h => h) (Or.inl ⟨by rfl, ?_⟩) (by assumption) ?_
      case refine_2 =>
        intro w hSw
        (try dsimp only at hSw)
        (try go_simp)
        all_goals (with_reducible rfl)
      (try dsimp only [Act.put]); (try simp only [List.setIfInBounds_toArray, List.set_cons_zero, List.set_cons_succ])
      refine wpAnyH_ready (rs := [12]) (by kernel_rfl) (by simp) (AllReadyH.cons (o := { dst := none, op := Op.store 182 (Operand.tmp 5) (Operand.tmp 18), type := 0, pos := "chase.go:23", after := #[{ on := 11, ground := Ground.data }, { on := 10, ground := Ground.data }, { on := 9, ground := Ground.chain }, { on := 0, ground := Ground.phase }, { on := 1, ground := Ground.phase }, { on := 2, ground := Ground.phase }, { on := 3, ground := Ground.phase }, { on := 4, ground := Ground.phase }, { on := 5, ground := Ground.phase }, { on := 6, ground := Ground.phase }, { on := 7, ground := Ground.phase }, { on := 8, ground := Ground.phase }, { on := 9, ground := Ground.phase }, { on := 10, ground := Ground.phase }, { on := 11, ground := Ground.phase }], guard := none }) rfl (fun K hK => ?_) AllReadyH.nil)
      go_simp
      refine hK.out _ _ ?_ (fun hHeld => ?_)
      · exact mv2_keep hS (below_new _ _)
      clear hK K
      (try dsimp only [Act.put]); (try simp only [List.setIfInBounds_toArray, List.set_cons_zero, List.set_cons_succ])
      refine wpAnyH_done (by kernel_rfl) ?_ _
  case' rd2 =>
    go_simp
    refine hK.out _ _ ?_ (fun hHeld => ?_)
    · exact mv2_keep hHeld (below_new _ _)
    clear hK K
    (try dsimp only [Act.put]); (try simp only [List.setIfInBounds_toArray, List.set_cons_zero, List.set_cons_succ])
    refine wpAnyH_ready (rs := [5]) (by kernel_rfl) (by simp) (AllReadyH.cons (o := { dst := some 13, op := Op.call { callee := Callee.value (Operand.func 219), args := #[Operand.tmp 10, Operand.tmp 12], argTypes := #[9, 3] }, type := 5, pos := "chase.go:23", after := #[{ on := 2, ground := Ground.data }, { on := 4, ground := Ground.data }], guard := none }) rfl (fun K hK => ?_) AllReadyH.nil)
    go_simp
    refine (at_h s _ _ _ (by first | with_reducible exact HX | with_reducible exact HY)).mono ?_; rintro e w1 ⟨rfl, rfl⟩
    refine hK.out _ _ ?_ (fun hHeld => ?_)
    · exact hHeld
    clear hK K
    refine wpAnyH_ready (rs := [9]) (by kernel_rfl) (by simp) (AllReadyH.cons (o := { dst := some 17, op := Op.call { callee := Callee.value (Operand.func 219), args := #[Operand.tmp 14, Operand.tmp 16], argTypes := #[9, 3] }, type := 5, pos := "chase.go:23", after := #[{ on := 6, ground := Ground.data }, { on := 8, ground := Ground.data }, { on := 5, ground := Ground.chain }], guard := none }) rfl (fun K hK => ?_) AllReadyH.nil)
    go_simp
    refine (at_h s _ _ _ (by first | with_reducible exact HX | with_reducible exact HY)).mono ?_; rintro e w1 ⟨rfl, rfl⟩
    refine hK.out _ _ ?_ (fun hHeld => ?_)
    · exact hHeld
    clear hK K
    refine wpAnyH_take (i := 10) (oi := { dst := some 18, op := Op.build 182 #[(0, Operand.tmp 8), (1, Operand.tmp 9), (2, Operand.tmp 13), (3, Operand.tmp 17)], type := 182, pos := "chase.go:23", after := #[{ on := 0, ground := Ground.data }, { on := 1, ground := Ground.data }, { on := 5, ground := Ground.data }, { on := 9, ground := Ground.data }], guard := none }) (v := ?_) rfl (by kernel_rfl) (by kernel_rfl) (by kernel_rfl) (fun _ _ _ h => h) (Or.inl ⟨by rfl, ?_⟩) (by assumption) ?_
    case refine_2 =>
      intro w hSw
      (try dsimp only at hSw)
      (try go_simp)
      all_goals (with_reducible rfl)
    (try dsimp only [Act.put]); (try simp only [List.setIfInBounds_toArray, List.set_cons_zero, List.set_cons_succ])
    refine wpAnyH_ready (rs := [12]) (by kernel_rfl) (by simp) (AllReadyH.cons (o := { dst := none, op := Op.store 182 (Operand.tmp 5) (Operand.tmp 18), type := 0, pos := "chase.go:23", after := #[{ on := 11, ground := Ground.data }, { on := 10, ground := Ground.data }, { on := 9, ground := Ground.chain }, { on := 0, ground := Ground.phase }, { on := 1, ground := Ground.phase }, { on := 2, ground := Ground.phase }, { on := 3, ground := Ground.phase }, { on := 4, ground := Ground.phase }, { on := 5, ground := Ground.phase }, { on := 6, ground := Ground.phase }, { on := 7, ground := Ground.phase }, { on := 8, ground := Ground.phase }, { on := 9, ground := Ground.phase }, { on := 10, ground := Ground.phase }, { on := 11, ground := Ground.phase }], guard := none }) rfl (fun K hK => ?_) AllReadyH.nil)
    go_simp
    refine hK.out _ _ ?_ (fun hHeld => ?_)
    · exact mv2_keep hS (below_new _ _)
    clear hK K
    (try dsimp only [Act.put]); (try simp only [List.setIfInBounds_toArray, List.set_cons_zero, List.set_cons_succ])
    refine wpAnyH_done (by kernel_rfl) ?_ _
  all_goals
    have hC := cap_keep (cap_start W0 s a b x y hT0) (Below.refl _ _).drew
    obtain ⟨W1, hW1⟩ : ∃ W1, (W0.alloc (.cells #[.string s, .int .i64 a, .int .i64 b, .int .u8 (x : Int), .int .u8 (y : Int)] 182)).drew = W1 := ⟨_, rfl⟩
    rw [hW1] at hC ⊢
    clear hHeld hS hW1
    go_wp2_with fail
    refine (musts_is _).mono ?_
    rintro e w2 ⟨rfl, hb⟩
    have hC2 := cap_keep hC hb
    clear hC hb
    go_wp2_with fail
    go_loopw [7, 20] (fun _ i wr => ∃ k : Nat, k ≤ 4 ∧ i = .int .i64 k ∧ CapS W0 s a b x y wr ∧ Hid (∀ j, j < k → mustK s a b x y j = true)) (fun _ i _ => 4 - (intOf i).toNat)
    case atStart => exact ⟨0, by omega, rfl, hC2, fun j h => absurd h (Nat.not_lt_zero _)⟩
    case round =>
      obtain ⟨k, hk, rfl, hC, hno⟩ := hrel
      have HS := Lib.hid hC
      by_cases hlt : k < 4
      · obtain ⟨c0, c1, c2, c3, c4, hTw, hBw⟩ := hC
        have b1 : (k : Int) < 4 := by omega
        obtain ⟨u, hu⟩ : ∃ u, mustK s a b x y k = u := ⟨_, rfl⟩
        have HU := Lib.hid hu
        clear hu hk hC2
        obtain ⟨f, hf, hix, hen⟩ := conds_at k hlt
        have HF := Lib.hid hf
        clear hf
        go_wp2_with fail
        refine (must_at s a b x y k f HF.out u _ hTw HU.out).mono ?_
        rintro e w3 ⟨rfl, hb⟩
        have hC3 := cap_keep HS.out hb
        clear c0 c1 c2 c3 c4 hTw hBw hb
        cases u
        · have hr : v = false := by rw [← HV.out, threat_no HU.out]
          subst hr
          go_wp2
          go_ret
          exact ⟨rfl, hB0.trans ((cap_below hC3).mono hB0.size)⟩
        · go_wp2_with fail
          go_roundw
          case rel =>
            refine ⟨k + 1, by omega, by go_num, hC3, ?_⟩
            show ∀ j, j < k + 1 → _
            intro j hj
            by_cases e : j = k
            · subst e
              exact HU.out
            · exact hno.out j (by omega)
          case measure => simp [intOf]; omega
      · have hk4 : k = 4 := by omega
        subst hk4
        have hr : v = true := by rw [← HV.out, threat_all hno.out]
        subst hr
        clear hlt hk hno
        go_wp2
        go_ret
        exact ⟨rfl, hB0.trans ((cap_below HS.out).mono hB0.size)⟩
end Go.Proofs.YtbdgbihdhbjljaaGreatDoor

namespace Go.Proofs.YtbdgbihdhbjljaaGreatDoor
open Go.RowKit Go.Shelf
open M (S)

theorem threatV_none {s : ByteArray} {a b : Int} {x y : Nat} (h : couldI s (sideN x) a b = false) : threatV s a b x y = false := by
  unfold threatV must1
  rw [h, Bool.and_false, Bool.false_and, Bool.false_and, Bool.false_and]
theorem threatV_is (s : ByteArray) (a b : Int) : threatV s a b (atB s a) (atB s b) = threatI s a b := by
  by_cases hin : isB s = true ∧ sqI a = true ∧ sqI b = true
  · obtain ⟨hs, ha, hb⟩ := hin
    have e1 : atB s a = bAt s a.toNat := by unfold atB; rw [if_pos ⟨hs, ha⟩]
    have e2 : atB s b = bAt s b.toNat := by unfold atB; rw [if_pos ⟨hs, hb⟩]
    obtain ⟨a0, a1⟩ := sqI_iff.1 ha
    obtain ⟨b0, b1⟩ := sqI_iff.1 hb
    obtain ⟨m, rfl⟩ : ∃ m : Nat, a = m := ⟨a.toNat, by omega⟩
    obtain ⟨n, rfl⟩ : ∃ n : Nat, b = n := ⟨b.toNat, by omega⟩
    have hm : m < 90 := by omega
    have hn : n < 90 := by omega
    rw [threatI_nat hs hm hn, e1, e2, Int.toNat_natCast, Int.toNat_natCast]
    unfold threatV must1 must2 must3 must4 threatB momentB worthB fairB
    rw [couldI_nat hs hm hn, couldI_nat hs hn hm, guardI_nat hs hm hn]
  · have e : (isB s && sqI a && sqI b) = false := by
      rw [Bool.eq_false_iff]
      intro h
      rw [Bool.and_eq_true, Bool.and_eq_true] at h
      exact hin ⟨h.1.1, h.1.2, h.2⟩
    rw [threatV_none (by unfold couldI; rw [e, Bool.false_and])]
    unfold threatI
    rw [e, Bool.false_and]
/-- The set behind the first k of them. -/
def chS (s : ByteArray) (L : List (Nat × Nat)) (k : Nat) : S := (L.take k).foldl (fun t m => if threatB s m.1 m.2 then t.put (m.2 : Int) else t) S.empty
theorem chS_succ (s : ByteArray) (L : List (Nat × Nat)) {k : Nat} (h : k < L.length) : chS s L (k + 1) = if threatB s L[k].1 L[k].2 then (chS s L k).put (L[k].2 : Int) else chS s L k := by
  unfold chS
  rw [List.take_succ_eq_append_getElem h, List.foldl_append]
  rfl
theorem has_chS (s : ByteArray) {i : Nat} (hi : i < 90) : ∀ (l : List (Nat × Nat)) (t : S), (l.foldl (fun t m => if threatB s m.1 m.2 then t.put (m.2 : Int) else t) t).has i = (t.has i || l.any fun m => m.2 == i && threatB s m.1 m.2)
  | [], t => by simp
  | m :: l, t => by
    rw [List.foldl_cons, has_chS s hi l, List.any_cons]
    cases ht : threatB s m.1 m.2
    · simp
    · rw [if_pos rfl, S.has_put, Bool.and_true, Bool.or_assoc]
      congr 2
      rw [Bool.eq_iff_iff, decide_eq_true_iff, beq_iff_eq]
      omega
theorem sqs_chS (s : ByteArray) (side : Int) : (chS s (takesG s side) (takesG s side).length).sqs.map (fun i => (i.val : Int)) = chasedL s side := by
  have h : (chS s (takesG s side) (takesG s side).length).sqs.map Fin.val = (List.range 90).filter (chasedB s side) := by
    rw [S.sqs_val]
    apply List.filter_congr
    intro i hi
    unfold chS
    rw [List.take_length, has_chS s (List.mem_range.1 hi), S.has_empty, Bool.false_or]
    rfl
  unfold chasedL trues
  rw [← h, List.map_map]
  rfl
theorem list_chS (s : ByteArray) (side : Int) (w : World) (hT : Tab w) : Calls Tryz.prog 198 #[.agg #[.int .u64 (chS s (takesG s side) (takesG s side).length).lo, .int .u64 (chS s (takesG s side) (takesG s side).length).hi]] w (OwnL w (chasedL s side)) :=
  (callsIn_wide.1 (list_in (chS s (takesG s side) (takesG s side).length) w hT)).mono fun _ _ ⟨v, he, ho, hb⟩ => by
    have hl : (chasedL s side).length = (chS s (takesG s side) (takesG s side).length).sqs.length := by rw [← sqs_chS, List.length_map]
    refine ⟨v, he, ?_, hb⟩
    rw [hl, ← sqs_chS, List.map_map]
    exact ho
theorem threat_is (s : ByteArray) (a b : Int) (v : Bool) (w : World) (hT : Tab w) (h : threatI s a b = v) : Calls Tryz.prog 196 #[.string s, .agg #[.int .i64 a, .int .i64 b]] w (Gives w (.bool v)) :=
  threat_any s a b _ _ v w hT rfl rfl (by rw [threatV_is]; exact h)
end Go.Proofs.YtbdgbihdhbjljaaGreatDoor

namespace Go.Proofs.YtbdgbihdhbjljaaGreatDoor
open Go.RowKit Go.Shelf
open M (S)

set_option maxRecDepth 100000 in
set_option maxHeartbeats 8000000 in
theorem all_go (s : ByteArray) (side : Int) (L : List (Nat × Nat)) (n : Nat) (w : World) (hT : Tab w) (hL : takesG s side = L) (hn : L.length = n) (hm : n ≤ 8100)
    (hlist : ∀ W, Tab W → Calls Tryz.prog 198 #[.agg #[.int .u64 (chS s L n).lo, .int .u64 (chS s L n).hi]] W (OwnL W (chasedL s side))) : Calls Tryz.prog 163 #[.string s, .int .i64 side] w (OwnL w (chasedL s side)) := by
  unfold OwnL
  obtain ⟨W0, hW0⟩ : ∃ W0, w.alloc (.cells #[.int .u64 0, .int .u64 0] 155) = W0 := ⟨_, rfl⟩
  have hB0 : Below w.heap.size w W0 := by rw [← hW0]; exact below_new _ _
  have hT0 := hT.below hB0 hT.lt
  have bT0 : Blk W0 w.heap.size 155 (svc (chS s L 0)) := by rw [← hW0]; exact Blk.new _ _ _ rfl
  have hz0 : W0.heap.size = w.heap.size + 1 := by rw [← hW0]; simp
  have HW := Lib.hid hW0
  have HL := Lib.hid hL
  have HN := Lib.hid hn
  have HC : Hid (∀ k (hk : k < L.length), threatI s (L[k].1 : Int) (L[k].2 : Int) = threatB s L[k].1 L[k].2) := fun k hk => by
    have hmem : L[k] ∈ takesG s side := by rw [hL]; exact List.getElem_mem hk
    obtain ⟨hs, h1, h2, _⟩ := takes_mem.1 (show (L[k].1, L[k].2) ∈ takesG s side from hmem)
    exact threatI_nat hs h1 h2
  have HLI := Lib.hid hlist
  clear hW0 hL hn hlist
  go_enter Tryz.func163, Tryz.ntmps163
  go_wp2_with fail
  rw [HW.out]
  refine (gtakes_is s side L n _ hT0 HL.out HN.out).mono ?_
  rintro e w1 ⟨v, rfl, ho, hb1⟩
  obtain ⟨A, c, rfl⟩ := owns_slice ho
  have hrd0 := Rd.owns ho
  have hA : ∀ ad, A = some ad → w.heap.size < ad.block := fun ad e => by
    subst e
    rcases ho.2 with ⟨h1, _⟩ | ⟨g', cap', cur, h1, hb, _⟩
    · simp at h1
    · simp only [Value.slice.injEq, Option.some.injEq] at h1
      rw [h1.1]
      show w.heap.size < g'
      omega
  have bT1 := bT0.next hb1
  have hT1 := hT0.next hb1
  have hB1 := hB0.trans (hb1.mono hB0.size)
  have hTl := hT.lt
  clear bT0 hT0 ho
  go_wp2_with fail
  go_loopw [7, 12] (fun _ i wr => ∃ k : Nat, k ≤ n ∧ i = .int .i64 k ∧ Blk wr w.heap.size 155 (svc (chS s L k)) ∧ Rd wr A (mvs L) ∧ Tab wr ∧ Below w.heap.size w wr) (fun _ i _ => n - (intOf i).toNat)
  case atStart => exact ⟨0, Nat.zero_le _, rfl, bT1, hrd0, hT1, hB1⟩
  case round =>
    obtain ⟨k, hk, rfl, bT, hrd, hTr, hB⟩ := hrel
    by_cases hlt : k < n
    · have hkl : k < L.length := by rw [HN.out]; exact hlt
      have hst := chS_succ s L hkl
      have hth := HC.out k hkl
      obtain ⟨g1, o1, rfl, c0, c1⟩ := hrd.move hkl
      obtain ⟨⟨a, b⟩, hab⟩ : ∃ x, L[k] = x := ⟨_, rfl⟩
      rw [hab] at c0 c1 hst hth
      obtain ⟨u, hu⟩ : ∃ u, threatB s a b = u := ⟨_, rfl⟩
      rw [hu] at hst hth
      have HTH := Lib.hid hth
      have HST := Lib.hid hst
      have b1 : (k : Int) < (n : Int) := by omega
      have HR := Lib.hid hrd
      have hgw : w.heap.size < g1 := hA _ rfl
      obtain ⟨W4, hW4⟩ : ∃ W4, wr.alloc (.cells #[.int .i64 (a : Int), .int .i64 (b : Int)] 48) = W4 := ⟨_, rfl⟩
      have hb4 : Below wr.heap.size wr W4 := by rw [← hW4]; exact below_new _ _
      have bM : Blk W4 wr.heap.size 48 #[.int .i64 (a : Int), .int .i64 (b : Int)] := by rw [← hW4]; exact Blk.new _ _ _ rfl
      have hT4 := hTr.next hb4
      have HW4 := Lib.hid hW4
      clear hu hab hst hth hW4
      go_wp2_with fail
      rw [HW4.out]
      have m0 : W4.cell? ⟨wr.heap.size, 0, none⟩ = some (.int .i64 (a : Int)) := bM.cell 0
      have m1 : W4.cell? ⟨wr.heap.size, 1, none⟩ = some (.int .i64 (b : Int)) := bM.cell 1
      clear c0 c1
      go_wp2_with fail
      refine (threat_is s a b u _ hT4 HTH.out).mono ?_
      rintro e w5 ⟨rfl, hb5⟩
      have hb45 := hb4.trans (hb5.mono hb4.size)
      have bT5 := bT.next hb45
      have hrd5 := HR.out.next hb45
      have hT5 := hTr.next hb45
      have hB5 := hB.trans (hb45.mono hB.size)
      have bM5 := bM.next hb5
      have q0 := bM5.cell 0
      have q1 := bM5.cell 1
      clear m0 m1 bM bT hrd hT4 hb4 hb5 hTr
      cases u
      · go_wp2_with fail
        go_roundw
        case rel => exact ⟨k + 1, by omega, by go_num, by rw [HST.out]; exact bT5, hrd5, hT5, hB5⟩
        case measure => simp [intOf]; omega
      · have t0 := bT5.cell 0
        have t1 := bT5.cell 1
        simp only [List.getElem?_toArray, List.getElem?_cons_zero, List.getElem?_cons_succ] at t0 t1
        go_wp2_with fail
        refine (with_any (chS s L k) (b : Int) _).mono ?_
        rintro e w6 ⟨rfl, hb6⟩
        have bT6 := bT5.next hb6
        have q0 := bT6.cell 0
        have q1 := bT6.cell 1
        have f0 := bT6.frozen 0
        have f1 := bT6.frozen 1
        simp only [List.getElem?_toArray, List.getElem?_cons_zero, List.getElem?_cons_succ] at q0 q1
        have hrd6 := hrd5.next hb6
        have hT6 := hT5.next hb6
        have hB6 := hB5.trans (hb6.mono hB5.size)
        clear t0 t1
        go_wp2
        go_roundw
        case rel =>
          exact ⟨k + 1, by omega, by go_num, by rw [HST.out]; exact blk_two bT6 _ _, rd_far (rd_far hrd6 _ _ hA) _ _ hA, hT6.below (((Below.refl w.heap.size w6).setCell (p := ⟨w.heap.size, 0, none⟩) (Nat.le_refl _) _).setCell (p := ⟨w.heap.size, 1, none⟩) (Nat.le_refl _) _) hTl, (hB6.setCell (p := ⟨w.heap.size, 0, none⟩) (Nat.le_refl _) _).setCell (p := ⟨w.heap.size, 1, none⟩) (Nat.le_refl _) _⟩
        case measure => simp [intOf]; omega
    · obtain rfl : k = n := by omega
      have t0 := bT.cell 0
      have t1 := bT.cell 1
      simp only [List.getElem?_toArray, List.getElem?_cons_zero, List.getElem?_cons_succ] at t0 t1
      have b1 : ¬ (k : Int) < (k : Int) := by omega
      clear hlt hk
      go_wp2_with fail
      refine (HLI.out _ hTr).mono ?_
      rintro e w6 ⟨v6, rfl, ho6, hb6⟩
      go_wp2
      go_ret
      exact ⟨v6, rfl, own_mono ho6 hB.size, hB.trans (hb6.mono hB.size)⟩
theorem chall_is (s : ByteArray) (side : Int) (w : World) (hT : Tab w) : Calls Tryz.prog 163 #[.string s, .int .i64 side] w (OwnL w (chasedL s side)) :=
  all_go s side _ _ w hT rfl rfl (takes_len s side) fun W h => list_chS s side W h
end Go.Proofs.YtbdgbihdhbjljaaGreatDoor

namespace Go.Proofs.YtbdgbihdhbjljaaGreatDoor
open Go.RowKit Go.Shelf
open M (S)

theorem ply_start (w : World) (s : ByteArray) (y z u : Int) (hT : Tab w) {W0 : World} (hW0 : (w.alloc (.cells #[.string s, .int .i64 y, .int .i64 z, .int .i64 u] 23)).alloc (.cells #[.bool false, .slice none 0 0] 119) = W0) :
    Below w.heap.size w W0 ∧ Tab W0 ∧ Blk W0 w.heap.size 23 #[.string s, .int .i64 y, .int .i64 z, .int .i64 u] ∧ Blk W0 (w.heap.size + 1) 119 #[.bool false, .slice none 0 0] := by
  have hB : Below w.heap.size w W0 := by rw [← hW0]; exact (by repeat (first | exact Below.refl _ _ | (refine Below.setCell ?_ (by first | omega | (simp; done) | (simp; omega) | (simp at *; omega)) _) | (refine Below.alloc ?_ (by first | omega | (simp; done) | (simp; omega) | (simp at *; omega)) _) | refine Below.drew ?_ | (refine below_drewN ?_ _) | (refine Below.trans ?_ (Below.mono (by assumption) (by first | omega | (simp; done) | (simp; omega) | (simp at *; omega))))))
  refine ⟨hB, hT.below hB hT.lt, ?_, ?_⟩
  · rw [← hW0]; exact (Blk.new _ _ _ rfl).alloc _
  · rw [← hW0]; exact Blk.new _ _ _ (by simp)
set_option maxRecDepth 100000 in
set_option maxHeartbeats 8000000 in
theorem of_bad (s : ByteArray) (y z u k : Int) (w : World) (hT : Tab w) (hk : wellN s y z u = k) (h : k ≠ 0) : Calls Tryz.prog 119 #[.agg #[.string s, .int .i64 y, .int .i64 z, .int .i64 u]] w (GivesP w false [] k) := by
  unfold GivesP
  obtain ⟨W0, hW0⟩ : ∃ W0, (w.alloc (.cells #[.string s, .int .i64 y, .int .i64 z, .int .i64 u] 23)).alloc (.cells #[.bool false, .slice none 0 0] 119) = W0 := ⟨_, rfl⟩
  obtain ⟨hB, hT0, bP, bQ⟩ := ply_start w s y z u hT hW0
  have HW := Lib.hid hW0
  have HK := Lib.hid hk
  have k0 : (k != 0) = true := by rw [bne_iff_ne]; exact h
  obtain ⟨p0, p1, p2, p3⟩ := ppos_cells bP
  clear hW0 hk h
  go_enter Tryz.func119, Tryz.ntmps119
  go_wp2_with fail
  rw [HW.out]
  refine (well_is s y z u k _ hT0 HK.out).mono ?_
  rintro e w1 ⟨rfl, hb⟩
  have bQ1 := bQ.next hb
  obtain ⟨f0, f1⟩ := ply_frozen bQ1
  obtain ⟨q0, q1⟩ := ply_cells bQ1
  have hB1 := hB.trans (hb.mono hB.size)
  clear p0 p1 p2 p3
  go_wp2
  have bQ2 := (bQ1.set_ 0 (.bool false)).set_ 1 (.slice none 0 0)
  exact bodyPost_ret (v := .tuple #[.agg #[.bool false, .slice none 0 0], .int .i64 k]) (by simp [results, Tryz.results119, go_sem, bQ2.cell 0, bQ2.cell 1]) rfl ⟨none, 0, rfl, rd_none _ _, (hB1.setCell (p := ⟨w.heap.size + 1, 0, none⟩) (by simp) _).setCell (p := ⟨w.heap.size + 1, 1, none⟩) (by simp) _⟩
set_option maxRecDepth 100000 in
set_option maxHeartbeats 8000000 in
theorem of_check (s : ByteArray) (y z u : Int) (w : World) (hT : Tab w) (hk : wellN s y z u = 0) (h : inB s y = true) : Calls Tryz.prog 119 #[.agg #[.string s, .int .i64 y, .int .i64 z, .int .i64 u]] w (GivesP w true [] 0) := by
  unfold GivesP
  obtain ⟨W0, hW0⟩ : ∃ W0, (w.alloc (.cells #[.string s, .int .i64 y, .int .i64 z, .int .i64 u] 23)).alloc (.cells #[.bool false, .slice none 0 0] 119) = W0 := ⟨_, rfl⟩
  obtain ⟨hB, hT0, bP, bQ⟩ := ply_start w s y z u hT hW0
  have HW := Lib.hid hW0
  have HK := Lib.hid hk
  have HI := Lib.hid h
  obtain ⟨p0, p1, p2, p3⟩ := ppos_cells bP
  clear hW0 hk h
  go_enter Tryz.func119, Tryz.ntmps119
  go_wp2_with fail
  rw [HW.out]
  refine (well_is s y z u 0 _ hT0 HK.out).mono ?_
  rintro e w1 ⟨rfl, hb⟩
  have bP1 := bP.next hb
  have bQ1 := bQ.next hb
  have hT1 := hT0.next hb
  have hB1 := hB.trans (hb.mono hB.size)
  clear p0 p1 p2 p3 hb
  obtain ⟨p0, p1, p2, p3⟩ := ppos_cells bP1
  go_wp2_with fail
  refine (in_is s y true _ hT1 HI.out).mono ?_
  rintro e w2 ⟨rfl, hb⟩
  have bQ2 := bQ1.next hb
  have hB2 := hB1.trans (hb.mono hB1.size)
  obtain ⟨f0, f1⟩ := ply_frozen bQ2
  obtain ⟨q0, q1⟩ := ply_cells bQ2
  clear p0 p1 p2 p3 hb
  go_wp2
  have bQ3 := (bQ2.set_ 0 (.bool true)).set_ 1 (.slice none 0 0)
  exact bodyPost_ret (v := .tuple #[.agg #[.bool true, .slice none 0 0], .int .i64 0]) (by simp [results, Tryz.results119, go_sem, bQ3.cell 0, bQ3.cell 1]) rfl ⟨none, 0, rfl, rd_none _ _, (hB2.setCell (p := ⟨w.heap.size + 1, 0, none⟩) (by simp) _).setCell (p := ⟨w.heap.size + 1, 1, none⟩) (by simp) _⟩
set_option maxRecDepth 100000 in
set_option maxHeartbeats 8000000 in
theorem of_quiet (s : ByteArray) (y z u o : Int) (l : List Int) (w : World) (hT : Tab w) (hk : wellN s y z u = 0) (h : inB s y = false) (hy0 : 0 ≤ y) (hy1 : y ≤ 1) (ho : 1 - y = o) (hl : chasedL s o = l) : Calls Tryz.prog 119 #[.agg #[.string s, .int .i64 y, .int .i64 z, .int .i64 u]] w (GivesP w false l 0) := by
  unfold GivesP
  obtain ⟨W0, hW0⟩ : ∃ W0, (w.alloc (.cells #[.string s, .int .i64 y, .int .i64 z, .int .i64 u] 23)).alloc (.cells #[.bool false, .slice none 0 0] 119) = W0 := ⟨_, rfl⟩
  obtain ⟨hB, hT0, bP, bQ⟩ := ply_start w s y z u hT hW0
  have HW := Lib.hid hW0
  have HK := Lib.hid hk
  have HI := Lib.hid h
  have HL := Lib.hid hl
  obtain ⟨p0, p1, p2, p3⟩ := ppos_cells bP
  clear hW0 hk h hl
  go_enter Tryz.func119, Tryz.ntmps119
  go_wp2_with fail
  rw [HW.out]
  refine (well_is s y z u 0 _ hT0 HK.out).mono ?_
  rintro e w1 ⟨rfl, hb⟩
  have bP1 := bP.next hb
  have bQ1 := bQ.next hb
  have hT1 := hT0.next hb
  have hB1 := hB.trans (hb.mono hB.size)
  clear p0 p1 p2 p3 hb
  obtain ⟨p0, p1, p2, p3⟩ := ppos_cells bP1
  go_wp2_with fail
  refine (in_is s y false _ hT1 HI.out).mono ?_
  rintro e w2 ⟨rfl, hb⟩
  have bP2 := bP1.next hb
  have bQ2 := bQ1.next hb
  have hT2 := hT1.next hb
  have hB2 := hB1.trans (hb.mono hB1.size)
  clear p0 p1 p2 p3 hb
  obtain ⟨p0, p1, p2, p3⟩ := ppos_cells bP2
  have hA := chall_is s o w2 hT2
  rw [HL.out] at hA
  go_wp2_with fail
  (try rw [ho])
  refine hA.mono ?_
  rintro e w3 ⟨v3, rfl, ho3, hb⟩
  obtain ⟨A, c, rfl⟩ := own_slice ho3
  have hr := Rd.own ho3
  have hqs : w.heap.size + 1 < w2.heap.size := bQ2.lt
  have hA2 : ∀ ad, A = some ad → w.heap.size + 1 < ad.block := fun ad e => by
    subst e
    rcases ho3.2 with ⟨h1, _⟩ | ⟨g', cap', cur, h1, hb, _⟩
    · simp at h1
    · simp only [Value.slice.injEq, Option.some.injEq] at h1
      rw [h1.1]
      show w.heap.size + 1 < g'
      omega
  clear ho3
  have bQ3 := bQ2.next hb
  have hB3 := hB2.trans (hb.mono hB2.size)
  obtain ⟨f0, f1⟩ := ply_frozen bQ3
  obtain ⟨q0, q1⟩ := ply_cells bQ3
  clear p0 p1 p2 p3 hA
  go_wp2
  have bQ4 := (bQ3.set_ 0 (.bool false)).set_ 1 (.slice A l.length c)
  exact bodyPost_ret (v := .tuple #[.agg #[.bool false, .slice A l.length c], .int .i64 0]) (by simp [results, Tryz.results119, go_sem, bQ4.cell 0, bQ4.cell 1]) rfl ⟨A, c, rfl, rd_far (rd_far hr _ _ hA2) _ _ hA2, (hB3.setCell (p := ⟨w.heap.size + 1, 0, none⟩) (by simp) _).setCell (p := ⟨w.heap.size + 1, 1, none⟩) (by simp) _⟩
theorem cof_any (s : ByteArray) (y z u : Int) (w : World) (hT : Tab w) : Calls Tryz.prog 119 #[.agg #[.string s, .int .i64 y, .int .i64 z, .int .i64 u]] w (GivesP w (plyC s y z u) (plyL s y z u) (wellN s y z u)) := by
  by_cases hk : wellN s y z u = 0
  · have hsd := (check_other (well_zero hk).1).1
    cases hi : inB s y
    · obtain ⟨e1, e2⟩ := ply_quiet hk hi
      rw [e1, e2, hk]
      exact of_quiet s y z u _ _ w hT hk hi (by omega) (by omega) rfl rfl
    · obtain ⟨e1, e2⟩ := ply_check hk hi
      rw [e1, e2, hk]
      exact of_check s y z u w hT hk hi
  · obtain ⟨e1, e2⟩ := ply_bad hk
    rw [e1, e2]
    exact of_bad s y z u _ w hT rfl hk
theorem cof_is (s : ByteArray) (y z u : Int) (c : Bool) (l : List Int) (k : Int) (w : World) (hT : Tab w) (hc : plyC s y z u = c) (hl : plyL s y z u = l) (hk : wellN s y z u = k) : Calls Tryz.prog 119 #[.agg #[.string s, .int .i64 y, .int .i64 z, .int .i64 u]] w (GivesP w c l k) := by
  subst hc hl hk
  exact cof_any s y z u w hT
end Go.Proofs.YtbdgbihdhbjljaaGreatDoor
