/- A game move by move; what stood where ahead of its moves; the game seen from the other side: plainly. No program in it. -/
import Derived.Test.YtnkbilikkbaeeaaGreatDoorCycleA
import Derived.Test.YtnkbilikkbaeeaaGreatDoorLegalM
namespace Go.Proofs.YtnkbilikkbaeeaaGreatDoor
open Go.RowKit Go.Shelf
open M (S)

abbrev Ps.well (p : Ps) : Int := wellN p.s p.y p.z p.u
/-- A position behind a move, if it may be made. -/
def stepP (p : Ps) (m : Int × Int) : Option Ps := if isV p.s p.y p.z p.u m.1 m.2 then some ⟨movedS p.s m.1.toNat m.2.toNat (bAt p.s m.1.toNat), 1 - p.y, clockA p.s p.z m.2.toNat, fullA p.y p.u⟩ else none
theorem isV_parts {s : ByteArray} {y z u a b : Int} (h : isV s y z u a b = true) : wellN s y z u = 0 ∧ (isM s y a b = true ∧ kindN (bAt s b.toNat) ≠ 75) ∧ wellN (movedS s a.toNat b.toNat (bAt s a.toNat)) (1 - y) (clockA s z b.toNat) (fullA y u) = 0 := by
  unfold isV at h
  rw [Bool.and_eq_true, beq_iff_eq] at h
  obtain ⟨h1, h2⟩ := h
  by_cases h3 : isM s y a b = true ∧ kindN (bAt s b.toNat) ≠ 75
  · refine ⟨h1, h3, ?_⟩
    rw [leaves_good h3, beq_iff_eq] at h2
    exact h2
  · rw [leaves_bad h3] at h2
    cases h2
theorem make_step {p q : Ps} {m : Int × Int} (h : stepP p m = some q) : ∃ t : Nat, makeV p.s p.y p.z p.u m.1 m.2 = .tuple #[.agg #[.string q.s, .int .i64 q.y, .int .i64 q.z, .int .i64 q.u], .int .u8 t, .int .i64 0] := by
  unfold stepP at h
  split at h
  · rename_i hv
    injection h with h
    subst h
    obtain ⟨h1, h2, _⟩ := isV_parts hv
    have h3 : leavesI p.s p.y p.z p.u m.1 m.2 = true := by
      unfold isV at hv
      rw [Bool.and_eq_true] at hv
      exact hv.2
    unfold makeV
    rw [if_pos h1, if_pos h3, apply_good_value (well_check h1) h2]
    exact ⟨_, rfl⟩
  · cases h
theorem make_stop {p : Ps} {m : Int × Int} (h : stepP p m = none) : ∃ k, k ≠ 0 ∧ makeV p.s p.y p.z p.u m.1 m.2 = noneV k := by
  unfold stepP at h
  split at h
  · cases h
  · rename_i hv
    unfold makeV
    by_cases h1 : wellN p.s p.y p.z p.u = 0
    · rw [if_pos h1]
      have h3 : leavesI p.s p.y p.z p.u m.1 m.2 = false := by
        unfold isV at hv
        rw [h1] at hv
        cases e : leavesI p.s p.y p.z p.u m.1 m.2
        · rfl
        · rw [e] at hv
          exact absurd rfl hv
      rw [h3, if_neg (by simp)]
      exact ⟨7, by decide, rfl⟩
    · rw [if_neg h1]
      exact ⟨_, h1, rfl⟩
theorem make_stop7 {p : Ps} {m : Int × Int} (hw : p.well = 0) (h : stepP p m = none) : makeV p.s p.y p.z p.u m.1 m.2 = noneV 7 := by
  unfold stepP at h
  split at h
  · cases h
  · rename_i hv
    unfold makeV
    have h1 : wellN p.s p.y p.z p.u = 0 := hw
    rw [if_pos h1]
    have h3 : leavesI p.s p.y p.z p.u m.1 m.2 = false := by
      unfold isV at hv
      rw [h1] at hv
      cases e : leavesI p.s p.y p.z p.u m.1 m.2
      · rfl
      · rw [e] at hv
        exact absurd rfl hv
    rw [h3, if_neg (by simp)]
theorem step_parts {p q : Ps} {m : Int × Int} (h : stepP p m = some q) : p.well = 0 ∧ q.well = 0 ∧ (isB p.s = true ∧ (p.y = 0 ∨ p.y = 1)) ∧ ∃ a b : Nat, m = ((a : Int), (b : Int)) ∧ a < 90 ∧ b < 90 ∧ canB p.s a b = true ∧ sideN (bAt p.s a) = p.y ∧ kindN (bAt p.s b) ≠ 75 ∧ q = ⟨behindS p.s (a, b), 1 - p.y, clockA p.s p.z b, fullA p.y p.u⟩ := by
  unfold stepP at h
  split at h
  · rename_i hv
    injection h with h
    subst h
    obtain ⟨h1, ⟨h2, h3⟩, h4⟩ := isV_parts hv
    obtain ⟨hs, ha, hb, hc⟩ := isM_parts h2
    have hsd : sideN (bAt p.s m.1.toNat) = p.y := by
      unfold isM at h2
      rw [Bool.and_eq_true, beq_iff_eq] at h2
      exact h2.2
    have hy := (check_other (well_zero h1).1).1
    obtain ⟨a, b⟩ := m
    refine ⟨h1, h4, ⟨hs, hy⟩, a.toNat, b.toNat, ?_, by omega, by omega, hc, hsd, h3, rfl⟩
    rw [Int.toNat_of_nonneg ha.1, Int.toNat_of_nonneg hb.1]
  · cases h
theorem step_of {p : Ps} (hw : p.well = 0) {a b : Nat} (ha : a < 90) (hb : b < 90) (hc : canB p.s a b = true) (hsd : sideN (bAt p.s a) = p.y) (hk : kindN (bAt p.s b) ≠ 75) (hs : safeB (behindS p.s (a, b)) p.y = true) : stepP p ((a : Int), (b : Int)) = some ⟨behindS p.s (a, b), 1 - p.y, clockA p.s p.z b, fullA p.y p.u⟩ := by
  have hw' : wellN p.s p.y p.z p.u = 0 := hw
  have hB := parts_board (check_zero (well_zero hw').1).1
  have h1 : isM p.s p.y (a : Int) (b : Int) = true ∧ kindN (bAt p.s (b : Int).toNat) ≠ 75 := by
    refine ⟨?_, by rw [Int.toNat_natCast]; exact hk⟩
    rw [isM_two hB ha hb, hc, hsd]
    simp
  have h2 := (well_behind (well_zero hw').1 ha hb hc hk).2 hs
  have h3 : isV p.s p.y p.z p.u (a : Int) (b : Int) = true := by
    unfold isV
    rw [hw', leaves_good h1, Int.toNat_natCast, Int.toNat_natCast, show movedS p.s a b (bAt p.s a) = behindS p.s (a, b) from rfl, h2]
    rfl
  unfold stepP
  rw [if_pos h3]
  rfl
theorem step_safe {p q : Ps} {a b : Nat} (h : stepP p ((a : Int), (b : Int)) = some q) : safeB (behindS p.s (a, b)) p.y = true := by
  obtain ⟨h1, h2, _, a', b', e, ha, hb, hc, _, hk, rfl⟩ := step_parts h
  simp only [Prod.mk.injEq, Int.natCast_inj] at e
  obtain ⟨rfl, rfl⟩ := e
  exact (well_behind (well_zero h1).1 ha hb hc hk).1 h2

/-- A game: positions, and the moves between them. -/
structure Chain (p : Ps) (ls : List Ps) (ms : List (Int × Int)) : Prop where
  len : ls.length = ms.length + 1
  first : ls[0]? = some p
  step : ∀ j, j < ms.length → ∃ a b m, ls[j]? = some a ∧ ms[j]? = some m ∧ ls[j + 1]? = some b ∧ stepP a m = some b
theorem chain_start (p : Ps) : Chain p [p] [] := ⟨rfl, rfl, fun j hj => absurd hj (by simp)⟩
theorem Chain.snoc {p c q : Ps} {ls : List Ps} {ms : List (Int × Int)} {m : Int × Int} (h : Chain p ls ms) (hc : ls[ms.length]? = some c) (hs : stepP c m = some q) : Chain p (ls ++ [q]) (ms ++ [m]) where
  len := by rw [List.length_append, List.length_append, h.len]; rfl
  first := by rw [List.getElem?_append_left (by rw [h.len]; omega)]; exact h.first
  step := fun j hj => by
    rw [List.length_append] at hj
    have hj : j < ms.length + 1 := hj
    by_cases e : j < ms.length
    · obtain ⟨a, b, x, h1, h2, h3, h4⟩ := h.step j e
      exact ⟨a, b, x, by rw [List.getElem?_append_left (by rw [h.len]; omega)]; exact h1, by rw [List.getElem?_append_left e]; exact h2, by rw [List.getElem?_append_left (by rw [h.len]; omega)]; exact h3, h4⟩
    · obtain rfl : j = ms.length := by omega
      refine ⟨c, q, m, ?_, ?_, ?_, hs⟩
      · rw [List.getElem?_append_left (by rw [h.len]; omega)]
        exact hc
      · rw [List.getElem?_append_right (Nat.le_refl _), Nat.sub_self]
        rfl
      · rw [List.getElem?_append_right (by rw [h.len]; omega), h.len, Nat.sub_self]
        rfl
theorem Chain.get {p : Ps} {ls : List Ps} {ms : List (Int × Int)} (h : Chain p ls ms) {j : Nat} (hj : j ≤ ms.length) : ∃ a, ls[j]? = some a := ⟨_, List.getElem?_eq_getElem (by rw [h.len]; omega)⟩
theorem Chain.well {p : Ps} {ls : List Ps} {ms : List (Int × Int)} (h : Chain p ls ms) (h0 : p.well = 0 ∨ 0 < ms.length) {j : Nat} {a : Ps} (ha : ls[j]? = some a) : a.well = 0 := by
  have hj : j < ls.length := by
    rcases Nat.lt_or_ge j ls.length with h | h
    · exact h
    · rw [List.getElem?_eq_none h] at ha
      cases ha
  rw [h.len] at hj
  by_cases e : j < ms.length
  · obtain ⟨x, b, m, h1, _, _, h4⟩ := h.step j e
    rw [ha] at h1
    injection h1 with h1
    subst h1
    exact (step_parts h4).1
  · obtain rfl : j = ms.length := by omega
    rcases Nat.eq_zero_or_pos ms.length with e0 | e0
    · rw [e0, h.first] at ha
      injection ha with ha
      subst ha
      rcases h0 with h0 | h0
      · exact h0
      · omega
    · obtain ⟨x, b, m, h1, _, h3, h4⟩ := h.step (ms.length - 1) (by omega)
      rw [show ms.length - 1 + 1 = ms.length by omega, ha] at h3
      injection h3 with h3
      subst h3
      exact (step_parts h4).2.1
theorem Chain.sq {p : Ps} {ls : List Ps} {ms : List (Int × Int)} (h : Chain p ls ms) : SqM ms := fun x hx => by
  obtain ⟨j, hj, rfl⟩ := List.mem_iff_getElem.1 hx
  obtain ⟨a, b, m, h1, h2, h3, h4⟩ := h.step j hj
  rw [List.getElem?_eq_getElem hj] at h2
  injection h2 with h2
  rw [h2]
  obtain ⟨_, _, _, c, d, rfl, hc, hd, _⟩ := step_parts h4
  show 0 ≤ (c : Int) ∧ (c : Int) < 90 ∧ 0 ≤ (d : Int) ∧ (d : Int) < 90
  omega
/-- A piece that is followed back stood where it is said. -/
theorem Chain.back {p : Ps} {ls : List Ps} {ms : List (Int × Int)} (h : Chain p ls ms) : ∀ (k : Nat) (_ : k ≤ ms.length) (q : Ps) (_ : ls[k]? = some q) (n : Nat) (_ : n < 90) (_ : bAt q.s n ≠ 46), ∃ o : Nat, o < 90 ∧ originI (ms.take k) (n : Int) = (o : Int) ∧ bAt p.s o = bAt q.s n
  | 0, _, q, hq, n, hn, _ => by
    rw [h.first] at hq
    injection hq with hq
    subst hq
    exact ⟨n, hn, by rw [List.take_zero]; rfl, rfl⟩
  | k + 1, hk, q, hq, n, hn, hne => by
    obtain ⟨a, b, m, h1, h2, h3, h4⟩ := h.step k (by omega)
    rw [hq] at h3
    injection h3 with h3
    subst h3
    obtain ⟨_, _, ⟨hB, _⟩, x, y, rfl, hx, hy, hc, _, _, e⟩ := step_parts h4
    have hk' : k < ms.length := by omega
    rw [List.getElem?_eq_getElem hk'] at h2
    injection h2 with h2
    rw [List.take_succ_eq_append_getElem hk', h2, origin_snoc]
    have hat : bAt q.s n = if n = y then bAt a.s x else if n = x then 46 else bAt a.s n := by
      rw [e]
      exact moved_at (isB_size hB) (bAt_lt a.s x) hn
    by_cases e1 : n = y
    · subst e1
      rw [if_pos rfl] at hat ⊢
      rw [hat]
      exact h.back k (by omega) a h1 x hx (by rw [← hat]; exact hne)
    · rw [if_neg e1] at hat
      by_cases e2 : n = x
      · rw [if_pos e2] at hat
        exact absurd hat hne
      · rw [if_neg e2] at hat
        rw [if_neg (show ¬ ((y : Int) = (n : Int)) by omega), hat]
        exact h.back k (by omega) a h1 n hn (by rw [← hat]; exact hne)

/-- A game of those of some moves that may be made. -/
def playS (x : List Ps × List (Int × Int) × Ps) (m : Int × Int) : List Ps × List (Int × Int) × Ps := match stepP x.2.2 m with
  | some q => (x.1 ++ [q], x.2.1 ++ [m], q)
  | none => x
def playF (p : Ps) (l : List (Int × Int)) : List Ps × List (Int × Int) × Ps := l.foldl playS ([p], [], p)
theorem play_succ (p : Ps) (l : List (Int × Int)) {i : Nat} (hi : i < l.length) : playF p (l.take (i + 1)) = playS (playF p (l.take i)) l[i] := by
  unfold playF
  rw [List.take_succ_eq_append_getElem hi, List.foldl_append]
  rfl
theorem play_chain (p : Ps) : ∀ (l : List (Int × Int)) (i : Nat) (_ : i ≤ l.length), Chain p (playF p (l.take i)).1 (playF p (l.take i)).2.1 ∧ (playF p (l.take i)).1[(playF p (l.take i)).2.1.length]? = some (playF p (l.take i)).2.2 ∧ (playF p (l.take i)).2.1.length ≤ i
  | l, 0, _ => by
    rw [List.take_zero]
    exact ⟨chain_start p, rfl, Nat.le_refl _⟩
  | l, i + 1, hi => by
    obtain ⟨h1, h2, h3⟩ := play_chain p l i (by omega)
    rw [play_succ p l (by omega)]
    generalize playF p (l.take i) = x at h1 h2 h3
    obtain ⟨ls, ms, c⟩ := x
    unfold playS
    have h3' : ms.length ≤ i := h3
    cases e : stepP c l[i] with
    | none => exact ⟨h1, h2, Nat.le_succ_of_le h3'⟩
    | some q =>
      refine ⟨h1.snoc h2 e, ?_, ?_⟩
      · show (ls ++ [q])[(ms ++ [l[i]]).length]? = some q
        have hlen : ls.length = ms.length + 1 := h1.len
        rw [List.length_append, List.getElem?_append_right (by rw [hlen]; simp), hlen]
        simp
      · show (ms ++ [l[i]]).length ≤ i + 1
        have h3 : ms.length ≤ i := h3
        rw [List.length_append]
        simp
        omega

/-- A position, and the same one from the other side, whatever its number. -/
structure TurnP (a b : Ps) : Prop where
  wa : a.well = 0
  wb : b.well = 0
  s : b.s = turnB a.s
  y : b.y = 1 - a.y
  z : b.z = a.z
theorem Ps.board {a : Ps} (h : a.well = 0) : isB a.s = true := parts_board (check_zero (well_zero h).1).1
theorem Ps.side {a : Ps} (h : a.well = 0) : a.y = 0 ∨ a.y = 1 := (check_other (well_zero h).1).1
theorem Ps.kings {a : Ps} (h : a.well = 0) : countsB a.s 90 = true ∧ cntN a.s 90 75 = 1 ∧ cntN a.s 90 107 = 1 := by
  obtain ⟨_, hc, _⟩ := check_zero (well_zero h).1
  obtain ⟨_, h1, h2⟩ := counts_parts hc
  exact ⟨hc, h1, h2⟩
theorem well_full {s : ByteArray} {y z u v : Int} (h : wellN s y z u = 0) (h1 : 1 ≤ v) (h2 : v ≤ 9999) : wellN s y z v = 0 := by
  obtain ⟨hck, hf, hi⟩ := well_zero h
  obtain ⟨hp, hc, hpl⟩ := check_zero hck
  have hp2 : partsB s y z v = true := by
    unfold partsB at hp ⊢
    simp only [Bool.and_eq_true, decide_eq_true_eq] at hp ⊢
    exact ⟨⟨hp.1.1, h1⟩, h2⟩
  have hck2 : (checkN s y z v : Int) = 0 := by
    unfold checkN
    rw [hp2, hc, hpl]
    rfl
  unfold wellN
  rw [if_pos hck2, hf, hi]
  rfl
theorem well_nums {s : ByteArray} {y z u : Int} (h : wellN s y z u = 0) : 0 ≤ z ∧ z ≤ 120 ∧ 1 ≤ u ∧ u ≤ 9999 := by
  obtain ⟨hp, _, _⟩ := check_zero (well_zero h).1
  unfold partsB at hp
  simp only [Bool.and_eq_true, decide_eq_true_eq] at hp
  exact ⟨hp.1.1.1.2, hp.1.1.2, hp.1.2, hp.2⟩
theorem turnP_of {a b : Ps} (h : a.well = 0) (hs : b.s = turnB a.s) (hy : b.y = 1 - a.y) (hz : b.z = a.z) (h1 : 1 ≤ b.u) (h2 : b.u ≤ 9999) : TurnP a b := by
  refine ⟨h, ?_, hs, hy, hz⟩
  show wellN b.s b.y b.z b.u = 0
  have h' : wellN a.s a.y a.z a.u = 0 := h
  rw [hs, hy, hz, well_turn (Ps.board h) (Ps.side h)]
  exact well_full h' h1 h2
theorem TurnP.symm {a b : Ps} (h : TurnP a b) : TurnP b a := ⟨h.wb, h.wa, by rw [h.s, turn_turn (Ps.board h.wa)], by rw [h.y]; omega, h.z.symm⟩
theorem turnI_turn (m : Int × Int) : turnI (turnI m) = m := by
  obtain ⟨a, b⟩ := m
  show ((89 - (89 - a), 89 - (89 - b)) : Int × Int) = (a, b)
  rw [show 89 - (89 - a) = a by omega, show 89 - (89 - b) = b by omega]
theorem safe_turnP {s : ByteArray} {y z u : Int} (hw : wellN s y z u = 0) {a b : Nat} (ha : a < 90) (hb : b < 90) (hc : canB s a b = true) (hk : kindN (bAt s b) ≠ 75) (hsd : y = 0 ∨ y = 1) : safeB (behindS (turnB s) (89 - a, 89 - b)) (1 - y) = safeB (behindS s (a, b)) y := by
  obtain ⟨hp, hcn, _⟩ := check_zero (well_zero hw).1
  have hs := parts_board hp
  obtain ⟨f1, f2, f3⟩ := behind_facts hs hcn ha hb (can_self hc) hk
  rw [behind_turn hs ha hb, safe_turn f1 f2 f3 hsd]
theorem step_turn {a b q : Ps} (h : TurnP a b) {m : Int × Int} (hs : stepP a m = some q) : ∃ q', stepP b (turnI m) = some q' ∧ TurnP q q' := by
  obtain ⟨h1, h2, ⟨hB, hy⟩, x, y, rfl, hx, hy9, hc, hsd, hk, rfl⟩ := step_parts hs
  have hsafe := step_safe hs
  have e1 : turnI ((x : Int), (y : Int)) = (((89 - x : Nat) : Int), ((89 - y : Nat) : Int)) := by
    show ((89 - (x : Int), 89 - (y : Int)) : Int × Int) = _
    rw [show (89 : Int) - (x : Int) = ((89 - x : Nat) : Int) by omega, show (89 : Int) - (y : Int) = ((89 - y : Nat) : Int) by omega]
  have hsf := safe_turnP h1 hx hy9 hc hk hy
  have hst := step_of (p := b) h.wb (a := 89 - x) (b := 89 - y) (by omega) (by omega) (by rw [h.s, can_turn hB hx hy9]; exact hc)
    (by rw [h.s, h.y, side_turn hB hx hy]; exact hsd) (by rw [h.s, turn_bAt hB hy9, swap_kind]; exact hk) (by rw [h.s, h.y, hsf]; exact hsafe)
  rw [e1, hst]
  refine ⟨_, rfl, ?_⟩
  have hn := well_nums h.wb
  refine turnP_of h2 ?_ ?_ ?_ ?_ ?_
  · show behindS b.s (89 - x, 89 - y) = turnB (behindS a.s (x, y))
    rw [h.s, behind_turn hB hx hy9]
  · show 1 - b.y = 1 - (1 - a.y)
    rw [h.y]
  · show clockA b.s b.z (89 - y) = clockA a.s a.z y
    unfold clockA
    rw [h.s, h.z, turn_bAt hB hy9]
    have e : (swapN (bAt a.s y) = 46) ↔ (bAt a.s y = 46) := by
      have := swap_empty' (c := bAt a.s y)
      rw [Bool.eq_iff_iff, beq_iff_eq, beq_iff_eq] at this
      exact this
    by_cases h46 : bAt a.s y = 46
    · rw [if_pos h46, if_pos (e.2 h46)]
    · rw [if_neg h46, if_neg fun x => h46 (e.1 x)]
  · show 1 ≤ fullA b.y b.u
    unfold fullA
    split <;> omega
  · show fullA b.y b.u ≤ 9999
    unfold fullA
    split <;> omega
theorem step_turn_none {a b : Ps} (h : TurnP a b) {m : Int × Int} (hs : stepP a m = none) : stepP b (turnI m) = none := by
  cases e : stepP b (turnI m) with
  | none => rfl
  | some q =>
    obtain ⟨q', h1, _⟩ := step_turn h.symm e
    rw [turnI_turn, hs] at h1
    cases h1
end Go.Proofs.YtnkbilikkbaeeaaGreatDoor
