/- Merged: JudgeA JudgeC JudgeD JudgeL. -/
import Derived.Test.YtbdgbihdhbjljaaGreatDoorCycleM
import Derived.Test.YtbdgbihdhbjljaaGreatDoorLegalM

namespace Go.Proofs.YtbdgbihdhbjljaaGreatDoor
open Go.RowKit Go.Shelf
open M (S)

def clampI (c : Int) : Int := min (max c 0) 2
/-- What two classes come to: a kind and a reason. -/
def tableI (r b : Int) : Int × Int := if clampI b < clampI r then (2, if clampI r = 2 then 3 else 4) else if clampI r < clampI b then (3, if clampI b = 2 then 3 else 4) else (1, 5)
/-- The verdict of the last one of some positions. -/
def lastOf (l : List Ps) (m : List (Int × Int)) (p : Ps) : Int × Int :=
  if endV p.s p.y p.z p.u ≠ 0 then (2 + p.y, endV p.s p.y p.z p.u)
  else if 0 ≤ earlierI l then tableI (classI (l.drop (earlierI l).toNat) (m.drop (earlierI l).toNat) 0) (classI (l.drop (earlierI l).toNat) (m.drop (earlierI l).toNat) 1)
  else if p.z = 120 then (1, 6) else (0, 0)
def lastI (l : List Ps) (m : List (Int × Int)) : Int × Int := if l.length = m.length + 1 then (match l[m.length]? with
  | some p => lastOf l m p
  | none => (0, 0)) else (0, 0)
theorem last_of {l : List Ps} {m : List (Int × Int)} {p : Ps} (hl : l.length = m.length + 1) (hp : l[m.length]? = some p) : lastI l m = lastOf l m p := by
  unfold lastI
  rw [if_pos hl, hp]
theorem last_not {l : List Ps} {m : List (Int × Int)} (hl : l.length ≠ m.length + 1) : lastI l m = (0, 0) := by
  unfold lastI
  rw [if_neg hl]
def swapV (v : Int × Int) : Int × Int := (if v.1 = 2 then 3 else if v.1 = 3 then 2 else v.1, v.2)
theorem table_swap (r b : Int) : tableI b r = swapV (tableI r b) := by
  unfold tableI
  rcases Int.lt_trichotomy (clampI b) (clampI r) with h | h | h
  · rw [if_neg (show ¬ clampI r < clampI b by omega), if_pos h, if_pos h]
    rfl
  · rw [if_neg (show ¬ clampI r < clampI b by omega), if_neg (show ¬ clampI b < clampI r by omega), if_neg (show ¬ clampI b < clampI r by omega), if_neg (show ¬ clampI r < clampI b by omega)]
    rfl
  · rw [if_pos h, if_neg (show ¬ clampI b < clampI r by omega), if_pos h]
    rfl
theorem table_kind (r b : Int) : (tableI r b = (1, 5)) ∨ ((tableI r b).1 = 2 ∨ (tableI r b).1 = 3) ∧ ((tableI r b).2 = 3 ∨ (tableI r b).2 = 4) := by
  unfold tableI
  split
  · refine .inr ⟨.inl rfl, ?_⟩
    show (if clampI r = 2 then (3 : Int) else 4) = 3 ∨ (if clampI r = 2 then (3 : Int) else 4) = 4
    split <;> simp
  · split
    · refine .inr ⟨.inr rfl, ?_⟩
      show (if clampI b = 2 then (3 : Int) else 4) = 3 ∨ (if clampI b = 2 then (3 : Int) else 4) = 4
      split <;> simp
    · exact .inl rfl
theorem endV_range (s : ByteArray) (y z u : Int) : endV s y z u = 0 ∨ endV s y z u = 1 ∨ endV s y z u = 2 := by
  unfold endV
  split
  · split
    · exact .inl rfl
    · split
      · exact .inr (.inl rfl)
      · exact .inr (.inr rfl)
  · exact .inl rfl
theorem endV_well {s : ByteArray} {y z u : Int} (h : endV s y z u ≠ 0) : wellN s y z u = 0 := by
  unfold endV at h
  split at h
  · assumption
  · exact absurd rfl h
/-- A verdict: it goes on just if the kind is 0; then the reason is 0, too. -/
theorem lastOf_range (l : List Ps) (m : List (Int × Int)) (p : Ps) : lastOf l m p = (0, 0) ∨ (lastOf l m p).1 = 1 ∨ (lastOf l m p).1 = 2 ∨ (lastOf l m p).1 = 3 := by
  unfold lastOf
  split
  · rename_i h
    have := Ps.side (a := p) (endV_well h)
    rcases this with h | h <;> rw [h] <;> simp
  · split
    · rcases table_kind (classI (l.drop (earlierI l).toNat) (m.drop (earlierI l).toNat) 0) (classI (l.drop (earlierI l).toNat) (m.drop (earlierI l).toNat) 1) with h | ⟨h | h, _⟩
      · rw [h]; simp
      · rw [h]; simp
      · rw [h]; simp
    · split
      · simp
      · simp
theorem lastI_range (l : List Ps) (m : List (Int × Int)) : lastI l m = (0, 0) ∨ (lastI l m).1 = 1 ∨ (lastI l m).1 = 2 ∨ (lastI l m).1 = 3 := by
  unfold lastI
  split
  · cases l[m.length]? with
    | none => exact .inl rfl
    | some p => exact lastOf_range l m p
  · exact .inl rfl
theorem lastI_goes {l : List Ps} {m : List (Int × Int)} (h : (lastI l m).1 = 0) : lastI l m = (0, 0) := by
  rcases lastI_range l m with e | e | e | e
  · exact e
  all_goals omega

/-- A game that is played: the error, the positions. -/
def runJ (p : Ps) (ms : List (Int × Int)) : Nat → Int × List Ps
  | 0 => (0, [p])
  | j + 1 => if (runJ p ms j).1 ≠ 0 then runJ p ms j else if (lastI (runJ p ms j).2 (ms.take j)).1 ≠ 0 then (10, []) else match (runJ p ms j).2[j]?, ms[j]? with
    | some c, some m => (match stepP c m with
      | some q => (0, (runJ p ms j).2 ++ [q])
      | none => (7, []))
    | _, _ => (7, [])
theorem run_err {p : Ps} {ms : List (Int × Int)} {j : Nat} (h : (runJ p ms j).1 ≠ 0) : ∀ d, runJ p ms (j + d) = runJ p ms j
  | 0 => rfl
  | d + 1 => by
    have ih := run_err h d
    rw [show j + (d + 1) = (j + d) + 1 from rfl, runJ, if_pos (by rw [ih]; exact h), ih]
theorem run_end {p : Ps} {ms : List (Int × Int)} {j : Nat} (h : (runJ p ms j).1 = 0) (hl : (lastI (runJ p ms j).2 (ms.take j)).1 ≠ 0) : runJ p ms (j + 1) = (10, []) := by
  rw [runJ, if_neg (by rw [h]; simp), if_pos hl]
theorem run_go {p : Ps} {ms : List (Int × Int)} {j : Nat} {c : Ps} {m : Int × Int} (h : (runJ p ms j).1 = 0) (hl : (lastI (runJ p ms j).2 (ms.take j)).1 = 0) (hc : (runJ p ms j).2[j]? = some c) (hm : ms[j]? = some m) : runJ p ms (j + 1) = match stepP c m with
      | some q => (0, (runJ p ms j).2 ++ [q])
      | none => (7, []) := by
  rw [runJ, if_neg (by rw [h]; simp), if_neg (by rw [hl]; simp), hc, hm]
theorem run_lt {p : Ps} {ms : List (Int × Int)} {j : Nat} (h : (runJ p ms (j + 1)).1 = 0) : (runJ p ms j).1 = 0 := by
  by_cases e : (runJ p ms j).1 = 0
  · exact e
  · rw [run_err e 1] at h
    exact h
theorem run_chain {p : Ps} {ms : List (Int × Int)} : ∀ {j : Nat} (_ : j ≤ ms.length) (_ : (runJ p ms j).1 = 0), Chain p (runJ p ms j).2 (ms.take j)
  | 0, _, _ => by rw [List.take_zero]; exact chain_start p
  | j + 1, hj, h => by
    have h0 := run_lt h
    have ih := run_chain (j := j) (by omega) h0
    have hlen : (ms.take j).length = j := by rw [List.length_take]; omega
    have hm : ms[j]? = some (ms[j]'(by omega)) := List.getElem?_eq_getElem _
    obtain ⟨c, hc⟩ := ih.get (j := j) (by rw [hlen]; exact Nat.le_refl _)
    by_cases hl : (lastI (runJ p ms j).2 (ms.take j)).1 = 0
    · rw [run_go h0 hl hc hm] at h ⊢
      cases hs : stepP c (ms[j]'(by omega)) with
      | none =>
        rw [hs] at h
        exact absurd (show (7 : Int) = 0 from h) (by decide)
      | some q =>
        rw [List.take_succ_eq_append_getElem (by omega)]
        exact ih.snoc (by rw [hlen]; exact hc) hs
    · rw [run_end h0 hl] at h
      exact absurd h (by decide)
theorem run_goes {p : Ps} {ms : List (Int × Int)} {j : Nat} (h : (runJ p ms (j + 1)).1 = 0) : lastI (runJ p ms j).2 (ms.take j) = (0, 0) := by
  by_cases hl : (lastI (runJ p ms j).2 (ms.take j)).1 = 0
  · exact lastI_goes hl
  · rw [run_end (run_lt h) hl] at h
    exact absurd h (by decide)
/-- What is played hangs on the moves so far alone. -/
theorem run_same {p : Ps} {ms ns : List (Int × Int)} : ∀ {j : Nat} (_ : ms.take j = ns.take j), runJ p ms j = runJ p ns j
  | 0, _ => rfl
  | j + 1, h => by
    have h1 : ms.take j = ns.take j := by
      have := congrArg (List.take j) h
      rw [List.take_take, List.take_take, Nat.min_eq_left (by omega)] at this
      exact this
    have h2 : ms[j]? = ns[j]? := by
      have := congrArg (fun l => l[j]?) h
      simp only [List.getElem?_take] at this
      rw [if_pos (by omega), if_pos (by omega)] at this
      exact this
    have ih := run_same (p := p) h1
    rw [runJ, runJ, ih, h1, h2]
/-- The positions of a beginning are a beginning of the positions. -/
theorem run_prefix {p : Ps} {ms : List (Int × Int)} {j : Nat} (hj : j ≤ ms.length) : ∀ (d : Nat) (_ : j + d ≤ ms.length) (_ : (runJ p ms (j + d)).1 = 0), (runJ p ms j).1 = 0 ∧ (runJ p ms (j + d)).2.take (j + 1) = (runJ p ms j).2
  | 0, _, h => ⟨h, List.take_of_length_le (by
      have := (run_chain hj h).len
      rw [List.length_take] at this
      show (runJ p ms j).2.length ≤ j + 1
      omega)⟩
  | d + 1, hd, h => by
    have h0 : (runJ p ms (j + d)).1 = 0 := run_lt h
    obtain ⟨h1, h2⟩ := run_prefix hj d (by omega) h0
    refine ⟨h1, ?_⟩
    have ih := run_chain (j := j + d) (by omega) h0
    have hlen : (ms.take (j + d)).length = j + d := by rw [List.length_take]; omega
    obtain ⟨c, hc⟩ := ih.get (j := j + d) (by rw [hlen]; exact Nat.le_refl _)
    have hm : ms[j + d]? = some (ms[j + d]'(by omega)) := List.getElem?_eq_getElem _
    have hg : lastI (runJ p ms (j + d)).2 (ms.take (j + d)) = (0, 0) := run_goes h
    have hgo := run_go h0 (by rw [hg]) hc hm
    rw [show j + (d + 1) = j + d + 1 from rfl] at h ⊢
    rw [hgo] at h ⊢
    cases hs : stepP c (ms[j + d]'(by omega)) with
    | none =>
      rw [hs] at h
      exact absurd (show (7 : Int) = 0 from h) (by decide)
    | some q =>
      show ((runJ p ms (j + d)).2 ++ [q]).take (j + 1) = _
      rw [List.take_append_of_le_length (by rw [ih.len, hlen]; omega)]
      exact h2
/-- The whole answer: error, kind, reason, positions. -/
def playE (p : Ps) (ms : List (Int × Int)) : Int := if p.well ≠ 0 then p.well else if 1024 < ms.length then 8 else (runJ p ms ms.length).1
def playV (p : Ps) (ms : List (Int × Int)) : Int × Int := if playE p ms = 0 then lastI (runJ p ms ms.length).2 ms else (0, 0)
def playL (p : Ps) (ms : List (Int × Int)) : List Ps := if playE p ms = 0 then (runJ p ms ms.length).2 else []
theorem playE_zero {p : Ps} {ms : List (Int × Int)} (h : playE p ms = 0) : p.well = 0 ∧ ms.length ≤ 1024 ∧ (runJ p ms ms.length).1 = 0 := by
  unfold playE at h
  by_cases h1 : p.well = 0
  · rw [if_neg (by rw [h1]; simp)] at h
    by_cases h2 : 1024 < ms.length
    · rw [if_pos h2] at h
      exact absurd h (by decide)
    · rw [if_neg h2] at h
      exact ⟨h1, by omega, h⟩
  · rw [if_pos h1] at h
    exact absurd h h1
theorem playE_run {p : Ps} {ms : List (Int × Int)} (h1 : p.well = 0) (h2 : ms.length ≤ 1024) : playE p ms = (runJ p ms ms.length).1 := by
  unfold playE
  rw [if_neg (by rw [h1]; simp), if_neg (by omega)]

/-- Seen from the other side. -/
theorem endV_turn {a b : Ps} (h : TurnP a b) : endV b.s b.y b.z b.u = endV a.s a.y a.z a.u := by
  have h1 : wellN a.s a.y a.z a.u = 0 := h.wa
  have h2 : wellN b.s b.y b.z b.u = 0 := h.wb
  obtain ⟨hc, c1, c2⟩ := Ps.kings h.wa
  unfold endV
  rw [if_pos h2, if_pos h1, has_legal _ _ _ _ h2, has_legal _ _ _ _ h1, legal_same, legal_same, if_pos h2, if_pos h1, h.s, h.y, legal_turn (Ps.board h.wa) hc (Ps.side h.wa), List.length_reverse, List.length_map, in_turn (Ps.board h.wa) c1 c2 (Ps.side h.wa)]
theorem last_turn {l k : List Ps} (h : Pair TurnP l k) (m : List (Int × Int)) : lastI k (m.map turnI) = swapV (lastI l m) := by
  by_cases hl : l.length = m.length + 1
  · have hp : l[m.length]? = some (l[m.length]'(by omega)) := List.getElem?_eq_getElem _
    obtain ⟨b, hb, hr⟩ := pair_get h hp
    generalize (l[m.length]'(by omega)) = a at hp hr
    rw [last_of hl hp, last_of (by rw [List.length_map, ← h.len]; exact hl) (by rw [List.length_map]; exact hb)]
    unfold lastOf
    rw [endV_turn hr, ← earlier_pair same_turn h, hr.z, hr.y]
    have hy := Ps.side hr.wa
    by_cases he : endV a.s a.y a.z a.u = 0
    · have hne : ¬ (endV a.s a.y a.z a.u ≠ 0) := by rw [he]; simp
      simp only [if_neg hne]
      by_cases h0 : 0 ≤ earlierI l
      · simp only [if_pos h0]
        have e0 := class_turn (pair_drop h (earlierI l).toNat) (m.drop (earlierI l).toNat) 0
        have e1 := class_turn (pair_drop h (earlierI l).toNat) (m.drop (earlierI l).toNat) 1
        rw [← List.map_drop, show (0 : Int) = 1 - 1 from rfl, ← e1, show (1 : Int) = 1 - 0 from rfl, ← e0]
        exact table_swap _ _
      · simp only [if_neg h0]
        split <;> rfl
    · have he : endV a.s a.y a.z a.u ≠ 0 := he
      simp only [if_pos he]
      rcases hy with hy | hy <;> rw [hy] <;> rfl
  · rw [last_not hl, last_not (by rw [List.length_map, ← h.len]; exact hl)]
    rfl
theorem swapV_goes (v : Int × Int) : (swapV v).1 = 0 ↔ v.1 = 0 := by
  unfold swapV
  show (if v.1 = 2 then (3 : Int) else if v.1 = 3 then 2 else v.1) = 0 ↔ _
  split
  · omega
  · split <;> omega
theorem run_turn {p q : Ps} (h : TurnP p q) (ms : List (Int × Int)) : ∀ (j : Nat) (_ : j ≤ ms.length), (runJ q (ms.map turnI) j).1 = (runJ p ms j).1 ∧ ((runJ p ms j).1 = 0 → Pair TurnP (runJ p ms j).2 (runJ q (ms.map turnI) j).2)
  | 0, _ => ⟨rfl, fun _ => pair_one h⟩
  | j + 1, hj => by
    obtain ⟨h1, h2⟩ := run_turn h ms j (by omega)
    by_cases h0 : (runJ p ms j).1 = 0
    · have hp := h2 h0
      have h0' : (runJ q (ms.map turnI) j).1 = 0 := by rw [h1, h0]
      have hl := last_turn hp (ms.take j)
      rw [List.map_take] at hl
      by_cases hg : (lastI (runJ p ms j).2 (ms.take j)).1 = 0
      · have hg' : (lastI (runJ q (ms.map turnI) j).2 ((ms.map turnI).take j)).1 = 0 := by rw [hl, swapV_goes]; exact hg
        have ih := run_chain (p := p) (ms := ms) (j := j) (by omega) h0
        have hlen : (ms.take j).length = j := by rw [List.length_take]; omega
        obtain ⟨c, hc⟩ := ih.get (j := j) (by rw [hlen]; exact Nat.le_refl _)
        obtain ⟨d, hd, hr⟩ := pair_get hp hc
        have hm : ms[j]? = some (ms[j]'(by omega)) := List.getElem?_eq_getElem _
        have hm' : (ms.map turnI)[j]? = some (turnI (ms[j]'(by omega))) := by rw [List.getElem?_map, hm]; rfl
        rw [run_go h0 hg hc hm, run_go h0' hg' hd hm']
        cases hs : stepP c (ms[j]'(by omega)) with
        | none =>
          rw [step_turn_none hr hs]
          exact ⟨rfl, fun e => absurd (show (7 : Int) = 0 from e) (by decide)⟩
        | some x =>
          obtain ⟨x', hx, hrx⟩ := step_turn hr hs
          rw [hx]
          exact ⟨rfl, fun _ => pair_snoc hp hrx⟩
      · have hg' : (lastI (runJ q (ms.map turnI) j).2 ((ms.map turnI).take j)).1 ≠ 0 := by rw [hl, ne_eq, swapV_goes]; exact hg
        rw [run_end h0 hg, run_end h0' hg']
        exact ⟨rfl, fun e => absurd e (by decide)⟩
    · have h0' : (runJ q (ms.map turnI) j).1 ≠ 0 := by rw [h1]; exact h0
      rw [run_err h0 1, run_err h0' 1]
      exact ⟨h1, fun e => absurd e h0⟩
end Go.Proofs.YtbdgbihdhbjljaaGreatDoor

namespace Go.Proofs.YtbdgbihdhbjljaaGreatDoor
open Go.RowKit Go.Shelf
open M (S)

theorem clamp_range (c : Int) : clampI c = 0 ∨ clampI c = 1 ∨ clampI c = 2 := by
  unfold clampI
  omega
theorem clamp_eq (c : Int) : clampI c = if c < 0 then 0 else if 2 < c then 2 else c := by
  unfold clampI
  split
  · omega
  · split <;> omega
theorem two_cells {W : World} {g : Nat} {t : TypeId} {a b : Value} (h : Blk W g t #[a, b]) : W.cell? ⟨g, 0, none⟩ = some a ∧ W.cell? ⟨g, 1, none⟩ = some b := ⟨h.cell 0, h.cell 1⟩
set_option maxRecDepth 100000 in
theorem bounded_any (c : Int) (w : World) : Calls Tryz.prog 71 #[.int .i64 c] w (Gives w (.int .i64 (clampI c))) := by
  unfold Gives clampI
  go_enter Tryz.func71, Tryz.ntmps71
  go_wp2
  go_ret
  exact ⟨rfl, Below.refl _ _⟩
theorem bounded_is (c v : Int) (w : World) (h : clampI c = v) : Calls Tryz.prog 71 #[.int .i64 c] w (Gives w (.int .i64 v)) := by
  subst h
  exact bounded_any c w
set_option maxRecDepth 100000 in
theorem reason_any (c : Int) (w : World) : Calls Tryz.prog 73 #[.int .i64 c] w (Gives w (.int .i64 (if c = 2 then 3 else 4))) := by
  unfold Gives
  by_cases h : c = 2
  · have e : (c == 2) = true := by rw [h]; rfl
    rw [if_pos h]
    clear h
    go_enter Tryz.func73, Tryz.ntmps73
    go_wp2
    go_ret
    exact ⟨rfl, Below.refl _ _⟩
  · have e : (c == 2) = false := by rw [beq_eq_false_iff_ne]; exact h
    rw [if_neg h]
    clear h
    go_enter Tryz.func73, Tryz.ntmps73
    go_wp2
    go_ret
    exact ⟨rfl, Below.refl _ _⟩
set_option maxRecDepth 100000 in
theorem loses_any (y v : Int) (w : World) (hy : y = 0 ∨ y = 1) : Calls Tryz.prog 72 #[.int .i64 y, .int .i64 v] w (Gives w (.agg #[.int .i64 (2 + y), .int .i64 v])) := by
  unfold Gives
  rcases hy with rfl | rfl
  · go_enter Tryz.func72, Tryz.ntmps72
    go_wp2
    have b1 : Blk ((w.alloc (.cells #[.int .i64 2, .int .i64 v] 27)).alloc (.cells #[.int .i64 2, .int .i64 3] 113)) w.heap.size 27 #[.int .i64 2, .int .i64 v] := (Blk.new _ _ _ rfl).alloc _
    exact bodyPost_ret (v := .agg #[.int .i64 2, .int .i64 v]) (by simp [results, Tryz.results72, go_sem, b1.cell 0, b1.cell 1]) rfl ⟨rfl, (by repeat (first | exact Below.refl _ _ | (refine Below.setCell ?_ (by first | omega | (simp; done) | (simp; omega) | (simp at *; omega)) _) | (refine Below.alloc ?_ (by first | omega | (simp; done) | (simp; omega) | (simp at *; omega)) _) | refine Below.drew ?_ | (refine below_drewN ?_ _) | (refine Below.trans ?_ (Below.mono (by assumption) (by first | omega | (simp; done) | (simp; omega) | (simp at *; omega))))))⟩
  · go_enter Tryz.func72, Tryz.ntmps72
    go_wp2
    have b1 : Blk ((w.alloc (.cells #[.int .i64 3, .int .i64 v] 27)).alloc (.cells #[.int .i64 2, .int .i64 3] 113)) w.heap.size 27 #[.int .i64 3, .int .i64 v] := (Blk.new _ _ _ rfl).alloc _
    exact bodyPost_ret (v := .agg #[.int .i64 3, .int .i64 v]) (by simp [results, Tryz.results72, go_sem, b1.cell 0, b1.cell 1]) rfl ⟨rfl, (by repeat (first | exact Below.refl _ _ | (refine Below.setCell ?_ (by first | omega | (simp; done) | (simp; omega) | (simp at *; omega)) _) | (refine Below.alloc ?_ (by first | omega | (simp; done) | (simp; omega) | (simp at *; omega)) _) | refine Below.drew ?_ | (refine below_drewN ?_ _) | (refine Below.trans ?_ (Below.mono (by assumption) (by first | omega | (simp; done) | (simp; omega) | (simp at *; omega))))))⟩
theorem loses_is (y v k r : Int) (w : World) (hy : y = 0 ∨ y = 1) (hk : 2 + y = k) (hv : v = r) : Calls Tryz.prog 72 #[.int .i64 y, .int .i64 v] w (Gives w (.agg #[.int .i64 k, .int .i64 r])) := by
  subst hk hv
  exact loses_any y v w hy
set_option maxRecDepth 100000 in
theorem table_any (r b : Int) (w : World) : Calls Tryz.prog 40 #[.int .i64 r, .int .i64 b] w (Gives w (.agg #[.int .i64 (tableI r b).1, .int .i64 (tableI r b).2])) := by
  unfold Gives
  have b0 : Blk (w.alloc (.cells #[.int .i64 0, .int .i64 0] 27)) w.heap.size 27 #[.int .i64 0, .int .i64 0] := Blk.new _ _ _ rfl
  have hB0 : Below w.heap.size w (w.alloc (.cells #[.int .i64 0, .int .i64 0] 27)) := (Below.refl _ _).alloc (Nat.le_refl _) _
  obtain ⟨cr, hr⟩ : ∃ c, clampI r = c := ⟨_, rfl⟩
  obtain ⟨cb, hb⟩ : ∃ c, clampI b = c := ⟨_, rfl⟩
  have HR := Lib.hid hr
  have HB := Lib.hid hb
  have HT : Hid (tableI r b = if cb < cr then (2, if cr = 2 then 3 else 4) else if cr < cb then (3, if cb = 2 then 3 else 4) else (1, 5)) := by
    show _ = _
    unfold tableI
    rw [hr, hb]
  clear hr hb
  go_enter Tryz.func40, Tryz.ntmps40
  go_wp2_with fail
  refine (bounded_is r cr _ HR.out).mono ?_
  rintro e w1 ⟨rfl, hb1⟩
  go_wp2_with fail
  refine (bounded_is b cb _ HB.out).mono ?_
  rintro e w2 ⟨rfl, hb2⟩
  have hB2 := (hB0.trans (hb1.mono hB0.size)).trans (hb2.mono (hB0.trans (hb1.mono hB0.size)).size)
  have b2 := (b0.next hb1).next hb2
  clear b0 hB0 hb1 hb2
  rcases Int.lt_trichotomy cb cr with h | h | h
  · have HV : Hid (tableI r b = (2, if cr = 2 then 3 else 4)) := by
      show _ = _
      rw [HT.out, if_pos h]
    obtain ⟨v, hv⟩ : ∃ v : Int, (if cr = 2 then (3 : Int) else 4) = v := ⟨_, rfl⟩
    rw [hv] at HV
    have HW := Lib.hid hv
    clear hv HT
    go_wp2_with fail
    refine (reason_any cr _).mono ?_
    rintro e w3 ⟨rfl, hb3⟩
    rw [HW.out]
    go_wp2_with fail
    refine (loses_is 0 v 2 v _ (.inl rfl) rfl rfl).mono ?_
    rintro e w4 ⟨rfl, hb4⟩
    have hB4 := (hB2.trans (hb3.mono hB2.size)).trans (hb4.mono (hB2.trans (hb3.mono hB2.size)).size)
    have b4 := (b2.next hb3).next hb4
    clear b2 hB2 hb3 hb4
    obtain ⟨q0, q1⟩ := two_cells b4
    have f0 := b4.frozen 0
    have f1 := b4.frozen 1
    go_wp2
    have b5 := (b4.set_ 0 (.int .i64 2)).set_ 1 (.int .i64 v)
    exact bodyPost_ret (v := .agg #[.int .i64 2, .int .i64 v]) (by simp [results, Tryz.results40, go_sem, b5.cell 0, b5.cell 1]) rfl ⟨by rw [HV.out], (hB4.setCell (p := ⟨w.heap.size, 0, none⟩) (by simp) _).setCell (p := ⟨w.heap.size, 1, none⟩) (by simp) _⟩
  · have HV : Hid (tableI r b = (1, 5)) := by
      show _ = _
      rw [HT.out, if_neg (by omega), if_neg (by omega)]
    obtain rfl := h
    have n1 : ¬ cb < cb := by omega
    clear HT
    obtain ⟨q0, q1⟩ := two_cells b2
    have f0 := b2.frozen 0
    have f1 := b2.frozen 1
    go_wp2
    have b5 := (b2.set_ 0 (.int .i64 1)).set_ 1 (.int .i64 5)
    exact bodyPost_ret (v := .agg #[.int .i64 1, .int .i64 5]) (by simp [results, Tryz.results40, go_sem, b5.cell 0, b5.cell 1]) rfl ⟨by rw [HV.out], (hB2.setCell (p := ⟨w.heap.size, 0, none⟩) (by simp) _).setCell (p := ⟨w.heap.size, 1, none⟩) (by simp) _⟩
  · have n1 : ¬ cb < cr := by omega
    have HV : Hid (tableI r b = (3, if cb = 2 then 3 else 4)) := by
      show _ = _
      rw [HT.out, if_neg n1, if_pos h]
    obtain ⟨v, hv⟩ : ∃ v : Int, (if cb = 2 then (3 : Int) else 4) = v := ⟨_, rfl⟩
    rw [hv] at HV
    have HW := Lib.hid hv
    clear hv HT
    go_wp2_with fail
    refine (reason_any cb _).mono ?_
    rintro e w3 ⟨rfl, hb3⟩
    rw [HW.out]
    go_wp2_with fail
    refine (loses_is 1 v 3 v _ (.inr rfl) rfl rfl).mono ?_
    rintro e w4 ⟨rfl, hb4⟩
    have hB4 := (hB2.trans (hb3.mono hB2.size)).trans (hb4.mono (hB2.trans (hb3.mono hB2.size)).size)
    have b4 := (b2.next hb3).next hb4
    clear b2 hB2 hb3 hb4
    obtain ⟨q0, q1⟩ := two_cells b4
    have f0 := b4.frozen 0
    have f1 := b4.frozen 1
    go_wp2
    have b5 := (b4.set_ 0 (.int .i64 3)).set_ 1 (.int .i64 v)
    exact bodyPost_ret (v := .agg #[.int .i64 3, .int .i64 v]) (by simp [results, Tryz.results40, go_sem, b5.cell 0, b5.cell 1]) rfl ⟨by rw [HV.out], (hB4.setCell (p := ⟨w.heap.size, 0, none⟩) (by simp) _).setCell (p := ⟨w.heap.size, 1, none⟩) (by simp) _⟩
end Go.Proofs.YtbdgbihdhbjljaaGreatDoor

namespace Go.Proofs.YtbdgbihdhbjljaaGreatDoor
open Go.RowKit Go.Shelf
open M (S)

set_option maxRecDepth 100000 in
set_option maxHeartbeats 2000000 in
theorem last_no (A C : Option Addr) (n c a d : Nat) (w : World) (h : n ≠ a + 1) (ha : a ≤ 1000000) : Calls Tryz.prog 41 #[.slice A n c, .slice C a d] w (Gives w (.agg #[.int .i64 0, .int .i64 0])) := by
  unfold Gives
  have e : ((n : Int) != (a : Int) + 1) = true := by rw [bne_iff_ne]; omega
  have wa : IntKind.i64.wrap ((a : Int) + 1) = (a : Int) + 1 := by rw [IntKind.wrap_i64]; omega
  clear h
  go_enter Tryz.func41, Tryz.ntmps41
  go_wp2
  have b1 : Blk (w.alloc (.cells #[.int .i64 0, .int .i64 0] 27)) w.heap.size 27 #[.int .i64 0, .int .i64 0] := Blk.new _ _ _ rfl
  exact bodyPost_ret (v := .agg #[.int .i64 0, .int .i64 0]) (by simp [results, Tryz.results41, go_sem, b1.cell 0, b1.cell 1]) rfl ⟨rfl, (by repeat (first | exact Below.refl _ _ | (refine Below.setCell ?_ (by first | omega | (simp; done) | (simp; omega) | (simp at *; omega)) _) | (refine Below.alloc ?_ (by first | omega | (simp; done) | (simp; omega) | (simp at *; omega)) _) | refine Below.drew ?_ | (refine below_drewN ?_ _) | (refine Below.trans ?_ (Below.mono (by assumption) (by first | omega | (simp; done) | (simp; omega) | (simp at *; omega))))))⟩
theorem verdict_end {W : World} {w : World} {x y : Int} (h : Blk W w.heap.size 27 #[.int .i64 x, .int .i64 y]) (hB : Below w.heap.size w W) (k r : Int) : Blk ((W.setCell ⟨w.heap.size, 0, none⟩ (.int .i64 k)).setCell ⟨w.heap.size, 1, none⟩ (.int .i64 r)) w.heap.size 27 #[.int .i64 k, .int .i64 r] ∧ Below w.heap.size w ((W.setCell ⟨w.heap.size, 0, none⟩ (.int .i64 k)).setCell ⟨w.heap.size, 1, none⟩ (.int .i64 r)) :=
  ⟨(h.set_ 0 (.int .i64 k)).set_ 1 (.int .i64 r), (hB.setCell (p := ⟨w.heap.size, 0, none⟩) (Nat.le_refl _) _).setCell (p := ⟨w.heap.size, 1, none⟩) (Nat.le_refl _) _⟩
theorem psL_drop (l : List Ps) (k : Nat) : psL (l.drop k) = (psL l).drop (k * 4) := by
  by_cases hk : k ≤ l.length
  · have e : psL l = psL (l.take k) ++ psL (l.drop k) := by rw [← psL_app, List.take_append_drop]
    rw [e, List.drop_left' (by rw [psL_len, List.length_take]; omega)]
  · rw [List.drop_of_length_le (by omega), List.drop_of_length_le (by rw [psL_len]; omega)]
    rfl
theorem mzL_drop (l : List (Int × Int)) (k : Nat) : mzL (l.drop k) = (mzL l).drop (k * 2) := by
  by_cases hk : k ≤ l.length
  · have e : mzL l = mzL (l.take k) ++ mzL (l.drop k) := by rw [← mzL_app, List.take_append_drop]
    rw [e, List.drop_left' (by rw [mzL_len, List.length_take]; omega)]
  · rw [List.drop_of_length_le (by omega), List.drop_of_length_le (by rw [mzL_len]; omega)]
    rfl
theorem rd_drop {w : World} {g b i : Nat} {xs : List Value} (h : Rd w (some ⟨g, b, none⟩) xs) : Rd w (some ⟨g, b + i, none⟩) (xs.drop i) := fun j u hu => by
  rw [List.getElem?_drop] at hu
  obtain ⟨ad, e, hc⟩ := h _ _ hu
  cases e
  refine ⟨_, rfl, ?_⟩
  have hadd : ∀ c j, (Addr.add ⟨g, c, none⟩ j) = ⟨g, c + j, none⟩ := fun c j => by
    simp only [Addr.add]
    split <;> simp_all
  rw [hadd] at hc ⊢
  rw [Nat.add_assoc]
  exact hc
set_option maxRecDepth 100000 in
set_option maxHeartbeats 2000000 in
theorem last_go (g b : Nat) (C : Option Addr) (l : List Ps) (m : List (Int × Int)) (n c a d : Nat) (w : World) (hT : Tab w) (hp : Rd w (some ⟨g, b, none⟩) (psL l)) (hl : l.length = n) (hm : Rd w C (mzL m)) (ha : m.length = a) (hn : n = a + 1) (ha9 : a ≤ 100000) (hnc : n ≤ c) (had : a ≤ d) :
    Calls Tryz.prog 41 #[.slice (some ⟨g, b, none⟩) n c, .slice C a d] w (Gives w (.agg #[.int .i64 (lastI l m).1, .int .i64 (lastI l m).2])) := by
  unfold Gives
  subst hn
  have e : (((a + 1 : Nat) : Int) != (a : Int) + 1) = false := by rw [bne_eq_false_iff_eq]; omega
  have wa : IntKind.i64.wrap ((a : Int) + 1) = (a : Int) + 1 := by rw [IntKind.wrap_i64]; omega
  have bn : (a : Int) < ((a + 1 : Nat) : Int) := by omega
  have hal : a < l.length := by omega
  obtain ⟨_, _, eA, d0, d1, d2, d3⟩ := hp.ps hal
  cases eA
  obtain ⟨p, hpp⟩ : ∃ p, l[a]'hal = p := ⟨_, rfl⟩
  rw [hpp] at d0 d1 d2 d3
  have HV : Hid (lastI l m = lastOf l m p) := last_of (by omega) (by rw [ha, ← hpp]; exact List.getElem?_eq_getElem _)
  obtain ⟨s, y, z, u⟩ := p
  obtain ⟨en, hen⟩ : ∃ k, endV s y z u = k := ⟨_, rfl⟩
  have HEN := Lib.hid hen
  have HP := Lib.hid hp
  have HM := Lib.hid hm
  have HL := Lib.hid hl
  have HA := Lib.hid ha
  have hbn := below_new w (.cells #[.int .i64 0, .int .i64 0] 27)
  have c0 := (hbn.cell (p := ⟨g, b + a * 4, none⟩) (cell_lt d0)).trans d0
  have c1 := (hbn.cell (p := ⟨g, b + a * 4 + 1, none⟩) (cell_lt d1)).trans d1
  have c2 := (hbn.cell (p := ⟨g, b + a * 4 + 2, none⟩) (cell_lt d2)).trans d2
  have c3 := (hbn.cell (p := ⟨g, b + a * 4 + 3, none⟩) (cell_lt d3)).trans d3
  obtain ⟨W0, hW0⟩ : ∃ W0, (w.alloc (.cells #[.int .i64 0, .int .i64 0] 27)).alloc (.cells #[.string s, .int .i64 y, .int .i64 z, .int .i64 u] 23) = W0 := ⟨_, rfl⟩
  have hB0 : Below w.heap.size w W0 := by rw [← hW0]; exact (by repeat (first | exact Below.refl _ _ | (refine Below.setCell ?_ (by first | omega | (simp; done) | (simp; omega) | (simp at *; omega)) _) | (refine Below.alloc ?_ (by first | omega | (simp; done) | (simp; omega) | (simp at *; omega)) _) | refine Below.drew ?_ | (refine below_drewN ?_ _) | (refine Below.trans ?_ (Below.mono (by assumption) (by first | omega | (simp; done) | (simp; omega) | (simp at *; omega))))))
  have bV : Blk W0 w.heap.size 27 #[.int .i64 0, .int .i64 0] := by rw [← hW0]; exact (Blk.new _ _ _ rfl).alloc _
  have bP : Blk W0 (w.heap.size + 1) 23 #[.string s, .int .i64 y, .int .i64 z, .int .i64 u] := by rw [← hW0]; exact Blk.new _ _ _ (by simp)
  obtain ⟨p0, p1, p2, p3⟩ := four_cells bP
  have HW := Lib.hid hW0
  clear hp hm hl ha hpp hen d0 d1 d2 d3 hbn hW0
  go_enter Tryz.func41, Tryz.ntmps41
  go_wp2_with fail
  rw [HW.out]
  clear c0 c1 c2 c3
  refine (end_is s y z u en _ (hT.below hB0 hT.lt) HEN.out).mono ?_
  rintro e w1 ⟨rfl, hb1⟩
  have hB1 := hB0.trans (hb1.mono hB0.size)
  have hT1 := hT.below hB1 hT.lt
  have bV1 := bV.next hb1
  have bP1 := bP.next hb1
  clear p0 p1 p2 p3 bV bP hB0 hb1
  obtain ⟨p0, p1, p2, p3⟩ := four_cells bP1
  by_cases h0 : en = 0
  · subst h0
    have HR0 : Hid (lastI l m = if 0 ≤ earlierI l then tableI (classI (l.drop (earlierI l).toNat) (m.drop (earlierI l).toNat) 0) (classI (l.drop (earlierI l).toNat) (m.drop (earlierI l).toNat) 1) else if z = 120 then (1, 6) else (0, 0)) := by
      show _ = _
      rw [HV.out]
      unfold lastOf
      show (if endV s y z u ≠ 0 then _ else _) = _
      rw [HEN.out, if_neg (by simp)]
    have hEc : (∃ i : Nat, i < a ∧ earlierI l = (i : Int)) ∨ earlierI l = -1 := by
      rcases first_cases (fun i => sameAt l i (l.length - 1)) (l.length - 1) with ⟨i, hi, _, _, e⟩ | ⟨_, e⟩
      · exact .inl ⟨i, by have := HL.out; omega, e⟩
      · exact .inr e
    clear HV HEN
    rcases hEc with ⟨i, hi, he⟩ | he
    · have HE := Lib.hid he
      obtain ⟨gC, bC, rfl, -, -⟩ := HM.out.mz (k := 0) (by have := HA.out; omega)
      obtain ⟨v0, hv0⟩ : ∃ v, classI (l.drop i) (m.drop i) 0 = v := ⟨_, rfl⟩
      obtain ⟨v1, hv1⟩ : ∃ v, classI (l.drop i) (m.drop i) 1 = v := ⟨_, rfl⟩
      have HC0 := Lib.hid hv0
      have HC1 := Lib.hid hv1
      have HR : Hid (lastI l m = tableI v0 v1) := by
        show _ = _
        rw [HR0.out, he, if_pos (by omega), Int.toNat_natCast, hv0, hv1]
      have hld : (l.drop i).length = a + 1 - i := by rw [List.length_drop, HL.out]
      have hmd : (m.drop i).length = a - i := by rw [List.length_drop, HA.out]
      have HLD := Lib.hid hld
      have HMD := Lib.hid hmd
      have HPD : Hid (Rd w (some ⟨g, b + i * 4, none⟩) (psL (l.drop i))) := by show Rd _ _ _; rw [psL_drop]; exact rd_drop HP.out
      have HMM : Hid (Rd w (some ⟨gC, bC + i * 2, none⟩) (mzL (m.drop i))) := by show Rd _ _ _; rw [mzL_drop]; exact rd_drop HM.out
      have hi0 : (0 : Int) ≤ (i : Int) := by omega
      have hi1 : (i : Int) ≤ ((a + 1 : Nat) : Int) := by omega
      have hi2 : (i : Int) ≤ (a : Int) := by omega
      have hi3 : (i : Int) ≤ (a : Int) + 1 := by omega
      have hi5 : i ≤ a + 1 := by omega
      have hi4 : i ≤ a := by omega
      have nci : ¬ c = i := by omega
      have ndi : ¬ d = i := by omega
      have HSL : Hid (a + 1 - i ≤ 1000000 ∧ a - i ≤ 1000000 ∧ a - i ≤ d - i) := ⟨by omega, by omega, by omega⟩
      clear hv0 hv1 HR0 hld hmd
      go_wp2_with fail
      refine (cearlier_any _ l (a + 1) c _ (HP.out.next hB1) HL.out (by omega)).mono ?_
      rintro e w2 ⟨rfl, hb2⟩
      rw [HE.out]
      have hB2 := hB1.trans (hb2.mono hB1.size)
      have hT2 := hT.below hB2 hT.lt
      have bV2 := bV1.next hb2
      have bP2 := bP1.next hb2
      clear p0 p1 p2 p3 bV1 bP1 hB1 hb2
      have hb0 : Below w2.heap.size w2 w2.drew := (Below.refl _ _).drew
      have HB2 := Lib.hid hB2
      have HT2 := Lib.hid hT2
      have HBV := Lib.hid bV2
      clear hB2 hT2 bV2 bP2
      go_wp2_with fail
      have HB0 := Lib.hid hb0
      clear hb0
      go_region_with ((first
        | (go_at_call 76; first
          | (refine (class_is _ _ _ _ 1 v1 _ _ _ _ w3 (HT2.out.next HB3.out) ((HPD.out.next HB2.out).next HB3.out) HLD.out ((HMM.out.next HB2.out).next HB3.out) HMD.out HSL.out.1 HSL.out.2.1 HSL.out.2.2 HC1.out).mono ?_; rintro e w4 ⟨rfl, hb4⟩; have HB4 := Lib.hid (HB3.out.trans (hb4.mono HB3.out.size)); clear hb4)
          | (refine (class_is _ _ _ _ 0 v0 _ _ _ _ w2.drew (HT2.out.next HB0.out) ((HPD.out.next HB2.out).next HB0.out) HLD.out ((HMM.out.next HB2.out).next HB0.out) HMD.out HSL.out.1 HSL.out.2.1 HSL.out.2.2 HC0.out).mono ?_; rintro e w3 ⟨rfl, hb3⟩; have HB3 := Lib.hid (HB0.out.trans (hb3.mono HB0.out.size)); clear hb3))
        | (go_at_call 40; refine (table_any v0 v1 w4).mono ?_; rintro e w5 ⟨rfl, hb5⟩; have HB5 := Lib.hid (HB4.out.trans (hb5.mono HB4.out.size)); have HBV5 := Lib.hid (HBV.out.next HB5.out); obtain ⟨q0, q1⟩ := two_cells HBV5.out; have f0 := HBV5.out.frozen 0; have f1 := HBV5.out.frozen 1; clear hb5)))
      go_wp2
      obtain ⟨bE, hE⟩ := verdict_end HBV5.out (HB2.out.trans (HB5.out.mono HB2.out.size)) (tableI v0 v1).1 (tableI v0 v1).2
      exact bodyPost_ret (v := .agg #[.int .i64 (tableI v0 v1).1, .int .i64 (tableI v0 v1).2]) (by simp [results, Tryz.results41, go_sem, bE.cell 0, bE.cell 1]) rfl ⟨by rw [HR.out], hE⟩
    · have HE := Lib.hid he
      have HR : Hid (lastI l m = if z = 120 then (1, 6) else (0, 0)) := by
        show _ = _
        rw [HR0.out, he, if_neg (by decide)]
      clear HR0 he
      go_wp2_with fail
      refine (cearlier_any _ l (a + 1) c _ (HP.out.next hB1) HL.out (by omega)).mono ?_
      rintro e w2 ⟨rfl, hb2⟩
      rw [HE.out]
      have hB2 := hB1.trans (hb2.mono hB1.size)
      have bV2 := bV1.next hb2
      have bP2 := bP1.next hb2
      clear p0 p1 p2 p3 bV1 bP1 hB1 hb2
      obtain ⟨p0, p1, p2, p3⟩ := four_cells bP2
      obtain ⟨q0, q1⟩ := two_cells bV2
      have f0 := bV2.frozen 0
      have f1 := bV2.frozen 1
      by_cases hz : z = 120
      · have ez : (z == 120) = true := by rw [hz]; rfl
        rw [if_pos hz] at HR
        clear hz
        go_wp2
        obtain ⟨bE, hE⟩ := verdict_end bV2 hB2 1 6
        exact bodyPost_ret (v := .agg #[.int .i64 1, .int .i64 6]) (by simp [results, Tryz.results41, go_sem, bE.cell 0, bE.cell 1]) rfl ⟨by rw [HR.out], hE⟩
      · have ez : (z == 120) = false := by rw [beq_eq_false_iff_ne]; exact hz
        rw [if_neg hz] at HR
        clear hz
        go_wp2
        obtain ⟨bE, hE⟩ := verdict_end bV2 hB2 0 0
        exact bodyPost_ret (v := .agg #[.int .i64 0, .int .i64 0]) (by simp [results, Tryz.results41, go_sem, bE.cell 0, bE.cell 1]) rfl ⟨by rw [HR.out], hE⟩
  · have ne : (en != 0) = true := by rw [bne_iff_ne]; exact h0
    have hw0 : wellN s y z u = 0 := endV_well (by rw [HEN.out]; exact h0)
    have hys : y = 0 ∨ y = 1 := Ps.side (a := ⟨s, y, z, u⟩) hw0
    have HR : Hid (lastI l m = (2 + y, en)) := by
      show _ = _
      rw [HV.out]
      unfold lastOf
      show (if endV s y z u ≠ 0 then _ else _) = _
      rw [HEN.out, if_pos h0]
    clear h0 hw0
    go_wp2_with fail
    refine (loses_is y en (2 + y) en _ hys rfl rfl).mono ?_
    rintro e w2 ⟨rfl, hb2⟩
    have hB2 := hB1.trans (hb2.mono hB1.size)
    have bV2 := bV1.next hb2
    clear p0 p1 p2 p3 bV1 bP1 hB1 hb2
    obtain ⟨q0, q1⟩ := two_cells bV2
    have f0 := bV2.frozen 0
    have f1 := bV2.frozen 1
    go_wp2
    obtain ⟨bE, hE⟩ := verdict_end bV2 hB2 (2 + y) en
    exact bodyPost_ret (v := .agg #[.int .i64 (2 + y), .int .i64 en]) (by simp [results, Tryz.results41, go_sem, bE.cell 0, bE.cell 1]) rfl ⟨by rw [HR.out], hE⟩
theorem jlast_any (A C : Option Addr) (l : List Ps) (m : List (Int × Int)) (n c a d : Nat) (w : World) (hT : Tab w) (hp : Rd w A (psL l)) (hl : l.length = n) (hm : Rd w C (mzL m)) (ha : m.length = a) (ha9 : a ≤ 100000) (hnc : n ≤ c) (had : a ≤ d) :
    Calls Tryz.prog 41 #[.slice A n c, .slice C a d] w (Gives w (.agg #[.int .i64 (lastI l m).1, .int .i64 (lastI l m).2])) := by
  by_cases h : n = a + 1
  · obtain ⟨g, b, rfl, _⟩ := hp.ps (k := 0) (by omega)
    exact last_go g b C l m n c a d w hT hp hl hm ha h ha9 hnc had
  · rw [last_not (by omega)]
    exact last_no A C n c a d w h (by omega)
theorem jlast_is (A C : Option Addr) (l : List Ps) (m : List (Int × Int)) (n c a d : Nat) (k r : Int) (w : World) (hT : Tab w) (hp : Rd w A (psL l)) (hl : l.length = n) (hm : Rd w C (mzL m)) (ha : m.length = a) (ha9 : a ≤ 100000) (hnc : n ≤ c) (had : a ≤ d) (hv : lastI l m = (k, r)) :
    Calls Tryz.prog 41 #[.slice A n c, .slice C a d] w (Gives w (.agg #[.int .i64 k, .int .i64 r])) := by
  have := jlast_any A C l m n c a d w hT hp hl hm ha ha9 hnc had
  rw [hv] at this
  exact this
end Go.Proofs.YtbdgbihdhbjljaaGreatDoor

namespace Go.Proofs.YtbdgbihdhbjljaaGreatDoor
open Go.RowKit Go.Shelf
open M (S)

theorem step_legal {p q : Ps} {m : Int × Int} (h : stepP p m = some q) : ∃ x, x ∈ legalN p.s p.y := by
  obtain ⟨_, _, _, a, b, hm, ha, hb, hc, hs, hk, _⟩ := step_parts h
  subst hm
  exact ⟨(a, b), legal_mem.2 ⟨ha, hb, hs, hc, hk, step_safe h⟩⟩
theorem end_of {s : ByteArray} {y z u : Int} (hw : wellN s y z u = 0) (h : ∃ x, x ∈ legalN s y) : endV s y z u = 0 := by
  obtain ⟨x, hx⟩ := h
  have hl : ((legalV s y z u).length != 0) = true := by
    rw [legal_same, if_pos hw, bne_iff_ne, ne_eq, List.length_eq_zero_iff]
    intro e
    rw [e] at hx
    cases hx
  unfold endV
  rw [if_pos hw, has_legal _ _ _ _ hw, hl]
  rfl
theorem fro_end0 : endV froP0.s froP0.y froP0.z froP0.u = 0 := end_of fro_well0 (step_legal fro_step0)
theorem fro_end1 : endV froP1.s froP1.y froP1.z froP1.u = 0 := end_of fro_well1 (step_legal fro_step1)
theorem fro_end2 : endV froP2.s froP2.y froP2.z froP2.u = 0 := end_of fro_well2 (step_legal fro_step2)
theorem fro_end3 : endV froP3.s froP3.y froP3.z froP3.u = 0 := end_of fro_well3 (step_legal fro_step3)
theorem fro_end4 : endV froP4.s froP4.y froP4.z froP4.u = 0 := end_of fro_well4 (by
  have h := step_legal fro_step0
  rw [show froP4.s = froP0.s from fro_back]
  exact h)
theorem fro_same02 : sameB froP0 froP2 = false := by
  cases h : sameB froP0 froP2
  · rfl
  · exact absurd (congrArg (fun s => bAt s 0) (sameB_iff.1 h).1) (by decide +kernel)
theorem fro_earlier1 : earlierI (froL.take 1) = -1 := first_none fun k hk => absurd (show k < 0 from hk) (Nat.not_lt_zero k)
theorem fro_earlier2 : earlierI (froL.take 2) = -1 := first_none fun k hk => by
  have hk : k < 1 := hk
  obtain rfl : k = 0 := by omega
  exact same_not_side (a := froP0) (b := froP1) (by decide)
theorem fro_earlier3 : earlierI (froL.take 3) = -1 := first_none fun k hk => by
  have hk : k < 2 := hk
  show sameAt [froP0, froP1, froP2] k 2 = false
  rcases k with _ | _ | k
  · exact fro_same02
  · exact same_not_side (by decide)
  · omega
theorem last_goes {l : List Ps} {m : List (Int × Int)} {p : Ps} (hl : l.length = m.length + 1) (hp : l[m.length]? = some p) (he : endV p.s p.y p.z p.u = 0) (h : earlierI l = -1) (hz : p.z ≠ 120) : lastI l m = (0, 0) := by
  rw [last_of hl hp]
  unfold lastOf
  rw [he, if_neg (by simp), h, if_neg (by decide), if_neg hz]
theorem fro_last1 : lastI (froL.take 1) (froM.take 0) = (0, 0) := last_goes (p := froP0) rfl rfl fro_end0 fro_earlier1 (by decide)
theorem fro_last2 : lastI (froL.take 2) (froM.take 1) = (0, 0) := last_goes (p := froP1) rfl rfl fro_end1 fro_earlier2 (by decide)
theorem fro_last3 : lastI (froL.take 3) (froM.take 2) = (0, 0) := last_goes (p := froP2) rfl rfl fro_end2 fro_earlier3 (by decide)
theorem fro_last4 : lastI (froL.take 4) (froM.take 3) = (0, 0) := last_goes (p := froP3) rfl rfl fro_end3 fro_earlier4 (by decide)
theorem fro_last5 : lastI froL froM = (1, 5) := by
  rw [last_of (p := froP4) rfl rfl]
  unfold lastOf
  rw [fro_end4, if_neg (by simp), fro_earlier5, if_pos (by decide)]
  show tableI (classI froL froM 0) (classI froL froM 1) = _
  rw [fro_class0, fro_class1]
  rfl
theorem fro_run0 : runJ froP0 froM 0 = (0, froL.take 1) := rfl
theorem fro_run1 : runJ froP0 froM 1 = (0, froL.take 2) := by
  rw [run_go (c := froP0) (m := (0, 9)) (by rw [fro_run0]) (by rw [fro_run0, fro_last1]) rfl rfl, fro_step0]
  rfl
theorem fro_run2 : runJ froP0 froM 2 = (0, froL.take 3) := by
  rw [run_go (c := froP1) (m := (81, 72)) (by rw [fro_run1]) (by rw [fro_run1, fro_last2]) (by rw [fro_run1]; rfl) rfl, fro_step1, fro_run1]
  rfl
theorem fro_run3 : runJ froP0 froM 3 = (0, froL.take 4) := by
  rw [run_go (c := froP2) (m := (9, 0)) (by rw [fro_run2]) (by rw [fro_run2, fro_last3]) (by rw [fro_run2]; rfl) rfl, fro_step2, fro_run2]
  rfl
theorem fro_run4 : runJ froP0 froM 4 = (0, froL) := by
  rw [run_go (c := froP3) (m := (72, 81)) (by rw [fro_run3]) (by rw [fro_run3, fro_last4]) (by rw [fro_run3]; rfl) rfl, fro_step3, fro_run3]
  rfl
def froM5 : List (Int × Int) := [(0, 9), (81, 72), (9, 0), (72, 81), (0, 9)]
theorem fro_run5 : runJ froP0 froM5 5 = (10, []) := by
  have h : runJ froP0 froM5 4 = runJ froP0 froM 4 := run_same rfl
  refine run_end (by rw [h, fro_run4]) ?_
  rw [h, fro_run4]
  show (lastI froL froM).1 ≠ 0
  rw [fro_last5]
  decide
theorem fro_no : isV startS 0 0 1 81 72 = false := by decide +kernel
theorem fro_run9 : runJ froP0 [(81, 72)] 1 = (7, []) := by
  have h0 : runJ froP0 [(81, 72)] 0 = (0, froL.take 1) := rfl
  rw [run_go (c := froP0) (m := (81, 72)) (by rw [h0]) (by rw [h0]; exact congrArg Prod.fst fro_last1) rfl rfl]
  rw [show stepP froP0 (81, 72) = none by
    unfold stepP
    exact if_neg (by rw [show isV froP0.s froP0.y froP0.z froP0.u (81 : Int) 72 = false from fro_no]; simp)]
theorem fro_game4 : playE froP0 froM = 0 ∧ playV froP0 froM = (1, 5) ∧ playL froP0 froM = froL := by
  have h : playE froP0 froM = 0 := by rw [playE_run fro_well0 (by decide)]; exact congrArg Prod.fst fro_run4
  refine ⟨h, ?_, ?_⟩
  · unfold playV
    rw [if_pos h]
    exact (congrArg (fun x => lastI x.2 froM) fro_run4).trans fro_last5
  · unfold playL
    rw [if_pos h]
    exact congrArg Prod.snd fro_run4
theorem fro_run3' : runJ froP0 (froM.take 3) 3 = (0, froL.take 4) := by
  have h : runJ froP0 (froM.take 3) 3 = runJ froP0 froM 3 := run_same rfl
  rw [h, fro_run3]
theorem fro_game3 : playE froP0 (froM.take 3) = 0 ∧ playV froP0 (froM.take 3) = (0, 0) := by
  have h : playE froP0 (froM.take 3) = 0 := by rw [playE_run fro_well0 (by decide)]; exact congrArg Prod.fst fro_run3'
  refine ⟨h, ?_⟩
  unfold playV
  rw [if_pos h]
  exact (congrArg (fun x => lastI x.2 (froM.take 3)) fro_run3').trans fro_last4
theorem fro_game5 : playE froP0 froM5 = 10 := by rw [playE_run fro_well0 (by decide)]; exact congrArg Prod.fst fro_run5
theorem fro_game9 : playE froP0 [(81, 72)] = 7 := by rw [playE_run fro_well0 (by decide)]; exact congrArg Prod.fst fro_run9
theorem fro_table21 : tableI 2 1 = (2, 3) := by decide
theorem fro_table01 : tableI 0 1 = (3, 4) := by decide
end Go.Proofs.YtbdgbihdhbjljaaGreatDoor
