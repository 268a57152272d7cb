/- Merged: CycleA CycleB CycleP. -/
import Derived.Test.YtnkbilikkbaeeaaGreatDoorChaseM
import Derived.Test.YtnkbilikkbaeeaaGreatDoorLegalM

namespace Go.Proofs.YtnkbilikkbaeeaaGreatDoor
open Go.RowKit Go.Shelf
open M (S)

/-- A position; how it lies in memory. -/
structure Ps where
  s : ByteArray
  y : Int
  z : Int
  u : Int
def Ps.cs (p : Ps) : List Value := [.string p.s, .int .i64 p.y, .int .i64 p.z, .int .i64 p.u]
def psL (l : List Ps) : List Value := l.flatMap Ps.cs
theorem psL_len (l : List Ps) : (psL l).length = l.length * 4 := by
  induction l with
  | nil => rfl
  | cons x l ih =>
    show (x.cs ++ psL l).length = _
    rw [List.length_append, ih, List.length_cons]
    show 4 + l.length * 4 = _
    omega
theorem psL_app (l r : List Ps) : psL (l ++ r) = psL l ++ psL r := by unfold psL; rw [List.flatMap_append]
theorem psL_snoc (l : List Ps) (x : Ps) : psL (l ++ [x]) = psL l ++ x.cs := by rw [psL_app]; simp [psL]
theorem psL_at (l : List Ps) {k : Nat} (hk : k < l.length) {i : Nat} (hi : i < 4) : (psL l)[k * 4 + i]? = l[k].cs[i]? := by
  induction l generalizing k with
  | nil => exact absurd hk (by simp)
  | cons x r ih =>
    show (x.cs ++ psL r)[k * 4 + i]? = _
    have hx : x.cs.length = 4 := rfl
    cases k with
    | zero => rw [List.getElem?_append_left (by rw [hx]; omega), Nat.zero_mul, Nat.zero_add]; rfl
    | succ k =>
      rw [List.getElem?_append_right (by rw [hx]; omega), hx, show (k + 1) * 4 + i - 4 = k * 4 + i by omega]
      exact ih (by simpa using hk)
/-- Moves of any numbers, as they lie. -/
def mzL (l : List (Int × Int)) : List Value := l.flatMap fun m => [iv m.1, iv m.2]
theorem mzL_len (l : List (Int × Int)) : (mzL l).length = l.length * 2 := by
  induction l with
  | nil => rfl
  | cons x l ih =>
    show ([iv x.1, iv x.2] ++ mzL l).length = _
    rw [List.length_append, ih, show (x :: l).length = l.length + 1 from rfl]
    show 2 + l.length * 2 = _
    omega
theorem mzL_app (l r : List (Int × Int)) : mzL (l ++ r) = mzL l ++ mzL r := by unfold mzL; rw [List.flatMap_append]
theorem mzL_snoc (l : List (Int × Int)) (x : Int × Int) : mzL (l ++ [x]) = mzL l ++ [iv x.1, iv x.2] := by rw [mzL_app]; simp [mzL]
theorem mzL_at (l : List (Int × Int)) {k : Nat} (hk : k < l.length) : (mzL l)[k * 2]? = some (iv l[k].1) ∧ (mzL l)[k * 2 + 1]? = some (iv l[k].2) := by
  induction l generalizing k with
  | nil => exact absurd hk (by simp)
  | cons x r ih =>
    show ([iv x.1, iv x.2] ++ mzL r)[k * 2]? = _ ∧ ([iv x.1, iv x.2] ++ mzL r)[k * 2 + 1]? = _
    cases k with
    | zero => exact ⟨rfl, rfl⟩
    | succ k =>
      rw [List.getElem?_append_right (by simp; omega), List.getElem?_append_right (by simp; omega), show (k + 1) * 2 - [iv x.1, iv x.2].length = k * 2 by simp; omega, show (k + 1) * 2 + 1 - [iv x.1, iv x.2].length = k * 2 + 1 by simp; omega]
      exact ih (by simpa using hk)

/-- The first number below one that is so; -1, if none is. -/
def firstI (p : Nat → Bool) (n : Nat) : Int := match (List.range n).find? p with
  | some i => (i : Int)
  | none => -1
theorem first_hit {p : Nat → Bool} {n i : Nat} (hn : i < n) (hp : p i = true) (h : ∀ k, k < i → p k = false) : firstI p n = (i : Int) := by
  have e : (List.range n).find? p = some i := List.find?_range_eq_some.2 ⟨hp, List.mem_range.2 hn, fun j hj => by rw [h j hj]; rfl⟩
  unfold firstI
  rw [e]
theorem first_none {p : Nat → Bool} {n : Nat} (h : ∀ k, k < n → p k = false) : firstI p n = -1 := by
  have e : (List.range n).find? p = none := List.find?_range_eq_none.2 fun j hj => by rw [h j hj]; rfl
  unfold firstI
  rw [e]
theorem first_cases (p : Nat → Bool) (n : Nat) : (∃ i, i < n ∧ p i = true ∧ (∀ k, k < i → p k = false) ∧ firstI p n = (i : Int)) ∨ ((∀ k, k < n → p k = false) ∧ firstI p n = -1) := by
  cases e : (List.range n).find? p with
  | none =>
    have h := List.find?_range_eq_none.1 e
    have h2 : ∀ k, k < n → p k = false := fun k hk => by
      have := h k hk
      revert this
      cases p k <;> simp
    exact .inr ⟨h2, first_none h2⟩
  | some i =>
    obtain ⟨h1, h2, h3⟩ := List.find?_range_eq_some.1 e
    have h4 : ∀ k, k < i → p k = false := fun k hk => by
      have := h3 k hk
      revert this
      cases p k <;> simp
    exact .inl ⟨i, List.mem_range.1 h2, h1, h4, first_hit (List.mem_range.1 h2) h1 h4⟩
theorem first_same {p q : Nat → Bool} {n : Nat} (h : ∀ k, k < n → p k = q k) : firstI p n = firstI q n := by
  unfold firstI
  rw [find_same (l := List.range n) fun k hk => h k (List.mem_range.1 hk)]

/-- Whether two positions are the same again; which one is the last one's first. -/
def sameB (a b : Ps) : Bool := (a.s.toList == b.s.toList) && (a.y == b.y)
theorem text_inj {s t : ByteArray} (h : s.toList = t.toList) : s = t := by
  rw [ByteArray.toList_eq, ByteArray.toList_eq] at h
  obtain ⟨a⟩ := s
  obtain ⟨b⟩ := t
  have h : a.toList = b.toList := h
  rw [Array.toList_inj.1 h]
def sameAt (l : List Ps) (i j : Nat) : Bool := match l[i]?, l[j]? with
  | some a, some b => sameB a b
  | _, _ => false
def earlierI (l : List Ps) : Int := firstI (fun i => sameAt l i (l.length - 1)) (l.length - 1)
theorem sameAt_of {l : List Ps} {i j : Nat} (hi : i < l.length) (hj : j < l.length) : sameAt l i j = sameB l[i] l[j] := by
  unfold sameAt
  rw [List.getElem?_eq_getElem hi, List.getElem?_eq_getElem hj]

/-- Where a piece stood ahead of moves. -/
def originI (m : List (Int × Int)) (n : Int) : Int := m.foldr (fun x k => if x.2 = k then x.1 else k) n
theorem origin_nil (n : Int) : originI [] n = n := rfl
theorem origin_cons (x : Int × Int) (m : List (Int × Int)) (n : Int) : originI (x :: m) n = if x.2 = originI m n then x.1 else originI m n := rfl
theorem origin_snoc (x : Int × Int) (m : List (Int × Int)) (n : Int) : originI (m ++ [x]) n = originI m (if x.2 = n then x.1 else n) := by
  unfold originI
  rw [List.foldr_append]
  rfl
theorem origin_drop {m : List (Int × Int)} {i : Nat} (hi : i < m.length) (n : Int) : originI (m.drop i) n = if m[i].2 = originI (m.drop (i + 1)) n then m[i].1 else originI (m.drop (i + 1)) n := by
  rw [List.drop_eq_getElem_cons hi, origin_cons]
/-- Moves from squares to squares. -/
def SqM (m : List (Int × Int)) : Prop := ∀ x ∈ m, 0 ≤ x.1 ∧ x.1 < 90 ∧ 0 ≤ x.2 ∧ x.2 < 90
theorem origin_in {m : List (Int × Int)} (h : SqM m) {n : Int} (hn : 0 ≤ n ∧ n < 90) : 0 ≤ originI m n ∧ originI m n < 90 := by
  induction m with
  | nil => exact hn
  | cons x r ih =>
    have ih := ih fun y hy => h y (List.mem_cons_of_mem _ hy)
    obtain ⟨h1, h2, _⟩ := h x (by simp)
    rw [origin_cons]
    split
    · exact ⟨h1, h2⟩
    · exact ih
def turnI (m : Int × Int) : Int × Int := (89 - m.1, 89 - m.2)
theorem origin_turn (m : List (Int × Int)) (n : Int) : originI (m.map turnI) (89 - n) = 89 - originI m n := by
  induction m with
  | nil => rfl
  | cons x r ih =>
    rw [List.map_cons, origin_cons, origin_cons, ih]
    show (if 89 - x.2 = 89 - originI r n then 89 - x.1 else 89 - originI r n) = _
    by_cases h : x.2 = originI r n
    · rw [if_pos h, if_pos (by omega)]
    · rw [if_neg h, if_neg (by omega)]

/-- Whether a position is one ahead of a side's move; what that move did. -/
def ofAt (l : List Ps) (side : Int) (j : Nat) : Bool := match l[j]? with
  | some p => p.y == side
  | none => false
def ckAt (l : List Ps) (j : Nat) : Bool := match l[j + 1]? with
  | some p => plyC p.s p.y p.z p.u
  | none => false
def oriAt (l : List Ps) (m : List (Int × Int)) (j : Nat) : List Int := match l[j + 1]? with
  | some p => (plyL p.s p.y p.z p.u).map (originI (m.take (j + 1)))
  | none => []
def hasAt (l : List Ps) (m : List (Int × Int)) (j : Nat) (n : Nat) : Bool := ckAt l j || (oriAt l m j).contains (n : Int)
def pliesN (l : List Ps) (side : Int) (k : Nat) : List Nat := (List.range k).filter (ofAt l side)
def keptN (l : List Ps) (m : List (Int × Int)) (side : Int) (k : Nat) : List Nat := (List.range 90).filter fun n => (pliesN l side k).all fun j => hasAt l m j n
/-- What a side did. -/
def classI (l : List Ps) (m : List (Int × Int)) (side : Int) : Int :=
  if l.length ≠ m.length + 1 ∨ pliesN l side m.length = [] then 0
  else if (pliesN l side m.length).all (ckAt l) then 2
  else if keptN l m side m.length ≠ [] then 1 else 0
theorem plies_succ (l : List Ps) (side : Int) (k : Nat) : pliesN l side (k + 1) = if ofAt l side k then pliesN l side k ++ [k] else pliesN l side k := by
  unfold pliesN
  rw [List.range_succ, List.filter_append, List.filter_cons]
  cases ofAt l side k <;> simp
theorem kept_zero (l : List Ps) (m : List (Int × Int)) (side : Int) : keptN l m side 0 = List.range 90 := by
  unfold keptN pliesN
  rw [List.range_zero, List.filter_nil]
  simp
theorem kept_succ (l : List Ps) (m : List (Int × Int)) (side : Int) (k : Nat) : keptN l m side (k + 1) = if ofAt l side k then (keptN l m side k).filter (hasAt l m k) else keptN l m side k := by
  unfold keptN
  rw [plies_succ]
  cases ofAt l side k
  · simp
  · rw [if_pos rfl, if_pos rfl, List.filter_filter]
    refine List.filter_congr fun n _ => ?_
    rw [List.all_append, Bool.and_comm]
    simp
theorem kept_ck {l : List Ps} {m : List (Int × Int)} {side : Int} {k : Nat} (h : ckAt l k = true) : keptN l m side (k + 1) = keptN l m side k := by
  rw [kept_succ]
  split
  · rw [List.filter_eq_self]
    intro n _
    unfold hasAt
    rw [h, Bool.true_or]
  · rfl
theorem kept_mono {l : List Ps} {m : List (Int × Int)} {side : Int} {k : Nat} (h : keptN l m side k = []) : ∀ d, keptN l m side (k + d) = []
  | 0 => h
  | d + 1 => by
    rw [show k + (d + 1) = (k + d) + 1 from rfl, kept_succ, kept_mono h d]
    split <;> rfl
theorem plies_pre (l : List Ps) (side : Int) (k d : Nat) : ∃ r, pliesN l side (k + d) = pliesN l side k ++ r := by
  induction d with
  | zero => exact ⟨[], by simp⟩
  | succ d ih =>
    obtain ⟨r, hr⟩ := ih
    rw [show k + (d + 1) = (k + d) + 1 from rfl, plies_succ, hr]
    split
    · exact ⟨r ++ [k + d], by rw [List.append_assoc]⟩
    · exact ⟨r, rfl⟩
/-- A ply that gave no check, behind which nothing is left: idle. -/
theorem class_out {l : List Ps} {m : List (Int × Int)} {side : Int} {j : Nat} (hj : j < m.length) (hof : ofAt l side j = true) (hck : ckAt l j = false) (hk : keptN l m side (j + 1) = []) : classI l m side = 0 := by
  unfold classI
  obtain ⟨r, hr⟩ := plies_pre l side (j + 1) (m.length - (j + 1))
  rw [show j + 1 + (m.length - (j + 1)) = m.length by omega] at hr
  have hk2 := kept_mono hk (m.length - (j + 1))
  rw [show j + 1 + (m.length - (j + 1)) = m.length by omega] at hk2
  have hall : (pliesN l side m.length).all (ckAt l) = false := by
    rw [hr, plies_succ, hof, if_pos rfl, List.all_append, List.all_append]
    simp [hck]
  rw [hall, hk2]
  split
  · rfl
  · simp
/-- What is told at the end. -/
theorem class_end {l : List Ps} {m : List (Int × Int)} {side : Int} (hl : l.length = m.length + 1) {checked chased : Bool} (h1 : checked = (pliesN l side m.length).any (ckAt l)) (h2 : chased = (pliesN l side m.length).any fun j => !ckAt l j) (h3 : chased = true → keptN l m side m.length ≠ []) : classI l m side = if chased then 1 else if checked then 2 else 0 := by
  unfold classI
  cases hp : pliesN l side m.length with
  | nil =>
    rw [hp] at h1 h2
    rw [h1, h2]
    simp
  | cons a r =>
    rw [if_neg (by rw [hl]; simp)]
    cases hc : chased with
    | true =>
      rw [hc, hp] at h2
      have : (a :: r).all (ckAt l) = false := by
        rw [List.all_eq_not_any_not, ← h2]
        rfl
      rw [this, if_pos (h3 hc)]
      rfl
    | false =>
      rw [hc, hp] at h2
      have : (a :: r).all (ckAt l) = true := by
        rw [List.all_eq_not_any_not, ← h2]
        rfl
      rw [this]
      have hc1 : checked = true := by
        rw [h1, hp, List.any_cons]
        rw [List.all_cons, Bool.and_eq_true] at this
        rw [this.1]
        rfl
      rw [hc1]
      rfl
theorem class_len {l : List Ps} {m : List (Int × Int)} {side : Int} (h : l.length ≠ m.length + 1) : classI l m side = 0 := by
  unfold classI
  rw [if_pos (.inl h)]
theorem class_range (l : List Ps) (m : List (Int × Int)) (side : Int) : classI l m side = 0 ∨ classI l m side = 1 ∨ classI l m side = 2 := by
  unfold classI
  split
  · exact .inl rfl
  · split
    · exact .inr (.inr rfl)
    · split
      · exact .inr (.inl rfl)
      · exact .inl rfl
/-- Nobody's moves: idle. -/
theorem class_nobody {l : List Ps} {m : List (Int × Int)} {side : Int} (h : ∀ j, j < m.length → ofAt l side j = false) : classI l m side = 0 := by
  unfold classI
  rw [if_pos]
  refine .inr ?_
  unfold pliesN
  rw [List.filter_eq_nil_iff]
  intro j hj
  rw [h j (List.mem_range.1 hj)]
  simp
/-- What is alike move by move is of one class. -/
theorem class_same {l k : List Ps} {m n : List (Int × Int)} {a b : Int} (hl : l.length = k.length) (hm : m.length = n.length) (ho : ∀ j, j < m.length → ofAt l a j = ofAt k b j) (hc : ∀ j, j < m.length → ckAt l j = ckAt k j) (f : Nat → Nat) (hf : ∀ i, i < 90 → f i < 90 ∧ f (f i) = i) (hh : ∀ (j i : Nat), j < m.length → i < 90 → (oriAt l m j).contains (i : Int) = (oriAt k n j).contains ((f i : Nat) : Int)) : classI l m a = classI k n b := by
  have e1 : pliesN l a m.length = pliesN k b n.length := by
    unfold pliesN
    rw [← hm]
    exact List.filter_congr fun j hj => ho j (List.mem_range.1 hj)
  have hin : ∀ j ∈ pliesN l a m.length, j < m.length := fun j hj => List.mem_range.1 (List.mem_filter.1 hj).1
  have e2 : (pliesN l a m.length).all (ckAt l) = (pliesN l a m.length).all (ckAt k) := by
    rw [Bool.eq_iff_iff, List.all_eq_true, List.all_eq_true]
    exact ⟨fun h j hj => by rw [← hc j (hin j hj)]; exact h j hj, fun h j hj => by rw [hc j (hin j hj)]; exact h j hj⟩
  have e4 : ∀ i, i < 90 → ((pliesN l a m.length).all fun j => hasAt l m j i) = (pliesN l a m.length).all fun j => hasAt k n j (f i) := fun i hi => by
    rw [Bool.eq_iff_iff, List.all_eq_true, List.all_eq_true]
    have e : ∀ j ∈ pliesN l a m.length, hasAt l m j i = hasAt k n j (f i) := fun j hj => by
      unfold hasAt
      rw [hc j (hin j hj), hh j i (hin j hj) hi]
    exact ⟨fun h j hj => by rw [← e j hj]; exact h j hj, fun h j hj => by rw [e j hj]; exact h j hj⟩
  have e3 : keptN l m a m.length = [] ↔ keptN k n b n.length = [] := by
    unfold keptN
    rw [← e1, List.filter_eq_nil_iff, List.filter_eq_nil_iff]
    constructor
    · intro h i hi
      have hi := List.mem_range.1 hi
      obtain ⟨h1, h2⟩ := hf i hi
      have := h (f i) (List.mem_range.2 h1)
      rw [e4 (f i) h1, h2] at this
      exact this
    · intro h i hi
      have hi := List.mem_range.1 hi
      rw [e4 i hi]
      exact h (f i) (List.mem_range.2 (hf i hi).1)
  have e5 : pliesN k b m.length = pliesN l a m.length := by rw [e1, hm]
  unfold classI
  rw [hl, ← hm, e2, e5]
  by_cases h : keptN l m a m.length = []
  · have h2 := e3.1 h
    rw [← hm] at h2
    rw [h, h2]
  · have h2 : keptN k n b n.length ≠ [] := fun e => h (e3.2 e)
    rw [← hm] at h2
    rw [if_pos (c := keptN l m a m.length ≠ []) h, if_pos (c := keptN k n b m.length ≠ []) h2]
end Go.Proofs.YtnkbilikkbaeeaaGreatDoor

namespace Go.Proofs.YtnkbilikkbaeeaaGreatDoor
open Go.RowKit Go.Shelf
open M (S)

abbrev Ps.well (p : Ps) : Int := wellN p.s p.y p.z p.u
/-- A position behind a move, if it may be made. -/
def stepP (p : Ps) (m : Int × Int) : Option Ps := if isV p.s p.y p.z p.u m.1 m.2 then some ⟨movedS p.s m.1.toNat m.2.toNat (bAt p.s m.1.toNat), 1 - p.y, clockA p.s p.z m.2.toNat, fullA p.y p.u⟩ else none
theorem isV_parts {s : ByteArray} {y z u a b : Int} (h : isV s y z u a b = true) : wellN s y z u = 0 ∧ (isM s y a b = true ∧ kindN (bAt s b.toNat) ≠ 75) ∧ wellN (movedS s a.toNat b.toNat (bAt s a.toNat)) (1 - y) (clockA s z b.toNat) (fullA y u) = 0 := by
  unfold isV at h
  rw [Bool.and_eq_true, beq_iff_eq] at h
  obtain ⟨h1, h2⟩ := h
  by_cases h3 : isM s y a b = true ∧ kindN (bAt s b.toNat) ≠ 75
  · refine ⟨h1, h3, ?_⟩
    rw [leaves_good h3, beq_iff_eq] at h2
    exact h2
  · rw [leaves_bad h3] at h2
    cases h2
theorem make_step {p q : Ps} {m : Int × Int} (h : stepP p m = some q) : ∃ t : Nat, makeV p.s p.y p.z p.u m.1 m.2 = .tuple #[.agg #[.string q.s, .int .i64 q.y, .int .i64 q.z, .int .i64 q.u], .int .u8 t, .int .i64 0] := by
  unfold stepP at h
  split at h
  · rename_i hv
    injection h with h
    subst h
    obtain ⟨h1, h2, _⟩ := isV_parts hv
    have h3 : leavesI p.s p.y p.z p.u m.1 m.2 = true := by
      unfold isV at hv
      rw [Bool.and_eq_true] at hv
      exact hv.2
    unfold makeV
    rw [if_pos h1, if_pos h3, apply_good_value (well_check h1) h2]
    exact ⟨_, rfl⟩
  · cases h
theorem make_stop {p : Ps} {m : Int × Int} (h : stepP p m = none) : ∃ k, k ≠ 0 ∧ makeV p.s p.y p.z p.u m.1 m.2 = noneV k := by
  unfold stepP at h
  split at h
  · cases h
  · rename_i hv
    unfold makeV
    by_cases h1 : wellN p.s p.y p.z p.u = 0
    · rw [if_pos h1]
      have h3 : leavesI p.s p.y p.z p.u m.1 m.2 = false := by
        unfold isV at hv
        rw [h1] at hv
        cases e : leavesI p.s p.y p.z p.u m.1 m.2
        · rfl
        · rw [e] at hv
          exact absurd rfl hv
      rw [h3, if_neg (by simp)]
      exact ⟨7, by decide, rfl⟩
    · rw [if_neg h1]
      exact ⟨_, h1, rfl⟩
theorem make_stop7 {p : Ps} {m : Int × Int} (hw : p.well = 0) (h : stepP p m = none) : makeV p.s p.y p.z p.u m.1 m.2 = noneV 7 := by
  unfold stepP at h
  split at h
  · cases h
  · rename_i hv
    unfold makeV
    have h1 : wellN p.s p.y p.z p.u = 0 := hw
    rw [if_pos h1]
    have h3 : leavesI p.s p.y p.z p.u m.1 m.2 = false := by
      unfold isV at hv
      rw [h1] at hv
      cases e : leavesI p.s p.y p.z p.u m.1 m.2
      · rfl
      · rw [e] at hv
        exact absurd rfl hv
    rw [h3, if_neg (by simp)]
theorem step_parts {p q : Ps} {m : Int × Int} (h : stepP p m = some q) : p.well = 0 ∧ q.well = 0 ∧ (isB p.s = true ∧ (p.y = 0 ∨ p.y = 1)) ∧ ∃ a b : Nat, m = ((a : Int), (b : Int)) ∧ a < 90 ∧ b < 90 ∧ canB p.s a b = true ∧ sideN (bAt p.s a) = p.y ∧ kindN (bAt p.s b) ≠ 75 ∧ q = ⟨behindS p.s (a, b), 1 - p.y, clockA p.s p.z b, fullA p.y p.u⟩ := by
  unfold stepP at h
  split at h
  · rename_i hv
    injection h with h
    subst h
    obtain ⟨h1, ⟨h2, h3⟩, h4⟩ := isV_parts hv
    obtain ⟨hs, ha, hb, hc⟩ := isM_parts h2
    have hsd : sideN (bAt p.s m.1.toNat) = p.y := by
      unfold isM at h2
      rw [Bool.and_eq_true, beq_iff_eq] at h2
      exact h2.2
    have hy := (check_other (well_zero h1).1).1
    obtain ⟨a, b⟩ := m
    refine ⟨h1, h4, ⟨hs, hy⟩, a.toNat, b.toNat, ?_, by omega, by omega, hc, hsd, h3, rfl⟩
    rw [Int.toNat_of_nonneg ha.1, Int.toNat_of_nonneg hb.1]
  · cases h
theorem step_of {p : Ps} (hw : p.well = 0) {a b : Nat} (ha : a < 90) (hb : b < 90) (hc : canB p.s a b = true) (hsd : sideN (bAt p.s a) = p.y) (hk : kindN (bAt p.s b) ≠ 75) (hs : safeB (behindS p.s (a, b)) p.y = true) : stepP p ((a : Int), (b : Int)) = some ⟨behindS p.s (a, b), 1 - p.y, clockA p.s p.z b, fullA p.y p.u⟩ := by
  have hw' : wellN p.s p.y p.z p.u = 0 := hw
  have hB := parts_board (check_zero (well_zero hw').1).1
  have h1 : isM p.s p.y (a : Int) (b : Int) = true ∧ kindN (bAt p.s (b : Int).toNat) ≠ 75 := by
    refine ⟨?_, by rw [Int.toNat_natCast]; exact hk⟩
    rw [isM_two hB ha hb, hc, hsd]
    simp
  have h2 := (well_behind (well_zero hw').1 ha hb hc hk).2 hs
  have h3 : isV p.s p.y p.z p.u (a : Int) (b : Int) = true := by
    unfold isV
    rw [hw', leaves_good h1, Int.toNat_natCast, Int.toNat_natCast, show movedS p.s a b (bAt p.s a) = behindS p.s (a, b) from rfl, h2]
    rfl
  unfold stepP
  rw [if_pos h3]
  rfl
theorem step_safe {p q : Ps} {a b : Nat} (h : stepP p ((a : Int), (b : Int)) = some q) : safeB (behindS p.s (a, b)) p.y = true := by
  obtain ⟨h1, h2, _, a', b', e, ha, hb, hc, _, hk, rfl⟩ := step_parts h
  simp only [Prod.mk.injEq, Int.natCast_inj] at e
  obtain ⟨rfl, rfl⟩ := e
  exact (well_behind (well_zero h1).1 ha hb hc hk).1 h2

/-- A game: positions, and the moves between them. -/
structure Chain (p : Ps) (ls : List Ps) (ms : List (Int × Int)) : Prop where
  len : ls.length = ms.length + 1
  first : ls[0]? = some p
  step : ∀ j, j < ms.length → ∃ a b m, ls[j]? = some a ∧ ms[j]? = some m ∧ ls[j + 1]? = some b ∧ stepP a m = some b
theorem chain_start (p : Ps) : Chain p [p] [] := ⟨rfl, rfl, fun j hj => absurd hj (by simp)⟩
theorem Chain.snoc {p c q : Ps} {ls : List Ps} {ms : List (Int × Int)} {m : Int × Int} (h : Chain p ls ms) (hc : ls[ms.length]? = some c) (hs : stepP c m = some q) : Chain p (ls ++ [q]) (ms ++ [m]) where
  len := by rw [List.length_append, List.length_append, h.len]; rfl
  first := by rw [List.getElem?_append_left (by rw [h.len]; omega)]; exact h.first
  step := fun j hj => by
    rw [List.length_append] at hj
    have hj : j < ms.length + 1 := hj
    by_cases e : j < ms.length
    · obtain ⟨a, b, x, h1, h2, h3, h4⟩ := h.step j e
      exact ⟨a, b, x, by rw [List.getElem?_append_left (by rw [h.len]; omega)]; exact h1, by rw [List.getElem?_append_left e]; exact h2, by rw [List.getElem?_append_left (by rw [h.len]; omega)]; exact h3, h4⟩
    · obtain rfl : j = ms.length := by omega
      refine ⟨c, q, m, ?_, ?_, ?_, hs⟩
      · rw [List.getElem?_append_left (by rw [h.len]; omega)]
        exact hc
      · rw [List.getElem?_append_right (Nat.le_refl _), Nat.sub_self]
        rfl
      · rw [List.getElem?_append_right (by rw [h.len]; omega), h.len, Nat.sub_self]
        rfl
theorem Chain.get {p : Ps} {ls : List Ps} {ms : List (Int × Int)} (h : Chain p ls ms) {j : Nat} (hj : j ≤ ms.length) : ∃ a, ls[j]? = some a := ⟨_, List.getElem?_eq_getElem (by rw [h.len]; omega)⟩
theorem Chain.well {p : Ps} {ls : List Ps} {ms : List (Int × Int)} (h : Chain p ls ms) (h0 : p.well = 0 ∨ 0 < ms.length) {j : Nat} {a : Ps} (ha : ls[j]? = some a) : a.well = 0 := by
  have hj : j < ls.length := by
    rcases Nat.lt_or_ge j ls.length with h | h
    · exact h
    · rw [List.getElem?_eq_none h] at ha
      cases ha
  rw [h.len] at hj
  by_cases e : j < ms.length
  · obtain ⟨x, b, m, h1, _, _, h4⟩ := h.step j e
    rw [ha] at h1
    injection h1 with h1
    subst h1
    exact (step_parts h4).1
  · obtain rfl : j = ms.length := by omega
    rcases Nat.eq_zero_or_pos ms.length with e0 | e0
    · rw [e0, h.first] at ha
      injection ha with ha
      subst ha
      rcases h0 with h0 | h0
      · exact h0
      · omega
    · obtain ⟨x, b, m, h1, _, h3, h4⟩ := h.step (ms.length - 1) (by omega)
      rw [show ms.length - 1 + 1 = ms.length by omega, ha] at h3
      injection h3 with h3
      subst h3
      exact (step_parts h4).2.1
theorem Chain.sq {p : Ps} {ls : List Ps} {ms : List (Int × Int)} (h : Chain p ls ms) : SqM ms := fun x hx => by
  obtain ⟨j, hj, rfl⟩ := List.mem_iff_getElem.1 hx
  obtain ⟨a, b, m, h1, h2, h3, h4⟩ := h.step j hj
  rw [List.getElem?_eq_getElem hj] at h2
  injection h2 with h2
  rw [h2]
  obtain ⟨_, _, _, c, d, rfl, hc, hd, _⟩ := step_parts h4
  show 0 ≤ (c : Int) ∧ (c : Int) < 90 ∧ 0 ≤ (d : Int) ∧ (d : Int) < 90
  omega
/-- A piece that is followed back stood where it is said. -/
theorem Chain.back {p : Ps} {ls : List Ps} {ms : List (Int × Int)} (h : Chain p ls ms) : ∀ (k : Nat) (_ : k ≤ ms.length) (q : Ps) (_ : ls[k]? = some q) (n : Nat) (_ : n < 90) (_ : bAt q.s n ≠ 46), ∃ o : Nat, o < 90 ∧ originI (ms.take k) (n : Int) = (o : Int) ∧ bAt p.s o = bAt q.s n
  | 0, _, q, hq, n, hn, _ => by
    rw [h.first] at hq
    injection hq with hq
    subst hq
    exact ⟨n, hn, by rw [List.take_zero]; rfl, rfl⟩
  | k + 1, hk, q, hq, n, hn, hne => by
    obtain ⟨a, b, m, h1, h2, h3, h4⟩ := h.step k (by omega)
    rw [hq] at h3
    injection h3 with h3
    subst h3
    obtain ⟨_, _, ⟨hB, _⟩, x, y, rfl, hx, hy, hc, _, _, e⟩ := step_parts h4
    have hk' : k < ms.length := by omega
    rw [List.getElem?_eq_getElem hk'] at h2
    injection h2 with h2
    rw [List.take_succ_eq_append_getElem hk', h2, origin_snoc]
    have hat : bAt q.s n = if n = y then bAt a.s x else if n = x then 46 else bAt a.s n := by
      rw [e]
      exact moved_at (isB_size hB) (bAt_lt a.s x) hn
    by_cases e1 : n = y
    · subst e1
      rw [if_pos rfl] at hat ⊢
      rw [hat]
      exact h.back k (by omega) a h1 x hx (by rw [← hat]; exact hne)
    · rw [if_neg e1] at hat
      by_cases e2 : n = x
      · rw [if_pos e2] at hat
        exact absurd hat hne
      · rw [if_neg e2] at hat
        rw [if_neg (show ¬ ((y : Int) = (n : Int)) by omega), hat]
        exact h.back k (by omega) a h1 n hn (by rw [← hat]; exact hne)

/-- A game of those of some moves that may be made. -/
def playS (x : List Ps × List (Int × Int) × Ps) (m : Int × Int) : List Ps × List (Int × Int) × Ps := match stepP x.2.2 m with
  | some q => (x.1 ++ [q], x.2.1 ++ [m], q)
  | none => x
def playF (p : Ps) (l : List (Int × Int)) : List Ps × List (Int × Int) × Ps := l.foldl playS ([p], [], p)
theorem play_succ (p : Ps) (l : List (Int × Int)) {i : Nat} (hi : i < l.length) : playF p (l.take (i + 1)) = playS (playF p (l.take i)) l[i] := by
  unfold playF
  rw [List.take_succ_eq_append_getElem hi, List.foldl_append]
  rfl
theorem play_chain (p : Ps) : ∀ (l : List (Int × Int)) (i : Nat) (_ : i ≤ l.length), Chain p (playF p (l.take i)).1 (playF p (l.take i)).2.1 ∧ (playF p (l.take i)).1[(playF p (l.take i)).2.1.length]? = some (playF p (l.take i)).2.2 ∧ (playF p (l.take i)).2.1.length ≤ i
  | l, 0, _ => by
    rw [List.take_zero]
    exact ⟨chain_start p, rfl, Nat.le_refl _⟩
  | l, i + 1, hi => by
    obtain ⟨h1, h2, h3⟩ := play_chain p l i (by omega)
    rw [play_succ p l (by omega)]
    generalize playF p (l.take i) = x at h1 h2 h3
    obtain ⟨ls, ms, c⟩ := x
    unfold playS
    have h3' : ms.length ≤ i := h3
    cases e : stepP c l[i] with
    | none => exact ⟨h1, h2, Nat.le_succ_of_le h3'⟩
    | some q =>
      refine ⟨h1.snoc h2 e, ?_, ?_⟩
      · show (ls ++ [q])[(ms ++ [l[i]]).length]? = some q
        have hlen : ls.length = ms.length + 1 := h1.len
        rw [List.length_append, List.getElem?_append_right (by rw [hlen]; simp), hlen]
        simp
      · show (ms ++ [l[i]]).length ≤ i + 1
        have h3 : ms.length ≤ i := h3
        rw [List.length_append]
        simp
        omega

/-- A position, and the same one from the other side, whatever its number. -/
structure TurnP (a b : Ps) : Prop where
  wa : a.well = 0
  wb : b.well = 0
  s : b.s = turnB a.s
  y : b.y = 1 - a.y
  z : b.z = a.z
theorem Ps.board {a : Ps} (h : a.well = 0) : isB a.s = true := parts_board (check_zero (well_zero h).1).1
theorem Ps.side {a : Ps} (h : a.well = 0) : a.y = 0 ∨ a.y = 1 := (check_other (well_zero h).1).1
theorem Ps.kings {a : Ps} (h : a.well = 0) : countsB a.s 90 = true ∧ cntN a.s 90 75 = 1 ∧ cntN a.s 90 107 = 1 := by
  obtain ⟨_, hc, _⟩ := check_zero (well_zero h).1
  obtain ⟨_, h1, h2⟩ := counts_parts hc
  exact ⟨hc, h1, h2⟩
theorem well_full {s : ByteArray} {y z u v : Int} (h : wellN s y z u = 0) (h1 : 1 ≤ v) (h2 : v ≤ 9999) : wellN s y z v = 0 := by
  obtain ⟨hck, hf, hi⟩ := well_zero h
  obtain ⟨hp, hc, hpl⟩ := check_zero hck
  have hp2 : partsB s y z v = true := by
    unfold partsB at hp ⊢
    simp only [Bool.and_eq_true, decide_eq_true_eq] at hp ⊢
    exact ⟨⟨hp.1.1, h1⟩, h2⟩
  have hck2 : (checkN s y z v : Int) = 0 := by
    unfold checkN
    rw [hp2, hc, hpl]
    rfl
  unfold wellN
  rw [if_pos hck2, hf, hi]
  rfl
theorem well_nums {s : ByteArray} {y z u : Int} (h : wellN s y z u = 0) : 0 ≤ z ∧ z ≤ 120 ∧ 1 ≤ u ∧ u ≤ 9999 := by
  obtain ⟨hp, _, _⟩ := check_zero (well_zero h).1
  unfold partsB at hp
  simp only [Bool.and_eq_true, decide_eq_true_eq] at hp
  exact ⟨hp.1.1.1.2, hp.1.1.2, hp.1.2, hp.2⟩
theorem turnP_of {a b : Ps} (h : a.well = 0) (hs : b.s = turnB a.s) (hy : b.y = 1 - a.y) (hz : b.z = a.z) (h1 : 1 ≤ b.u) (h2 : b.u ≤ 9999) : TurnP a b := by
  refine ⟨h, ?_, hs, hy, hz⟩
  show wellN b.s b.y b.z b.u = 0
  have h' : wellN a.s a.y a.z a.u = 0 := h
  rw [hs, hy, hz, well_turn (Ps.board h) (Ps.side h)]
  exact well_full h' h1 h2
theorem TurnP.symm {a b : Ps} (h : TurnP a b) : TurnP b a := ⟨h.wb, h.wa, by rw [h.s, turn_turn (Ps.board h.wa)], by rw [h.y]; omega, h.z.symm⟩
theorem turnI_turn (m : Int × Int) : turnI (turnI m) = m := by
  obtain ⟨a, b⟩ := m
  show ((89 - (89 - a), 89 - (89 - b)) : Int × Int) = (a, b)
  rw [show 89 - (89 - a) = a by omega, show 89 - (89 - b) = b by omega]
theorem safe_turnP {s : ByteArray} {y z u : Int} (hw : wellN s y z u = 0) {a b : Nat} (ha : a < 90) (hb : b < 90) (hc : canB s a b = true) (hk : kindN (bAt s b) ≠ 75) (hsd : y = 0 ∨ y = 1) : safeB (behindS (turnB s) (89 - a, 89 - b)) (1 - y) = safeB (behindS s (a, b)) y := by
  obtain ⟨hp, hcn, _⟩ := check_zero (well_zero hw).1
  have hs := parts_board hp
  obtain ⟨f1, f2, f3⟩ := behind_facts hs hcn ha hb (can_self hc) hk
  rw [behind_turn hs ha hb, safe_turn f1 f2 f3 hsd]
theorem step_turn {a b q : Ps} (h : TurnP a b) {m : Int × Int} (hs : stepP a m = some q) : ∃ q', stepP b (turnI m) = some q' ∧ TurnP q q' := by
  obtain ⟨h1, h2, ⟨hB, hy⟩, x, y, rfl, hx, hy9, hc, hsd, hk, rfl⟩ := step_parts hs
  have hsafe := step_safe hs
  have e1 : turnI ((x : Int), (y : Int)) = (((89 - x : Nat) : Int), ((89 - y : Nat) : Int)) := by
    show ((89 - (x : Int), 89 - (y : Int)) : Int × Int) = _
    rw [show (89 : Int) - (x : Int) = ((89 - x : Nat) : Int) by omega, show (89 : Int) - (y : Int) = ((89 - y : Nat) : Int) by omega]
  have hsf := safe_turnP h1 hx hy9 hc hk hy
  have hst := step_of (p := b) h.wb (a := 89 - x) (b := 89 - y) (by omega) (by omega) (by rw [h.s, can_turn hB hx hy9]; exact hc)
    (by rw [h.s, h.y, side_turn hB hx hy]; exact hsd) (by rw [h.s, turn_bAt hB hy9, swap_kind]; exact hk) (by rw [h.s, h.y, hsf]; exact hsafe)
  rw [e1, hst]
  refine ⟨_, rfl, ?_⟩
  have hn := well_nums h.wb
  refine turnP_of h2 ?_ ?_ ?_ ?_ ?_
  · show behindS b.s (89 - x, 89 - y) = turnB (behindS a.s (x, y))
    rw [h.s, behind_turn hB hx hy9]
  · show 1 - b.y = 1 - (1 - a.y)
    rw [h.y]
  · show clockA b.s b.z (89 - y) = clockA a.s a.z y
    unfold clockA
    rw [h.s, h.z, turn_bAt hB hy9]
    have e : (swapN (bAt a.s y) = 46) ↔ (bAt a.s y = 46) := by
      have := swap_empty' (c := bAt a.s y)
      rw [Bool.eq_iff_iff, beq_iff_eq, beq_iff_eq] at this
      exact this
    by_cases h46 : bAt a.s y = 46
    · rw [if_pos h46, if_pos (e.2 h46)]
    · rw [if_neg h46, if_neg fun x => h46 (e.1 x)]
  · show 1 ≤ fullA b.y b.u
    unfold fullA
    split <;> omega
  · show fullA b.y b.u ≤ 9999
    unfold fullA
    split <;> omega
theorem step_turn_none {a b : Ps} (h : TurnP a b) {m : Int × Int} (hs : stepP a m = none) : stepP b (turnI m) = none := by
  cases e : stepP b (turnI m) with
  | none => rfl
  | some q =>
    obtain ⟨q', h1, _⟩ := step_turn h.symm e
    rw [turnI_turn, hs] at h1
    cases h1
end Go.Proofs.YtnkbilikkbaeeaaGreatDoor

namespace Go.Proofs.YtnkbilikkbaeeaaGreatDoor
open Go.RowKit Go.Shelf
open M (S)

/-- Two lists, item by item. -/
structure Pair (R : Ps → Ps → Prop) (l k : List Ps) : Prop where
  len : l.length = k.length
  at_ : ∀ (j : Nat) (a b : Ps), l[j]? = some a → k[j]? = some b → R a b
theorem pair_get {R : Ps → Ps → Prop} {l k : List Ps} (h : Pair R l k) {j : Nat} {a : Ps} (ha : l[j]? = some a) : ∃ b, k[j]? = some b ∧ R a b := by
  have hj : j < l.length := by
    rcases Nat.lt_or_ge j l.length with h | h
    · exact h
    · rw [List.getElem?_eq_none h] at ha
      cases ha
  have hb : k[j]? = some (k[j]'(by rw [← h.len]; exact hj)) := List.getElem?_eq_getElem _
  exact ⟨_, hb, h.at_ j _ _ ha hb⟩
theorem pair_none {R : Ps → Ps → Prop} {l k : List Ps} (h : Pair R l k) {j : Nat} (ha : l[j]? = none) : k[j]? = none := by
  rw [List.getElem?_eq_none_iff] at ha ⊢
  rw [← h.len]
  exact ha
theorem pair_one {R : Ps → Ps → Prop} {a b : Ps} (h : R a b) : Pair R [a] [b] := ⟨rfl, fun j x y hx hy => by
  cases j with
  | zero =>
    simp only [List.length_cons, List.length_nil, Nat.zero_add, Nat.lt_add_one, List.getElem?_eq_getElem, List.getElem_cons_zero, Option.some.injEq] at hx hy
    subst hx hy
    exact h
  | succ j => simp at hx⟩
theorem pair_snoc {R : Ps → Ps → Prop} {l k : List Ps} {a b : Ps} (h : Pair R l k) (hr : R a b) : Pair R (l ++ [a]) (k ++ [b]) := by
  refine ⟨by simp [h.len], fun j x y hx hy => ?_⟩
  rcases Nat.lt_trichotomy j l.length with e | e | e
  · rw [List.getElem?_append_left e] at hx
    rw [List.getElem?_append_left (by rw [← h.len]; exact e)] at hy
    exact h.at_ j x y hx hy
  · subst e
    rw [List.getElem?_append_right (Nat.le_refl _), Nat.sub_self] at hx
    rw [List.getElem?_append_right (by rw [h.len]; exact Nat.le_refl _), h.len, Nat.sub_self] at hy
    simp only [List.length_cons, List.length_nil, Nat.zero_add, Nat.lt_add_one, List.getElem?_eq_getElem, List.getElem_cons_zero, Option.some.injEq] at hx hy
    subst hx hy
    exact hr
  · rw [List.getElem?_eq_none (by simp; omega)] at hx
    cases hx
theorem pair_drop {R : Ps → Ps → Prop} {l k : List Ps} (h : Pair R l k) (i : Nat) : Pair R (l.drop i) (k.drop i) := by
  refine ⟨by rw [List.length_drop, List.length_drop, h.len], fun j x y hx hy => ?_⟩
  rw [List.getElem?_drop] at hx hy
  exact h.at_ _ x y hx hy
theorem pair_map {R : Ps → Ps → Prop} {l : List Ps} (f : Ps → Ps) (h : ∀ (j : Nat) (a : Ps), l[j]? = some a → R a (f a)) : Pair R l (l.map f) := by
  refine ⟨by rw [List.length_map], fun j a b ha hb => ?_⟩
  rw [List.getElem?_map, ha] at hb
  injection hb with hb
  subst hb
  exact h j a ha
theorem sameAt_pair {R : Ps → Ps → Prop} (hR : ∀ a b x y, R a b → R x y → sameB a x = sameB b y) {l k : List Ps} (h : Pair R l k) (i j : Nat) : sameAt l i j = sameAt k i j := by
  unfold sameAt
  cases hi : l[i]? with
  | none => rw [pair_none h hi]
  | some a =>
    obtain ⟨b, hb, h1⟩ := pair_get h hi
    rw [hb]
    cases hj : l[j]? with
    | none => rw [pair_none h hj]
    | some x =>
      obtain ⟨y, hy, h2⟩ := pair_get h hj
      rw [hy]
      exact hR a b x y h1 h2
theorem earlier_pair {R : Ps → Ps → Prop} (hR : ∀ a b x y, R a b → R x y → sameB a x = sameB b y) {l k : List Ps} (h : Pair R l k) : earlierI l = earlierI k := by
  unfold earlierI
  rw [← h.len]
  exact first_same fun i _ => sameAt_pair hR h i _
theorem sameB_iff {a b : Ps} : sameB a b = true ↔ a.s = b.s ∧ a.y = b.y := by
  unfold sameB
  rw [Bool.and_eq_true, beq_iff_eq, beq_iff_eq]
  exact ⟨fun h => ⟨text_inj h.1, h.2⟩, fun h => ⟨by rw [h.1], h.2⟩⟩
theorem same_turn (a b x y : Ps) (h : TurnP a b) (k : TurnP x y) : sameB a x = sameB b y := by
  rw [Bool.eq_iff_iff, sameB_iff, sameB_iff, h.s, k.s, h.y, k.y]
  constructor
  · rintro ⟨h1, h2⟩
    rw [h1, h2]
    exact ⟨rfl, rfl⟩
  · rintro ⟨h1, h2⟩
    have e := congrArg turnB h1
    rw [turn_turn (Ps.board h.wa), turn_turn (Ps.board k.wa)] at e
    exact ⟨e, by omega⟩
/-- Two positions that are the same but for their numbers. -/
structure LikeP (a b : Ps) : Prop where
  wa : a.well = 0
  wb : b.well = 0
  s : b.s = a.s
  y : b.y = a.y
theorem same_like (a b x y : Ps) (h : LikeP a b) (k : LikeP x y) : sameB a x = sameB b y := by
  unfold sameB
  rw [h.s, k.s, h.y, k.y]
theorem ck_of {l : List Ps} {j : Nat} {p : Ps} (h : l[j + 1]? = some p) : ckAt l j = plyC p.s p.y p.z p.u := by
  unfold ckAt
  rw [h]
theorem of_of {l : List Ps} {j : Nat} {p : Ps} (h : l[j]? = some p) (side : Int) : ofAt l side j = (p.y == side) := by
  unfold ofAt
  rw [h]
theorem ori_of {l : List Ps} {m : List (Int × Int)} {j : Nat} {p : Ps} (h : l[j + 1]? = some p) : oriAt l m j = (plyL p.s p.y p.z p.u).map (originI (m.take (j + 1))) := by
  unfold oriAt
  rw [h]
theorem plyC_turn {a b : Ps} (h : TurnP a b) : plyC b.s b.y b.z b.u = plyC a.s a.y a.z a.u := by
  have h1 : wellN a.s a.y a.z a.u = 0 := h.wa
  have h2 : wellN b.s b.y b.z b.u = 0 := h.wb
  unfold plyC
  rw [decide_eq_true h1, decide_eq_true h2, h.s, h.y, in_turn (Ps.board h.wa) (Ps.kings h.wa).2.1 (Ps.kings h.wa).2.2 (Ps.side h.wa)]
theorem plyL_turn {a b : Ps} (h : TurnP a b) : plyL b.s b.y b.z b.u = ((plyL a.s a.y a.z a.u).map fun k => 89 - k).reverse := by
  have h1 : wellN a.s a.y a.z a.u = 0 := h.wa
  have h2 : wellN b.s b.y b.z b.u = 0 := h.wb
  have h3 := in_turn (Ps.board h.wa) (Ps.kings h.wa).2.1 (Ps.kings h.wa).2.2 (Ps.side h.wa)
  have hsd := Ps.side h.wa
  unfold plyL
  by_cases hi : inB a.s a.y = false
  · rw [if_pos ⟨h2, by rw [h.s, h.y, h3]; exact hi⟩, if_pos ⟨h1, hi⟩, chasedL_map, chasedL_map, h.s, h.y, chasedN_turn (Ps.board h.wa) (few_of_well h1) (side := 1 - a.y) (by omega), List.map_reverse, List.map_map, List.map_map]
    congr 1
    refine List.map_congr_left fun k hk => ?_
    have := List.mem_range.1 (List.mem_filter.1 hk).1
    show ((89 - k : Nat) : Int) = 89 - (k : Int)
    omega
  · rw [if_neg fun e => hi (by rw [← h3, ← h.s, ← h.y]; exact e.2), if_neg fun e => hi e.2]
    rfl
theorem plyC_like {a b : Ps} (h : LikeP a b) : plyC b.s b.y b.z b.u = plyC a.s a.y a.z a.u := by
  have h1 : wellN a.s a.y a.z a.u = 0 := h.wa
  have h2 : wellN b.s b.y b.z b.u = 0 := h.wb
  unfold plyC
  rw [decide_eq_true h1, decide_eq_true h2, h.s, h.y]
theorem plyL_like {a b : Ps} (h : LikeP a b) : plyL b.s b.y b.z b.u = plyL a.s a.y a.z a.u := by
  have h1 : wellN a.s a.y a.z a.u = 0 := h.wa
  have h2 : wellN b.s b.y b.z b.u = 0 := h.wb
  unfold plyL
  by_cases hi : inB a.s a.y = false
  · rw [if_pos ⟨h2, by rw [h.s, h.y]; exact hi⟩, if_pos ⟨h1, hi⟩, h.s, h.y]
  · rw [if_neg fun e => hi (by rw [← h.s, ← h.y]; exact e.2), if_neg fun e => hi e.2]
theorem class_turn {l k : List Ps} (h : Pair TurnP l k) (m : List (Int × Int)) (side : Int) : classI l m side = classI k (m.map turnI) (1 - side) := by
  by_cases hl : l.length = m.length + 1
  · have hin : ∀ j, j < m.length → (∃ p, l[j]? = some p) ∧ ∃ p, l[j + 1]? = some p := fun j hj => ⟨⟨_, List.getElem?_eq_getElem (by omega)⟩, ⟨_, List.getElem?_eq_getElem (by omega)⟩⟩
    refine class_same h.len (by rw [List.length_map]) (fun j hj => ?_) (fun j hj => ?_) (fun i => 89 - i) (fun i hi => ⟨by omega, by omega⟩) (fun j i hj hi => ?_)
    · obtain ⟨⟨p, hp⟩, _⟩ := hin j hj
      obtain ⟨q, hq, hr⟩ := pair_get h hp
      rw [of_of hp, of_of hq, hr.y, Bool.eq_iff_iff, beq_iff_eq, beq_iff_eq]
      omega
    · obtain ⟨_, ⟨p, hp⟩⟩ := hin j hj
      obtain ⟨q, hq, hr⟩ := pair_get h hp
      rw [ck_of hp, ck_of hq, plyC_turn hr]
    · obtain ⟨_, ⟨p, hp⟩⟩ := hin j hj
      obtain ⟨q, hq, hr⟩ := pair_get h hp
      rw [ori_of hp, ori_of hq, plyL_turn hr, Bool.eq_iff_iff, List.contains_iff_mem, List.contains_iff_mem, List.mem_map, List.mem_map]
      constructor
      · rintro ⟨c, hc, he⟩
        refine ⟨89 - c, List.mem_reverse.2 (List.mem_map.2 ⟨c, hc, rfl⟩), ?_⟩
        rw [← List.map_take, origin_turn, he]
        omega
      · rintro ⟨c, hc, he⟩
        obtain ⟨d, hd, rfl⟩ := List.mem_map.1 (List.mem_reverse.1 hc)
        refine ⟨d, hd, ?_⟩
        rw [← List.map_take, origin_turn] at he
        omega
  · rw [class_len hl, class_len (by rw [← h.len, List.length_map]; exact hl)]
theorem class_like {l k : List Ps} (h : Pair LikeP l k) (m : List (Int × Int)) (side : Int) : classI l m side = classI k m side := by
  by_cases hl : l.length = m.length + 1
  · have hin : ∀ j, j < m.length → (∃ p, l[j]? = some p) ∧ ∃ p, l[j + 1]? = some p := fun j hj => ⟨⟨_, List.getElem?_eq_getElem (by omega)⟩, ⟨_, List.getElem?_eq_getElem (by omega)⟩⟩
    refine class_same h.len rfl (fun j hj => ?_) (fun j hj => ?_) (fun i => i) (fun i hi => ⟨hi, rfl⟩) (fun j i hj hi => ?_)
    · obtain ⟨⟨p, hp⟩, _⟩ := hin j hj
      obtain ⟨q, hq, hr⟩ := pair_get h hp
      rw [of_of hp, of_of hq, hr.y]
    · obtain ⟨_, ⟨p, hp⟩⟩ := hin j hj
      obtain ⟨q, hq, hr⟩ := pair_get h hp
      rw [ck_of hp, ck_of hq, plyC_like hr]
    · obtain ⟨_, ⟨p, hp⟩⟩ := hin j hj
      obtain ⟨q, hq, hr⟩ := pair_get h hp
      rw [ori_of hp, ori_of hq, plyL_like hr]
  · rw [class_len hl, class_len (by rw [← h.len]; exact hl)]
end Go.Proofs.YtnkbilikkbaeeaaGreatDoor
