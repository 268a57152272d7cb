/- Merged: CycleA CycleB CycleP CycleC CycleD CycleE CycleF CycleL CycleG CycleV. -/
import Derived.Test.YtbdgbihdhbjljaaGreatDoorChaseM
import Derived.Test.YtbdgbihdhbjljaaGreatDoorLegalM
import Derived.Test.YtbdgbihdhbjljaaGreatDoorGuardM
import Derived.Test.YtbdgbihdhbjljaaGreatDoorShelfB
import Derived.Test.YtbdgbihdhbjljaaGreatDoorRowA
import Derived.Lib.OwnBridge
import Derived.Test.YtbdgbihdhbjljaaGreatDoorLive3
import Derived.Deep.AppendLies
import Derived.Deep.RegionHeldLaw

namespace Go.Proofs.YtbdgbihdhbjljaaGreatDoor
open Go.RowKit Go.Shelf
open M (S)

/-- A position; how it lies in memory. -/
structure Ps where
  s : ByteArray
  y : Int
  z : Int
  u : Int
def Ps.cs (p : Ps) : List Value := [.string p.s, .int .i64 p.y, .int .i64 p.z, .int .i64 p.u]
def psL (l : List Ps) : List Value := l.flatMap Ps.cs
theorem psL_len (l : List Ps) : (psL l).length = l.length * 4 := by
  induction l with
  | nil => rfl
  | cons x l ih =>
    show (x.cs ++ psL l).length = _
    rw [List.length_append, ih, List.length_cons]
    show 4 + l.length * 4 = _
    omega
theorem psL_app (l r : List Ps) : psL (l ++ r) = psL l ++ psL r := by unfold psL; rw [List.flatMap_append]
theorem psL_snoc (l : List Ps) (x : Ps) : psL (l ++ [x]) = psL l ++ x.cs := by rw [psL_app]; simp [psL]
theorem psL_at (l : List Ps) {k : Nat} (hk : k < l.length) {i : Nat} (hi : i < 4) : (psL l)[k * 4 + i]? = l[k].cs[i]? := by
  induction l generalizing k with
  | nil => exact absurd hk (by simp)
  | cons x r ih =>
    show (x.cs ++ psL r)[k * 4 + i]? = _
    have hx : x.cs.length = 4 := rfl
    cases k with
    | zero => rw [List.getElem?_append_left (by rw [hx]; omega), Nat.zero_mul, Nat.zero_add]; rfl
    | succ k =>
      rw [List.getElem?_append_right (by rw [hx]; omega), hx, show (k + 1) * 4 + i - 4 = k * 4 + i by omega]
      exact ih (by simpa using hk)
/-- Moves of any numbers, as they lie. -/
def mzL (l : List (Int × Int)) : List Value := l.flatMap fun m => [iv m.1, iv m.2]
theorem mzL_len (l : List (Int × Int)) : (mzL l).length = l.length * 2 := by
  induction l with
  | nil => rfl
  | cons x l ih =>
    show ([iv x.1, iv x.2] ++ mzL l).length = _
    rw [List.length_append, ih, show (x :: l).length = l.length + 1 from rfl]
    show 2 + l.length * 2 = _
    omega
theorem mzL_app (l r : List (Int × Int)) : mzL (l ++ r) = mzL l ++ mzL r := by unfold mzL; rw [List.flatMap_append]
theorem mzL_snoc (l : List (Int × Int)) (x : Int × Int) : mzL (l ++ [x]) = mzL l ++ [iv x.1, iv x.2] := by rw [mzL_app]; simp [mzL]
theorem mzL_at (l : List (Int × Int)) {k : Nat} (hk : k < l.length) : (mzL l)[k * 2]? = some (iv l[k].1) ∧ (mzL l)[k * 2 + 1]? = some (iv l[k].2) := by
  induction l generalizing k with
  | nil => exact absurd hk (by simp)
  | cons x r ih =>
    show ([iv x.1, iv x.2] ++ mzL r)[k * 2]? = _ ∧ ([iv x.1, iv x.2] ++ mzL r)[k * 2 + 1]? = _
    cases k with
    | zero => exact ⟨rfl, rfl⟩
    | succ k =>
      rw [List.getElem?_append_right (by simp; omega), List.getElem?_append_right (by simp; omega), show (k + 1) * 2 - [iv x.1, iv x.2].length = k * 2 by simp; omega, show (k + 1) * 2 + 1 - [iv x.1, iv x.2].length = k * 2 + 1 by simp; omega]
      exact ih (by simpa using hk)

/-- The first number below one that is so; -1, if none is. -/
def firstI (p : Nat → Bool) (n : Nat) : Int := match (List.range n).find? p with
  | some i => (i : Int)
  | none => -1
theorem first_hit {p : Nat → Bool} {n i : Nat} (hn : i < n) (hp : p i = true) (h : ∀ k, k < i → p k = false) : firstI p n = (i : Int) := by
  have e : (List.range n).find? p = some i := List.find?_range_eq_some.2 ⟨hp, List.mem_range.2 hn, fun j hj => by rw [h j hj]; rfl⟩
  unfold firstI
  rw [e]
theorem first_none {p : Nat → Bool} {n : Nat} (h : ∀ k, k < n → p k = false) : firstI p n = -1 := by
  have e : (List.range n).find? p = none := List.find?_range_eq_none.2 fun j hj => by rw [h j hj]; rfl
  unfold firstI
  rw [e]
theorem first_cases (p : Nat → Bool) (n : Nat) : (∃ i, i < n ∧ p i = true ∧ (∀ k, k < i → p k = false) ∧ firstI p n = (i : Int)) ∨ ((∀ k, k < n → p k = false) ∧ firstI p n = -1) := by
  cases e : (List.range n).find? p with
  | none =>
    have h := List.find?_range_eq_none.1 e
    have h2 : ∀ k, k < n → p k = false := fun k hk => by
      have := h k hk
      revert this
      cases p k <;> simp
    exact .inr ⟨h2, first_none h2⟩
  | some i =>
    obtain ⟨h1, h2, h3⟩ := List.find?_range_eq_some.1 e
    have h4 : ∀ k, k < i → p k = false := fun k hk => by
      have := h3 k hk
      revert this
      cases p k <;> simp
    exact .inl ⟨i, List.mem_range.1 h2, h1, h4, first_hit (List.mem_range.1 h2) h1 h4⟩
theorem first_same {p q : Nat → Bool} {n : Nat} (h : ∀ k, k < n → p k = q k) : firstI p n = firstI q n := by
  unfold firstI
  rw [find_same (l := List.range n) fun k hk => h k (List.mem_range.1 hk)]

/-- Whether two positions are the same again; which one is the last one's first. -/
def sameB (a b : Ps) : Bool := (a.s.toList == b.s.toList) && (a.y == b.y)
theorem text_inj {s t : ByteArray} (h : s.toList = t.toList) : s = t := by
  rw [ByteArray.toList_eq, ByteArray.toList_eq] at h
  obtain ⟨a⟩ := s
  obtain ⟨b⟩ := t
  have h : a.toList = b.toList := h
  rw [Array.toList_inj.1 h]
def sameAt (l : List Ps) (i j : Nat) : Bool := match l[i]?, l[j]? with
  | some a, some b => sameB a b
  | _, _ => false
def earlierI (l : List Ps) : Int := firstI (fun i => sameAt l i (l.length - 1)) (l.length - 1)
theorem sameAt_of {l : List Ps} {i j : Nat} (hi : i < l.length) (hj : j < l.length) : sameAt l i j = sameB l[i] l[j] := by
  unfold sameAt
  rw [List.getElem?_eq_getElem hi, List.getElem?_eq_getElem hj]

/-- Where a piece stood ahead of moves. -/
def originI (m : List (Int × Int)) (n : Int) : Int := m.foldr (fun x k => if x.2 = k then x.1 else k) n
theorem origin_nil (n : Int) : originI [] n = n := rfl
theorem origin_cons (x : Int × Int) (m : List (Int × Int)) (n : Int) : originI (x :: m) n = if x.2 = originI m n then x.1 else originI m n := rfl
theorem origin_snoc (x : Int × Int) (m : List (Int × Int)) (n : Int) : originI (m ++ [x]) n = originI m (if x.2 = n then x.1 else n) := by
  unfold originI
  rw [List.foldr_append]
  rfl
theorem origin_drop {m : List (Int × Int)} {i : Nat} (hi : i < m.length) (n : Int) : originI (m.drop i) n = if m[i].2 = originI (m.drop (i + 1)) n then m[i].1 else originI (m.drop (i + 1)) n := by
  rw [List.drop_eq_getElem_cons hi, origin_cons]
/-- Moves from squares to squares. -/
def SqM (m : List (Int × Int)) : Prop := ∀ x ∈ m, 0 ≤ x.1 ∧ x.1 < 90 ∧ 0 ≤ x.2 ∧ x.2 < 90
theorem origin_in {m : List (Int × Int)} (h : SqM m) {n : Int} (hn : 0 ≤ n ∧ n < 90) : 0 ≤ originI m n ∧ originI m n < 90 := by
  induction m with
  | nil => exact hn
  | cons x r ih =>
    have ih := ih fun y hy => h y (List.mem_cons_of_mem _ hy)
    obtain ⟨h1, h2, _⟩ := h x (by simp)
    rw [origin_cons]
    split
    · exact ⟨h1, h2⟩
    · exact ih
def turnI (m : Int × Int) : Int × Int := (89 - m.1, 89 - m.2)
theorem origin_turn (m : List (Int × Int)) (n : Int) : originI (m.map turnI) (89 - n) = 89 - originI m n := by
  induction m with
  | nil => rfl
  | cons x r ih =>
    rw [List.map_cons, origin_cons, origin_cons, ih]
    show (if 89 - x.2 = 89 - originI r n then 89 - x.1 else 89 - originI r n) = _
    by_cases h : x.2 = originI r n
    · rw [if_pos h, if_pos (by omega)]
    · rw [if_neg h, if_neg (by omega)]

/-- Whether a position is one ahead of a side's move; what that move did. -/
def ofAt (l : List Ps) (side : Int) (j : Nat) : Bool := match l[j]? with
  | some p => p.y == side
  | none => false
def ckAt (l : List Ps) (j : Nat) : Bool := match l[j + 1]? with
  | some p => plyC p.s p.y p.z p.u
  | none => false
def oriAt (l : List Ps) (m : List (Int × Int)) (j : Nat) : List Int := match l[j + 1]? with
  | some p => (plyL p.s p.y p.z p.u).map (originI (m.take (j + 1)))
  | none => []
def hasAt (l : List Ps) (m : List (Int × Int)) (j : Nat) (n : Nat) : Bool := ckAt l j || (oriAt l m j).contains (n : Int)
def pliesN (l : List Ps) (side : Int) (k : Nat) : List Nat := (List.range k).filter (ofAt l side)
def keptN (l : List Ps) (m : List (Int × Int)) (side : Int) (k : Nat) : List Nat := (List.range 90).filter fun n => (pliesN l side k).all fun j => hasAt l m j n
/-- What a side did. -/
def classI (l : List Ps) (m : List (Int × Int)) (side : Int) : Int :=
  if l.length ≠ m.length + 1 ∨ pliesN l side m.length = [] then 0
  else if (pliesN l side m.length).all (ckAt l) then 2
  else if keptN l m side m.length ≠ [] then 1 else 0
theorem plies_succ (l : List Ps) (side : Int) (k : Nat) : pliesN l side (k + 1) = if ofAt l side k then pliesN l side k ++ [k] else pliesN l side k := by
  unfold pliesN
  rw [List.range_succ, List.filter_append, List.filter_cons]
  cases ofAt l side k <;> simp
theorem kept_zero (l : List Ps) (m : List (Int × Int)) (side : Int) : keptN l m side 0 = List.range 90 := by
  unfold keptN pliesN
  rw [List.range_zero, List.filter_nil]
  simp
theorem kept_succ (l : List Ps) (m : List (Int × Int)) (side : Int) (k : Nat) : keptN l m side (k + 1) = if ofAt l side k then (keptN l m side k).filter (hasAt l m k) else keptN l m side k := by
  unfold keptN
  rw [plies_succ]
  cases ofAt l side k
  · simp
  · rw [if_pos rfl, if_pos rfl, List.filter_filter]
    refine List.filter_congr fun n _ => ?_
    rw [List.all_append, Bool.and_comm]
    simp
theorem kept_ck {l : List Ps} {m : List (Int × Int)} {side : Int} {k : Nat} (h : ckAt l k = true) : keptN l m side (k + 1) = keptN l m side k := by
  rw [kept_succ]
  split
  · rw [List.filter_eq_self]
    intro n _
    unfold hasAt
    rw [h, Bool.true_or]
  · rfl
theorem kept_mono {l : List Ps} {m : List (Int × Int)} {side : Int} {k : Nat} (h : keptN l m side k = []) : ∀ d, keptN l m side (k + d) = []
  | 0 => h
  | d + 1 => by
    rw [show k + (d + 1) = (k + d) + 1 from rfl, kept_succ, kept_mono h d]
    split <;> rfl
theorem plies_pre (l : List Ps) (side : Int) (k d : Nat) : ∃ r, pliesN l side (k + d) = pliesN l side k ++ r := by
  induction d with
  | zero => exact ⟨[], by simp⟩
  | succ d ih =>
    obtain ⟨r, hr⟩ := ih
    rw [show k + (d + 1) = (k + d) + 1 from rfl, plies_succ, hr]
    split
    · exact ⟨r ++ [k + d], by rw [List.append_assoc]⟩
    · exact ⟨r, rfl⟩
/-- A ply that gave no check, behind which nothing is left: idle. -/
theorem class_out {l : List Ps} {m : List (Int × Int)} {side : Int} {j : Nat} (hj : j < m.length) (hof : ofAt l side j = true) (hck : ckAt l j = false) (hk : keptN l m side (j + 1) = []) : classI l m side = 0 := by
  unfold classI
  obtain ⟨r, hr⟩ := plies_pre l side (j + 1) (m.length - (j + 1))
  rw [show j + 1 + (m.length - (j + 1)) = m.length by omega] at hr
  have hk2 := kept_mono hk (m.length - (j + 1))
  rw [show j + 1 + (m.length - (j + 1)) = m.length by omega] at hk2
  have hall : (pliesN l side m.length).all (ckAt l) = false := by
    rw [hr, plies_succ, hof, if_pos rfl, List.all_append, List.all_append]
    simp [hck]
  rw [hall, hk2]
  split
  · rfl
  · simp
/-- What is told at the end. -/
theorem class_end {l : List Ps} {m : List (Int × Int)} {side : Int} (hl : l.length = m.length + 1) {checked chased : Bool} (h1 : checked = (pliesN l side m.length).any (ckAt l)) (h2 : chased = (pliesN l side m.length).any fun j => !ckAt l j) (h3 : chased = true → keptN l m side m.length ≠ []) : classI l m side = if chased then 1 else if checked then 2 else 0 := by
  unfold classI
  cases hp : pliesN l side m.length with
  | nil =>
    rw [hp] at h1 h2
    rw [h1, h2]
    simp
  | cons a r =>
    rw [if_neg (by rw [hl]; simp)]
    cases hc : chased with
    | true =>
      rw [hc, hp] at h2
      have : (a :: r).all (ckAt l) = false := by
        rw [List.all_eq_not_any_not, ← h2]
        rfl
      rw [this, if_pos (h3 hc)]
      rfl
    | false =>
      rw [hc, hp] at h2
      have : (a :: r).all (ckAt l) = true := by
        rw [List.all_eq_not_any_not, ← h2]
        rfl
      rw [this]
      have hc1 : checked = true := by
        rw [h1, hp, List.any_cons]
        rw [List.all_cons, Bool.and_eq_true] at this
        rw [this.1]
        rfl
      rw [hc1]
      rfl
theorem class_len {l : List Ps} {m : List (Int × Int)} {side : Int} (h : l.length ≠ m.length + 1) : classI l m side = 0 := by
  unfold classI
  rw [if_pos (.inl h)]
theorem class_range (l : List Ps) (m : List (Int × Int)) (side : Int) : classI l m side = 0 ∨ classI l m side = 1 ∨ classI l m side = 2 := by
  unfold classI
  split
  · exact .inl rfl
  · split
    · exact .inr (.inr rfl)
    · split
      · exact .inr (.inl rfl)
      · exact .inl rfl
/-- Nobody's moves: idle. -/
theorem class_nobody {l : List Ps} {m : List (Int × Int)} {side : Int} (h : ∀ j, j < m.length → ofAt l side j = false) : classI l m side = 0 := by
  unfold classI
  rw [if_pos]
  refine .inr ?_
  unfold pliesN
  rw [List.filter_eq_nil_iff]
  intro j hj
  rw [h j (List.mem_range.1 hj)]
  simp
/-- What is alike move by move is of one class. -/
theorem class_same {l k : List Ps} {m n : List (Int × Int)} {a b : Int} (hl : l.length = k.length) (hm : m.length = n.length) (ho : ∀ j, j < m.length → ofAt l a j = ofAt k b j) (hc : ∀ j, j < m.length → ckAt l j = ckAt k j) (f : Nat → Nat) (hf : ∀ i, i < 90 → f i < 90 ∧ f (f i) = i) (hh : ∀ (j i : Nat), j < m.length → i < 90 → (oriAt l m j).contains (i : Int) = (oriAt k n j).contains ((f i : Nat) : Int)) : classI l m a = classI k n b := by
  have e1 : pliesN l a m.length = pliesN k b n.length := by
    unfold pliesN
    rw [← hm]
    exact List.filter_congr fun j hj => ho j (List.mem_range.1 hj)
  have hin : ∀ j ∈ pliesN l a m.length, j < m.length := fun j hj => List.mem_range.1 (List.mem_filter.1 hj).1
  have e2 : (pliesN l a m.length).all (ckAt l) = (pliesN l a m.length).all (ckAt k) := by
    rw [Bool.eq_iff_iff, List.all_eq_true, List.all_eq_true]
    exact ⟨fun h j hj => by rw [← hc j (hin j hj)]; exact h j hj, fun h j hj => by rw [hc j (hin j hj)]; exact h j hj⟩
  have e4 : ∀ i, i < 90 → ((pliesN l a m.length).all fun j => hasAt l m j i) = (pliesN l a m.length).all fun j => hasAt k n j (f i) := fun i hi => by
    rw [Bool.eq_iff_iff, List.all_eq_true, List.all_eq_true]
    have e : ∀ j ∈ pliesN l a m.length, hasAt l m j i = hasAt k n j (f i) := fun j hj => by
      unfold hasAt
      rw [hc j (hin j hj), hh j i (hin j hj) hi]
    exact ⟨fun h j hj => by rw [← e j hj]; exact h j hj, fun h j hj => by rw [e j hj]; exact h j hj⟩
  have e3 : keptN l m a m.length = [] ↔ keptN k n b n.length = [] := by
    unfold keptN
    rw [← e1, List.filter_eq_nil_iff, List.filter_eq_nil_iff]
    constructor
    · intro h i hi
      have hi := List.mem_range.1 hi
      obtain ⟨h1, h2⟩ := hf i hi
      have := h (f i) (List.mem_range.2 h1)
      rw [e4 (f i) h1, h2] at this
      exact this
    · intro h i hi
      have hi := List.mem_range.1 hi
      rw [e4 i hi]
      exact h (f i) (List.mem_range.2 (hf i hi).1)
  have e5 : pliesN k b m.length = pliesN l a m.length := by rw [e1, hm]
  unfold classI
  rw [hl, ← hm, e2, e5]
  by_cases h : keptN l m a m.length = []
  · have h2 := e3.1 h
    rw [← hm] at h2
    rw [h, h2]
  · have h2 : keptN k n b n.length ≠ [] := fun e => h (e3.2 e)
    rw [← hm] at h2
    rw [if_pos (c := keptN l m a m.length ≠ []) h, if_pos (c := keptN k n b m.length ≠ []) h2]
end Go.Proofs.YtbdgbihdhbjljaaGreatDoor

namespace Go.Proofs.YtbdgbihdhbjljaaGreatDoor
open Go.RowKit Go.Shelf
open M (S)

abbrev Ps.well (p : Ps) : Int := wellN p.s p.y p.z p.u
/-- A position behind a move, if it may be made. -/
def stepP (p : Ps) (m : Int × Int) : Option Ps := if isV p.s p.y p.z p.u m.1 m.2 then some ⟨movedS p.s m.1.toNat m.2.toNat (bAt p.s m.1.toNat), 1 - p.y, clockA p.s p.z m.2.toNat, fullA p.y p.u⟩ else none
theorem isV_parts {s : ByteArray} {y z u a b : Int} (h : isV s y z u a b = true) : wellN s y z u = 0 ∧ (isM s y a b = true ∧ kindN (bAt s b.toNat) ≠ 75) ∧ wellN (movedS s a.toNat b.toNat (bAt s a.toNat)) (1 - y) (clockA s z b.toNat) (fullA y u) = 0 := by
  unfold isV at h
  rw [Bool.and_eq_true, beq_iff_eq] at h
  obtain ⟨h1, h2⟩ := h
  by_cases h3 : isM s y a b = true ∧ kindN (bAt s b.toNat) ≠ 75
  · refine ⟨h1, h3, ?_⟩
    rw [leaves_good h3, beq_iff_eq] at h2
    exact h2
  · rw [leaves_bad h3] at h2
    cases h2
theorem make_step {p q : Ps} {m : Int × Int} (h : stepP p m = some q) : ∃ t : Nat, makeV p.s p.y p.z p.u m.1 m.2 = .tuple #[.agg #[.string q.s, .int .i64 q.y, .int .i64 q.z, .int .i64 q.u], .int .u8 t, .int .i64 0] := by
  unfold stepP at h
  split at h
  · rename_i hv
    injection h with h
    subst h
    obtain ⟨h1, h2, _⟩ := isV_parts hv
    have h3 : leavesI p.s p.y p.z p.u m.1 m.2 = true := by
      unfold isV at hv
      rw [Bool.and_eq_true] at hv
      exact hv.2
    unfold makeV
    rw [if_pos h1, if_pos h3, apply_good_value (well_check h1) h2]
    exact ⟨_, rfl⟩
  · cases h
theorem make_stop {p : Ps} {m : Int × Int} (h : stepP p m = none) : ∃ k, k ≠ 0 ∧ makeV p.s p.y p.z p.u m.1 m.2 = noneV k := by
  unfold stepP at h
  split at h
  · cases h
  · rename_i hv
    unfold makeV
    by_cases h1 : wellN p.s p.y p.z p.u = 0
    · rw [if_pos h1]
      have h3 : leavesI p.s p.y p.z p.u m.1 m.2 = false := by
        unfold isV at hv
        rw [h1] at hv
        cases e : leavesI p.s p.y p.z p.u m.1 m.2
        · rfl
        · rw [e] at hv
          exact absurd rfl hv
      rw [h3, if_neg (by simp)]
      exact ⟨7, by decide, rfl⟩
    · rw [if_neg h1]
      exact ⟨_, h1, rfl⟩
theorem make_stop7 {p : Ps} {m : Int × Int} (hw : p.well = 0) (h : stepP p m = none) : makeV p.s p.y p.z p.u m.1 m.2 = noneV 7 := by
  unfold stepP at h
  split at h
  · cases h
  · rename_i hv
    unfold makeV
    have h1 : wellN p.s p.y p.z p.u = 0 := hw
    rw [if_pos h1]
    have h3 : leavesI p.s p.y p.z p.u m.1 m.2 = false := by
      unfold isV at hv
      rw [h1] at hv
      cases e : leavesI p.s p.y p.z p.u m.1 m.2
      · rfl
      · rw [e] at hv
        exact absurd rfl hv
    rw [h3, if_neg (by simp)]
theorem step_parts {p q : Ps} {m : Int × Int} (h : stepP p m = some q) : p.well = 0 ∧ q.well = 0 ∧ (isB p.s = true ∧ (p.y = 0 ∨ p.y = 1)) ∧ ∃ a b : Nat, m = ((a : Int), (b : Int)) ∧ a < 90 ∧ b < 90 ∧ canB p.s a b = true ∧ sideN (bAt p.s a) = p.y ∧ kindN (bAt p.s b) ≠ 75 ∧ q = ⟨behindS p.s (a, b), 1 - p.y, clockA p.s p.z b, fullA p.y p.u⟩ := by
  unfold stepP at h
  split at h
  · rename_i hv
    injection h with h
    subst h
    obtain ⟨h1, ⟨h2, h3⟩, h4⟩ := isV_parts hv
    obtain ⟨hs, ha, hb, hc⟩ := isM_parts h2
    have hsd : sideN (bAt p.s m.1.toNat) = p.y := by
      unfold isM at h2
      rw [Bool.and_eq_true, beq_iff_eq] at h2
      exact h2.2
    have hy := (check_other (well_zero h1).1).1
    obtain ⟨a, b⟩ := m
    refine ⟨h1, h4, ⟨hs, hy⟩, a.toNat, b.toNat, ?_, by omega, by omega, hc, hsd, h3, rfl⟩
    rw [Int.toNat_of_nonneg ha.1, Int.toNat_of_nonneg hb.1]
  · cases h
theorem step_of {p : Ps} (hw : p.well = 0) {a b : Nat} (ha : a < 90) (hb : b < 90) (hc : canB p.s a b = true) (hsd : sideN (bAt p.s a) = p.y) (hk : kindN (bAt p.s b) ≠ 75) (hs : safeB (behindS p.s (a, b)) p.y = true) : stepP p ((a : Int), (b : Int)) = some ⟨behindS p.s (a, b), 1 - p.y, clockA p.s p.z b, fullA p.y p.u⟩ := by
  have hw' : wellN p.s p.y p.z p.u = 0 := hw
  have hB := parts_board (check_zero (well_zero hw').1).1
  have h1 : isM p.s p.y (a : Int) (b : Int) = true ∧ kindN (bAt p.s (b : Int).toNat) ≠ 75 := by
    refine ⟨?_, by rw [Int.toNat_natCast]; exact hk⟩
    rw [isM_two hB ha hb, hc, hsd]
    simp
  have h2 := (well_behind (well_zero hw').1 ha hb hc hk).2 hs
  have h3 : isV p.s p.y p.z p.u (a : Int) (b : Int) = true := by
    unfold isV
    rw [hw', leaves_good h1, Int.toNat_natCast, Int.toNat_natCast, show movedS p.s a b (bAt p.s a) = behindS p.s (a, b) from rfl, h2]
    rfl
  unfold stepP
  rw [if_pos h3]
  rfl
theorem step_safe {p q : Ps} {a b : Nat} (h : stepP p ((a : Int), (b : Int)) = some q) : safeB (behindS p.s (a, b)) p.y = true := by
  obtain ⟨h1, h2, _, a', b', e, ha, hb, hc, _, hk, rfl⟩ := step_parts h
  simp only [Prod.mk.injEq, Int.natCast_inj] at e
  obtain ⟨rfl, rfl⟩ := e
  exact (well_behind (well_zero h1).1 ha hb hc hk).1 h2

/-- A game: positions, and the moves between them. -/
structure Chain (p : Ps) (ls : List Ps) (ms : List (Int × Int)) : Prop where
  len : ls.length = ms.length + 1
  first : ls[0]? = some p
  step : ∀ j, j < ms.length → ∃ a b m, ls[j]? = some a ∧ ms[j]? = some m ∧ ls[j + 1]? = some b ∧ stepP a m = some b
theorem chain_start (p : Ps) : Chain p [p] [] := ⟨rfl, rfl, fun j hj => absurd hj (by simp)⟩
theorem Chain.snoc {p c q : Ps} {ls : List Ps} {ms : List (Int × Int)} {m : Int × Int} (h : Chain p ls ms) (hc : ls[ms.length]? = some c) (hs : stepP c m = some q) : Chain p (ls ++ [q]) (ms ++ [m]) where
  len := by rw [List.length_append, List.length_append, h.len]; rfl
  first := by rw [List.getElem?_append_left (by rw [h.len]; omega)]; exact h.first
  step := fun j hj => by
    rw [List.length_append] at hj
    have hj : j < ms.length + 1 := hj
    by_cases e : j < ms.length
    · obtain ⟨a, b, x, h1, h2, h3, h4⟩ := h.step j e
      exact ⟨a, b, x, by rw [List.getElem?_append_left (by rw [h.len]; omega)]; exact h1, by rw [List.getElem?_append_left e]; exact h2, by rw [List.getElem?_append_left (by rw [h.len]; omega)]; exact h3, h4⟩
    · obtain rfl : j = ms.length := by omega
      refine ⟨c, q, m, ?_, ?_, ?_, hs⟩
      · rw [List.getElem?_append_left (by rw [h.len]; omega)]
        exact hc
      · rw [List.getElem?_append_right (Nat.le_refl _), Nat.sub_self]
        rfl
      · rw [List.getElem?_append_right (by rw [h.len]; omega), h.len, Nat.sub_self]
        rfl
theorem Chain.get {p : Ps} {ls : List Ps} {ms : List (Int × Int)} (h : Chain p ls ms) {j : Nat} (hj : j ≤ ms.length) : ∃ a, ls[j]? = some a := ⟨_, List.getElem?_eq_getElem (by rw [h.len]; omega)⟩
theorem Chain.well {p : Ps} {ls : List Ps} {ms : List (Int × Int)} (h : Chain p ls ms) (h0 : p.well = 0 ∨ 0 < ms.length) {j : Nat} {a : Ps} (ha : ls[j]? = some a) : a.well = 0 := by
  have hj : j < ls.length := by
    rcases Nat.lt_or_ge j ls.length with h | h
    · exact h
    · rw [List.getElem?_eq_none h] at ha
      cases ha
  rw [h.len] at hj
  by_cases e : j < ms.length
  · obtain ⟨x, b, m, h1, _, _, h4⟩ := h.step j e
    rw [ha] at h1
    injection h1 with h1
    subst h1
    exact (step_parts h4).1
  · obtain rfl : j = ms.length := by omega
    rcases Nat.eq_zero_or_pos ms.length with e0 | e0
    · rw [e0, h.first] at ha
      injection ha with ha
      subst ha
      rcases h0 with h0 | h0
      · exact h0
      · omega
    · obtain ⟨x, b, m, h1, _, h3, h4⟩ := h.step (ms.length - 1) (by omega)
      rw [show ms.length - 1 + 1 = ms.length by omega, ha] at h3
      injection h3 with h3
      subst h3
      exact (step_parts h4).2.1
theorem Chain.sq {p : Ps} {ls : List Ps} {ms : List (Int × Int)} (h : Chain p ls ms) : SqM ms := fun x hx => by
  obtain ⟨j, hj, rfl⟩ := List.mem_iff_getElem.1 hx
  obtain ⟨a, b, m, h1, h2, h3, h4⟩ := h.step j hj
  rw [List.getElem?_eq_getElem hj] at h2
  injection h2 with h2
  rw [h2]
  obtain ⟨_, _, _, c, d, rfl, hc, hd, _⟩ := step_parts h4
  show 0 ≤ (c : Int) ∧ (c : Int) < 90 ∧ 0 ≤ (d : Int) ∧ (d : Int) < 90
  omega
/-- A piece that is followed back stood where it is said. -/
theorem Chain.back {p : Ps} {ls : List Ps} {ms : List (Int × Int)} (h : Chain p ls ms) : ∀ (k : Nat) (_ : k ≤ ms.length) (q : Ps) (_ : ls[k]? = some q) (n : Nat) (_ : n < 90) (_ : bAt q.s n ≠ 46), ∃ o : Nat, o < 90 ∧ originI (ms.take k) (n : Int) = (o : Int) ∧ bAt p.s o = bAt q.s n
  | 0, _, q, hq, n, hn, _ => by
    rw [h.first] at hq
    injection hq with hq
    subst hq
    exact ⟨n, hn, by rw [List.take_zero]; rfl, rfl⟩
  | k + 1, hk, q, hq, n, hn, hne => by
    obtain ⟨a, b, m, h1, h2, h3, h4⟩ := h.step k (by omega)
    rw [hq] at h3
    injection h3 with h3
    subst h3
    obtain ⟨_, _, ⟨hB, _⟩, x, y, rfl, hx, hy, hc, _, _, e⟩ := step_parts h4
    have hk' : k < ms.length := by omega
    rw [List.getElem?_eq_getElem hk'] at h2
    injection h2 with h2
    rw [List.take_succ_eq_append_getElem hk', h2, origin_snoc]
    have hat : bAt q.s n = if n = y then bAt a.s x else if n = x then 46 else bAt a.s n := by
      rw [e]
      exact moved_at (isB_size hB) (bAt_lt a.s x) hn
    by_cases e1 : n = y
    · subst e1
      rw [if_pos rfl] at hat ⊢
      rw [hat]
      exact h.back k (by omega) a h1 x hx (by rw [← hat]; exact hne)
    · rw [if_neg e1] at hat
      by_cases e2 : n = x
      · rw [if_pos e2] at hat
        exact absurd hat hne
      · rw [if_neg e2] at hat
        rw [if_neg (show ¬ ((y : Int) = (n : Int)) by omega), hat]
        exact h.back k (by omega) a h1 n hn (by rw [← hat]; exact hne)

/-- A game of those of some moves that may be made. -/
def playS (x : List Ps × List (Int × Int) × Ps) (m : Int × Int) : List Ps × List (Int × Int) × Ps := match stepP x.2.2 m with
  | some q => (x.1 ++ [q], x.2.1 ++ [m], q)
  | none => x
def playF (p : Ps) (l : List (Int × Int)) : List Ps × List (Int × Int) × Ps := l.foldl playS ([p], [], p)
theorem play_succ (p : Ps) (l : List (Int × Int)) {i : Nat} (hi : i < l.length) : playF p (l.take (i + 1)) = playS (playF p (l.take i)) l[i] := by
  unfold playF
  rw [List.take_succ_eq_append_getElem hi, List.foldl_append]
  rfl
theorem play_chain (p : Ps) : ∀ (l : List (Int × Int)) (i : Nat) (_ : i ≤ l.length), Chain p (playF p (l.take i)).1 (playF p (l.take i)).2.1 ∧ (playF p (l.take i)).1[(playF p (l.take i)).2.1.length]? = some (playF p (l.take i)).2.2 ∧ (playF p (l.take i)).2.1.length ≤ i
  | l, 0, _ => by
    rw [List.take_zero]
    exact ⟨chain_start p, rfl, Nat.le_refl _⟩
  | l, i + 1, hi => by
    obtain ⟨h1, h2, h3⟩ := play_chain p l i (by omega)
    rw [play_succ p l (by omega)]
    generalize playF p (l.take i) = x at h1 h2 h3
    obtain ⟨ls, ms, c⟩ := x
    unfold playS
    have h3' : ms.length ≤ i := h3
    cases e : stepP c l[i] with
    | none => exact ⟨h1, h2, Nat.le_succ_of_le h3'⟩
    | some q =>
      refine ⟨h1.snoc h2 e, ?_, ?_⟩
      · show (ls ++ [q])[(ms ++ [l[i]]).length]? = some q
        have hlen : ls.length = ms.length + 1 := h1.len
        rw [List.length_append, List.getElem?_append_right (by rw [hlen]; simp), hlen]
        simp
      · show (ms ++ [l[i]]).length ≤ i + 1
        have h3 : ms.length ≤ i := h3
        rw [List.length_append]
        simp
        omega

/-- A position, and the same one from the other side, whatever its number. -/
structure TurnP (a b : Ps) : Prop where
  wa : a.well = 0
  wb : b.well = 0
  s : b.s = turnB a.s
  y : b.y = 1 - a.y
  z : b.z = a.z
theorem Ps.board {a : Ps} (h : a.well = 0) : isB a.s = true := parts_board (check_zero (well_zero h).1).1
theorem Ps.side {a : Ps} (h : a.well = 0) : a.y = 0 ∨ a.y = 1 := (check_other (well_zero h).1).1
theorem Ps.kings {a : Ps} (h : a.well = 0) : countsB a.s 90 = true ∧ cntN a.s 90 75 = 1 ∧ cntN a.s 90 107 = 1 := by
  obtain ⟨_, hc, _⟩ := check_zero (well_zero h).1
  obtain ⟨_, h1, h2⟩ := counts_parts hc
  exact ⟨hc, h1, h2⟩
theorem well_full {s : ByteArray} {y z u v : Int} (h : wellN s y z u = 0) (h1 : 1 ≤ v) (h2 : v ≤ 9999) : wellN s y z v = 0 := by
  obtain ⟨hck, hf, hi⟩ := well_zero h
  obtain ⟨hp, hc, hpl⟩ := check_zero hck
  have hp2 : partsB s y z v = true := by
    unfold partsB at hp ⊢
    simp only [Bool.and_eq_true, decide_eq_true_eq] at hp ⊢
    exact ⟨⟨hp.1.1, h1⟩, h2⟩
  have hck2 : (checkN s y z v : Int) = 0 := by
    unfold checkN
    rw [hp2, hc, hpl]
    rfl
  unfold wellN
  rw [if_pos hck2, hf, hi]
  rfl
theorem well_nums {s : ByteArray} {y z u : Int} (h : wellN s y z u = 0) : 0 ≤ z ∧ z ≤ 120 ∧ 1 ≤ u ∧ u ≤ 9999 := by
  obtain ⟨hp, _, _⟩ := check_zero (well_zero h).1
  unfold partsB at hp
  simp only [Bool.and_eq_true, decide_eq_true_eq] at hp
  exact ⟨hp.1.1.1.2, hp.1.1.2, hp.1.2, hp.2⟩
theorem turnP_of {a b : Ps} (h : a.well = 0) (hs : b.s = turnB a.s) (hy : b.y = 1 - a.y) (hz : b.z = a.z) (h1 : 1 ≤ b.u) (h2 : b.u ≤ 9999) : TurnP a b := by
  refine ⟨h, ?_, hs, hy, hz⟩
  show wellN b.s b.y b.z b.u = 0
  have h' : wellN a.s a.y a.z a.u = 0 := h
  rw [hs, hy, hz, well_turn (Ps.board h) (Ps.side h)]
  exact well_full h' h1 h2
theorem TurnP.symm {a b : Ps} (h : TurnP a b) : TurnP b a := ⟨h.wb, h.wa, by rw [h.s, turn_turn (Ps.board h.wa)], by rw [h.y]; omega, h.z.symm⟩
theorem turnI_turn (m : Int × Int) : turnI (turnI m) = m := by
  obtain ⟨a, b⟩ := m
  show ((89 - (89 - a), 89 - (89 - b)) : Int × Int) = (a, b)
  rw [show 89 - (89 - a) = a by omega, show 89 - (89 - b) = b by omega]
theorem safe_turnP {s : ByteArray} {y z u : Int} (hw : wellN s y z u = 0) {a b : Nat} (ha : a < 90) (hb : b < 90) (hc : canB s a b = true) (hk : kindN (bAt s b) ≠ 75) (hsd : y = 0 ∨ y = 1) : safeB (behindS (turnB s) (89 - a, 89 - b)) (1 - y) = safeB (behindS s (a, b)) y := by
  obtain ⟨hp, hcn, _⟩ := check_zero (well_zero hw).1
  have hs := parts_board hp
  obtain ⟨f1, f2, f3⟩ := behind_facts hs hcn ha hb (can_self hc) hk
  rw [behind_turn hs ha hb, safe_turn f1 f2 f3 hsd]
theorem step_turn {a b q : Ps} (h : TurnP a b) {m : Int × Int} (hs : stepP a m = some q) : ∃ q', stepP b (turnI m) = some q' ∧ TurnP q q' := by
  obtain ⟨h1, h2, ⟨hB, hy⟩, x, y, rfl, hx, hy9, hc, hsd, hk, rfl⟩ := step_parts hs
  have hsafe := step_safe hs
  have e1 : turnI ((x : Int), (y : Int)) = (((89 - x : Nat) : Int), ((89 - y : Nat) : Int)) := by
    show ((89 - (x : Int), 89 - (y : Int)) : Int × Int) = _
    rw [show (89 : Int) - (x : Int) = ((89 - x : Nat) : Int) by omega, show (89 : Int) - (y : Int) = ((89 - y : Nat) : Int) by omega]
  have hsf := safe_turnP h1 hx hy9 hc hk hy
  have hst := step_of (p := b) h.wb (a := 89 - x) (b := 89 - y) (by omega) (by omega) (by rw [h.s, can_turn hB hx hy9]; exact hc)
    (by rw [h.s, h.y, side_turn hB hx hy]; exact hsd) (by rw [h.s, turn_bAt hB hy9, swap_kind]; exact hk) (by rw [h.s, h.y, hsf]; exact hsafe)
  rw [e1, hst]
  refine ⟨_, rfl, ?_⟩
  have hn := well_nums h.wb
  refine turnP_of h2 ?_ ?_ ?_ ?_ ?_
  · show behindS b.s (89 - x, 89 - y) = turnB (behindS a.s (x, y))
    rw [h.s, behind_turn hB hx hy9]
  · show 1 - b.y = 1 - (1 - a.y)
    rw [h.y]
  · show clockA b.s b.z (89 - y) = clockA a.s a.z y
    unfold clockA
    rw [h.s, h.z, turn_bAt hB hy9]
    have e : (swapN (bAt a.s y) = 46) ↔ (bAt a.s y = 46) := by
      have := swap_empty' (c := bAt a.s y)
      rw [Bool.eq_iff_iff, beq_iff_eq, beq_iff_eq] at this
      exact this
    by_cases h46 : bAt a.s y = 46
    · rw [if_pos h46, if_pos (e.2 h46)]
    · rw [if_neg h46, if_neg fun x => h46 (e.1 x)]
  · show 1 ≤ fullA b.y b.u
    unfold fullA
    split <;> omega
  · show fullA b.y b.u ≤ 9999
    unfold fullA
    split <;> omega
theorem step_turn_none {a b : Ps} (h : TurnP a b) {m : Int × Int} (hs : stepP a m = none) : stepP b (turnI m) = none := by
  cases e : stepP b (turnI m) with
  | none => rfl
  | some q =>
    obtain ⟨q', h1, _⟩ := step_turn h.symm e
    rw [turnI_turn, hs] at h1
    cases h1
end Go.Proofs.YtbdgbihdhbjljaaGreatDoor

namespace Go.Proofs.YtbdgbihdhbjljaaGreatDoor
open Go.RowKit Go.Shelf
open M (S)

/-- Two lists, item by item. -/
structure Pair (R : Ps → Ps → Prop) (l k : List Ps) : Prop where
  len : l.length = k.length
  at_ : ∀ (j : Nat) (a b : Ps), l[j]? = some a → k[j]? = some b → R a b
theorem pair_get {R : Ps → Ps → Prop} {l k : List Ps} (h : Pair R l k) {j : Nat} {a : Ps} (ha : l[j]? = some a) : ∃ b, k[j]? = some b ∧ R a b := by
  have hj : j < l.length := by
    rcases Nat.lt_or_ge j l.length with h | h
    · exact h
    · rw [List.getElem?_eq_none h] at ha
      cases ha
  have hb : k[j]? = some (k[j]'(by rw [← h.len]; exact hj)) := List.getElem?_eq_getElem _
  exact ⟨_, hb, h.at_ j _ _ ha hb⟩
theorem pair_none {R : Ps → Ps → Prop} {l k : List Ps} (h : Pair R l k) {j : Nat} (ha : l[j]? = none) : k[j]? = none := by
  rw [List.getElem?_eq_none_iff] at ha ⊢
  rw [← h.len]
  exact ha
theorem pair_one {R : Ps → Ps → Prop} {a b : Ps} (h : R a b) : Pair R [a] [b] := ⟨rfl, fun j x y hx hy => by
  cases j with
  | zero =>
    simp only [List.length_cons, List.length_nil, Nat.zero_add, Nat.lt_add_one, List.getElem?_eq_getElem, List.getElem_cons_zero, Option.some.injEq] at hx hy
    subst hx hy
    exact h
  | succ j => simp at hx⟩
theorem pair_snoc {R : Ps → Ps → Prop} {l k : List Ps} {a b : Ps} (h : Pair R l k) (hr : R a b) : Pair R (l ++ [a]) (k ++ [b]) := by
  refine ⟨by simp [h.len], fun j x y hx hy => ?_⟩
  rcases Nat.lt_trichotomy j l.length with e | e | e
  · rw [List.getElem?_append_left e] at hx
    rw [List.getElem?_append_left (by rw [← h.len]; exact e)] at hy
    exact h.at_ j x y hx hy
  · subst e
    rw [List.getElem?_append_right (Nat.le_refl _), Nat.sub_self] at hx
    rw [List.getElem?_append_right (by rw [h.len]; exact Nat.le_refl _), h.len, Nat.sub_self] at hy
    simp only [List.length_cons, List.length_nil, Nat.zero_add, Nat.lt_add_one, List.getElem?_eq_getElem, List.getElem_cons_zero, Option.some.injEq] at hx hy
    subst hx hy
    exact hr
  · rw [List.getElem?_eq_none (by simp; omega)] at hx
    cases hx
theorem pair_drop {R : Ps → Ps → Prop} {l k : List Ps} (h : Pair R l k) (i : Nat) : Pair R (l.drop i) (k.drop i) := by
  refine ⟨by rw [List.length_drop, List.length_drop, h.len], fun j x y hx hy => ?_⟩
  rw [List.getElem?_drop] at hx hy
  exact h.at_ _ x y hx hy
theorem pair_map {R : Ps → Ps → Prop} {l : List Ps} (f : Ps → Ps) (h : ∀ (j : Nat) (a : Ps), l[j]? = some a → R a (f a)) : Pair R l (l.map f) := by
  refine ⟨by rw [List.length_map], fun j a b ha hb => ?_⟩
  rw [List.getElem?_map, ha] at hb
  injection hb with hb
  subst hb
  exact h j a ha
theorem sameAt_pair {R : Ps → Ps → Prop} (hR : ∀ a b x y, R a b → R x y → sameB a x = sameB b y) {l k : List Ps} (h : Pair R l k) (i j : Nat) : sameAt l i j = sameAt k i j := by
  unfold sameAt
  cases hi : l[i]? with
  | none => rw [pair_none h hi]
  | some a =>
    obtain ⟨b, hb, h1⟩ := pair_get h hi
    rw [hb]
    cases hj : l[j]? with
    | none => rw [pair_none h hj]
    | some x =>
      obtain ⟨y, hy, h2⟩ := pair_get h hj
      rw [hy]
      exact hR a b x y h1 h2
theorem earlier_pair {R : Ps → Ps → Prop} (hR : ∀ a b x y, R a b → R x y → sameB a x = sameB b y) {l k : List Ps} (h : Pair R l k) : earlierI l = earlierI k := by
  unfold earlierI
  rw [← h.len]
  exact first_same fun i _ => sameAt_pair hR h i _
theorem sameB_iff {a b : Ps} : sameB a b = true ↔ a.s = b.s ∧ a.y = b.y := by
  unfold sameB
  rw [Bool.and_eq_true, beq_iff_eq, beq_iff_eq]
  exact ⟨fun h => ⟨text_inj h.1, h.2⟩, fun h => ⟨by rw [h.1], h.2⟩⟩
theorem same_turn (a b x y : Ps) (h : TurnP a b) (k : TurnP x y) : sameB a x = sameB b y := by
  rw [Bool.eq_iff_iff, sameB_iff, sameB_iff, h.s, k.s, h.y, k.y]
  constructor
  · rintro ⟨h1, h2⟩
    rw [h1, h2]
    exact ⟨rfl, rfl⟩
  · rintro ⟨h1, h2⟩
    have e := congrArg turnB h1
    rw [turn_turn (Ps.board h.wa), turn_turn (Ps.board k.wa)] at e
    exact ⟨e, by omega⟩
/-- Two positions that are the same but for their numbers. -/
structure LikeP (a b : Ps) : Prop where
  wa : a.well = 0
  wb : b.well = 0
  s : b.s = a.s
  y : b.y = a.y
theorem same_like (a b x y : Ps) (h : LikeP a b) (k : LikeP x y) : sameB a x = sameB b y := by
  unfold sameB
  rw [h.s, k.s, h.y, k.y]
theorem ck_of {l : List Ps} {j : Nat} {p : Ps} (h : l[j + 1]? = some p) : ckAt l j = plyC p.s p.y p.z p.u := by
  unfold ckAt
  rw [h]
theorem of_of {l : List Ps} {j : Nat} {p : Ps} (h : l[j]? = some p) (side : Int) : ofAt l side j = (p.y == side) := by
  unfold ofAt
  rw [h]
theorem ori_of {l : List Ps} {m : List (Int × Int)} {j : Nat} {p : Ps} (h : l[j + 1]? = some p) : oriAt l m j = (plyL p.s p.y p.z p.u).map (originI (m.take (j + 1))) := by
  unfold oriAt
  rw [h]
theorem plyC_turn {a b : Ps} (h : TurnP a b) : plyC b.s b.y b.z b.u = plyC a.s a.y a.z a.u := by
  have h1 : wellN a.s a.y a.z a.u = 0 := h.wa
  have h2 : wellN b.s b.y b.z b.u = 0 := h.wb
  unfold plyC
  rw [decide_eq_true h1, decide_eq_true h2, h.s, h.y, in_turn (Ps.board h.wa) (Ps.kings h.wa).2.1 (Ps.kings h.wa).2.2 (Ps.side h.wa)]
theorem plyL_turn {a b : Ps} (h : TurnP a b) : plyL b.s b.y b.z b.u = ((plyL a.s a.y a.z a.u).map fun k => 89 - k).reverse := by
  have h1 : wellN a.s a.y a.z a.u = 0 := h.wa
  have h2 : wellN b.s b.y b.z b.u = 0 := h.wb
  have h3 := in_turn (Ps.board h.wa) (Ps.kings h.wa).2.1 (Ps.kings h.wa).2.2 (Ps.side h.wa)
  have hsd := Ps.side h.wa
  unfold plyL
  by_cases hi : inB a.s a.y = false
  · rw [if_pos ⟨h2, by rw [h.s, h.y, h3]; exact hi⟩, if_pos ⟨h1, hi⟩, chasedL_map, chasedL_map, h.s, h.y, chasedN_turn (Ps.board h.wa) (few_of_well h1) (side := 1 - a.y) (by omega), List.map_reverse, List.map_map, List.map_map]
    congr 1
    refine List.map_congr_left fun k hk => ?_
    have := List.mem_range.1 (List.mem_filter.1 hk).1
    show ((89 - k : Nat) : Int) = 89 - (k : Int)
    omega
  · rw [if_neg fun e => hi (by rw [← h3, ← h.s, ← h.y]; exact e.2), if_neg fun e => hi e.2]
    rfl
theorem plyC_like {a b : Ps} (h : LikeP a b) : plyC b.s b.y b.z b.u = plyC a.s a.y a.z a.u := by
  have h1 : wellN a.s a.y a.z a.u = 0 := h.wa
  have h2 : wellN b.s b.y b.z b.u = 0 := h.wb
  unfold plyC
  rw [decide_eq_true h1, decide_eq_true h2, h.s, h.y]
theorem plyL_like {a b : Ps} (h : LikeP a b) : plyL b.s b.y b.z b.u = plyL a.s a.y a.z a.u := by
  have h1 : wellN a.s a.y a.z a.u = 0 := h.wa
  have h2 : wellN b.s b.y b.z b.u = 0 := h.wb
  unfold plyL
  by_cases hi : inB a.s a.y = false
  · rw [if_pos ⟨h2, by rw [h.s, h.y]; exact hi⟩, if_pos ⟨h1, hi⟩, h.s, h.y]
  · rw [if_neg fun e => hi (by rw [← h.s, ← h.y]; exact e.2), if_neg fun e => hi e.2]
theorem class_turn {l k : List Ps} (h : Pair TurnP l k) (m : List (Int × Int)) (side : Int) : classI l m side = classI k (m.map turnI) (1 - side) := by
  by_cases hl : l.length = m.length + 1
  · have hin : ∀ j, j < m.length → (∃ p, l[j]? = some p) ∧ ∃ p, l[j + 1]? = some p := fun j hj => ⟨⟨_, List.getElem?_eq_getElem (by omega)⟩, ⟨_, List.getElem?_eq_getElem (by omega)⟩⟩
    refine class_same h.len (by rw [List.length_map]) (fun j hj => ?_) (fun j hj => ?_) (fun i => 89 - i) (fun i hi => ⟨by omega, by omega⟩) (fun j i hj hi => ?_)
    · obtain ⟨⟨p, hp⟩, _⟩ := hin j hj
      obtain ⟨q, hq, hr⟩ := pair_get h hp
      rw [of_of hp, of_of hq, hr.y, Bool.eq_iff_iff, beq_iff_eq, beq_iff_eq]
      omega
    · obtain ⟨_, ⟨p, hp⟩⟩ := hin j hj
      obtain ⟨q, hq, hr⟩ := pair_get h hp
      rw [ck_of hp, ck_of hq, plyC_turn hr]
    · obtain ⟨_, ⟨p, hp⟩⟩ := hin j hj
      obtain ⟨q, hq, hr⟩ := pair_get h hp
      rw [ori_of hp, ori_of hq, plyL_turn hr, Bool.eq_iff_iff, List.contains_iff_mem, List.contains_iff_mem, List.mem_map, List.mem_map]
      constructor
      · rintro ⟨c, hc, he⟩
        refine ⟨89 - c, List.mem_reverse.2 (List.mem_map.2 ⟨c, hc, rfl⟩), ?_⟩
        rw [← List.map_take, origin_turn, he]
        omega
      · rintro ⟨c, hc, he⟩
        obtain ⟨d, hd, rfl⟩ := List.mem_map.1 (List.mem_reverse.1 hc)
        refine ⟨d, hd, ?_⟩
        rw [← List.map_take, origin_turn] at he
        omega
  · rw [class_len hl, class_len (by rw [← h.len, List.length_map]; exact hl)]
theorem class_like {l k : List Ps} (h : Pair LikeP l k) (m : List (Int × Int)) (side : Int) : classI l m side = classI k m side := by
  by_cases hl : l.length = m.length + 1
  · have hin : ∀ j, j < m.length → (∃ p, l[j]? = some p) ∧ ∃ p, l[j + 1]? = some p := fun j hj => ⟨⟨_, List.getElem?_eq_getElem (by omega)⟩, ⟨_, List.getElem?_eq_getElem (by omega)⟩⟩
    refine class_same h.len rfl (fun j hj => ?_) (fun j hj => ?_) (fun i => i) (fun i hi => ⟨hi, rfl⟩) (fun j i hj hi => ?_)
    · obtain ⟨⟨p, hp⟩, _⟩ := hin j hj
      obtain ⟨q, hq, hr⟩ := pair_get h hp
      rw [of_of hp, of_of hq, hr.y]
    · obtain ⟨_, ⟨p, hp⟩⟩ := hin j hj
      obtain ⟨q, hq, hr⟩ := pair_get h hp
      rw [ck_of hp, ck_of hq, plyC_like hr]
    · obtain ⟨_, ⟨p, hp⟩⟩ := hin j hj
      obtain ⟨q, hq, hr⟩ := pair_get h hp
      rw [ori_of hp, ori_of hq, plyL_like hr]
  · rw [class_len hl, class_len (by rw [← h.len]; exact hl)]
end Go.Proofs.YtbdgbihdhbjljaaGreatDoor

namespace Go.Proofs.YtbdgbihdhbjljaaGreatDoor
open Go.RowKit Go.Shelf
open M (S)
attribute [local go_sem] Oper.semAt_some

/-- From the last place to the first one. -/
def downL (n : Nat) : List Nat := (List.range n).reverse
theorem downL_len (n : Nat) : (downL n).length = n := by unfold downL; rw [List.length_reverse, List.length_range]
theorem downL_at (n k : Nat) (h : k < n) : (downL n)[k]'(by rw [downL_len]; exact h) = n - 1 - k := by
  unfold downL
  rw [List.getElem_reverse, List.getElem_range, List.length_range]
theorem downL_take (n j : Nat) (h : j + 1 ≤ n) : (downL n).take (n - j) = (downL n).take (n - (j + 1)) ++ [j] := by
  rw [show n - j = n - (j + 1) + 1 by omega, List.take_succ_eq_append_getElem (by rw [downL_len]; omega), downL_at n _ (by omega), show n - 1 - (n - (j + 1)) = j by omega]
/-- A move of a row, by its place. -/
def mzAt (m : List (Int × Int)) (i : Nat) : Int × Int := m.getD i (0, 0)
theorem mzAt_get {m : List (Int × Int)} {i : Nat} (h : i < m.length) : mzAt m i = m[i] := by
  unfold mzAt
  rw [List.getD_eq_getElem?_getD, List.getElem?_eq_getElem h]
  rfl
abbrev encB (m : List (Int × Int)) (i : Nat) : Array Value := #[.int .i64 (i : Int), .agg #[.int .i64 (mzAt m i).1, .int .i64 (mzAt m i).2]]
def orgS (m : List (Int × Int)) (k : Int) (i : Nat) : Int := if (mzAt m i).2 = k then (mzAt m i).1 else k
def orgF (m : List (Int × Int)) (n0 : Int) (pre : List Nat) : Int := pre.foldl (orgS m) n0
theorem orgF_snoc (m : List (Int × Int)) (n0 : Int) (pre : List Nat) (i : Nat) : orgF m n0 (pre ++ [i]) = orgS m (orgF m n0 pre) i := by
  unfold orgF
  rw [List.foldl_append]
  rfl
theorem orgF_down (m : List (Int × Int)) (n0 : Int) : orgF m n0 (downL m.length) = originI m n0 := by
  unfold orgF downL
  rw [List.foldl_reverse]
  unfold originI
  have h : m = (List.range m.length).map (mzAt m) := by
    refine List.ext_getElem (by simp) fun i h1 h2 => ?_
    rw [List.getElem_map, List.getElem_range, mzAt_get h1]
  conv => rhs; rw [h, List.foldr_map]
  rfl
/-- What a place of a row of moves holds. -/
theorem Rd.mz {w : World} {A : Option Addr} {l : List (Int × Int)} (h : Rd w A (mzL l)) {k : Nat} (hk : k < l.length) : ∃ g b, A = some ⟨g, b, none⟩ ∧ w.cell? ⟨g, b + k * 2, none⟩ = some (iv l[k].1) ∧ w.cell? ⟨g, b + k * 2 + 1, none⟩ = some (iv l[k].2) := by
  obtain ⟨h0, h1⟩ := mzL_at l hk
  obtain ⟨⟨g, b, sp⟩, rfl, hc⟩ := h _ _ h0
  obtain ⟨a1, e1, hc1⟩ := h _ _ h1
  cases e1
  have h00 : 0 < l.length := by omega
  obtain ⟨a2, e2, hc2⟩ := h _ _ (mzL_at l h00).1
  cases e2
  have hsp : sp = none := by simpa [Addr.add] using World.cell?_spot hc2
  subst hsp
  have hadd : ∀ j, (Addr.add ⟨g, b, none⟩ j) = ⟨g, b + j, none⟩ := fun j => by
    simp only [Addr.add]
    split <;> simp_all
  rw [hadd] at hc hc1
  exact ⟨g, b, rfl, hc, hc1⟩
/-- What lies where the walk runs. -/
structure BackAt (W : World) (H T B : Nat) (A : Option Addr) (m : List (Int × Int)) (c : Nat) : Prop where
  bg : Blk W H 24 #[.slice A m.length c]
  rd : Rd W A (mzL m)
  at_ : m ≠ [] → ∀ ad, A = some ad → ad.block < T
  hT : T < H
  hB : H < B
theorem BackAt.kept {W W' : World} {H T B : Nat} {A : Option Addr} {m : List (Int × Int)} {c : Nat} (h : BackAt W H T B A m c) (k : KeptT T B W W') : BackAt W' H T B A m c := by
  have h1 := h.hT
  have h2 := h.hB
  refine ⟨(k.low H (by omega) (by omega)).trans h.bg, fun j u hu => ?_, h.at_, h.hT, h.hB⟩
  obtain ⟨ad, e, hc⟩ := h.rd j u hu
  have a1 := h.at_ (fun e0 => by rw [e0] at hu; simp [mzL] at hu) ad e
  refine ⟨ad, e, ?_⟩
  have e2 := k.low ad.block (by omega) (by omega)
  have hb : (ad.add j).block = ad.block := by
    unfold Addr.add
    split <;> rfl
  unfold World.cell? at hc ⊢
  rw [hb] at hc ⊢
  rw [e2]
  exact hc
set_option maxRecDepth 100000 in
set_option maxHeartbeats 4000000 in
theorem back1_in (n : Nat) (hn : 1 ≤ n) (l H T B : Nat) (A : Option Addr) (m : List (Int × Int)) (c : Nat) (J Jx : List Nat → World → Prop) (W : World)
    (hY : ∀ pre x W1, J pre W1 → pre.length < m.length → YieldAt Fence.wide (n - 1) Tryz.prog l (encB m x) W1 fun e W' =>
      (e = .returned (.bool true) ∧ J (pre ++ [x]) W' ∧ KeptT T B W1 W') ∨ (e = .returned (.bool false) ∧ Jx (pre ++ [x]) W'))
    (hM : BackAt W H T B A m c) (hl : m.length ≤ 1000000) (h0 : J [] W) :
    CallsIn Fence.wide n Tryz.prog 224 #[.func (.yield l) #[] #[], .pointer (some ⟨H, 0, none⟩)] W fun e W' => (∃ v, e = .returned v) ∧
      ((∃ ys, ys = downL m.length ∧ J ys W') ∨ (∃ pre, pre <+: downL m.length ∧ Jx pre W')) := by
  obtain ⟨q, hq⟩ : ∃ q, m.length = q := ⟨_, rfl⟩
  have HQ := Lib.hid hq
  have HG := Lib.hid hM
  have c0 := hM.bg.cell 0
  simp only [List.getElem?_toArray, List.getElem?_cons_zero] at c0
  rw [hq] at c0
  have hz : (downL q).take (q - q) = [] := by rw [Nat.sub_self, List.take_zero]
  have h00 : J ((downL q).take (q - q)) W := by rw [hz]; exact h0
  rw [hq] at hl
  clear hM h0 hz hq
  refine callsIn_of_wp Tryz.func224 rfl trivial ?_ rfl
  simp only [Tryz.ntmps224, List.size_toArray, List.length_cons, List.length_nil, Nat.reduceAdd, Nat.reduceSub, Array.replicate_succ, Array.replicate_zero, List.push_toArray, List.append_toArray, List.nil_append, List.cons_append]
  gi_wp2
  gi_loopw [3] (fun i wr => ∃ k : Nat, k ≤ q ∧ i = .int .i64 ((k : Int) - 1) ∧ BackAt wr H T B A m c ∧ J ((downL q).take (q - k)) wr)
    (fun i _ => ((intOf i) + 1).toNat)
  case atStart => exact ⟨q, Nat.le_refl _, by go_num, HG.out, h00⟩
  case round =>
    obtain ⟨k, hk, rfl, hM, hJr⟩ := hrel
    cases k with
    | zero =>
      have hJd : J (downL q) wr := by rw [Nat.sub_zero, List.take_of_length_le (by rw [downL_len]; exact Nat.le_refl _)] at hJr; exact hJr
      gi_wp2
      go_end0
      exact ⟨⟨_, rfl⟩, .inl ⟨_, by rw [HQ.out], hJd⟩⟩
    | succ j =>
      have hjm : j < m.length := by rw [HQ.out]; omega
      obtain ⟨g, b, rfl, d0, d1⟩ := hM.rd.mz hjm
      have c1 := hM.bg.cell 0
      simp only [List.getElem?_toArray, List.getElem?_cons_zero] at c1
      rw [HQ.out] at c1
      obtain ⟨fn, tmps, assign, body, hy, hR⟩ := hY ((downL q).take (q - (j + 1))) j wr hJr (by rw [List.length_take, downL_len, HQ.out]; omega)
      rw [← downL_take q j hk] at hR
      simp only [encB, mzAt_get hjm] at hy
      rw [show ((j + 1 : Nat) : Int) - 1 = (j : Int) by omega]
      have bj : (j : Int) < (q : Int) := by omega
      have HM := Lib.hid hM
      clear hM hY hJr
      gi_wp2
      refine hR.mono ?_
      rintro e W3 (⟨rfl, hJ3, hk3⟩ | ⟨rfl, hJx3⟩)
      · gi_wp2
        go_roundw
        case rel => exact ⟨j, by omega, by go_num, HM.out.kept hk3, hJ3⟩
        case measure => simp [intOf]
      · gi_wp2
        refine bodyPost_ret (results_none rfl _ _ _) rfl ?_
        exact ⟨⟨_, rfl⟩, .inr ⟨_, by rw [HQ.out]; exact List.take_prefix _ _, hJx3⟩⟩
theorem back_any (A : Option Addr) (n c : Nat) (w : World) :
    Calls Tryz.prog 199 #[.slice A n c] w fun e w' => e = .returned (.func (.func 224) #[] #[.pointer (some ⟨w.heap.size, 0, none⟩)]) ∧ w.alloc (.cells #[.slice A n c] 24) = w' := by
  go_enter Tryz.func199, Tryz.ntmps199
  go_wp2
  go_ret
  exact ⟨rfl, rfl⟩
theorem back_stops (n : Nat) (hn : 1 ≤ n) (H T B : Nat) (A : Option Addr) (m : List (Int × Int)) (c : Nat) (w : World) (hM : BackAt w H T B A m c) (hl : m.length ≤ 1000000) (hB : B ≤ w.heap.size) :
    SeqStopsK Fence.wide n Tryz.prog 224 #[.pointer (some ⟨H, 0, none⟩)] (encB m) (KeptT T B) (fun ys => ys = downL m.length) (fun pre => pre <+: downL m.length) m.length w := fun l J Jx W hW _ _ hY h0 =>
  back1_in n hn l H T B A m c J Jx W hY (hM.kept (KeptT.next hB hW)) hl h0
set_option maxRecDepth 100000 in
set_option maxHeartbeats 4000000 in
theorem origin_in1 (A : Option Addr) (m : List (Int × Int)) (c : Nat) (n0 : Int) (w : World) (hr : Rd w A (mzL m)) (hl : m.length ≤ 1000000) :
    CallsIn Fence.wide 5 Tryz.prog 164 #[.slice A m.length c, .int .i64 n0] w fun e W' => e = .returned (.int .i64 (originI m n0)) ∧ Below w.heap.size w W' := by
  have hro : Fence.wide.round = none := rfl
  refine callsIn_of_wp_marks Tryz.func164 rfl trivial ?_ hro
  simp only [Tryz.ntmps164, List.size_toArray, List.length_cons, List.length_nil, Nat.reduceAdd, Nat.reduceSub, Array.replicate_succ, Array.replicate_zero, List.push_toArray, List.append_toArray, List.nil_append, List.cons_append]
  gi_wp2_with (refine ⟨trivial, ?_⟩; gi_at_call 199; refine (callsIn_wide.2 (back_any A _ c _)).mono ?_; rintro e w1 ⟨rfl, rfl⟩)
  obtain ⟨W0, hW0⟩ : ∃ W0, (w.alloc (.cells #[.int .i64 n0] 3)).alloc (.cells #[.slice A m.length c] 24) = W0 := ⟨_, rfl⟩
  have hB0 : Below w.heap.size w W0 := by rw [← hW0]; exact (by repeat (first | exact Below.refl _ _ | (refine Below.setCell ?_ (by first | omega | (simp; done) | (simp; omega) | (simp at *; omega)) _) | (refine Below.alloc ?_ (by first | omega | (simp; done) | (simp; omega) | (simp at *; omega)) _) | refine Below.drew ?_ | (refine below_drewN ?_ _) | (refine Below.trans ?_ (Below.mono (by assumption) (by first | omega | (simp; done) | (simp; omega) | (simp at *; omega))))))
  have hsz0 : W0.heap.size = w.heap.size + 2 := by rw [← hW0]; simp
  have bT : Blk W0 w.heap.size 3 #[.int .i64 n0] := by rw [← hW0]; exact (Blk.new _ _ _ rfl).alloc _
  have bg : Blk W0 (w.heap.size + 1) 24 #[.slice A m.length c] := by rw [← hW0]; exact Blk.new _ _ _ (by simp)
  have hM : BackAt W0 (w.heap.size + 1) w.heap.size W0.heap.size A m c := by
    refine ⟨bg, hr.next hB0, fun hne ad e => ?_, by omega, by omega⟩
    obtain ⟨x, r, rfl⟩ := List.exists_cons_of_ne_nil hne
    obtain ⟨g, b, e2, d0, _⟩ := hr.mz (k := 0) (by simp)
    rw [e] at e2
    injection e2 with e2
    rw [e2]
    exact cell_lt d0
  rw [hW0]
  refine wpIn_rangeFunc_ownH hro (by decide) (gf := 224) (lb := #[.pointer (some ⟨w.heap.size + 1, 0, none⟩)]) rfl trivial (enters_of Tryz.func224 (by kernel_rfl) rfl)
    (back_stops 4 (by decide) (w.heap.size + 1) w.heap.size W0.heap.size A m c W0 hM hl (Nat.le_refl _)) KeptT.trans KeptT.put (Below.refl _ _) (fun _ => rfl)
    (fun pre W => Blk W w.heap.size 3 #[.int .i64 (orgF m n0 pre)] ∧ (Below w.heap.size w W ∧ W0.heap.size ≤ W.heap.size))
    (fun _ _ _ => False)
    (OwnFrom.and (Own.from (blk_own w.heap.size 3 (fun pre => #[.int .i64 (orgF m n0 pre)])) _) (OwnFrom.and (ownFrom_below (Nat.le_refl _) (by omega)) (fun _ _ _ _ hs hgr _ => Nat.le_trans hs hgr.size)))
    (fun _ _ _ _ _ hs _ _ => hs)
    ⟨bT, hB0, Nat.le_refl _⟩
    (fun x a' W => ∃ g, Blk W g 48 #[.int .i64 (mzAt m x).1, .int .i64 (mzAt m x).2] ∧ w.heap.size ≠ g ∧ a' = { tmps := #[.slice A m.length c, .int .i64 n0, undef, .pointer (some ⟨w.heap.size, 0, none⟩), .int .i64 0, undef, .pointer (some ⟨g, 0, none⟩), .slice A m.length c, .func (.func 224) #[] #[.pointer (some ⟨w.heap.size + 1, 0, none⟩)], .int .i64 (x : Int), .agg #[.int .i64 (mzAt m x).1, .int .i64 (mzAt m x).2], undef, undef, undef, undef, undef, undef, undef], defers := [] })
    (fun x a' _ W W' row ⟨g, hb, hne, e⟩ hgr hr => ⟨g, (hgr.block g hb.lt fun e' => by
      obtain ⟨_, o, ho, hc⟩ := hr g e'.symm
      rw [show W.heap[g]? = _ from hb] at ho
      cases ho
      cases hc).trans hb, hne, e⟩) ?assign ?body ?done ?stop
  case assign =>
    rintro l' pre x W K ⟨hv, hB, hBW⟩ hK
    have hbm := below_new W (.cells #[.int .i64 (mzAt m x).1, .int .i64 (mzAt m x).2] 48)
    have hne := Lib.hid (show w.heap.size ≠ W.heap.size by omega)
    gi_wp2
    exact hK _ _ ((KeepsOthers.alloc _ _).from _) (KeptT.next hBW hbm) ⟨hv.alloc _, hB.trans (hbm.mono hB.size), Nat.le_trans hBW hbm.size⟩ ⟨W.heap.size, Blk.new _ _ _ rfl, hne.out, rfl⟩
  case body =>
    rintro l' pre x a' W hl' hr' ⟨hv, hB, hBW⟩ ⟨g, bM, hne, rfl⟩ hlt
    have hc := hv.cell 0
    have hf := hv.frozen 0
    have e0 : W.cell? ⟨g, 0, none⟩ = some (.int .i64 (mzAt m x).1) := bM.cell 0
    have e1 : W.cell? ⟨g, 1, none⟩ = some (.int .i64 (mzAt m x).2) := bM.cell 1
    simp only [List.getElem?_toArray, List.getElem?_cons_zero] at hc
    obtain ⟨k, hk⟩ : ∃ k, orgF m n0 pre = k := ⟨_, rfl⟩
    have hs := orgF_snoc m n0 pre x
    unfold orgS at hs
    rw [hk] at hs hc
    obtain ⟨⟨a, b⟩, hab⟩ : ∃ y, mzAt m x = y := ⟨_, rfl⟩
    rw [hab] at e0 e1 hs ⊢
    have hs : orgF m n0 (pre ++ [x]) = if b = k then a else k := hs
    have hTW := Lib.hid (show w.heap.size < W0.heap.size by omega)
    have HBW := Lib.hid hBW
    have HSZ := Lib.hid hsz0
    clear hne hsz0 hBW
    by_cases hbk : b = k
    · have hbk2 : (b == k) = true := by rw [hbk]; simp
      rw [if_pos hbk] at hs
      have HS := Lib.hid hs
      clear hs hbk hab hk hM bT bg bM hr'
      gi_wp2
      exact ⟨(KeepsOthers.setCell _ _ _).from _, KeptT.set hTW.out _ _, by rw [HS.out]; exact hv.set_ 0 (.int .i64 a), hB.setCell (p := ⟨w.heap.size, 0, none⟩) (Nat.le_refl _) _, by have := HBW.out; simp; omega⟩
    · have hbk2 : (b == k) = false := by rw [beq_eq_false_iff_ne]; exact hbk
      rw [if_neg hbk, ← hk] at hs
      have HS := Lib.hid hs
      clear hs hbk hab hk hM bT bg bM hr'
      gi_wp2
      exact ⟨KeepsFrom.refl _ _, KeptT.refl _ _ _, by rw [HS.out]; exact hv, hB, HBW.out⟩
  case done =>
    rintro D ys W hD rfl ⟨hv, hB, hBW⟩ hK
    have hc := hv.cell 0
    simp only [List.getElem?_toArray, List.getElem?_cons_zero] at hc
    rw [orgF_down] at hc
    gi_wp2
    refine ⟨by simp, .inl ⟨_, _, rfl, run_takeDeferred hK, ?_⟩⟩
    exact ⟨_, results_tmp rfl _ _ _, rfl, hB.trans (belowK_b (w := w) (Nat.le_refl _) W D _ _ (by omega) hK rfl rfl)⟩
  case stop =>
    rintro D c' pre W _ _ h _
    exact h.elim
theorem origin_any (A : Option Addr) (m : List (Int × Int)) (n c : Nat) (n0 : Int) (w : World) (hr : Rd w A (mzL m)) (hn : m.length = n) (hl : n ≤ 1000000) :
    Calls Tryz.prog 164 #[.slice A n c, .int .i64 n0] w (Gives w (.int .i64 (originI m n0))) := by
  subst hn
  exact callsIn_wide.1 (origin_in1 A m c n0 w hr hl)
end Go.Proofs.YtbdgbihdhbjljaaGreatDoor

namespace Go.Proofs.YtbdgbihdhbjljaaGreatDoor
open Go.RowKit Go.Shelf
open M (S)

abbrev Ps.val (p : Ps) : Value := .agg #[.string p.s, .int .i64 p.y, .int .i64 p.z, .int .i64 p.u]
/-- What a place of a row of positions holds. -/
theorem Rd.ps {w : World} {A : Option Addr} {l : List Ps} (h : Rd w A (psL l)) {k : Nat} (hk : k < l.length) : ∃ g b, A = some ⟨g, b, none⟩ ∧ w.cell? ⟨g, b + k * 4, none⟩ = some (.string l[k].s) ∧ w.cell? ⟨g, b + k * 4 + 1, none⟩ = some (.int .i64 l[k].y) ∧ w.cell? ⟨g, b + k * 4 + 2, none⟩ = some (.int .i64 l[k].z) ∧ w.cell? ⟨g, b + k * 4 + 3, none⟩ = some (.int .i64 l[k].u) := by
  have e0 : (psL l)[k * 4 + 0]? = some (.string l[k].s) := psL_at l hk (by decide)
  have e1 : (psL l)[k * 4 + 1]? = some (.int .i64 l[k].y) := psL_at l hk (by decide)
  have e2 : (psL l)[k * 4 + 2]? = some (.int .i64 l[k].z) := psL_at l hk (by decide)
  have e3 : (psL l)[k * 4 + 3]? = some (.int .i64 l[k].u) := psL_at l hk (by decide)
  have e9 : (psL l)[0 * 4 + 0]? = some (.string (l[0]'(by omega)).s) := psL_at l (by omega) (by decide)
  obtain ⟨⟨g, b, sp⟩, rfl, hc0⟩ := h _ _ e0
  obtain ⟨a1, x1, hc1⟩ := h _ _ e1
  cases x1
  obtain ⟨a2, x2, hc2⟩ := h _ _ e2
  cases x2
  obtain ⟨a3, x3, hc3⟩ := h _ _ e3
  cases x3
  obtain ⟨a9, x9, hc9⟩ := h _ _ e9
  cases x9
  have hsp : sp = none := by simpa [Addr.add] using World.cell?_spot hc9
  subst hsp
  have hadd : ∀ j, (Addr.add ⟨g, b, none⟩ j) = ⟨g, b + j, none⟩ := fun j => by
    simp only [Addr.add]
    split <;> simp_all
  rw [hadd] at hc0 hc1 hc2 hc3
  exact ⟨g, b, rfl, hc0, hc1, hc2, hc3⟩
theorem two_start (w : World) (a b : Array Value) (t : TypeId) {W0 : World} (hW0 : (w.alloc (.cells a t)).alloc (.cells b t) = W0) : Below w.heap.size w W0 ∧ Blk W0 w.heap.size t a ∧ Blk W0 (w.heap.size + 1) t b := by
  refine ⟨by rw [← hW0]; exact (by repeat (first | exact Below.refl _ _ | (refine Below.setCell ?_ (by first | omega | (simp; done) | (simp; omega) | (simp at *; omega)) _) | (refine Below.alloc ?_ (by first | omega | (simp; done) | (simp; omega) | (simp at *; omega)) _) | refine Below.drew ?_ | (refine below_drewN ?_ _) | (refine Below.trans ?_ (Below.mono (by assumption) (by first | omega | (simp; done) | (simp; omega) | (simp at *; omega)))))), ?_, ?_⟩
  · rw [← hW0]; exact (Blk.new _ _ _ rfl).alloc _
  · rw [← hW0]; exact Blk.new _ _ _ (by simp)
theorem four_cells {W : World} {g : Nat} {t : TypeId} {a b c d : Value} (h : Blk W g t #[a, b, c, d]) : W.cell? ⟨g, 0, none⟩ = some a ∧ W.cell? ⟨g, 1, none⟩ = some b ∧ W.cell? ⟨g, 2, none⟩ = some c ∧ W.cell? ⟨g, 3, none⟩ = some d := ⟨h.cell 0, h.cell 1, h.cell 2, h.cell 3⟩
abbrev Eight (w W : World) (g i j : Nat) (s1 : ByteArray) (y1 z1 u1 : Int) (s2 : ByteArray) (y2 z2 u2 : Int) : Prop := W.cell? ⟨g, i, none⟩ = some (.string s1) ∧ W.cell? ⟨g, i + 1, none⟩ = some (.int .i64 y1) ∧ W.cell? ⟨g, i + 2, none⟩ = some (.int .i64 z1) ∧ W.cell? ⟨g, i + 3, none⟩ = some (.int .i64 u1) ∧ W.cell? ⟨g, j, none⟩ = some (.string s2) ∧ W.cell? ⟨g, j + 1, none⟩ = some (.int .i64 y2) ∧ W.cell? ⟨g, j + 2, none⟩ = some (.int .i64 z2) ∧ W.cell? ⟨g, j + 3, none⟩ = some (.int .i64 u2) ∧ Below w.heap.size w W
theorem eight_keep {w W W' : World} {g i j : Nat} {s1 : ByteArray} {y1 z1 u1 : Int} {s2 : ByteArray} {y2 z2 u2 : Int} (h : Eight w W g i j s1 y1 z1 u1 s2 y2 z2 u2) (hb : Below W.heap.size W W') : Eight w W' g i j s1 y1 z1 u1 s2 y2 z2 u2 := by
  obtain ⟨h0, h1, h2, h3, h4, h5, h6, h7, h8⟩ := h
  exact ⟨(hb.cell (p := ⟨g, i, none⟩) (cell_lt h0)).trans h0, (hb.cell (p := ⟨g, i + 1, none⟩) (cell_lt h1)).trans h1, (hb.cell (p := ⟨g, i + 2, none⟩) (cell_lt h2)).trans h2, (hb.cell (p := ⟨g, i + 3, none⟩) (cell_lt h3)).trans h3, (hb.cell (p := ⟨g, j, none⟩) (cell_lt h4)).trans h4, (hb.cell (p := ⟨g, j + 1, none⟩) (cell_lt h5)).trans h5, (hb.cell (p := ⟨g, j + 2, none⟩) (cell_lt h6)).trans h6, (hb.cell (p := ⟨g, j + 3, none⟩) (cell_lt h7)).trans h7, h8.trans (hb.mono h8.size)⟩
theorem eight_below {w W : World} {g i j : Nat} {s1 : ByteArray} {y1 z1 u1 : Int} {s2 : ByteArray} {y2 z2 u2 : Int} (h : Eight w W g i j s1 y1 z1 u1 s2 y2 z2 u2) : Below w.heap.size w W := h.2.2.2.2.2.2.2.2
set_option maxRecDepth 100000 in
set_option maxHeartbeats 2000000 in
theorem csame_two (s s2 : ByteArray) (y z u y2 z2 u2 : Int) (w : World) (v : Bool) (hv : ((s.toList == s2.toList) && (y == y2)) = v) : Calls Tryz.prog 117 #[.agg #[.string s, .int .i64 y, .int .i64 z, .int .i64 u], .agg #[.string s2, .int .i64 y2, .int .i64 z2, .int .i64 u2]] w (Gives w (.bool v)) := by
  unfold Gives
  obtain ⟨W0, hW0⟩ : ∃ W0, (w.alloc (.cells #[.string s, .int .i64 y, .int .i64 z, .int .i64 u] 23)).alloc (.cells #[.string s2, .int .i64 y2, .int .i64 z2, .int .i64 u2] 23) = W0 := ⟨_, rfl⟩
  obtain ⟨hB, b1, b2⟩ := two_start w _ _ _ hW0
  obtain ⟨p0, p1, p2, p3⟩ := four_cells b1
  obtain ⟨q0, q1, q2, q3⟩ := four_cells b2
  obtain ⟨e, he⟩ : ∃ e, (s.toList == s2.toList) = e := ⟨_, rfl⟩
  obtain ⟨f, hf⟩ : ∃ f, (y == y2) = f := ⟨_, rfl⟩
  rw [he, hf] at hv
  have HV := Lib.hid hv
  have HW := Lib.hid hW0
  clear hW0 hv
  cases e
  · go_enter Tryz.func117, Tryz.ntmps117
    go_wp2
    go_ret
    rw [HW.out]
    exact ⟨by rw [← HV.out]; rfl, hB⟩
  · go_enter Tryz.func117, Tryz.ntmps117
    go_wp2
    go_ret
    rw [HW.out]
    exact ⟨by rw [← HV.out]; rfl, hB⟩
theorem csame_any (p q : Ps) (w : World) : Calls Tryz.prog 117 #[p.val, q.val] w (Gives w (.bool (sameB p q))) := csame_two p.s q.s p.y p.z p.u q.y q.z q.u w _ rfl
set_option maxRecDepth 100000 in
set_option maxHeartbeats 2000000 in
theorem cearlier_some (g b : Nat) (l : List Ps) (n m c : Nat) (w : World) (hr : Rd w (some ⟨g, b, none⟩) (psL l)) (hn : l.length = n) (hm : n = m + 1) (hl : n ≤ 1000000) :
    Calls Tryz.prog 75 #[.slice (some ⟨g, b, none⟩) n c] w (Gives w (.int .i64 (earlierI l))) := by
  unfold Gives
  have HN := Lib.hid hn
  have HM := Lib.hid hm
  have bm : (m : Int) < (n : Int) := by omega
  have hm1 : (n : Int) - 1 = (m : Int) := by omega
  have hmw : IntKind.i64.wrap (m : Int) = (m : Int) := by rw [IntKind.wrap_i64]; omega
  obtain ⟨_, _, e, q0, q1, q2, q3⟩ := hr.ps (k := m) (by omega)
  cases e
  have hml : m < l.length := by omega
  obtain ⟨pm, hpm⟩ : ∃ p, l[m]'hml = p := ⟨_, rfl⟩
  rw [hpm] at q0 q1 q2 q3
  have HPM : Hid (l[m]? = some pm) := by show _ = _; rw [← hpm]; exact List.getElem?_eq_getElem _
  clear hn hm hml hpm
  go_enter Tryz.func75, Tryz.ntmps75
  go_wp2_with fail
  go_loopw [4, 9] (fun _ i wr => ∃ k : Nat, k ≤ m ∧ i = .int .i64 (k : Int) ∧ (∀ j, j < k → sameAt l j (l.length - 1) = false) ∧ Below w.heap.size w wr) (fun _ i _ => m - (intOf i).toNat)
  case atStart => exact ⟨0, Nat.zero_le _, rfl, fun j hj => absurd hj (by omega), Below.refl _ _⟩
  case round =>
    obtain ⟨k, hk, rfl, hno, hB⟩ := hrel
    by_cases hlt : k < m
    · have bk : (k : Int) < (m : Int) := by omega
      have bkn : (k : Int) < (n : Int) := by omega
      have hkl : k < l.length := by rw [HN.out, HM.out]; omega
      obtain ⟨_, _, e, p0, p1, p2, p3⟩ := hr.ps hkl
      cases e
      obtain ⟨pk, hpk⟩ : ∃ p, l[k]'hkl = p := ⟨_, rfl⟩
      rw [hpk] at p0 p1 p2 p3
      have c0 := (hB.cell (p := ⟨g, b + k * 4, none⟩) (cell_lt p0)).trans p0
      have c1 := (hB.cell (p := ⟨g, b + k * 4 + 1, none⟩) (cell_lt p1)).trans p1
      have c2 := (hB.cell (p := ⟨g, b + k * 4 + 2, none⟩) (cell_lt p2)).trans p2
      have c3 := (hB.cell (p := ⟨g, b + k * 4 + 3, none⟩) (cell_lt p3)).trans p3
      have d0 := (hB.cell (p := ⟨g, b + m * 4, none⟩) (cell_lt q0)).trans q0
      have d1 := (hB.cell (p := ⟨g, b + m * 4 + 1, none⟩) (cell_lt q1)).trans q1
      have d2 := (hB.cell (p := ⟨g, b + m * 4 + 2, none⟩) (cell_lt q2)).trans q2
      have d3 := (hB.cell (p := ⟨g, b + m * 4 + 3, none⟩) (cell_lt q3)).trans q3
      obtain ⟨v, hv⟩ : ∃ v, sameB pk pm = v := ⟨_, rfl⟩
      have hsv : sameAt l k (l.length - 1) = v := by
        unfold sameAt
        rw [List.getElem?_eq_getElem hkl, hpk, show l.length - 1 = m by rw [HN.out, HM.out]; omega, HPM.out]
        exact hv
      have HV := Lib.hid hv
      have HSV := Lib.hid hsv
      have HNO := Lib.hid hno
      clear hv hsv hpk p0 p1 p2 p3 hkl hno
      obtain ⟨s1, y1, z1, u1⟩ := pk
      obtain ⟨s2, y2, z2, u2⟩ := pm
      have hS : Eight w wr.drew g (b + k * 4) (b + m * 4) s1 y1 z1 u1 s2 y2 z2 u2 := eight_keep ⟨c0, c1, c2, c3, d0, d1, d2, d3, hB⟩ (Below.refl _ _).drew
      clear c0 c1 c2 c3 d0 d1 d2 d3 q0 q1 q2 q3
      go_wp2_with fail
      go_region_held3 (fun W => W.cell? ⟨g, b + k * 4, none⟩ = some (.string s1) ∧ W.cell? ⟨g, b + k * 4 + 1, none⟩ = some (.int .i64 y1) ∧ W.cell? ⟨g, b + k * 4 + 2, none⟩ = some (.int .i64 z1) ∧ W.cell? ⟨g, b + k * 4 + 3, none⟩ = some (.int .i64 u1) ∧ W.cell? ⟨g, b + m * 4, none⟩ = some (.string s2) ∧ W.cell? ⟨g, b + m * 4 + 1, none⟩ = some (.int .i64 y2) ∧ W.cell? ⟨g, b + m * 4 + 2, none⟩ = some (.int .i64 z2) ∧ W.cell? ⟨g, b + m * 4 + 3, none⟩ = some (.int .i64 u2) ∧ Below w.heap.size w W)
        (first | exact hS | exact eight_keep (by assumption) hb)
        (first | (go_at_call 117; refine (csame_two s1 s2 y1 z1 u1 y2 z2 u2 _ v HV.out).mono ?_; rintro e w3 ⟨rfl, hb⟩))
      all_goals
        have hBb := eight_below (by assumption)
        cases v
        · go_wp2
          go_roundw
          case rel => exact ⟨k + 1, by omega, by go_num, fun j hj => by
            rcases Nat.lt_succ_iff_lt_or_eq.1 hj with h | h
            · exact HNO.out j h
            · rw [h]; exact HSV.out, hBb⟩
          case measure => simp [intOf]; omega
        · go_wp2
          go_ret
          refine ⟨?_, hBb⟩
          rw [show earlierI l = (k : Int) from first_hit (by rw [HN.out, HM.out]; omega) HSV.out fun j hj => HNO.out j hj]
          rfl
    · obtain rfl : k = m := by omega
      have bk : ¬ (k : Int) < (k : Int) := by omega
      have HNO := Lib.hid hno
      clear hno hlt hk
      go_wp2
      go_ret
      refine ⟨?_, hB⟩
      rw [show earlierI l = -1 from first_none fun j hj => HNO.out j (by rw [HN.out, HM.out] at hj; omega)]
      rfl
set_option maxRecDepth 100000 in
theorem cearlier_none (A : Option Addr) (c : Nat) (w : World) : Calls Tryz.prog 75 #[.slice A 0 c] w (Gives w (.int .i64 (-1))) := by
  unfold Gives
  go_enter Tryz.func75, Tryz.ntmps75
  go_wp2_with fail
  go_loopw [4, 9] (fun _ i wr => i = .int .i64 0 ∧ w = wr) (fun _ _ _ => 0)
  case atStart => exact ⟨rfl, rfl⟩
  case round =>
    obtain ⟨rfl, rfl⟩ := hrel
    go_wp2
    go_ret
    exact ⟨rfl, Below.refl _ _⟩
theorem cearlier_any (A : Option Addr) (l : List Ps) (n c : Nat) (w : World) (hr : Rd w A (psL l)) (hn : l.length = n) (hl : n ≤ 1000000) :
    Calls Tryz.prog 75 #[.slice A n c] w (Gives w (.int .i64 (earlierI l))) := by
  cases n with
  | zero =>
    rw [List.eq_nil_of_length_eq_zero hn]
    exact cearlier_none A c w
  | succ m =>
    obtain ⟨g, b, rfl, _⟩ := hr.ps (k := 0) (by omega)
    exact cearlier_some g b l (m + 1) m c w hr hn rfl hl
end Go.Proofs.YtbdgbihdhbjljaaGreatDoor

namespace Go.Proofs.YtbdgbihdhbjljaaGreatDoor
open Go.RowKit Go.Shelf
open M (S)

theorem Rd.int {w : World} {A : Option Addr} {l : List Int} (h : Rd w A (l.map iv)) {k : Nat} (hk : k < l.length) : ∃ g b, A = some ⟨g, b, none⟩ ∧ w.cell? ⟨g, b + k, none⟩ = some (iv l[k]) := by
  obtain ⟨⟨g, b, sp⟩, rfl, hc⟩ := h k (iv l[k]) (by simp [hk])
  have h00 : 0 < l.length := by omega
  obtain ⟨a0, e0, hc0⟩ := h 0 (iv l[0]) (by simp [h00])
  cases e0
  have hsp : sp = none := by simpa [Addr.add] using World.cell?_spot hc0
  subst hsp
  have hadd : (Addr.add ⟨g, b, none⟩ k) = ⟨g, b + k, none⟩ := by
    simp only [Addr.add]
    split <;> simp_all
  rw [hadd] at hc
  exact ⟨g, b, rfl, hc⟩
theorem own_next2 {w w1 : World} {base : Nat} {e : TypeId} {size : Nat} {v : Value} {n : Nat} {xs : List Value} (h : w.ownsRow base e size v n xs) (hb : Below w.heap.size w w1) : w1.ownsRow base e size v n xs := by
  refine ⟨h.1, ?_⟩
  rcases h.2 with h2 | ⟨g, cap, cur, hv, hg, hc, hr⟩
  · exact .inl h2
  · exact .inr ⟨g, cap, cur, hv, hg, (hb.block g (Array.getElem?_eq_some_iff.1 hc).1).trans hc, hr⟩
/-- Where some squares' pieces came from, as they lie. -/
def orV (m : List (Int × Int)) (l : List Int) : List Value := (l.map (originI m)).map iv
set_option maxRecDepth 100000 in
set_option maxHeartbeats 4000000 in
theorem origins_own (A C : Option Addr) (m : List (Int × Int)) (l : List Int) (n a c d : Nat) (w : World) (hm : Rd w A (mzL m)) (hn : m.length = n) (hl : n ≤ 1000000) (hr : Rd w C (l.map iv)) (ha : l.length = a) (ha9 : a ≤ 1000000) :
    Calls Tryz.prog 120 #[.slice A n c, .slice C a d] w fun e w' => ∃ v, e = .returned v ∧ w'.ownsRow w.heap.size 3 1 v a (orV m l) ∧ Below w.heap.size w w' := by
  obtain ⟨i0, hi, hz0, hz1, hz2⟩ := info_parts info_int
  have HN := Lib.hid hn
  have HA := Lib.hid ha
  have HM := Lib.hid hm
  clear hn ha hm
  go_enter Tryz.func120, Tryz.ntmps120
  go_wp2_with fail
  go_loopw [5, 7, 10] (fun v _ i wr => ∃ k : Nat, k ≤ a ∧ i = .int .i64 (k : Int) ∧ wr.ownsRow w.heap.size 3 1 v k (orV m (l.take k)) ∧ Below w.heap.size w wr) (fun _ _ i _ => a - (intOf i).toNat)
  case atStart => exact ⟨0, Nat.zero_le _, rfl, by simpa [orV] using World.ownsRow_nil w w.heap.size 3 1, Below.refl _ _⟩
  case round =>
    obtain ⟨k, hk, rfl, hown, hB⟩ := hrel
    by_cases hlt : k < a
    · have hkl : k < l.length := by rw [HA.out]; exact hlt
      have bk : (k : Int) < (a : Int) := by omega
      obtain ⟨g, b, rfl, d0⟩ := hr.int hkl
      have hst : orV m (l.take (k + 1)) = orV m (l.take k) ++ [iv (originI m (l[k]'hkl))] := by
        unfold orV
        rw [List.take_succ_eq_append_getElem hkl, List.map_append, List.map_append]
        rfl
      obtain ⟨x, hx⟩ : ∃ x, l[k]'hkl = x := ⟨_, rfl⟩
      rw [hx] at d0 hst
      have c0 := (hB.cell (p := ⟨g, b + k, none⟩) (cell_lt d0)).trans d0
      have hmr : Rd wr A (mzL m) := (HM.out.next hB)
      obtain ⟨y, hy⟩ : ∃ y, originI m x = y := ⟨_, rfl⟩
      rw [hy] at hst
      have HST := Lib.hid hst
      have HY := Lib.hid hy
      have HMR := Lib.hid hmr
      have HOW := Lib.hid hown
      have hbs := Lib.hid hB.size
      clear hst hx hy hkl d0 hmr hown
      go_wp2_with fail
      refine (origin_any A m n c x _ HMR.out HN.out hl).mono ?_
      rintro e w3 ⟨rfl, hb⟩
      rw [HY.out]
      have hown := own_next2 HOW.out hb
      have hB3 := hB.trans (hb.mono hbs.out)
      have hs3 := hB3.size
      clear hb hbs hB
      go_wp2_with (at_builtin; refine wpList_append_own _ rfl _ _ 106 rfl w.heap.size 3 i0 (.int .i64 0) 1 8 Tryz.underlying106 hi hz0 hz1 hz2 rfl (by decide) _ _ _ rfl (hown.alloc _) ⟨w3.heap.size, 0, none⟩ 1 1 [iv y] rfl rfl (cell_one_new _ _ _) (by simp [Value.oneCell']) (by unfold maxLen; omega) (by omega) (by simp; omega) ?_; intro v' w4 hown' hgrow _)
      go_roundw
      case rel => exact ⟨k + 1, by omega, by go_num, by rw [HST.out]; exact hown', below_app hB3 hs3 hown hgrow⟩
      case measure => simp [intOf]; omega
    · obtain rfl : k = a := by omega
      have bk : ¬ (k : Int) < (k : Int) := by omega
      have HOW := Lib.hid hown
      clear hown hlt hk
      go_wp2
      go_ret
      refine ⟨_, rfl, ?_, hB⟩
      have h := HOW.out
      rw [List.take_of_length_le (by rw [HA.out]; exact Nat.le_refl _)] at h
      exact h
/-- The row that is left: at the beginning all squares. -/
def idC (k : Nat) : Array Value := ((List.range 90).map fun i => Value.int .i64 (if i < k then (i : Int) else 0)).toArray
theorem idC_set (k : Nat) : (idC k).setIfInBounds k (.int .i64 (k : Int)) = idC (k + 1) := by
  apply Array.ext
  · simp [idC]
  · intro i h1 h2
    simp only [idC, Array.size_setIfInBounds, List.size_toArray, List.length_map, List.length_range] at h1
    rw [Array.getElem_setIfInBounds (by simpa [idC] using h1)]
    simp only [idC, List.getElem_toArray, List.getElem_map, List.getElem_range]
    by_cases e : k = i
    · subst e
      rw [if_pos rfl, if_pos (by omega)]
    · rw [if_neg e]
      by_cases e2 : i < k
      · rw [if_pos e2, if_pos (by omega)]
      · rw [if_neg e2, if_neg (by omega)]
theorem row_own2 {w : World} {base : Nat} {e : TypeId} {size : Nat} {v : Value} {n : Nat} {xs : List Value} (h : w.ownsRow base e size v n xs) {k : Nat} (hk : v.ownBlock = some k) : k < w.heap.size := by
  rcases h.2 with ⟨rfl, _⟩ | ⟨g, cap, cur, rfl, _, hc, _⟩
  · cases hk
  · have : g = k := by simpa [Value.ownBlock] using hk
    rw [← this]
    exact (Array.getElem?_eq_some_iff.1 hc).1
theorem row_set2 {w : World} {base : Nat} {e : TypeId} {size : Nat} {v : Value} {n g i : Nat} {xs : List Value} {u : Value} (h : w.ownsRow base e size v n xs) (hne : ∀ k, v.ownBlock = some k → g ≠ k) : (w.setCell ⟨g, i, none⟩ u).ownsRow base e size v n xs := by
  refine ⟨h.1, ?_⟩
  rcases h.2 with h2 | ⟨k, cap, cur, hv, hg, hc, hr⟩
  · exact .inl h2
  · exact .inr ⟨k, cap, cur, hv, hg, (Below.heap_setCell w ⟨g, i, none⟩ u k (fun e => hne k (by rw [hv]; rfl) e.symm)).trans hc, hr⟩
/-- The closure's variable, and its row. -/
structure KeepAt (base : Nat) (W : World) (g : Nat) (K : List Int) : Prop where
  row : ∃ v, Blk W g 106 #[v] ∧ W.ownsRow base 3 1 v K.length (K.map iv) ∧ ∀ k, v.ownBlock = some k → k ≠ g
  hg : base ≤ g
theorem KeepAt.lt {base : Nat} {W : World} {g : Nat} {K : List Int} (h : KeepAt base W g K) : g < W.heap.size := by
  obtain ⟨v, hb, _⟩ := h.row
  exact hb.lt
theorem KeepAt.next {base : Nat} {W W' : World} {g : Nat} {K : List Int} (h : KeepAt base W g K) (hb : Below W.heap.size W W') : KeepAt base W' g K := by
  obtain ⟨v, h1, h2, h3⟩ := h.row
  exact ⟨⟨v, h1.next hb, own_next2 h2 hb, h3⟩, h.hg⟩
def idL : List Int := (List.range 90).map fun i : Nat => (i : Int)
theorem idL_len : idL.length = 90 := by unfold idL; rw [List.length_map, List.length_range]
theorem idC_list : (idC 90).toList = idL.map iv := by
  unfold idC idL
  rw [List.map_map]
  refine List.map_congr_left fun i hi => ?_
  rw [if_pos (List.mem_range.1 hi)]
  rfl
theorem make90i (w : World) : (Instr.makeSlice 106 (.int .i64 90) (.int .i64 90)).run Tryz.prog w = .ok (.slice (some ⟨w.heap.size, 0, none⟩) 90 90) (w.alloc (.cells (idC 0) 3)) := by kernel_rfl
attribute [local go_sem ↓] make90i in
set_option maxRecDepth 100000 in
set_option maxHeartbeats 4000000 in
theorem keeper_new (w : World) :
    Calls Tryz.prog 118 #[] w fun e w' => ∃ g, e = .returned (.func (.func 159) #[] #[.pointer (some ⟨g, 0, none⟩)]) ∧ KeepAt w.heap.size w' g idL ∧ Below w.heap.size w w' := by
  go_enter Tryz.func118, Tryz.ntmps118
  go_wp2_with fail
  obtain ⟨W0, hW0⟩ : ∃ W0, (w.alloc (.cells (idC 0) 3)).alloc (.cells #[.slice (some ⟨w.heap.size, 0, none⟩) 90 90] 106) = W0 := ⟨_, rfl⟩
  have hB0 : Below w.heap.size w W0 := by rw [← hW0]; exact (by repeat (first | exact Below.refl _ _ | (refine Below.setCell ?_ (by first | omega | (simp; done) | (simp; omega) | (simp at *; omega)) _) | (refine Below.alloc ?_ (by first | omega | (simp; done) | (simp; omega) | (simp at *; omega)) _) | refine Below.drew ?_ | (refine below_drewN ?_ _) | (refine Below.trans ?_ (Below.mono (by assumption) (by first | omega | (simp; done) | (simp; omega) | (simp at *; omega))))))
  have bR : Blk W0 w.heap.size 3 (idC 0) := by rw [← hW0]; exact (Blk.new _ _ _ rfl).alloc _
  have bK : Blk W0 (w.heap.size + 1) 106 #[.slice (some ⟨w.heap.size, 0, none⟩) 90 90] := by rw [← hW0]; exact Blk.new _ _ _ (by simp)
  rw [hW0]
  clear hW0
  go_loopw [2, 6] (fun _ i wr => ∃ k : Nat, k ≤ 90 ∧ i = .int .i64 (k : Int) ∧ Blk wr w.heap.size 3 (idC k) ∧ Blk wr (w.heap.size + 1) 106 #[.slice (some ⟨w.heap.size, 0, none⟩) 90 90] ∧ Below w.heap.size w wr) (fun _ i _ => 90 - (intOf i).toNat)
  case atStart => exact ⟨0, by omega, rfl, bR, bK, hB0⟩
  case round =>
    obtain ⟨k, hk, rfl, bR, bK, hB⟩ := hrel
    by_cases hlt : k < 90
    · have bk : (k : Int) < 90 := by omega
      have hc := bK.cell 0
      simp only [List.getElem?_toArray, List.getElem?_cons_zero] at hc
      have hcc : wr.cell? ⟨w.heap.size, k, none⟩ = some (.int .i64 0) := by
        rw [bR.cell k]
        simp [idC, hlt]
      have hf := bR.frozen k
      have hset := bR.set_ k (.int .i64 (k : Int))
      rw [idC_set] at hset
      have hK2 := bK.far (p := ⟨w.heap.size, k, none⟩) (by simp) (.int .i64 (k : Int))
      go_wp2
      go_roundw
      case rel => exact ⟨k + 1, by omega, by go_num, hset, hK2, hB.setCell (p := ⟨w.heap.size, k, none⟩) (Nat.le_refl _) _⟩
      case measure => simp [intOf]; omega
    · obtain rfl : k = 90 := by omega
      have HB := Lib.hid bR
      have HK := Lib.hid bK
      clear bR bK hlt hk
      go_wp2
      go_ret
      refine ⟨w.heap.size + 1, rfl, ⟨⟨_, HK.out, ⟨by simp [idL_len], .inr ⟨w.heap.size, 90, idC 90, by rw [idL_len], Nat.le_refl _, HB.out, by rw [idL_len]; exact Nat.le_refl _, by unfold maxLen; omega, by simp [idC], ?_⟩⟩, fun k e => ?_⟩, Nat.le_succ _⟩, hB⟩
      · rw [idC_list, List.take_of_length_le (by simp)]
      · have : w.heap.size = k := by simpa [Value.ownBlock] using e
        omega
set_option maxRecDepth 100000 in
set_option maxHeartbeats 4000000 in
theorem keep1_any (l : List Int) (x : Int) (C : Option Addr) (a d g0 : Nat) (W : World) (ha : l.length = a) (ha9 : a ≤ 1000000) (hr : Rd W C (l.map iv)) (c0 : W.cell? ⟨g0, 0, none⟩ = some (.slice C a d)) :
    Calls Tryz.prog 161 #[.int .i64 x, .pointer (some ⟨g0, 0, none⟩)] W fun e w' => e = .returned (.bool (!l.contains x)) ∧ ∃ q, w' = W.drewN q := by
  have HC : Hid (∀ W, Rd W C (l.map iv) → Calls Tryz.prog 162 #[.slice C a d, .int .i64 x] W fun e w' => e = .returned (.bool (l.contains x)) ∧ w' = W) := fun W hr => by
    cases l with
    | nil =>
      obtain rfl : 0 = a := ha
      exact Tryz.slices_Contains_int_empty C d x W
    | cons y r =>
      obtain ⟨g, b, rfl, _⟩ := hr.int (k := 0) (by simp)
      have h := Tryz.slices_Contains_int g b a d (y :: r) x W (by omega) (by omega) (fun j hj => by
        obtain ⟨_, _, e, hc⟩ := hr.int hj
        cases e
        rw [hc, List.getD_eq_getElem?_getD, List.getElem?_eq_getElem hj]
        rfl)
      rw [List.take_of_length_le (by omega)] at h
      exact h
  obtain ⟨v, hv⟩ : ∃ v, l.contains x = v := ⟨_, rfl⟩
  rw [hv] at HC ⊢
  clear ha ha9 hv
  go_enter Tryz.func161, Tryz.ntmps161
  go_wp2_with fail
  refine (HC.out W hr).mono ?_
  rintro e w' ⟨rfl, rfl⟩
  go_wp2
  go_ret
  exact ⟨rfl, 0, rfl⟩
open Go.Lib Go.Sort in
theorem sorted_cell2 (w : World) (blk off m B i : Nat) (dk : Array Int) (os : Array Obj) (hB : B < w.heap.size) (hne : B ≠ blk) : (sortWorld iv w blk off m dk os).cell? ⟨B, i, none⟩ = w.cell? ⟨B, i, none⟩ := by
  unfold sortWorld
  rw [cell?_grow _ _ _ (by show B < (putRow _ _ _ _ _).heap.size; rw [size_putRow]; exact hB), cell?_putRow_other _ _ blk off _ _ (Or.inl hne)]
  rfl
open Go.Lib Go.Sort in
set_option maxRecDepth 100000 in
set_option maxHeartbeats 4000000 in
theorem del_keep (l K : List Int) (C : Option Addr) (a d g0 base n : Nat) (v : Value) (W : World) (ha : l.length = a) (ha9 : a ≤ 1000000) (hr : Rd W C (l.map iv)) (b0 : Blk W g0 106 #[.slice C a d]) (hown : W.ownsRow base 3 1 v n (K.map iv)) (hn : K.length = n) (hn9 : n ≤ 1000000)
    (hne : ∀ k, v.ownBlock = some k → g0 ≠ k ∧ (l ≠ [] → ∀ ad, C = some ad → ad.block ≠ k)) :
    Calls Tryz.prog 160 #[v, .func (.func 161) #[] #[.pointer (some ⟨g0, 0, none⟩)]] W fun e w' => ∃ v', e = .returned v' ∧ w'.ownsRow base 3 1 v' (K.filter fun x => l.contains x).length ((K.filter fun x => l.contains x).map iv) ∧ (∀ k, v'.ownBlock = some k → v.ownBlock = some k) ∧ (∀ k, k < W.heap.size → v.ownBlock ≠ some k → w'.heap[k]? = W.heap[k]?) ∧ Below base W w' := by
  have hp : ∀ W', Rd W' C (l.map iv) → W'.cell? ⟨g0, 0, none⟩ = some (.slice C a d) → ∀ x : Int, Calls Tryz.prog 161 #[.int .i64 x, .pointer (some ⟨g0, 0, none⟩)] W' fun e w' => e = .returned (.bool (!l.contains x)) ∧ ∃ q, w' = W'.drewN q := fun W' h1 h2 x => keep1_any l x C a d g0 W' ha ha9 h1 h2
  by_cases hv : v = .slice none 0 0
  · subst hv
    have hn0 : n = 0 := by
      rcases hown.2 with ⟨_, h⟩ | ⟨g, cap, cur, h, _⟩
      · exact h
      · injection h with h1
        cases h1
    have hK : K = [] := List.eq_nil_of_length_eq_zero (by omega)
    subst hK
    clear hown hn hne b0 hp
    go_enter Tryz.func160, Tryz.ntmps160
    go_wp2_with fail
    refine (Tryz.slices_IndexFunc_empty (α := Int) none 0 _ _).mono ?_
    rintro e w1 ⟨rfl, rfl⟩
    go_wp2
    go_ret
    exact ⟨.slice none 0 0, rfl, World.ownsRow_nil _ _ _ _, fun _ h => h, fun _ _ _ => rfl, Below.refl _ _⟩
  · obtain ⟨g, cap, rfl, hg, hgl, hcap, hmax, hlen, hH⟩ := Lib.holds_of_ownsRow (enc := iv) hown hv
    obtain ⟨hne0, hneC⟩ := hne g rfl
    have eg : ∀ args w, (callFunc 161 args).run Tryz.prog w = .ok (.enter 161 args) w := enters_of Tryz.func161 (by kernel_rfl) rfl
    have c0 : W.cell? ⟨g0, 0, none⟩ = some (.slice C a d) := b0.cell 0
    have hcon := Tryz.slices_DeleteFunc iv (fun _ => rfl) (fun x : Int => !l.contains x) 161 #[.pointer (some ⟨g0, 0, none⟩)] eg 0 Tryz.zeroValue3 g 0 cap K.toArray W
      (fun W' k hb => hp W' (hr.next hb) ((hb.cell (p := ⟨g0, 0, none⟩) b0.lt).trans c0) k)
      (fun m os dk k _ => hp _ (fun j u hu => by
          obtain ⟨ad, e, hc⟩ := hr j u hu
          refine ⟨ad, e, ?_⟩
          have hbk : (ad.add j).block = ad.block := by
            unfold Addr.add
            split <;> rfl
          have h1 := hneC (fun e0 => by rw [e0] at hu; simp at hu) ad e
          have h2 := cell_lt hc
          unfold sortWorld
          rw [cell?_grow _ _ _ (by show (ad.add j).block < (putRow _ _ _ _ _).heap.size; rw [size_putRow]; exact h2), cell?_putRow_other _ _ g 0 _ _ (Or.inl (by rw [hbk]; exact h1))]
          exact hc)
        ((sorted_cell2 W g 0 m g0 0 dk os b0.lt hne0).trans c0) k)
      hH (by simp; unfold maxLen at hmax; omega) (by simp; omega)
    have hf : (K.toArray.toList.filter fun x : Int => !(!l.contains x)) = K.filter fun x => l.contains x := by
      refine List.filter_congr fun x _ => ?_
      rw [Bool.not_not]
    rw [hf, show K.toArray.size = n by simpa using hn] at hcon
    have hle : (K.filter fun x => l.contains x).length ≤ n := by
      rw [← hn]
      exact List.length_filter_le _ _
    generalize (K.filter fun x => l.contains x) = r at hcon hle ⊢
    refine hcon.mono ?_
    rintro e w' ⟨rfl, m, rfl⟩
    refine ⟨_, rfl, ?_, fun k h => h, fun k hk hne2 => ?_, Lib.below_putRow (Below.refl _ _) hg⟩
    · have h1 := Lib.ownsRow_putRow (q := m) (k := r.length) (ys := r ++ List.replicate (n - r.length) (0 : Int)) hown (by simp; omega) hle
      rw [List.take_left' rfl] at h1
      exact h1
    · have hgk : g ≠ k := fun e => hne2 (by rw [← e]; rfl)
      simp [putRow, mapBlock, Sort.ahead, Array.getElem?_modify, hgk]
set_option maxRecDepth 100000 in
set_option maxHeartbeats 4000000 in
/-- What is left behind one list: those that stood in it, too. -/
theorem keep_any (g base : Nat) (K : List Int) (C : Option Addr) (l : List Int) (a d : Nat) (w : World) (hK : KeepAt base w g K) (hK9 : K.length ≤ 1000000) (ha : l.length = a) (ha9 : a ≤ 1000000) (hr : Rd w C (l.map iv))
    (hC : l ≠ [] → ∀ ad, C = some ad → ∀ v, w.cell? ⟨g, 0, none⟩ = some v → v.ownBlock ≠ some ad.block) (r : List Int) (hrr : (K.filter fun x => l.contains x) = r) :
    Calls Tryz.prog 159 #[.slice C a d, .pointer (some ⟨g, 0, none⟩)] w fun e w' => e = .returned (.bool (decide (0 < r.length))) ∧ KeepAt base w' g r ∧ Below base w w' := by
  obtain ⟨v, bv, hv, hvg⟩ := hK.row
  have hbase := hK.hg
  have hglt := bv.lt
  have hr0 : w.cell? ⟨g, 0, none⟩ = some v := bv.cell 0
  have hC := fun h ad e => hC h ad e v hr0
  obtain ⟨W0, hW0⟩ : ∃ W0, w.alloc (.cells #[.slice C a d] 106) = W0 := ⟨_, rfl⟩
  have hB0 : Below w.heap.size w W0 := by rw [← hW0]; exact below_new _ _
  have b0 : Blk W0 w.heap.size 106 #[.slice C a d] := by rw [← hW0]; exact Blk.new _ _ _ rfl
  have bv0 := bv.next hB0
  have hv0 := own_next2 hv hB0
  have c0 : W0.cell? ⟨g, 0, none⟩ = some v := bv0.cell 0
  have f0 : W0.frozen? ⟨g, 0, none⟩ = false := bv0.frozen 0
  have hdel := del_keep l K C a d w.heap.size base K.length v W0 ha ha9 (hr.next hB0) b0 hv0 rfl hK9 (fun k hk => by
    have hlt := row_own2 hv hk
    exact ⟨by omega, fun h ad e e2 => hC h ad e (by rw [hk, e2])⟩)
  rw [hrr] at hdel
  have HD := Lib.hid hdel
  have HV := Lib.hid hv
  clear hdel b0 hv0 hv hr hrr hr0 hK hC ha ha9 hK9
  go_enter Tryz.func159, Tryz.ntmps159
  go_wp2_with fail
  refine HD.out.mono ?_
  rintro e w1 ⟨v1, rfl, hown, hsub, hsame, hb1⟩
  have bg1 : Blk w1 g 106 #[v] := (hsame g bv0.lt (fun e => hvg g e rfl)).trans bv0
  have f1 : w1.frozen? ⟨g, 0, none⟩ = false := bg1.frozen 0
  have d1 : w1.cell? ⟨g, 0, none⟩ = some v := bg1.cell 0
  have hset := bg1.set_ 0 v1
  have hset0 : (w1.setCell ⟨g, 0, none⟩ v1).cell? ⟨g, 0, none⟩ = some v1 := hset.cell 0
  have hown2 : (w1.setCell ⟨g, 0, none⟩ v1).ownsRow base 3 1 v1 r.length (r.map iv) := row_set2 hown fun k hk e => hvg k (hsub k hk) e.symm
  have hBB : Below base w (w1.setCell ⟨g, 0, none⟩ v1) := ((hB0.mono (by omega)).trans hb1).setCell (p := ⟨g, 0, none⟩) hbase _
  obtain ⟨A1, c1, rfl⟩ := own_slice hown
  clear bv0 c0 f0 hW0 hsame hb1 bg1
  go_wp2
  go_ret
  exact ⟨by simp, ⟨⟨_, hset, hown2, fun k hk => hvg k (hsub k hk)⟩, hbase⟩, hBB⟩
end Go.Proofs.YtbdgbihdhbjljaaGreatDoor

namespace Go.Proofs.YtbdgbihdhbjljaaGreatDoor
open Go.RowKit Go.Shelf
open M (S)

theorem rd_take {w : World} {A : Option Addr} {m : List (Int × Int)} (h : Rd w A (mzL m)) (k : Nat) : Rd w A (mzL (m.take k)) := fun j u hu => by
  refine h j u ?_
  have e : mzL m = mzL (m.take k) ++ mzL (m.drop k) := by rw [← mzL_app, List.take_append_drop]
  have hj : j < (mzL (m.take k)).length := by
    rcases Nat.lt_or_ge j (mzL (m.take k)).length with h | h
    · exact h
    · rw [List.getElem?_eq_none h] at hu
      cases hu
  rw [e, List.getElem?_append_left hj]
  exact hu
theorem plyL_le (s : ByteArray) (y z u : Int) : (plyL s y z u).length ≤ 90 := by
  unfold plyL
  split
  · rw [chasedL_map, List.length_map]
    exact chasedN_len _ _
  · simp
/-- What is left, as numbers. -/
def keptI (l : List Ps) (m : List (Int × Int)) (side : Int) (k : Nat) : List Int := (keptN l m side k).map fun i : Nat => (i : Int)
theorem keptI_zero (l : List Ps) (m : List (Int × Int)) (side : Int) : keptI l m side 0 = idL := by
  unfold keptI idL
  rw [kept_zero]
theorem keptI_len (l : List Ps) (m : List (Int × Int)) (side : Int) (k : Nat) : (keptI l m side k).length ≤ 90 := by
  unfold keptI keptN
  rw [List.length_map]
  exact Nat.le_trans (List.length_filter_le _ _) (by simp)
theorem keptI_other {l : List Ps} {m : List (Int × Int)} {side : Int} {k : Nat} (h : ofAt l side k = false) : keptI l m side (k + 1) = keptI l m side k := by
  unfold keptI
  rw [kept_succ, h]
  rfl
theorem keptI_check {l : List Ps} {m : List (Int × Int)} {side : Int} {k : Nat} (h : ckAt l k = true) : keptI l m side (k + 1) = keptI l m side k := by
  unfold keptI
  rw [kept_ck h]
theorem keptI_chase {l : List Ps} {m : List (Int × Int)} {side : Int} {k : Nat} (h : ofAt l side k = true) (hc : ckAt l k = false) : (keptI l m side k).filter (fun x => (oriAt l m k).contains x) = keptI l m side (k + 1) := by
  unfold keptI
  rw [kept_succ, h, if_pos rfl, List.filter_map]
  congr 1
  refine List.filter_congr fun n _ => ?_
  unfold hasAt
  rw [hc, Bool.false_or]
  rfl
theorem keptI_nil {l : List Ps} {m : List (Int × Int)} {side : Int} {k : Nat} : keptI l m side k = [] ↔ keptN l m side k = [] := by
  unfold keptI
  rw [List.map_eq_nil_iff]
def anyCk (l : List Ps) (side : Int) (k : Nat) : Bool := (pliesN l side k).any (ckAt l)
def anyCh (l : List Ps) (side : Int) (k : Nat) : Bool := (pliesN l side k).any fun j => !ckAt l j
theorem any_zero (l : List Ps) (side : Int) : anyCk l side 0 = false ∧ anyCh l side 0 = false := by
  unfold anyCk anyCh pliesN
  simp
theorem any_other {l : List Ps} {side : Int} {k : Nat} (h : ofAt l side k = false) : anyCk l side (k + 1) = anyCk l side k ∧ anyCh l side (k + 1) = anyCh l side k := by
  unfold anyCk anyCh
  rw [plies_succ, h]
  exact ⟨rfl, rfl⟩
theorem any_check {l : List Ps} {side : Int} {k : Nat} (h : ofAt l side k = true) (hc : ckAt l k = true) : anyCk l side (k + 1) = true ∧ anyCh l side (k + 1) = anyCh l side k := by
  unfold anyCk anyCh
  rw [plies_succ, h, if_pos rfl, List.any_append, List.any_append]
  simp [hc]
theorem any_chase {l : List Ps} {side : Int} {k : Nat} (h : ofAt l side k = true) (hc : ckAt l k = false) : anyCk l side (k + 1) = anyCk l side k ∧ anyCh l side (k + 1) = true := by
  unfold anyCk anyCh
  rw [plies_succ, h, if_pos rfl, List.any_append, List.any_append]
  simp [hc]
def clsI (a b : Bool) : Int := if b then 1 else if a then 2 else 0
set_option maxRecDepth 100000 in
theorem cls_any (a b : Bool) (w : World) : Calls Tryz.prog 121 #[.bool a, .bool b] w (Gives w (.int .i64 (clsI a b))) := by
  unfold Gives
  cases a <;> cases b
  all_goals
    go_enter Tryz.func121, Tryz.ntmps121
    go_wp2
    go_ret
    exact ⟨rfl, Below.refl _ _⟩
theorem keep_apart {base g n c a : Nat} {W w3 : World} {K : List Int} {xs : List Value} {A : Option Addr} {ad : Addr} {v : Value} (hK : KeepAt base W g K) (hb : Below W.heap.size W w3) (ho : w3.ownsRow W.heap.size 3 1 (.slice A a c) n xs) (e : A = some ad) (hv : w3.cell? ⟨g, 0, none⟩ = some v) : v.ownBlock ≠ some ad.block := by
  obtain ⟨v', h1, h2, _⟩ := hK.row
  have h3 : w3.cell? ⟨g, 0, none⟩ = some v' := (h1.next hb).cell 0
  rw [hv] at h3
  injection h3 with h3
  subst h3
  intro he
  have hlt := row_own2 h2 he
  rcases ho.2 with ⟨h, _⟩ | ⟨g', cap, cur, h, hg, _⟩
  · injection h with h
    rw [e] at h
    cases h
  · injection h with h
    rw [e] at h
    injection h with h
    rw [h] at hlt
    have : g' < W.heap.size := hlt
    omega
set_option maxRecDepth 100000 in
set_option maxHeartbeats 4000000 in
theorem class_not (A C : Option Addr) (side : Int) (n a c d : Nat) (w : World) (hne : n ≠ a + 1) (ha : a ≤ 1000000) :
    Calls Tryz.prog 76 #[.slice A n c, .slice C a d, .int .i64 side] w (Gives w (.int .i64 0)) := by
  unfold Gives
  have h1 : ((n : Int) != (a : Int) + 1) = true := by rw [bne_iff_ne]; omega
  have hw : IntKind.i64.wrap ((a : Int) + 1) = (a : Int) + 1 := by rw [IntKind.wrap_i64]; omega
  clear hne
  go_enter Tryz.func76, Tryz.ntmps76
  go_wp2
  go_ret
  exact ⟨rfl, Below.refl _ _⟩
set_option maxRecDepth 100000 in
set_option maxHeartbeats 4000000 in
theorem class_go (A C : Option Addr) (l : List Ps) (m : List (Int × Int)) (side : Int) (n a c d : Nat) (w : World) (hT : Tab w) (hp : Rd w A (psL l)) (hl : l.length = n) (hm : Rd w C (mzL m)) (ha : m.length = a) (hne : n = a + 1) (hn : n ≤ 1000000) (had : a ≤ d) :
    Calls Tryz.prog 76 #[.slice A n c, .slice C a d, .int .i64 side] w (Gives w (.int .i64 (classI l m side))) := by
  unfold Gives
  have h1 : ((n : Int) != (a : Int) + 1) = false := by rw [bne_eq_false_iff_eq]; omega
  have hw : IntKind.i64.wrap ((a : Int) + 1) = (a : Int) + 1 := by rw [IntKind.wrap_i64]; omega
  have HL := Lib.hid hl
  have HA := Lib.hid ha
  have HNA := Lib.hid hne
  have HP := Lib.hid hp
  have HM := Lib.hid hm
  have HD := Lib.hid had
  have ha9 : a ≤ 1000000 := by omega
  clear hl ha hne hp hm had
  go_enter Tryz.func76, Tryz.ntmps76
  go_wp2_with fail
  refine (keeper_new _).mono ?_
  rintro e V ⟨g, rfl, hK, hB⟩
  rw [← keptI_zero l m side] at hK
  have hTV := hT.next hB
  have h0 := any_zero l side
  go_wp2_with fail
  go_loopw [7, 8, 22] (fun ck ch i wr => ∃ k : Nat, k ≤ a ∧ i = .int .i64 (k : Int) ∧ ck = .bool (anyCk l side k) ∧ ch = .bool (anyCh l side k) ∧ (anyCh l side k = true → keptN l m side k ≠ []) ∧ KeepAt w.heap.size wr g (keptI l m side k) ∧ Tab wr ∧ Below w.heap.size w wr) (fun _ _ i _ => a - (intOf i).toNat)
  case atStart => exact ⟨0, Nat.zero_le _, rfl, by rw [h0.1], by rw [h0.2], (fun h => absurd h (by rw [h0.2]; simp)), hK, hTV, hB⟩
  case round =>
    clear h0 hK hTV hB
    obtain ⟨k, hk, rfl, rfl, rfl, hch, hK, hTr, hB⟩ := hrel
    by_cases hlt : k < a
    · have hkl : k < l.length := by rw [HL.out, HNA.out]; omega
      have hkl1 : k + 1 < l.length := by rw [HL.out, HNA.out]; omega
      have bk : (k : Int) < (a : Int) := by omega
      have bk1 : (k : Int) < (n : Int) := by rw [HNA.out]; omega
      have bk2 : (k : Int) + 1 < (n : Int) := by rw [HNA.out]; omega
      have bk0 : (0 : Int) ≤ (k : Int) + 1 := by omega
      have bkd : (k : Int) + 1 ≤ (d : Int) := by have := HD.out; omega
      have wk : IntKind.i64.wrap ((k : Int) + 1) = (k : Int) + 1 := by rw [IntKind.wrap_i64]; omega
      obtain ⟨gA, bA, rfl, p0, p1, p2, p3⟩ := HP.out.ps hkl
      obtain ⟨_, _, eA, q0, q1, q2, q3⟩ := HP.out.ps hkl1
      cases eA
      obtain ⟨pk, hpk⟩ : ∃ p, l[k]'hkl = p := ⟨_, rfl⟩
      obtain ⟨pq, hpq⟩ : ∃ p, l[k + 1]'hkl1 = p := ⟨_, rfl⟩
      rw [hpk] at p0 p1 p2 p3
      rw [hpq] at q0 q1 q2 q3
      have hof : ofAt l side k = (pk.y == side) := by rw [of_of (p := pk)]; rw [List.getElem?_eq_getElem hkl, hpk]
      have hckv : ckAt l k = plyC pq.s pq.y pq.z pq.u := by rw [ck_of (p := pq)]; rw [List.getElem?_eq_getElem hkl1, hpq]
      have hori : oriAt l m k = (plyL pq.s pq.y pq.z pq.u).map (originI (m.take (k + 1))) := by rw [ori_of (p := pq)]; rw [List.getElem?_eq_getElem hkl1, hpq]
      have r1 := (hB.cell (p := ⟨gA, bA + k * 4 + 1, none⟩) (cell_lt p1)).trans p1
      have s0 := (hB.cell (p := ⟨gA, bA + (k + 1) * 4, none⟩) (cell_lt q0)).trans q0
      have s1 := (hB.cell (p := ⟨gA, bA + (k + 1) * 4 + 1, none⟩) (cell_lt q1)).trans q1
      have s2 := (hB.cell (p := ⟨gA, bA + (k + 1) * 4 + 2, none⟩) (cell_lt q2)).trans q2
      have s3 := (hB.cell (p := ⟨gA, bA + (k + 1) * 4 + 3, none⟩) (cell_lt q3)).trans q3
      obtain ⟨ps, py, pz, pu⟩ := pk
      obtain ⟨s, y, z, u⟩ := pq
      clear p0 p1 p2 p3 q0 q1 q2 q3 hpk hpq
      by_cases hsd : py = side
      · have e1 : (py != side) = false := by rw [hsd]; simp
        have hof : ofAt l side k = true := by rw [hof]; simp [hsd]
        obtain ⟨c0, hc0⟩ : ∃ c0, plyC s y z u = c0 := ⟨_, rfl⟩
        obtain ⟨L, hL⟩ : ∃ L, plyL s y z u = L := ⟨_, rfl⟩
        obtain ⟨e0, he0⟩ : ∃ e0, wellN s y z u = e0 := ⟨_, rfl⟩
        obtain ⟨h, hh⟩ : ∃ h, L.length = h := ⟨_, rfl⟩
        have hL9 : h ≤ 90 := by rw [← hh, ← hL]; exact plyL_le s y z u
        have hckv : ckAt l k = c0 := hckv.trans hc0
        have hori : oriAt l m k = L.map (originI (m.take (k + 1))) := by rw [hori, ← hL]
        have HC0 := Lib.hid hc0
        have HLL := Lib.hid hL
        have HE0 := Lib.hid he0
        have HH := Lib.hid hh
        have HCK := Lib.hid hckv
        have HORI := Lib.hid hori
        have HOF := Lib.hid hof
        have HCH := Lib.hid hch
        have hbs := hB.size
        clear hc0 hL he0 hh hckv hori hof hch hsd hkl hkl1
        go_wp2_with fail
        refine (cof_is s y z u c0 L e0 _ hTr HC0.out HLL.out HE0.out).mono ?_
        rintro e w1 ⟨A1, cap1, rfl, hr1, hb1⟩
        rw [HH.out]
        have hK1 := hK.next hb1
        have hT1 := hTr.next hb1
        have hB1 := hB.trans (hb1.mono hbs)
        obtain ⟨U, hU⟩ : ∃ U, w1.alloc (.cells #[.bool c0, .slice A1 h cap1] 119) = U := ⟨_, rfl⟩
        have bX : Blk U w1.heap.size 119 #[.bool c0, .slice A1 h cap1] := by rw [← hU]; exact Blk.new _ _ _ rfl
        have hbU : Below w1.heap.size w1 U := by rw [← hU]; exact below_new _ _
        have hKU := hK1.next hbU
        have hTU := hT1.next hbU
        have hBU := hB1.trans (hbU.mono hB1.size)
        have hrU := hr1.next hbU
        obtain ⟨x0, x1⟩ := ply_cells bX
        clear hK hTr hB hK1 hT1 hB1 hr1 hb1 r1 s0 s1 s2 s3
        cases c0
        · go_wp2_with fail
          have hBD : Below w.heap.size w U.drew := hBU.drew
          have hrD := hrU.next (Below.refl _ _).drew
          have hKD := hKU.next (Below.refl _ _).drew
          have hTD := hTU.next (Below.refl _ _).drew
          have hmD : Rd U.drew C (mzL (m.take (k + 1))) := rd_take (HM.out.next hBD) _
          have hmL : (m.take (k + 1)).length = k + 1 := by rw [List.length_take, HA.out]; omega
          have hOR := Lib.hid (origins_own C A1 (m.take (k + 1)) L (k + 1) h d cap1 _ hmD hmL (by omega) hrD HH.out (by omega))
          have hOL : (oriAt l m k).length = h := by rw [HORI.out, List.length_map, HH.out]
          have hrr := keptI_chase (m := m) HOF.out HCK.out
          have hKL := keptI_len l m side k
          have HRR := Lib.hid hrr
          have HOL := Lib.hid hOL
          clear hmD hmL hOL hrr hTU hKU hBU hrU bX hU
          go_region_with (first
            | (go_at_call 120; refine hOR.out.mono ?_; rintro e w3 ⟨v3, rfl, ho3, hb3⟩; obtain ⟨A3, c3, rfl⟩ := own_slice ho3; have hK3 := hKD.next hb3)
            | (go_at_call 159; refine (keep_any g w.heap.size (keptI l m side k) A3 (oriAt l m k) h c3 _ hK3 (by omega) HOL.out (by omega) (by rw [HORI.out]; exact Rd.own ho3) (fun _ ad e v hv => keep_apart hKD hb3 ho3 e hv) _ HRR.out).mono ?_; rintro e w4 ⟨rfl, hK4, hb4⟩))
          all_goals
            have hB4 := (hBD.trans (hb3.mono hBD.size)).trans hb4
            have hT4 := hT.next hB4
            obtain ⟨r, hr⟩ : ∃ r, keptI l m side (k + 1) = r := ⟨_, rfl⟩
            have HR := Lib.hid hr
            rw [hr] at hK4 ⊢
            cases r with
            | nil =>
              have hout := Lib.hid (class_out (m := m) (by rw [HA.out]; exact hlt) HOF.out HCK.out (keptI_nil.1 HR.out))
              go_wp2
              go_ret
              exact ⟨by rw [hout.out]; rfl, hB4⟩
            | cons r0 rs =>
              have h2 := Lib.hid (any_chase HOF.out HCK.out)
              have hne := Lib.hid (show keptN l m side (k + 1) ≠ [] from fun e => by
                have := keptI_nil.2 e
                rw [HR.out] at this
                cases this)
              have h9 : decide (0 < (r0 :: rs).length) = true := by simp
              rw [h9]
              go_wp2
              go_roundw
              case rel => exact ⟨k + 1, by omega, by go_num, by rw [h2.out.1], by rw [h2.out.2], fun _ => hne.out, by rw [HR.out]; exact hK4, hT4, hB4⟩
              case measure => simp [intOf]; omega
        · have h2 := Lib.hid (any_check HOF.out HCK.out)
          have h3 := Lib.hid (keptI_check (m := m) (side := side) HCK.out)
          have h4 := Lib.hid (kept_ck (m := m) (side := side) HCK.out)
          go_wp2
          go_roundw
          case rel => exact ⟨k + 1, by omega, by go_num, by rw [h2.out.1], by rw [h2.out.2], fun h => by rw [h4.out]; rw [h2.out.2] at h; exact HCH.out h, by rw [h3.out]; exact hKU, hTU, hBU⟩
          case measure => simp [intOf]; omega
      · have e1 : (py != side) = true := by rw [bne_iff_ne]; exact hsd
        have hof : ofAt l side k = false := by rw [hof, beq_eq_false_iff_ne]; exact hsd
        have h2 := Lib.hid (any_other hof)
        have h3 := Lib.hid (keptI_other (m := m) hof)
        have h4 := Lib.hid (show keptN l m side (k + 1) = keptN l m side k by rw [kept_succ, hof]; rfl)
        have HCH := Lib.hid hch
        clear hof hch hsd hckv hori hkl hkl1
        go_wp2
        go_roundw
        case rel => exact ⟨k + 1, by omega, by go_num, by rw [h2.out.1], by rw [h2.out.2], fun h => by rw [h4.out]; rw [h2.out.2] at h; exact HCH.out h, by rw [h3.out]; exact hK, hTr, hB⟩
        case measure => simp [intOf]; omega
    · obtain rfl : k = a := by omega
      have bk : ¬ (k : Int) < (k : Int) := by omega
      have he := class_end (side := side) (by rw [HL.out, HA.out, HNA.out]) (show anyCk l side k = (pliesN l side m.length).any (ckAt l) by rw [HA.out]; rfl) (show anyCh l side k = (pliesN l side m.length).any (fun j => !ckAt l j) by rw [HA.out]; rfl) (by rw [HA.out]; exact hch)
      have HE : Hid (classI l m side = clsI (anyCk l side k) (anyCh l side k)) := he
      clear he hch hlt hk hK
      go_wp2_with fail
      refine (cls_any _ _ _).mono ?_
      rintro e w9 ⟨rfl, hb⟩
      go_wp2
      go_ret
      exact ⟨by rw [HE.out]; rfl, hB.trans (hb.mono hB.size)⟩
theorem class_any (A C : Option Addr) (l : List Ps) (m : List (Int × Int)) (side : Int) (n a c d : Nat) (w : World) (hT : Tab w) (hp : Rd w A (psL l)) (hl : l.length = n) (hm : Rd w C (mzL m)) (ha : m.length = a) (hn : n ≤ 1000000) (ha9 : a ≤ 1000000) (had : a ≤ d) :
    Calls Tryz.prog 76 #[.slice A n c, .slice C a d, .int .i64 side] w (Gives w (.int .i64 (classI l m side))) := by
  by_cases h : n = a + 1
  · exact class_go A C l m side n a c d w hT hp hl hm ha h hn had
  · rw [class_len (by rw [hl, ha]; exact h)]
    exact class_not A C side n a c d w h ha9
theorem class_is (A C : Option Addr) (l : List Ps) (m : List (Int × Int)) (side v : Int) (n a c d : Nat) (w : World) (hT : Tab w) (hp : Rd w A (psL l)) (hl : l.length = n) (hm : Rd w C (mzL m)) (ha : m.length = a) (hn : n ≤ 1000000) (ha9 : a ≤ 1000000) (had : a ≤ d) (hv : classI l m side = v) :
    Calls Tryz.prog 76 #[.slice A n c, .slice C a d, .int .i64 side] w (Gives w (.int .i64 v)) := by
  subst hv
  exact class_any A C l m side n a c d w hT hp hl hm ha hn ha9 had
end Go.Proofs.YtbdgbihdhbjljaaGreatDoor

namespace Go.Proofs.YtbdgbihdhbjljaaGreatDoor
open Go.RowKit Go.Shelf

def fro1 : ByteArray := movedS startS 0 9 82
def fro2 : ByteArray := movedS fro1 81 72 114
def fro3 : ByteArray := movedS fro2 9 0 82
def fro4 : ByteArray := movedS fro3 72 81 114
def froP0 : Ps := ⟨startS, 0, 0, 1⟩
def froP1 : Ps := ⟨fro1, 1, 1, 1⟩
def froP2 : Ps := ⟨fro2, 0, 2, 2⟩
def froP3 : Ps := ⟨fro3, 1, 3, 2⟩
def froP4 : Ps := ⟨fro4, 0, 4, 3⟩
def froL : List Ps := [froP0, froP1, froP2, froP3, froP4]
def froM : List (Int × Int) := [(0, 9), (81, 72), (9, 0), (72, 81)]
theorem fro_back : fro4 = startS := by decide +kernel
theorem fro_is0 : isV startS 0 0 1 0 9 = true := by decide +kernel
theorem fro_is1 : isV fro1 1 1 1 81 72 = true := by decide +kernel
theorem fro_is2 : isV fro2 0 2 2 9 0 = true := by decide +kernel
theorem fro_is3 : isV fro3 1 3 2 72 81 = true := by decide +kernel
theorem step_isV {p q : Ps} {a b : Nat} (h : isV p.s p.y p.z p.u (a : Int) (b : Int) = true) (hs : movedS p.s a b (bAt p.s a) = q.s) (hy : 1 - p.y = q.y) (hz : clockA p.s p.z b = q.z) (hu : fullA p.y p.u = q.u) : stepP p ((a : Int), (b : Int)) = some q := by
  unfold stepP
  rw [if_pos h]
  show some (Ps.mk (movedS p.s a b (bAt p.s a)) (1 - p.y) (clockA p.s p.z b) (fullA p.y p.u)) = _
  rw [hs, hy, hz, hu]
theorem fro_step0 : stepP froP0 (0, 9) = some froP1 := step_isV (a := 0) (b := 9) fro_is0 (by rw [show bAt froP0.s 0 = 82 by decide +kernel]; rfl) rfl (by decide +kernel) (by decide +kernel)
theorem fro_step1 : stepP froP1 (81, 72) = some froP2 := step_isV (a := 81) (b := 72) fro_is1 (by rw [show bAt froP1.s 81 = 114 by decide +kernel]; rfl) rfl (by decide +kernel) (by decide +kernel)
theorem fro_step2 : stepP froP2 (9, 0) = some froP3 := step_isV (a := 9) (b := 0) fro_is2 (by rw [show bAt froP2.s 9 = 82 by decide +kernel]; rfl) rfl (by decide +kernel) (by decide +kernel)
theorem fro_step3 : stepP froP3 (72, 81) = some froP4 := step_isV (a := 72) (b := 81) fro_is3 (by rw [show bAt froP3.s 72 = 114 by decide +kernel]; rfl) rfl (by decide +kernel) (by decide +kernel)
theorem fro_play : playF froP0 froM = (froL, froM, froP4) := by
  unfold playF froM
  simp only [List.foldl_cons, List.foldl_nil]
  unfold playS
  simp only [fro_step0, fro_step1, fro_step2, fro_step3]
  rfl
/-- Two squares that chase nobody: what a side takes. -/
theorem chased_nil {s : ByteArray} {side : Int} {m : List (Nat × Nat)} (h1 : (isB s && ((side == 0) || (side == 1))) = true) (h : (movesN s side).filter (fun x => bAt s x.2 != 46) = m) (hm : ∀ x ∈ m, threatB s x.1 x.2 = false) : chasedL s side = [] := by
  unfold chasedL trues
  rw [List.map_eq_nil_iff, List.filter_eq_nil_iff]
  intro n _
  unfold chasedB
  rw [Bool.not_eq_true, List.any_eq_false]
  intro x hx
  unfold takesG at hx
  rw [if_pos h1] at hx
  unfold legalN at hx
  obtain ⟨hx1, hx2⟩ := List.mem_filter.1 hx
  obtain ⟨hx3, _⟩ := List.mem_filter.1 hx1
  have : x ∈ m := by
    rw [← h]
    exact List.mem_filter.2 ⟨hx3, hx2⟩
  rw [hm x this, Bool.and_false]
  simp
theorem fro_takes1 : (movesN fro1 0).filter (fun x => bAt fro1 x.2 != 46) = [(19, 82), (25, 88)] := by decide +kernel
theorem fro_takes4 : (movesN startS 1).filter (fun x => bAt startS x.2 != 46) = [(64, 1), (70, 7)] := by decide +kernel
theorem fro_threat1 : threatB fro1 19 82 = false := by decide +kernel
theorem fro_threat1' : threatB fro1 25 88 = false := by decide +kernel
theorem fro_threat4 : threatB startS 64 1 = false := by decide +kernel
theorem fro_threat4' : threatB startS 70 7 = false := by decide +kernel
theorem fro_chased1 : chasedL fro1 0 = [] := chased_nil (by decide +kernel) fro_takes1 fun x hx => by
  simp only [List.mem_cons, List.not_mem_nil, or_false] at hx
  rcases hx with rfl | rfl
  · exact fro_threat1
  · exact fro_threat1'
theorem fro_chased4 : chasedL startS 1 = [] := chased_nil (by decide +kernel) fro_takes4 fun x hx => by
  simp only [List.mem_cons, List.not_mem_nil, or_false] at hx
  rcases hx with rfl | rfl
  · exact fro_threat4
  · exact fro_threat4'
theorem fro_well0 : wellN startS 0 0 1 = 0 := (isV_parts fro_is0).1
theorem fro_well1 : wellN fro1 1 1 1 = 0 := (isV_parts fro_is1).1
theorem fro_well2 : wellN fro2 0 2 2 = 0 := (isV_parts fro_is2).1
theorem fro_well3 : wellN fro3 1 3 2 = 0 := (isV_parts fro_is3).1
theorem fro_well4 : wellN fro4 0 4 3 = 0 := by
  rw [fro_back]
  exact well_full (v := 3) (show wellN startS 0 4 1 = 0 by decide +kernel) (by decide) (by decide)
theorem fro_ply1 : plyC fro1 1 1 1 = false ∧ plyL fro1 1 1 1 = [] := by
  obtain ⟨h1, h2⟩ := ply_quiet fro_well1 (by decide +kernel)
  exact ⟨h1, h2.trans fro_chased1⟩
theorem fro_ply4 : plyC fro4 0 4 3 = false ∧ plyL fro4 0 4 3 = [] := by
  obtain ⟨h1, h2⟩ := ply_quiet fro_well4 (by rw [fro_back]; decide +kernel)
  refine ⟨h1, h2.trans ?_⟩
  rw [fro_back]
  exact fro_chased4
/-- A move that gave no check and chased nothing: idle. -/
theorem class_idle {l : List Ps} {m : List (Int × Int)} {side : Int} {j : Nat} {p q : Ps} (hj : j < m.length) (hp : l[j]? = some p) (hy : p.y = side) (hq : l[j + 1]? = some q) (hc : plyC q.s q.y q.z q.u = false) (hl : plyL q.s q.y q.z q.u = []) : classI l m side = 0 := by
  have h1 : ofAt l side j = true := by rw [of_of hp, hy]; simp
  have h2 : ckAt l j = false := by rw [ck_of hq]; exact hc
  refine class_out hj h1 h2 ?_
  rw [kept_succ, h1, if_pos rfl, List.filter_eq_nil_iff]
  intro n _
  unfold hasAt
  rw [h2, ori_of hq, hl]
  simp
theorem fro_class0 : classI froL froM 0 = 0 := class_idle (j := 0) (p := froP0) (q := froP1) (by decide) rfl rfl rfl fro_ply1.1 fro_ply1.2
theorem fro_class1 : classI froL froM 1 = 0 := class_idle (j := 3) (p := froP3) (q := froP4) (by decide) rfl rfl rfl fro_ply4.1 fro_ply4.2
theorem fro_class9 : classI froL [] 0 = 0 := class_len (by decide)
theorem same_not_side {a b : Ps} (h : a.y ≠ b.y) : sameB a b = false := by
  unfold sameB
  rw [show (a.y == b.y) = false by rw [beq_eq_false_iff_ne]; exact h, Bool.and_false]
theorem fro_same04 : sameB froP0 froP4 = true := sameB_iff.2 ⟨fro_back.symm, rfl⟩
theorem fro_same01 : sameB froP0 froP1 = false := same_not_side (by decide)
theorem fro_same13 : sameB froP1 froP3 = false := by
  cases h : sameB froP1 froP3
  · rfl
  · exact absurd (congrArg (fun s => bAt s 0) (sameB_iff.1 h).1) (by decide +kernel)
theorem fro_earlier5 : earlierI froL = 0 := first_hit (i := 0) (by decide) (by show sameAt froL 0 4 = true; exact fro_same04) (fun k hk => absurd hk (by omega))
theorem fro_earlier4 : earlierI (froL.take 4) = -1 := first_none fun k hk => by
  have hk : k < 3 := hk
  show sameAt [froP0, froP1, froP2, froP3] k 3 = false
  rcases k with _ | _ | _ | k
  · exact same_not_side (by decide)
  · exact fro_same13
  · exact same_not_side (by decide)
  · omega
theorem fro_origin1 : originI (froM.take 1) 9 = 0 := by decide
theorem fro_origin0 : originI froM 0 = 0 := by decide
theorem fro_origin5 : originI froM 5 = 5 := by decide
end Go.Proofs.YtbdgbihdhbjljaaGreatDoor

namespace Go.Proofs.YtbdgbihdhbjljaaGreatDoor
open Go.RowKit Go.Shelf
open M (S)

theorem step_value (p : Ps) (m : Int × Int) : ∃ (q : ByteArray) (y z u : Int) (t : Nat) (k : Int), makeV p.s p.y p.z p.u m.1 m.2 = .tuple #[.agg #[.string q, .int .i64 y, .int .i64 z, .int .i64 u], .int .u8 t, .int .i64 k] ∧ ((k = 0 ∧ stepP p m = some ⟨q, y, z, u⟩) ∨ (k ≠ 0 ∧ stepP p m = none)) := by
  cases h : stepP p m with
  | none =>
    obtain ⟨k, hk, e⟩ := make_stop h
    exact ⟨_, _, _, _, 0, k, e, .inr ⟨hk, rfl⟩⟩
  | some q =>
    obtain ⟨t, e⟩ := make_step h
    exact ⟨_, _, _, _, t, 0, e, .inl ⟨rfl, rfl⟩⟩
theorem blk_farY {w w' : World} {r : Option Nat} (h : w.grownBy w' r) {g : Nat} {t : TypeId} {cs : Array Value} (b : Blk w g t cs) (hne : some g ≠ r) : Blk w' g t cs := (h.block g b.lt hne).trans b
theorem row_farY {w w' : World} {r : Option Nat} (h : w.grownBy w' r) {base : Nat} {e : TypeId} {size : Nat} {v : Value} {n : Nat} {xs : List Value} (o : w.ownsRow base e size v n xs) (hne : ∀ k, v.ownBlock = some k → some k ≠ r) : w'.ownsRow base e size v n xs := by
  refine ⟨o.1, ?_⟩
  rcases o.2 with h2 | ⟨g, cap, cur, hv, hg, hc, hr⟩
  · exact .inl h2
  · exact .inr ⟨g, cap, cur, hv, hg, (h.block g (Array.getElem?_eq_some_iff.1 hc).1 (hne g (by rw [hv]; rfl))).trans hc, hr⟩
theorem row_baseY {w : World} {base : Nat} {e : TypeId} {size : Nat} {v : Value} {n : Nat} {xs : List Value} (h : w.ownsRow base e size v n xs) {k : Nat} (hk : v.ownBlock = some k) : base ≤ k := by
  rcases h.2 with ⟨rfl, _⟩ | ⟨g, cap, cur, rfl, hg, _⟩
  · cases hk
  · have : g = k := by simpa [Value.ownBlock] using hk
    omega
/-- Where the game lies that is played: the position, the rows of positions and moves. -/
structure PlayAt (W : World) (g : Nat) (p : Ps) (v1 : Value) (ls : List Ps) (v2 : Value) (ms : List (Int × Int)) : Prop where
  bp : Blk W g 23 #[.string p.s, .int .i64 p.y, .int .i64 p.z, .int .i64 p.u]
  r1 : W.ownsRow (g + 1) 23 4 v1 ls.length (psL ls)
  r2 : W.ownsRow (g + 1) 48 2 v2 ms.length (mzL ms)
  ne : ∀ k, v1.ownBlock = some k → v2.ownBlock ≠ some k
theorem PlayAt.next {W W' : World} {g : Nat} {p : Ps} {v1 v2 : Value} {ls : List Ps} {ms : List (Int × Int)} (h : PlayAt W g p v1 ls v2 ms) (hb : Below W.heap.size W W') : PlayAt W' g p v1 ls v2 ms :=
  ⟨h.bp.next hb, own_next h.r1 hb, own_next h.r2 hb, h.ne⟩
theorem four_frozen {W : World} {g : Nat} {t : TypeId} {cs : Array Value} (h : Blk W g t cs) : W.frozen? ⟨g, 0, none⟩ = false ∧ W.frozen? ⟨g, 1, none⟩ = false ∧ W.frozen? ⟨g, 2, none⟩ = false ∧ W.frozen? ⟨g, 3, none⟩ = false := ⟨h.frozen 0, h.frozen 1, h.frozen 2, h.frozen 3⟩
theorem info_pos4 : (Tryz.prog.info? 23).map (fun i => (i.zero, i.size, i.bytes)) = some (some (.agg #[.string ⟨#[]⟩, .int .i64 0, .int .i64 0, .int .i64 0]), 4, 40) := by kernel_rfl
theorem info_partsY {P : Program} {t : TypeId} {z : Value} {n m : Nat} (h : (P.info? t).map (fun i => (i.zero, i.size, i.bytes)) = some (some z, n, m)) : ∃ i, P.info? t = some i ∧ i.zero = some z ∧ i.size = n ∧ i.bytes = m := by
  cases e : P.info? t with
  | none => rw [e] at h; cases h
  | some i =>
    rw [e] at h
    simp only [Option.map_some, Option.some.injEq, Prod.mk.injEq] at h
    exact ⟨i, rfl, h.1, h.2.1, h.2.2⟩
theorem cells_four_new (w : World) (a b c d : Value) (t : TypeId) : ∀ j u, [a, b, c, d][j]? = some u → (w.alloc (.cells #[a, b, c, d] t)).cell? ((⟨w.heap.size, 0, none⟩ : Addr).add j) = some u := fun j u hu => by
  have hb : Blk (w.alloc (.cells #[a, b, c, d] t)) w.heap.size t #[a, b, c, d] := Blk.new _ _ _ rfl
  have e : (⟨w.heap.size, 0, none⟩ : Addr).add j = ⟨w.heap.size, j, none⟩ := by
    simp only [Addr.add]
    split <;> simp_all
  rw [e, hb.cell j]
  rw [← hu]
  rw [List.getElem?_toArray]
theorem psL_four (ls : List Ps) (q : Ps) : psL ls ++ [.string q.s, .int .i64 q.y, .int .i64 q.z, .int .i64 q.u] = psL (ls ++ [q]) := (psL_snoc ls q).symm
theorem half_play {W4 w5 : World} {H gq : Nat} {p q : Ps} {v1 v1' v2 : Value} {ls : List Ps} {ms : List (Int × Int)} {o : Obj} (h : PlayAt W4 H p v1 ls v2 ms) (bQ : Blk W4 gq 23 #[.string q.s, .int .i64 q.y, .int .i64 q.z, .int .i64 q.u]) (hgq : ∀ k, v1.ownBlock = some k → gq ≠ k)
    (hgrow : (W4.alloc o).grownBy w5 v1.ownBlock) (hown : w5.ownsRow (H + 1) 23 4 v1' (ls.length + 1) (psL ls ++ [.string q.s, .int .i64 q.y, .int .i64 q.z, .int .i64 q.u])) (hat : v1'.ownBlock = v1.ownBlock ∨ v1'.ownBlock = some (W4.alloc o).heap.size) :
    PlayAt w5 H p v1' (ls ++ [q]) v2 ms ∧ Blk w5 gq 23 #[.string q.s, .int .i64 q.y, .int .i64 q.z, .int .i64 q.u] ∧ Below (H + 1) W4 w5 := by
  have hHlt := h.bp.lt
  refine ⟨⟨blk_farY hgrow (h.bp.alloc o) fun e => ?_, ?_, row_farY hgrow (own_next h.r2 (below_new W4 o)) fun k hk e => h.ne k e.symm hk, fun k hk hk2 => ?_⟩, blk_farY hgrow (bQ.alloc o) fun e => hgq gq e.symm rfl, below_app (Below.refl _ _) hHlt h.r1 hgrow⟩
  · have := row_baseY h.r1 e.symm
    omega
  · rw [psL_four] at hown
    rw [List.length_append]
    exact hown
  · rcases hat with e | e
    · exact h.ne k (by rw [← e]; exact hk) hk2
    · rw [hk] at e
      injection e with e
      have := row_own2 h.r2 hk2
      rw [e, World.size_alloc] at this
      omega
theorem full_play {w5 w6 : World} {H gq : Nat} {p q : Ps} {v1 v2 v2' : Value} {ls : List Ps} {ms : List (Int × Int)} {o : Obj} {x y : Int} (h : PlayAt w5 H p v1 ls v2 ms) (bQ : Blk w5 gq 23 #[.string q.s, .int .i64 q.y, .int .i64 q.z, .int .i64 q.u]) (hgq : ∀ k, v2.ownBlock = some k → gq ≠ k)
    (hgrow : (w5.alloc o).grownBy w6 v2.ownBlock) (hown : w6.ownsRow (H + 1) 48 2 v2' (ms.length + 1) (mzL ms ++ [iv x, iv y])) (hat : v2'.ownBlock = v2.ownBlock ∨ v2'.ownBlock = some (w5.alloc o).heap.size) :
    PlayAt w6 H p v1 ls v2' (ms ++ [(x, y)]) ∧ Blk w6 gq 23 #[.string q.s, .int .i64 q.y, .int .i64 q.z, .int .i64 q.u] ∧ Below (H + 1) w5 w6 := by
  have hHlt := h.bp.lt
  refine ⟨⟨blk_farY hgrow (h.bp.alloc o) fun e => ?_, row_farY hgrow (own_next h.r1 (below_new w5 o)) fun k hk e => h.ne k hk e.symm, ?_, fun k hk hk2 => ?_⟩, blk_farY hgrow (bQ.alloc o) fun e => hgq gq e.symm rfl, below_app (Below.refl _ _) hHlt h.r2 hgrow⟩
  · have := row_baseY h.r2 e.symm
    omega
  · rw [mzL_snoc, List.length_append]
    exact hown
  · rcases hat with e | e
    · exact h.ne k hk (by rw [← e]; exact hk2)
    · rw [hk2] at e
      injection e with e
      have := row_own2 h.r1 hk
      rw [e, World.size_alloc] at this
      omega
theorem store_play {w6 : World} {H : Nat} {p : Ps} {v1 v2 : Value} {ls : List Ps} {ms : List (Int × Int)} (h : PlayAt w6 H p v1 ls v2 ms) (q : ByteArray) (y z u : Int) :
    PlayAt ((((w6.setCell ⟨H, 0, none⟩ (.string q)).setCell ⟨H, 1, none⟩ (.int .i64 y)).setCell ⟨H, 2, none⟩ (.int .i64 z)).setCell ⟨H, 3, none⟩ (.int .i64 u)) H ⟨q, y, z, u⟩ v1 ls v2 ms ∧ Below H w6 ((((w6.setCell ⟨H, 0, none⟩ (.string q)).setCell ⟨H, 1, none⟩ (.int .i64 y)).setCell ⟨H, 2, none⟩ (.int .i64 z)).setCell ⟨H, 3, none⟩ (.int .i64 u)) := by
  have n1 : ∀ k, v1.ownBlock = some k → H ≠ k := fun k hk => by have := row_baseY h.r1 hk; omega
  have n2 : ∀ k, v2.ownBlock = some k → H ≠ k := fun k hk => by have := row_baseY h.r2 hk; omega
  exact ⟨⟨(((h.bp.set_ 0 (.string q)).set_ 1 (.int .i64 y)).set_ 2 (.int .i64 z)).set_ 3 (.int .i64 u), row_set2 (row_set2 (row_set2 (row_set2 h.r1 n1) n1) n1) n1, row_set2 (row_set2 (row_set2 (row_set2 h.r2 n2) n2) n2) n2, h.ne⟩,
    ((((Below.refl H w6).setCell (p := ⟨H, 0, none⟩) (Nat.le_refl _) _).setCell (p := ⟨H, 1, none⟩) (Nat.le_refl _) _).setCell (p := ⟨H, 2, none⟩) (Nat.le_refl _) _).setCell (p := ⟨H, 3, none⟩) (Nat.le_refl _) _⟩
theorem playS_none {ls : List Ps} {ms : List (Int × Int)} {c : Ps} {m : Int × Int} (h : stepP c m = none) : playS (ls, ms, c) m = (ls, ms, c) := by
  unfold playS
  rw [h]
theorem playS_some {ls : List Ps} {ms : List (Int × Int)} {c q : Ps} {m : Int × Int} (h : stepP c m = some q) : playS (ls, ms, c) m = (ls ++ [q], ms ++ [m], q) := by
  unfold playS
  rw [h]
end Go.Proofs.YtbdgbihdhbjljaaGreatDoor

namespace Go.Proofs.YtbdgbihdhbjljaaGreatDoor
open Go.RowKit Go.Shelf
open M (S)

theorem own_any {w : World} {base : Nat} {e : TypeId} {size n : Nat} {v : Value} {xs : List Value} (h : w.ownsRow base e size v n xs) : ∃ A c, v = .slice A n c ∧ Rd w A xs ∧ n ≤ c := by
  have hlen := h.1
  rcases h.2 with ⟨rfl, rfl⟩ | ⟨g, cap, cur, rfl, _, hc, hn, _, hs, ht⟩
  · refine ⟨none, 0, rfl, fun j u hu => ?_, Nat.le_refl _⟩
    rw [List.getElem?_eq_none (by omega)] at hu
    cases hu
  · refine ⟨_, _, rfl, fun j u hu => ⟨_, rfl, ?_⟩, hn⟩
    have hj : j < xs.length := by
      rcases Nat.lt_or_ge j xs.length with h | h
      · exact h
      · rw [List.getElem?_eq_none h] at hu
        cases hu
    have e1 : (⟨g, 0, none⟩ : Addr).add j = ⟨g, j, none⟩ := by
      simp only [Addr.add]
      split <;> simp_all
    rw [e1]
    have hb : Blk w g e cur := hc
    rw [hb.cell j, ← hu, ← ht, List.getElem?_take, if_pos (by omega)]
    simp
theorem rd_ptake {w : World} {A : Option Addr} {l : List Ps} (h : Rd w A (psL l)) (k : Nat) : Rd w A (psL (l.take k)) := fun j u hu => by
  refine h j u ?_
  have e : psL l = psL (l.take k) ++ psL (l.drop k) := by rw [← psL_app, List.take_append_drop]
  have hj : j < (psL (l.take k)).length := by
    rcases Nat.lt_or_ge j (psL (l.take k)).length with h | h
    · exact h
    · rw [List.getElem?_eq_none h] at hu
      cases hu
  rw [e, List.getElem?_append_left hj]
  exact hu
theorem rd_nil (w : World) (A : Option Addr) : Rd w A (mzL []) := fun j u hu => by simp [mzL] at hu
end Go.Proofs.YtbdgbihdhbjljaaGreatDoor
