/- Positions that come again; where a piece stood ahead of moves; what a side did along moves: plainly; and what follows. No program in it. -/
import Derived.Test.YtnkbilikkbaeeaaGreatDoorChaseM
namespace Go.Proofs.YtnkbilikkbaeeaaGreatDoor
open Go.RowKit Go.Shelf
open M (S)

/-- A position; how it lies in memory. -/
structure Ps where
  s : ByteArray
  y : Int
  z : Int
  u : Int
def Ps.cs (p : Ps) : List Value := [.string p.s, .int .i64 p.y, .int .i64 p.z, .int .i64 p.u]
def psL (l : List Ps) : List Value := l.flatMap Ps.cs
theorem psL_len (l : List Ps) : (psL l).length = l.length * 4 := by
  induction l with
  | nil => rfl
  | cons x l ih =>
    show (x.cs ++ psL l).length = _
    rw [List.length_append, ih, List.length_cons]
    show 4 + l.length * 4 = _
    omega
theorem psL_app (l r : List Ps) : psL (l ++ r) = psL l ++ psL r := by unfold psL; rw [List.flatMap_append]
theorem psL_snoc (l : List Ps) (x : Ps) : psL (l ++ [x]) = psL l ++ x.cs := by rw [psL_app]; simp [psL]
theorem psL_at (l : List Ps) {k : Nat} (hk : k < l.length) {i : Nat} (hi : i < 4) : (psL l)[k * 4 + i]? = l[k].cs[i]? := by
  induction l generalizing k with
  | nil => exact absurd hk (by simp)
  | cons x r ih =>
    show (x.cs ++ psL r)[k * 4 + i]? = _
    have hx : x.cs.length = 4 := rfl
    cases k with
    | zero => rw [List.getElem?_append_left (by rw [hx]; omega), Nat.zero_mul, Nat.zero_add]; rfl
    | succ k =>
      rw [List.getElem?_append_right (by rw [hx]; omega), hx, show (k + 1) * 4 + i - 4 = k * 4 + i by omega]
      exact ih (by simpa using hk)
/-- Moves of any numbers, as they lie. -/
def mzL (l : List (Int × Int)) : List Value := l.flatMap fun m => [iv m.1, iv m.2]
theorem mzL_len (l : List (Int × Int)) : (mzL l).length = l.length * 2 := by
  induction l with
  | nil => rfl
  | cons x l ih =>
    show ([iv x.1, iv x.2] ++ mzL l).length = _
    rw [List.length_append, ih, show (x :: l).length = l.length + 1 from rfl]
    show 2 + l.length * 2 = _
    omega
theorem mzL_app (l r : List (Int × Int)) : mzL (l ++ r) = mzL l ++ mzL r := by unfold mzL; rw [List.flatMap_append]
theorem mzL_snoc (l : List (Int × Int)) (x : Int × Int) : mzL (l ++ [x]) = mzL l ++ [iv x.1, iv x.2] := by rw [mzL_app]; simp [mzL]
theorem mzL_at (l : List (Int × Int)) {k : Nat} (hk : k < l.length) : (mzL l)[k * 2]? = some (iv l[k].1) ∧ (mzL l)[k * 2 + 1]? = some (iv l[k].2) := by
  induction l generalizing k with
  | nil => exact absurd hk (by simp)
  | cons x r ih =>
    show ([iv x.1, iv x.2] ++ mzL r)[k * 2]? = _ ∧ ([iv x.1, iv x.2] ++ mzL r)[k * 2 + 1]? = _
    cases k with
    | zero => exact ⟨rfl, rfl⟩
    | succ k =>
      rw [List.getElem?_append_right (by simp; omega), List.getElem?_append_right (by simp; omega), show (k + 1) * 2 - [iv x.1, iv x.2].length = k * 2 by simp; omega, show (k + 1) * 2 + 1 - [iv x.1, iv x.2].length = k * 2 + 1 by simp; omega]
      exact ih (by simpa using hk)

/-- The first number below one that is so; -1, if none is. -/
def firstI (p : Nat → Bool) (n : Nat) : Int := match (List.range n).find? p with
  | some i => (i : Int)
  | none => -1
theorem first_hit {p : Nat → Bool} {n i : Nat} (hn : i < n) (hp : p i = true) (h : ∀ k, k < i → p k = false) : firstI p n = (i : Int) := by
  have e : (List.range n).find? p = some i := List.find?_range_eq_some.2 ⟨hp, List.mem_range.2 hn, fun j hj => by rw [h j hj]; rfl⟩
  unfold firstI
  rw [e]
theorem first_none {p : Nat → Bool} {n : Nat} (h : ∀ k, k < n → p k = false) : firstI p n = -1 := by
  have e : (List.range n).find? p = none := List.find?_range_eq_none.2 fun j hj => by rw [h j hj]; rfl
  unfold firstI
  rw [e]
theorem first_cases (p : Nat → Bool) (n : Nat) : (∃ i, i < n ∧ p i = true ∧ (∀ k, k < i → p k = false) ∧ firstI p n = (i : Int)) ∨ ((∀ k, k < n → p k = false) ∧ firstI p n = -1) := by
  cases e : (List.range n).find? p with
  | none =>
    have h := List.find?_range_eq_none.1 e
    have h2 : ∀ k, k < n → p k = false := fun k hk => by
      have := h k hk
      revert this
      cases p k <;> simp
    exact .inr ⟨h2, first_none h2⟩
  | some i =>
    obtain ⟨h1, h2, h3⟩ := List.find?_range_eq_some.1 e
    have h4 : ∀ k, k < i → p k = false := fun k hk => by
      have := h3 k hk
      revert this
      cases p k <;> simp
    exact .inl ⟨i, List.mem_range.1 h2, h1, h4, first_hit (List.mem_range.1 h2) h1 h4⟩
theorem first_same {p q : Nat → Bool} {n : Nat} (h : ∀ k, k < n → p k = q k) : firstI p n = firstI q n := by
  unfold firstI
  rw [find_same (l := List.range n) fun k hk => h k (List.mem_range.1 hk)]

/-- Whether two positions are the same again; which one is the last one's first. -/
def sameB (a b : Ps) : Bool := (a.s.toList == b.s.toList) && (a.y == b.y)
theorem text_inj {s t : ByteArray} (h : s.toList = t.toList) : s = t := by
  rw [ByteArray.toList_eq, ByteArray.toList_eq] at h
  obtain ⟨a⟩ := s
  obtain ⟨b⟩ := t
  have h : a.toList = b.toList := h
  rw [Array.toList_inj.1 h]
def sameAt (l : List Ps) (i j : Nat) : Bool := match l[i]?, l[j]? with
  | some a, some b => sameB a b
  | _, _ => false
def earlierI (l : List Ps) : Int := firstI (fun i => sameAt l i (l.length - 1)) (l.length - 1)
theorem sameAt_of {l : List Ps} {i j : Nat} (hi : i < l.length) (hj : j < l.length) : sameAt l i j = sameB l[i] l[j] := by
  unfold sameAt
  rw [List.getElem?_eq_getElem hi, List.getElem?_eq_getElem hj]

/-- Where a piece stood ahead of moves. -/
def originI (m : List (Int × Int)) (n : Int) : Int := m.foldr (fun x k => if x.2 = k then x.1 else k) n
theorem origin_nil (n : Int) : originI [] n = n := rfl
theorem origin_cons (x : Int × Int) (m : List (Int × Int)) (n : Int) : originI (x :: m) n = if x.2 = originI m n then x.1 else originI m n := rfl
theorem origin_snoc (x : Int × Int) (m : List (Int × Int)) (n : Int) : originI (m ++ [x]) n = originI m (if x.2 = n then x.1 else n) := by
  unfold originI
  rw [List.foldr_append]
  rfl
theorem origin_drop {m : List (Int × Int)} {i : Nat} (hi : i < m.length) (n : Int) : originI (m.drop i) n = if m[i].2 = originI (m.drop (i + 1)) n then m[i].1 else originI (m.drop (i + 1)) n := by
  rw [List.drop_eq_getElem_cons hi, origin_cons]
/-- Moves from squares to squares. -/
def SqM (m : List (Int × Int)) : Prop := ∀ x ∈ m, 0 ≤ x.1 ∧ x.1 < 90 ∧ 0 ≤ x.2 ∧ x.2 < 90
theorem origin_in {m : List (Int × Int)} (h : SqM m) {n : Int} (hn : 0 ≤ n ∧ n < 90) : 0 ≤ originI m n ∧ originI m n < 90 := by
  induction m with
  | nil => exact hn
  | cons x r ih =>
    have ih := ih fun y hy => h y (List.mem_cons_of_mem _ hy)
    obtain ⟨h1, h2, _⟩ := h x (by simp)
    rw [origin_cons]
    split
    · exact ⟨h1, h2⟩
    · exact ih
def turnI (m : Int × Int) : Int × Int := (89 - m.1, 89 - m.2)
theorem origin_turn (m : List (Int × Int)) (n : Int) : originI (m.map turnI) (89 - n) = 89 - originI m n := by
  induction m with
  | nil => rfl
  | cons x r ih =>
    rw [List.map_cons, origin_cons, origin_cons, ih]
    show (if 89 - x.2 = 89 - originI r n then 89 - x.1 else 89 - originI r n) = _
    by_cases h : x.2 = originI r n
    · rw [if_pos h, if_pos (by omega)]
    · rw [if_neg h, if_neg (by omega)]

/-- Whether a position is one ahead of a side's move; what that move did. -/
def ofAt (l : List Ps) (side : Int) (j : Nat) : Bool := match l[j]? with
  | some p => p.y == side
  | none => false
def ckAt (l : List Ps) (j : Nat) : Bool := match l[j + 1]? with
  | some p => plyC p.s p.y p.z p.u
  | none => false
def oriAt (l : List Ps) (m : List (Int × Int)) (j : Nat) : List Int := match l[j + 1]? with
  | some p => (plyL p.s p.y p.z p.u).map (originI (m.take (j + 1)))
  | none => []
def hasAt (l : List Ps) (m : List (Int × Int)) (j : Nat) (n : Nat) : Bool := ckAt l j || (oriAt l m j).contains (n : Int)
def pliesN (l : List Ps) (side : Int) (k : Nat) : List Nat := (List.range k).filter (ofAt l side)
def keptN (l : List Ps) (m : List (Int × Int)) (side : Int) (k : Nat) : List Nat := (List.range 90).filter fun n => (pliesN l side k).all fun j => hasAt l m j n
/-- What a side did. -/
def classI (l : List Ps) (m : List (Int × Int)) (side : Int) : Int :=
  if l.length ≠ m.length + 1 ∨ pliesN l side m.length = [] then 0
  else if (pliesN l side m.length).all (ckAt l) then 2
  else if keptN l m side m.length ≠ [] then 1 else 0
theorem plies_succ (l : List Ps) (side : Int) (k : Nat) : pliesN l side (k + 1) = if ofAt l side k then pliesN l side k ++ [k] else pliesN l side k := by
  unfold pliesN
  rw [List.range_succ, List.filter_append, List.filter_cons]
  cases ofAt l side k <;> simp
theorem kept_zero (l : List Ps) (m : List (Int × Int)) (side : Int) : keptN l m side 0 = List.range 90 := by
  unfold keptN pliesN
  rw [List.range_zero, List.filter_nil]
  simp
theorem kept_succ (l : List Ps) (m : List (Int × Int)) (side : Int) (k : Nat) : keptN l m side (k + 1) = if ofAt l side k then (keptN l m side k).filter (hasAt l m k) else keptN l m side k := by
  unfold keptN
  rw [plies_succ]
  cases ofAt l side k
  · simp
  · rw [if_pos rfl, if_pos rfl, List.filter_filter]
    refine List.filter_congr fun n _ => ?_
    rw [List.all_append, Bool.and_comm]
    simp
theorem kept_ck {l : List Ps} {m : List (Int × Int)} {side : Int} {k : Nat} (h : ckAt l k = true) : keptN l m side (k + 1) = keptN l m side k := by
  rw [kept_succ]
  split
  · rw [List.filter_eq_self]
    intro n _
    unfold hasAt
    rw [h, Bool.true_or]
  · rfl
theorem kept_mono {l : List Ps} {m : List (Int × Int)} {side : Int} {k : Nat} (h : keptN l m side k = []) : ∀ d, keptN l m side (k + d) = []
  | 0 => h
  | d + 1 => by
    rw [show k + (d + 1) = (k + d) + 1 from rfl, kept_succ, kept_mono h d]
    split <;> rfl
theorem plies_pre (l : List Ps) (side : Int) (k d : Nat) : ∃ r, pliesN l side (k + d) = pliesN l side k ++ r := by
  induction d with
  | zero => exact ⟨[], by simp⟩
  | succ d ih =>
    obtain ⟨r, hr⟩ := ih
    rw [show k + (d + 1) = (k + d) + 1 from rfl, plies_succ, hr]
    split
    · exact ⟨r ++ [k + d], by rw [List.append_assoc]⟩
    · exact ⟨r, rfl⟩
/-- A ply that gave no check, behind which nothing is left: idle. -/
theorem class_out {l : List Ps} {m : List (Int × Int)} {side : Int} {j : Nat} (hj : j < m.length) (hof : ofAt l side j = true) (hck : ckAt l j = false) (hk : keptN l m side (j + 1) = []) : classI l m side = 0 := by
  unfold classI
  obtain ⟨r, hr⟩ := plies_pre l side (j + 1) (m.length - (j + 1))
  rw [show j + 1 + (m.length - (j + 1)) = m.length by omega] at hr
  have hk2 := kept_mono hk (m.length - (j + 1))
  rw [show j + 1 + (m.length - (j + 1)) = m.length by omega] at hk2
  have hall : (pliesN l side m.length).all (ckAt l) = false := by
    rw [hr, plies_succ, hof, if_pos rfl, List.all_append, List.all_append]
    simp [hck]
  rw [hall, hk2]
  split
  · rfl
  · simp
/-- What is told at the end. -/
theorem class_end {l : List Ps} {m : List (Int × Int)} {side : Int} (hl : l.length = m.length + 1) {checked chased : Bool} (h1 : checked = (pliesN l side m.length).any (ckAt l)) (h2 : chased = (pliesN l side m.length).any fun j => !ckAt l j) (h3 : chased = true → keptN l m side m.length ≠ []) : classI l m side = if chased then 1 else if checked then 2 else 0 := by
  unfold classI
  cases hp : pliesN l side m.length with
  | nil =>
    rw [hp] at h1 h2
    rw [h1, h2]
    simp
  | cons a r =>
    rw [if_neg (by rw [hl]; simp)]
    cases hc : chased with
    | true =>
      rw [hc, hp] at h2
      have : (a :: r).all (ckAt l) = false := by
        rw [List.all_eq_not_any_not, ← h2]
        rfl
      rw [this, if_pos (h3 hc)]
      rfl
    | false =>
      rw [hc, hp] at h2
      have : (a :: r).all (ckAt l) = true := by
        rw [List.all_eq_not_any_not, ← h2]
        rfl
      rw [this]
      have hc1 : checked = true := by
        rw [h1, hp, List.any_cons]
        rw [List.all_cons, Bool.and_eq_true] at this
        rw [this.1]
        rfl
      rw [hc1]
      rfl
theorem class_len {l : List Ps} {m : List (Int × Int)} {side : Int} (h : l.length ≠ m.length + 1) : classI l m side = 0 := by
  unfold classI
  rw [if_pos (.inl h)]
theorem class_range (l : List Ps) (m : List (Int × Int)) (side : Int) : classI l m side = 0 ∨ classI l m side = 1 ∨ classI l m side = 2 := by
  unfold classI
  split
  · exact .inl rfl
  · split
    · exact .inr (.inr rfl)
    · split
      · exact .inr (.inl rfl)
      · exact .inl rfl
/-- Nobody's moves: idle. -/
theorem class_nobody {l : List Ps} {m : List (Int × Int)} {side : Int} (h : ∀ j, j < m.length → ofAt l side j = false) : classI l m side = 0 := by
  unfold classI
  rw [if_pos]
  refine .inr ?_
  unfold pliesN
  rw [List.filter_eq_nil_iff]
  intro j hj
  rw [h j (List.mem_range.1 hj)]
  simp
/-- What is alike move by move is of one class. -/
theorem class_same {l k : List Ps} {m n : List (Int × Int)} {a b : Int} (hl : l.length = k.length) (hm : m.length = n.length) (ho : ∀ j, j < m.length → ofAt l a j = ofAt k b j) (hc : ∀ j, j < m.length → ckAt l j = ckAt k j) (f : Nat → Nat) (hf : ∀ i, i < 90 → f i < 90 ∧ f (f i) = i) (hh : ∀ (j i : Nat), j < m.length → i < 90 → (oriAt l m j).contains (i : Int) = (oriAt k n j).contains ((f i : Nat) : Int)) : classI l m a = classI k n b := by
  have e1 : pliesN l a m.length = pliesN k b n.length := by
    unfold pliesN
    rw [← hm]
    exact List.filter_congr fun j hj => ho j (List.mem_range.1 hj)
  have hin : ∀ j ∈ pliesN l a m.length, j < m.length := fun j hj => List.mem_range.1 (List.mem_filter.1 hj).1
  have e2 : (pliesN l a m.length).all (ckAt l) = (pliesN l a m.length).all (ckAt k) := by
    rw [Bool.eq_iff_iff, List.all_eq_true, List.all_eq_true]
    exact ⟨fun h j hj => by rw [← hc j (hin j hj)]; exact h j hj, fun h j hj => by rw [hc j (hin j hj)]; exact h j hj⟩
  have e4 : ∀ i, i < 90 → ((pliesN l a m.length).all fun j => hasAt l m j i) = (pliesN l a m.length).all fun j => hasAt k n j (f i) := fun i hi => by
    rw [Bool.eq_iff_iff, List.all_eq_true, List.all_eq_true]
    have e : ∀ j ∈ pliesN l a m.length, hasAt l m j i = hasAt k n j (f i) := fun j hj => by
      unfold hasAt
      rw [hc j (hin j hj), hh j i (hin j hj) hi]
    exact ⟨fun h j hj => by rw [← e j hj]; exact h j hj, fun h j hj => by rw [e j hj]; exact h j hj⟩
  have e3 : keptN l m a m.length = [] ↔ keptN k n b n.length = [] := by
    unfold keptN
    rw [← e1, List.filter_eq_nil_iff, List.filter_eq_nil_iff]
    constructor
    · intro h i hi
      have hi := List.mem_range.1 hi
      obtain ⟨h1, h2⟩ := hf i hi
      have := h (f i) (List.mem_range.2 h1)
      rw [e4 (f i) h1, h2] at this
      exact this
    · intro h i hi
      have hi := List.mem_range.1 hi
      rw [e4 i hi]
      exact h (f i) (List.mem_range.2 (hf i hi).1)
  have e5 : pliesN k b m.length = pliesN l a m.length := by rw [e1, hm]
  unfold classI
  rw [hl, ← hm, e2, e5]
  by_cases h : keptN l m a m.length = []
  · have h2 := e3.1 h
    rw [← hm] at h2
    rw [h, h2]
  · have h2 : keptN k n b n.length ≠ [] := fun e => h (e3.2 e)
    rw [← hm] at h2
    rw [if_pos (c := keptN l m a m.length ≠ []) h, if_pos (c := keptN k n b m.length ≠ []) h2]
end Go.Proofs.YtnkbilikkbaeeaaGreatDoor
