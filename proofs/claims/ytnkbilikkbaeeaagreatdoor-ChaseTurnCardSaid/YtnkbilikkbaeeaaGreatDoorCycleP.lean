/- What comes again, and what a side did, seen from the other side; whatever clocks and numbers are: plainly. No program in it. -/
import Derived.Test.YtnkbilikkbaeeaaGreatDoorCycleB
namespace Go.Proofs.YtnkbilikkbaeeaaGreatDoor
open Go.RowKit Go.Shelf
open M (S)

/-- Two lists, item by item. -/
structure Pair (R : Ps → Ps → Prop) (l k : List Ps) : Prop where
  len : l.length = k.length
  at_ : ∀ (j : Nat) (a b : Ps), l[j]? = some a → k[j]? = some b → R a b
theorem pair_get {R : Ps → Ps → Prop} {l k : List Ps} (h : Pair R l k) {j : Nat} {a : Ps} (ha : l[j]? = some a) : ∃ b, k[j]? = some b ∧ R a b := by
  have hj : j < l.length := by
    rcases Nat.lt_or_ge j l.length with h | h
    · exact h
    · rw [List.getElem?_eq_none h] at ha
      cases ha
  have hb : k[j]? = some (k[j]'(by rw [← h.len]; exact hj)) := List.getElem?_eq_getElem _
  exact ⟨_, hb, h.at_ j _ _ ha hb⟩
theorem pair_none {R : Ps → Ps → Prop} {l k : List Ps} (h : Pair R l k) {j : Nat} (ha : l[j]? = none) : k[j]? = none := by
  rw [List.getElem?_eq_none_iff] at ha ⊢
  rw [← h.len]
  exact ha
theorem pair_one {R : Ps → Ps → Prop} {a b : Ps} (h : R a b) : Pair R [a] [b] := ⟨rfl, fun j x y hx hy => by
  cases j with
  | zero =>
    simp only [List.length_cons, List.length_nil, Nat.zero_add, Nat.lt_add_one, List.getElem?_eq_getElem, List.getElem_cons_zero, Option.some.injEq] at hx hy
    subst hx hy
    exact h
  | succ j => simp at hx⟩
theorem pair_snoc {R : Ps → Ps → Prop} {l k : List Ps} {a b : Ps} (h : Pair R l k) (hr : R a b) : Pair R (l ++ [a]) (k ++ [b]) := by
  refine ⟨by simp [h.len], fun j x y hx hy => ?_⟩
  rcases Nat.lt_trichotomy j l.length with e | e | e
  · rw [List.getElem?_append_left e] at hx
    rw [List.getElem?_append_left (by rw [← h.len]; exact e)] at hy
    exact h.at_ j x y hx hy
  · subst e
    rw [List.getElem?_append_right (Nat.le_refl _), Nat.sub_self] at hx
    rw [List.getElem?_append_right (by rw [h.len]; exact Nat.le_refl _), h.len, Nat.sub_self] at hy
    simp only [List.length_cons, List.length_nil, Nat.zero_add, Nat.lt_add_one, List.getElem?_eq_getElem, List.getElem_cons_zero, Option.some.injEq] at hx hy
    subst hx hy
    exact hr
  · rw [List.getElem?_eq_none (by simp; omega)] at hx
    cases hx
theorem pair_drop {R : Ps → Ps → Prop} {l k : List Ps} (h : Pair R l k) (i : Nat) : Pair R (l.drop i) (k.drop i) := by
  refine ⟨by rw [List.length_drop, List.length_drop, h.len], fun j x y hx hy => ?_⟩
  rw [List.getElem?_drop] at hx hy
  exact h.at_ _ x y hx hy
theorem pair_map {R : Ps → Ps → Prop} {l : List Ps} (f : Ps → Ps) (h : ∀ (j : Nat) (a : Ps), l[j]? = some a → R a (f a)) : Pair R l (l.map f) := by
  refine ⟨by rw [List.length_map], fun j a b ha hb => ?_⟩
  rw [List.getElem?_map, ha] at hb
  injection hb with hb
  subst hb
  exact h j a ha
theorem sameAt_pair {R : Ps → Ps → Prop} (hR : ∀ a b x y, R a b → R x y → sameB a x = sameB b y) {l k : List Ps} (h : Pair R l k) (i j : Nat) : sameAt l i j = sameAt k i j := by
  unfold sameAt
  cases hi : l[i]? with
  | none => rw [pair_none h hi]
  | some a =>
    obtain ⟨b, hb, h1⟩ := pair_get h hi
    rw [hb]
    cases hj : l[j]? with
    | none => rw [pair_none h hj]
    | some x =>
      obtain ⟨y, hy, h2⟩ := pair_get h hj
      rw [hy]
      exact hR a b x y h1 h2
theorem earlier_pair {R : Ps → Ps → Prop} (hR : ∀ a b x y, R a b → R x y → sameB a x = sameB b y) {l k : List Ps} (h : Pair R l k) : earlierI l = earlierI k := by
  unfold earlierI
  rw [← h.len]
  exact first_same fun i _ => sameAt_pair hR h i _
theorem sameB_iff {a b : Ps} : sameB a b = true ↔ a.s = b.s ∧ a.y = b.y := by
  unfold sameB
  rw [Bool.and_eq_true, beq_iff_eq, beq_iff_eq]
  exact ⟨fun h => ⟨text_inj h.1, h.2⟩, fun h => ⟨by rw [h.1], h.2⟩⟩
theorem same_turn (a b x y : Ps) (h : TurnP a b) (k : TurnP x y) : sameB a x = sameB b y := by
  rw [Bool.eq_iff_iff, sameB_iff, sameB_iff, h.s, k.s, h.y, k.y]
  constructor
  · rintro ⟨h1, h2⟩
    rw [h1, h2]
    exact ⟨rfl, rfl⟩
  · rintro ⟨h1, h2⟩
    have e := congrArg turnB h1
    rw [turn_turn (Ps.board h.wa), turn_turn (Ps.board k.wa)] at e
    exact ⟨e, by omega⟩
/-- Two positions that are the same but for their numbers. -/
structure LikeP (a b : Ps) : Prop where
  wa : a.well = 0
  wb : b.well = 0
  s : b.s = a.s
  y : b.y = a.y
theorem same_like (a b x y : Ps) (h : LikeP a b) (k : LikeP x y) : sameB a x = sameB b y := by
  unfold sameB
  rw [h.s, k.s, h.y, k.y]
theorem ck_of {l : List Ps} {j : Nat} {p : Ps} (h : l[j + 1]? = some p) : ckAt l j = plyC p.s p.y p.z p.u := by
  unfold ckAt
  rw [h]
theorem of_of {l : List Ps} {j : Nat} {p : Ps} (h : l[j]? = some p) (side : Int) : ofAt l side j = (p.y == side) := by
  unfold ofAt
  rw [h]
theorem ori_of {l : List Ps} {m : List (Int × Int)} {j : Nat} {p : Ps} (h : l[j + 1]? = some p) : oriAt l m j = (plyL p.s p.y p.z p.u).map (originI (m.take (j + 1))) := by
  unfold oriAt
  rw [h]
theorem plyC_turn {a b : Ps} (h : TurnP a b) : plyC b.s b.y b.z b.u = plyC a.s a.y a.z a.u := by
  have h1 : wellN a.s a.y a.z a.u = 0 := h.wa
  have h2 : wellN b.s b.y b.z b.u = 0 := h.wb
  unfold plyC
  rw [decide_eq_true h1, decide_eq_true h2, h.s, h.y, in_turn (Ps.board h.wa) (Ps.kings h.wa).2.1 (Ps.kings h.wa).2.2 (Ps.side h.wa)]
theorem plyL_turn {a b : Ps} (h : TurnP a b) : plyL b.s b.y b.z b.u = ((plyL a.s a.y a.z a.u).map fun k => 89 - k).reverse := by
  have h1 : wellN a.s a.y a.z a.u = 0 := h.wa
  have h2 : wellN b.s b.y b.z b.u = 0 := h.wb
  have h3 := in_turn (Ps.board h.wa) (Ps.kings h.wa).2.1 (Ps.kings h.wa).2.2 (Ps.side h.wa)
  have hsd := Ps.side h.wa
  unfold plyL
  by_cases hi : inB a.s a.y = false
  · rw [if_pos ⟨h2, by rw [h.s, h.y, h3]; exact hi⟩, if_pos ⟨h1, hi⟩, chasedL_map, chasedL_map, h.s, h.y, chasedN_turn (Ps.board h.wa) (few_of_well h1) (side := 1 - a.y) (by omega), List.map_reverse, List.map_map, List.map_map]
    congr 1
    refine List.map_congr_left fun k hk => ?_
    have := List.mem_range.1 (List.mem_filter.1 hk).1
    show ((89 - k : Nat) : Int) = 89 - (k : Int)
    omega
  · rw [if_neg fun e => hi (by rw [← h3, ← h.s, ← h.y]; exact e.2), if_neg fun e => hi e.2]
    rfl
theorem plyC_like {a b : Ps} (h : LikeP a b) : plyC b.s b.y b.z b.u = plyC a.s a.y a.z a.u := by
  have h1 : wellN a.s a.y a.z a.u = 0 := h.wa
  have h2 : wellN b.s b.y b.z b.u = 0 := h.wb
  unfold plyC
  rw [decide_eq_true h1, decide_eq_true h2, h.s, h.y]
theorem plyL_like {a b : Ps} (h : LikeP a b) : plyL b.s b.y b.z b.u = plyL a.s a.y a.z a.u := by
  have h1 : wellN a.s a.y a.z a.u = 0 := h.wa
  have h2 : wellN b.s b.y b.z b.u = 0 := h.wb
  unfold plyL
  by_cases hi : inB a.s a.y = false
  · rw [if_pos ⟨h2, by rw [h.s, h.y]; exact hi⟩, if_pos ⟨h1, hi⟩, h.s, h.y]
  · rw [if_neg fun e => hi (by rw [← h.s, ← h.y]; exact e.2), if_neg fun e => hi e.2]
theorem class_turn {l k : List Ps} (h : Pair TurnP l k) (m : List (Int × Int)) (side : Int) : classI l m side = classI k (m.map turnI) (1 - side) := by
  by_cases hl : l.length = m.length + 1
  · have hin : ∀ j, j < m.length → (∃ p, l[j]? = some p) ∧ ∃ p, l[j + 1]? = some p := fun j hj => ⟨⟨_, List.getElem?_eq_getElem (by omega)⟩, ⟨_, List.getElem?_eq_getElem (by omega)⟩⟩
    refine class_same h.len (by rw [List.length_map]) (fun j hj => ?_) (fun j hj => ?_) (fun i => 89 - i) (fun i hi => ⟨by omega, by omega⟩) (fun j i hj hi => ?_)
    · obtain ⟨⟨p, hp⟩, _⟩ := hin j hj
      obtain ⟨q, hq, hr⟩ := pair_get h hp
      rw [of_of hp, of_of hq, hr.y, Bool.eq_iff_iff, beq_iff_eq, beq_iff_eq]
      omega
    · obtain ⟨_, ⟨p, hp⟩⟩ := hin j hj
      obtain ⟨q, hq, hr⟩ := pair_get h hp
      rw [ck_of hp, ck_of hq, plyC_turn hr]
    · obtain ⟨_, ⟨p, hp⟩⟩ := hin j hj
      obtain ⟨q, hq, hr⟩ := pair_get h hp
      rw [ori_of hp, ori_of hq, plyL_turn hr, Bool.eq_iff_iff, List.contains_iff_mem, List.contains_iff_mem, List.mem_map, List.mem_map]
      constructor
      · rintro ⟨c, hc, he⟩
        refine ⟨89 - c, List.mem_reverse.2 (List.mem_map.2 ⟨c, hc, rfl⟩), ?_⟩
        rw [← List.map_take, origin_turn, he]
        omega
      · rintro ⟨c, hc, he⟩
        obtain ⟨d, hd, rfl⟩ := List.mem_map.1 (List.mem_reverse.1 hc)
        refine ⟨d, hd, ?_⟩
        rw [← List.map_take, origin_turn] at he
        omega
  · rw [class_len hl, class_len (by rw [← h.len, List.length_map]; exact hl)]
theorem class_like {l k : List Ps} (h : Pair LikeP l k) (m : List (Int × Int)) (side : Int) : classI l m side = classI k m side := by
  by_cases hl : l.length = m.length + 1
  · have hin : ∀ j, j < m.length → (∃ p, l[j]? = some p) ∧ ∃ p, l[j + 1]? = some p := fun j hj => ⟨⟨_, List.getElem?_eq_getElem (by omega)⟩, ⟨_, List.getElem?_eq_getElem (by omega)⟩⟩
    refine class_same h.len rfl (fun j hj => ?_) (fun j hj => ?_) (fun i => i) (fun i hi => ⟨hi, rfl⟩) (fun j i hj hi => ?_)
    · obtain ⟨⟨p, hp⟩, _⟩ := hin j hj
      obtain ⟨q, hq, hr⟩ := pair_get h hp
      rw [of_of hp, of_of hq, hr.y]
    · obtain ⟨_, ⟨p, hp⟩⟩ := hin j hj
      obtain ⟨q, hq, hr⟩ := pair_get h hp
      rw [ck_of hp, ck_of hq, plyC_like hr]
    · obtain ⟨_, ⟨p, hp⟩⟩ := hin j hj
      obtain ⟨q, hq, hr⟩ := pair_get h hp
      rw [ori_of hp, ori_of hq, plyL_like hr]
  · rw [class_len hl, class_len (by rw [← h.len]; exact hl)]
end Go.Proofs.YtnkbilikkbaeeaaGreatDoor
