/- Rows in memory of one's own that are filtered in place: what a store, a cut, a clearing leave of them; the list's side of it. No program in it. -/
import Derived.Test.YtbdgbihdhbjljaaGreatDoorReachA
import Derived.Lib.SliceRun
namespace Go.Proofs.YtbdgbihdhbjljaaGreatDoor
open Go.RowKit Go.Shelf
open M (S)

theorem own_mono {w : World} {base base' : Nat} {e : TypeId} {size : Nat} {v : Value} {n : Nat} {xs : List Value} (h : w.ownsRow base e size v n xs) (hb : base' ≤ base) : w.ownsRow base' e size v n xs := by
  refine ⟨h.1, ?_⟩
  rcases h.2 with h2 | ⟨g, cap, cur, hv, hg, hr⟩
  · exact .inl h2
  · exact .inr ⟨g, cap, cur, hv, Nat.le_trans hb hg, hr⟩
/-- A row that is n elements of k cells each, at the start of a block of one's own. -/
def RowAt (w : World) (base : Nat) (e : TypeId) (k g n cap : Nat) (xs : List Value) : Prop :=
  xs.length = n * k ∧ base ≤ g ∧ n ≤ cap ∧ cap ≤ maxLen ∧ ∃ cur : Array Value, w.heap[g]? = some (.cells cur e (0, 0)) ∧ cur.size = cap * k ∧ cur.toList.take (n * k) = xs
theorem RowAt.own {w : World} {base : Nat} {e : TypeId} {k g n cap : Nat} {xs : List Value} (h : RowAt w base e k g n cap xs) : w.ownsRow base e k (.slice (some ⟨g, 0, none⟩) n cap) n xs := by
  obtain ⟨h1, h2, h3, h4, cur, h5, h6, h7⟩ := h
  exact ⟨h1, .inr ⟨g, cap, cur, rfl, h2, h5, h3, h4, h6, h7⟩⟩
theorem row_of_own {w : World} {base : Nat} {e : TypeId} {k n : Nat} {v : Value} {xs : List Value} (h : w.ownsRow base e k v n xs) : (v = .slice none 0 0 ∧ n = 0) ∨ ∃ g cap, v = .slice (some ⟨g, 0, none⟩) n cap ∧ RowAt w base e k g n cap xs := by
  obtain ⟨h1, h2⟩ := h
  rcases h2 with h2 | ⟨g, cap, cur, hv, hg, hc, hn, hm, hs, ht⟩
  · exact .inl h2
  · exact .inr ⟨g, cap, hv, h1, hg, hn, hm, cur, hc, hs, ht⟩
theorem RowAt.lt {w : World} {base : Nat} {e : TypeId} {k g n cap : Nat} {xs : List Value} (h : RowAt w base e k g n cap xs) : g < w.heap.size := by
  obtain ⟨_, _, _, _, cur, h5, _⟩ := h
  exact (Array.getElem?_eq_some_iff.1 h5).1
theorem RowAt.next {w w' : World} {base : Nat} {e : TypeId} {k g n cap : Nat} {xs : List Value} (h : RowAt w base e k g n cap xs) (hb : Below w.heap.size w w') : RowAt w' base e k g n cap xs := by
  have hl := h.lt
  obtain ⟨h1, h2, h3, h4, cur, h5, h6, h7⟩ := h
  exact ⟨h1, h2, h3, h4, cur, (hb.block g hl).trans h5, h6, h7⟩
theorem RowAt.cell {w : World} {base : Nat} {e : TypeId} {k g n cap : Nat} {xs : List Value} (h : RowAt w base e k g n cap xs) {q : Nat} (hq : q < n * k) : w.cell? ⟨g, q, none⟩ = xs[q]? := by
  obtain ⟨h1, h2, h3, h4, cur, h5, h6, h7⟩ := h
  have hb : Blk w g e cur := h5
  rw [hb.cell q, ← h7, List.getElem?_take, if_pos hq, Array.getElem?_toList]
theorem RowAt.frozen {w : World} {base : Nat} {e : TypeId} {k g n cap : Nat} {xs : List Value} (h : RowAt w base e k g n cap xs) (q : Nat) : w.frozen? ⟨g, q, none⟩ = false := by
  obtain ⟨h1, h2, h3, h4, cur, h5, h6, h7⟩ := h
  have hb : Blk w g e cur := h5
  exact hb.frozen q
theorem RowAt.set {w : World} {base : Nat} {e : TypeId} {k g n cap : Nat} {xs : List Value} (h : RowAt w base e k g n cap xs) (q : Nat) (u : Value) : RowAt (w.setCell ⟨g, q, none⟩ u) base e k g n cap (xs.set q u) := by
  obtain ⟨h1, h2, h3, h4, cur, h5, h6, h7⟩ := h
  have hb : Blk w g e cur := h5
  refine ⟨by rw [List.length_set]; exact h1, h2, h3, h4, cur.setIfInBounds q u, hb.set_ q u, by rw [Array.size_setIfInBounds]; exact h6, ?_⟩
  rw [Array.toList_setIfInBounds, List.take_set, h7]
theorem RowAt.below {w w0 : World} {base : Nat} {e : TypeId} {k g n cap : Nat} {xs : List Value} (h : RowAt w base e k g n cap xs) (hb : Below base w0 w) (q : Nat) (u : Value) : Below base w0 (w.setCell ⟨g, q, none⟩ u) := hb.setCell (p := ⟨g, q, none⟩) h.2.1 u
theorem RowAt.cut {w : World} {base : Nat} {e : TypeId} {k g n cap : Nat} {xs : List Value} (h : RowAt w base e k g n cap xs) {i : Nat} (hi : i ≤ n) : RowAt w base e k g i cap (xs.take (i * k)) := by
  obtain ⟨h1, h2, h3, h4, cur, h5, h6, h7⟩ := h
  have hik : i * k ≤ n * k := Nat.mul_le_mul_right k hi
  refine ⟨by rw [List.length_take]; omega, h2, by omega, h4, cur, h5, h6, ?_⟩
  rw [← h7, List.take_take, Nat.min_eq_left hik]
theorem RowAt.sets {base : Nat} {e : TypeId} {k g n cap : Nat} {w0 : World} : ∀ (us : List Value) (o : Nat) (w : World) (xs : List Value), RowAt w base e k g n cap xs → Below base w0 w → ∃ ys, RowAt (w.setCells g o us) base e k g n cap ys ∧ ys.take o = xs.take o ∧ Below base w0 (w.setCells g o us)
  | [], _, _, xs, h, hb => ⟨xs, h, rfl, hb⟩
  | u :: us, o, w, xs, h, hb => by
    obtain ⟨ys, h1, h2, h3⟩ := RowAt.sets us (o + 1) _ _ (h.set o u) (h.below hb o u)
    refine ⟨ys, h1, ?_, h3⟩
    have : ys.take o = (ys.take (o + 1)).take o := by rw [List.take_take, Nat.min_eq_left (by omega)]
    rw [this, h2, List.take_take, Nat.min_eq_left (by omega), List.take_set, List.set_eq_of_length_le (by rw [List.length_take]; omega)]

-- the list's side
section
variable {α : Type} {enc : α → List Value} {k : Nat}
/-- What the row holds when j elements are done: those that are kept, something, the rest. -/
def Mid (enc : α → List Value) (k : Nat) (p : α → Bool) (l : List α) (i j : Nat) (xs : List Value) : Prop :=
  i = ((l.take j).filter fun x => !p x).length ∧ j ≤ l.length ∧ i ≤ j ∧ ∃ J, J.length = (j - i) * k ∧ xs = ((l.take j).filter fun x => !p x).flatMap enc ++ J ++ (l.drop j).flatMap enc
theorem flat_len (hk : ∀ x, (enc x).length = k) (l : List α) : (l.flatMap enc).length = l.length * k := by
  induction l with
  | nil => simp
  | cons x l ih => rw [List.flatMap_cons, List.length_append, hk, ih, List.length_cons, Nat.add_mul]; omega
theorem flat_at (hk : ∀ x, (enc x).length = k) (l : List α) {j o : Nat} (hj : j < l.length) (ho : o < k) : (l.flatMap enc)[j * k + o]? = (enc l[j])[o]? := by
  induction l generalizing j with
  | nil => exact absurd hj (Nat.not_lt_zero _)
  | cons x l ih =>
    rw [List.flatMap_cons]
    cases j with
    | zero => rw [List.getElem?_append_left (by rw [hk]; omega), Nat.zero_mul, Nat.zero_add]; rfl
    | succ j =>
      rw [List.getElem?_append_right (by rw [hk, Nat.add_mul]; omega), hk, show (j + 1) * k + o - k = j * k + o by rw [Nat.add_mul]; omega, ih (by simpa using hj)]
      rfl
theorem Mid.start (hk : ∀ x, (enc x).length = k) {p : α → Bool} {l : List α} {i : Nat} (hi : i < l.length) (hp : p l[i] = true) (hne : ∀ t (ht : t < i), p l[t] = false) : Mid enc k p l i (i + 1) (l.flatMap enc) := by
  have h1 : (l.take i).filter (fun x => !p x) = l.take i := by
    rw [List.filter_eq_self]
    intro a ha
    obtain ⟨t, ht, rfl⟩ := List.mem_iff_getElem.1 ha
    rw [List.length_take] at ht
    rw [List.getElem_take, hne t (by omega)]
    rfl
  have h2 : (l.take (i + 1)).filter (fun x => !p x) = l.take i := by
    rw [List.take_succ_eq_append_getElem hi, List.filter_append, h1]
    simp [hp]
  refine ⟨by rw [h2, List.length_take]; omega, by omega, by omega, enc l[i], by rw [hk]; simp, ?_⟩
  rw [h2]
  conv => lhs; rw [← List.take_append_drop (i + 1) l, List.flatMap_append, List.take_succ_eq_append_getElem hi, List.flatMap_append]
  simp
theorem Mid.at_ (hk : ∀ x, (enc x).length = k) {p : α → Bool} {l : List α} {i j : Nat} {xs : List Value} (h : Mid enc k p l i j xs) (hj : j < l.length) {o : Nat} (ho : o < k) : xs[j * k + o]? = (enc l[j])[o]? := by
  obtain ⟨h1, h2, h3, J, h4, rfl⟩ := h
  have hl : (((l.take j).filter fun x => !p x).flatMap enc ++ J).length = j * k := by
    rw [List.length_append, flat_len hk, ← h1, h4, ← Nat.add_mul]
    congr 1
    omega
  rw [List.getElem?_append_right (by rw [hl]; omega), hl, show j * k + o - j * k = o by omega]
  have h5 := flat_at hk (l.drop j) (j := 0) (o := o) (by rw [List.length_drop]; omega) ho
  rw [Nat.zero_mul, Nat.zero_add] at h5
  rw [h5, List.getElem_drop]
  rfl
theorem Mid.skip {p : α → Bool} {l : List α} {i j : Nat} {xs : List Value} (hk : ∀ x, (enc x).length = k) (h : Mid enc k p l i j xs) (hj : j < l.length) (hp : p l[j] = true) : Mid enc k p l i (j + 1) xs := by
  obtain ⟨h1, h2, h3, J, h4, rfl⟩ := h
  have h5 : (l.take (j + 1)).filter (fun x => !p x) = (l.take j).filter fun x => !p x := by
    rw [List.take_succ_eq_append_getElem hj, List.filter_append]
    simp [hp]
  refine ⟨by rw [h5]; exact h1, by omega, by omega, J ++ enc l[j], ?_, ?_⟩
  · rw [List.length_append, h4, hk, show j + 1 - i = (j - i) + 1 by omega, Nat.add_mul]
    omega
  · rw [h5, List.drop_eq_getElem_cons hj, List.flatMap_cons]
    simp
/-- An element's cells written behind those that are kept. -/
def puts : List Value → Nat → List Value → List Value
  | xs, _, [] => xs
  | xs, o, u :: us => puts (xs.set o u) (o + 1) us
theorem puts_mid (A : List Value) : ∀ (us J D : List Value), us.length ≤ J.length → puts (A ++ J ++ D) A.length us = A ++ us ++ J.drop us.length ++ D := by
  intro us
  induction us generalizing A with
  | nil => intro J D _; simp [puts]
  | cons u us ih =>
    intro J D h
    cases J with
    | nil => simp at h
    | cons y J =>
      have h1 : (A ++ y :: J ++ D).set A.length u = (A ++ [u]) ++ J ++ D := by
        rw [List.append_assoc, List.set_append_right _ _ (by omega), Nat.sub_self]
        simp
      have h2 := ih (A ++ [u]) J D (by simpa using h)
      rw [List.length_append] at h2
      rw [puts, h1]
      rw [show A.length + 1 = A.length + [u].length from rfl, h2]
      simp
theorem Mid.keep {p : α → Bool} {l : List α} {i j : Nat} {xs : List Value} (hk : ∀ x, (enc x).length = k) (h : Mid enc k p l i j xs) (hij : i < j) (hj : j < l.length) (hp : p l[j] = false) : Mid enc k p l (i + 1) (j + 1) (puts xs (i * k) (enc l[j])) := by
  obtain ⟨h1, h2, h3, J, h4, rfl⟩ := h
  have h5 : (l.take (j + 1)).filter (fun x => !p x) = ((l.take j).filter fun x => !p x) ++ [l[j]] := by
    rw [List.take_succ_eq_append_getElem hj, List.filter_append]
    simp [hp]
  have hA : (((l.take j).filter fun x => !p x).flatMap enc).length = i * k := by rw [flat_len hk, ← h1]
  have hJ : k ≤ J.length := by
    rw [h4]
    exact Nat.le_trans (by omega) (Nat.mul_le_mul_right k (show 1 ≤ j - i by omega))
  refine ⟨by rw [h5, List.length_append, ← h1]; rfl, by omega, by omega, J.drop k ++ enc l[j], ?_, ?_⟩
  · rw [List.length_append, List.length_drop, hk, h4]
    have : (j + 1 - (i + 1)) * k = (j - i) * k := by congr 1; omega
    omega
  · rw [h5, ← hA, puts_mid _ _ J _ (by rw [hk]; exact hJ), List.drop_eq_getElem_cons hj, List.flatMap_cons, List.flatMap_append, hk]
    simp
theorem Mid.done {p : α → Bool} {l : List α} {i : Nat} {xs : List Value} (hk : ∀ x, (enc x).length = k) (h : Mid enc k p l i l.length xs) : i = (l.filter fun x => !p x).length ∧ xs.take (i * k) = (l.filter fun x => !p x).flatMap enc := by
  obtain ⟨h1, h2, h3, J, h4, rfl⟩ := h
  rw [List.take_length] at h1 ⊢
  refine ⟨h1, ?_⟩
  rw [List.append_assoc, List.take_left' (by rw [flat_len hk, ← h1])]
end
end Go.Proofs.YtbdgbihdhbjljaaGreatDoor
