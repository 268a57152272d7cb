/- Plain facts on texts: cut at a byte, and joined; how strings.SplitN cuts them. No program in it. -/
import Derived.Test.YtcnaejmhifedfaaGreatDoorBoard5
import Derived.Lib.Split
import Derived.Lib.Join
import Derived.Lib.ItoaNum
import Derived.Lib.AtoiAllCases
namespace Go.Proofs.YtcnaejmhifedfaaGreatDoor.F

/-- A text cut at each byte c. -/
def cutL (c : UInt8) : List UInt8 → List (List UInt8)
  | [] => [[]]
  | b :: r => if b = c then [] :: cutL c r else (match cutL c r with | [] => [[b]] | h :: t => (b :: h) :: t)
theorem cutL_ne (c : UInt8) : ∀ s, cutL c s ≠ []
  | [] => by simp [cutL]
  | b :: r => by
    unfold cutL
    split
    · simp
    · split <;> simp
theorem cutL_cons_ne {c b : UInt8} (h : b ≠ c) (r : List UInt8) : ∃ x t, cutL c r = x :: t ∧ cutL c (b :: r) = (b :: x) :: t := by
  cases e : cutL c r with
  | nil => exact absurd e (cutL_ne c r)
  | cons x t => exact ⟨x, t, rfl, by rw [cutL, if_neg h, e]⟩
theorem cutL_no {c : UInt8} : ∀ {a : List UInt8}, c ∉ a → cutL c a = [a]
  | [], _ => rfl
  | b :: r, h => by
    rw [List.mem_cons, not_or] at h
    rw [cutL, if_neg (fun e => h.1 e.symm), cutL_no h.2]
theorem cutL_app {c : UInt8} : ∀ {a : List UInt8}, c ∉ a → ∀ b, cutL c (a ++ c :: b) = a :: cutL c b
  | [], _, b => by rw [List.nil_append, cutL, if_pos rfl]
  | x :: r, h, b => by
    rw [List.mem_cons, not_or] at h
    rw [List.cons_append, cutL, if_neg (fun e => h.1 e.symm), cutL_app h.2 b]
/-- A text that is cut is one without the byte, or one ahead of it and the rest. -/
theorem cut_cases (c : UInt8) : ∀ s : List UInt8, c ∉ s ∨ ∃ a b, c ∉ a ∧ s = a ++ c :: b
  | [] => .inl (by simp)
  | x :: r => by
    by_cases h : x = c
    · exact .inr ⟨[], r, by simp, by rw [h]; rfl⟩
    · rcases cut_cases c r with h' | ⟨a, b, ha, rfl⟩
      · exact .inl (by simp only [List.mem_cons, not_or]; exact ⟨fun e => h e.symm, h'⟩)
      · exact .inr ⟨x :: a, b, by simp only [List.mem_cons, not_or]; exact ⟨fun e => h e.symm, ha⟩, rfl⟩
theorem index_no {c : UInt8} {s : List UInt8} (h : c ∉ s) : Lib.index s [c] = -1 := by
  apply Lib.index_none
  intro j _
  cases e : Lib.occAt s [c] j
  · rfl
  · have := Lib.occAt_head rfl e
    exact absurd (List.mem_of_getElem? this) h
theorem index_app {c : UInt8} {a : List UInt8} (h : c ∉ a) (b : List UInt8) : Lib.index (a ++ c :: b) [c] = (a.length : Nat) := by
  apply Lib.index_first (i := a.length) (by simp)
  · simp [Lib.occAt]
  · intro j hj
    cases e : Lib.occAt (a ++ c :: b) [c] j
    · rfl
    · have h1 := Lib.occAt_head rfl e
      rw [List.getElem?_append_left hj] at h1
      exact absurd (List.mem_of_getElem? h1) h
/-- How strings.SplitN cuts: as often as it may. -/
theorem splitK_cut (c : UInt8) : ∀ (k : Nat) (s : List UInt8), ((cutL c s).length ≤ k + 1 → Lib.splitK [c] 0 k s = cutL c s) ∧ (k + 1 < (cutL c s).length → (Lib.splitK [c] 0 k s).length = k + 1)
  | 0, s => by
    refine ⟨fun h => ?_, fun _ => rfl⟩
    rcases cut_cases c s with hn | ⟨a, b, ha, rfl⟩
    · rw [cutL_no hn]; rfl
    · rw [cutL_app ha] at h
      have := cutL_ne c b
      have h2 : 0 < (cutL c b).length := List.length_pos_iff.2 this
      rw [List.length_cons] at h
      omega
  | k + 1, s => by
    rcases cut_cases c s with hn | ⟨a, b, ha, rfl⟩
    · rw [Lib.splitK, if_pos (by rw [index_no hn]; rfl), cutL_no hn]
      exact ⟨fun _ => rfl, fun h => by simp at h⟩
    · have hi := index_app ha b
      have h0 : ¬ (Lib.index (a ++ c :: b) [c] == -1) = true := by
        rw [hi, beq_iff_eq]
        omega
      rw [Lib.splitK, if_neg h0, hi, Int.toNat_natCast, cutL_app ha]
      have e1 : (a ++ c :: b).take (a.length + 0) = a := by simp
      have e2 : (a ++ c :: b).drop (a.length + [c].length) = b := by simp
      rw [e1, e2]
      obtain ⟨h1, h2⟩ := splitK_cut c k b
      refine ⟨fun h => ?_, fun h => ?_⟩
      · rw [h1 (by rw [List.length_cons] at h; omega)]
      · rw [List.length_cons, h2 (by rw [List.length_cons] at h; omega)]
theorem cut_pieces (c : UInt8) : ∀ s : List UInt8, ∀ p ∈ cutL c s, c ∉ p
  | [], p, h => by
    simp only [cutL, List.mem_singleton] at h
    subst h
    simp
  | b :: r, p, h => by
    by_cases e : b = c
    · rw [cutL, if_pos e, List.mem_cons] at h
      rcases h with rfl | h
      · simp
      · exact cut_pieces c r p h
    · obtain ⟨x, t, h1, h2⟩ := cutL_cons_ne e r
      rw [h2, List.mem_cons] at h
      rcases h with rfl | h
      · have := cut_pieces c r x (by rw [h1]; simp)
        simp only [List.mem_cons, not_or]
        exact ⟨fun e' => e e'.symm, this⟩
      · exact cut_pieces c r p (by rw [h1]; exact List.mem_cons_of_mem _ h)
/-- Pieces without the byte, joined by it. -/
theorem cut_join (c : UInt8) : ∀ (x : List UInt8) (l : List (List UInt8)), (∀ p ∈ x :: l, c ∉ p) → cutL c (Lib.join (x :: l) [c]) = x :: l
  | x, [], h => by
    rw [Lib.join_one, cutL_no (h x (by simp))]
  | x, y :: l, h => by
    have e : Lib.join (x :: y :: l) [c] = x ++ c :: Lib.join (y :: l) [c] := by
      rw [Lib.join_cons, Lib.join_cons]
      simp [Lib.joinTail]
    rw [e, cutL_app (h x (by simp)), cut_join c y l fun p hp => h p (List.mem_cons_of_mem _ hp)]
theorem join_cut (c : UInt8) : ∀ s : List UInt8, Lib.join (cutL c s) [c] = s := fun s => by
  have key : ∀ (n : Nat) (s : List UInt8), s.length ≤ n → Lib.join (cutL c s) [c] = s := fun n => by
    induction n with
    | zero =>
      intro s h
      have : s = [] := List.length_eq_zero_iff.1 (by omega)
      subst this
      rfl
    | succ n ih =>
      intro s h
      rcases cut_cases c s with hn | ⟨a, b, ha, rfl⟩
      · rw [cutL_no hn, Lib.join_one]
      · rw [cutL_app ha]
        have hb := ih b (by simp at h; omega)
        cases e : cutL c b with
        | nil => exact absurd e (cutL_ne c b)
        | cons x t =>
          rw [e] at hb
          have e2 : Lib.join (a :: x :: t) [c] = a ++ c :: Lib.join (x :: t) [c] := by
            rw [Lib.join_cons, Lib.join_cons]
            simp [Lib.joinTail]
          rw [e2, hb]
  exact key _ s (Nat.le_refl _)
end Go.Proofs.YtcnaejmhifedfaaGreatDoor.F
