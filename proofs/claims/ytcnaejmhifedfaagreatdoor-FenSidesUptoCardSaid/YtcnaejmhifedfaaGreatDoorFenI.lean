/- Plain facts on a text whose second field is turned. -/
import Derived.Test.YtcnaejmhifedfaaGreatDoorFenG
namespace Go.Proofs.YtcnaejmhifedfaaGreatDoor
open Go.RowKit Go.Shelf
open M (S)

theorem join_snoc (c : UInt8) : ∀ (x : List UInt8) (l : List (List UInt8)) (y : List UInt8), Lib.join (x :: (l ++ [y])) [c] = (Lib.join (x :: l) [c] ++ [c]) ++ y
  | x, [], y => by
    rw [List.nil_append, Lib.join_one, Lib.join_cons]
    simp [Lib.joinTail]
  | x, z :: l, y => by
    have e1 : Lib.join (x :: z :: (l ++ [y])) [c] = x ++ c :: Lib.join (z :: (l ++ [y])) [c] := by
      rw [Lib.join_cons, Lib.join_cons]
      simp [Lib.joinTail]
    have e2 : Lib.join (x :: z :: l) [c] = x ++ c :: Lib.join (z :: l) [c] := by
      rw [Lib.join_cons, Lib.join_cons]
      simp [Lib.joinTail]
    rw [List.cons_append, e1, e2, join_snoc c z l y]
    simp
/-- The text with its second field another. -/
theorem form_flip {t b sd : List UInt8} {rest : List (List UInt8)} {p : F.P} {x : UInt8} {y : Int} (hl : F.cutL 32 t = b :: sd :: rest) (hf : F.formL t = some p) (hx : F.sideL [x] = some y) (h32 : x ≠ 32) : F.formL (Lib.join (b :: [x] :: rest) [32]) = some ⟨p.cells, y, p.clock, p.full⟩ := by
  have hno : ∀ q ∈ b :: [x] :: rest, (32 : UInt8) ∉ q := fun q hq => by
    have hp := F.cut_pieces 32 t
    rw [hl] at hp
    rcases List.mem_cons.1 hq with rfl | hq
    · exact hp _ (by simp)
    · rcases List.mem_cons.1 hq with rfl | hq
      · simpa using fun e => h32 e.symm
      · exact hp _ (by simp [hq])
  have hcut := F.cut_join 32 _ _ hno
  match rest, hl, hcut with
  | [], hl, hcut =>
    rw [form_two hl] at hf
    rw [form_two hcut, hx]
    cases hb : F.boardL b with
    | none => rw [hb] at hf; cases hf
    | some c =>
      cases hs : F.sideL sd with
      | none => rw [hb, hs] at hf; cases hf
      | some z =>
        rw [hb, hs] at hf
        cases hf
        rfl
  | [d1, d2, ck, fl], hl, hcut =>
    rw [form_six hl] at hf
    rw [form_six hcut, hx]
    by_cases hd : d1 = [45] ∧ d2 = [45]
    · rw [if_pos hd] at hf ⊢
      cases hb : F.boardL b with
      | none => rw [hb] at hf; cases hf
      | some c =>
        cases hs : F.sideL sd with
        | none => rw [hb, hs] at hf; cases hf
        | some z =>
          cases hu : F.numL ck with
          | none => rw [hb, hs, hu] at hf; cases hf
          | some u =>
            cases hv : F.numL fl with
            | none => rw [hb, hs, hu, hv] at hf; cases hf
            | some v =>
              rw [hb, hs, hu, hv] at hf
              cases hf
              rfl
    · rw [if_neg hd] at hf
      cases hf
  | [_], hl, _ => rw [form_else (by rw [hl]; simp) (by rw [hl]; simp)] at hf; cases hf
  | [_, _], hl, _ => rw [form_else (by rw [hl]; simp) (by rw [hl]; simp)] at hf; cases hf
  | [_, _, _], hl, _ => rw [form_else (by rw [hl]; simp) (by rw [hl]; simp)] at hf; cases hf
  | _ :: _ :: _ :: _ :: _ :: _, hl, _ => rw [form_else (by rw [hl]; simp) (by rw [hl]; simp)] at hf; cases hf
theorem form_len {t : List UInt8} {p : F.P} (hf : F.formL t = some p) : ∃ b sd rest, F.cutL 32 t = b :: sd :: rest ∧ rest.length ≤ 4 := by
  by_cases h2 : (F.cutL 32 t).length = 2
  · obtain ⟨b, sd, h⟩ := list_two h2
    exact ⟨b, sd, [], h, by simp⟩
  by_cases h6 : (F.cutL 32 t).length = 6
  · obtain ⟨b, sd, d1, d2, ck, fl, h⟩ := list_six h6
    exact ⟨b, sd, _, h, by simp⟩
  · rw [form_else h2 h6] at hf
    cases hf
theorem check_flip {s : ByteArray} {side clock full : Int} (h : (checkN s side clock full : Int) = 0) : (side = 0 ∨ side = 1) ∧ (checkN s (1 - side) clock full : Int) = 0 := by
  obtain ⟨hp, hc, hpl⟩ := check_zeroF h
  obtain ⟨h1, h2, h3, h4, h5⟩ := parts_nums hp
  refine ⟨h1, ?_⟩
  have hp2 := parts_true (side := 1 - side) (parts_boardF hp) (by rcases h1 with rfl | rfl <;> rfl) h2 h3 h4 h5
  rw [checkN, hp2, hc, hpl]
  rfl
theorem join_le {b : List UInt8} {x : UInt8} {rest : List (List UInt8)} {n : Nat} (hb : b.length ≤ n) (h : ∀ q ∈ rest, q.length ≤ n) : ∀ k, (Lib.join (b :: [x] :: rest.take k) [32]).length ≤ (n + 1) * (k + 2) + 1
  | 0 => by
    rw [List.take_zero, Lib.join_cons]
    simp [Lib.joinTail]
    omega
  | k + 1 => by
    have ih := join_le (x := x) hb h k
    by_cases hk : k < rest.length
    · have e : rest.take (k + 1) = rest.take k ++ [rest[k]] := List.take_succ_eq_append_getElem hk
      have hq := h rest[k] (List.getElem_mem hk)
      rw [e, ← List.cons_append, join_snoc, List.length_append, List.length_append, List.length_singleton]
      have e3 : (n + 1) * (k + 1 + 2) = (n + 1) * (k + 2) + (n + 1) := by rw [Nat.add_right_comm k 1 2, Nat.mul_add (n + 1) (k + 2) 1, Nat.mul_one]
      omega
    · rw [List.take_of_length_le (by omega)]
      rw [List.take_of_length_le (by omega)] at ih
      have e3 : (n + 1) * (k + 1 + 2) = (n + 1) * (k + 2) + (n + 1) := by rw [Nat.add_right_comm k 1 2, Nat.mul_add (n + 1) (k + 2) 1, Nat.mul_one]
      omega
end Go.Proofs.YtcnaejmhifedfaaGreatDoor
