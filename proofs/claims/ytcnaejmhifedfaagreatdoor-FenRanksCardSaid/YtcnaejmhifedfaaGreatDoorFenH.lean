/- Plain facts on how many squares a board's text tells. -/
import Derived.Test.YtcnaejmhifedfaaGreatDoorFenG
namespace Go.Proofs.YtcnaejmhifedfaaGreatDoor
open Go.RowKit Go.Shelf
open M (S)

/-- How many squares a byte of a board's text tells. -/
def wgt (b : UInt8) : Nat := if b.toNat = 47 then 0 else if 49 ≤ b.toNat ∧ b.toNat ≤ 57 then b.toNat - 48 else 1
def wgtL : List UInt8 → Nat
  | [] => 0
  | b :: r => wgt b + wgtL r
theorem wgt_app : ∀ a b : List UInt8, wgtL (a ++ b) = wgtL a + wgtL b
  | [], b => by simp [wgtL]
  | c :: a, b => by
    rw [List.cons_append, wgtL, wgtL, wgt_app a b]
    omega
theorem wgt_snoc (a : List UInt8) (b : UInt8) : wgtL (a ++ [b]) = wgtL a + wgt b := by
  rw [wgt_app]
  simp [wgtL]
theorem wgt_le (l : List UInt8) : wgtL l ≤ 9 * l.length := by
  induction l with
  | nil => simp [wgtL]
  | cons b r ih =>
    have : wgt b ≤ 9 := by
      unfold wgt
      split
      · omega
      · split <;> omega
    rw [wgtL, List.length_cons]
    omega
theorem wgt_digit {e : Nat} (h1 : 1 ≤ e) (h9 : e ≤ 9) : wgt (UInt8.ofNat (48 + e)) = e := by
  rw [wgt, F.u8_of _ (by omega), if_neg (by omega), if_pos (by omega)]
  omega
theorem wgt_piece {b : UInt8} (h : kindN b.toNat ≠ 0) : wgt b = 1 := by
  obtain ⟨n, hn⟩ : ∃ n, b.toNat = n := ⟨_, rfl⟩
  rw [wgt, hn]
  rw [hn] at h
  rcases byte_cases n with ⟨kb, kr, _⟩ | rfl | rfl | rfl | rfl | rfl | rfl | rfl | rfl | rfl | rfl | rfl | rfl | rfl | rfl
  · exact absurd (by simp [kindN, kb, kr]) h
  all_goals rfl
theorem wgt_rle : ∀ (l : List UInt8) (e : Nat), e + l.length ≤ 9 → (∀ b ∈ l, F.sqB b) → wgtL (F.rle e l) = e + l.length
  | [], 0, _, _ => rfl
  | [], e + 1, h, _ => by
    rw [F.rle, wgtL, wgtL, wgt_digit (by omega) (by simpa using h)]
    simp
  | b :: r, e, h, hb => by
    rw [List.length_cons] at h
    have hr : ∀ x ∈ r, F.sqB x := fun x hx => hb x (List.mem_cons_of_mem _ hx)
    by_cases e46 : b = 46
    · rw [rle_empty e46, wgt_rle r (e + 1) (by omega) hr, List.length_cons]
      omega
    · have hk : kindN b.toNat ≠ 0 := by
        rcases hb b (by simp) with h' | h'
        · exact absurd h' e46
        · exact h'
      rw [rle_piece e46, wgt_app, wgtL, wgt_piece hk, wgt_rle r 0 (by omega) hr, List.length_cons]
      by_cases e0 : e = 0
      · rw [if_pos e0, wgtL]
        omega
      · rw [if_neg e0, wgtL, wgtL, wgt_digit (by omega) (by omega)]
        omega
theorem wgt_join : ∀ (x : List UInt8) (l : List (List UInt8)) (n : Nat), (∀ p ∈ x :: l, wgtL p = n) → wgtL (Lib.join (x :: l) [47]) = n * (l.length + 1)
  | x, [], n, h => by
    rw [Lib.join_one, h x (by simp)]
    simp
  | x, y :: l, n, h => by
    have e : Lib.join (x :: y :: l) [47] = x ++ 47 :: Lib.join (y :: l) [47] := by
      rw [Lib.join_cons, Lib.join_cons]
      simp [Lib.joinTail]
    have h47 : wgt 47 = 0 := rfl
    rw [e, wgt_app, wgtL, h47, wgt_join y l n fun p hp => h p (List.mem_cons_of_mem _ hp), h x (by simp), List.length_cons, Nat.mul_add n (l.length + 1) 1]
    omega
theorem wgt_board {cells : List UInt8} (hl : cells.length = 90) (hb : ∀ b ∈ cells, F.sqB b) : wgtL (F.boardT cells) = 90 := by
  have h9 : ∀ k, k ≤ 81 → wgtL (F.rle 0 ((cells.drop k).take 9)) = 9 := fun k hk => by
    have h := wgt_rle ((cells.drop k).take 9) 0 (by rw [F.slice_len hl hk]; omega) fun b h => hb b (F.mem_slice h)
    rw [F.slice_len hl hk] at h
    exact h
  rw [F.boardT, F.rows_all]
  refine wgt_join _ _ 9 fun p hp => ?_
  simp only [List.mem_cons, List.not_mem_nil, or_false] at hp
  rcases hp with rfl | rfl | rfl | rfl | rfl | rfl | rfl | rfl | rfl | rfl
  all_goals exact h9 _ (by omega)
/-- A right position's text: six fields, the first of ten ranks, which tell ninety squares. -/
theorem print_cut {s : ByteArray} {side clock full : Int} (h : (checkN s side clock full : Int) = 0) : ∃ b r : List UInt8, ∃ x1 x2 x3 x4 : List UInt8, F.cutL 32 (F.printL (posP s side clock full)) = [b, r, x1, x2, x3, x4] ∧ wgtL b = 90 ∧ (F.cutL 47 b).length = 10 ∧ b.length ≤ 100 := by
  have hg := good_of h
  refine ⟨F.boardT s.data.toList, _, _, _, _, _, F.cut_print hg, wgt_board hg.len hg.sq, ?_, ?_⟩
  · have hn : ∀ p ∈ F.rows s.data.toList, (47 : UInt8) ∉ p := F.rows_no 47 (.inl rfl) hg.sq
    rw [F.rows_all] at hn
    rw [F.boardT, F.rows_all, F.cut_join 47 _ _ hn]
    rfl
  · rw [← ranksT_ten]
    exact ranksT_len s 10 (by omega) (by omega)
end Go.Proofs.YtcnaejmhifedfaaGreatDoor
