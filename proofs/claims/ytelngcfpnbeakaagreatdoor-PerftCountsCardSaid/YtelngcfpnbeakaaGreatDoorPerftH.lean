/- The closure, at whatever depth up to 4. -/
import Derived.Test.YtelngcfpnbeakaaGreatDoorPerftG
namespace Go.Proofs.YtelngcfpnbeakaaGreatDoor
open Go.RowKit Go.Shelf
open Go.Maps
open M (S)

theorem make_legal {s : ByteArray} {side clock full : Int} {a b : Nat} (hw : wellN s side clock full = 0) (h : (a, b) ∈ legalN s side) :
    ∃ t : Nat, makeV s side clock full (a : Int) (b : Int) = .tuple #[.agg #[.string (behindS s (a, b)), .int .i64 (1 - side), .int .i64 (clockA s clock b), .int .i64 (fullA side full)], .int .u8 t, .int .i64 0] ∧ wellN (behindS s (a, b)) (1 - side) (clockA s clock b) (fullA side full) = 0 := by
  have hm : (a, b) ∈ legalV s side clock full := by
    rw [legal_same, if_pos hw]
    exact h
  unfold legalV at hm
  rw [if_pos hw] at hm
  have hl : leavesI s side clock full (a : Int) (b : Int) = true := (List.mem_filter.1 hm).2
  have hp := hl
  unfold leavesI at hp
  simp only [Bool.and_eq_true, bne_iff_ne, beq_iff_eq, ne_eq] at hp
  obtain ⟨⟨p1, p2⟩, p3⟩ := hp
  have hv := apply_good_value (well_check hw) ⟨p1, p2⟩
  simp only [Int.toNat_natCast] at hv p3
  refine ⟨takenN s b, ?_, p3⟩
  unfold makeV
  rw [if_pos hw, if_pos hl]
  exact hv
theorem linesC_one (Y : Int) (N : Nat) : LinesC Y N 1 := by
  intro n₀ g n H v st now D a b dd w hdd htg hT hG hC hn hM hgH hHn hl hy hw hmem
  obtain rfl : dd = 1 := by omega
  exact (lines_one a b H w).mono fun e w' ⟨he, hb⟩ => ⟨he, v, n, D, Keeps.below hb, hG.next hb, hC.next hb, hn, hM⟩
theorem linesC_step (Y : Int) (N d' : Nat) (hN : d' + 2 ≤ N) (hd : d' + 1 ≤ 4) (ih : LinesC Y N (d' + 1)) : LinesC Y N (d' + 2) := by
  intro n₀ g n H v st now D a b dd w hdd htg hT hG hC hn hM hgH hHn hl hy hw hmem
  obtain ⟨t, hV, hq⟩ := make_legal hw hmem
  have hsize : (behindS now.s (a, b)).size ≤ maxLen := by
    rw [behind_size (isB_size (parts_board (check_zero (well_zero hw).1).1))]
    decide
  have hy' : 1 - now.y = sideAt Y N (d' + 1) := by
    rw [hy]
    exact sideAt_step Y (by omega)
  have hdw : (Lit.int .i64 (dd - 1)).wf = true := WalkArith.wf_i64 (by omega)
  cases hh : Maps.has D (nodeL (behindS now.s (a, b)) (dd - 1))
  · exact lines_miss Y N d' ih a b dd w (by omega) hd htg hT hG hC hn hM hgH hHn hl _ _ _ _ t _ _ hy' hq rfl (by rw [legal_same, if_pos hq]) rfl hh hsize hdw hV
  · have hat : D.atKey (nodeL (behindS now.s (a, b)) (dd - 1)) (.lit (.int .i64 0)) = .lit (.int .i64 (linesN (d' + 1) (behindS now.s (a, b)) (1 - now.y))) := by
      have e1 : dd - 1 = ((d' + 1 : Nat) : Int) := by omega
      rw [e1] at hh ⊢
      rw [hy']
      exact hM _ _ hsize (by omega) hh
    refine (lines_found a b dd w hT hG hC hgH hHn (by omega) (by omega) (by omega) _ _ _ _ t _ hh hat hsize hdw hV).mono ?_
    rintro e w' ⟨rfl, v', hG', ho, hC', hf⟩
    exact ⟨rfl, v', n, D, Keeps.game hf ho, hG', hC', hn, hM⟩
theorem linesC_any (Y : Int) (N : Nat) : ∀ d : Nat, d + 1 ≤ N → d ≤ 4 → LinesC Y N (d + 1)
  | 0, _, _ => linesC_one Y N
  | d + 1, hN, hd => linesC_step Y N d hN hd (linesC_any Y N d (by omega) (by omega))
end Go.Proofs.YtelngcfpnbeakaaGreatDoor
