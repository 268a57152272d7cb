/- What a position that is right holds. -/
import Derived.Test.YtcnaejmhifedfaaGreatDoorPlace6
namespace Go.Proofs.YtcnaejmhifedfaaGreatDoor
open Go.RowKit Go.Shelf

theorem check_zeroF {s : ByteArray} {side clock full : Int} (h : (checkN s side clock full : Int) = 0) : partsB s side clock full = true ∧ countsB s 90 = true ∧ placesB s 90 = true := by
  unfold checkN at h
  cases h1 : partsB s side clock full <;> cases h2 : countsB s 90 <;> cases h3 : placesB s 90 <;> simp [h1, h2, h3] at h ⊢
theorem parts_boardF {s : ByteArray} {side clock full : Int} (h : partsB s side clock full = true) : isB s = true := by
  simp only [partsB, Bool.and_eq_true] at h
  exact h.1.1.1.1.1
theorem parts_nums {s : ByteArray} {side clock full : Int} (h : partsB s side clock full = true) : (side = 0 ∨ side = 1) ∧ 0 ≤ clock ∧ clock ≤ 120 ∧ 1 ≤ full ∧ full ≤ 9999 := by
  simp only [partsB, Bool.and_eq_true, Bool.or_eq_true, beq_iff_eq, decide_eq_true_eq] at h
  exact ⟨h.1.1.1.1.2, h.1.1.1.2, h.1.1.2, h.1.2, h.2⟩
end Go.Proofs.YtcnaejmhifedfaaGreatDoor
