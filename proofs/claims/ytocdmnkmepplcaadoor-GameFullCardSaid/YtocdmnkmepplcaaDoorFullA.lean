/- Two chariots that go to and fro: four boards, and what each of the four moves comes to, whatever the clock and the number. -/
import Derived.Test.YtocdmnkmepplcaaDoorGameL
namespace Go.Proofs.YtocdmnkmepplcaaDoor
open Go.RowKit Go.Shelf
open M (S)

theorem well_any_clock {s : ByteArray} {side : Int} (h : wellN s side 0 1 = 0) {c f : Int} (hc : 0 ≤ c ∧ c ≤ 120) (hf : 1 ≤ f ∧ f ≤ 9999) : wellN s side c f = 0 := by
  have e : partsB s side c f = partsB s side 0 1 := by
    unfold partsB
    rw [decide_eq_true hc.1, decide_eq_true hc.2, decide_eq_true hf.1, decide_eq_true hf.2]
    simp
  have e2 : checkN s side c f = checkN s side 0 1 := by unfold checkN; rw [e]
  unfold wellN at h ⊢
  rw [e2]
  exact h
/-- One of the four moves. -/
structure Fro (B : ByteArray) (side : Int) (a b : Nat) (B' : ByteArray) : Prop where
  w : wellN B side 0 1 = 0
  m : isM B side a b = true
  k : kindN (bAt B b) ≠ 75
  e : bAt B b = 46
  q : movedS B a b (bAt B a) = B'
  w' : wellN B' (1 - side) 0 1 = 0
theorem Fro.make {B B' : ByteArray} {side : Int} {a b : Nat} (h : Fro B side a b B') {c f : Int} (hc : 0 ≤ c ∧ c ≤ 120) (hf : 1 ≤ f ∧ f ≤ 9999) :
    makeV B side c f a b = .tuple #[.agg #[.string B', .int .i64 (1 - side), .int .i64 (min (c + 1) 120), .int .i64 (fullA side f)], .int .u8 (0 : Nat), .int .i64 0] := by
  have hck : clockA B c b = min (c + 1) 120 := by unfold clockA; rw [if_pos h.e]
  have hfl : 1 ≤ fullA side f ∧ fullA side f ≤ 9999 := by unfold fullA; split <;> omega
  have hw := well_any_clock h.w hc hf
  have hg : isM B side a b = true ∧ kindN (bAt B ((b : Nat) : Int).toNat) ≠ 75 := ⟨h.m, by rw [Int.toNat_natCast]; exact h.k⟩
  have hl : leavesI B side c f a b = true := by
    rw [leaves_good hg, beq_iff_eq]
    simp only [Int.toNat_natCast]
    rw [h.q, hck]
    exact well_any_clock h.w' (by omega) hfl
  unfold makeV
  rw [if_pos hw, if_pos hl, apply_good_value (well_check hw) hg]
  simp only [Int.toNat_natCast]
  rw [h.q, hck]
  have ht : takenN B b = 0 := by unfold takenN; rw [if_pos h.e]
  rw [ht]
def fb1 : ByteArray := movedS startS 0 9 82
def fb2 : ByteArray := movedS fb1 81 72 114
def fb3 : ByteArray := movedS fb2 9 0 82
theorem fro0 : Fro startS 0 0 9 fb1 := by constructor <;> decide +kernel
theorem fro1 : Fro fb1 1 81 72 fb2 := by constructor <;> decide +kernel
theorem fro2 : Fro fb2 0 9 0 fb3 := by constructor <;> decide +kernel
theorem fro3 : Fro fb3 1 72 81 startS := by constructor <;> decide +kernel
/-- The board, the side and the move behind so many moves. -/
def frB (k : Nat) : ByteArray := if k % 4 = 0 then startS else if k % 4 = 1 then fb1 else if k % 4 = 2 then fb2 else fb3
def frA (r : Nat) : Nat := if r = 0 then 0 else if r = 1 then 81 else if r = 2 then 9 else 72
def frT (r : Nat) : Nat := if r = 0 then 9 else if r = 1 then 72 else if r = 2 then 0 else 81
theorem fro_at (k : Nat) : Fro (frB k) ((k % 2 : Nat) : Int) (frA (k % 4)) (frT (k % 4)) (frB (k + 1)) := by
  unfold frB frA frT
  have h : k % 4 = 0 ∨ k % 4 = 1 ∨ k % 4 = 2 ∨ k % 4 = 3 := by omega
  rcases h with h | h | h | h
  · rw [h, show (k + 1) % 4 = 1 by omega, show k % 2 = 0 by omega]; exact fro0
  · rw [h, show (k + 1) % 4 = 2 by omega, show k % 2 = 1 by omega]; exact fro1
  · rw [h, show (k + 1) % 4 = 3 by omega, show k % 2 = 0 by omega]; exact fro2
  · rw [h, show (k + 1) % 4 = 0 by omega, show k % 2 = 1 by omega]; exact fro3
/-- A position behind so many moves to and fro. -/
structure FroAt (k : Nat) (p : Po) : Prop where
  s : p.s = frB k
  y : p.y = ((k % 2 : Nat) : Int)
  z : 0 ≤ p.z ∧ p.z ≤ 120
  u : 1 ≤ p.u ∧ p.u ≤ 9999
theorem FroAt.next {k : Nat} {p : Po} (h : FroAt k p) : ∃ q : Po, FroAt (k + 1) q ∧ makeV p.s p.y p.z p.u (frA (k % 4)) (frT (k % 4)) = .tuple #[.agg #[.string q.s, .int .i64 q.y, .int .i64 q.z, .int .i64 q.u], .int .u8 (0 : Nat), .int .i64 0] := by
  refine ⟨⟨frB (k + 1), 1 - p.y, min (p.z + 1) 120, fullA p.y p.u⟩, ⟨rfl, ?_, ?_, ?_⟩, ?_⟩
  · show 1 - p.y = _
    rw [h.y]
    omega
  · have := h.z
    show 0 ≤ min (p.z + 1) 120 ∧ min (p.z + 1) 120 ≤ 120
    omega
  · have := h.u
    show 1 ≤ fullA p.y p.u ∧ fullA p.y p.u ≤ 9999
    unfold fullA
    split <;> omega
  · rw [h.s, h.y]
    exact (fro_at k).make h.z h.u
theorem fro_start : FroAt 0 ⟨startS, 0, 0, 1⟩ := ⟨rfl, rfl, by decide, by decide⟩
end Go.Proofs.YtocdmnkmepplcaaDoor
