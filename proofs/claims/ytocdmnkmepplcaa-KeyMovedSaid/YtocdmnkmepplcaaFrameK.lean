/- A struct with a struct inside, by value: a key, a piece, a move, what it takes: its five cells. -/
import Derived.Test.YtocdmnkmepplcaaFrameN
namespace Go.Proofs.Ytocdmnkmepplcaa
open Go.ChangeShapes Go.WideShapes Go.ChangeAt Go.RowKit Go.Joins

theorem array5 {α : Type} {cs : Array α} (h : cs.size = 5) : ∃ c0 c1 c2 c3 c4, cs = #[c0, c1, c2, c3, c4] := by
  obtain ⟨l⟩ := cs
  match l, h with
  | [c0, c1, c2, c3, c4], _ => exact ⟨c0, c1, c2, c3, c4, rfl⟩
set_option maxRecDepth 100000 in
theorem open_moved {H : Type} {enc : TypeId × Value → H} {W : World} {base b0 : Nat} {sp : Nat → Bool} {held : Bool} {v : Value} {d : DataW H} {p : List MemPlace} (hv : Value.okWide Try.prog W .any base 35 v)
    (h : DataW.Trod enc Try.prog W b0 sp held 35 v d p) :
    ∃ (k0 k1 : Nat) (k2 k3 : Int) (k4 : Nat), v = .agg #[.int .u64 (k0 : Int), .int .u8 (k1 : Int), .int .i64 k2, .int .i64 k3, .int .u8 (k4 : Int)] ∧ k0 < 18446744073709551616 ∧ k1 < 256 ∧ k4 < 256 := by
  obtain ⟨cs, rfl, hsz⟩ := okWide_struct Try.underlying35 hv
  obtain ⟨c0, c1, c2, c3, c4, rfl⟩ := array5 (hsz.trans (by kernel_rfl))
  obtain ⟨fuel, hf⟩ := h
  obtain ⟨y0, y1, y2, y3, n, _, _, h0, h1, h2, h3⟩ := trod_struct4 Try.underlying35 hf
  have w1 : Try.prog.cellsOf 22 = 1 := by kernel_rfl
  have w2 : Try.prog.cellsOf 5 = 1 := by kernel_rfl
  have w3 : Try.prog.cellsOf 33 = 2 := by kernel_rfl
  have w4 : Try.prog.cellsOf 3 = 1 := by kernel_rfl
  simp [Value.cells, w1, w2, w3] at h0 h1 h2 h3
  obtain ⟨z0, z1, n2, _, _, g0, g1⟩ := trod_struct2 Try.underlying33 h2
  simp [w4] at g0 g1
  obtain ⟨a0, e0, _, wa0⟩ := DataW.trod_int Try.underlying22 h0
  obtain ⟨a1, e1, _, wa1⟩ := DataW.trod_int Try.underlying5 h1
  obtain ⟨a2, e2, _, _⟩ := DataW.trod_int Try.underlying3 g0
  obtain ⟨a3, e3, _, _⟩ := DataW.trod_int Try.underlying3 g1
  obtain ⟨a4, e4, _, wa4⟩ := DataW.trod_int Try.underlying5 h3
  simp only [List.cons.injEq, and_true] at e0 e1 e2 e3 e4
  subst e0 e1 e2 e3 e4
  have b0 := bounds_u64 wa0
  have b1 := bounds_u8 wa1
  have b4 := bounds_u8 wa4
  refine ⟨a0.toNat, a1.toNat, a2, a3, a4.toNat, ?_, by omega, by omega, by omega⟩
  rw [Int.toNat_of_nonneg b0.1, Int.toNat_of_nonneg b1.1, Int.toNat_of_nonneg b4.1]
end Go.Proofs.Ytocdmnkmepplcaa
