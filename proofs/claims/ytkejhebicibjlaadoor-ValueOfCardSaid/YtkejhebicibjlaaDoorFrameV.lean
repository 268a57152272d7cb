/- A struct with structs inside, by value: a position, a piece, its move, what it takes: its eight cells. -/
import Derived.Test.YtkejhebicibjlaaDoorFrame
namespace Go.Proofs.YtkejhebicibjlaaDoor
open Go.ChangeShapes Go.WideShapes Go.ChangeAt Go.RowKit Go.Joins

theorem array8 {α : Type} {cs : Array α} (h : cs.size = 8) : ∃ c0 c1 c2 c3 c4 c5 c6 c7, cs = #[c0, c1, c2, c3, c4, c5, c6, c7] := by
  obtain ⟨l⟩ := cs
  match l, h with
  | [c0, c1, c2, c3, c4, c5, c6, c7], _ => exact ⟨c0, c1, c2, c3, c4, c5, c6, c7, rfl⟩
set_option maxRecDepth 100000 in
theorem open_case {H : Type} {enc : TypeId × Value → H} {W : World} {base b0 : Nat} {sp : Nat → Bool} {held : Bool} {v : Value} {d : DataW H} {p : List MemPlace} (hv : Value.okWide Tryd.prog W .any base 31 v)
    (h : DataW.Trod enc Tryd.prog W b0 sp held 31 v d p) :
    ∃ (k0 : ByteArray) (k1 k2 k3 : Int) (k4 : Nat) (k5 k6 : Int) (k7 : Nat), v = .agg #[.string k0, .int .i64 k1, .int .i64 k2, .int .i64 k3, .int .u8 (k4 : Int), .int .i64 k5, .int .i64 k6, .int .u8 (k7 : Int)] := by
  obtain ⟨cs, rfl, hsz⟩ := okWide_struct Tryd.underlying31 hv
  obtain ⟨c0, c1, c2, c3, c4, c5, c6, c7, rfl⟩ := array8 (hsz.trans (by kernel_rfl))
  obtain ⟨fuel, hf⟩ := h
  obtain ⟨y0, y1, y2, y3, n, _, _, h0, h1, h2, h3⟩ := trod_struct4 Tryd.underlying31 hf
  have w1 : Tryd.prog.cellsOf 27 = 4 := by kernel_rfl
  have w2 : Tryd.prog.cellsOf 5 = 1 := by kernel_rfl
  have w3 : Tryd.prog.cellsOf 29 = 2 := by kernel_rfl
  have w4 : Tryd.prog.cellsOf 3 = 1 := by kernel_rfl
  have w5 : Tryd.prog.cellsOf 9 = 1 := by kernel_rfl
  simp [Value.cells, w1, w2, w3] at h0 h1 h2 h3
  obtain ⟨z0, z1, z2, z3, n1, _, _, f0, f1, f2, f3⟩ := trod_struct4 Tryd.underlying27 h0
  simp [w4, w5] at f0 f1 f2 f3
  obtain ⟨x0, x1, n2, _, _, g0, g1⟩ := trod_struct2 Tryd.underlying29 h2
  simp [w4] at g0 g1
  obtain ⟨a0, e0, _, _⟩ := DataW.trod_string Tryd.underlying9 f0
  obtain ⟨a1, e1, _, _⟩ := DataW.trod_int Tryd.underlying3 f1
  obtain ⟨a2, e2, _, _⟩ := DataW.trod_int Tryd.underlying3 f2
  obtain ⟨a3, e3, _, _⟩ := DataW.trod_int Tryd.underlying3 f3
  obtain ⟨a4, e4, _, wa4⟩ := DataW.trod_int Tryd.underlying5 h1
  obtain ⟨a5, e5, _, _⟩ := DataW.trod_int Tryd.underlying3 g0
  obtain ⟨a6, e6, _, _⟩ := DataW.trod_int Tryd.underlying3 g1
  obtain ⟨a7, e7, _, wa7⟩ := DataW.trod_int Tryd.underlying5 h3
  simp only [List.cons.injEq, and_true] at e0 e1 e2 e3 e4 e5 e6 e7
  subst e0 e1 e2 e3 e4 e5 e6 e7
  have b4 := bounds_u8 wa4
  have b7 := bounds_u8 wa7
  refine ⟨a0, a1, a2, a3, a4.toNat, a5, a6, a7.toNat, ?_⟩
  rw [Int.toNat_of_nonneg b4.1, Int.toNat_of_nonneg b7.1]
end Go.Proofs.YtkejhebicibjlaaDoor
