/- Scripts of calls on a table that come in: as they lie. -/
import Derived.Test.YtgmbigdkipkibaaFrameT
import Derived.Test.YtgmbigdkipkibaaLawTableScripts
namespace Go.Proofs.Ytgmbigdkipkibaa
open Go.ChangeShapes Go.WideShapes Go.ChangeAt Go.RowKit Go.Joins Go.Deep
set_option maxRecDepth 100000
theorem open_ops20 {H : Type} {enc : TypeId × Value → H} {w : World} {b0 : Nat} {r : Reach} {v : Value} {d : DataW H} {p : List MemPlace}
    (hv : Value.okWide Try.prog w r b0 22 v) (h : DataW.Trod enc Try.prog w 0 (fun _ => true) true 22 v d p) : ∃ (A : Option Addr) (l : List tscripts.Cal) (c : Nat), v = .slice A l.length c ∧
      (∀ j x, l[j]? = some x → x.e.k < 18446744073709551616 ∧ ∃ ad, A = some ad ∧ ∀ i, i < 9 → w.cell? ((ad.add (j * 9)).add i) = x.cs[i]?) := by
  obtain ⟨a0, len, cap, rfl⟩ := okWide_slice Try.underlying22 hv
  obtain ⟨fuel, hf⟩ := h
  have ce : Try.prog.cellsOf 38 = 9 := by kernel_rfl
  rcases Go.Deep.open_slice Try.underlying22 hf with ⟨hcs, _⟩ | ⟨a, len', cap', m, n, D, Pl, hcs, _, hl, _, hm, _, hx⟩
  · simp only [Value.cells, List.cons.injEq, Value.slice.injEq, and_true] at hcs
    obtain ⟨rfl, rfl, rfl⟩ := hcs
    exact ⟨none, [], 0, rfl, fun j x hu => by simp at hu⟩
  · simp only [Value.cells, List.cons.injEq, Value.slice.injEq, and_true] at hcs
    obtain ⟨rfl, rfl, rfl⟩ := hcs
    simp only [if_true] at hm
    have each : ∀ i, i < m → ∃ x : tscripts.Cal, x.e.k < 18446744073709551616 ∧ ∀ j, j < 9 → w.cell? ((a.add (i * 9)).add j) = x.cs[j]? := by
      intro i hi
      obtain ⟨cs', h1, h2⟩ := hx i hi
      rw [ce] at h1
      obtain ⟨_, hlen, hcell⟩ := World.cells?_some h1
      obtain ⟨d, x, l, u, hk, rfl⟩ := op_trod h2
      refine ⟨⟨d, x, l, u⟩, hk, fun j hj => ?_⟩
      rw [hcell j hj, ← Array.getElem?_toList]
      rfl
    obtain ⟨q, hq⟩ := choose_of ⟨0, ent0, 0, 0⟩ each
    refine ⟨some a, (List.range len).map q, cap, by simp, fun j x hu => ?_⟩
    have hj := (List.getElem?_eq_some_iff.1 hu).1
    rw [List.length_map, List.length_range] at hj
    rw [List.getElem?_map, List.getElem?_range hj] at hu
    simp only [Option.map_some, Option.some.injEq] at hu
    obtain ⟨h0, h1⟩ := hq j (by omega)
    rw [hu] at h0 h1
    exact ⟨h0, a, rfl, h1⟩
end Go.Proofs.Ytgmbigdkipkibaa
