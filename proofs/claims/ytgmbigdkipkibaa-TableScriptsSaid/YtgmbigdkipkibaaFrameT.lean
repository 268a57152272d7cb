/- Entries, questions and scripts of calls that come in: as they lie. -/
import Derived.Test.YtgmbigdkipkibaaFrameN
import Derived.Test.YtgmbigdkipkibaaTabC
import Derived.Deep.SlicePairs
namespace Go.Proofs.Ytgmbigdkipkibaa
open Go.ChangeShapes Go.WideShapes Go.ChangeAt Go.RowKit Go.Joins Go.Deep
set_option maxRecDepth 100000

theorem add_parts (a : Addr) (n m : Nat) : (a.add n).add m = a.add (n + m) := by
  unfold Addr.add
  by_cases h : n = 0 <;> by_cases k : m = 0 <;> simp [h, k]
  omega
theorem get_some {α : Type} {xs : List α} {i : Nat} (h : i < xs.length) : ∃ y, xs[i]? = some y := ⟨xs[i], List.getElem?_eq_getElem h⟩
section
variable {H : Type} {enc : TypeId × Value → H} {w : World} {b0 : Nat} {sp : Nat → Bool} {held : Bool}
theorem ent_trod {n : Nat} {cs : List Value} {y : DataW H × List MemPlace} (h : DataW.trod enc Try.prog w b0 sp held n 36 cs = some y) : ∃ x : Ent, x.k < 18446744073709551616 ∧ cs = x.cs.toList := by
  obtain ⟨xs, m, _, _, hlen, hxl, hf⟩ := DataW.trod_struct Try.underlying36 h
  have hlen : cs.length = 6 := hlen.trans (by kernel_rfl)
  have hxl : xs.length = 5 := hxl
  have wi : Try.prog.cellsOf 3 = 1 := by kernel_rfl
  have wu : Try.prog.cellsOf 32 = 1 := by kernel_rfl
  have wm : Try.prog.cellsOf 34 = 2 := by kernel_rfl
  match cs, hlen with
  | [v0, v1, v2, v3, v4, v5], _ =>
    obtain ⟨y0, q0⟩ := get_some (xs := xs) (i := 0) (by omega)
    obtain ⟨y1, q1⟩ := get_some (xs := xs) (i := 1) (by omega)
    obtain ⟨y2, q2⟩ := get_some (xs := xs) (i := 2) (by omega)
    obtain ⟨y3, q3⟩ := get_some (xs := xs) (i := 3) (by omega)
    obtain ⟨y4, q4⟩ := get_some (xs := xs) (i := 4) (by omega)
    have g0 := hf 0 _ rfl
    have g1 := hf 1 _ rfl
    have g2 := hf 2 _ rfl
    have g3 := hf 3 _ rfl
    have g4 := hf 4 _ rfl
    rw [q0] at g0
    rw [q1] at g1
    rw [q2] at g2
    rw [q3] at g3
    rw [q4] at g4
    simp [wi, wu, wm] at g0 g1 g2 g3 g4
    obtain ⟨z0, z1, n2, _, _, k0, k1⟩ := trod_struct2 Try.underlying34 g4
    simp [wi] at k0 k1
    obtain ⟨a0, e0, _, wa0⟩ := DataW.trod_int Try.underlying32 g0
    obtain ⟨a1, e1, _, _⟩ := DataW.trod_int Try.underlying3 g1
    obtain ⟨a2, e2, _, _⟩ := DataW.trod_int Try.underlying3 g2
    obtain ⟨a3, e3, _, _⟩ := DataW.trod_int Try.underlying3 g3
    obtain ⟨a4, e4, _, _⟩ := DataW.trod_int Try.underlying3 k0
    obtain ⟨a5, e5, _, _⟩ := DataW.trod_int Try.underlying3 k1
    simp only [List.cons.injEq, and_true] at e0 e1 e2 e3 e4 e5
    subst e0 e1 e2 e3 e4 e5
    have b0 := bounds_u64 wa0
    obtain ⟨k, rfl⟩ := Int.eq_ofNat_of_zero_le b0.1
    exact ⟨⟨k, a1, a2, a3, a4, a5⟩, by show k < _; omega, rfl⟩
theorem asked_trod {n : Nat} {cs : List Value} {y : DataW H × List MemPlace} (h : DataW.trod enc Try.prog w b0 sp held n 52 cs = some y) : ∃ (x : Ent) (d l u : Int), x.k < 18446744073709551616 ∧ cs = x.cs.toList ++ [.int .i64 d, .int .i64 l, .int .i64 u] := by
  obtain ⟨xs, m, _, _, hlen, hxl, hf⟩ := DataW.trod_struct Try.underlying52 h
  have hlen : cs.length = 9 := hlen.trans (by kernel_rfl)
  have hxl : xs.length = 4 := hxl
  have wi : Try.prog.cellsOf 3 = 1 := by kernel_rfl
  have we : Try.prog.cellsOf 36 = 6 := by kernel_rfl
  match cs, hlen with
  | [v0, v1, v2, v3, v4, v5, v6, v7, v8], _ =>
    obtain ⟨y0, q0⟩ := get_some (xs := xs) (i := 0) (by omega)
    obtain ⟨y1, q1⟩ := get_some (xs := xs) (i := 1) (by omega)
    obtain ⟨y2, q2⟩ := get_some (xs := xs) (i := 2) (by omega)
    obtain ⟨y3, q3⟩ := get_some (xs := xs) (i := 3) (by omega)
    have g0 := hf 0 _ rfl
    have g1 := hf 1 _ rfl
    have g2 := hf 2 _ rfl
    have g3 := hf 3 _ rfl
    rw [q0] at g0
    rw [q1] at g1
    rw [q2] at g2
    rw [q3] at g3
    simp [wi, we] at g0 g1 g2 g3
    obtain ⟨x, hk, ex⟩ := ent_trod g0
    obtain ⟨a1, e1, _, _⟩ := DataW.trod_int Try.underlying3 g1
    obtain ⟨a2, e2, _, _⟩ := DataW.trod_int Try.underlying3 g2
    obtain ⟨a3, e3, _, _⟩ := DataW.trod_int Try.underlying3 g3
    simp only [List.cons.injEq, and_true] at e1 e2 e3
    subst e1 e2 e3
    refine ⟨x, a1, a2, a3, hk, ?_⟩
    rw [← ex]
    rfl
theorem op_trod {n : Nat} {cs : List Value} {y : DataW H × List MemPlace} (h : DataW.trod enc Try.prog w b0 sp held n 38 cs = some y) : ∃ (d : Int) (x : Ent) (l u : Int), x.k < 18446744073709551616 ∧ cs = .int .i64 d :: (x.cs.toList ++ [.int .i64 l, .int .i64 u]) := by
  obtain ⟨xs, m, _, _, hlen, hxl, hf⟩ := DataW.trod_struct Try.underlying38 h
  have hlen : cs.length = 9 := hlen.trans (by kernel_rfl)
  have hxl : xs.length = 4 := hxl
  have wi : Try.prog.cellsOf 3 = 1 := by kernel_rfl
  have we : Try.prog.cellsOf 36 = 6 := by kernel_rfl
  match cs, hlen with
  | [v0, v1, v2, v3, v4, v5, v6, v7, v8], _ =>
    obtain ⟨y0, q0⟩ := get_some (xs := xs) (i := 0) (by omega)
    obtain ⟨y1, q1⟩ := get_some (xs := xs) (i := 1) (by omega)
    obtain ⟨y2, q2⟩ := get_some (xs := xs) (i := 2) (by omega)
    obtain ⟨y3, q3⟩ := get_some (xs := xs) (i := 3) (by omega)
    have g0 := hf 0 _ rfl
    have g1 := hf 1 _ rfl
    have g2 := hf 2 _ rfl
    have g3 := hf 3 _ rfl
    rw [q0] at g0
    rw [q1] at g1
    rw [q2] at g2
    rw [q3] at g3
    simp [wi, we] at g0 g1 g2 g3
    obtain ⟨x, hk, ex⟩ := ent_trod g1
    obtain ⟨a0, e0, _, _⟩ := DataW.trod_int Try.underlying3 g0
    obtain ⟨a2, e2, _, _⟩ := DataW.trod_int Try.underlying3 g2
    obtain ⟨a3, e3, _, _⟩ := DataW.trod_int Try.underlying3 g3
    simp only [List.cons.injEq, and_true] at e0 e2 e3
    subst e0 e2 e3
    refine ⟨a0, x, a2, a3, hk, ?_⟩
    rw [← ex]
    rfl
end
theorem open_ent {H : Type} {enc : TypeId × Value → H} {W : World} {base b0 : Nat} {sp : Nat → Bool} {held : Bool} {v : Value} {d : DataW H} {p : List MemPlace} (hv : Value.okWide Try.prog W .any base 36 v)
    (h : DataW.Trod enc Try.prog W b0 sp held 36 v d p) : ∃ (k : Nat) (a b c e f : Int), k < 18446744073709551616 ∧ v = .agg #[.int .u64 k, .int .i64 a, .int .i64 b, .int .i64 c, .int .i64 e, .int .i64 f] := by
  obtain ⟨cs, rfl, hsz⟩ := okWide_struct Try.underlying36 hv
  obtain ⟨fuel, hf⟩ := h
  obtain ⟨⟨k, a, b, c, e, f⟩, hk, hx⟩ := ent_trod hf
  refine ⟨k, a, b, c, e, f, hk, ?_⟩
  have : cs.toList = _ := hx
  rw [show cs = cs.toList.toArray by simp, this]
  rfl
theorem open_asked {H : Type} {enc : TypeId × Value → H} {W : World} {base b0 : Nat} {sp : Nat → Bool} {held : Bool} {v : Value} {d : DataW H} {p : List MemPlace} (hv : Value.okWide Try.prog W .any base 52 v)
    (h : DataW.Trod enc Try.prog W b0 sp held 52 v d p) : ∃ (k : Nat) (a b c e f x y z : Int), k < 18446744073709551616 ∧ v = .agg #[.int .u64 k, .int .i64 a, .int .i64 b, .int .i64 c, .int .i64 e, .int .i64 f, .int .i64 x, .int .i64 y, .int .i64 z] := by
  obtain ⟨cs, rfl, hsz⟩ := okWide_struct Try.underlying52 hv
  obtain ⟨fuel, hf⟩ := h
  obtain ⟨⟨k, a, b, c, e, f⟩, x, y, z, hk, hx⟩ := asked_trod hf
  refine ⟨k, a, b, c, e, f, x, y, z, hk, ?_⟩
  have : cs.toList = _ := hx
  rw [show cs = cs.toList.toArray by simp, this]
  rfl
theorem choose_of {α : Type} (x0 : α) {n : Nat} {p : Nat → α → Prop} (h : ∀ i, i < n → ∃ q, p i q) : ∃ f : Nat → α, ∀ i, i < n → p i (f i) := by
  classical
  exact ⟨fun i => if hi : i < n then Classical.choose (h i hi) else x0, fun i hi => by
    simp only [dif_pos hi]
    exact Classical.choose_spec (h i hi)⟩
/-- Entries that come in. -/
theorem open_ents {H : Type} {enc : TypeId × Value → H} {w : World} {b0 : Nat} {r : Reach} {v : Value} {d : DataW H} {p : List MemPlace}
    (hv : Value.okWide Try.prog w r b0 29 v) (h : DataW.Trod enc Try.prog w 0 (fun _ => true) true 29 v d p) : ∃ (A : Option Addr) (l : List Ent) (c : Nat), v = .slice A l.length c ∧
      (∀ j x, l[j]? = some x → x.k < 18446744073709551616 ∧ ∃ ad, A = some ad ∧ ∀ i, i < 6 → w.cell? ((ad.add (j * 6)).add i) = x.cs[i]?) := by
  obtain ⟨a0, len, cap, rfl⟩ := okWide_slice Try.underlying29 hv
  obtain ⟨fuel, hf⟩ := h
  have ce : Try.prog.cellsOf 36 = 6 := by kernel_rfl
  rcases Go.Deep.open_slice Try.underlying29 hf with ⟨hcs, _⟩ | ⟨a, len', cap', m, n, D, Pl, hcs, _, hl, _, hm, _, hx⟩
  · simp only [Value.cells, List.cons.injEq, Value.slice.injEq, and_true] at hcs
    obtain ⟨rfl, rfl, rfl⟩ := hcs
    exact ⟨none, [], 0, rfl, fun j x hu => by simp at hu⟩
  · simp only [Value.cells, List.cons.injEq, Value.slice.injEq, and_true] at hcs
    obtain ⟨rfl, rfl, rfl⟩ := hcs
    simp only [if_true] at hm
    have each : ∀ i, i < m → ∃ x : Ent, x.k < 18446744073709551616 ∧ ∀ j, j < 6 → w.cell? ((a.add (i * 6)).add j) = x.cs[j]? := by
      intro i hi
      obtain ⟨cs', h1, h2⟩ := hx i hi
      rw [ce] at h1
      obtain ⟨_, hlen, hcell⟩ := World.cells?_some h1
      obtain ⟨x, hk, rfl⟩ := ent_trod h2
      refine ⟨x, hk, fun j hj => ?_⟩
      rw [hcell j hj, Array.getElem?_toList]
    obtain ⟨q, hq⟩ := choose_of ent0 each
    refine ⟨some a, (List.range len).map q, cap, by simp, fun j x hu => ?_⟩
    have hj := (List.getElem?_eq_some_iff.1 hu).1
    rw [List.length_map, List.length_range] at hj
    rw [List.getElem?_map, List.getElem?_range hj] at hu
    simp only [Option.map_some, Option.some.injEq] at hu
    obtain ⟨h0, h1⟩ := hq j (by omega)
    rw [hu] at h0 h1
    exact ⟨h0, a, rfl, h1⟩
end Go.Proofs.Ytgmbigdkipkibaa
