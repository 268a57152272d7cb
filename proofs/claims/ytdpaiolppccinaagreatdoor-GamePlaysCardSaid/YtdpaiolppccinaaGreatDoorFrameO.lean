/- A list of steps of a script that comes in: for each a word and the two numbers of a move. -/
import Derived.Test.YtdpaiolppccinaaGreatDoorFrameM
namespace Go.Proofs.YtdpaiolppccinaaGreatDoor
open Go.ChangeShapes Go.WideShapes Go.ChangeAt Go.RowKit Go.Joins
set_option maxRecDepth 100000

def bOf : Value → Bool
  | .bool b => b
  | _ => false
theorem add_two (a : Addr) (n : Nat) : a.add (n + 2) = ⟨(a.add n).block, (a.add n).off + 2, none⟩ := by
  unfold Addr.add
  by_cases h : n = 0
  · subst h; rfl
  · rw [if_neg h, if_neg (by omega)]; simp; omega
theorem open_ops {H : Type} {enc : TypeId × Value → H} {w : World} {b0 : Nat} {r : Reach} {v : Value} {d : DataW H} {p : List MemPlace}
    (hv : Value.okWide Tryz.prog w r b0 24 v) (h : DataW.Trod enc Tryz.prog w 0 (fun _ => true) true 24 v d p) : ∃ (A : Option Addr) (l : List (Bool × Int × Int)) (c : Nat), v = .slice A l.length c ∧
      (∀ j k a b, l[j]? = some (k, a, b) → ∃ ad, A = some ad ∧ w.cell? (ad.add (j * 3)) = some (.bool k) ∧ w.cell? ⟨(ad.add (j * 3)).block, (ad.add (j * 3)).off + 1, none⟩ = some (.int .i64 a) ∧ w.cell? ⟨(ad.add (j * 3)).block, (ad.add (j * 3)).off + 2, none⟩ = some (.int .i64 b)) := by
  obtain ⟨a0, len, cap, rfl⟩ := okWide_slice Tryz.underlying24 hv
  obtain ⟨fuel, hf⟩ := h
  have ce : Tryz.prog.cellsOf 36 = 3 := by kernel_rfl
  have cm : Tryz.prog.cellsOf 34 = 2 := by kernel_rfl
  have cb : Tryz.prog.cellsOf 4 = 1 := by kernel_rfl
  have ci : Tryz.prog.cellsOf 3 = 1 := by kernel_rfl
  rcases Go.Deep.open_slice Tryz.underlying24 hf with ⟨hcs, _⟩ | ⟨a, len', cap', m, n, D, Pl, hcs, _, hl, _, hm, _, hx⟩
  · simp only [Value.cells, List.cons.injEq, Value.slice.injEq, and_true] at hcs
    obtain ⟨rfl, rfl, rfl⟩ := hcs
    exact ⟨none, [], 0, rfl, fun j k a b hu => by simp at hu⟩
  · simp only [Value.cells, List.cons.injEq, Value.slice.injEq, and_true] at hcs
    obtain ⟨rfl, rfl, rfl⟩ := hcs
    simp only [if_true] at hm
    have each : ∀ i, i < m → ∃ q : Bool × Int × Int, w.cell? (a.add (i * 3)) = some (.bool q.1) ∧ w.cell? (a.add (i * 3 + 1)) = some (.int .i64 q.2.1) ∧ w.cell? (a.add (i * 3 + 2)) = some (.int .i64 q.2.2) := by
      intro i hi
      obtain ⟨cs', h1, h2⟩ := hx i hi
      rw [ce] at h1
      obtain ⟨_, hlen, hcell⟩ := World.cells?_some h1
      obtain ⟨y0, y1, n', _, _, g0, g1⟩ := Go.ChangeShapes.trod_struct2 Tryz.underlying36 h2
      match cs', hlen with
      | [v0, v1, v2], _ =>
        have g0' : DataW.trod enc Tryz.prog w 0 (fun _ => true) true n' 4 [v0] = some y0 := by simpa [cb] using g0
        have g1' : DataW.trod enc Tryz.prog w 0 (fun _ => true) true n' 34 [v1, v2] = some y1 := by simpa [cm] using g1
        obtain ⟨z0, z1, n2, _, _, k0, k1⟩ := Go.ChangeShapes.trod_struct2 Tryz.underlying34 g1'
        have k0' : DataW.trod enc Tryz.prog w 0 (fun _ => true) true n2 3 [v1] = some z0 := by simpa [ci] using k0
        have k1' : DataW.trod enc Tryz.prog w 0 (fun _ => true) true n2 3 [v2] = some z1 := by simpa [ci] using k1
        obtain ⟨b, e0, _⟩ := DataW.trod_bool Tryz.underlying4 g0'
        obtain ⟨i1, e1, _, _⟩ := DataW.trod_int Tryz.underlying3 k0'
        obtain ⟨i2, e2, _, _⟩ := DataW.trod_int Tryz.underlying3 k1'
        simp only [List.cons.injEq, and_true] at e0 e1 e2
        subst e0 e1 e2
        have c0 := hcell 0 (by omega)
        have c1 := hcell 1 (by omega)
        have c2 := hcell 2 (by omega)
        rw [Go.Deep.add_add] at c0 c1 c2
        exact ⟨(b, i1, i2), by simpa using c0, by simpa using c1, by simpa using c2⟩
    obtain ⟨q, hq⟩ := Go.Deep.choose_lt each
    refine ⟨some a, (List.range len).map q, cap, by simp, fun j k x y hu => ⟨a, rfl, ?_⟩⟩
    have hj := (List.getElem?_eq_some_iff.1 hu).1
    rw [List.length_map, List.length_range] at hj
    rw [List.getElem?_map, List.getElem?_range hj] at hu
    simp only [Option.map_some, Option.some.injEq] at hu
    obtain ⟨h0, h1, h2⟩ := hq j (by omega)
    rw [hu] at h0 h1 h2
    rw [add_one] at h1
    rw [add_two] at h2
    exact ⟨h0, h1, h2⟩
end Go.Proofs.YtdpaiolppccinaaGreatDoor
