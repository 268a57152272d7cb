/- A position from the other side, by the document's plain answer. -/
import Derived.Test.YtnpenlmlggpemaaDoorPlaceF
namespace Go.Proofs.YtnpenlmlggpemaaDoor
open Go.RowKit Go.Shelf
open M (S)

/-- What a cell holds that is there, whatever that is: so a store into it can be walked. -/
def cellOf (W : World) (a : Addr) : Value := (W.cell? a).getD undef
theorem cellOf_some {W : World} {a : Addr} (h : (W.cell? a).isSome = true) : W.cell? a = some (cellOf W a) := by
  obtain ⟨u, hu⟩ := Option.isSome_iff_exists.1 h
  rw [cellOf, hu]
  rfl
theorem isSome_of {W : World} {a : Addr} {v : Value} (h : W.cell? a = some v) : (W.cell? a).isSome = true := by rw [h]; rfl
theorem isSome_set {w : World} {p a : Addr} {v : Value} (h : (w.cell? a).isSome = true) : ((w.setCell p v).cell? a).isSome = true := by
  by_cases e : p = a
  · subst e
    rw [World.cell?_setCell_same' _ _ _ h]; rfl
  · rw [World.cell?_setCell_other _ _ _ _ e]; exact h
theorem tpos_keep {w : World} {s : ByteArray} {side clock full : Int} {W W' : World} (h : W.cell? ⟨w.heap.size, 0, none⟩ = some (.string s) ∧ W.cell? ⟨w.heap.size, 1, none⟩ = some (.int .i64 side) ∧ W.cell? ⟨w.heap.size, 2, none⟩ = some (.int .i64 clock) ∧ W.cell? ⟨w.heap.size, 3, none⟩ = some (.int .i64 full) ∧ W.cell? ⟨w.heap.size + 1, 0, none⟩ = some (cellOf W ⟨w.heap.size + 1, 0, none⟩) ∧ W.cell? ⟨w.heap.size + 1, 1, none⟩ = some (cellOf W ⟨w.heap.size + 1, 1, none⟩) ∧ W.cell? ⟨w.heap.size + 1, 2, none⟩ = some (cellOf W ⟨w.heap.size + 1, 2, none⟩) ∧ W.cell? ⟨w.heap.size + 1, 3, none⟩ = some (cellOf W ⟨w.heap.size + 1, 3, none⟩) ∧ W.frozen? ⟨w.heap.size + 1, 0, none⟩ = false ∧ W.frozen? ⟨w.heap.size + 1, 1, none⟩ = false ∧ W.frozen? ⟨w.heap.size + 1, 2, none⟩ = false ∧ W.frozen? ⟨w.heap.size + 1, 3, none⟩ = false ∧ Below w.heap.size w W) (hb : Below W.heap.size W W') :
    W'.cell? ⟨w.heap.size, 0, none⟩ = some (.string s) ∧ W'.cell? ⟨w.heap.size, 1, none⟩ = some (.int .i64 side) ∧ W'.cell? ⟨w.heap.size, 2, none⟩ = some (.int .i64 clock) ∧ W'.cell? ⟨w.heap.size, 3, none⟩ = some (.int .i64 full) ∧ W'.cell? ⟨w.heap.size + 1, 0, none⟩ = some (cellOf W' ⟨w.heap.size + 1, 0, none⟩) ∧ W'.cell? ⟨w.heap.size + 1, 1, none⟩ = some (cellOf W' ⟨w.heap.size + 1, 1, none⟩) ∧ W'.cell? ⟨w.heap.size + 1, 2, none⟩ = some (cellOf W' ⟨w.heap.size + 1, 2, none⟩) ∧ W'.cell? ⟨w.heap.size + 1, 3, none⟩ = some (cellOf W' ⟨w.heap.size + 1, 3, none⟩) ∧ W'.frozen? ⟨w.heap.size + 1, 0, none⟩ = false ∧ W'.frozen? ⟨w.heap.size + 1, 1, none⟩ = false ∧ W'.frozen? ⟨w.heap.size + 1, 2, none⟩ = false ∧ W'.frozen? ⟨w.heap.size + 1, 3, none⟩ = false ∧ Below w.heap.size w W' := by
  obtain ⟨h0, h1, h2, h3, i0, i1, i2, i3, f0, f1, f2, f3, h5⟩ := h
  have hg : w.heap.size < W.heap.size := World.block_lt_of_cell? _ _ h0
  have hg1 : w.heap.size + 1 < W.heap.size := World.block_lt_of_cell? _ _ i0
  obtain ⟨hc, hf⟩ := bcell hb
  rw [hc _ _ hg, hc _ _ hg, hc _ _ hg, hc _ _ hg, hf _ _ hg1, hf _ _ hg1, hf _ _ hg1, hf _ _ hg1]
  exact ⟨h0, h1, h2, h3, cellOf_some (by rw [hc _ _ hg1]; exact isSome_of i0), cellOf_some (by rw [hc _ _ hg1]; exact isSome_of i1), cellOf_some (by rw [hc _ _ hg1]; exact isSome_of i2), cellOf_some (by rw [hc _ _ hg1]; exact isSome_of i3), f0, f1, f2, f3, h5.trans (hb.mono h5.size)⟩
theorem tpos_set {w : World} {s : ByteArray} {side clock full : Int} {W : World} (h : W.cell? ⟨w.heap.size, 0, none⟩ = some (.string s) ∧ W.cell? ⟨w.heap.size, 1, none⟩ = some (.int .i64 side) ∧ W.cell? ⟨w.heap.size, 2, none⟩ = some (.int .i64 clock) ∧ W.cell? ⟨w.heap.size, 3, none⟩ = some (.int .i64 full) ∧ W.cell? ⟨w.heap.size + 1, 0, none⟩ = some (cellOf W ⟨w.heap.size + 1, 0, none⟩) ∧ W.cell? ⟨w.heap.size + 1, 1, none⟩ = some (cellOf W ⟨w.heap.size + 1, 1, none⟩) ∧ W.cell? ⟨w.heap.size + 1, 2, none⟩ = some (cellOf W ⟨w.heap.size + 1, 2, none⟩) ∧ W.cell? ⟨w.heap.size + 1, 3, none⟩ = some (cellOf W ⟨w.heap.size + 1, 3, none⟩) ∧ W.frozen? ⟨w.heap.size + 1, 0, none⟩ = false ∧ W.frozen? ⟨w.heap.size + 1, 1, none⟩ = false ∧ W.frozen? ⟨w.heap.size + 1, 2, none⟩ = false ∧ W.frozen? ⟨w.heap.size + 1, 3, none⟩ = false ∧ Below w.heap.size w W) (j : Nat) (v : Value) :
    (W.setCell ⟨w.heap.size + 1, j, none⟩ v).cell? ⟨w.heap.size, 0, none⟩ = some (.string s) ∧ (W.setCell ⟨w.heap.size + 1, j, none⟩ v).cell? ⟨w.heap.size, 1, none⟩ = some (.int .i64 side) ∧ (W.setCell ⟨w.heap.size + 1, j, none⟩ v).cell? ⟨w.heap.size, 2, none⟩ = some (.int .i64 clock) ∧ (W.setCell ⟨w.heap.size + 1, j, none⟩ v).cell? ⟨w.heap.size, 3, none⟩ = some (.int .i64 full) ∧ (W.setCell ⟨w.heap.size + 1, j, none⟩ v).cell? ⟨w.heap.size + 1, 0, none⟩ = some (cellOf (W.setCell ⟨w.heap.size + 1, j, none⟩ v) ⟨w.heap.size + 1, 0, none⟩) ∧ (W.setCell ⟨w.heap.size + 1, j, none⟩ v).cell? ⟨w.heap.size + 1, 1, none⟩ = some (cellOf (W.setCell ⟨w.heap.size + 1, j, none⟩ v) ⟨w.heap.size + 1, 1, none⟩) ∧ (W.setCell ⟨w.heap.size + 1, j, none⟩ v).cell? ⟨w.heap.size + 1, 2, none⟩ = some (cellOf (W.setCell ⟨w.heap.size + 1, j, none⟩ v) ⟨w.heap.size + 1, 2, none⟩) ∧ (W.setCell ⟨w.heap.size + 1, j, none⟩ v).cell? ⟨w.heap.size + 1, 3, none⟩ = some (cellOf (W.setCell ⟨w.heap.size + 1, j, none⟩ v) ⟨w.heap.size + 1, 3, none⟩) ∧ (W.setCell ⟨w.heap.size + 1, j, none⟩ v).frozen? ⟨w.heap.size + 1, 0, none⟩ = false ∧ (W.setCell ⟨w.heap.size + 1, j, none⟩ v).frozen? ⟨w.heap.size + 1, 1, none⟩ = false ∧ (W.setCell ⟨w.heap.size + 1, j, none⟩ v).frozen? ⟨w.heap.size + 1, 2, none⟩ = false ∧ (W.setCell ⟨w.heap.size + 1, j, none⟩ v).frozen? ⟨w.heap.size + 1, 3, none⟩ = false ∧ Below w.heap.size w (W.setCell ⟨w.heap.size + 1, j, none⟩ v) := by
  obtain ⟨h0, h1, h2, h3, i0, i1, i2, i3, f0, f1, f2, f3, h5⟩ := h
  have ho : ∀ k, (W.setCell ⟨w.heap.size + 1, j, none⟩ v).cell? ⟨w.heap.size, k, none⟩ = W.cell? ⟨w.heap.size, k, none⟩ := fun k => World.cell?_setCell_other _ _ _ _ (by intro e; injection e with e _; omega)
  have hf : ∀ a, (W.setCell ⟨w.heap.size + 1, j, none⟩ v).frozen? a = W.frozen? a := fun a => by simp
  rw [ho, ho, ho, ho, hf, hf, hf, hf]
  exact ⟨h0, h1, h2, h3, cellOf_some (isSome_set (isSome_of i0)), cellOf_some (isSome_set (isSome_of i1)), cellOf_some (isSome_set (isSome_of i2)), cellOf_some (isSome_set (isSome_of i3)), f0, f1, f2, f3, h5.setCell (p := ⟨w.heap.size + 1, j, none⟩) (by simp) _⟩
end Go.Proofs.YtnpenlmlggpemaaDoor
