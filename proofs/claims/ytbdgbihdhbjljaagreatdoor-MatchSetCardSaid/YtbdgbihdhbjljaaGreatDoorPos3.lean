/- What positions are in memory, and what stays of them. -/
import Derived.Test.YtbdgbihdhbjljaaGreatDoorLive3
namespace Go.Proofs.YtbdgbihdhbjljaaGreatDoor
open Go.RowKit Go.Shelf
open M (S)

theorem posT_keep {w : World} {g : Nat} {s : ByteArray} {side clock full : Int} {W W' : World} (h : W.cell? ⟨g, 0, none⟩ = some (.string s) ∧ W.cell? ⟨g, 1, none⟩ = some (.int .i64 side) ∧ W.cell? ⟨g, 2, none⟩ = some (.int .i64 clock) ∧ W.cell? ⟨g, 3, none⟩ = some (.int .i64 full) ∧ Tab W ∧ Below w.heap.size w W) (hb : Below W.heap.size W W') : W'.cell? ⟨g, 0, none⟩ = some (.string s) ∧ W'.cell? ⟨g, 1, none⟩ = some (.int .i64 side) ∧ W'.cell? ⟨g, 2, none⟩ = some (.int .i64 clock) ∧ W'.cell? ⟨g, 3, none⟩ = some (.int .i64 full) ∧ Tab W' ∧ Below w.heap.size w W' := by
  obtain ⟨h0, h1, h2, h3, h4, h5⟩ := h
  have hg : g < W.heap.size := World.block_lt_of_cell? _ _ h0
  exact ⟨(hb.cell (p := ⟨g, 0, none⟩) hg).trans h0, (hb.cell (p := ⟨g, 1, none⟩) hg).trans h1, (hb.cell (p := ⟨g, 2, none⟩) hg).trans h2, (hb.cell (p := ⟨g, 3, none⟩) hg).trans h3, h4.next hb, h5.trans (hb.mono h5.size)⟩
theorem posT_tab {w : World} {g : Nat} {s : ByteArray} {side clock full : Int} {W : World} (h : W.cell? ⟨g, 0, none⟩ = some (.string s) ∧ W.cell? ⟨g, 1, none⟩ = some (.int .i64 side) ∧ W.cell? ⟨g, 2, none⟩ = some (.int .i64 clock) ∧ W.cell? ⟨g, 3, none⟩ = some (.int .i64 full) ∧ Tab W ∧ Below w.heap.size w W) : Tab W := h.2.2.2.2.1
theorem posT_below {w : World} {g : Nat} {s : ByteArray} {side clock full : Int} {W : World} (h : W.cell? ⟨g, 0, none⟩ = some (.string s) ∧ W.cell? ⟨g, 1, none⟩ = some (.int .i64 side) ∧ W.cell? ⟨g, 2, none⟩ = some (.int .i64 clock) ∧ W.cell? ⟨g, 3, none⟩ = some (.int .i64 full) ∧ Tab W ∧ Below w.heap.size w W) : Below w.heap.size w W := h.2.2.2.2.2
end Go.Proofs.YtbdgbihdhbjljaaGreatDoor
