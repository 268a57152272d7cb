/- A position from the other side, by the document's plain answer. -/
import Derived.Test.YtbdgbihdhbjljaaGreatDoorPlaceF
namespace Go.Proofs.YtbdgbihdhbjljaaGreatDoor
open Go.RowKit Go.Shelf
open M (S)

/-- What a cell holds that is there, whatever that is: so a store into it can be walked. -/
def cellOf (W : World) (a : Addr) : Value := (W.cell? a).getD undef
theorem cellOf_some {W : World} {a : Addr} (h : (W.cell? a).isSome = true) : W.cell? a = some (cellOf W a) := by
  obtain ⟨u, hu⟩ := Option.isSome_iff_exists.1 h
  rw [cellOf, hu]
  rfl
theorem isSome_of {W : World} {a : Addr} {v : Value} (h : W.cell? a = some v) : (W.cell? a).isSome = true := by rw [h]; rfl
theorem isSome_set {w : World} {p a : Addr} {v : Value} (h : (w.cell? a).isSome = true) : ((w.setCell p v).cell? a).isSome = true := by
  by_cases e : p = a
  · subst e
    rw [World.cell?_setCell_same' _ _ _ h]; rfl
  · rw [World.cell?_setCell_other _ _ _ _ e]; exact h
theorem rturn_is (s t : ByteArray) (w : World) (h : turnB s = t) : Calls Tryz.prog 70 #[.string s] w (Gives w (.string t)) := by subst h; exact rturn_any s w
theorem tpos_keep {w : World} {s : ByteArray} {side clock full : Int} {W W' : World} (h : W.cell? ⟨w.heap.size, 0, none⟩ = some (.string s) ∧ W.cell? ⟨w.heap.size, 1, none⟩ = some (.int .i64 side) ∧ W.cell? ⟨w.heap.size, 2, none⟩ = some (.int .i64 clock) ∧ W.cell? ⟨w.heap.size, 3, none⟩ = some (.int .i64 full) ∧ W.cell? ⟨w.heap.size + 1, 0, none⟩ = some (cellOf W ⟨w.heap.size + 1, 0, none⟩) ∧ W.cell? ⟨w.heap.size + 1, 1, none⟩ = some (cellOf W ⟨w.heap.size + 1, 1, none⟩) ∧ W.cell? ⟨w.heap.size + 1, 2, none⟩ = some (cellOf W ⟨w.heap.size + 1, 2, none⟩) ∧ W.cell? ⟨w.heap.size + 1, 3, none⟩ = some (cellOf W ⟨w.heap.size + 1, 3, none⟩) ∧ W.frozen? ⟨w.heap.size + 1, 0, none⟩ = false ∧ W.frozen? ⟨w.heap.size + 1, 1, none⟩ = false ∧ W.frozen? ⟨w.heap.size + 1, 2, none⟩ = false ∧ W.frozen? ⟨w.heap.size + 1, 3, none⟩ = false ∧ Below w.heap.size w W) (hb : Below W.heap.size W W') :
    W'.cell? ⟨w.heap.size, 0, none⟩ = some (.string s) ∧ W'.cell? ⟨w.heap.size, 1, none⟩ = some (.int .i64 side) ∧ W'.cell? ⟨w.heap.size, 2, none⟩ = some (.int .i64 clock) ∧ W'.cell? ⟨w.heap.size, 3, none⟩ = some (.int .i64 full) ∧ W'.cell? ⟨w.heap.size + 1, 0, none⟩ = some (cellOf W' ⟨w.heap.size + 1, 0, none⟩) ∧ W'.cell? ⟨w.heap.size + 1, 1, none⟩ = some (cellOf W' ⟨w.heap.size + 1, 1, none⟩) ∧ W'.cell? ⟨w.heap.size + 1, 2, none⟩ = some (cellOf W' ⟨w.heap.size + 1, 2, none⟩) ∧ W'.cell? ⟨w.heap.size + 1, 3, none⟩ = some (cellOf W' ⟨w.heap.size + 1, 3, none⟩) ∧ W'.frozen? ⟨w.heap.size + 1, 0, none⟩ = false ∧ W'.frozen? ⟨w.heap.size + 1, 1, none⟩ = false ∧ W'.frozen? ⟨w.heap.size + 1, 2, none⟩ = false ∧ W'.frozen? ⟨w.heap.size + 1, 3, none⟩ = false ∧ Below w.heap.size w W' := by
  obtain ⟨h0, h1, h2, h3, i0, i1, i2, i3, f0, f1, f2, f3, h5⟩ := h
  have hg : w.heap.size < W.heap.size := World.block_lt_of_cell? _ _ h0
  have hg1 : w.heap.size + 1 < W.heap.size := World.block_lt_of_cell? _ _ i0
  obtain ⟨hc, hf⟩ := bcell hb
  rw [hc _ _ hg, hc _ _ hg, hc _ _ hg, hc _ _ hg, hf _ _ hg1, hf _ _ hg1, hf _ _ hg1, hf _ _ hg1]
  exact ⟨h0, h1, h2, h3, cellOf_some (by rw [hc _ _ hg1]; exact isSome_of i0), cellOf_some (by rw [hc _ _ hg1]; exact isSome_of i1), cellOf_some (by rw [hc _ _ hg1]; exact isSome_of i2), cellOf_some (by rw [hc _ _ hg1]; exact isSome_of i3), f0, f1, f2, f3, h5.trans (hb.mono h5.size)⟩
theorem tpos_set {w : World} {s : ByteArray} {side clock full : Int} {W : World} (h : W.cell? ⟨w.heap.size, 0, none⟩ = some (.string s) ∧ W.cell? ⟨w.heap.size, 1, none⟩ = some (.int .i64 side) ∧ W.cell? ⟨w.heap.size, 2, none⟩ = some (.int .i64 clock) ∧ W.cell? ⟨w.heap.size, 3, none⟩ = some (.int .i64 full) ∧ W.cell? ⟨w.heap.size + 1, 0, none⟩ = some (cellOf W ⟨w.heap.size + 1, 0, none⟩) ∧ W.cell? ⟨w.heap.size + 1, 1, none⟩ = some (cellOf W ⟨w.heap.size + 1, 1, none⟩) ∧ W.cell? ⟨w.heap.size + 1, 2, none⟩ = some (cellOf W ⟨w.heap.size + 1, 2, none⟩) ∧ W.cell? ⟨w.heap.size + 1, 3, none⟩ = some (cellOf W ⟨w.heap.size + 1, 3, none⟩) ∧ W.frozen? ⟨w.heap.size + 1, 0, none⟩ = false ∧ W.frozen? ⟨w.heap.size + 1, 1, none⟩ = false ∧ W.frozen? ⟨w.heap.size + 1, 2, none⟩ = false ∧ W.frozen? ⟨w.heap.size + 1, 3, none⟩ = false ∧ Below w.heap.size w W) (j : Nat) (v : Value) :
    (W.setCell ⟨w.heap.size + 1, j, none⟩ v).cell? ⟨w.heap.size, 0, none⟩ = some (.string s) ∧ (W.setCell ⟨w.heap.size + 1, j, none⟩ v).cell? ⟨w.heap.size, 1, none⟩ = some (.int .i64 side) ∧ (W.setCell ⟨w.heap.size + 1, j, none⟩ v).cell? ⟨w.heap.size, 2, none⟩ = some (.int .i64 clock) ∧ (W.setCell ⟨w.heap.size + 1, j, none⟩ v).cell? ⟨w.heap.size, 3, none⟩ = some (.int .i64 full) ∧ (W.setCell ⟨w.heap.size + 1, j, none⟩ v).cell? ⟨w.heap.size + 1, 0, none⟩ = some (cellOf (W.setCell ⟨w.heap.size + 1, j, none⟩ v) ⟨w.heap.size + 1, 0, none⟩) ∧ (W.setCell ⟨w.heap.size + 1, j, none⟩ v).cell? ⟨w.heap.size + 1, 1, none⟩ = some (cellOf (W.setCell ⟨w.heap.size + 1, j, none⟩ v) ⟨w.heap.size + 1, 1, none⟩) ∧ (W.setCell ⟨w.heap.size + 1, j, none⟩ v).cell? ⟨w.heap.size + 1, 2, none⟩ = some (cellOf (W.setCell ⟨w.heap.size + 1, j, none⟩ v) ⟨w.heap.size + 1, 2, none⟩) ∧ (W.setCell ⟨w.heap.size + 1, j, none⟩ v).cell? ⟨w.heap.size + 1, 3, none⟩ = some (cellOf (W.setCell ⟨w.heap.size + 1, j, none⟩ v) ⟨w.heap.size + 1, 3, none⟩) ∧ (W.setCell ⟨w.heap.size + 1, j, none⟩ v).frozen? ⟨w.heap.size + 1, 0, none⟩ = false ∧ (W.setCell ⟨w.heap.size + 1, j, none⟩ v).frozen? ⟨w.heap.size + 1, 1, none⟩ = false ∧ (W.setCell ⟨w.heap.size + 1, j, none⟩ v).frozen? ⟨w.heap.size + 1, 2, none⟩ = false ∧ (W.setCell ⟨w.heap.size + 1, j, none⟩ v).frozen? ⟨w.heap.size + 1, 3, none⟩ = false ∧ Below w.heap.size w (W.setCell ⟨w.heap.size + 1, j, none⟩ v) := by
  obtain ⟨h0, h1, h2, h3, i0, i1, i2, i3, f0, f1, f2, f3, h5⟩ := h
  have ho : ∀ k, (W.setCell ⟨w.heap.size + 1, j, none⟩ v).cell? ⟨w.heap.size, k, none⟩ = W.cell? ⟨w.heap.size, k, none⟩ := fun k => World.cell?_setCell_other _ _ _ _ (by intro e; injection e with e _; omega)
  have hf : ∀ a, (W.setCell ⟨w.heap.size + 1, j, none⟩ v).frozen? a = W.frozen? a := fun a => by simp
  rw [ho, ho, ho, ho, hf, hf, hf, hf]
  exact ⟨h0, h1, h2, h3, cellOf_some (isSome_set (isSome_of i0)), cellOf_some (isSome_set (isSome_of i1)), cellOf_some (isSome_set (isSome_of i2)), cellOf_some (isSome_set (isSome_of i3)), f0, f1, f2, f3, h5.setCell (p := ⟨w.heap.size + 1, j, none⟩) (by simp) _⟩
set_option maxRecDepth 100000 in
set_option maxHeartbeats 1000000 in
theorem rturnP_any (s t : ByteArray) (side clock full : Int) (w : World) (h0 : 0 ≤ side) (h1 : side ≤ 1) (Ht : Hid (turnB s = t)) : Calls Tryz.prog 39 #[.agg #[.string s, .int .i64 side, .int .i64 clock, .int .i64 full]] w (Gives w (.agg #[.string t, .int .i64 (1 - side), .int .i64 clock, .int .i64 full])) := by
  unfold Gives
  have i1 : IntKind.i64.wrap (1 - side) = 1 - side := IntWalk.i64_in _ (by omega)
  go_enter Tryz.func39, Tryz.ntmps39
  go_wp2_with fail
  obtain ⟨W0, hW0⟩ : ∃ W0, (w.alloc (.cells #[.string s, .int .i64 side, .int .i64 clock, .int .i64 full] 23)).alloc (.cells #[.string ⟨#[]⟩, .int .i64 0, .int .i64 0, .int .i64 0] 23) = W0 := ⟨_, rfl⟩
  have hB : Below w.heap.size w W0 := by rw [← hW0]; exact (by repeat (first | exact Below.refl _ _ | (refine Below.setCell ?_ (by first | omega | (simp; done) | (simp; omega) | (simp at *; omega)) _) | (refine Below.alloc ?_ (by first | omega | (simp; done) | (simp; omega) | (simp at *; omega)) _) | refine Below.drew ?_ | (refine below_drewN ?_ _) | (refine Below.trans ?_ (Below.mono (by assumption) (by first | omega | (simp; done) | (simp; omega) | (simp at *; omega))))))
  have bP : Blk W0 w.heap.size 23 #[.string s, .int .i64 side, .int .i64 clock, .int .i64 full] := by rw [← hW0]; exact (Blk.new _ _ _ rfl).alloc _
  have bQ : Blk W0 (w.heap.size + 1) 23 #[.string ⟨#[]⟩, .int .i64 0, .int .i64 0, .int .i64 0] := by rw [← hW0]; exact Blk.new _ _ _ (by simp)
  rw [hW0]
  have hS : W0.drew.cell? ⟨w.heap.size, 0, none⟩ = some (.string s) ∧ W0.drew.cell? ⟨w.heap.size, 1, none⟩ = some (.int .i64 side) ∧ W0.drew.cell? ⟨w.heap.size, 2, none⟩ = some (.int .i64 clock) ∧ W0.drew.cell? ⟨w.heap.size, 3, none⟩ = some (.int .i64 full) ∧ W0.drew.cell? ⟨w.heap.size + 1, 0, none⟩ = some (cellOf W0.drew ⟨w.heap.size + 1, 0, none⟩) ∧ W0.drew.cell? ⟨w.heap.size + 1, 1, none⟩ = some (cellOf W0.drew ⟨w.heap.size + 1, 1, none⟩) ∧ W0.drew.cell? ⟨w.heap.size + 1, 2, none⟩ = some (cellOf W0.drew ⟨w.heap.size + 1, 2, none⟩) ∧ W0.drew.cell? ⟨w.heap.size + 1, 3, none⟩ = some (cellOf W0.drew ⟨w.heap.size + 1, 3, none⟩) ∧ W0.drew.frozen? ⟨w.heap.size + 1, 0, none⟩ = false ∧ W0.drew.frozen? ⟨w.heap.size + 1, 1, none⟩ = false ∧ W0.drew.frozen? ⟨w.heap.size + 1, 2, none⟩ = false ∧ W0.drew.frozen? ⟨w.heap.size + 1, 3, none⟩ = false ∧ Below w.heap.size w W0.drew := ⟨bP.cell 0, bP.cell 1, bP.cell 2, bP.cell 3, cellOf_some (isSome_of (bQ.cell 0)), cellOf_some (isSome_of (bQ.cell 1)), cellOf_some (isSome_of (bQ.cell 2)), cellOf_some (isSome_of (bQ.cell 3)), bQ.frozen 0, bQ.frozen 1, bQ.frozen 2, bQ.frozen 3, hB.drew⟩
  clear hW0 hB bP bQ
  go_region_held3 (fun W => W.cell? ⟨w.heap.size, 0, none⟩ = some (.string s) ∧ W.cell? ⟨w.heap.size, 1, none⟩ = some (.int .i64 side) ∧ W.cell? ⟨w.heap.size, 2, none⟩ = some (.int .i64 clock) ∧ W.cell? ⟨w.heap.size, 3, none⟩ = some (.int .i64 full) ∧ W.cell? ⟨w.heap.size + 1, 0, none⟩ = some (cellOf W ⟨w.heap.size + 1, 0, none⟩) ∧ W.cell? ⟨w.heap.size + 1, 1, none⟩ = some (cellOf W ⟨w.heap.size + 1, 1, none⟩) ∧ W.cell? ⟨w.heap.size + 1, 2, none⟩ = some (cellOf W ⟨w.heap.size + 1, 2, none⟩) ∧ W.cell? ⟨w.heap.size + 1, 3, none⟩ = some (cellOf W ⟨w.heap.size + 1, 3, none⟩) ∧ W.frozen? ⟨w.heap.size + 1, 0, none⟩ = false ∧ W.frozen? ⟨w.heap.size + 1, 1, none⟩ = false ∧ W.frozen? ⟨w.heap.size + 1, 2, none⟩ = false ∧ W.frozen? ⟨w.heap.size + 1, 3, none⟩ = false ∧ Below w.heap.size w W)
    (first | exact hS | exact tpos_keep (by assumption) hb | exact tpos_set (tpos_set (tpos_set (tpos_set (by assumption) _ _) _ _) _ _) _ _)
    ((go_at_call 70; refine (rturn_is s t _ Ht.out).mono ?_; rintro e w1 ⟨rfl, hb⟩))
  rename_i hH
  obtain ⟨_, _, _, _, q0, q1, q2, q3, _, _, _, _, hB⟩ := tpos_keep hS hb
  clear hH hS hb
  go_wp2
  exact bodyPost_ret (v := .agg #[.string t, .int .i64 (1 - side), .int .i64 clock, .int .i64 full]) (by simp [results, Tryz.results39, go_sem, q0, q1, q2, q3]) rfl ⟨rfl, (((hB.setCell (p := ⟨w.heap.size + 1, 0, none⟩) (by simp) _).setCell (p := ⟨w.heap.size + 1, 1, none⟩) (by simp) _).setCell (p := ⟨w.heap.size + 1, 2, none⟩) (by simp) _).setCell (p := ⟨w.heap.size + 1, 3, none⟩) (by simp) _⟩
end Go.Proofs.YtbdgbihdhbjljaaGreatDoor
