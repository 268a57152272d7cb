/- A copy of a game that has no past. -/
import Derived.Test.YtocdmnkmepplcaaGreatDoorGameL
import Derived.Lib.SliceRun
namespace Go.Proofs.YtocdmnkmepplcaaGreatDoor
open Go.RowKit Go.Shelf
open M (S)

set_option maxRecDepth 100000 in
set_option maxHeartbeats 2000000 in
theorem sclone_nil (w : World) : Calls Tryz.prog 93 #[.slice none 0 0] w (Gives w (.slice none 0 0)) := by
  unfold Gives
  have q := fun (w : World) (a : Option Addr) (n c n' c' : Nat) => Lib.run_eql_slice_nil (P := Tryz.prog) w _ _ a n c n' c' Tryz.underlying74
  go_enter Tryz.func93, Tryz.ntmps93
  go_wp2_with fail
  go_ret
  exact ⟨rfl, Below.refl _ _⟩
set_option maxRecDepth 100000 in
set_option maxHeartbeats 2000000 in
theorem clone_none {g : Nat} {t : TypeId} {s : ByteArray} {y z u : Int} {w : World} (h : Blk w g t #[.slice none 0 0, .string s, .int .i64 y, .int .i64 z, .int .i64 u]) : Calls Tryz.prog 60 #[.pointer (some ⟨g, 0, none⟩)] w (Gives w (.agg #[.slice none 0 0])) := by
  unfold Gives
  have h0 := (h.alloc (.cells #[.slice none 0 0] 76)).cell 0
  replace h0 : (w.alloc (.cells #[.slice none 0 0] 76)).cell? ⟨g, 0, none⟩ = some (.slice none 0 0) := h0
  go_enter Tryz.func60, Tryz.ntmps60
  go_wp2_with fail
  have hB : Below w.heap.size w (w.alloc (.cells #[.slice none 0 0] 76)) := (by repeat (first | exact Below.refl _ _ | (refine Below.setCell ?_ (by first | omega | (simp; done) | (simp; omega) | (simp at *; omega)) _) | (refine Below.alloc ?_ (by first | omega | (simp; done) | (simp; omega) | (simp at *; omega)) _) | refine Below.drew ?_ | (refine below_drewN ?_ _) | (refine Below.trans ?_ (Below.mono (by assumption) (by first | omega | (simp; done) | (simp; omega) | (simp at *; omega))))))
  obtain ⟨W0, hW0⟩ : ∃ W0, w.alloc (.cells #[.slice none 0 0] 76) = W0 := ⟨_, rfl⟩
  have bH : Blk W0 w.heap.size 76 #[.slice none 0 0] := by rw [← hW0]; exact Blk.new _ _ _ rfl
  rw [hW0] at hB ⊢
  clear hW0 h0
  refine (sclone_nil _).mono ?_
  rintro e w1 ⟨rfl, hb⟩
  have bH1 := bH.next hb
  have c0 : w1.cell? ⟨w.heap.size, 0, none⟩ = some (.slice none 0 0) := bH1.cell 0
  have f0 := bH1.frozen 0
  have hB1 := hB.trans (hb.mono hB.size)
  have hlt := bH1.lt
  go_wp2_with fail
  have c1 : (w1.setCell ⟨w.heap.size, 0, none⟩ (.slice none 0 0)).cell? ⟨w.heap.size, 0, none⟩ = some (.slice none 0 0) := (bH1.set_ 0 (.slice none 0 0)).cell 0
  refine bodyPost_ret (v := .agg #[.slice none 0 0]) (by simp [results, Tryz.results60, go_sem, c1]) rfl ⟨rfl, ?_⟩
  exact hB1.setCell (Nat.le_refl _) _
theorem cp_of {w W : World} {g : Nat} {s : ByteArray} {y z u : Int} (h : Blk W g 78 #[.slice none 0 0, .string s, .int .i64 y, .int .i64 z, .int .i64 u]) (hb : Below w.heap.size w W) : W.cell? ⟨g, 1, none⟩ = some (.string s) ∧ W.cell? ⟨g, 2, none⟩ = some (.int .i64 y) ∧ W.cell? ⟨g, 3, none⟩ = some (.int .i64 z) ∧ W.cell? ⟨g, 4, none⟩ = some (.int .i64 u) ∧ Blk W g 78 #[.slice none 0 0, .string s, .int .i64 y, .int .i64 z, .int .i64 u] ∧ Below w.heap.size w W := ⟨h.cell 1, h.cell 2, h.cell 3, h.cell 4, h, hb⟩
theorem cp_keep {w W W' : World} {g : Nat} {s : ByteArray} {y z u : Int} (h : W.cell? ⟨g, 1, none⟩ = some (.string s) ∧ W.cell? ⟨g, 2, none⟩ = some (.int .i64 y) ∧ W.cell? ⟨g, 3, none⟩ = some (.int .i64 z) ∧ W.cell? ⟨g, 4, none⟩ = some (.int .i64 u) ∧ Blk W g 78 #[.slice none 0 0, .string s, .int .i64 y, .int .i64 z, .int .i64 u] ∧ Below w.heap.size w W) (hb : Below W.heap.size W W') : W'.cell? ⟨g, 1, none⟩ = some (.string s) ∧ W'.cell? ⟨g, 2, none⟩ = some (.int .i64 y) ∧ W'.cell? ⟨g, 3, none⟩ = some (.int .i64 z) ∧ W'.cell? ⟨g, 4, none⟩ = some (.int .i64 u) ∧ Blk W' g 78 #[.slice none 0 0, .string s, .int .i64 y, .int .i64 z, .int .i64 u] ∧ Below w.heap.size w W' := cp_of (h.2.2.2.2.1.next hb) (h.2.2.2.2.2.trans (hb.mono h.2.2.2.2.2.size))
set_option maxRecDepth 100000 in
set_option maxHeartbeats 2000000 in
theorem copy_none {g : Nat} {s : ByteArray} {y z u : Int} {w : World} (h : Blk w g 78 #[.slice none 0 0, .string s, .int .i64 y, .int .i64 z, .int .i64 u]) : Calls Tryz.prog 33 #[.pointer (some ⟨g, 0, none⟩)] w fun e w' => ∃ k, e = .returned (.pointer (some ⟨k, 0, none⟩)) ∧ w.heap.size ≤ k ∧ Blk w' k 78 #[.slice none 0 0, .string s, .int .i64 y, .int .i64 z, .int .i64 u] ∧ Below w.heap.size w w' := by
  have HC : Hid (∀ W, Blk W g 78 #[.slice none 0 0, .string s, .int .i64 y, .int .i64 z, .int .i64 u] → Calls Tryz.prog 60 #[.pointer (some ⟨g, 0, none⟩)] W (Gives W (.agg #[.slice none 0 0]))) := fun W hW => clone_none hW
  have hS : w.drew.cell? ⟨g, 1, none⟩ = some (.string s) ∧ w.drew.cell? ⟨g, 2, none⟩ = some (.int .i64 y) ∧ w.drew.cell? ⟨g, 3, none⟩ = some (.int .i64 z) ∧ w.drew.cell? ⟨g, 4, none⟩ = some (.int .i64 u) ∧ Blk w.drew g 78 #[.slice none 0 0, .string s, .int .i64 y, .int .i64 z, .int .i64 u] ∧ Below w.heap.size w w.drew := cp_of (h.next (Below.refl _ _).drew) (Below.refl _ _).drew
  go_enter Tryz.func33, Tryz.ntmps33
  go_wp2_with fail
  go_region_held3 (fun W => W.cell? ⟨g, 1, none⟩ = some (.string s) ∧ W.cell? ⟨g, 2, none⟩ = some (.int .i64 y) ∧ W.cell? ⟨g, 3, none⟩ = some (.int .i64 z) ∧ W.cell? ⟨g, 4, none⟩ = some (.int .i64 u) ∧ Blk W g 78 #[.slice none 0 0, .string s, .int .i64 y, .int .i64 z, .int .i64 u] ∧ Below w.heap.size w W)
    (first | exact hS | exact cp_keep (by assumption) (below_one _ _) | exact cp_keep (by assumption) hb)
    ((go_at_call 60; refine (HC.out _ (by first | exact hS.2.2.2.2.1 | exact And.left (And.right (And.right (And.right (And.right (by assumption))))))).mono ?_; rintro e w3 ⟨rfl, hb⟩))
  all_goals
    rename_i hh
    have hsz : w.heap.size ≤ w3.heap.size := hb.size
    have hB := hh.2.2.2.2.2
    clear hh
    go_wp2
    go_ret
    exact ⟨_, rfl, hsz, Blk.new _ _ _ rfl, hB⟩
end Go.Proofs.YtocdmnkmepplcaaGreatDoor
