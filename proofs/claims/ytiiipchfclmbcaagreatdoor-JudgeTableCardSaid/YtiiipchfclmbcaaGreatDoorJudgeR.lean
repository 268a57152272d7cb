/- What two classes come to: the document's own answer. -/
import Derived.Test.YtiiipchfclmbcaaGreatDoorJudgeM
namespace Go.Proofs.YtiiipchfclmbcaaGreatDoor
open Go.RowKit Go.Shelf
open M (S)

set_option maxRecDepth 100000 in
theorem rclass_is (c v : Int) (w : World) (h : clampI c = v) : Calls Tryz.prog 46 #[.int .i64 c] w (Gives w (.int .i64 v)) := by
  unfold Gives
  have e : max (min c 2) 0 = v := by
    rw [← h]
    unfold clampI
    omega
  have HE := Lib.hid e
  clear e h
  go_enter Tryz.func46, Tryz.ntmps46
  go_wp2
  go_ret
  exact ⟨by rw [← HE.out]; rfl, Below.refl _ _⟩
set_option maxRecDepth 100000 in
theorem rloses_is (y v k : Int) (w : World) (hy : y = 0 ∨ y = 1) (hk : 2 + y = k) : Calls Tryz.prog 47 #[.int .i64 y, .int .i64 v] w (Gives w (.agg #[.int .i64 k, .int .i64 v])) := by
  unfold Gives
  subst hk
  rcases hy with rfl | rfl
  · go_enter Tryz.func47, Tryz.ntmps47
    go_wp2
    have b1 : Blk (w.alloc (.cells #[.int .i64 2, .int .i64 v] 27)) w.heap.size 27 #[.int .i64 2, .int .i64 v] := Blk.new _ _ _ rfl
    exact bodyPost_ret (v := .agg #[.int .i64 2, .int .i64 v]) (by simp [results, Tryz.results47, go_sem, b1.cell 0, b1.cell 1]) rfl ⟨rfl, (by repeat (first | exact Below.refl _ _ | (refine Below.setCell ?_ (by first | omega | (simp; done) | (simp; omega) | (simp at *; omega)) _) | (refine Below.alloc ?_ (by first | omega | (simp; done) | (simp; omega) | (simp at *; omega)) _) | refine Below.drew ?_ | (refine below_drewN ?_ _) | (refine Below.trans ?_ (Below.mono (by assumption) (by first | omega | (simp; done) | (simp; omega) | (simp at *; omega))))))⟩
  · go_enter Tryz.func47, Tryz.ntmps47
    go_wp2
    have b1 : Blk (w.alloc (.cells #[.int .i64 3, .int .i64 v] 27)) w.heap.size 27 #[.int .i64 3, .int .i64 v] := Blk.new _ _ _ rfl
    exact bodyPost_ret (v := .agg #[.int .i64 3, .int .i64 v]) (by simp [results, Tryz.results47, go_sem, b1.cell 0, b1.cell 1]) rfl ⟨rfl, (by repeat (first | exact Below.refl _ _ | (refine Below.setCell ?_ (by first | omega | (simp; done) | (simp; omega) | (simp at *; omega)) _) | (refine Below.alloc ?_ (by first | omega | (simp; done) | (simp; omega) | (simp at *; omega)) _) | refine Below.drew ?_ | (refine below_drewN ?_ _) | (refine Below.trans ?_ (Below.mono (by assumption) (by first | omega | (simp; done) | (simp; omega) | (simp at *; omega))))))⟩
theorem table_clamp (r b : Int) : tableI r b = tableI (clampI r) (clampI b) := by
  have h : ∀ c, clampI (clampI c) = clampI c := fun c => by unfold clampI; omega
  unfold tableI
  rw [h, h]
set_option maxRecDepth 100000 in
set_option maxHeartbeats 2000000 in
theorem rtable_any (r b : Int) (w : World) : Calls Tryz.prog 18 #[.int .i64 r, .int .i64 b] w (Gives w (.agg #[.int .i64 (tableI r b).1, .int .i64 (tableI r b).2])) := by
  unfold Gives
  rw [table_clamp]
  have b0 : Blk (w.alloc (.cells #[.int .i64 0, .int .i64 0] 27)) w.heap.size 27 #[.int .i64 0, .int .i64 0] := Blk.new _ _ _ rfl
  have hB0 : Below w.heap.size w (w.alloc (.cells #[.int .i64 0, .int .i64 0] 27)) := (Below.refl _ _).alloc (Nat.le_refl _) _
  obtain ⟨cr, hr⟩ : ∃ c, clampI r = c := ⟨_, rfl⟩
  obtain ⟨cb, hb⟩ : ∃ c, clampI b = c := ⟨_, rfl⟩
  have hcr := clamp_range r
  have hcb := clamp_range b
  rw [hr] at hcr
  rw [hb] at hcb
  rw [hr, hb]
  have HR := Lib.hid hr
  have HB := Lib.hid hb
  clear hr hb
  go_enter Tryz.func18, Tryz.ntmps18
  go_wp2_with fail
  refine (rclass_is r cr _ HR.out).mono ?_
  rintro e w1 ⟨rfl, hb1⟩
  go_wp2_with fail
  refine (rclass_is b cb _ HB.out).mono ?_
  rintro e w2 ⟨rfl, hb2⟩
  have hB2 := (hB0.trans (hb1.mono hB0.size)).trans (hb2.mono (hB0.trans (hb1.mono hB0.size)).size)
  have b2 := (b0.next hb1).next hb2
  clear b0 hB0 hb1 hb2 HR HB
  rcases hcr with rfl | rfl | rfl <;> rcases hcb with rfl | rfl | rfl
  · obtain ⟨q0, q1⟩ := two_cells b2
    have f0 := b2.frozen 0
    have f1 := b2.frozen 1
    go_wp2
    have b5 := (b2.set_ 0 (.int .i64 1)).set_ 1 (.int .i64 5)
    exact bodyPost_ret (v := .agg #[.int .i64 1, .int .i64 5]) (by simp [results, Tryz.results18, go_sem, b5.cell 0, b5.cell 1]) rfl ⟨by rfl, (hB2.setCell (p := ⟨w.heap.size, 0, none⟩) (Nat.le_refl _) _).setCell (p := ⟨w.heap.size, 1, none⟩) (Nat.le_refl _) _⟩
  · go_wp2_with fail
    refine (rloses_is 1 4 3 _ (by decide) rfl).mono ?_
    rintro e w4 ⟨rfl, hb4⟩
    have hB4 := hB2.trans (hb4.mono hB2.size)
    have b4 := b2.next hb4
    obtain ⟨q0, q1⟩ := two_cells b4
    have f0 := b4.frozen 0
    have f1 := b4.frozen 1
    go_wp2
    have b5 := (b4.set_ 0 (.int .i64 3)).set_ 1 (.int .i64 4)
    exact bodyPost_ret (v := .agg #[.int .i64 3, .int .i64 4]) (by simp [results, Tryz.results18, go_sem, b5.cell 0, b5.cell 1]) rfl ⟨by rfl, (hB4.setCell (p := ⟨w.heap.size, 0, none⟩) (Nat.le_refl _) _).setCell (p := ⟨w.heap.size, 1, none⟩) (Nat.le_refl _) _⟩
  · go_wp2_with fail
    refine (rloses_is 1 3 3 _ (by decide) rfl).mono ?_
    rintro e w4 ⟨rfl, hb4⟩
    have hB4 := hB2.trans (hb4.mono hB2.size)
    have b4 := b2.next hb4
    obtain ⟨q0, q1⟩ := two_cells b4
    have f0 := b4.frozen 0
    have f1 := b4.frozen 1
    go_wp2
    have b5 := (b4.set_ 0 (.int .i64 3)).set_ 1 (.int .i64 3)
    exact bodyPost_ret (v := .agg #[.int .i64 3, .int .i64 3]) (by simp [results, Tryz.results18, go_sem, b5.cell 0, b5.cell 1]) rfl ⟨by rfl, (hB4.setCell (p := ⟨w.heap.size, 0, none⟩) (Nat.le_refl _) _).setCell (p := ⟨w.heap.size, 1, none⟩) (Nat.le_refl _) _⟩
  · go_wp2_with fail
    refine (rloses_is 0 4 2 _ (by decide) rfl).mono ?_
    rintro e w4 ⟨rfl, hb4⟩
    have hB4 := hB2.trans (hb4.mono hB2.size)
    have b4 := b2.next hb4
    obtain ⟨q0, q1⟩ := two_cells b4
    have f0 := b4.frozen 0
    have f1 := b4.frozen 1
    go_wp2
    have b5 := (b4.set_ 0 (.int .i64 2)).set_ 1 (.int .i64 4)
    exact bodyPost_ret (v := .agg #[.int .i64 2, .int .i64 4]) (by simp [results, Tryz.results18, go_sem, b5.cell 0, b5.cell 1]) rfl ⟨by rfl, (hB4.setCell (p := ⟨w.heap.size, 0, none⟩) (Nat.le_refl _) _).setCell (p := ⟨w.heap.size, 1, none⟩) (Nat.le_refl _) _⟩
  · obtain ⟨q0, q1⟩ := two_cells b2
    have f0 := b2.frozen 0
    have f1 := b2.frozen 1
    go_wp2
    have b5 := (b2.set_ 0 (.int .i64 1)).set_ 1 (.int .i64 5)
    exact bodyPost_ret (v := .agg #[.int .i64 1, .int .i64 5]) (by simp [results, Tryz.results18, go_sem, b5.cell 0, b5.cell 1]) rfl ⟨by rfl, (hB2.setCell (p := ⟨w.heap.size, 0, none⟩) (Nat.le_refl _) _).setCell (p := ⟨w.heap.size, 1, none⟩) (Nat.le_refl _) _⟩
  · go_wp2_with fail
    refine (rloses_is 1 3 3 _ (by decide) rfl).mono ?_
    rintro e w4 ⟨rfl, hb4⟩
    have hB4 := hB2.trans (hb4.mono hB2.size)
    have b4 := b2.next hb4
    obtain ⟨q0, q1⟩ := two_cells b4
    have f0 := b4.frozen 0
    have f1 := b4.frozen 1
    go_wp2
    have b5 := (b4.set_ 0 (.int .i64 3)).set_ 1 (.int .i64 3)
    exact bodyPost_ret (v := .agg #[.int .i64 3, .int .i64 3]) (by simp [results, Tryz.results18, go_sem, b5.cell 0, b5.cell 1]) rfl ⟨by rfl, (hB4.setCell (p := ⟨w.heap.size, 0, none⟩) (Nat.le_refl _) _).setCell (p := ⟨w.heap.size, 1, none⟩) (Nat.le_refl _) _⟩
  · go_wp2_with fail
    refine (rloses_is 0 3 2 _ (by decide) rfl).mono ?_
    rintro e w4 ⟨rfl, hb4⟩
    have hB4 := hB2.trans (hb4.mono hB2.size)
    have b4 := b2.next hb4
    obtain ⟨q0, q1⟩ := two_cells b4
    have f0 := b4.frozen 0
    have f1 := b4.frozen 1
    go_wp2
    have b5 := (b4.set_ 0 (.int .i64 2)).set_ 1 (.int .i64 3)
    exact bodyPost_ret (v := .agg #[.int .i64 2, .int .i64 3]) (by simp [results, Tryz.results18, go_sem, b5.cell 0, b5.cell 1]) rfl ⟨by rfl, (hB4.setCell (p := ⟨w.heap.size, 0, none⟩) (Nat.le_refl _) _).setCell (p := ⟨w.heap.size, 1, none⟩) (Nat.le_refl _) _⟩
  · go_wp2_with fail
    refine (rloses_is 0 3 2 _ (by decide) rfl).mono ?_
    rintro e w4 ⟨rfl, hb4⟩
    have hB4 := hB2.trans (hb4.mono hB2.size)
    have b4 := b2.next hb4
    obtain ⟨q0, q1⟩ := two_cells b4
    have f0 := b4.frozen 0
    have f1 := b4.frozen 1
    go_wp2
    have b5 := (b4.set_ 0 (.int .i64 2)).set_ 1 (.int .i64 3)
    exact bodyPost_ret (v := .agg #[.int .i64 2, .int .i64 3]) (by simp [results, Tryz.results18, go_sem, b5.cell 0, b5.cell 1]) rfl ⟨by rfl, (hB4.setCell (p := ⟨w.heap.size, 0, none⟩) (Nat.le_refl _) _).setCell (p := ⟨w.heap.size, 1, none⟩) (Nat.le_refl _) _⟩
  · obtain ⟨q0, q1⟩ := two_cells b2
    have f0 := b2.frozen 0
    have f1 := b2.frozen 1
    go_wp2
    have b5 := (b2.set_ 0 (.int .i64 1)).set_ 1 (.int .i64 5)
    exact bodyPost_ret (v := .agg #[.int .i64 1, .int .i64 5]) (by simp [results, Tryz.results18, go_sem, b5.cell 0, b5.cell 1]) rfl ⟨by rfl, (hB2.setCell (p := ⟨w.heap.size, 0, none⟩) (Nat.le_refl _) _).setCell (p := ⟨w.heap.size, 1, none⟩) (Nat.le_refl _) _⟩
end Go.Proofs.YtiiipchfclmbcaaGreatDoor
