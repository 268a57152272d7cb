/- What any two classes come to; of the same ones nobody loses; turned round the other one does: the call answers true. -/
import Derived.Test.YtiiipchfclmbcaaGreatDoorJudgeV
import Derived.Test.YtiiipchfclmbcaaGreatDoorJudgeR
namespace Go.Proofs.YtiiipchfclmbcaaGreatDoor.jtable
open Go.RowKit Go.Shelf
open M (S)

theorem tab_is (r b k v : Int) (w : World) (h : tableI r b = (k, v)) : Calls Tryz.prog 17 #[.int .i64 r, .int .i64 b] w (Gives w (.agg #[.int .i64 k, .int .i64 v])) := by
  have := table_any r b w
  rw [h] at this
  exact this
theorem rtab_is (r b k v : Int) (w : World) (h : tableI r b = (k, v)) : Calls Tryz.prog 18 #[.int .i64 r, .int .i64 b] w (Gives w (.agg #[.int .i64 k, .int .i64 v])) := by
  have := rtable_any r b w
  rw [h] at this
  exact this
def VV (w : World) (g h : Nat) (k v k2 v2 : Int) (W : World) : Prop := W.cell? ⟨g, 0, none⟩ = some (.int .i64 k) ∧ W.cell? ⟨g, 1, none⟩ = some (.int .i64 v) ∧ W.cell? ⟨h, 0, none⟩ = some (.int .i64 k2) ∧ W.cell? ⟨h, 1, none⟩ = some (.int .i64 v2) ∧ Below w.heap.size w W
theorem vv_keep {w W W' : World} {g h : Nat} {k v k2 v2 : Int} (H : VV w g h k v k2 v2 W) (hb : Below W.heap.size W W') : VV w g h k v k2 v2 W' := by
  obtain ⟨h0, h1, h2, h3, h4⟩ := H
  exact ⟨(hb.cell (cell_lt h0)).trans h0, (hb.cell (cell_lt h1)).trans h1, (hb.cell (cell_lt h2)).trans h2, (hb.cell (cell_lt h3)).trans h3, h4.trans (hb.mono h4.size)⟩
set_option maxRecDepth 100000 in
set_option maxHeartbeats 4000000 in
theorem walk (a b : Int) (w : World) (hT : Tab w) : Calls Tryz.prog 4 #[.int .i64 a, .int .i64 b] w (Gives w (.bool true)) := by
  unfold Gives
  obtain ⟨⟨k, v⟩, h1⟩ : ∃ x, tableI a b = x := ⟨_, rfl⟩
  obtain ⟨⟨k2, v2⟩, h2⟩ : ∃ x, tableI b a = x := ⟨_, rfl⟩
  have hc : (k = 1 ∧ v = 5 ∧ k2 = 1 ∧ v2 = 5) ∨ (k = 2 ∧ k2 = 3 ∧ v2 = v) ∨ (k = 3 ∧ k2 = 2 ∧ v2 = v) := by
    have hs := table_swap a b
    have hk := table_kind a b
    rw [h1, h2] at hs
    rw [h1] at hk
    rcases hk with e | ⟨e | e, _⟩
    · injection e with e1 e2
      subst e1 e2
      injection hs with e3 e4
      exact .inl ⟨rfl, rfl, e3, e4⟩
    · have e : k = 2 := e
      subst e
      injection hs with e3 e4
      exact .inr (.inl ⟨rfl, e3, e4⟩)
    · have e : k = 3 := e
      subst e
      injection hs with e3 e4
      exact .inr (.inr ⟨rfl, e3, e4⟩)
  have H1 := Lib.hid h1
  have H2 := Lib.hid h2
  clear h1 h2
  go_enter Tryz.func4, Tryz.ntmps4
  go_wp2_with fail
  refine (tab_is a b k v _ H1.out).mono ?_
  rintro e w1 ⟨rfl, hb1⟩
  go_wp2_with fail
  refine (tab_is b a k2 v2 _ H2.out).mono ?_
  rintro e w2 ⟨rfl, hb2⟩
  obtain ⟨W3, hW3⟩ : ∃ W3, w2.alloc (.cells #[.int .i64 k2, .int .i64 v2] 27) = W3 := ⟨_, rfl⟩
  obtain ⟨g, hg⟩ : ∃ g, w1.heap.size = g := ⟨_, rfl⟩
  obtain ⟨h, hh⟩ : ∃ h, w2.heap.size = h := ⟨_, rfl⟩
  have hn1 : Below w.heap.size w (w1.alloc (.cells #[.int .i64 k, .int .i64 v] 27)) := hb1.alloc hb1.size _
  have hB2 : Below w.heap.size w w2 := hn1.trans (hb2.mono hn1.size)
  have hB3 : Below w.heap.size w W3 := by rw [← hW3]; exact hB2.alloc hB2.size _
  have bV : Blk W3 g 27 #[.int .i64 k, .int .i64 v] := by
    rw [← hW3, ← hg]
    exact ((Blk.new w1 _ _ rfl).next hb2).alloc _
  have bW : Blk W3 h 27 #[.int .i64 k2, .int .i64 v2] := by
    rw [← hW3, ← hh]
    exact Blk.new _ _ _ rfl
  have hS : VV w g h k v k2 v2 W3.drew := vv_keep ⟨bV.cell 0, bV.cell 1, bW.cell 0, bW.cell 1, hB3⟩ (Below.refl _ _).drew
  have HW3 := Lib.hid hW3
  clear hW3 hn1 hB2 hB3 bV bW hb1 hb2
  go_wp2_with fail
  (try rw [HW3.out])
  (try rw [hg])
  (try rw [hh])
  clear HW3 hg hh
  go_region_held3 (fun W => W.cell? ⟨g, 0, none⟩ = some (.int .i64 k) ∧ W.cell? ⟨g, 1, none⟩ = some (.int .i64 v) ∧ W.cell? ⟨h, 0, none⟩ = some (.int .i64 k2) ∧ W.cell? ⟨h, 1, none⟩ = some (.int .i64 v2) ∧ Below w.heap.size w W)
    (first | exact hS | exact vv_keep (by assumption) hb)
    (first | (go_at_call 18; refine (rtab_is a b k v _ H1.out).mono ?_; rintro e8 w3 ⟨rfl, hb⟩))
  have hQ : VV w g h k v k2 v2 w3 := by
    first
    | assumption
    | exact vv_keep hS hb
  obtain ⟨q0, q1, q2, q3, hB⟩ := hQ
  have hT3 := hT.next hB
  rcases hc with ⟨rfl, rfl, rfl, rfl⟩ | ⟨rfl, rfl, rfl⟩ | ⟨rfl, rfl, rfl⟩
  all_goals
    clear hS hb
    go_wp2_with fail
    refine (live18_any _ hT3).mono ?_
    rintro e8 w9 ⟨rfl, hb9⟩
    go_wp2
    go_ret
    exact ⟨rfl, hB.trans (hb9.mono hB.size)⟩
end Go.Proofs.YtiiipchfclmbcaaGreatDoor.jtable
