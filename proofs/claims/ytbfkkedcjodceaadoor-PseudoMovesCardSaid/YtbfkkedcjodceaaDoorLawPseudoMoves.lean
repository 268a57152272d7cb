/- The moves of any position, and those that take: the call answers true. -/
import Derived.Test.YtbfkkedcjodceaaDoorLive6
import Derived.Test.YtbfkkedcjodceaaDoorPos3
namespace Go.Proofs.YtbfkkedcjodceaaDoor.pmoves
open Go.RowKit Go.Shelf
open M (S)

set_option maxRecDepth 100000 in
set_option maxHeartbeats 4000000 in
theorem large (s : ByteArray) (side clock full : Int) (w : World) (hT : Tab w) (hs : 200 < s.size) : Calls Tryd.prog 3 #[.agg #[.string s, .int .i64 side, .int .i64 clock, .int .i64 full]] w (Gives w (.bool true)) := by
  unfold Gives
  have hd : decide (200 < (s.size : Int)) = true := by simp; omega
  clear hs
  obtain ⟨W0, hW0⟩ : ∃ W0, w.alloc (.cells #[.string s, .int .i64 side, .int .i64 clock, .int .i64 full] 23) = W0 := ⟨_, rfl⟩
  have hB : Below w.heap.size w W0 := by rw [← hW0]; exact (by repeat (first | exact Below.refl _ _ | (refine Below.setCell ?_ (by first | omega | (simp; done) | (simp; omega) | (simp at *; omega)) _) | (refine Below.alloc ?_ (by first | omega | (simp; done) | (simp; omega) | (simp at *; omega)) _) | refine Below.drew ?_ | (refine below_drewN ?_ _) | (refine Below.trans ?_ (Below.mono (by assumption) (by first | omega | (simp; done) | (simp; omega) | (simp at *; omega))))))
  have hT0 := hT.next hB
  have HW := Lib.hid hW0
  clear hW0
  go_enter Tryd.func3, Tryd.ntmps3
  go_wp2_with fail
  rw [HW.out]
  refine (live6_any _ hT0).mono ?_
  rintro e w1 ⟨rfl, hb⟩
  replace hB := hB.trans (hb.mono hB.size)
  clear hb
  go_wp2
  go_ret
  exact ⟨rfl, hB⟩
theorem same_hid (A B : Option Addr) (l : List (Nat × Nat)) (n c d : Nat) (w : World) (hx : Rd w A (mvs l)) (hy : Rd w B (mvs l)) (h : Hid (l.length = n ∧ n ≤ 1000000)) : Calls Tryd.prog 17 #[.slice A n c, .slice B n d] w (Gives w (.bool true)) := same_true A B l n c d w hx hy h.out.1 h.out.2
set_option maxRecDepth 100000 in
set_option maxHeartbeats 4000000 in
theorem small (s : ByteArray) (side clock full : Int) (w : World) (hT : Tab w) (hs : s.size ≤ 200) : Calls Tryd.prog 3 #[.agg #[.string s, .int .i64 side, .int .i64 clock, .int .i64 full]] w (Gives w (.bool true)) := by
  unfold Gives
  have hd : decide (200 < (s.size : Int)) = false := by simp; omega
  clear hs
  obtain ⟨L, hL⟩ : ∃ L, movesV s side clock full = L := ⟨_, rfl⟩
  obtain ⟨n, hn⟩ : ∃ n, L.length = n := ⟨_, rfl⟩
  obtain ⟨C, hC⟩ : ∃ C, capsV s side clock full = C := ⟨_, rfl⟩
  obtain ⟨m, hm⟩ : ∃ m, C.length = m := ⟨_, rfl⟩
  have hn1 : n ≤ 1000000 := by
    have := movesV_len s side clock full
    rw [hL, hn] at this
    omega
  have hm1 : m ≤ 1000000 := by
    have h1 : (capsV s side clock full).length ≤ (movesV s side clock full).length := List.length_filter_le _ _
    rw [hC, hm, hL, hn] at h1
    omega
  have HL := Lib.hid hL
  have HN := Lib.hid hn
  have HC := Lib.hid hC
  have HM := Lib.hid hm
  clear hL hn hC hm
  have Q1 : Hid (L.length = n ∧ n ≤ 1000000) := ⟨HN.out, hn1⟩
  have Q2 : Hid (C.length = m ∧ m ≤ 1000000) := ⟨HM.out, hm1⟩
  go_enter Tryd.func3, Tryd.ntmps3
  go_wp2_with fail
  obtain ⟨W0, hW0⟩ : ∃ W0, w.alloc (.cells #[.string s, .int .i64 side, .int .i64 clock, .int .i64 full] 23) = W0 := ⟨_, rfl⟩
  have hB : Below w.heap.size w W0 := by rw [← hW0]; exact (by repeat (first | exact Below.refl _ _ | (refine Below.setCell ?_ (by first | omega | (simp; done) | (simp; omega) | (simp at *; omega)) _) | (refine Below.alloc ?_ (by first | omega | (simp; done) | (simp; omega) | (simp at *; omega)) _) | refine Below.drew ?_ | (refine below_drewN ?_ _) | (refine Below.trans ?_ (Below.mono (by assumption) (by first | omega | (simp; done) | (simp; omega) | (simp at *; omega))))))
  have bP : Blk W0 w.heap.size 23 #[.string s, .int .i64 side, .int .i64 clock, .int .i64 full] := by rw [← hW0]; exact Blk.new _ _ _ rfl
  replace hT := hT.below hB hT.lt
  rw [hW0]
  clear hW0
  have hS : W0.drew.cell? ⟨w.heap.size, 0, none⟩ = some (.string s) ∧ W0.drew.cell? ⟨w.heap.size, 1, none⟩ = some (.int .i64 side) ∧ W0.drew.cell? ⟨w.heap.size, 2, none⟩ = some (.int .i64 clock) ∧ W0.drew.cell? ⟨w.heap.size, 3, none⟩ = some (.int .i64 full) ∧ Tab W0.drew ∧ Below w.heap.size w W0.drew := ⟨bP.cell 0, bP.cell 1, bP.cell 2, bP.cell 3, hT.next (Below.refl _ _).drew, hB.drew⟩
  clear bP hB hT
  go_region_held3 (fun W => W.cell? ⟨w.heap.size, 0, none⟩ = some (.string s) ∧ W.cell? ⟨w.heap.size, 1, none⟩ = some (.int .i64 side) ∧ W.cell? ⟨w.heap.size, 2, none⟩ = some (.int .i64 clock) ∧ W.cell? ⟨w.heap.size, 3, none⟩ = some (.int .i64 full) ∧ Tab W ∧ Below w.heap.size w W)
    (first | exact hS | exact posT_keep (by assumption) hb)
    (first
      | (go_at_call 18; refine (moves_is s side clock full L n _ ?_ HL.out HN.out).mono ?_; (exact posT_tab (by assumption)); rintro e w1 ⟨A1, k1, rfl, rd, hb⟩)
      | (go_at_call 19; refine (rmoves_is s side clock full L n _ HL.out HN.out).mono ?_; rintro e w2 ⟨A2, k2, rfl, re, hb⟩; replace rd := rd.next hb)
      | (go_at_call 17; refine (same_hid _ _ _ _ _ _ _ (by assumption) (by assumption) (by assumption)).mono ?_; rintro e w3 ⟨rfl, hb⟩)
      | (go_at_call 20; refine (caps_is s side clock full C m _ ?_ HC.out HM.out).mono ?_; (exact posT_tab (by assumption)); rintro e w4 ⟨A3, k3, rfl, rd3, hb⟩)
      | (go_at_call 21; refine (rcaps_is s side clock full L C m n _ HL.out HN.out HC.out HM.out).mono ?_; rintro e w5 ⟨A4, k4, rfl, re3, hb⟩; replace rd3 := rd3.next hb)
      | (go_at_call 16; refine (live6_any _ ?_).mono ?_; (exact posT_tab (by assumption)); rintro e w6 ⟨rfl, hb⟩))
  go_wp2
  go_ret
  exact ⟨rfl, posT_below (by assumption)⟩
theorem walk (s : ByteArray) (side clock full : Int) (w : World) (hT : Tab w) : Calls Tryd.prog 3 #[.agg #[.string s, .int .i64 side, .int .i64 clock, .int .i64 full]] w (Gives w (.bool true)) := by
  by_cases hs : s.size ≤ 200
  · exact small s side clock full w hT hs
  · exact large s side clock full w hT (by omega)
end Go.Proofs.YtbfkkedcjodceaaDoor.pmoves
