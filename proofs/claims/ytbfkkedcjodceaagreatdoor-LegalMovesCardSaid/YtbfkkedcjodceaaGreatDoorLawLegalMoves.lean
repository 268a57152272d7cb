/- The moves that may be made in any position, those that take, and whether there is an end: the call answers true. -/
import Derived.Test.YtbfkkedcjodceaaGreatDoorLive8M
import Derived.Test.YtbfkkedcjodceaaGreatDoorRefLM
namespace Go.Proofs.YtbfkkedcjodceaaGreatDoor.lmoves
open Go.RowKit Go.Shelf
open M (S)

theorem lmoves_is (s : ByteArray) (side clock full : Int) (l : List (Nat × Nat)) (n : Nat) (w : World) (hT : Tab w) (h : legalV s side clock full = l) (hn : l.length = n) : Calls Tryz.prog 12 #[.agg #[.string s, .int .i64 side, .int .i64 clock, .int .i64 full]] w (GivesM w l n) := (lmoves_own s side clock full l n w hT h hn).mono fun e w' ⟨v, he, ho, hb⟩ => by
  obtain ⟨A, c, rfl⟩ := owns_slice ho
  exact ⟨A, c, he, Rd.owns ho, hb⟩
theorem lcaps_is (s : ByteArray) (side clock full : Int) (l : List (Nat × Nat)) (n : Nat) (w : World) (hT : Tab w) (h : legalC s side clock full = l) (hn : l.length = n) : Calls Tryz.prog 14 #[.agg #[.string s, .int .i64 side, .int .i64 clock, .int .i64 full]] w (GivesM w l n) := (lcaps_own s side clock full l n w hT h hn).mono fun e w' ⟨v, he, ho, hb⟩ => by
  obtain ⟨A, c, rfl⟩ := owns_slice ho
  exact ⟨A, c, he, Rd.owns ho, hb⟩
set_option maxRecDepth 100000 in
set_option maxHeartbeats 4000000 in
theorem large (s : ByteArray) (side clock full : Int) (w : World) (hT : Tab w) (hs : 200 < s.size) : Calls Tryz.prog 3 #[.agg #[.string s, .int .i64 side, .int .i64 clock, .int .i64 full]] w (Gives w (.bool true)) := by
  unfold Gives
  have hd : decide (200 < (s.size : Int)) = true := by simp; omega
  clear hs
  obtain ⟨W0, hW0⟩ : ∃ W0, w.alloc (.cells #[.string s, .int .i64 side, .int .i64 clock, .int .i64 full] 23) = W0 := ⟨_, rfl⟩
  have hB : Below w.heap.size w W0 := by rw [← hW0]; exact (by repeat (first | exact Below.refl _ _ | (refine Below.setCell ?_ (by first | omega | (simp; done) | (simp; omega) | (simp at *; omega)) _) | (refine Below.alloc ?_ (by first | omega | (simp; done) | (simp; omega) | (simp at *; omega)) _) | refine Below.drew ?_ | (refine below_drewN ?_ _) | (refine Below.trans ?_ (Below.mono (by assumption) (by first | omega | (simp; done) | (simp; omega) | (simp at *; omega))))))
  have hT0 := hT.next hB
  have HW := Lib.hid hW0
  clear hW0
  go_enter Tryz.func3, Tryz.ntmps3
  go_wp2_with fail
  rw [HW.out]
  refine (live8_any _ hT0).mono ?_
  rintro e w1 ⟨rfl, hb⟩
  replace hB := hB.trans (hb.mono hB.size)
  clear hb
  go_wp2
  go_ret
  exact ⟨rfl, hB⟩
theorem same_hid (A B : Option Addr) (l : List (Nat × Nat)) (n c d : Nat) (w : World) (hx : Rd w A (mvs l)) (hy : Rd w B (mvs l)) (h : Hid (l.length = n ∧ n ≤ 1000000)) : Calls Tryz.prog 11 #[.slice A n c, .slice B n d] w (Gives w (.bool true)) := same_true A B l n c d w hx hy h.out.1 h.out.2
set_option maxRecDepth 100000 in
set_option maxHeartbeats 4000000 in
theorem small (s : ByteArray) (side clock full : Int) (w : World) (hT : Tab w) (hs : s.size ≤ 200) : Calls Tryz.prog 3 #[.agg #[.string s, .int .i64 side, .int .i64 clock, .int .i64 full]] w (Gives w (.bool true)) := by
  unfold Gives
  have hd : decide (200 < (s.size : Int)) = false := by simp; omega
  clear hs
  obtain ⟨L, hL⟩ : ∃ L, legalV s side clock full = L := ⟨_, rfl⟩
  obtain ⟨n, hn⟩ : ∃ n, L.length = n := ⟨_, rfl⟩
  obtain ⟨C, hC⟩ : ∃ C, legalC s side clock full = C := ⟨_, rfl⟩
  obtain ⟨m, hm⟩ : ∃ m, C.length = m := ⟨_, rfl⟩
  have hn1 : n ≤ 1000000 := by
    have := legalV_len s side clock full
    rw [hL, hn] at this
    omega
  have hm1 : m ≤ 1000000 := by
    have h1 : (legalC s side clock full).length ≤ (legalV s side clock full).length := List.length_filter_le _ _
    rw [hC, hm, hL, hn] at h1
    omega
  have HL := Lib.hid hL
  have HN := Lib.hid hn
  have HC := Lib.hid hC
  have HM := Lib.hid hm
  obtain ⟨z, hz⟩ : ∃ z, endV s side clock full = z := ⟨_, rfl⟩
  have HZ := Lib.hid hz
  clear hL hn hC hm hz
  have Q1 : Hid (L.length = n ∧ n ≤ 1000000) := ⟨HN.out, hn1⟩
  have Q2 : Hid (C.length = m ∧ m ≤ 1000000) := ⟨HM.out, hm1⟩
  go_enter Tryz.func3, Tryz.ntmps3
  go_wp2_with fail
  obtain ⟨W0, hW0⟩ : ∃ W0, w.alloc (.cells #[.string s, .int .i64 side, .int .i64 clock, .int .i64 full] 23) = W0 := ⟨_, rfl⟩
  have hB : Below w.heap.size w W0 := by rw [← hW0]; exact (by repeat (first | exact Below.refl _ _ | (refine Below.setCell ?_ (by first | omega | (simp; done) | (simp; omega) | (simp at *; omega)) _) | (refine Below.alloc ?_ (by first | omega | (simp; done) | (simp; omega) | (simp at *; omega)) _) | refine Below.drew ?_ | (refine below_drewN ?_ _) | (refine Below.trans ?_ (Below.mono (by assumption) (by first | omega | (simp; done) | (simp; omega) | (simp at *; omega))))))
  have bP : Blk W0 w.heap.size 23 #[.string s, .int .i64 side, .int .i64 clock, .int .i64 full] := by rw [← hW0]; exact Blk.new _ _ _ rfl
  replace hT := hT.below hB hT.lt
  rw [hW0]
  clear hW0
  have hS : W0.drew.cell? ⟨w.heap.size, 0, none⟩ = some (.string s) ∧ W0.drew.cell? ⟨w.heap.size, 1, none⟩ = some (.int .i64 side) ∧ W0.drew.cell? ⟨w.heap.size, 2, none⟩ = some (.int .i64 clock) ∧ W0.drew.cell? ⟨w.heap.size, 3, none⟩ = some (.int .i64 full) ∧ Tab W0.drew ∧ Below w.heap.size w W0.drew := ⟨bP.cell 0, bP.cell 1, bP.cell 2, bP.cell 3, hT.next (Below.refl _ _).drew, hB.drew⟩
  clear bP hB hT
  go_region_held3 (fun W => W.cell? ⟨w.heap.size, 0, none⟩ = some (.string s) ∧ W.cell? ⟨w.heap.size, 1, none⟩ = some (.int .i64 side) ∧ W.cell? ⟨w.heap.size, 2, none⟩ = some (.int .i64 clock) ∧ W.cell? ⟨w.heap.size, 3, none⟩ = some (.int .i64 full) ∧ Tab W ∧ Below w.heap.size w W)
    (first | exact hS | exact posT_keep (by assumption) hb)
    (first
      | (go_at_call 12; refine (lmoves_is s side clock full L n _ ?_ HL.out HN.out).mono ?_; (exact posT_tab (by assumption)); rintro e w1 ⟨A1, k1, rfl, rd, hb⟩)
      | (go_at_call 13; refine (rlmoves_is s side clock full L n _ HL.out HN.out).mono ?_; rintro e w2 ⟨A2, k2, rfl, re, hb⟩; replace rd := rd.next hb)
      | (go_at_call 11; refine (same_hid _ _ _ _ _ _ _ (by assumption) (by assumption) (by assumption)).mono ?_; rintro e w3 ⟨rfl, hb⟩)
      | (go_at_call 14; refine (lcaps_is s side clock full C m _ ?_ HC.out HM.out).mono ?_; (exact posT_tab (by assumption)); rintro e w4 ⟨A3, k3, rfl, rd3, hb⟩)
      | (go_at_call 15; refine (rlcaps_is s side clock full L C m n _ HL.out HN.out HC.out HM.out).mono ?_; rintro e w5 ⟨A4, k4, rfl, re3, hb⟩; replace rd3 := rd3.next hb)
      | (go_at_call 16; refine (end_is s side clock full z _ ?_ HZ.out).mono ?_; (exact posT_tab (by assumption)); rintro e w7 ⟨rfl, hb⟩)
      | (go_at_call 17; refine (rend_is s side clock full z _ HZ.out).mono ?_; rintro e w8 ⟨rfl, hb⟩)
      | (go_at_call 10; refine (live8_any _ ?_).mono ?_; (exact posT_tab (by assumption)); rintro e w6 ⟨rfl, hb⟩))
  go_wp2
  go_ret
  exact ⟨rfl, posT_below (by assumption)⟩
theorem walk (s : ByteArray) (side clock full : Int) (w : World) (hT : Tab w) : Calls Tryz.prog 3 #[.agg #[.string s, .int .i64 side, .int .i64 clock, .int .i64 full]] w (Gives w (.bool true)) := by
  by_cases hs : s.size ≤ 200
  · exact small s side clock full w hT hs
  · exact large s side clock full w hT (by omega)
end Go.Proofs.YtbfkkedcjodceaaGreatDoor.lmoves
