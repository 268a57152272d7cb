/- The move of any text, and any move's text: the call answers true. -/
import Derived.Test.YtmmomgaijgpmmaaGreatDoorIccsX
import Derived.Test.YtmmomgaijgpmmaaGreatDoorIccsG
namespace Go.Proofs.YtmmomgaijgpmmaaGreatDoor.ireads
open Go.RowKit Go.Shelf Go.Proofs.YtmmomgaijgpmmaaGreatDoor.F Go.Proofs.YtmmomgaijgpmmaaGreatDoor.I
open M (S)
attribute [local go_sem] Oper.semAt_some

theorem parse_parts (s : ByteArray) : ∃ x y k : Int, parseM s = .tuple #[.agg #[.int .i64 x, .int .i64 y], .int .i64 k] := by
  unfold parseM
  split
  · exact ⟨_, _, _, rfl⟩
  · exact ⟨_, _, _, rfl⟩
theorem cell2 {W : World} {g : Nat} {t : TypeId} {a b : Value} (h : Blk W g t #[a, b]) : W.cell? ⟨g, 0, none⟩ = some a ∧ W.cell? ⟨g, 1, none⟩ = some b := ⟨h.cell 0, h.cell 1⟩
theorem r6_keep {a b x y : Int} {ga gb : Nat} {w W W' : World} (h : W.cell? ⟨w.heap.size, 0, none⟩ = some (.int .i64 a) ∧ W.cell? ⟨w.heap.size, 1, none⟩ = some (.int .i64 b) ∧ W.cell? ⟨ga, 0, none⟩ = some (.int .i64 x) ∧ W.cell? ⟨ga, 1, none⟩ = some (.int .i64 y) ∧ W.cell? ⟨gb, 0, none⟩ = some (.int .i64 x) ∧ W.cell? ⟨gb, 1, none⟩ = some (.int .i64 y) ∧ Below w.heap.size w W) (hb : Below W.heap.size W W') : W'.cell? ⟨w.heap.size, 0, none⟩ = some (.int .i64 a) ∧ W'.cell? ⟨w.heap.size, 1, none⟩ = some (.int .i64 b) ∧ W'.cell? ⟨ga, 0, none⟩ = some (.int .i64 x) ∧ W'.cell? ⟨ga, 1, none⟩ = some (.int .i64 y) ∧ W'.cell? ⟨gb, 0, none⟩ = some (.int .i64 x) ∧ W'.cell? ⟨gb, 1, none⟩ = some (.int .i64 y) ∧ Below w.heap.size w W' := by
  obtain ⟨h0, h1, h2, h3, h4, h5, h8⟩ := h
  exact ⟨(hb.cell (p := ⟨w.heap.size, 0, none⟩) (cell_lt h0)).trans h0, (hb.cell (p := ⟨w.heap.size, 1, none⟩) (cell_lt h1)).trans h1, (hb.cell (p := ⟨ga, 0, none⟩) (cell_lt h2)).trans h2, (hb.cell (p := ⟨ga, 1, none⟩) (cell_lt h3)).trans h3, (hb.cell (p := ⟨gb, 0, none⟩) (cell_lt h4)).trans h4, (hb.cell (p := ⟨gb, 1, none⟩) (cell_lt h5)).trans h5, h8.trans (hb.mono h8.size)⟩
theorem r6_below {a b x y : Int} {ga gb : Nat} {w W : World} (h : W.cell? ⟨w.heap.size, 0, none⟩ = some (.int .i64 a) ∧ W.cell? ⟨w.heap.size, 1, none⟩ = some (.int .i64 b) ∧ W.cell? ⟨ga, 0, none⟩ = some (.int .i64 x) ∧ W.cell? ⟨ga, 1, none⟩ = some (.int .i64 y) ∧ W.cell? ⟨gb, 0, none⟩ = some (.int .i64 x) ∧ W.cell? ⟨gb, 1, none⟩ = some (.int .i64 y) ∧ Below w.heap.size w W) : Below w.heap.size w W := h.2.2.2.2.2.2
set_option maxRecDepth 100000 in
set_option maxHeartbeats 8000000 in
theorem large (s : ByteArray) (a b : Int) (w : World) {a0 a1 a2 : Addr} (hE : Errs w a0 a1 a2) (hT : Tab w) (hs : 100 < s.size) : Calls Tryz.prog 3 #[.string s, .agg #[.int .i64 a, .int .i64 b]] w (Gives w (.bool true)) := by
  unfold Gives
  have hd : decide (100 < (s.size : Int)) = true := by simp; omega
  clear hs
  have hB : Below w.heap.size w (w.alloc (.cells #[.int .i64 a, .int .i64 b] 23)) := (by repeat (first | exact Below.refl _ _ | (refine Below.setCell ?_ (by first | omega | (simp; done) | (simp; omega) | (simp at *; omega)) _) | (refine Below.alloc ?_ (by first | omega | (simp; done) | (simp; omega) | (simp at *; omega)) _) | refine Below.drew ?_ | (refine below_drewN ?_ _) | (refine Below.trans ?_ (Below.mono (by assumption) (by first | omega | (simp; done) | (simp; omega) | (simp at *; omega))))))
  go_enter Tryz.func3, Tryz.ntmps3
  go_wp2_with fail
  refine (live12_any (hE.next hB) (hT.next hB)).mono ?_
  rintro e w1 ⟨rfl, hb⟩
  go_wp2
  go_ret
  exact ⟨rfl, hB.trans (hb.mono hB.size)⟩
set_option maxRecDepth 100000 in
set_option maxHeartbeats 8000000 in
theorem small (s : ByteArray) (a b : Int) (w : World) {a0 a1 a2 : Addr} (hE : Errs w a0 a1 a2) (hT : Tab w) (hs : s.size ≤ 100) : Calls Tryz.prog 3 #[.string s, .agg #[.int .i64 a, .int .i64 b]] w (Gives w (.bool true)) := by
  unfold Gives
  have hd : decide (100 < (s.size : Int)) = false := by simp; omega
  obtain ⟨x, y, k, hpm⟩ := parse_parts s
  obtain ⟨t, ht⟩ : ∃ t, printT a b = t := ⟨_, rfl⟩
  have HP := Lib.hid hpm
  have HT := Lib.hid ht
  clear hs hpm ht
  obtain ⟨W0, hW0⟩ : ∃ W0, w.alloc (.cells #[.int .i64 a, .int .i64 b] 23) = W0 := ⟨_, rfl⟩
  have hB : Below w.heap.size w W0 := by rw [← hW0]; exact (by repeat (first | exact Below.refl _ _ | (refine Below.setCell ?_ (by first | omega | (simp; done) | (simp; omega) | (simp at *; omega)) _) | (refine Below.alloc ?_ (by first | omega | (simp; done) | (simp; omega) | (simp at *; omega)) _) | refine Below.drew ?_ | (refine below_drewN ?_ _) | (refine Below.trans ?_ (Below.mono (by assumption) (by first | omega | (simp; done) | (simp; omega) | (simp at *; omega))))))
  have bM : Blk W0 w.heap.size 23 #[.int .i64 a, .int .i64 b] := by rw [← hW0]; exact Blk.new _ _ _ rfl
  have HW := Lib.hid hW0
  clear hW0
  go_enter Tryz.func3, Tryz.ntmps3
  go_wp2_with fail
  rw [HW.out]
  clear HW
  have h1 := iparse_any (hE.next hB) s
  rw [HP.out] at h1
  refine h1.mono ?_
  rintro e w1 ⟨rfl, hb⟩
  clear h1
  have hB1 := hB.trans (hb.mono hB.size)
  have bM1 := bM.next hb
  clear hb bM hB
  obtain ⟨V1, hV1⟩ : ∃ v, w1.alloc (.cells #[.int .i64 x, .int .i64 y] 23) = v := ⟨_, rfl⟩
  have hB2 : Below w.heap.size w V1 := by rw [← hV1]; exact hB1.alloc hB1.size _
  have bM2 : Blk V1 w.heap.size 23 #[.int .i64 a, .int .i64 b] := by rw [← hV1]; exact bM1.alloc _
  have bA2 : Blk V1 w1.heap.size 23 #[.int .i64 x, .int .i64 y] := by rw [← hV1]; exact Blk.new _ _ _ rfl
  have HV1 := Lib.hid hV1
  clear hV1
  go_wp2_with fail
  rw [HV1.out]
  clear HV1 bM1 hB1
  generalize w1.heap.size = ga at bA2 ⊢
  have h1 := rparse_any s V1
  rw [HP.out] at h1
  refine h1.mono ?_
  rintro e w2 ⟨rfl, hb⟩
  clear h1
  have hB3 := hB2.trans (hb.mono hB2.size)
  have bM3 := bM2.next hb
  have bA3 := bA2.next hb
  clear hb bM2 bA2 hB2
  obtain ⟨V2, hV2⟩ : ∃ v, w2.alloc (.cells #[.int .i64 x, .int .i64 y] 23) = v := ⟨_, rfl⟩
  have hB4 : Below w.heap.size w V2 := by rw [← hV2]; exact hB3.alloc hB3.size _
  have bM4 : Blk V2 w.heap.size 23 #[.int .i64 a, .int .i64 b] := by rw [← hV2]; exact bM3.alloc _
  have bA4 : Blk V2 ga 23 #[.int .i64 x, .int .i64 y] := by rw [← hV2]; exact bA3.alloc _
  have bB4 : Blk V2 w2.heap.size 23 #[.int .i64 x, .int .i64 y] := by rw [← hV2]; exact Blk.new _ _ _ rfl
  have HV2 := Lib.hid hV2
  clear hV2
  go_wp2_with fail
  rw [HV2.out]
  clear HV2 bM3 bA3 hB3
  generalize w2.heap.size = gb at bB4 ⊢
  obtain ⟨p0, p1⟩ := cell2 bM4
  obtain ⟨p2, p3⟩ := cell2 bA4
  obtain ⟨p4, p5⟩ := cell2 bB4
  have hS : V2.drew.cell? ⟨w.heap.size, 0, none⟩ = some (.int .i64 a) ∧ V2.drew.cell? ⟨w.heap.size, 1, none⟩ = some (.int .i64 b) ∧ V2.drew.cell? ⟨ga, 0, none⟩ = some (.int .i64 x) ∧ V2.drew.cell? ⟨ga, 1, none⟩ = some (.int .i64 y) ∧ V2.drew.cell? ⟨gb, 0, none⟩ = some (.int .i64 x) ∧ V2.drew.cell? ⟨gb, 1, none⟩ = some (.int .i64 y) ∧ Below w.heap.size w V2.drew := ⟨p0, p1, p2, p3, p4, p5, hB4.drew⟩
  clear p0 p1 p2 p3 p4 p5 bM4 bA4 bB4 hB4
  go_region_held3 (fun W => W.cell? ⟨w.heap.size, 0, none⟩ = some (.int .i64 a) ∧ W.cell? ⟨w.heap.size, 1, none⟩ = some (.int .i64 b) ∧ W.cell? ⟨ga, 0, none⟩ = some (.int .i64 x) ∧ W.cell? ⟨ga, 1, none⟩ = some (.int .i64 y) ∧ W.cell? ⟨gb, 0, none⟩ = some (.int .i64 x) ∧ W.cell? ⟨gb, 1, none⟩ = some (.int .i64 y) ∧ Below w.heap.size w W)
    (first | exact hS | with_reducible assumption | exact r6_keep (by assumption) hb)
    (first
      | (go_at_call 11; refine (print_is a b t _ HT.out).mono ?_; rintro e w3 ⟨rfl, hb⟩)
      | (go_at_call 12; refine (rprint_is a b t _ HT.out).mono ?_; rintro e w3 ⟨rfl, hb⟩)
      | (go_at_call 8; refine (live12_any (hE.next (r6_below (by assumption))) (hT.next (r6_below (by assumption)))).mono ?_; rintro e w3 ⟨rfl, hb⟩))
  all_goals go_wp2
  all_goals (go_ret; exact ⟨rfl, r6_below (by assumption)⟩)
theorem walk (s : ByteArray) (a b : Int) (w : World) {a0 a1 a2 : Addr} (hE : Errs w a0 a1 a2) (hT : Tab w) : Calls Tryz.prog 3 #[.string s, .agg #[.int .i64 a, .int .i64 b]] w (Gives w (.bool true)) := by
  by_cases hs : s.size ≤ 100
  · exact small s a b w hE hT hs
  · exact large s a b w hE hT (by omega)
end Go.Proofs.YtmmomgaijgpmmaaGreatDoor.ireads
