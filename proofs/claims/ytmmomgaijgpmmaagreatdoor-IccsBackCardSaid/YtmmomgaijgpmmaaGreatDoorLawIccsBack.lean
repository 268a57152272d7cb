/- What is printed is read: the call answers true. -/
import Derived.Test.YtmmomgaijgpmmaaGreatDoorIccsX
namespace Go.Proofs.YtmmomgaijgpmmaaGreatDoor.iback
open Go.RowKit Go.Shelf Go.Proofs.YtmmomgaijgpmmaaGreatDoor.F Go.Proofs.YtmmomgaijgpmmaaGreatDoor.I
open M (S)
attribute [local go_sem] Oper.semAt_some

theorem cell2 {W : World} {g : Nat} {t : TypeId} {a b : Value} (h : Blk W g t #[a, b]) : W.cell? ⟨g, 0, none⟩ = some a ∧ W.cell? ⟨g, 1, none⟩ = some b := ⟨h.cell 0, h.cell 1⟩
set_option maxRecDepth 100000 in
set_option maxHeartbeats 8000000 in
theorem none (a b : Int) (w : World) {a0 a1 a2 : Addr} (hE : Errs w a0 a1 a2) (hT : Tab w) (h : (sqI a && sqI b) = false) : Calls Tryz.prog 4 #[.agg #[.int .i64 a, .int .i64 b]] w (Gives w (.bool true)) := by
  unfold Gives
  obtain ⟨s, hs⟩ : ∃ s, printT a b = s := ⟨_, rfl⟩
  have he : s = ⟨#[]⟩ := by rw [← hs]; exact print_none h
  have hp : parseM s = .tuple #[.agg #[.int .i64 0, .int .i64 0], .int .i64 6] := by rw [he]; rfl
  have z0 : s.toList = [] := by rw [he, ByteArray.toList_eq]
  have z1 : s.toList.isEmpty = true := by rw [z0]; rfl
  have hc : decide (a < 0) = true ∨ (decide (a < 0) = false ∧ decide (89 < a) = true) ∨ (decide (a < 0) = false ∧ decide (89 < a) = false ∧ decide (b < 0) = true) ∨ (decide (a < 0) = false ∧ decide (89 < a) = false ∧ decide (b < 0) = false ∧ decide (89 < b) = true) := by
    have h2 : ¬ ((0 ≤ a ∧ a < 90) ∧ (0 ≤ b ∧ b < 90)) := fun e => by
      rw [sqI_iff.2 e.1, sqI_iff.2 e.2] at h
      cases h
    simp only [decide_eq_true_eq, decide_eq_false_iff_not]
    omega
  have HS := Lib.hid hs
  have HP := Lib.hid hp
  clear hs hp he h
  rcases hc with d0 | ⟨d0, d1⟩ | ⟨d0, d1, d2⟩ | ⟨d0, d1, d2, d3⟩
  all_goals
    obtain ⟨W0, hW0⟩ : ∃ W0, w.alloc (.cells #[.int .i64 a, .int .i64 b] 23) = W0 := ⟨_, rfl⟩
    have hB : Below w.heap.size w W0 := by rw [← hW0]; exact (by repeat (first | exact Below.refl _ _ | (refine Below.setCell ?_ (by first | omega | (simp; done) | (simp; omega) | (simp at *; omega)) _) | (refine Below.alloc ?_ (by first | omega | (simp; done) | (simp; omega) | (simp at *; omega)) _) | refine Below.drew ?_ | (refine below_drewN ?_ _) | (refine Below.trans ?_ (Below.mono (by assumption) (by first | omega | (simp; done) | (simp; omega) | (simp at *; omega))))))
    have bM : Blk W0 w.heap.size 23 #[.int .i64 a, .int .i64 b] := by rw [← hW0]; exact Blk.new _ _ _ rfl
    have HW := Lib.hid hW0
    clear hW0
    obtain ⟨p0, p1⟩ := cell2 bM
    go_enter Tryz.func4, Tryz.ntmps4
    go_wp2_with fail
    rw [HW.out]
    go_wp2_with fail
    refine (print_is a b s _ HS.out).mono ?_
    rintro e w1 ⟨rfl, hb⟩
    have hB1 := hB.trans (hb.mono hB.size)
    have bM1 := bM.next hb
    clear hb hB bM p0 p1
    go_wp2_with fail
    have h1 := iparse_any (hE.next hB1) s
    rw [HP.out] at h1
    refine h1.mono ?_
    rintro e w2 ⟨rfl, hb⟩
    clear h1
    have hB2 := hB1.trans (hb.mono hB1.size)
    have bM2 := bM1.next hb
    clear hb hB1 bM1
    obtain ⟨V2, hV2⟩ : ∃ v, w2.alloc (.cells #[.int .i64 0, .int .i64 0] 23) = v := ⟨_, rfl⟩
    have hB3 : Below w.heap.size w V2 := by rw [← hV2]; exact hB2.alloc hB2.size _
    have bM3 : Blk V2 w.heap.size 23 #[.int .i64 a, .int .i64 b] := by rw [← hV2]; exact bM2.alloc _
    have bN3 : Blk V2 w2.heap.size 23 #[.int .i64 0, .int .i64 0] := by rw [← hV2]; exact Blk.new _ _ _ rfl
    have bMr := bM3
    have bNr := bN3
    rw [← hV2] at bMr bNr
    obtain ⟨p0, p1⟩ := cell2 bMr
    obtain ⟨p2, p3⟩ := cell2 bNr
    have HV2 := Lib.hid hV2
    clear hV2 bMr bNr
    go_wp2_with fail
    rw [HV2.out]
    refine (live12_any (hE.next hB3) (hT.next hB3)).mono ?_
    rintro e w3 ⟨rfl, hb⟩
    go_wp2
    go_ret
    exact ⟨rfl, hB3.trans (hb.mono hB3.size)⟩
set_option maxRecDepth 100000 in
set_option maxHeartbeats 8000000 in
theorem some_ (a b : Int) (w : World) {a0 a1 a2 : Addr} (hE : Errs w a0 a1 a2) (hT : Tab w) (h : (sqI a && sqI b) = true) : Calls Tryz.prog 4 #[.agg #[.int .i64 a, .int .i64 b]] w (Gives w (.bool true)) := by
  unfold Gives
  obtain ⟨s, hs⟩ : ∃ s, printT a b = s := ⟨_, rfl⟩
  have h2 := Bool.and_eq_true_iff.1 h
  have h4 : s.size = 4 := by rw [← hs]; exact print_size h2.1 h2.2
  have hz : (s.size : Int) = 4 := by omega
  have hp : parseM s = .tuple #[.agg #[.int .i64 a, .int .i64 b], .int .i64 0] := by unfold parseM; rw [← hs, read_print h2.1 h2.2]
  have z0 : ¬ s.toList = [] := by
    rw [ByteArray.toList_eq]
    intro e
    have := congrArg List.length e
    rw [show s.data.toList.length = 4 from Array.length_toList.trans h4] at this
    cases this
  have z1 : s.toList.isEmpty = false := by rw [List.isEmpty_eq_false_iff]; exact z0
  have HS := Lib.hid hs
  have HP := Lib.hid hp
  clear hs hp h h2 h4
  obtain ⟨W0, hW0⟩ : ∃ W0, w.alloc (.cells #[.int .i64 a, .int .i64 b] 23) = W0 := ⟨_, rfl⟩
  have hB : Below w.heap.size w W0 := by rw [← hW0]; exact (by repeat (first | exact Below.refl _ _ | (refine Below.setCell ?_ (by first | omega | (simp; done) | (simp; omega) | (simp at *; omega)) _) | (refine Below.alloc ?_ (by first | omega | (simp; done) | (simp; omega) | (simp at *; omega)) _) | refine Below.drew ?_ | (refine below_drewN ?_ _) | (refine Below.trans ?_ (Below.mono (by assumption) (by first | omega | (simp; done) | (simp; omega) | (simp at *; omega))))))
  have bM : Blk W0 w.heap.size 23 #[.int .i64 a, .int .i64 b] := by rw [← hW0]; exact Blk.new _ _ _ rfl
  have HW := Lib.hid hW0
  clear hW0
  obtain ⟨p0, p1⟩ := cell2 bM
  go_enter Tryz.func4, Tryz.ntmps4
  go_wp2_with fail
  rw [HW.out]
  go_wp2_with fail
  refine (print_is a b s _ HS.out).mono ?_
  rintro e w1 ⟨rfl, hb⟩
  have hB1 := hB.trans (hb.mono hB.size)
  have bM1 := bM.next hb
  clear hb hB bM p0 p1
  go_wp2_with fail
  have h1 := iparse_any (hE.next hB1) s
  rw [HP.out] at h1
  refine h1.mono ?_
  rintro e w2 ⟨rfl, hb⟩
  clear h1
  have hB2 := hB1.trans (hb.mono hB1.size)
  have bM2 := bM1.next hb
  clear hb hB1 bM1
  obtain ⟨V2, hV2⟩ : ∃ v, w2.alloc (.cells #[.int .i64 a, .int .i64 b] 23) = v := ⟨_, rfl⟩
  have hB3 : Below w.heap.size w V2 := by rw [← hV2]; exact hB2.alloc hB2.size _
  have bM3 : Blk V2 w.heap.size 23 #[.int .i64 a, .int .i64 b] := by rw [← hV2]; exact bM2.alloc _
  have bN3 : Blk V2 w2.heap.size 23 #[.int .i64 a, .int .i64 b] := by rw [← hV2]; exact Blk.new _ _ _ rfl
  have bMr := bM3
  have bNr := bN3
  rw [← hV2] at bMr bNr
  obtain ⟨p0, p1⟩ := cell2 bMr
  obtain ⟨p2, p3⟩ := cell2 bNr
  have HV2 := Lib.hid hV2
  clear hV2 bMr bNr
  go_wp2_with fail
  rw [HV2.out]
  refine (live12_any (hE.next hB3) (hT.next hB3)).mono ?_
  rintro e w3 ⟨rfl, hb⟩
  go_wp2
  go_ret
  exact ⟨rfl, hB3.trans (hb.mono hB3.size)⟩
theorem walk (a b : Int) (w : World) {a0 a1 a2 : Addr} (hE : Errs w a0 a1 a2) (hT : Tab w) : Calls Tryz.prog 4 #[.agg #[.int .i64 a, .int .i64 b]] w (Gives w (.bool true)) := by
  cases h : (sqI a && sqI b)
  · exact none a b w hE hT h
  · exact some_ a b w hE hT h
end Go.Proofs.YtmmomgaijgpmmaaGreatDoor.iback
