/- Two moves have one text just if they are the same: the call answers true. -/
import Derived.Test.YtmmomgaijgpmmaaGreatDoorIccsX
namespace Go.Proofs.YtmmomgaijgpmmaaGreatDoor.iapart
open Go.RowKit Go.Shelf Go.Proofs.YtmmomgaijgpmmaaGreatDoor.F Go.Proofs.YtmmomgaijgpmmaaGreatDoor.I
open M (S)
attribute [local go_sem] Oper.semAt_some

theorem cell2 {W : World} {g : Nat} {t : TypeId} {a b : Value} (h : Blk W g t #[a, b]) : W.cell? ⟨g, 0, none⟩ = some a ∧ W.cell? ⟨g, 1, none⟩ = some b := ⟨h.cell 0, h.cell 1⟩
theorem empty_or (a b : Int) : (printT a b = ⟨#[]⟩ ∧ (sqI a && sqI b) = false) ∨ ((sqI a && sqI b) = true ∧ ¬ (printT a b).toList = [] ∧ (printT a b).toList.isEmpty = false) := by
  cases h : (sqI a && sqI b)
  · exact .inl ⟨print_none h, rfl⟩
  · refine .inr ⟨rfl, ?_⟩
    have h2 := Bool.and_eq_true_iff.1 h
    have hs := print_size h2.1 h2.2
    have hne : ¬ (printT a b).toList = [] := by
      rw [ByteArray.toList_eq]
      intro e
      have := congrArg List.length e
      rw [show (printT a b).data.toList.length = 4 from Array.length_toList.trans hs] at this
      cases this
    exact ⟨hne, by rw [List.isEmpty_eq_false_iff]; exact hne⟩
theorem i4_keep {a b c d : Int} {w W W' : World} (h : W.cell? ⟨w.heap.size, 0, none⟩ = some (.int .i64 a) ∧ W.cell? ⟨w.heap.size, 1, none⟩ = some (.int .i64 b) ∧ W.cell? ⟨w.heap.size + 1, 0, none⟩ = some (.int .i64 c) ∧ W.cell? ⟨w.heap.size + 1, 1, none⟩ = some (.int .i64 d) ∧ Below w.heap.size w W) (hb : Below W.heap.size W W') : W'.cell? ⟨w.heap.size, 0, none⟩ = some (.int .i64 a) ∧ W'.cell? ⟨w.heap.size, 1, none⟩ = some (.int .i64 b) ∧ W'.cell? ⟨w.heap.size + 1, 0, none⟩ = some (.int .i64 c) ∧ W'.cell? ⟨w.heap.size + 1, 1, none⟩ = some (.int .i64 d) ∧ Below w.heap.size w W' := by
  obtain ⟨h0, h1, h2, h3, h8⟩ := h
  exact ⟨(hb.cell (p := ⟨w.heap.size, 0, none⟩) (cell_lt h0)).trans h0, (hb.cell (p := ⟨w.heap.size, 1, none⟩) (cell_lt h1)).trans h1, (hb.cell (p := ⟨w.heap.size + 1, 0, none⟩) (cell_lt h2)).trans h2, (hb.cell (p := ⟨w.heap.size + 1, 1, none⟩) (cell_lt h3)).trans h3, h8.trans (hb.mono h8.size)⟩
theorem i4_below {a b c d : Int} {w W : World} (h : W.cell? ⟨w.heap.size, 0, none⟩ = some (.int .i64 a) ∧ W.cell? ⟨w.heap.size, 1, none⟩ = some (.int .i64 b) ∧ W.cell? ⟨w.heap.size + 1, 0, none⟩ = some (.int .i64 c) ∧ W.cell? ⟨w.heap.size + 1, 1, none⟩ = some (.int .i64 d) ∧ Below w.heap.size w W) : Below w.heap.size w W := h.2.2.2.2
set_option maxRecDepth 100000 in
set_option maxHeartbeats 8000000 in
theorem none1 (a b c d : Int) (w : World) {a0 a1 a2 : Addr} (hE : Errs w a0 a1 a2) (hT : Tab w) (s t : ByteArray) (hs : printT a b = s) (ht : printT c d = t) (he : s = ⟨#[]⟩) : Calls Tryz.prog 6 #[.agg #[.int .i64 a, .int .i64 b], .agg #[.int .i64 c, .int .i64 d]] w (Gives w (.bool true)) := by
  unfold Gives
  have z0 : s.toList = [] := by rw [he, ByteArray.toList_eq]
  have z1 : s.toList.isEmpty = true := by rw [z0]; rfl
  clear he
  have HS := Lib.hid hs
  have HT2 := Lib.hid ht
  clear hs ht
  obtain ⟨W0, hW0⟩ : ∃ W0, (w.alloc (.cells #[.int .i64 a, .int .i64 b] 23)).alloc (.cells #[.int .i64 c, .int .i64 d] 23) = W0 := ⟨_, rfl⟩
  have hB : Below w.heap.size w W0 := by rw [← hW0]; exact (by repeat (first | exact Below.refl _ _ | (refine Below.setCell ?_ (by first | omega | (simp; done) | (simp; omega) | (simp at *; omega)) _) | (refine Below.alloc ?_ (by first | omega | (simp; done) | (simp; omega) | (simp at *; omega)) _) | refine Below.drew ?_ | (refine below_drewN ?_ _) | (refine Below.trans ?_ (Below.mono (by assumption) (by first | omega | (simp; done) | (simp; omega) | (simp at *; omega))))))
  have bM : Blk W0 w.heap.size 23 #[.int .i64 a, .int .i64 b] := by rw [← hW0]; exact (Blk.new _ _ _ rfl).alloc _
  have bN : Blk W0 (w.heap.size + 1) 23 #[.int .i64 c, .int .i64 d] := by rw [← hW0]; exact Blk.new _ _ _ (by simp)
  have HW := Lib.hid hW0
  clear hW0
  obtain ⟨p0, p1⟩ := cell2 bM
  obtain ⟨p2, p3⟩ := cell2 bN
  go_enter Tryz.func6, Tryz.ntmps6
  go_wp2_with fail
  rw [HW.out]
  go_wp2_with fail
  refine (print_is a b s _ HS.out).mono ?_
  rintro e w1 ⟨rfl, hb⟩
  have hB1 := hB.trans (hb.mono hB.size)
  have bM1 := bM.next hb
  have bN1 := bN.next hb
  clear hb hB bM bN p0 p1 p2 p3
  obtain ⟨p0, p1⟩ := cell2 bM1
  obtain ⟨p2, p3⟩ := cell2 bN1
  go_wp2_with fail
  refine (print_is c d t _ HT2.out).mono ?_
  rintro e w2 ⟨rfl, hb⟩
  have hB2 := hB1.trans (hb.mono hB1.size)
  have bM2 := bM1.next hb
  have bN2 := bN1.next hb
  clear hb hB1 bM1 bN1 p0 p1 p2 p3
  obtain ⟨p0, p1⟩ := cell2 bM2
  obtain ⟨p2, p3⟩ := cell2 bN2
  go_wp2_with fail
  refine (live12_any (hE.next hB2) (hT.next hB2)).mono ?_
  rintro e w3 ⟨rfl, hb⟩
  go_wp2
  go_ret
  exact ⟨rfl, hB2.trans (hb.mono hB2.size)⟩
set_option maxRecDepth 100000 in
set_option maxHeartbeats 8000000 in
theorem none2 (a b c d : Int) (w : World) {a0 a1 a2 : Addr} (hE : Errs w a0 a1 a2) (hT : Tab w) (s t : ByteArray) (hs : printT a b = s) (ht : printT c d = t) (_hne : ¬ s.toList = []) (hem : s.toList.isEmpty = false) (he : t = ⟨#[]⟩) : Calls Tryz.prog 6 #[.agg #[.int .i64 a, .int .i64 b], .agg #[.int .i64 c, .int .i64 d]] w (Gives w (.bool true)) := by
  unfold Gives
  have z0 : t.toList = [] := by rw [he, ByteArray.toList_eq]
  have z1 : t.toList.isEmpty = true := by rw [z0]; rfl
  clear he
  have HS := Lib.hid hs
  have HT2 := Lib.hid ht
  clear hs ht
  obtain ⟨W0, hW0⟩ : ∃ W0, (w.alloc (.cells #[.int .i64 a, .int .i64 b] 23)).alloc (.cells #[.int .i64 c, .int .i64 d] 23) = W0 := ⟨_, rfl⟩
  have hB : Below w.heap.size w W0 := by rw [← hW0]; exact (by repeat (first | exact Below.refl _ _ | (refine Below.setCell ?_ (by first | omega | (simp; done) | (simp; omega) | (simp at *; omega)) _) | (refine Below.alloc ?_ (by first | omega | (simp; done) | (simp; omega) | (simp at *; omega)) _) | refine Below.drew ?_ | (refine below_drewN ?_ _) | (refine Below.trans ?_ (Below.mono (by assumption) (by first | omega | (simp; done) | (simp; omega) | (simp at *; omega))))))
  have bM : Blk W0 w.heap.size 23 #[.int .i64 a, .int .i64 b] := by rw [← hW0]; exact (Blk.new _ _ _ rfl).alloc _
  have bN : Blk W0 (w.heap.size + 1) 23 #[.int .i64 c, .int .i64 d] := by rw [← hW0]; exact Blk.new _ _ _ (by simp)
  have HW := Lib.hid hW0
  clear hW0
  obtain ⟨p0, p1⟩ := cell2 bM
  obtain ⟨p2, p3⟩ := cell2 bN
  go_enter Tryz.func6, Tryz.ntmps6
  go_wp2_with fail
  rw [HW.out]
  go_wp2_with fail
  refine (print_is a b s _ HS.out).mono ?_
  rintro e w1 ⟨rfl, hb⟩
  have hB1 := hB.trans (hb.mono hB.size)
  have bM1 := bM.next hb
  have bN1 := bN.next hb
  clear hb hB bM bN p0 p1 p2 p3
  obtain ⟨p0, p1⟩ := cell2 bM1
  obtain ⟨p2, p3⟩ := cell2 bN1
  go_wp2_with fail
  refine (print_is c d t _ HT2.out).mono ?_
  rintro e w2 ⟨rfl, hb⟩
  have hB2 := hB1.trans (hb.mono hB1.size)
  have bM2 := bM1.next hb
  have bN2 := bN1.next hb
  clear hb hB1 bM1 bN1 p0 p1 p2 p3
  obtain ⟨p0, p1⟩ := cell2 bM2
  obtain ⟨p2, p3⟩ := cell2 bN2
  go_wp2_with fail
  refine (live12_any (hE.next hB2) (hT.next hB2)).mono ?_
  rintro e w3 ⟨rfl, hb⟩
  go_wp2
  go_ret
  exact ⟨rfl, hB2.trans (hb.mono hB2.size)⟩
set_option maxRecDepth 100000 in
set_option maxHeartbeats 8000000 in
theorem same (a b : Int) (w : World) {a0 a1 a2 : Addr} (hE : Errs w a0 a1 a2) (hT : Tab w) (s : ByteArray) (hs : printT a b = s) (_hne : ¬ s.toList = []) (hem : s.toList.isEmpty = false) : Calls Tryz.prog 6 #[.agg #[.int .i64 a, .int .i64 b], .agg #[.int .i64 a, .int .i64 b]] w (Gives w (.bool true)) := by
  unfold Gives
  have HS := Lib.hid hs
  have HT2 := Lib.hid hs
  clear hs
  obtain ⟨W0, hW0⟩ : ∃ W0, (w.alloc (.cells #[.int .i64 a, .int .i64 b] 23)).alloc (.cells #[.int .i64 a, .int .i64 b] 23) = W0 := ⟨_, rfl⟩
  have hB : Below w.heap.size w W0 := by rw [← hW0]; exact (by repeat (first | exact Below.refl _ _ | (refine Below.setCell ?_ (by first | omega | (simp; done) | (simp; omega) | (simp at *; omega)) _) | (refine Below.alloc ?_ (by first | omega | (simp; done) | (simp; omega) | (simp at *; omega)) _) | refine Below.drew ?_ | (refine below_drewN ?_ _) | (refine Below.trans ?_ (Below.mono (by assumption) (by first | omega | (simp; done) | (simp; omega) | (simp at *; omega))))))
  have bM : Blk W0 w.heap.size 23 #[.int .i64 a, .int .i64 b] := by rw [← hW0]; exact (Blk.new _ _ _ rfl).alloc _
  have bN : Blk W0 (w.heap.size + 1) 23 #[.int .i64 a, .int .i64 b] := by rw [← hW0]; exact Blk.new _ _ _ (by simp)
  have HW := Lib.hid hW0
  clear hW0
  obtain ⟨p0, p1⟩ := cell2 bM
  obtain ⟨p2, p3⟩ := cell2 bN
  go_enter Tryz.func6, Tryz.ntmps6
  go_wp2_with fail
  rw [HW.out]
  go_wp2_with fail
  refine (print_is a b s _ HS.out).mono ?_
  rintro e w1 ⟨rfl, hb⟩
  have hB1 := hB.trans (hb.mono hB.size)
  have bM1 := bM.next hb
  have bN1 := bN.next hb
  clear hb hB bM bN p0 p1 p2 p3
  obtain ⟨p0, p1⟩ := cell2 bM1
  obtain ⟨p2, p3⟩ := cell2 bN1
  go_wp2_with fail
  refine (print_is a b s _ HT2.out).mono ?_
  rintro e w2 ⟨rfl, hb⟩
  have hB2 := hB1.trans (hb.mono hB1.size)
  have bM2 := bM1.next hb
  have bN2 := bN1.next hb
  clear hb hB1 bM1 bN1 p0 p1 p2 p3
  obtain ⟨p0, p1⟩ := cell2 bM2
  obtain ⟨p2, p3⟩ := cell2 bN2
  go_wp2_with fail
  refine (live12_any (hE.next hB2) (hT.next hB2)).mono ?_
  rintro e w3 ⟨rfl, hb⟩
  go_wp2
  go_ret
  exact ⟨rfl, hB2.trans (hb.mono hB2.size)⟩
set_option maxRecDepth 100000 in
set_option maxHeartbeats 8000000 in
theorem half (a b d : Int) (w : World) {a0 a1 a2 : Addr} (hE : Errs w a0 a1 a2) (hT : Tab w) (s t : ByteArray) (hs : printT a b = s) (ht : printT a d = t) (_hne : ¬ s.toList = []) (hem : s.toList.isEmpty = false) (_hne2 : ¬ t.toList = []) (hem2 : t.toList.isEmpty = false) (hbd : ¬ b = d) (hl : ¬ s.toList = t.toList) : Calls Tryz.prog 6 #[.agg #[.int .i64 a, .int .i64 b], .agg #[.int .i64 a, .int .i64 d]] w (Gives w (.bool true)) := by
  unfold Gives
  have HS := Lib.hid hs
  have HT2 := Lib.hid ht
  clear hs ht
  obtain ⟨W0, hW0⟩ : ∃ W0, (w.alloc (.cells #[.int .i64 a, .int .i64 b] 23)).alloc (.cells #[.int .i64 a, .int .i64 d] 23) = W0 := ⟨_, rfl⟩
  have hB : Below w.heap.size w W0 := by rw [← hW0]; exact (by repeat (first | exact Below.refl _ _ | (refine Below.setCell ?_ (by first | omega | (simp; done) | (simp; omega) | (simp at *; omega)) _) | (refine Below.alloc ?_ (by first | omega | (simp; done) | (simp; omega) | (simp at *; omega)) _) | refine Below.drew ?_ | (refine below_drewN ?_ _) | (refine Below.trans ?_ (Below.mono (by assumption) (by first | omega | (simp; done) | (simp; omega) | (simp at *; omega))))))
  have bM : Blk W0 w.heap.size 23 #[.int .i64 a, .int .i64 b] := by rw [← hW0]; exact (Blk.new _ _ _ rfl).alloc _
  have bN : Blk W0 (w.heap.size + 1) 23 #[.int .i64 a, .int .i64 d] := by rw [← hW0]; exact Blk.new _ _ _ (by simp)
  have HW := Lib.hid hW0
  clear hW0
  obtain ⟨p0, p1⟩ := cell2 bM
  obtain ⟨p2, p3⟩ := cell2 bN
  go_enter Tryz.func6, Tryz.ntmps6
  go_wp2_with fail
  rw [HW.out]
  go_wp2_with fail
  refine (print_is a b s _ HS.out).mono ?_
  rintro e w1 ⟨rfl, hb⟩
  have hB1 := hB.trans (hb.mono hB.size)
  have bM1 := bM.next hb
  have bN1 := bN.next hb
  clear hb hB bM bN p0 p1 p2 p3
  obtain ⟨p0, p1⟩ := cell2 bM1
  obtain ⟨p2, p3⟩ := cell2 bN1
  go_wp2_with fail
  refine (print_is a d t _ HT2.out).mono ?_
  rintro e w2 ⟨rfl, hb⟩
  have hB2 := hB1.trans (hb.mono hB1.size)
  have bM2 := bM1.next hb
  have bN2 := bN1.next hb
  clear hb hB1 bM1 bN1 p0 p1 p2 p3
  obtain ⟨p0, p1⟩ := cell2 bM2
  obtain ⟨p2, p3⟩ := cell2 bN2
  go_wp2_with fail
  refine (live12_any (hE.next hB2) (hT.next hB2)).mono ?_
  rintro e w3 ⟨rfl, hb⟩
  go_wp2
  go_ret
  exact ⟨by simp [hl], hB2.trans (hb.mono hB2.size)⟩
set_option maxRecDepth 100000 in
set_option maxHeartbeats 8000000 in
theorem two (a b c d : Int) (w : World) {a0 a1 a2 : Addr} (hE : Errs w a0 a1 a2) (hT : Tab w) (s t : ByteArray) (hs : printT a b = s) (ht : printT c d = t) (_hne : ¬ s.toList = []) (hem : s.toList.isEmpty = false) (_hne2 : ¬ t.toList = []) (hem2 : t.toList.isEmpty = false) (hac : ¬ a = c) (hl : ¬ s.toList = t.toList) : Calls Tryz.prog 6 #[.agg #[.int .i64 a, .int .i64 b], .agg #[.int .i64 c, .int .i64 d]] w (Gives w (.bool true)) := by
  unfold Gives
  have HS := Lib.hid hs
  have HT2 := Lib.hid ht
  clear hs ht
  obtain ⟨W0, hW0⟩ : ∃ W0, (w.alloc (.cells #[.int .i64 a, .int .i64 b] 23)).alloc (.cells #[.int .i64 c, .int .i64 d] 23) = W0 := ⟨_, rfl⟩
  have hB : Below w.heap.size w W0 := by rw [← hW0]; exact (by repeat (first | exact Below.refl _ _ | (refine Below.setCell ?_ (by first | omega | (simp; done) | (simp; omega) | (simp at *; omega)) _) | (refine Below.alloc ?_ (by first | omega | (simp; done) | (simp; omega) | (simp at *; omega)) _) | refine Below.drew ?_ | (refine below_drewN ?_ _) | (refine Below.trans ?_ (Below.mono (by assumption) (by first | omega | (simp; done) | (simp; omega) | (simp at *; omega))))))
  have bM : Blk W0 w.heap.size 23 #[.int .i64 a, .int .i64 b] := by rw [← hW0]; exact (Blk.new _ _ _ rfl).alloc _
  have bN : Blk W0 (w.heap.size + 1) 23 #[.int .i64 c, .int .i64 d] := by rw [← hW0]; exact Blk.new _ _ _ (by simp)
  have HW := Lib.hid hW0
  clear hW0
  obtain ⟨p0, p1⟩ := cell2 bM
  obtain ⟨p2, p3⟩ := cell2 bN
  go_enter Tryz.func6, Tryz.ntmps6
  go_wp2_with fail
  rw [HW.out]
  go_wp2_with fail
  refine (print_is a b s _ HS.out).mono ?_
  rintro e w1 ⟨rfl, hb⟩
  have hB1 := hB.trans (hb.mono hB.size)
  have bM1 := bM.next hb
  have bN1 := bN.next hb
  clear hb hB bM bN p0 p1 p2 p3
  obtain ⟨p0, p1⟩ := cell2 bM1
  obtain ⟨p2, p3⟩ := cell2 bN1
  go_wp2_with fail
  refine (print_is c d t _ HT2.out).mono ?_
  rintro e w2 ⟨rfl, hb⟩
  have hB2 := hB1.trans (hb.mono hB1.size)
  have bM2 := bM1.next hb
  have bN2 := bN1.next hb
  clear hb hB1 bM1 bN1 p0 p1 p2 p3
  obtain ⟨p0, p1⟩ := cell2 bM2
  obtain ⟨p2, p3⟩ := cell2 bN2
  go_wp2_with fail
  refine (live12_any (hE.next hB2) (hT.next hB2)).mono ?_
  rintro e w3 ⟨rfl, hb⟩
  go_wp2
  go_ret
  exact ⟨by simp [hl], hB2.trans (hb.mono hB2.size)⟩
theorem both (a b c d : Int) (w : World) {a0 a1 a2 : Addr} (hE : Errs w a0 a1 a2) (hT : Tab w) (s t : ByteArray) (hs : printT a b = s) (ht : printT c d = t) (_hne : ¬ s.toList = []) (hem : s.toList.isEmpty = false) (_hne2 : ¬ t.toList = []) (hem2 : t.toList.isEmpty = false) (hone : s = t ↔ a = c ∧ b = d) : Calls Tryz.prog 6 #[.agg #[.int .i64 a, .int .i64 b], .agg #[.int .i64 c, .int .i64 d]] w (Gives w (.bool true)) := by
  have hl : ¬ s = t → ¬ s.toList = t.toList := fun h e => h (by rw [ByteArray.toList_eq, ByteArray.toList_eq] at e; exact ByteArray.ext (Array.toList_inj.1 e))
  by_cases h1 : a = c
  · subst h1
    by_cases h2 : b = d
    · subst h2
      exact same a b w hE hT s hs _hne hem
    · exact half a b d w hE hT s t hs ht _hne hem _hne2 hem2 h2 (hl fun e => h2 (hone.1 e).2)
  · exact two a b c d w hE hT s t hs ht _hne hem _hne2 hem2 h1 (hl fun e => h1 (hone.1 e).1)
theorem walk (a b c d : Int) (w : World) {a0 a1 a2 : Addr} (hE : Errs w a0 a1 a2) (hT : Tab w) : Calls Tryz.prog 6 #[.agg #[.int .i64 a, .int .i64 b], .agg #[.int .i64 c, .int .i64 d]] w (Gives w (.bool true)) := by
  rcases empty_or a b with ⟨e, _⟩ | ⟨h, hne, hem⟩
  · exact none1 a b c d w hE hT _ _ rfl rfl e
  · rcases empty_or c d with ⟨e, _⟩ | ⟨h2, hne2, hem2⟩
    · exact none2 a b c d w hE hT _ _ rfl rfl hne hem e
    · exact both a b c d w hE hT _ _ rfl rfl hne hem hne2 hem2 (print_one h h2)
end Go.Proofs.YtmmomgaijgpmmaaGreatDoor.iapart
