/- What check.In and check.Well answer. -/
import Derived.Test.YtbfkkedcjodceaaDoorCheckD
import Derived.Test.YtbfkkedcjodceaaDoorPos3
namespace Go.Proofs.YtbfkkedcjodceaaDoor
open Go.RowKit Go.Shelf
open M (S)

theorem att_as (s : ByteArray) (a side : Int) (l : List Int) (w : World) (hT : Tab w) (h : attL s a side = l) : Calls Tryd.prog 33 #[.string s, .int .i64 a, .int .i64 side] w (OwnL w l) := by subst h; exact att_any s a side w hT
theorem in_out {s : ByteArray} {side : Int} (h : ¬ (side = 0 ∨ side = 1)) : generalN s side = -1 ∧ inB s side = false := by
  have h1 : (isB s && ((side == 0) || (side == 1))) = false := by
    rw [Bool.and_eq_false_iff, Bool.or_eq_false_iff, beq_eq_false_iff_ne, beq_eq_false_iff_ne]
    exact .inr ⟨fun e => h (.inl e), fun e => h (.inr e)⟩
  refine ⟨general_none h1, ?_⟩
  unfold inB
  rw [h1]
  rfl
theorem att_neg (s : ByteArray) (k : Int) : attL s (-1) k = [] := by
  unfold attL
  rw [sqI_false (n := -1) (by omega)]
  simp
set_option maxHeartbeats 1000000 in
theorem in_any (s : ByteArray) (side : Int) (w : World) (hT : Tab w) : Calls Tryd.prog 39 #[.string s, .int .i64 side] w (Gives w (.bool (inB s side))) := by
  unfold Gives
  obtain ⟨n, hn⟩ : ∃ n, generalN s side = n := ⟨_, rfl⟩
  by_cases h : side = 0 ∨ side = 1
  · obtain ⟨l, hl⟩ : ∃ l, attL s n (1 - side) = l := ⟨_, rfl⟩
    obtain ⟨k, hk⟩ : ∃ k, 1 - side = k := ⟨_, rfl⟩
    have K : Hid (inB s side = decide (0 < l.length)) := by
      show _ = _
      rw [in_att, hn, hl, Bool.eq_iff_iff, bne_iff_ne, decide_eq_true_eq]
      omega
    rw [hk] at hl
    have HN := Lib.hid hn
    have HL := Lib.hid hl
    have HK := Lib.hid hk
    have HS := Lib.hid h
    clear hn hl hk h
    go_enter Tryd.func39, Tryd.ntmps39
    go_wp2_with fail
    refine (general_is s side n _ HN.out).mono ?_
    rintro e w1 ⟨rfl, rfl⟩
    go_wp2_with fail
    refine (other_is side k _ HS.out HK.out).mono ?_
    rintro e w1 ⟨rfl, rfl⟩
    go_wp2_with fail
    refine (att_as s n k l _ hT HL.out).mono ?_
    rintro e w3 ⟨v, rfl, ho, hb⟩
    obtain ⟨A', c', rfl⟩ := own_slice ho
    go_wp2
    go_ret
    exact ⟨by rw [K.out]; rfl, hb⟩
  · obtain ⟨h1, h2⟩ := in_out (s := s) h
    have HN := Lib.hid h1
    have K := Lib.hid h2
    clear hn h h1 h2
    go_enter Tryd.func39, Tryd.ntmps39
    go_wp2_with fail
    refine (general_is s side (-1) _ HN.out).mono ?_
    rintro e w1 ⟨rfl, rfl⟩
    go_wp2_with fail
    refine (other_some side _).mono ?_
    rintro e w1 ⟨k, rfl, rfl⟩
    go_wp2_with fail
    refine (att_as s (-1) k [] _ hT (att_neg s k)).mono ?_
    rintro e w3 ⟨v, rfl, ho, hb⟩
    obtain ⟨A', c', rfl⟩ := own_slice ho
    go_wp2
    go_ret
    exact ⟨by rw [K.out]; rfl, hb⟩
theorem in_is (s : ByteArray) (side : Int) (v : Bool) (w : World) (hT : Tab w) (h : inB s side = v) : Calls Tryd.prog 39 #[.string s, .int .i64 side] w (Gives w (.bool v)) := by subst h; exact in_any s side w hT
theorem ppos_cells7 {W : World} {g : Nat} {t : TypeId} {s : ByteArray} {a b c : Int} (h : Blk W g t #[.string s, .int .i64 a, .int .i64 b, .int .i64 c]) : W.cell? ⟨g, 0, none⟩ = some (.string s) ∧ W.cell? ⟨g, 1, none⟩ = some (.int .i64 a) ∧ W.cell? ⟨g, 2, none⟩ = some (.int .i64 b) ∧ W.cell? ⟨g, 3, none⟩ = some (.int .i64 c) := ⟨h.cell 0, h.cell 1, h.cell 2, h.cell 3⟩
set_option maxRecDepth 100000 in
set_option maxHeartbeats 4000000 in
theorem well_any (s : ByteArray) (side clock full : Int) (w : World) (hT : Tab w) : Calls Tryd.prog 41 #[.agg #[.string s, .int .i64 side, .int .i64 clock, .int .i64 full]] w (Gives w (.int .i64 (wellN s side clock full))) := by
  unfold Gives
  obtain ⟨W0, hW0⟩ : ∃ W0, w.alloc (.cells #[.string s, .int .i64 side, .int .i64 clock, .int .i64 full] 23) = W0 := ⟨_, rfl⟩
  have hB : Below w.heap.size w W0 := by rw [← hW0]; exact (by repeat (first | exact Below.refl _ _ | (refine Below.setCell ?_ (by first | omega | (simp; done) | (simp; omega) | (simp at *; omega)) _) | (refine Below.alloc ?_ (by first | omega | (simp; done) | (simp; omega) | (simp at *; omega)) _) | refine Below.drew ?_ | (refine below_drewN ?_ _) | (refine Below.trans ?_ (Below.mono (by assumption) (by first | omega | (simp; done) | (simp; omega) | (simp at *; omega))))))
  have bP : Blk W0 w.heap.size 23 #[.string s, .int .i64 side, .int .i64 clock, .int .i64 full] := by rw [← hW0]; exact Blk.new _ _ _ rfl
  replace hT := hT.next hB
  have HW := Lib.hid hW0
  clear hW0
  obtain ⟨k, hk⟩ : ∃ k : Int, (checkN s side clock full : Int) = k := ⟨_, rfl⟩
  have HK := Lib.hid hk
  by_cases h0 : k = 0
  · subst h0
    have hside : side = 0 ∨ side = 1 := by
      have hp := (check_zero hk).1
      simp only [partsB, Bool.and_eq_true, Bool.or_eq_true, beq_iff_eq, decide_eq_true_eq] at hp
      exact hp.1.1.1.1.2
    obtain ⟨f, hf⟩ : ∃ f, facingB s = f := ⟨_, rfl⟩
    have HF := Lib.hid hf
    cases f
    · obtain ⟨v, hv⟩ : ∃ v, inB s (1 - side) = v := ⟨_, rfl⟩
      obtain ⟨o, ho⟩ : ∃ o, 1 - side = o := ⟨_, rfl⟩
      have K : Hid (wellN s side clock full = if v then 5 else 0) := by
        show _ = _
        unfold wellN
        rw [if_pos hk, hf, hv]
        rfl
      rw [ho] at hv
      have HV := Lib.hid hv
      have HO := Lib.hid ho
      have HS := Lib.hid hside
      clear hk hf hv ho hside
      go_enter Tryd.func41, Tryd.ntmps41
      go_wp2_with fail
      rw [HW.out]
      refine (check_is s side clock full 0 _ HK.out).mono ?_
      rintro e w1 ⟨rfl, hb⟩
      replace hT := hT.next hb
      replace bP := bP.next hb
      replace hB := hB.trans (hb.mono hB.size)
      clear hb
      obtain ⟨p0, p1, p2, p3⟩ := ppos_cells7 bP
      go_wp2_with fail
      refine (facing_is s false _ HF.out).mono ?_
      rintro e w2 ⟨rfl, rfl⟩
      have hS : w1.drew.cell? ⟨w.heap.size, 0, none⟩ = some (.string s) ∧ w1.drew.cell? ⟨w.heap.size, 1, none⟩ = some (.int .i64 side) ∧ w1.drew.cell? ⟨w.heap.size, 2, none⟩ = some (.int .i64 clock) ∧ w1.drew.cell? ⟨w.heap.size, 3, none⟩ = some (.int .i64 full) ∧ Tab w1.drew ∧ Below w.heap.size w w1.drew := ⟨p0, p1, p2, p3, hT.next (Below.refl _ _).drew, hB.drew⟩
      clear bP hB hT
      go_wp2_with fail
      go_region_held3 (fun W => W.cell? ⟨w.heap.size, 0, none⟩ = some (.string s) ∧ W.cell? ⟨w.heap.size, 1, none⟩ = some (.int .i64 side) ∧ W.cell? ⟨w.heap.size, 2, none⟩ = some (.int .i64 clock) ∧ W.cell? ⟨w.heap.size, 3, none⟩ = some (.int .i64 full) ∧ Tab W ∧ Below w.heap.size w W)
        (first | exact hS | exact posT_keep (by assumption) hb)
        (first
          | (go_at_call 74; refine (other_is side o _ HS.out HO.out).mono ?_; rintro e w3 ⟨rfl, hw⟩; have hb := below_same hw)
          | (go_at_call 39; refine (in_is s o v _ ?_ HV.out).mono ?_; (exact posT_tab (by assumption)); rintro e w4 ⟨rfl, hb⟩))
      rename_i hh
      have hB := posT_below hh
      clear hh
      cases v
      · go_wp2
        go_ret
        exact ⟨by rw [K.out]; rfl, hB⟩
      · go_wp2
        go_ret
        exact ⟨by rw [K.out]; rfl, hB⟩
    · have K : Hid (wellN s side clock full = 4) := by
        show _ = _
        unfold wellN
        rw [if_pos hk, hf]
        rfl
      clear hk hf hside
      go_enter Tryd.func41, Tryd.ntmps41
      go_wp2_with fail
      rw [HW.out]
      refine (check_is s side clock full 0 _ HK.out).mono ?_
      rintro e w1 ⟨rfl, hb⟩
      replace bP := bP.next hb
      replace hB := hB.trans (hb.mono hB.size)
      clear hb
      obtain ⟨p0, p1, p2, p3⟩ := ppos_cells7 bP
      go_wp2_with fail
      refine (facing_is s true _ HF.out).mono ?_
      rintro e w2 ⟨rfl, rfl⟩
      go_wp2
      go_ret
      exact ⟨by rw [K.out]; rfl, hB⟩
  · have K : Hid (wellN s side clock full = k) := by
      show _ = _
      unfold wellN
      rw [hk, if_neg h0]
    have e1 : (k != 0) = true := by rw [bne_iff_ne]; exact h0
    clear hk h0
    go_enter Tryd.func41, Tryd.ntmps41
    go_wp2_with fail
    rw [HW.out]
    refine (check_is s side clock full k _ HK.out).mono ?_
    rintro e w1 ⟨rfl, hb⟩
    go_wp2
    go_ret
    exact ⟨by rw [K.out]; rfl, hB.trans (hb.mono hB.size)⟩
theorem well_is (s : ByteArray) (side clock full k : Int) (w : World) (hT : Tab w) (h : wellN s side clock full = k) : Calls Tryd.prog 41 #[.agg #[.string s, .int .i64 side, .int .i64 clock, .int .i64 full]] w (Gives w (.int .i64 k)) := by subst h; exact well_any s side clock full w hT
end Go.Proofs.YtbfkkedcjodceaaDoor
