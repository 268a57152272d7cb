/- What the document's own answers of layer 7 come to, on: whether generals face one another, whether one is attacked, what is wrong with a position. -/
import Derived.Test.YtbfkkedcjodceaaDoorCheckE
import Derived.Test.YtbfkkedcjodceaaDoorCheckF
namespace Go.Proofs.YtbfkkedcjodceaaDoor
open Go.RowKit Go.Shelf
open M (S)

set_option maxHeartbeats 1000000 in
theorem rfacing_any (s : ByteArray) (w : World) : Calls Tryd.prog 38 #[.string s] w (Gives w (.bool (facingB s))) := by
  unfold Gives
  have K0 := facing_gen s
  rcases general_cases s 0 with ha | ⟨a, ha, ea, _⟩
  · obtain ⟨b, hb⟩ : ∃ b, generalN s 1 = b := ⟨_, rfl⟩
    have K : Hid (facingB s = false) := by show _ = _; rw [K0, ha]; rfl
    have HA := Lib.hid ha
    have HB := Lib.hid hb
    clear K0 ha hb
    go_enter Tryd.func38, Tryd.ntmps38
    go_wp2_with fail
    refine (rgen_is s 0 (-1) _ HA.out).mono ?_
    rintro e w1 ⟨rfl, hb1⟩
    go_wp2_with fail
    refine (rgen_is s 1 b _ HB.out).mono ?_
    rintro e w2 ⟨rfl, hb2⟩
    go_wp2
    go_ret
    exact ⟨by rw [K.out]; rfl, hb1.trans (hb2.mono hb1.size)⟩
  rcases general_cases s 1 with hb | ⟨b, hb, eb, _⟩
  · have K : Hid (facingB s = false) := by show _ = _; rw [K0, ea, hb]; simp
    have HA := Lib.hid ea
    have HB := Lib.hid hb
    have a0 : (0 : Int) ≤ (a : Int) := by omega
    clear K0 ea hb
    go_enter Tryd.func38, Tryd.ntmps38
    go_wp2_with fail
    refine (rgen_is s 0 a _ HA.out).mono ?_
    rintro e w1 ⟨rfl, hb1⟩
    go_wp2_with fail
    refine (rgen_is s 1 (-1) _ HB.out).mono ?_
    rintro e w2 ⟨rfl, hb2⟩
    go_wp2
    go_ret
    exact ⟨by rw [K.out]; rfl, hb1.trans (hb2.mono hb1.size)⟩
  · obtain ⟨k, hk⟩ : ∃ k, betweenV s (a : Int) (b : Int) = k := ⟨_, rfl⟩
    have a0 : (0 : Int) ≤ (a : Int) := by omega
    have b0 : (0 : Int) ≤ (b : Int) := by omega
    have m1 : Int.tmod (a : Int) 9 = (a : Int) % 9 := Int.tmod_eq_emod_of_nonneg a0
    have m2 : Int.tmod (b : Int) 9 = (b : Int) % 9 := Int.tmod_eq_emod_of_nonneg b0
    obtain ⟨x, hx⟩ : ∃ x, (a : Int) % 9 = x := ⟨_, rfl⟩
    obtain ⟨y, hy⟩ : ∃ y, (b : Int) % 9 = y := ⟨_, rfl⟩
    have K1 : facingB s = ((x == y) && (k == 0)) := by
      rw [K0, ea, eb, hk, hx, hy]
      simp
    have HA := Lib.hid ea
    have HB := Lib.hid eb
    have HK := Lib.hid hk
    rw [hx] at m1
    rw [hy] at m2
    clear K0 ea eb hk
    cases hxy : (x == y)
    · have K : Hid (facingB s = false) := by show _ = _; rw [K1, hxy]; rfl
      clear K1
      go_enter Tryd.func38, Tryd.ntmps38
      go_wp2_with fail
      refine (rgen_is s 0 a _ HA.out).mono ?_
      rintro e w1 ⟨rfl, hb1⟩
      go_wp2_with fail
      refine (rgen_is s 1 b _ HB.out).mono ?_
      rintro e w2 ⟨rfl, hb2⟩
      go_wp2
      go_ret
      exact ⟨by rw [K.out]; rfl, hb1.trans (hb2.mono hb1.size)⟩
    · have K : Hid (facingB s = (k == 0)) := by show _ = _; rw [K1, hxy]; rfl
      clear K1
      go_enter Tryd.func38, Tryd.ntmps38
      go_wp2_with fail
      refine (rgen_is s 0 a _ HA.out).mono ?_
      rintro e w1 ⟨rfl, hb1⟩
      go_wp2_with fail
      refine (rgen_is s 1 b _ HB.out).mono ?_
      rintro e w2 ⟨rfl, hb2⟩
      go_wp2_with fail
      refine (rBetween_is s a b k _ HK.out).mono ?_
      rintro e w3 ⟨rfl, rfl⟩
      go_wp2
      go_ret
      exact ⟨by rw [K.out]; rfl, hb1.trans (hb2.mono hb1.size)⟩
theorem rfacing_is (s : ByteArray) (v : Bool) (w : World) (h : facingB s = v) : Calls Tryd.prog 38 #[.string s] w (Gives w (.bool v)) := by subst h; exact rfacing_any s w
set_option maxHeartbeats 1000000 in
theorem rin_any (s : ByteArray) (side : Int) (w : World) : Calls Tryd.prog 40 #[.string s, .int .i64 side] w (Gives w (.bool (inB s side))) := by
  unfold Gives
  rcases general_cases s side with ha | ⟨a, ha, ea, _, hs, _⟩
  · have K : Hid (inB s side = false) := by
      show _ = _
      rw [in_att, ha, att_neg]
      rfl
    have HA := Lib.hid ha
    clear ha
    go_enter Tryd.func40, Tryd.ntmps40
    go_wp2_with fail
    refine (rgen_is s side (-1) _ HA.out).mono ?_
    rintro e w1 ⟨rfl, hb1⟩
    go_wp2
    go_ret
    exact ⟨by rw [K.out]; rfl, hb1⟩
  · obtain ⟨l, hl⟩ : ∃ l, attL s (a : Int) (1 - side) = l := ⟨_, rfl⟩
    obtain ⟨m, hm⟩ : ∃ m, l.length = m := ⟨_, rfl⟩
    obtain ⟨k, hk⟩ : ∃ k : Int, 1 - side = k := ⟨_, rfl⟩
    have K : Hid (inB s side = decide (0 < m)) := by
      show _ = _
      rw [in_att, ea, hl, hm, Bool.eq_iff_iff, bne_iff_ne, decide_eq_true_eq]
      omega
    have i0 : IntKind.i64.wrap (1 - side) = k := by rw [IntWalk.i64_in _ (by omega)]; exact hk
    have a0 : (0 : Int) ≤ (a : Int) := by omega
    rw [hk] at hl
    have HA := Lib.hid ea
    have HL := Lib.hid hl
    have HM := Lib.hid hm
    clear ea hl hm hk hs
    go_enter Tryd.func40, Tryd.ntmps40
    go_wp2_with fail
    refine (rgen_is s side a _ HA.out).mono ?_
    rintro e w1 ⟨rfl, hb1⟩
    go_wp2_with fail
    refine (rat_is s a k l m _ HL.out HM.out).mono ?_
    rintro e w2 ⟨A', c', rfl, _, hb2⟩
    go_wp2
    go_ret
    exact ⟨by rw [K.out]; rfl, hb1.trans (hb2.mono hb1.size)⟩
theorem rin_is (s : ByteArray) (side : Int) (v : Bool) (w : World) (h : inB s side = v) : Calls Tryd.prog 40 #[.string s, .int .i64 side] w (Gives w (.bool v)) := by subst h; exact rin_any s side w
set_option maxRecDepth 100000 in
set_option maxHeartbeats 4000000 in
theorem rwell_any (s : ByteArray) (side clock full : Int) (w : World) : Calls Tryd.prog 42 #[.agg #[.string s, .int .i64 side, .int .i64 clock, .int .i64 full]] w (Gives w (.int .i64 (wellN s side clock full))) := by
  unfold Gives
  obtain ⟨W0, hW0⟩ : ∃ W0, w.alloc (.cells #[.string s, .int .i64 side, .int .i64 clock, .int .i64 full] 23) = W0 := ⟨_, rfl⟩
  have hB : Below w.heap.size w W0 := by rw [← hW0]; exact (by repeat (first | exact Below.refl _ _ | (refine Below.setCell ?_ (by first | omega | (simp; done) | (simp; omega) | (simp at *; omega)) _) | (refine Below.alloc ?_ (by first | omega | (simp; done) | (simp; omega) | (simp at *; omega)) _) | refine Below.drew ?_ | (refine below_drewN ?_ _) | (refine Below.trans ?_ (Below.mono (by assumption) (by first | omega | (simp; done) | (simp; omega) | (simp at *; omega))))))
  have bP : Blk W0 w.heap.size 23 #[.string s, .int .i64 side, .int .i64 clock, .int .i64 full] := by rw [← hW0]; exact Blk.new _ _ _ rfl
  have HW := Lib.hid hW0
  clear hW0
  obtain ⟨k, hk⟩ : ∃ k : Int, (checkN s side clock full : Int) = k := ⟨_, rfl⟩
  have HK := Lib.hid hk
  by_cases h0 : k = 0
  · subst h0
    have hside : side = 0 ∨ side = 1 := by
      have hp := (check_zero hk).1
      simp only [partsB, Bool.and_eq_true, Bool.or_eq_true, beq_iff_eq, decide_eq_true_eq] at hp
      exact hp.1.1.1.1.2
    obtain ⟨f, hf⟩ : ∃ f, facingB s = f := ⟨_, rfl⟩
    have HF := Lib.hid hf
    cases f
    · obtain ⟨v, hv⟩ : ∃ v, inB s (1 - side) = v := ⟨_, rfl⟩
      obtain ⟨o, ho⟩ : ∃ o, 1 - side = o := ⟨_, rfl⟩
      have K : Hid (wellN s side clock full = if v then 5 else 0) := by
        show _ = _
        unfold wellN
        rw [if_pos hk, hf, hv]
        rfl
      have i0 : IntKind.i64.wrap (1 - side) = o := by rw [IntWalk.i64_in _ (by omega)]; exact ho
      rw [ho] at hv
      have HV := Lib.hid hv
      clear hk hf hv ho hside
      go_enter Tryd.func42, Tryd.ntmps42
      go_wp2_with fail
      rw [HW.out]
      refine (rcheck_is s side clock full 0 _ HK.out).mono ?_
      rintro e w1 ⟨rfl, hb⟩
      replace bP := bP.next hb
      replace hB := hB.trans (hb.mono hB.size)
      clear hb
      obtain ⟨p0, p1, p2, p3⟩ := ppos_cells7 bP
      go_wp2_with fail
      refine (rfacing_is s false _ HF.out).mono ?_
      rintro e w2 ⟨rfl, hb⟩
      replace bP := bP.next hb
      replace hB := hB.trans (hb.mono hB.size)
      clear hb p0 p1 p2 p3
      obtain ⟨p0, p1, p2, p3⟩ := ppos_cells7 bP
      go_wp2_with fail
      refine (rin_is s o v _ HV.out).mono ?_
      rintro e w3 ⟨rfl, hb⟩
      replace hB := hB.trans (hb.mono hB.size)
      clear hb p0 p1 p2 p3 bP
      cases v
      · go_wp2
        go_ret
        exact ⟨by rw [K.out]; rfl, hB⟩
      · go_wp2
        go_ret
        exact ⟨by rw [K.out]; rfl, hB⟩
    · have K : Hid (wellN s side clock full = 4) := by
        show _ = _
        unfold wellN
        rw [if_pos hk, hf]
        rfl
      clear hk hf hside
      go_enter Tryd.func42, Tryd.ntmps42
      go_wp2_with fail
      rw [HW.out]
      refine (rcheck_is s side clock full 0 _ HK.out).mono ?_
      rintro e w1 ⟨rfl, hb⟩
      replace bP := bP.next hb
      replace hB := hB.trans (hb.mono hB.size)
      clear hb
      obtain ⟨p0, p1, p2, p3⟩ := ppos_cells7 bP
      go_wp2_with fail
      refine (rfacing_is s true _ HF.out).mono ?_
      rintro e w2 ⟨rfl, hb⟩
      go_wp2
      go_ret
      exact ⟨by rw [K.out]; rfl, hB.trans (hb.mono hB.size)⟩
  · have K : Hid (wellN s side clock full = k) := by
      show _ = _
      unfold wellN
      rw [hk, if_neg h0]
    have e1 : (k != 0) = true := by rw [bne_iff_ne]; exact h0
    clear hk h0
    go_enter Tryd.func42, Tryd.ntmps42
    go_wp2_with fail
    rw [HW.out]
    refine (rcheck_is s side clock full k _ HK.out).mono ?_
    rintro e w1 ⟨rfl, hb⟩
    go_wp2
    go_ret
    exact ⟨by rw [K.out]; rfl, hB.trans (hb.mono hB.size)⟩
theorem rwell_is (s : ByteArray) (side clock full k : Int) (w : World) (h : wellN s side clock full = k) : Calls Tryd.prog 42 #[.agg #[.string s, .int .i64 side, .int .i64 clock, .int .i64 full]] w (Gives w (.int .i64 k)) := by subst h; exact rwell_any s side clock full w
end Go.Proofs.YtbfkkedcjodceaaDoor
