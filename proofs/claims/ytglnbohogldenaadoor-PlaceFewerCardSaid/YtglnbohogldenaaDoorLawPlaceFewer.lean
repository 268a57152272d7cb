/- A position from which a piece is taken that is no general is as right as it was: the call answers true. -/
import Derived.Test.YtglnbohogldenaaDoorPlaceF
namespace Go.Proofs.YtglnbohogldenaaDoor.fewer
open Go.RowKit Go.Shelf
open M (S)

set_option maxRecDepth 100000 in
set_option maxHeartbeats 8000000 in
theorem large (s : ByteArray) (side clock full n : Int) (w : World) (hT : Tab w) (hs : 200 < s.size) : Calls Tryd.prog 7 #[.agg #[.string s, .int .i64 side, .int .i64 clock, .int .i64 full], .int .i64 n] w (Gives w (.bool true)) := by
  unfold Gives
  go_enter Tryd.func7, Tryd.ntmps7
  go_wp2_with fail
  obtain ⟨W0, hW0⟩ : ∃ W0, w.alloc (.cells #[.string s, .int .i64 side, .int .i64 clock, .int .i64 full] 31) = W0 := ⟨_, rfl⟩
  have hB : Below w.heap.size w W0 := by rw [← hW0]; exact (by repeat (first | exact Below.refl _ _ | (refine Below.setCell ?_ (by first | omega | (simp; done) | (simp; omega) | (simp at *; omega)) _) | (refine Below.alloc ?_ (by first | omega | (simp; done) | (simp; omega) | (simp at *; omega)) _) | refine Below.drew ?_ | (refine below_drewN ?_ _) | (refine Below.trans ?_ (Below.mono (by assumption) (by first | omega | (simp; done) | (simp; omega) | (simp at *; omega))))))
  have bP : Blk W0 w.heap.size 31 #[.string s, .int .i64 side, .int .i64 clock, .int .i64 full] := by rw [← hW0]; exact Blk.new _ _ _ rfl
  replace hT := hT.below hB hT.lt
  rw [hW0]
  clear hW0
  refine (live3_any _ hT).mono ?_
  rintro e w1 ⟨rfl, hb⟩
  go_wp2
  go_ret
  exact ⟨rfl, hB.trans (hb.mono hB.size)⟩
set_option maxRecDepth 100000 in
set_option maxHeartbeats 8000000 in
theorem bad (s : ByteArray) (side clock full n : Int) (w : World) (hT : Tab w) (k : Int) (hs : s.size ≤ 200) (K : Hid ((checkN s side clock full : Int) = k)) (hk : (k != 0) = true) : Calls Tryd.prog 7 #[.agg #[.string s, .int .i64 side, .int .i64 clock, .int .i64 full], .int .i64 n] w (Gives w (.bool true)) := by
  unfold Gives
  go_enter Tryd.func7, Tryd.ntmps7
  go_wp2_with fail
  obtain ⟨W0, hW0⟩ : ∃ W0, w.alloc (.cells #[.string s, .int .i64 side, .int .i64 clock, .int .i64 full] 31) = W0 := ⟨_, rfl⟩
  have hB : Below w.heap.size w W0 := by rw [← hW0]; exact (by repeat (first | exact Below.refl _ _ | (refine Below.setCell ?_ (by first | omega | (simp; done) | (simp; omega) | (simp at *; omega)) _) | (refine Below.alloc ?_ (by first | omega | (simp; done) | (simp; omega) | (simp at *; omega)) _) | refine Below.drew ?_ | (refine below_drewN ?_ _) | (refine Below.trans ?_ (Below.mono (by assumption) (by first | omega | (simp; done) | (simp; omega) | (simp at *; omega))))))
  have bP : Blk W0 w.heap.size 31 #[.string s, .int .i64 side, .int .i64 clock, .int .i64 full] := by rw [← hW0]; exact Blk.new _ _ _ rfl
  replace hT := hT.below hB hT.lt
  rw [hW0]
  clear hW0
  refine (check_is s side clock full k _ K.out).mono ?_
  rintro e wc1 ⟨rfl, hb⟩
  replace hT := hT.next hb
  replace bP := bP.next hb
  replace hB := hB.trans (hb.mono hB.size)
  clear hb
  go_wp2_with fail
  refine (live3_any _ hT).mono ?_
  rintro e w1 ⟨rfl, hb⟩
  go_wp2
  go_ret
  exact ⟨rfl, hB.trans (hb.mono hB.size)⟩
set_option maxRecDepth 100000 in
set_option maxHeartbeats 8000000 in
theorem below (s : ByteArray) (side clock full n : Int) (w : World) (hT : Tab w) (hs : s.size ≤ 200) (K : Hid ((checkN s side clock full : Int) = 0)) (hn : n < 0) : Calls Tryd.prog 7 #[.agg #[.string s, .int .i64 side, .int .i64 clock, .int .i64 full], .int .i64 n] w (Gives w (.bool true)) := by
  unfold Gives
  go_enter Tryd.func7, Tryd.ntmps7
  go_wp2_with fail
  obtain ⟨W0, hW0⟩ : ∃ W0, w.alloc (.cells #[.string s, .int .i64 side, .int .i64 clock, .int .i64 full] 31) = W0 := ⟨_, rfl⟩
  have hB : Below w.heap.size w W0 := by rw [← hW0]; exact (by repeat (first | exact Below.refl _ _ | (refine Below.setCell ?_ (by first | omega | (simp; done) | (simp; omega) | (simp at *; omega)) _) | (refine Below.alloc ?_ (by first | omega | (simp; done) | (simp; omega) | (simp at *; omega)) _) | refine Below.drew ?_ | (refine below_drewN ?_ _) | (refine Below.trans ?_ (Below.mono (by assumption) (by first | omega | (simp; done) | (simp; omega) | (simp at *; omega))))))
  have bP : Blk W0 w.heap.size 31 #[.string s, .int .i64 side, .int .i64 clock, .int .i64 full] := by rw [← hW0]; exact Blk.new _ _ _ rfl
  replace hT := hT.below hB hT.lt
  rw [hW0]
  clear hW0
  refine (check_is s side clock full 0 _ K.out).mono ?_
  rintro e wc1 ⟨rfl, hb⟩
  replace hT := hT.next hb
  replace bP := bP.next hb
  replace hB := hB.trans (hb.mono hB.size)
  clear hb
  go_wp2_with fail
  refine (live3_any _ hT).mono ?_
  rintro e w1 ⟨rfl, hb⟩
  go_wp2
  go_ret
  exact ⟨rfl, hB.trans (hb.mono hB.size)⟩
set_option maxRecDepth 100000 in
set_option maxHeartbeats 8000000 in
theorem above (s : ByteArray) (side clock full n : Int) (w : World) (hT : Tab w) (hs : s.size ≤ 200) (K : Hid ((checkN s side clock full : Int) = 0)) (hn0 : 0 ≤ n) (hn : 89 < n) : Calls Tryd.prog 7 #[.agg #[.string s, .int .i64 side, .int .i64 clock, .int .i64 full], .int .i64 n] w (Gives w (.bool true)) := by
  unfold Gives
  go_enter Tryd.func7, Tryd.ntmps7
  go_wp2_with fail
  obtain ⟨W0, hW0⟩ : ∃ W0, w.alloc (.cells #[.string s, .int .i64 side, .int .i64 clock, .int .i64 full] 31) = W0 := ⟨_, rfl⟩
  have hB : Below w.heap.size w W0 := by rw [← hW0]; exact (by repeat (first | exact Below.refl _ _ | (refine Below.setCell ?_ (by first | omega | (simp; done) | (simp; omega) | (simp at *; omega)) _) | (refine Below.alloc ?_ (by first | omega | (simp; done) | (simp; omega) | (simp at *; omega)) _) | refine Below.drew ?_ | (refine below_drewN ?_ _) | (refine Below.trans ?_ (Below.mono (by assumption) (by first | omega | (simp; done) | (simp; omega) | (simp at *; omega))))))
  have bP : Blk W0 w.heap.size 31 #[.string s, .int .i64 side, .int .i64 clock, .int .i64 full] := by rw [← hW0]; exact Blk.new _ _ _ rfl
  replace hT := hT.below hB hT.lt
  rw [hW0]
  clear hW0
  refine (check_is s side clock full 0 _ K.out).mono ?_
  rintro e wc1 ⟨rfl, hb⟩
  replace hT := hT.next hb
  replace bP := bP.next hb
  replace hB := hB.trans (hb.mono hB.size)
  clear hb
  go_wp2_with fail
  refine (live3_any _ hT).mono ?_
  rintro e w1 ⟨rfl, hb⟩
  go_wp2
  go_ret
  exact ⟨rfl, hB.trans (hb.mono hB.size)⟩
theorem rput_as (s t : ByteArray) (n : Int) (c : Nat) (w : World) (hc : c < 256) (h : putB s n c = t) : Calls Tryd.prog 28 #[.string s, .int .i64 n, .int .u8 (c : Int)] w (Gives w (.string t)) := by subst h; exact rput_any s n c w hc
set_option maxRecDepth 100000 in
set_option maxHeartbeats 8000000 in
theorem general (s : ByteArray) (side clock full n : Int) (w : World) (hT : Tab w) (k x : Nat) (hn : n = k) (hk : k < 90) (hs : s.size ≤ 200) (hs90 : 90 ≤ s.size) (hx : bAt s k = x) (t : ByteArray) (K : Hid ((checkN s side clock full : Int) = 0)) (Ht : Hid (putB s n 46 = t)) (Kx : Hid (kindN x = 75)) (Kt : Hid ((checkN t side clock full : Int) = 3)) : Calls Tryd.prog 7 #[.agg #[.string s, .int .i64 side, .int .i64 clock, .int .i64 full], .int .i64 n] w (Gives w (.bool true)) := by
  have hTl := hT.lt
  unfold Gives
  subst hn
  have hks : k < s.size := by omega
  have hbk : s[k].toNat = x := (bAt_eq s k hks).trans hx
  clear hx
  go_enter Tryd.func7, Tryd.ntmps7
  go_wp2_with fail
  obtain ⟨W0, hW0⟩ : ∃ W0, w.alloc (.cells #[.string s, .int .i64 side, .int .i64 clock, .int .i64 full] 31) = W0 := ⟨_, rfl⟩
  have hB : Below w.heap.size w W0 := by rw [← hW0]; exact (by repeat (first | exact Below.refl _ _ | (refine Below.setCell ?_ (by first | omega | (simp; done) | (simp; omega) | (simp at *; omega)) _) | (refine Below.alloc ?_ (by first | omega | (simp; done) | (simp; omega) | (simp at *; omega)) _) | refine Below.drew ?_ | (refine below_drewN ?_ _) | (refine Below.trans ?_ (Below.mono (by assumption) (by first | omega | (simp; done) | (simp; omega) | (simp at *; omega))))))
  have bP : Blk W0 w.heap.size 31 #[.string s, .int .i64 side, .int .i64 clock, .int .i64 full] := by rw [← hW0]; exact Blk.new _ _ _ rfl
  replace hT := hT.below hB hT.lt
  rw [hW0]
  clear hW0
  refine (check_is s side clock full 0 _ K.out).mono ?_
  rintro e wc1 ⟨rfl, hb⟩
  replace hT := hT.next hb
  replace bP := bP.next hb
  replace hB := hB.trans (hb.mono hB.size)
  clear hb
  have p0 := bP.cell 0
  have p1 := bP.cell 1
  have p2 := bP.cell 2
  have p3 := bP.cell 3
  simp only [List.getElem?_toArray, List.getElem?_cons_zero, List.getElem?_cons_succ] at p0 p1 p2 p3
  have hlt : w.heap.size < wc1.heap.size := bP.lt
  go_wp2_with fail
  obtain ⟨W1, hW1⟩ : ∃ W1, wc1.alloc (.cells #[.string s, .int .i64 side, .int .i64 clock, .int .i64 full] 31) = W1 := ⟨_, rfl⟩
  have bQ : Blk W1 wc1.heap.size 31 #[.string s, .int .i64 side, .int .i64 clock, .int .i64 full] := by rw [← hW1]; exact Blk.new _ _ _ rfl
  replace hT := hT.next (by rw [← hW1]; exact (Below.refl _ _).alloc (Nat.le_refl _) _ : Below wc1.heap.size wc1 W1)
  replace bP := bP.next (by rw [← hW1]; exact (Below.refl _ _).alloc (Nat.le_refl _) _ : Below wc1.heap.size wc1 W1)
  replace hB := hB.trans (((by rw [← hW1]; exact (Below.refl _ _).alloc (Nat.le_refl _) _ : Below wc1.heap.size wc1 W1)).mono hB.size)
  rw [hW1]
  clear hW1 p0 p1 p2 p3
  have hg : w.heap.size ≠ wc1.heap.size := by omega
  have hgw : w.heap.size ≤ wc1.heap.size := by omega
  clear hlt
  generalize wc1.heap.size = g at bQ hg hgw ⊢
  refine (rput_as s t k 46 _ (by decide) Ht.out).mono ?_
  rintro e w2 ⟨rfl, hb⟩
  replace hT := hT.next hb
  replace bP := bP.next hb
  replace bQ := bQ.next hb
  replace hB := hB.trans (hb.mono hB.size)
  clear hb
  have p0 := bP.cell 0
  simp only [List.getElem?_toArray, List.getElem?_cons_zero] at p0
  have q0 := bQ.cell 0
  simp only [List.getElem?_toArray, List.getElem?_cons_zero] at q0
  have f0 := bQ.frozen 0
  go_wp2_with fail
  refine (rkind_is x 75 _ Kx.out).mono ?_
  rintro e w3 ⟨rfl, rfl⟩
  clear p0 q0 f0
  have hst : Below w.heap.size w2 (w2.setCell ⟨g, 0, none⟩ (.string t)) := (Below.refl _ _).setCell (p := ⟨g, 0, none⟩) hgw _
  replace hT := hT.below hst hTl
  replace bP := bP.far (p := ⟨g, 0, none⟩) hg (.string t)
  replace bQ := bQ.set_ 0 (.string t)
  replace hB := hB.trans hst
  clear hst
  generalize w2.setCell ⟨g, 0, none⟩ (.string t) = W2 at hT bP bQ hB ⊢
  have bQ' : Blk W2 g 31 #[.string t, .int .i64 side, .int .i64 clock, .int .i64 full] := bQ
  clear bQ
  have q0 := bQ'.cell 0
  have q1 := bQ'.cell 1
  have q2 := bQ'.cell 2
  have q3 := bQ'.cell 3
  simp only [List.getElem?_toArray, List.getElem?_cons_zero, List.getElem?_cons_succ] at q0 q1 q2 q3
  go_wp2_with fail
  refine (check_is t side clock full 3 _ Kt.out).mono ?_
  rintro e w4 ⟨rfl, hb⟩
  replace hT := hT.next hb
  replace hB := hB.trans (hb.mono hB.size)
  clear hb
  go_wp2_with fail
  refine (live3_any _ hT).mono ?_
  rintro e w5 ⟨rfl, hb⟩
  replace hB := hB.trans (hb.mono hB.size)
  go_wp2
  go_ret
  exact ⟨rfl, hB⟩
set_option maxRecDepth 100000 in
set_option maxHeartbeats 8000000 in
theorem other (s : ByteArray) (side clock full n : Int) (w : World) (hT : Tab w) (k x : Nat) (hn : n = k) (hk : k < 90) (hs : s.size ≤ 200) (hs90 : 90 ≤ s.size) (hx : bAt s k = x) (t : ByteArray) (K : Hid ((checkN s side clock full : Int) = 0)) (Ht : Hid (putB s n 46 = t)) (kd : Nat) (Kx : Hid (kindN x = kd)) (hkd : ((kd : Int) == 75) = false) (Kt : Hid ((checkN t side clock full : Int) = 0)) : Calls Tryd.prog 7 #[.agg #[.string s, .int .i64 side, .int .i64 clock, .int .i64 full], .int .i64 n] w (Gives w (.bool true)) := by
  have hTl := hT.lt
  unfold Gives
  subst hn
  have hks : k < s.size := by omega
  have hbk : s[k].toNat = x := (bAt_eq s k hks).trans hx
  clear hx
  go_enter Tryd.func7, Tryd.ntmps7
  go_wp2_with fail
  obtain ⟨W0, hW0⟩ : ∃ W0, w.alloc (.cells #[.string s, .int .i64 side, .int .i64 clock, .int .i64 full] 31) = W0 := ⟨_, rfl⟩
  have hB : Below w.heap.size w W0 := by rw [← hW0]; exact (by repeat (first | exact Below.refl _ _ | (refine Below.setCell ?_ (by first | omega | (simp; done) | (simp; omega) | (simp at *; omega)) _) | (refine Below.alloc ?_ (by first | omega | (simp; done) | (simp; omega) | (simp at *; omega)) _) | refine Below.drew ?_ | (refine below_drewN ?_ _) | (refine Below.trans ?_ (Below.mono (by assumption) (by first | omega | (simp; done) | (simp; omega) | (simp at *; omega))))))
  have bP : Blk W0 w.heap.size 31 #[.string s, .int .i64 side, .int .i64 clock, .int .i64 full] := by rw [← hW0]; exact Blk.new _ _ _ rfl
  replace hT := hT.below hB hT.lt
  rw [hW0]
  clear hW0
  refine (check_is s side clock full 0 _ K.out).mono ?_
  rintro e wc1 ⟨rfl, hb⟩
  replace hT := hT.next hb
  replace bP := bP.next hb
  replace hB := hB.trans (hb.mono hB.size)
  clear hb
  have p0 := bP.cell 0
  have p1 := bP.cell 1
  have p2 := bP.cell 2
  have p3 := bP.cell 3
  simp only [List.getElem?_toArray, List.getElem?_cons_zero, List.getElem?_cons_succ] at p0 p1 p2 p3
  have hlt : w.heap.size < wc1.heap.size := bP.lt
  go_wp2_with fail
  obtain ⟨W1, hW1⟩ : ∃ W1, wc1.alloc (.cells #[.string s, .int .i64 side, .int .i64 clock, .int .i64 full] 31) = W1 := ⟨_, rfl⟩
  have bQ : Blk W1 wc1.heap.size 31 #[.string s, .int .i64 side, .int .i64 clock, .int .i64 full] := by rw [← hW1]; exact Blk.new _ _ _ rfl
  replace hT := hT.next (by rw [← hW1]; exact (Below.refl _ _).alloc (Nat.le_refl _) _ : Below wc1.heap.size wc1 W1)
  replace bP := bP.next (by rw [← hW1]; exact (Below.refl _ _).alloc (Nat.le_refl _) _ : Below wc1.heap.size wc1 W1)
  replace hB := hB.trans (((by rw [← hW1]; exact (Below.refl _ _).alloc (Nat.le_refl _) _ : Below wc1.heap.size wc1 W1)).mono hB.size)
  rw [hW1]
  clear hW1 p0 p1 p2 p3
  have hg : w.heap.size ≠ wc1.heap.size := by omega
  have hgw : w.heap.size ≤ wc1.heap.size := by omega
  clear hlt
  generalize wc1.heap.size = g at bQ hg hgw ⊢
  refine (rput_as s t k 46 _ (by decide) Ht.out).mono ?_
  rintro e w2 ⟨rfl, hb⟩
  replace hT := hT.next hb
  replace bP := bP.next hb
  replace bQ := bQ.next hb
  replace hB := hB.trans (hb.mono hB.size)
  clear hb
  have p0 := bP.cell 0
  simp only [List.getElem?_toArray, List.getElem?_cons_zero] at p0
  have q0 := bQ.cell 0
  simp only [List.getElem?_toArray, List.getElem?_cons_zero] at q0
  have f0 := bQ.frozen 0
  go_wp2_with fail
  refine (rkind_is x kd _ Kx.out).mono ?_
  rintro e w3 ⟨rfl, rfl⟩
  clear p0 q0 f0
  have hst : Below w.heap.size w2 (w2.setCell ⟨g, 0, none⟩ (.string t)) := (Below.refl _ _).setCell (p := ⟨g, 0, none⟩) hgw _
  replace hT := hT.below hst hTl
  replace bP := bP.far (p := ⟨g, 0, none⟩) hg (.string t)
  replace bQ := bQ.set_ 0 (.string t)
  replace hB := hB.trans hst
  clear hst
  generalize w2.setCell ⟨g, 0, none⟩ (.string t) = W2 at hT bP bQ hB ⊢
  have bQ' : Blk W2 g 31 #[.string t, .int .i64 side, .int .i64 clock, .int .i64 full] := bQ
  clear bQ
  have q0 := bQ'.cell 0
  have q1 := bQ'.cell 1
  have q2 := bQ'.cell 2
  have q3 := bQ'.cell 3
  simp only [List.getElem?_toArray, List.getElem?_cons_zero, List.getElem?_cons_succ] at q0 q1 q2 q3
  go_wp2_with fail
  refine (check_is t side clock full 0 _ Kt.out).mono ?_
  rintro e w4 ⟨rfl, hb⟩
  replace hT := hT.next hb
  replace hB := hB.trans (hb.mono hB.size)
  clear hb
  go_wp2_with fail
  refine (live3_any _ hT).mono ?_
  rintro e w5 ⟨rfl, hb⟩
  replace hB := hB.trans (hb.mono hB.size)
  go_wp2
  go_ret
  exact ⟨rfl, hB⟩
theorem walk (s : ByteArray) (side clock full n : Int) (w : World) (hT : Tab w) : Calls Tryd.prog 7 #[.agg #[.string s, .int .i64 side, .int .i64 clock, .int .i64 full], .int .i64 n] w (Gives w (.bool true)) := by
  by_cases hs : s.size ≤ 200
  · by_cases hk : (checkN s side clock full : Int) = 0
    · by_cases h0 : n < 0
      · exact below s side clock full n w hT hs hk h0
      · by_cases h1 : 89 < n
        · exact above s side clock full n w hT hs hk (by omega) h1
        · obtain ⟨k, rfl⟩ : ∃ k : Nat, n = k := ⟨n.toNat, by omega⟩
          have hb := parts_board (check_zero hk).1
          have hz := isB_size hb
          have hp : putB s k 46 = putS s k 46 := by
            rw [putB, if_pos ⟨hb, sqI_true (by omega), rfl⟩]
            rfl
          by_cases hg : kindN (bAt s k) = 75
          · exact general s side clock full k w hT k _ rfl (by omega) hs (by omega) rfl _ hk hp hg (fewer_general hk (by omega) hg)
          · exact other s side clock full k w hT k _ rfl (by omega) hs (by omega) rfl _ hk hp _ rfl (by rw [beq_eq_false_iff_ne]; omega) (fewer_other hk (by omega) hg)
    · exact bad s side clock full n w hT _ hs rfl (by rw [bne_iff_ne]; exact hk)
  · exact large s side clock full n w hT (by omega)
end Go.Proofs.YtglnbohogldenaaDoor.fewer
