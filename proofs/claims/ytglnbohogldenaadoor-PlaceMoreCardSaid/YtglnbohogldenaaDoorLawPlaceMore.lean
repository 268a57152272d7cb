/- A position with one piece more than there may be of a kind is not right: the call answers true. -/
import Derived.Test.YtglnbohogldenaaDoorPlaceF
namespace Go.Proofs.YtglnbohogldenaaDoor.more
open Go.RowKit Go.Shelf
open M (S)

theorem rput_as (s t : ByteArray) (n : Int) (c : Nat) (w : World) (hc : c < 256) (h : putB s n c = t) : Calls Tryd.prog 28 #[.string s, .int .i64 n, .int .u8 (c : Int)] w (Gives w (.string t)) := by subst h; exact rput_any s n c w hc
set_option maxRecDepth 100000 in
set_option maxHeartbeats 8000000 in
theorem large (s : ByteArray) (side clock full n : Int) (c : Nat) (w : World) (hT : Tab w) (hs : 200 < s.size) : Calls Tryd.prog 8 #[.agg #[.string s, .int .i64 side, .int .i64 clock, .int .i64 full], .int .i64 n, .int .u8 (c : Int)] w (Gives w (.bool true)) := by
  unfold Gives
  go_enter Tryd.func8, Tryd.ntmps8
  go_wp2_with fail
  obtain ⟨W0, hW0⟩ : ∃ W0, w.alloc (.cells #[.string s, .int .i64 side, .int .i64 clock, .int .i64 full] 31) = W0 := ⟨_, rfl⟩
  have hB : Below w.heap.size w W0 := by rw [← hW0]; exact (by repeat (first | exact Below.refl _ _ | (refine Below.setCell ?_ (by first | omega | (simp; done) | (simp; omega) | (simp at *; omega)) _) | (refine Below.alloc ?_ (by first | omega | (simp; done) | (simp; omega) | (simp at *; omega)) _) | refine Below.drew ?_ | (refine below_drewN ?_ _) | (refine Below.trans ?_ (Below.mono (by assumption) (by first | omega | (simp; done) | (simp; omega) | (simp at *; omega))))))
  have bP : Blk W0 w.heap.size 31 #[.string s, .int .i64 side, .int .i64 clock, .int .i64 full] := by rw [← hW0]; exact Blk.new _ _ _ rfl
  replace hT := hT.below hB hT.lt
  rw [hW0]
  clear hW0
  refine (live3_any _ hT).mono ?_
  rintro e w1 ⟨rfl, hb⟩
  go_wp2
  go_ret
  exact ⟨rfl, hB.trans (hb.mono hB.size)⟩
set_option maxRecDepth 100000 in
set_option maxHeartbeats 8000000 in
theorem bad (s : ByteArray) (side clock full n : Int) (c : Nat) (w : World) (hT : Tab w) (k : Int) (hs : s.size ≤ 200) (K : Hid ((checkN s side clock full : Int) = k)) (hk : (k != 0) = true) : Calls Tryd.prog 8 #[.agg #[.string s, .int .i64 side, .int .i64 clock, .int .i64 full], .int .i64 n, .int .u8 (c : Int)] w (Gives w (.bool true)) := by
  unfold Gives
  go_enter Tryd.func8, Tryd.ntmps8
  go_wp2_with fail
  obtain ⟨W0, hW0⟩ : ∃ W0, w.alloc (.cells #[.string s, .int .i64 side, .int .i64 clock, .int .i64 full] 31) = W0 := ⟨_, rfl⟩
  have hB : Below w.heap.size w W0 := by rw [← hW0]; exact (by repeat (first | exact Below.refl _ _ | (refine Below.setCell ?_ (by first | omega | (simp; done) | (simp; omega) | (simp at *; omega)) _) | (refine Below.alloc ?_ (by first | omega | (simp; done) | (simp; omega) | (simp at *; omega)) _) | refine Below.drew ?_ | (refine below_drewN ?_ _) | (refine Below.trans ?_ (Below.mono (by assumption) (by first | omega | (simp; done) | (simp; omega) | (simp at *; omega))))))
  have bP : Blk W0 w.heap.size 31 #[.string s, .int .i64 side, .int .i64 clock, .int .i64 full] := by rw [← hW0]; exact Blk.new _ _ _ rfl
  replace hT := hT.below hB hT.lt
  rw [hW0]
  clear hW0
  refine (check_is s side clock full k _ K.out).mono ?_
  rintro e wc1 ⟨rfl, hb⟩
  replace hT := hT.next hb
  replace bP := bP.next hb
  replace hB := hB.trans (hb.mono hB.size)
  clear hb
  go_wp2_with fail
  refine (live3_any _ hT).mono ?_
  rintro e w1 ⟨rfl, hb⟩
  go_wp2
  go_ret
  exact ⟨rfl, hB.trans (hb.mono hB.size)⟩
set_option maxRecDepth 100000 in
set_option maxHeartbeats 8000000 in
theorem below (s : ByteArray) (side clock full n : Int) (c : Nat) (w : World) (hT : Tab w) (hs : s.size ≤ 200) (K : Hid ((checkN s side clock full : Int) = 0)) (hn : n < 0) : Calls Tryd.prog 8 #[.agg #[.string s, .int .i64 side, .int .i64 clock, .int .i64 full], .int .i64 n, .int .u8 (c : Int)] w (Gives w (.bool true)) := by
  unfold Gives
  go_enter Tryd.func8, Tryd.ntmps8
  go_wp2_with fail
  obtain ⟨W0, hW0⟩ : ∃ W0, w.alloc (.cells #[.string s, .int .i64 side, .int .i64 clock, .int .i64 full] 31) = W0 := ⟨_, rfl⟩
  have hB : Below w.heap.size w W0 := by rw [← hW0]; exact (by repeat (first | exact Below.refl _ _ | (refine Below.setCell ?_ (by first | omega | (simp; done) | (simp; omega) | (simp at *; omega)) _) | (refine Below.alloc ?_ (by first | omega | (simp; done) | (simp; omega) | (simp at *; omega)) _) | refine Below.drew ?_ | (refine below_drewN ?_ _) | (refine Below.trans ?_ (Below.mono (by assumption) (by first | omega | (simp; done) | (simp; omega) | (simp at *; omega))))))
  have bP : Blk W0 w.heap.size 31 #[.string s, .int .i64 side, .int .i64 clock, .int .i64 full] := by rw [← hW0]; exact Blk.new _ _ _ rfl
  replace hT := hT.below hB hT.lt
  rw [hW0]
  clear hW0
  refine (check_is s side clock full 0 _ K.out).mono ?_
  rintro e wc1 ⟨rfl, hb⟩
  replace hT := hT.next hb
  replace bP := bP.next hb
  replace hB := hB.trans (hb.mono hB.size)
  clear hb
  go_wp2_with fail
  refine (live3_any _ hT).mono ?_
  rintro e w1 ⟨rfl, hb⟩
  go_wp2
  go_ret
  exact ⟨rfl, hB.trans (hb.mono hB.size)⟩
set_option maxRecDepth 100000 in
set_option maxHeartbeats 8000000 in
theorem above (s : ByteArray) (side clock full n : Int) (c : Nat) (w : World) (hT : Tab w) (hs : s.size ≤ 200) (K : Hid ((checkN s side clock full : Int) = 0)) (hn0 : 0 ≤ n) (hn : 89 < n) : Calls Tryd.prog 8 #[.agg #[.string s, .int .i64 side, .int .i64 clock, .int .i64 full], .int .i64 n, .int .u8 (c : Int)] w (Gives w (.bool true)) := by
  unfold Gives
  go_enter Tryd.func8, Tryd.ntmps8
  go_wp2_with fail
  obtain ⟨W0, hW0⟩ : ∃ W0, w.alloc (.cells #[.string s, .int .i64 side, .int .i64 clock, .int .i64 full] 31) = W0 := ⟨_, rfl⟩
  have hB : Below w.heap.size w W0 := by rw [← hW0]; exact (by repeat (first | exact Below.refl _ _ | (refine Below.setCell ?_ (by first | omega | (simp; done) | (simp; omega) | (simp at *; omega)) _) | (refine Below.alloc ?_ (by first | omega | (simp; done) | (simp; omega) | (simp at *; omega)) _) | refine Below.drew ?_ | (refine below_drewN ?_ _) | (refine Below.trans ?_ (Below.mono (by assumption) (by first | omega | (simp; done) | (simp; omega) | (simp at *; omega))))))
  have bP : Blk W0 w.heap.size 31 #[.string s, .int .i64 side, .int .i64 clock, .int .i64 full] := by rw [← hW0]; exact Blk.new _ _ _ rfl
  replace hT := hT.below hB hT.lt
  rw [hW0]
  clear hW0
  refine (check_is s side clock full 0 _ K.out).mono ?_
  rintro e wc1 ⟨rfl, hb⟩
  replace hT := hT.next hb
  replace bP := bP.next hb
  replace hB := hB.trans (hb.mono hB.size)
  clear hb
  go_wp2_with fail
  refine (live3_any _ hT).mono ?_
  rintro e w1 ⟨rfl, hb⟩
  go_wp2
  go_ret
  exact ⟨rfl, hB.trans (hb.mono hB.size)⟩
set_option maxRecDepth 100000 in
set_option maxHeartbeats 8000000 in
theorem noside (s : ByteArray) (side clock full n : Int) (c : Nat) (w : World) (hT : Tab w) (sd : Int) (hs : s.size ≤ 200) (K : Hid ((checkN s side clock full : Int) = 0)) (hn0 : 0 ≤ n) (hn : n ≤ 89) (Sd : Hid (sideN c = sd)) (hsd : sd < 0) : Calls Tryd.prog 8 #[.agg #[.string s, .int .i64 side, .int .i64 clock, .int .i64 full], .int .i64 n, .int .u8 (c : Int)] w (Gives w (.bool true)) := by
  unfold Gives
  go_enter Tryd.func8, Tryd.ntmps8
  go_wp2_with fail
  obtain ⟨W0, hW0⟩ : ∃ W0, w.alloc (.cells #[.string s, .int .i64 side, .int .i64 clock, .int .i64 full] 31) = W0 := ⟨_, rfl⟩
  have hB : Below w.heap.size w W0 := by rw [← hW0]; exact (by repeat (first | exact Below.refl _ _ | (refine Below.setCell ?_ (by first | omega | (simp; done) | (simp; omega) | (simp at *; omega)) _) | (refine Below.alloc ?_ (by first | omega | (simp; done) | (simp; omega) | (simp at *; omega)) _) | refine Below.drew ?_ | (refine below_drewN ?_ _) | (refine Below.trans ?_ (Below.mono (by assumption) (by first | omega | (simp; done) | (simp; omega) | (simp at *; omega))))))
  have bP : Blk W0 w.heap.size 31 #[.string s, .int .i64 side, .int .i64 clock, .int .i64 full] := by rw [← hW0]; exact Blk.new _ _ _ rfl
  replace hT := hT.below hB hT.lt
  rw [hW0]
  clear hW0
  refine (check_is s side clock full 0 _ K.out).mono ?_
  rintro e wc1 ⟨rfl, hb⟩
  replace hT := hT.next hb
  replace bP := bP.next hb
  replace hB := hB.trans (hb.mono hB.size)
  clear hb
  go_wp2_with fail
  refine (rside_is c sd _ Sd.out).mono ?_
  rintro e ws ⟨rfl, rfl⟩
  go_wp2_with fail
  refine (live3_any _ hT).mono ?_
  rintro e w1 ⟨rfl, hb⟩
  go_wp2
  go_ret
  exact ⟨rfl, hB.trans (hb.mono hB.size)⟩
set_option maxRecDepth 100000 in
set_option maxHeartbeats 8000000 in
theorem filled (s : ByteArray) (side clock full n : Int) (c : Nat) (w : World) (hT : Tab w) (k x : Nat) (sd : Int) (hn : n = k) (hk : k < 90) (hs : s.size ≤ 200) (hs90 : 90 ≤ s.size) (hx : bAt s k = x) (K : Hid ((checkN s side clock full : Int) = 0)) (Sd : Hid (sideN c = sd)) (hsd : 0 ≤ sd) (h46 : ((x : Int) != 46) = true) : Calls Tryd.prog 8 #[.agg #[.string s, .int .i64 side, .int .i64 clock, .int .i64 full], .int .i64 n, .int .u8 (c : Int)] w (Gives w (.bool true)) := by
  have hTl := hT.lt
  unfold Gives
  subst hn
  have hks : k < s.size := by omega
  have hbk : s[k].toNat = x := (bAt_eq s k hks).trans hx
  clear hx
  go_enter Tryd.func8, Tryd.ntmps8
  go_wp2_with fail
  obtain ⟨W0, hW0⟩ : ∃ W0, w.alloc (.cells #[.string s, .int .i64 side, .int .i64 clock, .int .i64 full] 31) = W0 := ⟨_, rfl⟩
  have hB : Below w.heap.size w W0 := by rw [← hW0]; exact (by repeat (first | exact Below.refl _ _ | (refine Below.setCell ?_ (by first | omega | (simp; done) | (simp; omega) | (simp at *; omega)) _) | (refine Below.alloc ?_ (by first | omega | (simp; done) | (simp; omega) | (simp at *; omega)) _) | refine Below.drew ?_ | (refine below_drewN ?_ _) | (refine Below.trans ?_ (Below.mono (by assumption) (by first | omega | (simp; done) | (simp; omega) | (simp at *; omega))))))
  have bP : Blk W0 w.heap.size 31 #[.string s, .int .i64 side, .int .i64 clock, .int .i64 full] := by rw [← hW0]; exact Blk.new _ _ _ rfl
  replace hT := hT.below hB hT.lt
  rw [hW0]
  clear hW0
  refine (check_is s side clock full 0 _ K.out).mono ?_
  rintro e wc1 ⟨rfl, hb⟩
  replace hT := hT.next hb
  replace bP := bP.next hb
  replace hB := hB.trans (hb.mono hB.size)
  clear hb
  go_wp2_with fail
  refine (rside_is c sd _ Sd.out).mono ?_
  rintro e ws ⟨rfl, rfl⟩
  have p0 := bP.cell 0
  simp only [List.getElem?_toArray, List.getElem?_cons_zero] at p0
  go_wp2_with fail
  refine (live3_any _ hT).mono ?_
  rintro e w1 ⟨rfl, hb⟩
  go_wp2
  go_ret
  exact ⟨rfl, hB.trans (hb.mono hB.size)⟩
set_option maxRecDepth 100000 in
set_option maxHeartbeats 8000000 in
theorem room (s : ByteArray) (side clock full n : Int) (c : Nat) (w : World) (hT : Tab w) (k x : Nat) (sd : Int) (hn : n = k) (hk : k < 90) (hs : s.size ≤ 200) (hs90 : 90 ≤ s.size) (hx : bAt s k = x) (K : Hid ((checkN s side clock full : Int) = 0)) (Sd : Hid (sideN c = sd)) (hsd : 0 ≤ sd) (m q : Nat) (h46 : ((x : Int) != 46) = false) (Hm : Hid ((findL s c).length = m)) (Hq : Hid (mostN c = q)) (hmq : m < q) : Calls Tryd.prog 8 #[.agg #[.string s, .int .i64 side, .int .i64 clock, .int .i64 full], .int .i64 n, .int .u8 (c : Int)] w (Gives w (.bool true)) := by
  have hTl := hT.lt
  unfold Gives
  subst hn
  have hks : k < s.size := by omega
  have hbk : s[k].toNat = x := (bAt_eq s k hks).trans hx
  clear hx
  go_enter Tryd.func8, Tryd.ntmps8
  go_wp2_with fail
  obtain ⟨W0, hW0⟩ : ∃ W0, w.alloc (.cells #[.string s, .int .i64 side, .int .i64 clock, .int .i64 full] 31) = W0 := ⟨_, rfl⟩
  have hB : Below w.heap.size w W0 := by rw [← hW0]; exact (by repeat (first | exact Below.refl _ _ | (refine Below.setCell ?_ (by first | omega | (simp; done) | (simp; omega) | (simp at *; omega)) _) | (refine Below.alloc ?_ (by first | omega | (simp; done) | (simp; omega) | (simp at *; omega)) _) | refine Below.drew ?_ | (refine below_drewN ?_ _) | (refine Below.trans ?_ (Below.mono (by assumption) (by first | omega | (simp; done) | (simp; omega) | (simp at *; omega))))))
  have bP : Blk W0 w.heap.size 31 #[.string s, .int .i64 side, .int .i64 clock, .int .i64 full] := by rw [← hW0]; exact Blk.new _ _ _ rfl
  replace hT := hT.below hB hT.lt
  rw [hW0]
  clear hW0
  refine (check_is s side clock full 0 _ K.out).mono ?_
  rintro e wc1 ⟨rfl, hb⟩
  replace hT := hT.next hb
  replace bP := bP.next hb
  replace hB := hB.trans (hb.mono hB.size)
  clear hb
  go_wp2_with fail
  refine (rside_is c sd _ Sd.out).mono ?_
  rintro e ws ⟨rfl, rfl⟩
  have p0 := bP.cell 0
  simp only [List.getElem?_toArray, List.getElem?_cons_zero] at p0
  go_wp2_with fail
  refine (rfind_is s c m _ Hm.out).mono ?_
  rintro e wf ⟨Af, kf, rfl, hr, hb⟩
  replace hT := hT.next hb
  replace bP := bP.next hb
  replace hB := hB.trans (hb.mono hB.size)
  clear hb hr p0
  go_wp2_with fail
  refine (most_is c q _ Hq.out).mono ?_
  rintro e wm ⟨rfl, rfl⟩
  go_wp2_with fail
  refine (live3_any _ hT).mono ?_
  rintro e w1 ⟨rfl, hb⟩
  go_wp2
  go_ret
  exact ⟨rfl, hB.trans (hb.mono hB.size)⟩
set_option maxRecDepth 100000 in
set_option maxHeartbeats 8000000 in
theorem fullm (s : ByteArray) (side clock full n : Int) (c : Nat) (w : World) (hT : Tab w) (k x : Nat) (sd : Int) (hn : n = k) (hk : k < 90) (hs : s.size ≤ 200) (hs90 : 90 ≤ s.size) (hx : bAt s k = x) (K : Hid ((checkN s side clock full : Int) = 0)) (Sd : Hid (sideN c = sd)) (hsd : 0 ≤ sd) (m q : Nat) (t : ByteArray) (h46 : ((x : Int) != 46) = false) (hc256 : c < 256) (Hm : Hid ((findL s c).length = m)) (Hq : Hid (mostN c = q)) (hmq : q ≤ m) (Ht : Hid (putB s n c = t)) (Kt : Hid ((checkN t side clock full : Int) = 3)) : Calls Tryd.prog 8 #[.agg #[.string s, .int .i64 side, .int .i64 clock, .int .i64 full], .int .i64 n, .int .u8 (c : Int)] w (Gives w (.bool true)) := by
  have hTl := hT.lt
  unfold Gives
  subst hn
  have hks : k < s.size := by omega
  have hbk : s[k].toNat = x := (bAt_eq s k hks).trans hx
  clear hx
  go_enter Tryd.func8, Tryd.ntmps8
  go_wp2_with fail
  obtain ⟨W0, hW0⟩ : ∃ W0, w.alloc (.cells #[.string s, .int .i64 side, .int .i64 clock, .int .i64 full] 31) = W0 := ⟨_, rfl⟩
  have hB : Below w.heap.size w W0 := by rw [← hW0]; exact (by repeat (first | exact Below.refl _ _ | (refine Below.setCell ?_ (by first | omega | (simp; done) | (simp; omega) | (simp at *; omega)) _) | (refine Below.alloc ?_ (by first | omega | (simp; done) | (simp; omega) | (simp at *; omega)) _) | refine Below.drew ?_ | (refine below_drewN ?_ _) | (refine Below.trans ?_ (Below.mono (by assumption) (by first | omega | (simp; done) | (simp; omega) | (simp at *; omega))))))
  have bP : Blk W0 w.heap.size 31 #[.string s, .int .i64 side, .int .i64 clock, .int .i64 full] := by rw [← hW0]; exact Blk.new _ _ _ rfl
  replace hT := hT.below hB hT.lt
  rw [hW0]
  clear hW0
  refine (check_is s side clock full 0 _ K.out).mono ?_
  rintro e wc1 ⟨rfl, hb⟩
  replace hT := hT.next hb
  replace bP := bP.next hb
  replace hB := hB.trans (hb.mono hB.size)
  clear hb
  go_wp2_with fail
  refine (rside_is c sd _ Sd.out).mono ?_
  rintro e ws ⟨rfl, rfl⟩
  have p0 := bP.cell 0
  simp only [List.getElem?_toArray, List.getElem?_cons_zero] at p0
  go_wp2_with fail
  refine (rfind_is s c m _ Hm.out).mono ?_
  rintro e wf ⟨Af, kf, rfl, hr, hb⟩
  replace hT := hT.next hb
  replace bP := bP.next hb
  replace hB := hB.trans (hb.mono hB.size)
  clear hb hr p0
  go_wp2_with fail
  refine (most_is c q _ Hq.out).mono ?_
  rintro e wm ⟨rfl, rfl⟩
  have p0 := bP.cell 0
  have p1 := bP.cell 1
  have p2 := bP.cell 2
  have p3 := bP.cell 3
  simp only [List.getElem?_toArray, List.getElem?_cons_zero, List.getElem?_cons_succ] at p0 p1 p2 p3
  have hlt : w.heap.size < wf.heap.size := bP.lt
  go_wp2_with fail
  obtain ⟨W1, hW1⟩ : ∃ W1, wf.alloc (.cells #[.string s, .int .i64 side, .int .i64 clock, .int .i64 full] 31) = W1 := ⟨_, rfl⟩
  have bQ : Blk W1 wf.heap.size 31 #[.string s, .int .i64 side, .int .i64 clock, .int .i64 full] := by rw [← hW1]; exact Blk.new _ _ _ rfl
  have hb1 : Below wf.heap.size wf W1 := by rw [← hW1]; exact (Below.refl _ _).alloc (Nat.le_refl _) _
  replace hT := hT.next hb1
  replace bP := bP.next hb1
  replace hB := hB.trans (hb1.mono hB.size)
  rw [hW1]
  clear hW1 hb1 p0 p1 p2 p3
  have hg : w.heap.size ≠ wf.heap.size := by omega
  have hgw : w.heap.size ≤ wf.heap.size := by omega
  clear hlt
  generalize wf.heap.size = g at bQ hg hgw ⊢
  refine (rput_as s t k c _ hc256 Ht.out).mono ?_
  rintro e w2 ⟨rfl, hb⟩
  replace hT := hT.next hb
  replace bP := bP.next hb
  replace bQ := bQ.next hb
  replace hB := hB.trans (hb.mono hB.size)
  clear hb
  have q0 := bQ.cell 0
  have q1 := bQ.cell 1
  have q2 := bQ.cell 2
  have q3 := bQ.cell 3
  simp only [List.getElem?_toArray, List.getElem?_cons_zero, List.getElem?_cons_succ] at q0 q1 q2 q3
  have f0 := bQ.frozen 0
  go_wp2_with fail
  have hst : Below w.heap.size w2 (w2.setCell ⟨g, 0, none⟩ (.string t)) := (Below.refl _ _).setCell (p := ⟨g, 0, none⟩) hgw _
  replace hT := hT.below hst hTl
  replace hB := hB.trans hst
  clear hst q0 q1 q2 q3 f0
  generalize w2.setCell ⟨g, 0, none⟩ (.string t) = W2 at hT hB ⊢
  refine (check_is t side clock full 3 _ Kt.out).mono ?_
  rintro e w4 ⟨rfl, hb⟩
  replace hT := hT.next hb
  replace hB := hB.trans (hb.mono hB.size)
  clear hb
  go_wp2_with fail
  refine (live3_any _ hT).mono ?_
  rintro e w1 ⟨rfl, hb⟩
  go_wp2
  go_ret
  exact ⟨rfl, hB.trans (hb.mono hB.size)⟩
theorem walk (s : ByteArray) (side clock full n : Int) (c : Nat) (w : World) (hT : Tab w) (hc256 : c < 256) : Calls Tryd.prog 8 #[.agg #[.string s, .int .i64 side, .int .i64 clock, .int .i64 full], .int .i64 n, .int .u8 (c : Int)] w (Gives w (.bool true)) := by
  by_cases hs : s.size ≤ 200
  · by_cases hk : (checkN s side clock full : Int) = 0
    · by_cases h0 : n < 0
      · exact below s side clock full n c w hT hs hk h0
      · by_cases h1 : 89 < n
        · exact above s side clock full n c w hT hs hk (by omega) h1
        · by_cases hd : sideN c < 0
          · exact noside s side clock full n c w hT _ hs hk (by omega) (by omega) rfl hd
          · obtain ⟨k, rfl⟩ : ∃ k : Nat, n = k := ⟨n.toNat, by omega⟩
            have hb := parts_board (check_zero hk).1
            have hz := isB_size hb
            by_cases h46 : bAt s k = 46
            · by_cases hm : (findL s c).length < mostN c
              · exact room s side clock full k c w hT k _ _ rfl (by omega) hs (by omega) rfl hk rfl (by omega) _ _ (by rw [h46]; rfl) rfl rfl hm
              · have hp : putB s k c = putS s k c := by
                  rw [putB, if_pos ⟨hb, sqI_true (by omega), side_fill (by omega)⟩]
                  rfl
                exact fullm s side clock full k c w hT k _ _ rfl (by omega) hs (by omega) rfl hk rfl (by omega) _ _ _ (by rw [h46]; rfl) hc256 rfl rfl (by omega) hp (more_one hk (by omega) h46 (by omega) hc256 (by omega))
            · exact filled s side clock full k c w hT k _ _ rfl (by omega) hs (by omega) rfl hk rfl (by omega) (by rw [bne_iff_ne]; omega)
    · exact bad s side clock full n c w hT _ hs rfl (by rw [bne_iff_ne]; exact hk)
  · exact large s side clock full n c w hT (by omega)
end Go.Proofs.YtglnbohogldenaaDoor.more
