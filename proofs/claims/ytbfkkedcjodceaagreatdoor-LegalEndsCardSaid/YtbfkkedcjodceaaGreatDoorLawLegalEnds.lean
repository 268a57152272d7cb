/- There is an end just if there is no move; it is Mate just if the general is attacked: the call answers true. -/
import Derived.Test.YtbfkkedcjodceaaGreatDoorLive8M
namespace Go.Proofs.YtbfkkedcjodceaaGreatDoor.lends
open Go.RowKit Go.Shelf
open M (S)

set_option maxRecDepth 100000 in
set_option maxHeartbeats 8000000 in
theorem large (s : ByteArray) (side clock full : Int)  (w : World) (hT : Tab w) (hs : 200 < s.size) : Calls Tryz.prog 7 #[.agg #[.string s, .int .i64 side, .int .i64 clock, .int .i64 full]] w (Gives w (.bool true)) := by
  unfold Gives
  have hd : decide (200 < (s.size : Int)) = true := by simp; omega
  clear hs
  go_enter Tryz.func7, Tryz.ntmps7
  go_wp2_with fail
  obtain ⟨W0, hW0⟩ : ∃ W0, w.alloc (.cells #[.string s, .int .i64 side, .int .i64 clock, .int .i64 full] 23) = W0 := ⟨_, rfl⟩
  have hB : Below w.heap.size w W0 := by rw [← hW0]; exact (by repeat (first | exact Below.refl _ _ | (refine Below.setCell ?_ (by first | omega | (simp; done) | (simp; omega) | (simp at *; omega)) _) | (refine Below.alloc ?_ (by first | omega | (simp; done) | (simp; omega) | (simp at *; omega)) _) | refine Below.drew ?_ | (refine below_drewN ?_ _) | (refine Below.trans ?_ (Below.mono (by assumption) (by first | omega | (simp; done) | (simp; omega) | (simp at *; omega))))))
  have bP : Blk W0 w.heap.size 23 #[.string s, .int .i64 side, .int .i64 clock, .int .i64 full] := by rw [← hW0]; exact Blk.new _ _ _ rfl
  replace hT := hT.below hB hT.lt
  rw [hW0]
  clear hW0
  refine (live8_any _ hT).mono ?_
  rintro e w9 ⟨rfl, hb⟩
  go_wp2
  go_ret
  exact ⟨rfl, hB.trans (hb.mono hB.size)⟩
set_option maxRecDepth 100000 in
set_option maxHeartbeats 8000000 in
theorem bad (s : ByteArray) (side clock full : Int)  (w : World) (hT : Tab w) (k : Int) (hs : s.size ≤ 200) (hk : wellN s side clock full = k) (h0 : (k != 0) = true) : Calls Tryz.prog 7 #[.agg #[.string s, .int .i64 side, .int .i64 clock, .int .i64 full]] w (Gives w (.bool true)) := by
  unfold Gives
  have hd : decide (200 < (s.size : Int)) = false := by simp; omega
  have he : endV s side clock full = 0 := by
    unfold endV
    rw [hk, if_neg (by rw [bne_iff_ne] at h0; exact h0)]
  have K := Lib.hid hk
  have HE := Lib.hid he
  clear hs hk he
  go_enter Tryz.func7, Tryz.ntmps7
  go_wp2_with fail
  obtain ⟨W0, hW0⟩ : ∃ W0, w.alloc (.cells #[.string s, .int .i64 side, .int .i64 clock, .int .i64 full] 23) = W0 := ⟨_, rfl⟩
  have hB : Below w.heap.size w W0 := by rw [← hW0]; exact (by repeat (first | exact Below.refl _ _ | (refine Below.setCell ?_ (by first | omega | (simp; done) | (simp; omega) | (simp at *; omega)) _) | (refine Below.alloc ?_ (by first | omega | (simp; done) | (simp; omega) | (simp at *; omega)) _) | refine Below.drew ?_ | (refine below_drewN ?_ _) | (refine Below.trans ?_ (Below.mono (by assumption) (by first | omega | (simp; done) | (simp; omega) | (simp at *; omega))))))
  have bP : Blk W0 w.heap.size 23 #[.string s, .int .i64 side, .int .i64 clock, .int .i64 full] := by rw [← hW0]; exact Blk.new _ _ _ rfl
  replace hT := hT.below hB hT.lt
  rw [hW0]
  clear hW0
  refine (end_is s side clock full 0 _ hT HE.out).mono ?_
  rintro e w1 ⟨rfl, hb⟩
  replace hT := hT.next hb
  replace bP := bP.next hb
  replace hB := hB.trans (hb.mono hB.size)
  clear hb
  obtain ⟨p0, p1, p2, p3⟩ := ppos_cells bP
  go_wp2_with fail
  refine (well_is s side clock full k _ hT K.out).mono ?_
  rintro e w2 ⟨rfl, hb⟩
  replace hT := hT.next hb
  replace bP := bP.next hb
  replace hB := hB.trans (hb.mono hB.size)
  clear hb
  go_wp2_with fail
  refine (live8_any _ hT).mono ?_
  rintro e w9 ⟨rfl, hb⟩
  go_wp2
  go_ret
  exact ⟨rfl, hB.trans (hb.mono hB.size)⟩
set_option maxRecDepth 100000 in
set_option maxHeartbeats 8000000 in
theorem yes (s : ByteArray) (side clock full : Int)  (w : World) (hT : Tab w) (n : Nat) (i : Bool) (hs : s.size ≤ 200) (hk : wellN s side clock full = 0) (hn : (legalV s side clock full).length = n) (h0 : 0 < n) (hi : inB s side = i) : Calls Tryz.prog 7 #[.agg #[.string s, .int .i64 side, .int .i64 clock, .int .i64 full]] w (Gives w (.bool true)) := by
  unfold Gives
  have hd : decide (200 < (s.size : Int)) = false := by simp; omega
  have he : endV s side clock full = 0 := by
    unfold endV
    rw [if_pos hk, has_legal _ _ _ _ hk, hn, if_pos (by rw [bne_iff_ne]; omega)]
  have K := Lib.hid hk
  have HE := Lib.hid he
  have HN := Lib.hid hn
  have HI := Lib.hid hi
  clear hs hk he hn hi
  go_enter Tryz.func7, Tryz.ntmps7
  go_wp2_with fail
  obtain ⟨W0, hW0⟩ : ∃ W0, w.alloc (.cells #[.string s, .int .i64 side, .int .i64 clock, .int .i64 full] 23) = W0 := ⟨_, rfl⟩
  have hB : Below w.heap.size w W0 := by rw [← hW0]; exact (by repeat (first | exact Below.refl _ _ | (refine Below.setCell ?_ (by first | omega | (simp; done) | (simp; omega) | (simp at *; omega)) _) | (refine Below.alloc ?_ (by first | omega | (simp; done) | (simp; omega) | (simp at *; omega)) _) | refine Below.drew ?_ | (refine below_drewN ?_ _) | (refine Below.trans ?_ (Below.mono (by assumption) (by first | omega | (simp; done) | (simp; omega) | (simp at *; omega))))))
  have bP : Blk W0 w.heap.size 23 #[.string s, .int .i64 side, .int .i64 clock, .int .i64 full] := by rw [← hW0]; exact Blk.new _ _ _ rfl
  replace hT := hT.below hB hT.lt
  rw [hW0]
  clear hW0
  refine (end_is s side clock full 0 _ hT HE.out).mono ?_
  rintro e w1 ⟨rfl, hb⟩
  replace hT := hT.next hb
  replace bP := bP.next hb
  replace hB := hB.trans (hb.mono hB.size)
  clear hb
  obtain ⟨p0, p1, p2, p3⟩ := ppos_cells bP
  go_wp2_with fail
  refine (well_is s side clock full 0 _ hT K.out).mono ?_
  rintro e w2 ⟨rfl, hb⟩
  replace hT := hT.next hb
  replace bP := bP.next hb
  replace hB := hB.trans (hb.mono hB.size)
  clear hb
  clear p0 p1 p2 p3
  obtain ⟨p0, p1, p2, p3⟩ := ppos_cells bP
  go_wp2_with fail
  refine (lmoves_own s side clock full _ n _ hT rfl HN.out).mono ?_
  rintro e w3 ⟨v, rfl, ho, hb⟩
  obtain ⟨A1, k1, rfl⟩ := owns_slice ho
  clear ho
  replace hT := hT.next hb
  replace bP := bP.next hb
  replace hB := hB.trans (hb.mono hB.size)
  clear hb
  clear p0 p1 p2 p3
  obtain ⟨p0, p1, p2, p3⟩ := ppos_cells bP
  go_wp2_with fail
  refine (in_is s side i _ hT HI.out).mono ?_
  rintro e w4 ⟨rfl, hb⟩
  replace hT := hT.next hb
  replace bP := bP.next hb
  replace hB := hB.trans (hb.mono hB.size)
  clear hb
  clear p0 p1 p2 p3
  go_wp2_with fail
  refine (live8_any _ hT).mono ?_
  rintro e w9 ⟨rfl, hb⟩
  go_wp2
  go_ret
  exact ⟨rfl, hB.trans (hb.mono hB.size)⟩
set_option maxRecDepth 100000 in
set_option maxHeartbeats 8000000 in
theorem mate (s : ByteArray) (side clock full : Int)  (w : World) (hT : Tab w) (hs : s.size ≤ 200) (hk : wellN s side clock full = 0) (hn : (legalV s side clock full).length = 0) (hi : inB s side = true) : Calls Tryz.prog 7 #[.agg #[.string s, .int .i64 side, .int .i64 clock, .int .i64 full]] w (Gives w (.bool true)) := by
  unfold Gives
  have hd : decide (200 < (s.size : Int)) = false := by simp; omega
  have he : endV s side clock full = 1 := by
    unfold endV
    rw [if_pos hk, has_legal _ _ _ _ hk, hn, hi]
    rfl
  have K := Lib.hid hk
  have HE := Lib.hid he
  have HN := Lib.hid hn
  have HI := Lib.hid hi
  clear hs hk he hn hi
  go_enter Tryz.func7, Tryz.ntmps7
  go_wp2_with fail
  obtain ⟨W0, hW0⟩ : ∃ W0, w.alloc (.cells #[.string s, .int .i64 side, .int .i64 clock, .int .i64 full] 23) = W0 := ⟨_, rfl⟩
  have hB : Below w.heap.size w W0 := by rw [← hW0]; exact (by repeat (first | exact Below.refl _ _ | (refine Below.setCell ?_ (by first | omega | (simp; done) | (simp; omega) | (simp at *; omega)) _) | (refine Below.alloc ?_ (by first | omega | (simp; done) | (simp; omega) | (simp at *; omega)) _) | refine Below.drew ?_ | (refine below_drewN ?_ _) | (refine Below.trans ?_ (Below.mono (by assumption) (by first | omega | (simp; done) | (simp; omega) | (simp at *; omega))))))
  have bP : Blk W0 w.heap.size 23 #[.string s, .int .i64 side, .int .i64 clock, .int .i64 full] := by rw [← hW0]; exact Blk.new _ _ _ rfl
  replace hT := hT.below hB hT.lt
  rw [hW0]
  clear hW0
  refine (end_is s side clock full 1 _ hT HE.out).mono ?_
  rintro e w1 ⟨rfl, hb⟩
  replace hT := hT.next hb
  replace bP := bP.next hb
  replace hB := hB.trans (hb.mono hB.size)
  clear hb
  obtain ⟨p0, p1, p2, p3⟩ := ppos_cells bP
  go_wp2_with fail
  refine (well_is s side clock full 0 _ hT K.out).mono ?_
  rintro e w2 ⟨rfl, hb⟩
  replace hT := hT.next hb
  replace bP := bP.next hb
  replace hB := hB.trans (hb.mono hB.size)
  clear hb
  clear p0 p1 p2 p3
  obtain ⟨p0, p1, p2, p3⟩ := ppos_cells bP
  go_wp2_with fail
  refine (lmoves_own s side clock full _ 0 _ hT rfl HN.out).mono ?_
  rintro e w3 ⟨v, rfl, ho, hb⟩
  obtain ⟨A1, k1, rfl⟩ := owns_slice ho
  clear ho
  replace hT := hT.next hb
  replace bP := bP.next hb
  replace hB := hB.trans (hb.mono hB.size)
  clear hb
  clear p0 p1 p2 p3
  obtain ⟨p0, p1, p2, p3⟩ := ppos_cells bP
  go_wp2_with fail
  refine (in_is s side true _ hT HI.out).mono ?_
  rintro e w4 ⟨rfl, hb⟩
  replace hT := hT.next hb
  replace bP := bP.next hb
  replace hB := hB.trans (hb.mono hB.size)
  clear hb
  clear p0 p1 p2 p3
  go_wp2_with fail
  refine (live8_any _ hT).mono ?_
  rintro e w9 ⟨rfl, hb⟩
  go_wp2
  go_ret
  exact ⟨rfl, hB.trans (hb.mono hB.size)⟩
set_option maxRecDepth 100000 in
set_option maxHeartbeats 8000000 in
theorem stale (s : ByteArray) (side clock full : Int)  (w : World) (hT : Tab w) (hs : s.size ≤ 200) (hk : wellN s side clock full = 0) (hn : (legalV s side clock full).length = 0) (hi : inB s side = false) : Calls Tryz.prog 7 #[.agg #[.string s, .int .i64 side, .int .i64 clock, .int .i64 full]] w (Gives w (.bool true)) := by
  unfold Gives
  have hd : decide (200 < (s.size : Int)) = false := by simp; omega
  have he : endV s side clock full = 2 := by
    unfold endV
    rw [if_pos hk, has_legal _ _ _ _ hk, hn, hi]
    rfl
  have K := Lib.hid hk
  have HE := Lib.hid he
  have HN := Lib.hid hn
  have HI := Lib.hid hi
  clear hs hk he hn hi
  go_enter Tryz.func7, Tryz.ntmps7
  go_wp2_with fail
  obtain ⟨W0, hW0⟩ : ∃ W0, w.alloc (.cells #[.string s, .int .i64 side, .int .i64 clock, .int .i64 full] 23) = W0 := ⟨_, rfl⟩
  have hB : Below w.heap.size w W0 := by rw [← hW0]; exact (by repeat (first | exact Below.refl _ _ | (refine Below.setCell ?_ (by first | omega | (simp; done) | (simp; omega) | (simp at *; omega)) _) | (refine Below.alloc ?_ (by first | omega | (simp; done) | (simp; omega) | (simp at *; omega)) _) | refine Below.drew ?_ | (refine below_drewN ?_ _) | (refine Below.trans ?_ (Below.mono (by assumption) (by first | omega | (simp; done) | (simp; omega) | (simp at *; omega))))))
  have bP : Blk W0 w.heap.size 23 #[.string s, .int .i64 side, .int .i64 clock, .int .i64 full] := by rw [← hW0]; exact Blk.new _ _ _ rfl
  replace hT := hT.below hB hT.lt
  rw [hW0]
  clear hW0
  refine (end_is s side clock full 2 _ hT HE.out).mono ?_
  rintro e w1 ⟨rfl, hb⟩
  replace hT := hT.next hb
  replace bP := bP.next hb
  replace hB := hB.trans (hb.mono hB.size)
  clear hb
  obtain ⟨p0, p1, p2, p3⟩ := ppos_cells bP
  go_wp2_with fail
  refine (well_is s side clock full 0 _ hT K.out).mono ?_
  rintro e w2 ⟨rfl, hb⟩
  replace hT := hT.next hb
  replace bP := bP.next hb
  replace hB := hB.trans (hb.mono hB.size)
  clear hb
  clear p0 p1 p2 p3
  obtain ⟨p0, p1, p2, p3⟩ := ppos_cells bP
  go_wp2_with fail
  refine (lmoves_own s side clock full _ 0 _ hT rfl HN.out).mono ?_
  rintro e w3 ⟨v, rfl, ho, hb⟩
  obtain ⟨A1, k1, rfl⟩ := owns_slice ho
  clear ho
  replace hT := hT.next hb
  replace bP := bP.next hb
  replace hB := hB.trans (hb.mono hB.size)
  clear hb
  clear p0 p1 p2 p3
  obtain ⟨p0, p1, p2, p3⟩ := ppos_cells bP
  go_wp2_with fail
  refine (in_is s side false _ hT HI.out).mono ?_
  rintro e w4 ⟨rfl, hb⟩
  replace hT := hT.next hb
  replace bP := bP.next hb
  replace hB := hB.trans (hb.mono hB.size)
  clear hb
  clear p0 p1 p2 p3
  go_wp2_with fail
  refine (live8_any _ hT).mono ?_
  rintro e w9 ⟨rfl, hb⟩
  go_wp2
  go_ret
  exact ⟨rfl, hB.trans (hb.mono hB.size)⟩
theorem walk (s : ByteArray) (side clock full : Int) (w : World) (hT : Tab w) : Calls Tryz.prog 7 #[.agg #[.string s, .int .i64 side, .int .i64 clock, .int .i64 full]] w (Gives w (.bool true)) := by
  by_cases hs : s.size ≤ 200
  · by_cases hk : wellN s side clock full = 0
    · rcases Nat.eq_zero_or_pos (legalV s side clock full).length with h0 | h0
      · cases hi : inB s side
        · exact stale s side clock full w hT hs hk h0 hi
        · exact mate s side clock full w hT hs hk h0 hi
      · exact yes s side clock full w hT _ _ hs hk rfl h0 rfl
    · exact bad s side clock full w hT _ hs rfl (by rw [bne_iff_ne]; exact hk)
  · exact large s side clock full w hT (by omega)
end Go.Proofs.YtbfkkedcjodceaaGreatDoor.lends
