/- What is printed is read: the call answers true. -/
import Derived.Test.YtcnaejmhifedfaaGreatDoorFenL
import Derived.Test.YtcnaejmhifedfaaGreatDoorFenG
namespace Go.Proofs.YtcnaejmhifedfaaGreatDoor.back
open Go.RowKit Go.Shelf
open M (S)

set_option maxHeartbeats 4000000 in
theorem large (s : ByteArray) (side clock full : Int) (w : World) (hE : Env w) (hs : 200 < s.size) : Calls Tryz.prog 5 #[.agg #[.string s, .int .i64 side, .int .i64 clock, .int .i64 full]] w (Gives w (.bool true)) := by
  unfold Gives
  have hd : decide (200 < (s.size : Int)) = true := by simp; omega
  have hA : Below w.heap.size w (w.alloc (.cells #[.string s, .int .i64 side, .int .i64 clock, .int .i64 full] 24)) := (by repeat (first | exact Below.refl _ _ | (refine Below.setCell ?_ (by first | omega | (simp; done) | (simp; omega) | (simp at *; omega)) _) | (refine Below.alloc ?_ (by first | omega | (simp; done) | (simp; omega) | (simp at *; omega)) _) | refine Below.drew ?_ | (refine below_drewN ?_ _) | (refine Below.trans ?_ (Below.mono (by assumption) (by first | omega | (simp; done) | (simp; omega) | (simp at *; omega))))))
  have HA := Lib.hid hA
  clear hA
  go_enter Tryz.func5, Tryz.ntmps5
  go_wp2_with fail
  refine (live4_any _ (hE.next HA.out)).mono ?_
  rintro e w1 ⟨rfl, hb⟩
  go_wp2
  go_ret
  exact ⟨rfl, HA.out.trans (hb.mono HA.out.size)⟩
set_option maxRecDepth 100000 in
set_option maxHeartbeats 8000000 in
theorem bad (s : ByteArray) (side clock full k : Int) (w : World) (hE : Env w) (hs : s.size ≤ 200) (K : Hid ((checkN s side clock full : Int) = k)) (hk : (k != 0) = true) : Calls Tryz.prog 5 #[.agg #[.string s, .int .i64 side, .int .i64 clock, .int .i64 full]] w (Gives w (.bool true)) := by
  unfold Gives
  have hd : decide (200 < (s.size : Int)) = false := by simp; omega
  have hA : Below w.heap.size w (w.alloc (.cells #[.string s, .int .i64 side, .int .i64 clock, .int .i64 full] 24)) := (by repeat (first | exact Below.refl _ _ | (refine Below.setCell ?_ (by first | omega | (simp; done) | (simp; omega) | (simp at *; omega)) _) | (refine Below.alloc ?_ (by first | omega | (simp; done) | (simp; omega) | (simp at *; omega)) _) | refine Below.drew ?_ | (refine below_drewN ?_ _) | (refine Below.trans ?_ (Below.mono (by assumption) (by first | omega | (simp; done) | (simp; omega) | (simp at *; omega))))))
  have HA := Lib.hid hA
  clear hA
  have P : Hid (printV s side clock full = .tuple #[.string ⟨#[]⟩, .int .i64 k]) := by
    show _ = _
    rw [printV, if_neg (by rw [K.out]; simpa using hk), K.out]
  go_enter Tryz.func5, Tryz.ntmps5
  go_wp2_with fail
  refine (print_is s side clock full _ _ (hE.next HA.out) P.out).mono ?_
  rintro e w1 ⟨rfl, hb⟩
  have bP := (Blk.new w 24 #[.string s, .int .i64 side, .int .i64 clock, .int .i64 full] rfl).next hb
  have hB := HA.out.trans (hb.mono HA.out.size)
  replace hE := (hE.next HA.out).next hb
  clear hb
  obtain ⟨p0, p1, p2, p3⟩ := pos_cells bP
  go_wp2_with fail
  refine (rcheck_is s side clock full k _ K.out).mono ?_
  clear p0 p1 p2 p3
  rintro e w2 ⟨rfl, hb⟩
  replace bP := bP.next hb
  replace hB := hB.trans (hb.mono hB.size)
  replace hE := hE.next hb
  clear hb
  go_wp2_with fail
  refine (live4_any _ hE).mono ?_
  rintro e w9 ⟨rfl, hb⟩
  go_wp2
  go_ret
  exact ⟨rfl, hB.trans (hb.mono hB.size)⟩
set_option maxRecDepth 100000 in
set_option maxHeartbeats 8000000 in
theorem good (s : ByteArray) (side clock full : Int) (w : World) (hE : Env w) (hs : s.size ≤ 200) (h0 : (checkN s side clock full : Int) = 0) (L : List UInt8) (hL : F.printL (posP s side clock full) = L) (hV : parseV L = .tuple #[.agg #[.string s, .int .i64 side, .int .i64 clock, .int .i64 full], .int .i64 0]) (hl : L.length ≤ 1000) : Calls Tryz.prog 5 #[.agg #[.string s, .int .i64 side, .int .i64 clock, .int .i64 full]] w (Gives w (.bool true)) := by
  unfold Gives
  have hd : decide (200 < (s.size : Int)) = false := by simp; omega
  have hA : Below w.heap.size w (w.alloc (.cells #[.string s, .int .i64 side, .int .i64 clock, .int .i64 full] 24)) := (by repeat (first | exact Below.refl _ _ | (refine Below.setCell ?_ (by first | omega | (simp; done) | (simp; omega) | (simp at *; omega)) _) | (refine Below.alloc ?_ (by first | omega | (simp; done) | (simp; omega) | (simp at *; omega)) _) | refine Below.drew ?_ | (refine below_drewN ?_ _) | (refine Below.trans ?_ (Below.mono (by assumption) (by first | omega | (simp; done) | (simp; omega) | (simp at *; omega))))))
  have HA := Lib.hid hA
  clear hA
  have P : Hid (printV s side clock full = .tuple #[.string (bs L), .int .i64 0]) := by
    show _ = _
    rw [printV, if_pos h0, hL]
  have V := Lib.hid hV
  clear h0 hL hV
  go_enter Tryz.func5, Tryz.ntmps5
  go_wp2_with fail
  refine (print_is s side clock full _ _ (hE.next HA.out) P.out).mono ?_
  rintro e w1 ⟨rfl, hb⟩
  have bP := (Blk.new w 24 #[.string s, .int .i64 side, .int .i64 clock, .int .i64 full] rfl).next hb
  have hB := HA.out.trans (hb.mono HA.out.size)
  replace hE := (hE.next HA.out).next hb
  clear hb
  obtain ⟨p0, p1, p2, p3⟩ := pos_cells bP
  go_wp2_with fail
  refine (parse_is L _ _ hE (by omega) V.out).mono ?_
  clear p0 p1 p2 p3
  rintro e w2 ⟨rfl, hb⟩
  replace bP := bP.next hb
  replace hB := hB.trans (hb.mono hB.size)
  replace hE := hE.next hb
  clear hb
  obtain ⟨p0, p1, p2, p3⟩ := pos_cells bP
  have hlt := bP.lt
  have hA : Below w2.heap.size w2 (w2.alloc (.cells #[.string s, .int .i64 side, .int .i64 clock, .int .i64 full] 24)) := (by repeat (first | exact Below.refl _ _ | (refine Below.setCell ?_ (by first | omega | (simp; done) | (simp; omega) | (simp at *; omega)) _) | (refine Below.alloc ?_ (by first | omega | (simp; done) | (simp; omega) | (simp at *; omega)) _) | refine Below.drew ?_ | (refine below_drewN ?_ _) | (refine Below.trans ?_ (Below.mono (by assumption) (by first | omega | (simp; done) | (simp; omega) | (simp at *; omega))))))
  replace hB := hB.trans (hA.mono hB.size)
  replace hE := hE.next hA
  clear hA
  go_wp2_with fail
  refine (live4_any _ hE).mono ?_
  rintro e w9 ⟨rfl, hb⟩
  go_wp2
  go_ret
  exact ⟨rfl, hB.trans (hb.mono hB.size)⟩
theorem small (s : ByteArray) (side clock full : Int) (w : World) (hE : Env w) (hs : s.size ≤ 200) : Calls Tryz.prog 5 #[.agg #[.string s, .int .i64 side, .int .i64 clock, .int .i64 full]] w (Gives w (.bool true)) := by
  by_cases h0 : (checkN s side clock full : Int) = 0
  · exact good s side clock full w hE hs h0 _ rfl (goodV h0) (print_len s side clock full h0)
  · exact bad s side clock full _ w hE hs rfl (by rw [bne_iff_ne]; exact h0)
theorem walk (s : ByteArray) (side clock full : Int) (w : World) (hE : Env w) : Calls Tryz.prog 5 #[.agg #[.string s, .int .i64 side, .int .i64 clock, .int .i64 full]] w (Gives w (.bool true)) := by
  by_cases hs : s.size ≤ 200
  · exact small s side clock full w hE hs
  · exact large s side clock full w hE (by omega)
end Go.Proofs.YtcnaejmhifedfaaGreatDoor.back
