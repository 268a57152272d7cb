/- Any position's text, or what is wrong with it: the call answers true. -/
import Derived.Test.YtcnaejmhifedfaaGreatDoorFenL
namespace Go.Proofs.YtcnaejmhifedfaaGreatDoor.writes
open Go.RowKit Go.Shelf
open M (S)

set_option maxHeartbeats 4000000 in
theorem large (s : ByteArray) (side clock full : Int) (w : World) (hE : Env w) (hs : 200 < s.size) : Calls Tryz.prog 4 #[.agg #[.string s, .int .i64 side, .int .i64 clock, .int .i64 full]] w (Gives w (.bool true)) := by
  unfold Gives
  have hd : decide (200 < (s.size : Int)) = true := by simp; omega
  have hA : Below w.heap.size w (w.alloc (.cells #[.string s, .int .i64 side, .int .i64 clock, .int .i64 full] 24)) := (by repeat (first | exact Below.refl _ _ | (refine Below.setCell ?_ (by first | omega | (simp; done) | (simp; omega) | (simp at *; omega)) _) | (refine Below.alloc ?_ (by first | omega | (simp; done) | (simp; omega) | (simp at *; omega)) _) | refine Below.drew ?_ | (refine below_drewN ?_ _) | (refine Below.trans ?_ (Below.mono (by assumption) (by first | omega | (simp; done) | (simp; omega) | (simp at *; omega))))))
  have HA := Lib.hid hA
  clear hA
  go_enter Tryz.func4, Tryz.ntmps4
  go_wp2_with fail
  refine (live4_any _ (hE.next HA.out)).mono ?_
  rintro e w1 ⟨rfl, hb⟩
  go_wp2
  go_ret
  exact ⟨rfl, HA.out.trans (hb.mono HA.out.size)⟩
theorem rprint_is (s : ByteArray) (side clock full : Int) (v : Value) (w : World) (h : printV s side clock full = v) : Calls Tryz.prog 14 #[.agg #[.string s, .int .i64 side, .int .i64 clock, .int .i64 full]] w (Gives w v) := by subst h; exact rprint_any s side clock full w
set_option maxRecDepth 100000 in
set_option maxHeartbeats 8000000 in
theorem at_ (s : ByteArray) (side clock full : Int) (T : ByteArray) (k : Int) (w : World) (hE : Env w) (hs : s.size ≤ 200) (P : Hid (printV s side clock full = .tuple #[.string T, .int .i64 k])) : Calls Tryz.prog 4 #[.agg #[.string s, .int .i64 side, .int .i64 clock, .int .i64 full]] w (Gives w (.bool true)) := by
  unfold Gives
  have hd : decide (200 < (s.size : Int)) = false := by simp; omega
  have hA : Below w.heap.size w (w.alloc (.cells #[.string s, .int .i64 side, .int .i64 clock, .int .i64 full] 24)) := (by repeat (first | exact Below.refl _ _ | (refine Below.setCell ?_ (by first | omega | (simp; done) | (simp; omega) | (simp at *; omega)) _) | (refine Below.alloc ?_ (by first | omega | (simp; done) | (simp; omega) | (simp at *; omega)) _) | refine Below.drew ?_ | (refine below_drewN ?_ _) | (refine Below.trans ?_ (Below.mono (by assumption) (by first | omega | (simp; done) | (simp; omega) | (simp at *; omega))))))
  have HA := Lib.hid hA
  clear hA
  go_enter Tryz.func4, Tryz.ntmps4
  go_wp2_with fail
  refine (print_is s side clock full _ _ (hE.next HA.out) P.out).mono ?_
  rintro e w1 ⟨rfl, hb⟩
  have bP := (Blk.new w 24 #[.string s, .int .i64 side, .int .i64 clock, .int .i64 full] rfl).next hb
  have hB := HA.out.trans (hb.mono HA.out.size)
  replace hE := (hE.next HA.out).next hb
  clear hb
  obtain ⟨p0, p1, p2, p3⟩ := pos_cells bP
  go_wp2_with fail
  refine (rprint_is s side clock full _ _ P.out).mono ?_
  clear p0 p1 p2 p3
  rintro e w2 ⟨rfl, hb⟩
  replace bP := bP.next hb
  replace hB := hB.trans (hb.mono hB.size)
  replace hE := hE.next hb
  clear hb
  go_wp2_with fail
  refine (live4_any _ hE).mono ?_
  rintro e w9 ⟨rfl, hb⟩
  go_wp2
  go_ret
  exact ⟨rfl, hB.trans (hb.mono hB.size)⟩
theorem rprint_form (s : ByteArray) (side clock full : Int) : ∃ (T : ByteArray) (k : Int), printV s side clock full = .tuple #[.string T, .int .i64 k] := by
  unfold printV
  split
  · exact ⟨_, _, rfl⟩
  · exact ⟨_, _, rfl⟩
theorem small (s : ByteArray) (side clock full : Int) (w : World) (hE : Env w) (hs : s.size ≤ 200) : Calls Tryz.prog 4 #[.agg #[.string s, .int .i64 side, .int .i64 clock, .int .i64 full]] w (Gives w (.bool true)) := by
  obtain ⟨T, k, h⟩ := rprint_form s side clock full
  exact at_ s side clock full T k w hE hs h
theorem walk (s : ByteArray) (side clock full : Int) (w : World) (hE : Env w) : Calls Tryz.prog 4 #[.agg #[.string s, .int .i64 side, .int .i64 clock, .int .i64 full]] w (Gives w (.bool true)) := by
  by_cases hs : s.size ≤ 200
  · exact small s side clock full w hE hs
  · exact large s side clock full w hE (by omega)
end Go.Proofs.YtcnaejmhifedfaaGreatDoor.writes
