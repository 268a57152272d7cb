/- Any byte's side and kind; any square's file and rank, and back: the call answers true. -/
import Derived.Test.YtdfjmchkpoobdabDoorLive2
namespace Go.Proofs.YtdfjmchkpoobdabDoor.words
open Go.RowKit Go.Shelf
open M (S)

theorem back_eq {n : Int} (h : 0 ≤ n ∧ n < 90) : squareI (fileI n) (rankI n) = n := by
  rw [fileI, if_pos h, rankI, if_pos h, squareI, if_pos (by omega)]
  omega
set_option maxRecDepth 100000 in
set_option maxHeartbeats 4000000 in
theorem inside (c : Nat) (n f r : Int) (w : World) (hT : Tab w) (hn : 0 ≤ n ∧ n < 90) : Calls Tryd.prog 4 #[.agg #[.int .u8 (c : Int), .int .i64 n, .int .i64 f, .int .i64 r]] w fun e w' => e = .returned (.bool true) ∧ Below w.heap.size w w' := by
  have q1 : decide (fileI n < 0) = false := by rw [fileI, if_pos hn]; simp; omega
  have q2 : (squareI (fileI n) (rankI n) == n) = true := by rw [back_eq hn]; simp
  clear hn
  go_enter Tryd.func4, Tryd.ntmps4
  go_wp2_with fail
  go_quiet (fail)
  have hb0 : Below w.heap.size w ((w.alloc (.cells #[.int .u8 (c : Int), .int .i64 n, .int .i64 f, .int .i64 r] 34)).drewN nq) := (by repeat (first | exact Below.refl _ _ | (refine Below.setCell ?_ (by first | omega | (simp; done) | (simp; omega) | (simp at *; omega)) _) | (refine Below.alloc ?_ (by first | omega | (simp; done) | (simp; omega) | (simp at *; omega)) _) | refine Below.drew ?_ | (refine below_drewN ?_ _) | (refine Below.trans ?_ (Below.mono (by assumption) (by first | omega | (simp; done) | (simp; omega) | (simp at *; omega))))))
  have HT := hT.below hb0 hT.lt
  go_wp2_with (first | (go_at_call 25; refine (side_any _ _).mono ?_; rintro e w' ⟨rfl, rfl⟩) | (go_at_call 11; refine (rside_any _ _).mono ?_; rintro e w' ⟨rfl, rfl⟩) | (go_at_call 26; refine (kind_any _ _).mono ?_; rintro e w' ⟨rfl, rfl⟩) | (go_at_call 27; refine (rkind_any _ _).mono ?_; rintro e w' ⟨rfl, rfl⟩) | (go_at_call 28; refine (file_any _ _).mono ?_; rintro e w' ⟨rfl, rfl⟩) | (go_at_call 29; refine (rfile_any _ _).mono ?_; rintro e w' ⟨rfl, rfl⟩) | (go_at_call 30; refine (rank_any _ _).mono ?_; rintro e w' ⟨rfl, rfl⟩) | (go_at_call 31; refine (rrank_any _ _).mono ?_; rintro e w' ⟨rfl, rfl⟩) | (go_at_call 32; refine (square_any _ _ _).mono ?_; rintro e w' ⟨rfl, rfl⟩) | (go_at_call 33; refine (rsquare_any _ _ _).mono ?_; rintro e w' ⟨rfl, rfl⟩) | (go_at_call 10; refine (live2_any _ HT).mono ?_; rintro e w1 ⟨rfl, hb⟩))
  go_ret
  exact ⟨rfl, hb0.trans (hb.mono hb0.size)⟩
set_option maxRecDepth 100000 in
set_option maxHeartbeats 4000000 in
theorem outside (c : Nat) (n f r : Int) (w : World) (hT : Tab w) (hn : ¬ (0 ≤ n ∧ n < 90)) : Calls Tryd.prog 4 #[.agg #[.int .u8 (c : Int), .int .i64 n, .int .i64 f, .int .i64 r]] w fun e w' => e = .returned (.bool true) ∧ Below w.heap.size w w' := by
  have q1 : decide (fileI n < 0) = true := by rw [fileI, if_neg hn]; rfl
  clear hn
  go_enter Tryd.func4, Tryd.ntmps4
  go_wp2_with fail
  go_quiet (fail)
  have hb0 : Below w.heap.size w ((w.alloc (.cells #[.int .u8 (c : Int), .int .i64 n, .int .i64 f, .int .i64 r] 34)).drewN nq) := (by repeat (first | exact Below.refl _ _ | (refine Below.setCell ?_ (by first | omega | (simp; done) | (simp; omega) | (simp at *; omega)) _) | (refine Below.alloc ?_ (by first | omega | (simp; done) | (simp; omega) | (simp at *; omega)) _) | refine Below.drew ?_ | (refine below_drewN ?_ _) | (refine Below.trans ?_ (Below.mono (by assumption) (by first | omega | (simp; done) | (simp; omega) | (simp at *; omega))))))
  have HT := hT.below hb0 hT.lt
  go_wp2_with (first | (go_at_call 25; refine (side_any _ _).mono ?_; rintro e w' ⟨rfl, rfl⟩) | (go_at_call 11; refine (rside_any _ _).mono ?_; rintro e w' ⟨rfl, rfl⟩) | (go_at_call 26; refine (kind_any _ _).mono ?_; rintro e w' ⟨rfl, rfl⟩) | (go_at_call 27; refine (rkind_any _ _).mono ?_; rintro e w' ⟨rfl, rfl⟩) | (go_at_call 28; refine (file_any _ _).mono ?_; rintro e w' ⟨rfl, rfl⟩) | (go_at_call 29; refine (rfile_any _ _).mono ?_; rintro e w' ⟨rfl, rfl⟩) | (go_at_call 30; refine (rank_any _ _).mono ?_; rintro e w' ⟨rfl, rfl⟩) | (go_at_call 31; refine (rrank_any _ _).mono ?_; rintro e w' ⟨rfl, rfl⟩) | (go_at_call 32; refine (square_any _ _ _).mono ?_; rintro e w' ⟨rfl, rfl⟩) | (go_at_call 33; refine (rsquare_any _ _ _).mono ?_; rintro e w' ⟨rfl, rfl⟩) | (go_at_call 10; refine (live2_any _ HT).mono ?_; rintro e w1 ⟨rfl, hb⟩))
  go_ret
  exact ⟨rfl, hb0.trans (hb.mono hb0.size)⟩

theorem walk (c : Nat) (n f r : Int) (w : World) (hT : Tab w) : Calls Tryd.prog 4 #[.agg #[.int .u8 (c : Int), .int .i64 n, .int .i64 f, .int .i64 r]] w fun e w' => e = .returned (.bool true) ∧ Below w.heap.size w w' := by
  by_cases h : 0 ≤ n ∧ n < 90
  · exact inside c n f r w hT h
  · exact outside c n f r w hT h
end Go.Proofs.YtdfjmchkpoobdabDoor.words
