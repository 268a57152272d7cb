/- The row's numbers, those of pieces on squares: the call answers true. -/
import Derived.Test.YtocdmnkmepplcaaKeyL
namespace Go.Proofs.Ytocdmnkmepplcaa.knumbers
open Go.RowKit Go.Shelf
open M (S)

set_option maxRecDepth 100000 in
set_option maxHeartbeats 4000000 in
theorem walk (x c : Nat) (n : Int) (w : World) (hx : x < 18446744073709551616) (hc : c < 256) : Calls Try.prog 3 #[.int .u64 (x : Int), .int .u8 (c : Int), .int .i64 n] w (Gives w (.bool true)) := by
  unfold Gives
  obtain ⟨y, hy⟩ : ∃ y, nextK x = y := ⟨_, rfl⟩
  obtain ⟨k, hk⟩ : ∃ k, cellK c n = k := ⟨_, rfl⟩
  obtain ⟨t, ht⟩ : ∃ t, turnK = t := ⟨_, rfl⟩
  have h1 := next_any x w hx
  have h2 := rnext_any x w hx
  rw [hy] at h1 h2
  have HK := Lib.hid hk
  have HT := Lib.hid ht
  clear hy hk ht
  go_enter Try.func3, Try.ntmps3
  go_wp2_with fail
  refine h1.mono ?_
  rintro e w1 ⟨rfl, rfl⟩
  go_wp2_with fail
  refine h2.mono ?_
  rintro e w1 ⟨rfl, rfl⟩
  clear h1 h2
  go_wp2_with fail
  refine (cell_is c n k _ hc HK.out).mono ?_
  rintro e w1 ⟨rfl, hb1⟩
  go_wp2_with fail
  refine (rCell_is c k n _ HK.out).mono ?_
  rintro e w2 ⟨rfl, hb2⟩
  replace hb2 := hb1.trans (hb2.mono hb1.size)
  clear hb1
  go_wp2_with fail
  refine (kturn_is t _ HT.out).mono ?_
  rintro e w3 ⟨rfl, hb3⟩
  replace hb3 := hb2.trans (hb3.mono hb2.size)
  clear hb2
  go_wp2_with fail
  refine (rTurn_is t _ HT.out).mono ?_
  rintro e w4 ⟨rfl, hb4⟩
  replace hb4 := hb3.trans (hb4.mono hb3.size)
  clear hb3
  go_wp2_with fail
  refine (live10_any _).mono ?_
  rintro e w5 ⟨rfl, hb5⟩
  replace hb5 := hb4.trans (hb5.mono hb4.size)
  go_wp2
  go_ret
  exact ⟨rfl, hb5⟩
end Go.Proofs.Ytocdmnkmepplcaa.knumbers
