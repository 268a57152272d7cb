/- Where any piece may stand, and how many there may be; which squares are in a palace, and beyond the river: the call answers true. -/
import Derived.Test.YtglnbohogldenaaDoorLive3
namespace Go.Proofs.YtglnbohogldenaaDoor.mays
open Go.RowKit Go.Shelf
open M (S)

set_option maxRecDepth 100000 in
set_option maxHeartbeats 8000000 in
theorem full (c : Nat) (n side : Int) (w : World) (hT : Tab w) (b p o : Bool) (q m : Nat) (l : List Int) (B : Hid (mayB c n = b)) (L : Hid (pointsL c = l)) (M : Hid (l.length = m)) (hm : m ≤ 1000000) (Q : Hid (mostN c = q)) (P : Hid (palaceB n side = p)) (O : Hid (overB n side = o)) :
    Calls Tryd.prog 3 #[.int .u8 (c : Int), .int .i64 n, .int .i64 side] w (Gives w (.bool true)) := by
  unfold Gives
  go_enter Tryd.func3, Tryd.ntmps3
  go_wp2_with fail
  refine (may_is c n b _ B.out).mono ?_
  rintro e w1 ⟨rfl, hb⟩
  replace hT := hT.next hb
  have hB := hb
  clear hb
  go_wp2_with fail
  refine (rmay_is c n b _ B.out).mono ?_
  rintro e w2' ⟨rfl, rfl⟩
  go_wp2_with fail
  refine (points_is c m l _ hT L.out M.out).mono ?_
  rintro e w3 ⟨A3, k3, rfl, hr, hb⟩
  replace hT := hT.next hb
  replace hB := hB.trans (hb.mono hB.size)
  clear hb
  have h1 := hr
  clear hr
  go_wp2_with fail
  refine (rpoints_is c m l _ L.out M.out).mono ?_
  rintro e w4 ⟨A4, k4, rfl, hr, hb⟩
  replace hT := hT.next hb
  replace h1 := h1.next hb
  replace hB := hB.trans (hb.mono hB.size)
  clear hb
  have h2 := hr
  clear hr
  go_wp2_with fail
  refine (ints_true _ _ l m _ _ _ h1 h2 M.out hm).mono ?_
  rintro e w5 ⟨rfl, hb⟩
  replace hT := hT.next hb
  replace h1 := h1.next hb
  replace h2 := h2.next hb
  replace hB := hB.trans (hb.mono hB.size)
  clear hb
  clear h1
  clear h2
  go_wp2_with fail
  refine (most_is c q _ Q.out).mono ?_
  rintro e w6' ⟨rfl, rfl⟩
  go_wp2_with fail
  refine (rmost_is c q _ Q.out).mono ?_
  rintro e w7' ⟨rfl, rfl⟩
  go_wp2_with fail
  refine (palace_is n side p _ P.out).mono ?_
  rintro e w8 ⟨rfl, hb⟩
  replace hT := hT.next hb
  replace hB := hB.trans (hb.mono hB.size)
  clear hb
  go_wp2_with fail
  refine (rpalace_is n side p _ P.out).mono ?_
  rintro e w9' ⟨rfl, rfl⟩
  go_wp2_with fail
  refine (over_is n side o _ O.out).mono ?_
  rintro e w10 ⟨rfl, hb⟩
  replace hT := hT.next hb
  replace hB := hB.trans (hb.mono hB.size)
  clear hb
  go_wp2_with fail
  refine (rover_is n side o _ O.out).mono ?_
  rintro e w11' ⟨rfl, rfl⟩
  go_wp2_with fail
  refine (live3_any _ hT).mono ?_
  rintro e w12 ⟨rfl, hb⟩
  replace hT := hT.next hb
  replace hB := hB.trans (hb.mono hB.size)
  clear hb
  go_wp2
  go_ret
  exact ⟨rfl, hB⟩
theorem walk (c : Nat) (n side : Int) (w : World) (hT : Tab w) : Calls Tryd.prog 3 #[.int .u8 (c : Int), .int .i64 n, .int .i64 side] w (Gives w (.bool true)) :=
  full c n side w hT _ _ _ _ _ _ rfl rfl rfl (Nat.le_trans (trues_le _ 90) (by decide)) rfl rfl rfl
end Go.Proofs.YtglnbohogldenaaDoor.mays
