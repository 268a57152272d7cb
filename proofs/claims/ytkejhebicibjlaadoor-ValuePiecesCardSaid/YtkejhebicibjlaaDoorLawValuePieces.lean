/- What any piece on any square is worth: the call answers true. -/
import Derived.Test.YtkejhebicibjlaaDoorValueL
namespace Go.Proofs.YtkejhebicibjlaaDoor.vpieces
open Go.RowKit Go.Shelf
open M (S)

set_option maxRecDepth 100000 in
set_option maxHeartbeats 4000000 in
theorem walk (c : Nat) (n : Int) (w : World) (hT : Tab w) : Calls Tryd.prog 3 #[.int .u8 (c : Int), .int .i64 n] w (Gives w (.bool true)) := by
  unfold Gives
  obtain ⟨k, hk⟩ : ∃ k, kindV c = k := ⟨_, rfl⟩
  obtain ⟨v, hv⟩ : ∃ v, pieceV c n = v := ⟨_, rfl⟩
  have HK := Lib.hid hk
  have HV := Lib.hid hv
  clear hk hv
  go_enter Tryd.func3, Tryd.ntmps3
  go_wp2_with fail
  refine (vkind_is c k _ HK.out).mono ?_
  rintro e w1 ⟨rfl, rfl⟩
  go_wp2_with fail
  refine (rkind14_is c k _ HK.out).mono ?_
  rintro e w1 ⟨rfl, rfl⟩
  go_wp2_with fail
  refine (vpiece_is c n v _ HV.out).mono ?_
  rintro e w2 ⟨rfl, hb⟩
  have hT2 := hT.next hb
  go_wp2_with fail
  refine (rpiece14_is c n v _ HV.out).mono ?_
  rintro e w3 ⟨rfl, rfl⟩
  go_wp2_with fail
  refine (live14_any _ hT2).mono ?_
  rintro e w4 ⟨rfl, hb4⟩
  go_wp2
  go_ret
  exact ⟨rfl, hb.trans (hb4.mono hb.size)⟩
end Go.Proofs.YtkejhebicibjlaaDoor.vpieces
