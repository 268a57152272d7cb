/- Turned twice a board is the same; what is red's on a square is black's on the other one: the call answers true. -/
import Derived.Test.YtdfjmchkpoobdabDoorBoard5
namespace Go.Proofs.YtdfjmchkpoobdabDoor.turned
open Go.RowKit Go.Shelf
open M (S)
set_option maxRecDepth 100000 in
set_option maxHeartbeats 4000000 in
theorem large (s : ByteArray) (n : Int) (w : World) (hT : Tab w) (SM : Hid (decide (s.size ≤ 200) = false)) : Calls Tryd.prog 5 #[.string s, .int .i64 n] w fun e w' => e = .returned (.bool true) ∧ Below w.heap.size w w' := by
  have hB := Below.refl w.heap.size w
  go_enter Tryd.func5, Tryd.ntmps5
  go_wp2_with fail
  refine (small_is s false _ SM.out).mono ?_
  rintro e w' ⟨rfl, rfl⟩
  go_wp2_with fail
  refine (live2_any _ hT).mono ?_
  rintro e w1 ⟨rfl, hb⟩
  replace hT := hT.next hb
  replace hB := hB.trans (hb.mono hB.size)
  clear hb
  go_wp2
  go_ret
  exact ⟨rfl, hB⟩
set_option maxRecDepth 100000 in
set_option maxHeartbeats 4000000 in
theorem none (s : ByteArray) (n : Int) (w : World) (hT : Tab w) (SM : Hid (decide (s.size ≤ 200) = true)) (B : Hid (isB s = false)) (T : Hid (turnB s = ByteArray.empty)) : Calls Tryd.prog 5 #[.string s, .int .i64 n] w fun e w' => e = .returned (.bool true) ∧ Below w.heap.size w w' := by
  have hB := Below.refl w.heap.size w
  go_enter Tryd.func5, Tryd.ntmps5
  go_wp2_with fail
  refine (small_is s true _ SM.out).mono ?_
  rintro e w' ⟨rfl, rfl⟩
  go_wp2_with fail
  refine (turn_is s _ _ T.out).mono ?_
  rintro e w2 ⟨rfl, hb⟩
  replace hT := hT.next hb
  replace hB := hB.trans (hb.mono hB.size)
  clear hb
  go_wp2_with fail
  refine (is_is s false _ B.out).mono ?_
  rintro e w' ⟨rfl, rfl⟩
  go_wp2_with fail
  refine (live2_any _ hT).mono ?_
  rintro e w3 ⟨rfl, hb⟩
  replace hT := hT.next hb
  replace hB := hB.trans (hb.mono hB.size)
  clear hb
  go_wp2
  go_ret
  exact ⟨rfl, hB⟩
set_option maxRecDepth 100000 in
set_option maxHeartbeats 4000000 in
theorem low (s t : ByteArray) (n : Int) (k : Nat) (w : World) (hT : Tab w) (SM : Hid (decide (s.size ≤ 200) = true)) (B : Hid (isB s = true)) (T : Hid (turnB s = t)) (TT : Hid (turnB t = s)) (P0 : Hid ((piecesL t 0).length = k)) (P1 : Hid ((piecesL s 1).length = k)) (h : n < 0) : Calls Tryd.prog 5 #[.string s, .int .i64 n] w fun e w' => e = .returned (.bool true) ∧ Below w.heap.size w w' := by
  have hB := Below.refl w.heap.size w
  go_enter Tryd.func5, Tryd.ntmps5
  go_wp2_with fail
  refine (small_is s true _ SM.out).mono ?_
  rintro e w' ⟨rfl, rfl⟩
  go_wp2_with fail
  refine (turn_is s t _ T.out).mono ?_
  rintro e w4 ⟨rfl, hb⟩
  replace hT := hT.next hb
  replace hB := hB.trans (hb.mono hB.size)
  clear hb
  go_wp2_with fail
  refine (is_is s true _ B.out).mono ?_
  rintro e w' ⟨rfl, rfl⟩
  go_wp2_with fail
  refine (turn_is t s _ TT.out).mono ?_
  rintro e w5 ⟨rfl, hb⟩
  replace hT := hT.next hb
  replace hB := hB.trans (hb.mono hB.size)
  clear hb
  go_wp2_with fail
  refine (pieces_is t 0 k _ hT P0.out).mono ?_
  rintro e w6 ⟨A6, k6, rfl, hr, hb⟩
  replace hT := hT.next hb
  replace hB := hB.trans (hb.mono hB.size)
  clear hb
  clear hr
  go_wp2_with fail
  refine (pieces_is s 1 k _ hT P1.out).mono ?_
  rintro e w7 ⟨A7, k7, rfl, hr, hb⟩
  replace hT := hT.next hb
  replace hB := hB.trans (hb.mono hB.size)
  clear hb
  clear hr
  go_wp2_with fail
  refine (live2_any _ hT).mono ?_
  rintro e w8 ⟨rfl, hb⟩
  replace hT := hT.next hb
  replace hB := hB.trans (hb.mono hB.size)
  clear hb
  go_wp2
  go_ret
  exact ⟨rfl, hB⟩
set_option maxRecDepth 100000 in
set_option maxHeartbeats 4000000 in
theorem high (s t : ByteArray) (n : Int) (k : Nat) (w : World) (hT : Tab w) (SM : Hid (decide (s.size ≤ 200) = true)) (B : Hid (isB s = true)) (T : Hid (turnB s = t)) (TT : Hid (turnB t = s)) (P0 : Hid ((piecesL t 0).length = k)) (P1 : Hid ((piecesL s 1).length = k)) (h0 : 0 ≤ n) (h : 89 < n) : Calls Tryd.prog 5 #[.string s, .int .i64 n] w fun e w' => e = .returned (.bool true) ∧ Below w.heap.size w w' := by
  have hB := Below.refl w.heap.size w
  go_enter Tryd.func5, Tryd.ntmps5
  go_wp2_with fail
  refine (small_is s true _ SM.out).mono ?_
  rintro e w' ⟨rfl, rfl⟩
  go_wp2_with fail
  refine (turn_is s t _ T.out).mono ?_
  rintro e w9 ⟨rfl, hb⟩
  replace hT := hT.next hb
  replace hB := hB.trans (hb.mono hB.size)
  clear hb
  go_wp2_with fail
  refine (is_is s true _ B.out).mono ?_
  rintro e w' ⟨rfl, rfl⟩
  go_wp2_with fail
  refine (turn_is t s _ TT.out).mono ?_
  rintro e w10 ⟨rfl, hb⟩
  replace hT := hT.next hb
  replace hB := hB.trans (hb.mono hB.size)
  clear hb
  go_wp2_with fail
  refine (pieces_is t 0 k _ hT P0.out).mono ?_
  rintro e w11 ⟨A11, k11, rfl, hr, hb⟩
  replace hT := hT.next hb
  replace hB := hB.trans (hb.mono hB.size)
  clear hb
  clear hr
  go_wp2_with fail
  refine (pieces_is s 1 k _ hT P1.out).mono ?_
  rintro e w12 ⟨A12, k12, rfl, hr, hb⟩
  replace hT := hT.next hb
  replace hB := hB.trans (hb.mono hB.size)
  clear hb
  clear hr
  go_wp2_with fail
  refine (live2_any _ hT).mono ?_
  rintro e w13 ⟨rfl, hb⟩
  replace hT := hT.next hb
  replace hB := hB.trans (hb.mono hB.size)
  clear hb
  go_wp2
  go_ret
  exact ⟨rfl, hB⟩
set_option maxRecDepth 100000 in
set_option maxHeartbeats 4000000 in
theorem empty (s t : ByteArray) (n : Int) (k : Nat) (w : World) (hT : Tab w) (SM : Hid (decide (s.size ≤ 200) = true)) (B : Hid (isB s = true)) (T : Hid (turnB s = t)) (TT : Hid (turnB t = s)) (P0 : Hid ((piecesL t 0).length = k)) (P1 : Hid ((piecesL s 1).length = k)) (a b kd : Nat) (sa : Int) (h0 : 0 ≤ n) (h1 : n < 90) (i1 : IntKind.i64.wrap (89 - n) = 89 - n) (Ha : Hid (atB s n = a)) (Hb : Hid (atB t (89 - n) = b)) (Ka : Hid (kindN a = kd)) (Kb : Hid (kindN b = kd)) (Sa : Hid (sideN a = sa)) (e1 : (sa == -1) = true) : Calls Tryd.prog 5 #[.string s, .int .i64 n] w fun e w' => e = .returned (.bool true) ∧ Below w.heap.size w w' := by
  have hB := Below.refl w.heap.size w
  go_enter Tryd.func5, Tryd.ntmps5
  go_wp2_with fail
  refine (small_is s true _ SM.out).mono ?_
  rintro e w' ⟨rfl, rfl⟩
  go_wp2_with fail
  refine (turn_is s t _ T.out).mono ?_
  rintro e w14 ⟨rfl, hb⟩
  replace hT := hT.next hb
  replace hB := hB.trans (hb.mono hB.size)
  clear hb
  go_wp2_with fail
  refine (is_is s true _ B.out).mono ?_
  rintro e w' ⟨rfl, rfl⟩
  go_wp2_with fail
  refine (turn_is t s _ TT.out).mono ?_
  rintro e w15 ⟨rfl, hb⟩
  replace hT := hT.next hb
  replace hB := hB.trans (hb.mono hB.size)
  clear hb
  go_wp2_with fail
  refine (pieces_is t 0 k _ hT P0.out).mono ?_
  rintro e w16 ⟨A16, k16, rfl, hr, hb⟩
  replace hT := hT.next hb
  replace hB := hB.trans (hb.mono hB.size)
  clear hb
  clear hr
  go_wp2_with fail
  refine (pieces_is s 1 k _ hT P1.out).mono ?_
  rintro e w17 ⟨A17, k17, rfl, hr, hb⟩
  replace hT := hT.next hb
  replace hB := hB.trans (hb.mono hB.size)
  clear hb
  clear hr
  go_wp2_with fail
  refine (at_is s n a _ Ha.out).mono ?_
  rintro e w' ⟨rfl, rfl⟩
  go_wp2_with fail
  refine (at_is t (89 - n) b _ Hb.out).mono ?_
  rintro e w' ⟨rfl, rfl⟩
  go_wp2_with fail
  refine (kind_is a kd _ Ka.out).mono ?_
  rintro e w' ⟨rfl, rfl⟩
  go_wp2_with fail
  refine (kind_is b kd _ Kb.out).mono ?_
  rintro e w' ⟨rfl, rfl⟩
  go_wp2_with fail
  refine (side_is a sa _ Sa.out).mono ?_
  rintro e w' ⟨rfl, rfl⟩
  go_wp2_with fail
  refine (live2_any _ hT).mono ?_
  rintro e w18 ⟨rfl, hb⟩
  replace hT := hT.next hb
  replace hB := hB.trans (hb.mono hB.size)
  clear hb
  go_wp2
  go_ret
  exact ⟨rfl, hB⟩
set_option maxRecDepth 100000 in
set_option maxHeartbeats 4000000 in
theorem full (s t : ByteArray) (n : Int) (k : Nat) (w : World) (hT : Tab w) (SM : Hid (decide (s.size ≤ 200) = true)) (B : Hid (isB s = true)) (T : Hid (turnB s = t)) (TT : Hid (turnB t = s)) (P0 : Hid ((piecesL t 0).length = k)) (P1 : Hid ((piecesL s 1).length = k)) (a b kd : Nat) (sa sb : Int) (h0 : 0 ≤ n) (h1 : n < 90) (i1 : IntKind.i64.wrap (89 - n) = 89 - n) (Ha : Hid (atB s n = a)) (Hb : Hid (atB t (89 - n) = b)) (Ka : Hid (kindN a = kd)) (Kb : Hid (kindN b = kd)) (Sa : Hid (sideN a = sa)) (Sb : Hid (sideN b = sb)) (e1 : (sa == -1) = false) (i2 : IntKind.i64.wrap (sa + sb) = 1) : Calls Tryd.prog 5 #[.string s, .int .i64 n] w fun e w' => e = .returned (.bool true) ∧ Below w.heap.size w w' := by
  have hB := Below.refl w.heap.size w
  go_enter Tryd.func5, Tryd.ntmps5
  go_wp2_with fail
  refine (small_is s true _ SM.out).mono ?_
  rintro e w' ⟨rfl, rfl⟩
  go_wp2_with fail
  refine (turn_is s t _ T.out).mono ?_
  rintro e w19 ⟨rfl, hb⟩
  replace hT := hT.next hb
  replace hB := hB.trans (hb.mono hB.size)
  clear hb
  go_wp2_with fail
  refine (is_is s true _ B.out).mono ?_
  rintro e w' ⟨rfl, rfl⟩
  go_wp2_with fail
  refine (turn_is t s _ TT.out).mono ?_
  rintro e w20 ⟨rfl, hb⟩
  replace hT := hT.next hb
  replace hB := hB.trans (hb.mono hB.size)
  clear hb
  go_wp2_with fail
  refine (pieces_is t 0 k _ hT P0.out).mono ?_
  rintro e w21 ⟨A21, k21, rfl, hr, hb⟩
  replace hT := hT.next hb
  replace hB := hB.trans (hb.mono hB.size)
  clear hb
  clear hr
  go_wp2_with fail
  refine (pieces_is s 1 k _ hT P1.out).mono ?_
  rintro e w22 ⟨A22, k22, rfl, hr, hb⟩
  replace hT := hT.next hb
  replace hB := hB.trans (hb.mono hB.size)
  clear hb
  clear hr
  go_wp2_with fail
  refine (at_is s n a _ Ha.out).mono ?_
  rintro e w' ⟨rfl, rfl⟩
  go_wp2_with fail
  refine (at_is t (89 - n) b _ Hb.out).mono ?_
  rintro e w' ⟨rfl, rfl⟩
  go_wp2_with fail
  refine (kind_is a kd _ Ka.out).mono ?_
  rintro e w' ⟨rfl, rfl⟩
  go_wp2_with fail
  refine (kind_is b kd _ Kb.out).mono ?_
  rintro e w' ⟨rfl, rfl⟩
  go_wp2_with fail
  refine (side_is a sa _ Sa.out).mono ?_
  rintro e w' ⟨rfl, rfl⟩
  go_wp2_with fail
  refine (side_is a sa _ Sa.out).mono ?_
  rintro e w' ⟨rfl, rfl⟩
  go_wp2_with fail
  refine (side_is b sb _ Sb.out).mono ?_
  rintro e w' ⟨rfl, rfl⟩
  go_wp2_with fail
  refine (live2_any _ hT).mono ?_
  rintro e w23 ⟨rfl, hb⟩
  replace hT := hT.next hb
  replace hB := hB.trans (hb.mono hB.size)
  clear hb
  go_wp2
  go_ret
  exact ⟨rfl, hB⟩
theorem walk (s : ByteArray) (n : Int) (w : World) (hT : Tab w) : Calls Tryd.prog 5 #[.string s, .int .i64 n] w fun e w' => e = .returned (.bool true) ∧ Below w.heap.size w w' := by
  cases hs : decide (s.size ≤ 200)
  · exact large s n w hT hs
  · cases hb : isB s
    · exact none s n w hT hs hb (by show _ = _; simp [turnB, hb])
    · by_cases h : n < 0
      · exact low s _ n _ w hT hs hb rfl (turn_turn hb) (turn_pieces hb) rfl h
      · by_cases h1 : 89 < n
        · exact high s _ n _ w hT hs hb rfl (turn_turn hb) (turn_pieces hb) rfl (by omega) h1
        · have i1 : IntKind.i64.wrap (89 - n) = 89 - n := IntWalk.i64_in _ (by omega)
          have a1 : atB s n = bAt s n.toNat := by simp [atB, hb, sqI_true (show 0 ≤ n ∧ n < 90 by omega)]
          have a2 : atB (turnB s) (89 - n) = swapN (bAt s n.toNat) := by
            simp only [atB, turn_is_board hb, sqI_true (show 0 ≤ 89 - n ∧ 89 - n < 90 by omega)]
            rw [if_pos (by simp), turn_at hb _ (by omega), show 89 - (89 - n).toNat = n.toNat by omega]
          by_cases e : sideN (bAt s n.toNat) = -1
          · exact empty s _ n _ w hT hs hb rfl (turn_turn hb) (turn_pieces hb) rfl _ _ (kindN (bAt s n.toNat)) (-1) (by omega) (by omega) i1 rfl rfl (by show _ = _; rw [a1]) (by show _ = _; rw [a2, swap_kind]) (by show _ = _; rw [a1]; exact e) (by decide)
          · have ge := sideN_ge (bAt s n.toNat)
            exact full s _ n _ w hT hs hb rfl (turn_turn hb) (turn_pieces hb) rfl _ _ (kindN (bAt s n.toNat)) (sideN (bAt s n.toNat)) (1 - sideN (bAt s n.toNat)) (by omega) (by omega) i1 rfl rfl (by show _ = _; rw [a1]) (by show _ = _; rw [a2, swap_kind]) (by show _ = _; rw [a1]) (by show _ = _; rw [a2, swap_side _ e]) (by simp [e]) (by rw [IntWalk.i64_in _ (by omega)]; omega)
end Go.Proofs.YtdfjmchkpoobdabDoor.turned
