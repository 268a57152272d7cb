/- Merged: ChaseR ChaseS ChaseT. -/
import Derived.Test.YtnkbilikkbaeeaaGreatDoorChaseM
import Derived.Test.YtnkbilikkbaeeaaGreatDoorGuardU
import Derived.Test.YtnkbilikkbaeeaaGreatDoorRefPM
import Derived.Test.YtnkbilikkbaeeaaGreatDoorCheckM
import Derived.Test.YtnkbilikkbaeeaaGreatDoorBoardO
import Derived.Test.YtnkbilikkbaeeaaGreatDoorLegalM

namespace Go.Proofs.YtnkbilikkbaeeaaGreatDoor
open Go.RowKit Go.Shelf
open M (S)

/-- What stands on a square, of any text that is as long as a board. -/
def ratN (s : ByteArray) (n : Int) : Nat := if sqI n = true ∧ s.size = 90 then bAt s n.toNat else 46
def tvb (b75 b80 c80 o g b78 b67 c82 n c : Bool) : Bool := ((!b75 && !b80) && (!c80 || o)) && (!g || ((b78 || b67) && c82)) && (n || !c)
theorem int_eq (k m : Nat) : ((k : Int) == (m : Int)) = (k == m) := by
  rw [Bool.eq_iff_iff, beq_iff_eq, beq_iff_eq]
  omega
theorem int_ne (k m : Nat) : ((k : Int) != (m : Int)) = (k != m) := by
  rw [Bool.eq_iff_iff, bne_iff_ne, bne_iff_ne]
  omega
theorem tvb_is (k l : Nat) (o g c : Bool) : tvb ((k : Int) == 75) ((k : Int) == 80) ((l : Int) == 80) o g ((k : Int) == 78) ((k : Int) == 67) ((l : Int) == 82) ((k : Int) != (l : Int)) c = (((k != 75 && k != 80) && (l != 80 || o)) && (((k == 78 || k == 67) && l == 82) || !g) && (k != l || !c)) := by
  rw [show ((k : Int) == 75) = (k == 75) from int_eq k 75, show ((k : Int) == 80) = (k == 80) from int_eq k 80, show ((l : Int) == 80) = (l == 80) from int_eq l 80, show ((k : Int) == 78) = (k == 78) from int_eq k 78, show ((k : Int) == 67) = (k == 67) from int_eq k 67, show ((l : Int) == 82) = (l == 82) from int_eq l 82, int_ne]
  unfold tvb
  rw [Bool.or_comm (!g)]
  rfl
set_option maxRecDepth 100000 in
set_option maxHeartbeats 4000000 in
theorem rat16_any (s : ByteArray) (n : Int) (w : World) : Calls Tryz.prog 192 #[.string s, .int .i64 n] w (Says w (.int .u8 (ratN s n : Int))) := by
  unfold ratN
  by_cases hn : 0 ≤ n ∧ n < 90
  · obtain ⟨n0, n9⟩ := hn
    have h0 : ¬ n < 0 := by omega
    have h9 : ¬ 89 < n := by omega
    by_cases hs : s.size = 90
    · rw [if_pos ⟨sqI_true ⟨n0, n9⟩, hs⟩]
      obtain ⟨m, rfl⟩ : ∃ m : Nat, n = m := ⟨n.toNat, by omega⟩
      have hms : m < s.size := by omega
      have hbk := Lib.hid (bAt_eq s m hms)
      have hz : ((s.size : Int) != 90) = false := by rw [hs]; rfl
      rw [Int.toNat_natCast, ← hbk.out]
      clear hs hbk
      go_enter Tryz.func192, Tryz.ntmps192
      go_wp2
      go_ret
      exact ⟨rfl, rfl⟩
    · rw [if_neg fun h => hs h.2]
      have hz : ((s.size : Int) != 90) = true := by rw [bne_iff_ne]; omega
      clear hs
      go_enter Tryz.func192, Tryz.ntmps192
      go_wp2
      go_ret
      exact ⟨rfl, rfl⟩
  · rw [if_neg fun h => hn (sqI_iff.1 h.1)]
    by_cases h0 : n < 0
    · go_enter Tryz.func192, Tryz.ntmps192
      go_wp2
      go_ret
      exact ⟨rfl, rfl⟩
    · have h9 : 89 < n := by omega
      go_enter Tryz.func192, Tryz.ntmps192
      go_wp2
      go_ret
      exact ⟨rfl, rfl⟩
theorem rat_h (s : ByteArray) (n : Int) (c : Nat) (w : World) (h : Hid (ratN s n = c)) : Calls Tryz.prog 192 #[.string s, .int .i64 n] w (Says w (.int .u8 (c : Int))) := by
  have := h.out
  subst this
  exact rat16_any s n w
theorem rkind_h (c k : Nat) (w : World) (h : Hid (kindN c = k)) : Calls Tryz.prog 96 #[.int .u8 (c : Int)] w (Says w (.int .u8 (k : Int))) := rkind_s c k w h.out
theorem rcan_h (s : ByteArray) (side a b : Int) (v : Bool) (w : World) (h : Hid (couldI s side a b = v)) : Calls Tryz.prog 193 #[.string s, .int .i64 side, .agg #[.int .i64 a, .int .i64 b]] w (Gives w (.bool v)) := rgcan_is s side a b v w h.out
theorem mvr_keep {w : World} {p0 p1 : Value} {g : Nat} {W W' : World} (hS : W.cell? ⟨g, 0, none⟩ = some p0 ∧ W.cell? ⟨g, 1, none⟩ = some p1 ∧ Below w.heap.size w W) (hb : Below W.heap.size W W') : W'.cell? ⟨g, 0, none⟩ = some p0 ∧ W'.cell? ⟨g, 1, none⟩ = some p1 ∧ Below w.heap.size w W' :=
  ⟨(hb.cell (p := ⟨g, 0, none⟩) (cell_lt hS.1)).trans hS.1, (hb.cell (p := ⟨g, 1, none⟩) (cell_lt hS.2.1)).trans hS.2.1, hS.2.2.trans (hb.mono hS.2.2.size)⟩
theorem mv_cells {W : World} {g : Nat} {t : TypeId} {a b : Value} (h : Blk W g t #[a, b]) : W.cell? ⟨g, 0, none⟩ = some a ∧ W.cell? ⟨g, 1, none⟩ = some b := ⟨h.cell 0, h.cell 1⟩
set_option maxRecDepth 100000 in
set_option maxHeartbeats 16000000 in
theorem rthreat_none (s : ByteArray) (a b : Int) (x y : Nat) (side : Int) (w : World) (hx : ratN s a = x) (hy : ratN s b = y) (hsd : sideN x = side) (h : y = 46 ∨ couldI s side a b = false) : Calls Tryz.prog 184 #[.string s, .agg #[.int .i64 a, .int .i64 b]] w (Gives w (.bool false)) := by
  unfold Gives
  obtain ⟨W0, hW0⟩ : ∃ W0, w.alloc (.cells #[.int .i64 a, .int .i64 b] 28) = W0 := ⟨_, rfl⟩
  have hB : Below w.heap.size w W0 := by rw [← hW0]; exact (by repeat (first | exact Below.refl _ _ | (refine Below.setCell ?_ (by first | omega | (simp; done) | (simp; omega) | (simp at *; omega)) _) | (refine Below.alloc ?_ (by first | omega | (simp; done) | (simp; omega) | (simp at *; omega)) _) | refine Below.drew ?_ | (refine below_drewN ?_ _) | (refine Below.trans ?_ (Below.mono (by assumption) (by first | omega | (simp; done) | (simp; omega) | (simp at *; omega))))))
  have bM : Blk W0 w.heap.size 28 #[.int .i64 a, .int .i64 b] := by rw [← hW0]; exact Blk.new _ _ _ rfl
  obtain ⟨m0, m1⟩ := mv_cells bM
  have HW := Lib.hid hW0
  have HX := Lib.hid hx
  have HY := Lib.hid hy
  have HS := Lib.hid hsd
  clear hW0 hx hy hsd bM
  by_cases h46 : y = 46
  · have e46 : ((y : Int) == 46) = true := by rw [h46]; rfl
    clear h h46
    go_enter Tryz.func184, Tryz.ntmps184
    go_wp2_with (first
      | (go_at_call 192; (try rw [HW.out]); refine (rat_h s _ _ _ (by first | with_reducible exact HX | with_reducible exact HY)).mono ?_; rintro e w1 ⟨rfl, rfl⟩)
      | (go_at_call 103; refine (rside_s x side _ HS.out).mono ?_; rintro e w1 ⟨rfl, rfl⟩)
      | (go_at_call 193; refine (rcan_h s _ _ _ _ _ (by first | with_reducible exact HC | with_reducible exact HZ)).mono ?_; rintro e w1 ⟨rfl, hb⟩; obtain ⟨m0, m1, hB⟩ := mvr_keep ⟨m0, m1, hB⟩ hb; clear hb)
      | (go_at_call 96; refine (rkind_h _ _ _ (by first | with_reducible exact HK | with_reducible exact HL)).mono ?_; rintro e w1 ⟨rfl, rfl⟩)
      | (go_at_call 22; refine (rover_is b o' _ _ HO.out).mono ?_; rintro e w1 ⟨rfl, rfl⟩)
      | (go_at_call 194; refine (rgguard_is s a b _ _ HG.out).mono ?_; rintro e w1 ⟨rfl, hb⟩; obtain ⟨m0, m1, hB⟩ := mvr_keep ⟨m0, m1, hB⟩ hb; clear hb))
    go_ret
    exact ⟨rfl, hB⟩
  · have e46 : ((y : Int) == 46) = false := by rw [beq_eq_false_iff_ne]; omega
    have HC : Hid (couldI s side a b = false) := h.resolve_left h46
    clear h h46
    go_enter Tryz.func184, Tryz.ntmps184
    go_wp2_with (first
      | (go_at_call 192; (try rw [HW.out]); refine (rat_h s _ _ _ (by first | with_reducible exact HX | with_reducible exact HY)).mono ?_; rintro e w1 ⟨rfl, rfl⟩)
      | (go_at_call 103; refine (rside_s x side _ HS.out).mono ?_; rintro e w1 ⟨rfl, rfl⟩)
      | (go_at_call 193; refine (rcan_h s _ _ _ _ _ (by first | with_reducible exact HC | with_reducible exact HZ)).mono ?_; rintro e w1 ⟨rfl, hb⟩; obtain ⟨m0, m1, hB⟩ := mvr_keep ⟨m0, m1, hB⟩ hb; clear hb)
      | (go_at_call 96; refine (rkind_h _ _ _ (by first | with_reducible exact HK | with_reducible exact HL)).mono ?_; rintro e w1 ⟨rfl, rfl⟩)
      | (go_at_call 22; refine (rover_is b o' _ _ HO.out).mono ?_; rintro e w1 ⟨rfl, rfl⟩)
      | (go_at_call 194; refine (rgguard_is s a b _ _ HG.out).mono ?_; rintro e w1 ⟨rfl, hb⟩; obtain ⟨m0, m1, hB⟩ := mvr_keep ⟨m0, m1, hB⟩ hb; clear hb))
    go_ret
    exact ⟨rfl, hB⟩
set_option maxRecDepth 100000 in
set_option maxHeartbeats 16000000 in
theorem rthreat_some (s : ByteArray) (a b : Int) (x y k l : Nat) (side o' : Int) (o g c v : Bool) (w : World) (hx : ratN s a = x) (hy : ratN s b = y) (hsd : sideN x = side) (h46 : y ≠ 46) (hc : couldI s side a b = true) (hk : kindN x = k) (hl : kindN y = l) (hs0 : 0 ≤ side) (hs1 : side ≤ 1) (ho' : 1 - side = o') (ho : overB b o' = o) (hg : guardI s a b = g) (hz : couldI s o' b a = c) (hv0 : tvb ((k : Int) == 75) ((k : Int) == 80) ((l : Int) == 80) o g ((k : Int) == 78) ((k : Int) == 67) ((l : Int) == 82) ((k : Int) != (l : Int)) c = v) : Calls Tryz.prog 184 #[.string s, .agg #[.int .i64 a, .int .i64 b]] w (Gives w (.bool v)) := by
  unfold Gives
  obtain ⟨W0, hW0⟩ : ∃ W0, w.alloc (.cells #[.int .i64 a, .int .i64 b] 28) = W0 := ⟨_, rfl⟩
  have hB : Below w.heap.size w W0 := by rw [← hW0]; exact (by repeat (first | exact Below.refl _ _ | (refine Below.setCell ?_ (by first | omega | (simp; done) | (simp; omega) | (simp at *; omega)) _) | (refine Below.alloc ?_ (by first | omega | (simp; done) | (simp; omega) | (simp at *; omega)) _) | refine Below.drew ?_ | (refine below_drewN ?_ _) | (refine Below.trans ?_ (Below.mono (by assumption) (by first | omega | (simp; done) | (simp; omega) | (simp at *; omega))))))
  have bM : Blk W0 w.heap.size 28 #[.int .i64 a, .int .i64 b] := by rw [← hW0]; exact Blk.new _ _ _ rfl
  obtain ⟨m0, m1⟩ := mv_cells bM
  have HW := Lib.hid hW0
  have HX := Lib.hid hx
  have HY := Lib.hid hy
  have HS := Lib.hid hsd
  clear hW0 hx hy hsd bM
  have e46 : ((y : Int) == 46) = false := by rw [beq_eq_false_iff_ne]; omega
  have HC := Lib.hid hc
  have HK := Lib.hid hk
  have HL := Lib.hid hl
  have HO := Lib.hid ho
  have HG := Lib.hid hg
  have HZ := Lib.hid hz
  clear hc hk hl ho hg hz h46
  obtain ⟨b75, h75⟩ : ∃ z, ((k : Int) == 75) = z := ⟨_, rfl⟩
  obtain ⟨b80, h80⟩ : ∃ z, ((k : Int) == 80) = z := ⟨_, rfl⟩
  obtain ⟨c80, g80⟩ : ∃ z, ((l : Int) == 80) = z := ⟨_, rfl⟩
  obtain ⟨b78, h78⟩ : ∃ z, ((k : Int) == 78) = z := ⟨_, rfl⟩
  obtain ⟨b67, h67⟩ : ∃ z, ((k : Int) == 67) = z := ⟨_, rfl⟩
  obtain ⟨c82, g82⟩ : ∃ z, ((l : Int) == 82) = z := ⟨_, rfl⟩
  obtain ⟨n, hne⟩ : ∃ z, ((k : Int) != (l : Int)) = z := ⟨_, rfl⟩
  rw [h75, h80, g80, h78, h67, g82, hne] at hv0
  cases b75
  case true =>
    have hv : v = false := by rw [← hv0]; rfl
    subst hv
    clear hv0
    go_enter Tryz.func184, Tryz.ntmps184
    go_wp2_with (first
      | (go_at_call 192; (try rw [HW.out]); refine (rat_h s _ _ _ (by first | with_reducible exact HX | with_reducible exact HY)).mono ?_; rintro e w1 ⟨rfl, rfl⟩)
      | (go_at_call 103; refine (rside_s x side _ HS.out).mono ?_; rintro e w1 ⟨rfl, rfl⟩)
      | (go_at_call 193; refine (rcan_h s _ _ _ _ _ (by first | with_reducible exact HC | with_reducible exact HZ)).mono ?_; rintro e w1 ⟨rfl, hb⟩; obtain ⟨m0, m1, hB⟩ := mvr_keep ⟨m0, m1, hB⟩ hb; clear hb)
      | (go_at_call 96; refine (rkind_h _ _ _ (by first | with_reducible exact HK | with_reducible exact HL)).mono ?_; rintro e w1 ⟨rfl, rfl⟩)
      | (go_at_call 22; refine (rover_is b o' _ _ HO.out).mono ?_; rintro e w1 ⟨rfl, rfl⟩)
      | (go_at_call 194; refine (rgguard_is s a b _ _ HG.out).mono ?_; rintro e w1 ⟨rfl, hb⟩; obtain ⟨m0, m1, hB⟩ := mvr_keep ⟨m0, m1, hB⟩ hb; clear hb))
    go_ret
    exact ⟨rfl, hB⟩
  case false =>
    cases b80
    case true =>
      have hv : v = false := by rw [← hv0]; rfl
      subst hv
      clear hv0
      go_enter Tryz.func184, Tryz.ntmps184
      go_wp2_with (first
        | (go_at_call 192; (try rw [HW.out]); refine (rat_h s _ _ _ (by first | with_reducible exact HX | with_reducible exact HY)).mono ?_; rintro e w1 ⟨rfl, rfl⟩)
        | (go_at_call 103; refine (rside_s x side _ HS.out).mono ?_; rintro e w1 ⟨rfl, rfl⟩)
        | (go_at_call 193; refine (rcan_h s _ _ _ _ _ (by first | with_reducible exact HC | with_reducible exact HZ)).mono ?_; rintro e w1 ⟨rfl, hb⟩; obtain ⟨m0, m1, hB⟩ := mvr_keep ⟨m0, m1, hB⟩ hb; clear hb)
        | (go_at_call 96; refine (rkind_h _ _ _ (by first | with_reducible exact HK | with_reducible exact HL)).mono ?_; rintro e w1 ⟨rfl, rfl⟩)
        | (go_at_call 22; refine (rover_is b o' _ _ HO.out).mono ?_; rintro e w1 ⟨rfl, rfl⟩)
        | (go_at_call 194; refine (rgguard_is s a b _ _ HG.out).mono ?_; rintro e w1 ⟨rfl, hb⟩; obtain ⟨m0, m1, hB⟩ := mvr_keep ⟨m0, m1, hB⟩ hb; clear hb))
      go_ret
      exact ⟨rfl, hB⟩
    case false =>
      cases c80
      case true =>
        cases o
        case true =>
          cases g
          case true =>
            cases b78
            case true =>
              cases c82
              case true =>
                cases n
                case true =>
                  have hv : v = true := by rw [← hv0]; rfl
                  subst hv
                  clear hv0
                  go_enter Tryz.func184, Tryz.ntmps184
                  go_wp2_with (first
                    | (go_at_call 192; (try rw [HW.out]); refine (rat_h s _ _ _ (by first | with_reducible exact HX | with_reducible exact HY)).mono ?_; rintro e w1 ⟨rfl, rfl⟩)
                    | (go_at_call 103; refine (rside_s x side _ HS.out).mono ?_; rintro e w1 ⟨rfl, rfl⟩)
                    | (go_at_call 193; refine (rcan_h s _ _ _ _ _ (by first | with_reducible exact HC | with_reducible exact HZ)).mono ?_; rintro e w1 ⟨rfl, hb⟩; obtain ⟨m0, m1, hB⟩ := mvr_keep ⟨m0, m1, hB⟩ hb; clear hb)
                    | (go_at_call 96; refine (rkind_h _ _ _ (by first | with_reducible exact HK | with_reducible exact HL)).mono ?_; rintro e w1 ⟨rfl, rfl⟩)
                    | (go_at_call 22; refine (rover_is b o' _ _ HO.out).mono ?_; rintro e w1 ⟨rfl, rfl⟩)
                    | (go_at_call 194; refine (rgguard_is s a b _ _ HG.out).mono ?_; rintro e w1 ⟨rfl, hb⟩; obtain ⟨m0, m1, hB⟩ := mvr_keep ⟨m0, m1, hB⟩ hb; clear hb))
                  go_ret
                  exact ⟨rfl, hB⟩
                case false =>
                  cases c
                  case true =>
                    have hv : v = false := by rw [← hv0]; rfl
                    subst hv
                    clear hv0
                    go_enter Tryz.func184, Tryz.ntmps184
                    go_wp2_with (first
                      | (go_at_call 192; (try rw [HW.out]); refine (rat_h s _ _ _ (by first | with_reducible exact HX | with_reducible exact HY)).mono ?_; rintro e w1 ⟨rfl, rfl⟩)
                      | (go_at_call 103; refine (rside_s x side _ HS.out).mono ?_; rintro e w1 ⟨rfl, rfl⟩)
                      | (go_at_call 193; refine (rcan_h s _ _ _ _ _ (by first | with_reducible exact HC | with_reducible exact HZ)).mono ?_; rintro e w1 ⟨rfl, hb⟩; obtain ⟨m0, m1, hB⟩ := mvr_keep ⟨m0, m1, hB⟩ hb; clear hb)
                      | (go_at_call 96; refine (rkind_h _ _ _ (by first | with_reducible exact HK | with_reducible exact HL)).mono ?_; rintro e w1 ⟨rfl, rfl⟩)
                      | (go_at_call 22; refine (rover_is b o' _ _ HO.out).mono ?_; rintro e w1 ⟨rfl, rfl⟩)
                      | (go_at_call 194; refine (rgguard_is s a b _ _ HG.out).mono ?_; rintro e w1 ⟨rfl, hb⟩; obtain ⟨m0, m1, hB⟩ := mvr_keep ⟨m0, m1, hB⟩ hb; clear hb))
                    go_ret
                    exact ⟨rfl, hB⟩
                  case false =>
                    have hv : v = true := by rw [← hv0]; rfl
                    subst hv
                    clear hv0
                    go_enter Tryz.func184, Tryz.ntmps184
                    go_wp2_with (first
                      | (go_at_call 192; (try rw [HW.out]); refine (rat_h s _ _ _ (by first | with_reducible exact HX | with_reducible exact HY)).mono ?_; rintro e w1 ⟨rfl, rfl⟩)
                      | (go_at_call 103; refine (rside_s x side _ HS.out).mono ?_; rintro e w1 ⟨rfl, rfl⟩)
                      | (go_at_call 193; refine (rcan_h s _ _ _ _ _ (by first | with_reducible exact HC | with_reducible exact HZ)).mono ?_; rintro e w1 ⟨rfl, hb⟩; obtain ⟨m0, m1, hB⟩ := mvr_keep ⟨m0, m1, hB⟩ hb; clear hb)
                      | (go_at_call 96; refine (rkind_h _ _ _ (by first | with_reducible exact HK | with_reducible exact HL)).mono ?_; rintro e w1 ⟨rfl, rfl⟩)
                      | (go_at_call 22; refine (rover_is b o' _ _ HO.out).mono ?_; rintro e w1 ⟨rfl, rfl⟩)
                      | (go_at_call 194; refine (rgguard_is s a b _ _ HG.out).mono ?_; rintro e w1 ⟨rfl, hb⟩; obtain ⟨m0, m1, hB⟩ := mvr_keep ⟨m0, m1, hB⟩ hb; clear hb))
                    go_ret
                    exact ⟨rfl, hB⟩
              case false =>
                have hv : v = false := by rw [← hv0]; rfl
                subst hv
                clear hv0
                go_enter Tryz.func184, Tryz.ntmps184
                go_wp2_with (first
                  | (go_at_call 192; (try rw [HW.out]); refine (rat_h s _ _ _ (by first | with_reducible exact HX | with_reducible exact HY)).mono ?_; rintro e w1 ⟨rfl, rfl⟩)
                  | (go_at_call 103; refine (rside_s x side _ HS.out).mono ?_; rintro e w1 ⟨rfl, rfl⟩)
                  | (go_at_call 193; refine (rcan_h s _ _ _ _ _ (by first | with_reducible exact HC | with_reducible exact HZ)).mono ?_; rintro e w1 ⟨rfl, hb⟩; obtain ⟨m0, m1, hB⟩ := mvr_keep ⟨m0, m1, hB⟩ hb; clear hb)
                  | (go_at_call 96; refine (rkind_h _ _ _ (by first | with_reducible exact HK | with_reducible exact HL)).mono ?_; rintro e w1 ⟨rfl, rfl⟩)
                  | (go_at_call 22; refine (rover_is b o' _ _ HO.out).mono ?_; rintro e w1 ⟨rfl, rfl⟩)
                  | (go_at_call 194; refine (rgguard_is s a b _ _ HG.out).mono ?_; rintro e w1 ⟨rfl, hb⟩; obtain ⟨m0, m1, hB⟩ := mvr_keep ⟨m0, m1, hB⟩ hb; clear hb))
                go_ret
                exact ⟨rfl, hB⟩
            case false =>
              cases b67
              case true =>
                cases c82
                case true =>
                  cases n
                  case true =>
                    have hv : v = true := by rw [← hv0]; rfl
                    subst hv
                    clear hv0
                    go_enter Tryz.func184, Tryz.ntmps184
                    go_wp2_with (first
                      | (go_at_call 192; (try rw [HW.out]); refine (rat_h s _ _ _ (by first | with_reducible exact HX | with_reducible exact HY)).mono ?_; rintro e w1 ⟨rfl, rfl⟩)
                      | (go_at_call 103; refine (rside_s x side _ HS.out).mono ?_; rintro e w1 ⟨rfl, rfl⟩)
                      | (go_at_call 193; refine (rcan_h s _ _ _ _ _ (by first | with_reducible exact HC | with_reducible exact HZ)).mono ?_; rintro e w1 ⟨rfl, hb⟩; obtain ⟨m0, m1, hB⟩ := mvr_keep ⟨m0, m1, hB⟩ hb; clear hb)
                      | (go_at_call 96; refine (rkind_h _ _ _ (by first | with_reducible exact HK | with_reducible exact HL)).mono ?_; rintro e w1 ⟨rfl, rfl⟩)
                      | (go_at_call 22; refine (rover_is b o' _ _ HO.out).mono ?_; rintro e w1 ⟨rfl, rfl⟩)
                      | (go_at_call 194; refine (rgguard_is s a b _ _ HG.out).mono ?_; rintro e w1 ⟨rfl, hb⟩; obtain ⟨m0, m1, hB⟩ := mvr_keep ⟨m0, m1, hB⟩ hb; clear hb))
                    go_ret
                    exact ⟨rfl, hB⟩
                  case false =>
                    cases c
                    case true =>
                      have hv : v = false := by rw [← hv0]; rfl
                      subst hv
                      clear hv0
                      go_enter Tryz.func184, Tryz.ntmps184
                      go_wp2_with (first
                        | (go_at_call 192; (try rw [HW.out]); refine (rat_h s _ _ _ (by first | with_reducible exact HX | with_reducible exact HY)).mono ?_; rintro e w1 ⟨rfl, rfl⟩)
                        | (go_at_call 103; refine (rside_s x side _ HS.out).mono ?_; rintro e w1 ⟨rfl, rfl⟩)
                        | (go_at_call 193; refine (rcan_h s _ _ _ _ _ (by first | with_reducible exact HC | with_reducible exact HZ)).mono ?_; rintro e w1 ⟨rfl, hb⟩; obtain ⟨m0, m1, hB⟩ := mvr_keep ⟨m0, m1, hB⟩ hb; clear hb)
                        | (go_at_call 96; refine (rkind_h _ _ _ (by first | with_reducible exact HK | with_reducible exact HL)).mono ?_; rintro e w1 ⟨rfl, rfl⟩)
                        | (go_at_call 22; refine (rover_is b o' _ _ HO.out).mono ?_; rintro e w1 ⟨rfl, rfl⟩)
                        | (go_at_call 194; refine (rgguard_is s a b _ _ HG.out).mono ?_; rintro e w1 ⟨rfl, hb⟩; obtain ⟨m0, m1, hB⟩ := mvr_keep ⟨m0, m1, hB⟩ hb; clear hb))
                      go_ret
                      exact ⟨rfl, hB⟩
                    case false =>
                      have hv : v = true := by rw [← hv0]; rfl
                      subst hv
                      clear hv0
                      go_enter Tryz.func184, Tryz.ntmps184
                      go_wp2_with (first
                        | (go_at_call 192; (try rw [HW.out]); refine (rat_h s _ _ _ (by first | with_reducible exact HX | with_reducible exact HY)).mono ?_; rintro e w1 ⟨rfl, rfl⟩)
                        | (go_at_call 103; refine (rside_s x side _ HS.out).mono ?_; rintro e w1 ⟨rfl, rfl⟩)
                        | (go_at_call 193; refine (rcan_h s _ _ _ _ _ (by first | with_reducible exact HC | with_reducible exact HZ)).mono ?_; rintro e w1 ⟨rfl, hb⟩; obtain ⟨m0, m1, hB⟩ := mvr_keep ⟨m0, m1, hB⟩ hb; clear hb)
                        | (go_at_call 96; refine (rkind_h _ _ _ (by first | with_reducible exact HK | with_reducible exact HL)).mono ?_; rintro e w1 ⟨rfl, rfl⟩)
                        | (go_at_call 22; refine (rover_is b o' _ _ HO.out).mono ?_; rintro e w1 ⟨rfl, rfl⟩)
                        | (go_at_call 194; refine (rgguard_is s a b _ _ HG.out).mono ?_; rintro e w1 ⟨rfl, hb⟩; obtain ⟨m0, m1, hB⟩ := mvr_keep ⟨m0, m1, hB⟩ hb; clear hb))
                      go_ret
                      exact ⟨rfl, hB⟩
                case false =>
                  have hv : v = false := by rw [← hv0]; rfl
                  subst hv
                  clear hv0
                  go_enter Tryz.func184, Tryz.ntmps184
                  go_wp2_with (first
                    | (go_at_call 192; (try rw [HW.out]); refine (rat_h s _ _ _ (by first | with_reducible exact HX | with_reducible exact HY)).mono ?_; rintro e w1 ⟨rfl, rfl⟩)
                    | (go_at_call 103; refine (rside_s x side _ HS.out).mono ?_; rintro e w1 ⟨rfl, rfl⟩)
                    | (go_at_call 193; refine (rcan_h s _ _ _ _ _ (by first | with_reducible exact HC | with_reducible exact HZ)).mono ?_; rintro e w1 ⟨rfl, hb⟩; obtain ⟨m0, m1, hB⟩ := mvr_keep ⟨m0, m1, hB⟩ hb; clear hb)
                    | (go_at_call 96; refine (rkind_h _ _ _ (by first | with_reducible exact HK | with_reducible exact HL)).mono ?_; rintro e w1 ⟨rfl, rfl⟩)
                    | (go_at_call 22; refine (rover_is b o' _ _ HO.out).mono ?_; rintro e w1 ⟨rfl, rfl⟩)
                    | (go_at_call 194; refine (rgguard_is s a b _ _ HG.out).mono ?_; rintro e w1 ⟨rfl, hb⟩; obtain ⟨m0, m1, hB⟩ := mvr_keep ⟨m0, m1, hB⟩ hb; clear hb))
                  go_ret
                  exact ⟨rfl, hB⟩
              case false =>
                have hv : v = false := by rw [← hv0]; rfl
                subst hv
                clear hv0
                go_enter Tryz.func184, Tryz.ntmps184
                go_wp2_with (first
                  | (go_at_call 192; (try rw [HW.out]); refine (rat_h s _ _ _ (by first | with_reducible exact HX | with_reducible exact HY)).mono ?_; rintro e w1 ⟨rfl, rfl⟩)
                  | (go_at_call 103; refine (rside_s x side _ HS.out).mono ?_; rintro e w1 ⟨rfl, rfl⟩)
                  | (go_at_call 193; refine (rcan_h s _ _ _ _ _ (by first | with_reducible exact HC | with_reducible exact HZ)).mono ?_; rintro e w1 ⟨rfl, hb⟩; obtain ⟨m0, m1, hB⟩ := mvr_keep ⟨m0, m1, hB⟩ hb; clear hb)
                  | (go_at_call 96; refine (rkind_h _ _ _ (by first | with_reducible exact HK | with_reducible exact HL)).mono ?_; rintro e w1 ⟨rfl, rfl⟩)
                  | (go_at_call 22; refine (rover_is b o' _ _ HO.out).mono ?_; rintro e w1 ⟨rfl, rfl⟩)
                  | (go_at_call 194; refine (rgguard_is s a b _ _ HG.out).mono ?_; rintro e w1 ⟨rfl, hb⟩; obtain ⟨m0, m1, hB⟩ := mvr_keep ⟨m0, m1, hB⟩ hb; clear hb))
                go_ret
                exact ⟨rfl, hB⟩
          case false =>
            cases n
            case true =>
              have hv : v = true := by rw [← hv0]; rfl
              subst hv
              clear hv0
              go_enter Tryz.func184, Tryz.ntmps184
              go_wp2_with (first
                | (go_at_call 192; (try rw [HW.out]); refine (rat_h s _ _ _ (by first | with_reducible exact HX | with_reducible exact HY)).mono ?_; rintro e w1 ⟨rfl, rfl⟩)
                | (go_at_call 103; refine (rside_s x side _ HS.out).mono ?_; rintro e w1 ⟨rfl, rfl⟩)
                | (go_at_call 193; refine (rcan_h s _ _ _ _ _ (by first | with_reducible exact HC | with_reducible exact HZ)).mono ?_; rintro e w1 ⟨rfl, hb⟩; obtain ⟨m0, m1, hB⟩ := mvr_keep ⟨m0, m1, hB⟩ hb; clear hb)
                | (go_at_call 96; refine (rkind_h _ _ _ (by first | with_reducible exact HK | with_reducible exact HL)).mono ?_; rintro e w1 ⟨rfl, rfl⟩)
                | (go_at_call 22; refine (rover_is b o' _ _ HO.out).mono ?_; rintro e w1 ⟨rfl, rfl⟩)
                | (go_at_call 194; refine (rgguard_is s a b _ _ HG.out).mono ?_; rintro e w1 ⟨rfl, hb⟩; obtain ⟨m0, m1, hB⟩ := mvr_keep ⟨m0, m1, hB⟩ hb; clear hb))
              go_ret
              exact ⟨rfl, hB⟩
            case false =>
              cases c
              case true =>
                have hv : v = false := by rw [← hv0]; rfl
                subst hv
                clear hv0
                go_enter Tryz.func184, Tryz.ntmps184
                go_wp2_with (first
                  | (go_at_call 192; (try rw [HW.out]); refine (rat_h s _ _ _ (by first | with_reducible exact HX | with_reducible exact HY)).mono ?_; rintro e w1 ⟨rfl, rfl⟩)
                  | (go_at_call 103; refine (rside_s x side _ HS.out).mono ?_; rintro e w1 ⟨rfl, rfl⟩)
                  | (go_at_call 193; refine (rcan_h s _ _ _ _ _ (by first | with_reducible exact HC | with_reducible exact HZ)).mono ?_; rintro e w1 ⟨rfl, hb⟩; obtain ⟨m0, m1, hB⟩ := mvr_keep ⟨m0, m1, hB⟩ hb; clear hb)
                  | (go_at_call 96; refine (rkind_h _ _ _ (by first | with_reducible exact HK | with_reducible exact HL)).mono ?_; rintro e w1 ⟨rfl, rfl⟩)
                  | (go_at_call 22; refine (rover_is b o' _ _ HO.out).mono ?_; rintro e w1 ⟨rfl, rfl⟩)
                  | (go_at_call 194; refine (rgguard_is s a b _ _ HG.out).mono ?_; rintro e w1 ⟨rfl, hb⟩; obtain ⟨m0, m1, hB⟩ := mvr_keep ⟨m0, m1, hB⟩ hb; clear hb))
                go_ret
                exact ⟨rfl, hB⟩
              case false =>
                have hv : v = true := by rw [← hv0]; rfl
                subst hv
                clear hv0
                go_enter Tryz.func184, Tryz.ntmps184
                go_wp2_with (first
                  | (go_at_call 192; (try rw [HW.out]); refine (rat_h s _ _ _ (by first | with_reducible exact HX | with_reducible exact HY)).mono ?_; rintro e w1 ⟨rfl, rfl⟩)
                  | (go_at_call 103; refine (rside_s x side _ HS.out).mono ?_; rintro e w1 ⟨rfl, rfl⟩)
                  | (go_at_call 193; refine (rcan_h s _ _ _ _ _ (by first | with_reducible exact HC | with_reducible exact HZ)).mono ?_; rintro e w1 ⟨rfl, hb⟩; obtain ⟨m0, m1, hB⟩ := mvr_keep ⟨m0, m1, hB⟩ hb; clear hb)
                  | (go_at_call 96; refine (rkind_h _ _ _ (by first | with_reducible exact HK | with_reducible exact HL)).mono ?_; rintro e w1 ⟨rfl, rfl⟩)
                  | (go_at_call 22; refine (rover_is b o' _ _ HO.out).mono ?_; rintro e w1 ⟨rfl, rfl⟩)
                  | (go_at_call 194; refine (rgguard_is s a b _ _ HG.out).mono ?_; rintro e w1 ⟨rfl, hb⟩; obtain ⟨m0, m1, hB⟩ := mvr_keep ⟨m0, m1, hB⟩ hb; clear hb))
                go_ret
                exact ⟨rfl, hB⟩
        case false =>
          have hv : v = false := by rw [← hv0]; rfl
          subst hv
          clear hv0
          go_enter Tryz.func184, Tryz.ntmps184
          go_wp2_with (first
            | (go_at_call 192; (try rw [HW.out]); refine (rat_h s _ _ _ (by first | with_reducible exact HX | with_reducible exact HY)).mono ?_; rintro e w1 ⟨rfl, rfl⟩)
            | (go_at_call 103; refine (rside_s x side _ HS.out).mono ?_; rintro e w1 ⟨rfl, rfl⟩)
            | (go_at_call 193; refine (rcan_h s _ _ _ _ _ (by first | with_reducible exact HC | with_reducible exact HZ)).mono ?_; rintro e w1 ⟨rfl, hb⟩; obtain ⟨m0, m1, hB⟩ := mvr_keep ⟨m0, m1, hB⟩ hb; clear hb)
            | (go_at_call 96; refine (rkind_h _ _ _ (by first | with_reducible exact HK | with_reducible exact HL)).mono ?_; rintro e w1 ⟨rfl, rfl⟩)
            | (go_at_call 22; refine (rover_is b o' _ _ HO.out).mono ?_; rintro e w1 ⟨rfl, rfl⟩)
            | (go_at_call 194; refine (rgguard_is s a b _ _ HG.out).mono ?_; rintro e w1 ⟨rfl, hb⟩; obtain ⟨m0, m1, hB⟩ := mvr_keep ⟨m0, m1, hB⟩ hb; clear hb))
          go_ret
          exact ⟨rfl, hB⟩
      case false =>
        cases g
        case true =>
          cases b78
          case true =>
            cases c82
            case true =>
              cases n
              case true =>
                have hv : v = true := by rw [← hv0]; rfl
                subst hv
                clear hv0
                go_enter Tryz.func184, Tryz.ntmps184
                go_wp2_with (first
                  | (go_at_call 192; (try rw [HW.out]); refine (rat_h s _ _ _ (by first | with_reducible exact HX | with_reducible exact HY)).mono ?_; rintro e w1 ⟨rfl, rfl⟩)
                  | (go_at_call 103; refine (rside_s x side _ HS.out).mono ?_; rintro e w1 ⟨rfl, rfl⟩)
                  | (go_at_call 193; refine (rcan_h s _ _ _ _ _ (by first | with_reducible exact HC | with_reducible exact HZ)).mono ?_; rintro e w1 ⟨rfl, hb⟩; obtain ⟨m0, m1, hB⟩ := mvr_keep ⟨m0, m1, hB⟩ hb; clear hb)
                  | (go_at_call 96; refine (rkind_h _ _ _ (by first | with_reducible exact HK | with_reducible exact HL)).mono ?_; rintro e w1 ⟨rfl, rfl⟩)
                  | (go_at_call 22; refine (rover_is b o' _ _ HO.out).mono ?_; rintro e w1 ⟨rfl, rfl⟩)
                  | (go_at_call 194; refine (rgguard_is s a b _ _ HG.out).mono ?_; rintro e w1 ⟨rfl, hb⟩; obtain ⟨m0, m1, hB⟩ := mvr_keep ⟨m0, m1, hB⟩ hb; clear hb))
                go_ret
                exact ⟨rfl, hB⟩
              case false =>
                cases c
                case true =>
                  have hv : v = false := by rw [← hv0]; rfl
                  subst hv
                  clear hv0
                  go_enter Tryz.func184, Tryz.ntmps184
                  go_wp2_with (first
                    | (go_at_call 192; (try rw [HW.out]); refine (rat_h s _ _ _ (by first | with_reducible exact HX | with_reducible exact HY)).mono ?_; rintro e w1 ⟨rfl, rfl⟩)
                    | (go_at_call 103; refine (rside_s x side _ HS.out).mono ?_; rintro e w1 ⟨rfl, rfl⟩)
                    | (go_at_call 193; refine (rcan_h s _ _ _ _ _ (by first | with_reducible exact HC | with_reducible exact HZ)).mono ?_; rintro e w1 ⟨rfl, hb⟩; obtain ⟨m0, m1, hB⟩ := mvr_keep ⟨m0, m1, hB⟩ hb; clear hb)
                    | (go_at_call 96; refine (rkind_h _ _ _ (by first | with_reducible exact HK | with_reducible exact HL)).mono ?_; rintro e w1 ⟨rfl, rfl⟩)
                    | (go_at_call 22; refine (rover_is b o' _ _ HO.out).mono ?_; rintro e w1 ⟨rfl, rfl⟩)
                    | (go_at_call 194; refine (rgguard_is s a b _ _ HG.out).mono ?_; rintro e w1 ⟨rfl, hb⟩; obtain ⟨m0, m1, hB⟩ := mvr_keep ⟨m0, m1, hB⟩ hb; clear hb))
                  go_ret
                  exact ⟨rfl, hB⟩
                case false =>
                  have hv : v = true := by rw [← hv0]; rfl
                  subst hv
                  clear hv0
                  go_enter Tryz.func184, Tryz.ntmps184
                  go_wp2_with (first
                    | (go_at_call 192; (try rw [HW.out]); refine (rat_h s _ _ _ (by first | with_reducible exact HX | with_reducible exact HY)).mono ?_; rintro e w1 ⟨rfl, rfl⟩)
                    | (go_at_call 103; refine (rside_s x side _ HS.out).mono ?_; rintro e w1 ⟨rfl, rfl⟩)
                    | (go_at_call 193; refine (rcan_h s _ _ _ _ _ (by first | with_reducible exact HC | with_reducible exact HZ)).mono ?_; rintro e w1 ⟨rfl, hb⟩; obtain ⟨m0, m1, hB⟩ := mvr_keep ⟨m0, m1, hB⟩ hb; clear hb)
                    | (go_at_call 96; refine (rkind_h _ _ _ (by first | with_reducible exact HK | with_reducible exact HL)).mono ?_; rintro e w1 ⟨rfl, rfl⟩)
                    | (go_at_call 22; refine (rover_is b o' _ _ HO.out).mono ?_; rintro e w1 ⟨rfl, rfl⟩)
                    | (go_at_call 194; refine (rgguard_is s a b _ _ HG.out).mono ?_; rintro e w1 ⟨rfl, hb⟩; obtain ⟨m0, m1, hB⟩ := mvr_keep ⟨m0, m1, hB⟩ hb; clear hb))
                  go_ret
                  exact ⟨rfl, hB⟩
            case false =>
              have hv : v = false := by rw [← hv0]; rfl
              subst hv
              clear hv0
              go_enter Tryz.func184, Tryz.ntmps184
              go_wp2_with (first
                | (go_at_call 192; (try rw [HW.out]); refine (rat_h s _ _ _ (by first | with_reducible exact HX | with_reducible exact HY)).mono ?_; rintro e w1 ⟨rfl, rfl⟩)
                | (go_at_call 103; refine (rside_s x side _ HS.out).mono ?_; rintro e w1 ⟨rfl, rfl⟩)
                | (go_at_call 193; refine (rcan_h s _ _ _ _ _ (by first | with_reducible exact HC | with_reducible exact HZ)).mono ?_; rintro e w1 ⟨rfl, hb⟩; obtain ⟨m0, m1, hB⟩ := mvr_keep ⟨m0, m1, hB⟩ hb; clear hb)
                | (go_at_call 96; refine (rkind_h _ _ _ (by first | with_reducible exact HK | with_reducible exact HL)).mono ?_; rintro e w1 ⟨rfl, rfl⟩)
                | (go_at_call 22; refine (rover_is b o' _ _ HO.out).mono ?_; rintro e w1 ⟨rfl, rfl⟩)
                | (go_at_call 194; refine (rgguard_is s a b _ _ HG.out).mono ?_; rintro e w1 ⟨rfl, hb⟩; obtain ⟨m0, m1, hB⟩ := mvr_keep ⟨m0, m1, hB⟩ hb; clear hb))
              go_ret
              exact ⟨rfl, hB⟩
          case false =>
            cases b67
            case true =>
              cases c82
              case true =>
                cases n
                case true =>
                  have hv : v = true := by rw [← hv0]; rfl
                  subst hv
                  clear hv0
                  go_enter Tryz.func184, Tryz.ntmps184
                  go_wp2_with (first
                    | (go_at_call 192; (try rw [HW.out]); refine (rat_h s _ _ _ (by first | with_reducible exact HX | with_reducible exact HY)).mono ?_; rintro e w1 ⟨rfl, rfl⟩)
                    | (go_at_call 103; refine (rside_s x side _ HS.out).mono ?_; rintro e w1 ⟨rfl, rfl⟩)
                    | (go_at_call 193; refine (rcan_h s _ _ _ _ _ (by first | with_reducible exact HC | with_reducible exact HZ)).mono ?_; rintro e w1 ⟨rfl, hb⟩; obtain ⟨m0, m1, hB⟩ := mvr_keep ⟨m0, m1, hB⟩ hb; clear hb)
                    | (go_at_call 96; refine (rkind_h _ _ _ (by first | with_reducible exact HK | with_reducible exact HL)).mono ?_; rintro e w1 ⟨rfl, rfl⟩)
                    | (go_at_call 22; refine (rover_is b o' _ _ HO.out).mono ?_; rintro e w1 ⟨rfl, rfl⟩)
                    | (go_at_call 194; refine (rgguard_is s a b _ _ HG.out).mono ?_; rintro e w1 ⟨rfl, hb⟩; obtain ⟨m0, m1, hB⟩ := mvr_keep ⟨m0, m1, hB⟩ hb; clear hb))
                  go_ret
                  exact ⟨rfl, hB⟩
                case false =>
                  cases c
                  case true =>
                    have hv : v = false := by rw [← hv0]; rfl
                    subst hv
                    clear hv0
                    go_enter Tryz.func184, Tryz.ntmps184
                    go_wp2_with (first
                      | (go_at_call 192; (try rw [HW.out]); refine (rat_h s _ _ _ (by first | with_reducible exact HX | with_reducible exact HY)).mono ?_; rintro e w1 ⟨rfl, rfl⟩)
                      | (go_at_call 103; refine (rside_s x side _ HS.out).mono ?_; rintro e w1 ⟨rfl, rfl⟩)
                      | (go_at_call 193; refine (rcan_h s _ _ _ _ _ (by first | with_reducible exact HC | with_reducible exact HZ)).mono ?_; rintro e w1 ⟨rfl, hb⟩; obtain ⟨m0, m1, hB⟩ := mvr_keep ⟨m0, m1, hB⟩ hb; clear hb)
                      | (go_at_call 96; refine (rkind_h _ _ _ (by first | with_reducible exact HK | with_reducible exact HL)).mono ?_; rintro e w1 ⟨rfl, rfl⟩)
                      | (go_at_call 22; refine (rover_is b o' _ _ HO.out).mono ?_; rintro e w1 ⟨rfl, rfl⟩)
                      | (go_at_call 194; refine (rgguard_is s a b _ _ HG.out).mono ?_; rintro e w1 ⟨rfl, hb⟩; obtain ⟨m0, m1, hB⟩ := mvr_keep ⟨m0, m1, hB⟩ hb; clear hb))
                    go_ret
                    exact ⟨rfl, hB⟩
                  case false =>
                    have hv : v = true := by rw [← hv0]; rfl
                    subst hv
                    clear hv0
                    go_enter Tryz.func184, Tryz.ntmps184
                    go_wp2_with (first
                      | (go_at_call 192; (try rw [HW.out]); refine (rat_h s _ _ _ (by first | with_reducible exact HX | with_reducible exact HY)).mono ?_; rintro e w1 ⟨rfl, rfl⟩)
                      | (go_at_call 103; refine (rside_s x side _ HS.out).mono ?_; rintro e w1 ⟨rfl, rfl⟩)
                      | (go_at_call 193; refine (rcan_h s _ _ _ _ _ (by first | with_reducible exact HC | with_reducible exact HZ)).mono ?_; rintro e w1 ⟨rfl, hb⟩; obtain ⟨m0, m1, hB⟩ := mvr_keep ⟨m0, m1, hB⟩ hb; clear hb)
                      | (go_at_call 96; refine (rkind_h _ _ _ (by first | with_reducible exact HK | with_reducible exact HL)).mono ?_; rintro e w1 ⟨rfl, rfl⟩)
                      | (go_at_call 22; refine (rover_is b o' _ _ HO.out).mono ?_; rintro e w1 ⟨rfl, rfl⟩)
                      | (go_at_call 194; refine (rgguard_is s a b _ _ HG.out).mono ?_; rintro e w1 ⟨rfl, hb⟩; obtain ⟨m0, m1, hB⟩ := mvr_keep ⟨m0, m1, hB⟩ hb; clear hb))
                    go_ret
                    exact ⟨rfl, hB⟩
              case false =>
                have hv : v = false := by rw [← hv0]; rfl
                subst hv
                clear hv0
                go_enter Tryz.func184, Tryz.ntmps184
                go_wp2_with (first
                  | (go_at_call 192; (try rw [HW.out]); refine (rat_h s _ _ _ (by first | with_reducible exact HX | with_reducible exact HY)).mono ?_; rintro e w1 ⟨rfl, rfl⟩)
                  | (go_at_call 103; refine (rside_s x side _ HS.out).mono ?_; rintro e w1 ⟨rfl, rfl⟩)
                  | (go_at_call 193; refine (rcan_h s _ _ _ _ _ (by first | with_reducible exact HC | with_reducible exact HZ)).mono ?_; rintro e w1 ⟨rfl, hb⟩; obtain ⟨m0, m1, hB⟩ := mvr_keep ⟨m0, m1, hB⟩ hb; clear hb)
                  | (go_at_call 96; refine (rkind_h _ _ _ (by first | with_reducible exact HK | with_reducible exact HL)).mono ?_; rintro e w1 ⟨rfl, rfl⟩)
                  | (go_at_call 22; refine (rover_is b o' _ _ HO.out).mono ?_; rintro e w1 ⟨rfl, rfl⟩)
                  | (go_at_call 194; refine (rgguard_is s a b _ _ HG.out).mono ?_; rintro e w1 ⟨rfl, hb⟩; obtain ⟨m0, m1, hB⟩ := mvr_keep ⟨m0, m1, hB⟩ hb; clear hb))
                go_ret
                exact ⟨rfl, hB⟩
            case false =>
              have hv : v = false := by rw [← hv0]; rfl
              subst hv
              clear hv0
              go_enter Tryz.func184, Tryz.ntmps184
              go_wp2_with (first
                | (go_at_call 192; (try rw [HW.out]); refine (rat_h s _ _ _ (by first | with_reducible exact HX | with_reducible exact HY)).mono ?_; rintro e w1 ⟨rfl, rfl⟩)
                | (go_at_call 103; refine (rside_s x side _ HS.out).mono ?_; rintro e w1 ⟨rfl, rfl⟩)
                | (go_at_call 193; refine (rcan_h s _ _ _ _ _ (by first | with_reducible exact HC | with_reducible exact HZ)).mono ?_; rintro e w1 ⟨rfl, hb⟩; obtain ⟨m0, m1, hB⟩ := mvr_keep ⟨m0, m1, hB⟩ hb; clear hb)
                | (go_at_call 96; refine (rkind_h _ _ _ (by first | with_reducible exact HK | with_reducible exact HL)).mono ?_; rintro e w1 ⟨rfl, rfl⟩)
                | (go_at_call 22; refine (rover_is b o' _ _ HO.out).mono ?_; rintro e w1 ⟨rfl, rfl⟩)
                | (go_at_call 194; refine (rgguard_is s a b _ _ HG.out).mono ?_; rintro e w1 ⟨rfl, hb⟩; obtain ⟨m0, m1, hB⟩ := mvr_keep ⟨m0, m1, hB⟩ hb; clear hb))
              go_ret
              exact ⟨rfl, hB⟩
        case false =>
          cases n
          case true =>
            have hv : v = true := by rw [← hv0]; rfl
            subst hv
            clear hv0
            go_enter Tryz.func184, Tryz.ntmps184
            go_wp2_with (first
              | (go_at_call 192; (try rw [HW.out]); refine (rat_h s _ _ _ (by first | with_reducible exact HX | with_reducible exact HY)).mono ?_; rintro e w1 ⟨rfl, rfl⟩)
              | (go_at_call 103; refine (rside_s x side _ HS.out).mono ?_; rintro e w1 ⟨rfl, rfl⟩)
              | (go_at_call 193; refine (rcan_h s _ _ _ _ _ (by first | with_reducible exact HC | with_reducible exact HZ)).mono ?_; rintro e w1 ⟨rfl, hb⟩; obtain ⟨m0, m1, hB⟩ := mvr_keep ⟨m0, m1, hB⟩ hb; clear hb)
              | (go_at_call 96; refine (rkind_h _ _ _ (by first | with_reducible exact HK | with_reducible exact HL)).mono ?_; rintro e w1 ⟨rfl, rfl⟩)
              | (go_at_call 22; refine (rover_is b o' _ _ HO.out).mono ?_; rintro e w1 ⟨rfl, rfl⟩)
              | (go_at_call 194; refine (rgguard_is s a b _ _ HG.out).mono ?_; rintro e w1 ⟨rfl, hb⟩; obtain ⟨m0, m1, hB⟩ := mvr_keep ⟨m0, m1, hB⟩ hb; clear hb))
            go_ret
            exact ⟨rfl, hB⟩
          case false =>
            cases c
            case true =>
              have hv : v = false := by rw [← hv0]; rfl
              subst hv
              clear hv0
              go_enter Tryz.func184, Tryz.ntmps184
              go_wp2_with (first
                | (go_at_call 192; (try rw [HW.out]); refine (rat_h s _ _ _ (by first | with_reducible exact HX | with_reducible exact HY)).mono ?_; rintro e w1 ⟨rfl, rfl⟩)
                | (go_at_call 103; refine (rside_s x side _ HS.out).mono ?_; rintro e w1 ⟨rfl, rfl⟩)
                | (go_at_call 193; refine (rcan_h s _ _ _ _ _ (by first | with_reducible exact HC | with_reducible exact HZ)).mono ?_; rintro e w1 ⟨rfl, hb⟩; obtain ⟨m0, m1, hB⟩ := mvr_keep ⟨m0, m1, hB⟩ hb; clear hb)
                | (go_at_call 96; refine (rkind_h _ _ _ (by first | with_reducible exact HK | with_reducible exact HL)).mono ?_; rintro e w1 ⟨rfl, rfl⟩)
                | (go_at_call 22; refine (rover_is b o' _ _ HO.out).mono ?_; rintro e w1 ⟨rfl, rfl⟩)
                | (go_at_call 194; refine (rgguard_is s a b _ _ HG.out).mono ?_; rintro e w1 ⟨rfl, hb⟩; obtain ⟨m0, m1, hB⟩ := mvr_keep ⟨m0, m1, hB⟩ hb; clear hb))
              go_ret
              exact ⟨rfl, hB⟩
            case false =>
              have hv : v = true := by rw [← hv0]; rfl
              subst hv
              clear hv0
              go_enter Tryz.func184, Tryz.ntmps184
              go_wp2_with (first
                | (go_at_call 192; (try rw [HW.out]); refine (rat_h s _ _ _ (by first | with_reducible exact HX | with_reducible exact HY)).mono ?_; rintro e w1 ⟨rfl, rfl⟩)
                | (go_at_call 103; refine (rside_s x side _ HS.out).mono ?_; rintro e w1 ⟨rfl, rfl⟩)
                | (go_at_call 193; refine (rcan_h s _ _ _ _ _ (by first | with_reducible exact HC | with_reducible exact HZ)).mono ?_; rintro e w1 ⟨rfl, hb⟩; obtain ⟨m0, m1, hB⟩ := mvr_keep ⟨m0, m1, hB⟩ hb; clear hb)
                | (go_at_call 96; refine (rkind_h _ _ _ (by first | with_reducible exact HK | with_reducible exact HL)).mono ?_; rintro e w1 ⟨rfl, rfl⟩)
                | (go_at_call 22; refine (rover_is b o' _ _ HO.out).mono ?_; rintro e w1 ⟨rfl, rfl⟩)
                | (go_at_call 194; refine (rgguard_is s a b _ _ HG.out).mono ?_; rintro e w1 ⟨rfl, hb⟩; obtain ⟨m0, m1, hB⟩ := mvr_keep ⟨m0, m1, hB⟩ hb; clear hb))
              go_ret
              exact ⟨rfl, hB⟩
theorem rat_board {s : ByteArray} (hs : isB s = true) {n : Nat} (hn : n < 90) : ratN s (n : Int) = bAt s n := by
  unfold ratN
  rw [if_pos ⟨sqI_true (by omega), isB_size hs⟩, Int.toNat_natCast]
theorem rthreat_any (s : ByteArray) (a b : Int) (w : World) : Calls Tryz.prog 184 #[.string s, .agg #[.int .i64 a, .int .i64 b]] w (Gives w (.bool (threatI s a b))) := by
  by_cases h : ratN s b = 46 ∨ couldI s (sideN (ratN s a)) a b = false
  · have e : threatI s a b = false := by
      cases e : threatI s a b
      · rfl
      · unfold threatI at e
        simp only [Bool.and_eq_true] at e
        obtain ⟨⟨⟨hs, ha⟩, hb⟩, ht⟩ := e
        obtain ⟨a0, a1⟩ := sqI_iff.1 ha
        obtain ⟨b0, b1⟩ := sqI_iff.1 hb
        obtain ⟨m, rfl⟩ : ∃ m : Nat, a = m := ⟨a.toNat, by omega⟩
        obtain ⟨n, rfl⟩ : ∃ n : Nat, b = n := ⟨b.toNat, by omega⟩
        have hm : m < 90 := by omega
        have hn : n < 90 := by omega
        rw [Int.toNat_natCast, Int.toNat_natCast] at ht
        obtain ⟨t1, t2, _⟩ := threat_parts.1 ht
        rw [rat_board hs hm, rat_board hs hn, couldI_nat hs hm hn] at h
        rcases h with h | h
        · exact absurd h t1
        · rw [t2] at h
          cases h
    rw [e]
    exact rthreat_none s a b _ _ _ w rfl rfl rfl h
  · have hy : ratN s b ≠ 46 := fun e => h (.inl e)
    have hc : couldI s (sideN (ratN s a)) a b = true := by
      cases e : couldI s (sideN (ratN s a)) a b
      · exact absurd (.inr e) h
      · rfl
    obtain ⟨hs, ⟨a0, a1⟩, ⟨b0, b1⟩, hcb⟩ := couldI_parts hc
    obtain ⟨m, rfl⟩ : ∃ m : Nat, a = m := ⟨a.toNat, by omega⟩
    obtain ⟨n, rfl⟩ : ∃ n : Nat, b = n := ⟨b.toNat, by omega⟩
    have hm : m < 90 := by omega
    have hn : n < 90 := by omega
    rw [Int.toNat_natCast, Int.toNat_natCast] at hcb
    have hsd := could_sides hcb
    refine rthreat_some s _ _ _ _ _ _ _ _ _ _ _ (threatI s (m : Int) (n : Int)) w rfl rfl rfl hy hc rfl rfl (by omega) (by omega) rfl rfl rfl rfl ?_
    rw [tvb_is, threatI_nat hs hm hn, rat_board hs hm, rat_board hs hn, guardI_nat hs hm hn, couldI_nat hs hn hm]
    rw [rat_board hs hm] at hcb
    rw [rat_board hs hn] at hy
    have hto := could_to hs hn hcb hy
    unfold threatB momentB worthB fairB
    rw [hcb, hto, show (bAt s n != 46) = true by rw [bne_iff_ne]; exact hy]
    rfl
theorem rthreat_is (s : ByteArray) (a b : Int) (v : Bool) (w : World) (h : threatI s a b = v) : Calls Tryz.prog 184 #[.string s, .agg #[.int .i64 a, .int .i64 b]] w (Gives w (.bool v)) := by subst h; exact rthreat_any s a b w
end Go.Proofs.YtnkbilikkbaeeaaGreatDoor

namespace Go.Proofs.YtnkbilikkbaeeaaGreatDoor
open Go.RowKit Go.Shelf
open M (S)

/-- Whether one of the first k of them threatens a square. -/
def markB (s : ByteArray) (L : List (Nat × Nat)) (k n : Nat) : Bool := (L.take k).any fun m => m.2 == n && threatB s m.1 m.2
theorem markB_succ (s : ByteArray) (L : List (Nat × Nat)) {k : Nat} (h : k < L.length) (n : Nat) : markB s L (k + 1) n = (markB s L k n || (L[k].2 == n && threatB s L[k].1 L[k].2)) := by
  unfold markB
  rw [List.take_succ_eq_append_getElem h, List.any_append]
  simp
/-- 90 marks in memory. -/
def markC (s : ByteArray) (L : List (Nat × Nat)) (k : Nat) : Array Value := ((List.range 90).map fun i => Value.bool (markB s L k i)).toArray
theorem markC_at (s : ByteArray) (L : List (Nat × Nat)) (k i : Nat) (h : i < 90) : (markC s L k)[i]? = some (.bool (markB s L k i)) := by simp [markC, h]
theorem markC_no (s : ByteArray) (L : List (Nat × Nat)) {k : Nat} (h : k < L.length) (ht : threatB s L[k].1 L[k].2 = false) : markC s L (k + 1) = markC s L k := by
  unfold markC
  congr 1
  refine List.map_congr_left fun i _ => ?_
  rw [markB_succ s L h, ht, Bool.and_false, Bool.or_false]
theorem markC_yes (s : ByteArray) (L : List (Nat × Nat)) {k : Nat} (h : k < L.length) (ht : threatB s L[k].1 L[k].2 = true) : (markC s L k).setIfInBounds L[k].2 (.bool true) = markC s L (k + 1) := by
  apply Array.ext
  · simp [markC]
  · intro i h1 h2
    simp only [markC, List.size_toArray, List.length_map, List.length_range] at h2
    rw [Array.getElem_setIfInBounds (by simpa [markC] using h2)]
    by_cases e : L[k].2 = i
    · rw [if_pos e]
      simp [markC, markB_succ s L h, e]
      right
      rw [← e]
      exact ht
    · rw [if_neg e]
      simp [markC, markB_succ s L h, ht, e]
theorem markC_zero (s t : ByteArray) (L M : List (Nat × Nat)) : markC s L 0 = markC t M 0 := by simp [markC, markB]
theorem marks_chased {s : ByteArray} {side : Int} {L : List (Nat × Nat)} {n : Nat} (hL : takesG s side = L) (hn : L.length = n) : trues (markB s L n) 90 = chasedL s side := by
  subst hL hn
  unfold chasedL
  refine trues_congr fun k _ => ?_
  unfold markB chasedB
  rw [List.take_length]
theorem make90m (w : World) : (Instr.makeSlice 156 (.int .i64 90) (.int .i64 90)).run Tryz.prog w = .ok (.slice (some ⟨w.heap.size, 0, none⟩) 90 90) (w.alloc (.cells (markC ByteArray.empty [] 0) 4)) := by kernel_rfl
attribute [local go_sem ↓] make90m in
set_option maxRecDepth 100000 in
set_option maxHeartbeats 8000000 in
theorem rall_go (s : ByteArray) (side : Int) (L : List (Nat × Nat)) (n : Nat) (p : Nat → Bool) (w : World) (hL : takesG s side = L) (hn : L.length = n) (hm : n ≤ 8100) (hp : markB s L n = p) : Calls Tryz.prog 171 #[.string s, .int .i64 side] w (OwnL w (trues p 90)) := by
  unfold OwnL
  obtain ⟨i0, hi, hz0, hz1, hz2⟩ := info_parts info_int
  have HL := Lib.hid hL
  have HN := Lib.hid hn
  have HP := Lib.hid hp
  have HC : Hid (∀ k (hk : k < L.length), threatI s (L[k].1 : Int) (L[k].2 : Int) = threatB s L[k].1 L[k].2 ∧ L[k].2 < 90) := fun k hk => by
    have hmem : L[k] ∈ takesG s side := by rw [hL]; exact List.getElem_mem hk
    obtain ⟨hs, h1, h2, _⟩ := takes_mem.1 (show (L[k].1, L[k].2) ∈ takesG s side from hmem)
    exact ⟨threatI_nat hs h1 h2, h2⟩
  clear hL hn hp
  go_enter Tryz.func171, Tryz.ntmps171
  go_wp2_with fail
  refine (rgtakes_is s side L n _ HL.out HN.out).mono ?_
  rintro e w1 ⟨A, c, rfl, hr, hb1⟩
  go_wp2_with fail
  obtain ⟨W0, hW0⟩ : ∃ W0, w1.alloc (.cells (markC ByteArray.empty [] 0) 4) = W0 := ⟨_, rfl⟩
  have hB0 : Below w1.heap.size w1 W0 := by rw [← hW0]; exact (by repeat (first | exact Below.refl _ _ | (refine Below.setCell ?_ (by first | omega | (simp; done) | (simp; omega) | (simp at *; omega)) _) | (refine Below.alloc ?_ (by first | omega | (simp; done) | (simp; omega) | (simp at *; omega)) _) | refine Below.drew ?_ | (refine below_drewN ?_ _) | (refine Below.trans ?_ (Below.mono (by assumption) (by first | omega | (simp; done) | (simp; omega) | (simp at *; omega))))))
  have bM0 : Blk W0 w1.heap.size 4 (markC s L 0) := by rw [← hW0, markC_zero s ByteArray.empty L []]; exact Blk.new _ _ _ rfl
  rw [hW0]
  clear hW0
  go_loopw [7] (fun i wr => ∃ k : Nat, k ≤ n ∧ i = .int .i64 k ∧ Blk wr w1.heap.size 4 (markC s L k) ∧ Below w1.heap.size w1 wr) (fun i _ => n - (intOf i).toNat)
  case atStart => exact ⟨0, Nat.zero_le _, rfl, bM0, hB0⟩
  case round =>
    obtain ⟨k, hk, rfl, bM, hB⟩ := hrel
    by_cases hlt : k < n
    · have hkl : k < L.length := by rw [HN.out]; exact hlt
      obtain ⟨g1, o1, rfl, d0, d1⟩ := hr.move hkl
      obtain ⟨hth, h90⟩ := HC.out k hkl
      have hno := markC_no s L hkl
      have hyes := markC_yes s L hkl
      obtain ⟨⟨a, b⟩, hab⟩ : ∃ x, L[k] = x := ⟨_, rfl⟩
      rw [hab] at d0 d1 hth h90 hno hyes
      obtain ⟨u, hu⟩ : ∃ u, threatB s a b = u := ⟨_, rfl⟩
      rw [hu] at hth
      have hno := Lib.hid (fun h : u = false => hno (hu.trans h))
      have hyes := Lib.hid (fun h : u = true => hyes (hu.trans h))
      have h90 : b < 90 := h90
      have HTH := Lib.hid hth
      have c0 := (hB.cell (p := ⟨g1, o1 + k * 2, none⟩) (cell_lt d0)).trans d0
      have c1 := (hB.cell (p := ⟨g1, o1 + k * 2 + 1, none⟩) (cell_lt d1)).trans d1
      have b1 : (k : Int) < (n : Int) := by omega
      clear hu hab hth
      cases u
      · go_wp2_with fail
        refine (rthreat_is s a b false _ HTH.out).mono ?_
        rintro e w2 ⟨rfl, hb⟩
        go_wp2_with fail
        go_roundw
        case rel => exact ⟨k + 1, by omega, by go_num, by rw [hno.out (by simp)]; exact bM.next hb, hB.trans (hb.mono hB.size)⟩
        case measure => simp [intOf]; omega
      · go_wp2_with fail
        refine (rthreat_is s a b true _ HTH.out).mono ?_
        rintro e w2 ⟨rfl, hb⟩
        have bM2 := bM.next hb
        have hB2 := hB.trans (hb.mono hB.size)
        have e0 := (hB2.cell (p := ⟨g1, o1 + k * 2, none⟩) (cell_lt d0)).trans d0
        have e1 := (hB2.cell (p := ⟨g1, o1 + k * 2 + 1, none⟩) (cell_lt d1)).trans d1
        have q0 : w2.cell? ⟨w1.heap.size, b, none⟩ = some (.bool (markB s L k b)) := by
          rw [bM2.cell b]
          exact markC_at s L k b h90
        have f0 := bM2.frozen b
        have b9 : (b : Int) < 90 := by omega
        clear c0 c1
        go_wp2_with fail
        go_roundw
        case rel => exact ⟨k + 1, by omega, by go_num, by rw [← hyes.out (by simp)]; exact bM2.set_ b (.bool true), hB2.setCell (p := ⟨w1.heap.size, b, none⟩) (Nat.le_refl _) _⟩
        case measure => simp [intOf]; omega
    · obtain rfl : k = n := by omega
      have b1 : ¬ (k : Int) < (k : Int) := by omega
      obtain ⟨V, rfl⟩ : ∃ V, V = wr := ⟨_, rfl⟩
      have hpk : ∀ j, j < 90 → V.cell? ⟨w1.heap.size, j, none⟩ = some (.bool (p j)) := fun j hj => by
        rw [← HP.out, bM.cell j]
        exact markC_at s L k j hj
      have HPK := Lib.hid hpk
      have hg : w1.heap.size < V.heap.size := bM.lt
      clear hlt hk hpk bM
      go_wp2_with fail
      go_loopw [8, 9] (fun v i wr => ∃ j : Nat, j ≤ 90 ∧ i = .int .i64 j ∧ wr.ownsRow V.heap.size 3 1 v (trues p j).length ((trues p j).map iv) ∧ Below V.heap.size V wr) (fun _ i _ => 90 - (intOf i).toNat)
      case atStart => exact ⟨0, by omega, rfl, by simpa [trues] using World.ownsRow_nil V V.heap.size 3 1, Below.refl _ _⟩
      case round =>
        obtain ⟨j, hj, rfl, hown, hB3⟩ := hrel
        have hbs := hB3.size
        have hle := trues_le p j
        by_cases hjl : j < 90
        · have hst := trues_succ p j
          have hc := HPK.out j hjl
          have hcc := (hB3.cell (p := ⟨w1.heap.size, j, none⟩) (cell_lt hc)).trans hc
          have b9 : (j : Int) < 90 := by omega
          clear hc
          cases hpj : p j
          · rw [hpj] at hst hcc
            have Hs := Lib.hid hst
            clear hst hpj
            go_wp2_with fail
            go_roundw
            case rel => exact ⟨j + 1, by omega, by go_num, by rw [Hs.out]; exact hown, hB3⟩
            case measure => simp [intOf]; omega
          · rw [hpj] at hst hcc
            have Hs := Lib.hid hst
            clear hst hpj
            go_wp2_with (at_builtin; refine wpList_append_own _ rfl _ _ 23 rfl V.heap.size 3 i0 (.int .i64 0) 1 8 Tryz.underlying23 hi hz0 hz1 hz2 rfl (by decide) _ _ _ rfl (hown.alloc _) ⟨wr.heap.size, 0, none⟩ 1 1 [iv j] rfl rfl (cell_one_new _ _ _) (by simp [Value.oneCell']) (by unfold maxLen; omega) (by omega) (by simp; omega) ?_; intro v' w4 hown' hgrow _)
            go_roundw
            case rel => exact ⟨j + 1, by omega, by go_num, by rw [Hs.out]; simpa using hown', below_app hB3 hbs hown hgrow⟩
            case measure => simp [intOf]; omega
        · obtain rfl : j = 90 := by omega
          have hB1 := hb1.trans (hB.mono hb1.size)
          go_wp2
          go_ret
          exact ⟨_, rfl, own_mono hown hB1.size, hB1.trans (hB3.mono hB1.size)⟩
theorem rall_is (s : ByteArray) (side : Int) (w : World) : Calls Tryz.prog 171 #[.string s, .int .i64 side] w (OwnL w (chasedL s side)) := by
  rw [← marks_chased rfl rfl]
  exact rall_go s side _ _ _ w rfl rfl (takes_len s side) rfl
end Go.Proofs.YtnkbilikkbaeeaaGreatDoor

namespace Go.Proofs.YtnkbilikkbaeeaaGreatDoor
open Go.RowKit Go.Shelf
open M (S)

theorem rply_start (w : World) (s : ByteArray) (y z u : Int) (hT : Tab w) {W0 : World} (hW0 : (w.alloc (.cells #[.string s, .int .i64 y, .int .i64 z, .int .i64 u] 36)).alloc (.cells #[.bool false, .slice none 0 0] 135) = W0) :
    Below w.heap.size w W0 ∧ Tab W0 ∧ Blk W0 w.heap.size 36 #[.string s, .int .i64 y, .int .i64 z, .int .i64 u] ∧ Blk W0 (w.heap.size + 1) 135 #[.bool false, .slice none 0 0] := by
  have hB : Below w.heap.size w W0 := by rw [← hW0]; exact (by repeat (first | exact Below.refl _ _ | (refine Below.setCell ?_ (by first | omega | (simp; done) | (simp; omega) | (simp at *; omega)) _) | (refine Below.alloc ?_ (by first | omega | (simp; done) | (simp; omega) | (simp at *; omega)) _) | refine Below.drew ?_ | (refine below_drewN ?_ _) | (refine Below.trans ?_ (Below.mono (by assumption) (by first | omega | (simp; done) | (simp; omega) | (simp at *; omega))))))
  refine ⟨hB, hT.below hB hT.lt, ?_, ?_⟩
  · rw [← hW0]; exact (Blk.new _ _ _ rfl).alloc _
  · rw [← hW0]; exact Blk.new _ _ _ (by simp)
set_option maxRecDepth 100000 in
set_option maxHeartbeats 8000000 in
theorem rof_bad16 (s : ByteArray) (y z u k : Int) (w : World) (hT : Tab w) (hk : wellN s y z u = k) (h : k ≠ 0) : Calls Tryz.prog 150 #[.agg #[.string s, .int .i64 y, .int .i64 z, .int .i64 u]] w (GivesP w false [] k) := by
  unfold GivesP
  obtain ⟨W0, hW0⟩ : ∃ W0, (w.alloc (.cells #[.string s, .int .i64 y, .int .i64 z, .int .i64 u] 36)).alloc (.cells #[.bool false, .slice none 0 0] 135) = W0 := ⟨_, rfl⟩
  obtain ⟨hB, hT0, bP, bQ⟩ := rply_start w s y z u hT hW0
  have HW := Lib.hid hW0
  have HK := Lib.hid hk
  have k0 : (k != 0) = true := by rw [bne_iff_ne]; exact h
  obtain ⟨p0, p1, p2, p3⟩ := ppos_cells bP
  clear hW0 hk h
  go_enter Tryz.func150, Tryz.ntmps150
  go_wp2_with fail
  rw [HW.out]
  refine (rwell_is s y z u k _ HK.out).mono ?_
  rintro e w1 ⟨rfl, hb⟩
  have bQ1 := bQ.next hb
  obtain ⟨f0, f1⟩ := ply_frozen bQ1
  obtain ⟨q0, q1⟩ := ply_cells bQ1
  have hB1 := hB.trans (hb.mono hB.size)
  clear p0 p1 p2 p3
  go_wp2
  have bQ2 := (bQ1.set_ 0 (.bool false)).set_ 1 (.slice none 0 0)
  exact bodyPost_ret (v := .tuple #[.agg #[.bool false, .slice none 0 0], .int .i64 k]) (by simp [results, Tryz.results150, go_sem, bQ2.cell 0, bQ2.cell 1]) rfl ⟨none, 0, rfl, rd_none _ _, (hB1.setCell (p := ⟨w.heap.size + 1, 0, none⟩) (by simp) _).setCell (p := ⟨w.heap.size + 1, 1, none⟩) (by simp) _⟩
set_option maxRecDepth 100000 in
set_option maxHeartbeats 8000000 in
theorem rof_check16 (s : ByteArray) (y z u : Int) (w : World) (hT : Tab w) (hk : wellN s y z u = 0) (h : inB s y = true) : Calls Tryz.prog 150 #[.agg #[.string s, .int .i64 y, .int .i64 z, .int .i64 u]] w (GivesP w true [] 0) := by
  unfold GivesP
  obtain ⟨W0, hW0⟩ : ∃ W0, (w.alloc (.cells #[.string s, .int .i64 y, .int .i64 z, .int .i64 u] 36)).alloc (.cells #[.bool false, .slice none 0 0] 135) = W0 := ⟨_, rfl⟩
  obtain ⟨hB, hT0, bP, bQ⟩ := rply_start w s y z u hT hW0
  have HW := Lib.hid hW0
  have HK := Lib.hid hk
  have HI := Lib.hid h
  obtain ⟨p0, p1, p2, p3⟩ := ppos_cells bP
  clear hW0 hk h
  go_enter Tryz.func150, Tryz.ntmps150
  go_wp2_with fail
  rw [HW.out]
  refine (rwell_is s y z u 0 _ HK.out).mono ?_
  rintro e w1 ⟨rfl, hb⟩
  have bP1 := bP.next hb
  have bQ1 := bQ.next hb
  have hT1 := hT0.next hb
  have hB1 := hB.trans (hb.mono hB.size)
  clear p0 p1 p2 p3 hb
  obtain ⟨p0, p1, p2, p3⟩ := ppos_cells bP1
  go_wp2_with fail
  refine (rin_is s y true _ HI.out).mono ?_
  rintro e w2 ⟨rfl, hb⟩
  have bQ2 := bQ1.next hb
  have hB2 := hB1.trans (hb.mono hB1.size)
  obtain ⟨f0, f1⟩ := ply_frozen bQ2
  obtain ⟨q0, q1⟩ := ply_cells bQ2
  clear p0 p1 p2 p3 hb
  go_wp2
  have bQ3 := (bQ2.set_ 0 (.bool true)).set_ 1 (.slice none 0 0)
  exact bodyPost_ret (v := .tuple #[.agg #[.bool true, .slice none 0 0], .int .i64 0]) (by simp [results, Tryz.results150, go_sem, bQ3.cell 0, bQ3.cell 1]) rfl ⟨none, 0, rfl, rd_none _ _, (hB2.setCell (p := ⟨w.heap.size + 1, 0, none⟩) (by simp) _).setCell (p := ⟨w.heap.size + 1, 1, none⟩) (by simp) _⟩
set_option maxRecDepth 100000 in
set_option maxHeartbeats 8000000 in
theorem rof_quiet16 (s : ByteArray) (y z u o : Int) (l : List Int) (w : World) (hT : Tab w) (hk : wellN s y z u = 0) (h : inB s y = false) (hy0 : 0 ≤ y) (hy1 : y ≤ 1) (ho : 1 - y = o) (hl : chasedL s o = l) : Calls Tryz.prog 150 #[.agg #[.string s, .int .i64 y, .int .i64 z, .int .i64 u]] w (GivesP w false l 0) := by
  unfold GivesP
  obtain ⟨W0, hW0⟩ : ∃ W0, (w.alloc (.cells #[.string s, .int .i64 y, .int .i64 z, .int .i64 u] 36)).alloc (.cells #[.bool false, .slice none 0 0] 135) = W0 := ⟨_, rfl⟩
  obtain ⟨hB, hT0, bP, bQ⟩ := rply_start w s y z u hT hW0
  have HW := Lib.hid hW0
  have HK := Lib.hid hk
  have HI := Lib.hid h
  have HL := Lib.hid hl
  obtain ⟨p0, p1, p2, p3⟩ := ppos_cells bP
  clear hW0 hk h hl
  go_enter Tryz.func150, Tryz.ntmps150
  go_wp2_with fail
  rw [HW.out]
  refine (rwell_is s y z u 0 _ HK.out).mono ?_
  rintro e w1 ⟨rfl, hb⟩
  have bP1 := bP.next hb
  have bQ1 := bQ.next hb
  have hT1 := hT0.next hb
  have hB1 := hB.trans (hb.mono hB.size)
  clear p0 p1 p2 p3 hb
  obtain ⟨p0, p1, p2, p3⟩ := ppos_cells bP1
  go_wp2_with fail
  refine (rin_is s y false _ HI.out).mono ?_
  rintro e w2 ⟨rfl, hb⟩
  have bP2 := bP1.next hb
  have bQ2 := bQ1.next hb
  have hT2 := hT1.next hb
  have hB2 := hB1.trans (hb.mono hB1.size)
  clear p0 p1 p2 p3 hb
  obtain ⟨p0, p1, p2, p3⟩ := ppos_cells bP2
  have hA := rall_is s o w2
  rw [HL.out] at hA
  go_wp2_with fail
  (try rw [ho])
  refine hA.mono ?_
  rintro e w3 ⟨v3, rfl, ho3, hb⟩
  obtain ⟨A, c, rfl⟩ := own_slice ho3
  have hr := Rd.own ho3
  have hqs : w.heap.size + 1 < w2.heap.size := bQ2.lt
  have hA2 : ∀ ad, A = some ad → w.heap.size + 1 < ad.block := fun ad e => by
    subst e
    rcases ho3.2 with ⟨h1, _⟩ | ⟨g', cap', cur, h1, hb, _⟩
    · simp at h1
    · simp only [Value.slice.injEq, Option.some.injEq] at h1
      rw [h1.1]
      show w.heap.size + 1 < g'
      omega
  clear ho3
  have bQ3 := bQ2.next hb
  have hB3 := hB2.trans (hb.mono hB2.size)
  obtain ⟨f0, f1⟩ := ply_frozen bQ3
  obtain ⟨q0, q1⟩ := ply_cells bQ3
  clear p0 p1 p2 p3 hA
  go_wp2
  have bQ4 := (bQ3.set_ 0 (.bool false)).set_ 1 (.slice A l.length c)
  exact bodyPost_ret (v := .tuple #[.agg #[.bool false, .slice A l.length c], .int .i64 0]) (by simp [results, Tryz.results150, go_sem, bQ4.cell 0, bQ4.cell 1]) rfl ⟨A, c, rfl, rd_far (rd_far hr _ _ hA2) _ _ hA2, (hB3.setCell (p := ⟨w.heap.size + 1, 0, none⟩) (by simp) _).setCell (p := ⟨w.heap.size + 1, 1, none⟩) (by simp) _⟩
theorem rcof_any (s : ByteArray) (y z u : Int) (w : World) (hT : Tab w) : Calls Tryz.prog 150 #[.agg #[.string s, .int .i64 y, .int .i64 z, .int .i64 u]] w (GivesP w (plyC s y z u) (plyL s y z u) (wellN s y z u)) := by
  by_cases hk : wellN s y z u = 0
  · have hsd := (check_other (well_zero hk).1).1
    cases hi : inB s y
    · obtain ⟨e1, e2⟩ := ply_quiet hk hi
      rw [e1, e2, hk]
      exact rof_quiet16 s y z u _ _ w hT hk hi (by omega) (by omega) rfl rfl
    · obtain ⟨e1, e2⟩ := ply_check hk hi
      rw [e1, e2, hk]
      exact rof_check16 s y z u w hT hk hi
  · obtain ⟨e1, e2⟩ := ply_bad hk
    rw [e1, e2]
    exact rof_bad16 s y z u _ w hT rfl hk
theorem rcof_is (s : ByteArray) (y z u : Int) (c : Bool) (l : List Int) (k : Int) (w : World) (hT : Tab w) (hc : plyC s y z u = c) (hl : plyL s y z u = l) (hk : wellN s y z u = k) : Calls Tryz.prog 150 #[.agg #[.string s, .int .i64 y, .int .i64 z, .int .i64 u]] w (GivesP w c l k) := by
  subst hc hl hk
  exact rcof_any s y z u w hT
end Go.Proofs.YtnkbilikkbaeeaaGreatDoor
