/- What is wrong with any position. -/
import Derived.Test.YtbfkkedcjodceaaGreatDoorPlace5
namespace Go.Proofs.YtbfkkedcjodceaaGreatDoor
open Go.RowKit Go.Shelf
open M (S)

/-- Do all pieces among the first n stand where they may? -/
def placesB (s : ByteArray) (n : Nat) : Bool := (List.range n).all fun k => (kindN (bAt s k) == 0) || mayB (bAt s k) k
theorem places_no {s : ByteArray} {n k : Nat} (hk : k < n) (h0 : kindN (bAt s k) ≠ 0) (h : mayB (bAt s k) k = false) : placesB s n = false := by
  unfold placesB
  rw [List.all_eq_false.2 ⟨k, List.mem_range.2 hk, by simp [h0, h]⟩]
theorem places_yes {s : ByteArray} {n : Nat} (h : ∀ k, k < n → ((kindN (bAt s k) == 0) || mayB (bAt s k) k) = true) : placesB s n = true := by
  unfold placesB
  rw [List.all_eq_true]
  exact fun k hk => h k (List.mem_range.1 hk)
set_option maxRecDepth 100000 in
set_option maxHeartbeats 2000000 in
theorem havePlaces_any (s : ByteArray) (w : World) (hs : s.size ≤ 1000000) : Calls Tryz.prog 71 #[.string s] w (Gives w (.bool (placesB s s.size))) := by
  unfold Gives
  go_enter Tryz.func71, Tryz.ntmps71
  go_wp2_with fail
  go_loopw [3, 6] (fun _ i wr => ∃ k : Nat, k ≤ s.size ∧ i = .int .i64 k ∧ (∀ u, u < k → ((kindN (bAt s u) == 0) || mayB (bAt s u) u) = true) ∧ Below w.heap.size w wr) (fun _ i _ => s.size - (intOf i).toNat)
  case atStart => exact ⟨0, by omega, rfl, fun u hu => absurd hu (Nat.not_lt_zero u), Below.refl _ _⟩
  case round =>
    obtain ⟨k, hk, rfl, hall, hB⟩ := hrel
    have Hall := Lib.hid hall
    clear hall
    by_cases hlt : k < s.size
    · obtain ⟨x, hx⟩ : ∃ x, bAt s k = x := ⟨_, rfl⟩
      have hbk : s[k].toNat = x := (bAt_eq s k hlt).trans hx
      by_cases h0 : kindN x = 0
      · have e0 : ((kindN x : Int) != 0) = false := by rw [h0]; rfl
        have K : Hid (((kindN (bAt s k) == 0) || mayB (bAt s k) k) = true) := by show _ = _; rw [hx, h0]; rfl
        clear h0 hx
        go_wp2_with fail
        refine (kind_any x _).mono ?_
        rintro e w1 ⟨rfl, rfl⟩
        go_wp2
        go_roundw
        case rel => exact ⟨k + 1, by omega, by go_num, fun u hu => (by
          rcases Nat.lt_or_ge u k with h | h
          · exact Hall.out u h
          · rw [show u = k by omega]; exact K.out), hB⟩
        case measure => simp [intOf]; omega
      · have e0 : ((kindN x : Int) != 0) = true := by rw [bne_iff_ne]; omega
        cases hm : mayB x k
        · have K := Lib.hid (places_no (s := s) hlt (by rw [hx]; exact h0) (by rw [hx]; exact hm))
          have Hm := Lib.hid hm
          clear h0 hx hm
          go_wp2_with fail
          refine (kind_any x _).mono ?_
          rintro e w1 ⟨rfl, rfl⟩
          go_wp2_with fail
          refine (may_is x k false _ Hm.out).mono ?_
          rintro e w1 ⟨rfl, hb⟩
          go_wp2
          go_ret
          exact ⟨by rw [K.out]; rfl, hB.trans (hb.mono hB.size)⟩
        · have K : Hid (((kindN (bAt s k) == 0) || mayB (bAt s k) k) = true) := by show _ = _; rw [hx, hm, Bool.or_true]
          have Hm := Lib.hid hm
          clear h0 hx hm
          go_wp2_with fail
          refine (kind_any x _).mono ?_
          rintro e w1 ⟨rfl, rfl⟩
          go_wp2_with fail
          refine (may_is x k true _ Hm.out).mono ?_
          rintro e w1 ⟨rfl, hb⟩
          go_wp2
          go_roundw
          case rel => exact ⟨k + 1, by omega, by go_num, fun u hu => (by
            rcases Nat.lt_or_ge u k with h | h
            · exact Hall.out u h
            · rw [show u = k by omega]; exact K.out), hB.trans (hb.mono hB.size)⟩
          case measure => simp [intOf]; omega
    · obtain rfl : k = s.size := by omega
      have K := Lib.hid (places_yes (s := s) Hall.out)
      go_wp2
      go_ret
      exact ⟨by rw [K.out]; rfl, hB⟩
/-- Are a position's parts what they may be? -/
def partsB (s : ByteArray) (side clock full : Int) : Bool := isB s && (side == 0 || side == 1) && decide (0 ≤ clock) && decide (clock ≤ 120) && decide (1 ≤ full) && decide (full ≤ 9999)
/-- What Check tells: 0, or an error. -/
def checkN (s : ByteArray) (side clock full : Int) : Nat := if partsB s side clock full then (if countsB s 90 then (if placesB s 90 then 0 else 2) else 3) else 1
theorem parts_false {s : ByteArray} {side clock full : Int} (h : isB s = false ∨ (side == 0 || side == 1) = false ∨ clock < 0 ∨ 120 < clock ∨ full < 1 ∨ 9999 < full) : checkN s side clock full = 1 := by
  have : partsB s side clock full = false := by
    cases e : partsB s side clock full
    · rfl
    · simp only [partsB, Bool.and_eq_true, decide_eq_true_eq] at e
      rcases h with h | h | h
      · rw [h] at e; simp at e
      · rw [h] at e; simp at e
      · omega
  rw [checkN, this]
  rfl
theorem parts_true {s : ByteArray} {side clock full : Int} (h1 : isB s = true) (h2 : (side == 0 || side == 1) = true) (h3 : 0 ≤ clock) (h4 : clock ≤ 120) (h5 : 1 ≤ full) (h6 : full ≤ 9999) : partsB s side clock full = true := by
  simp only [partsB, Bool.and_eq_true, decide_eq_true_eq]
  exact ⟨⟨⟨⟨⟨h1, h2⟩, h3⟩, h4⟩, h5⟩, h6⟩
/-- A position's value. -/
def posV (s : ByteArray) (side clock full : Int) : Value := .agg #[.string s, .int .i64 side, .int .i64 clock, .int .i64 full]
theorem isSide_is (side : Int) (b : Bool) (w : World) (h : (side == 0 || side == 1) = b) : Calls Tryz.prog 69 #[.int .i64 side] w (Says w (.bool b)) := by subst h; exact isSide_any side w
theorem haveCounts_is (s : ByteArray) (b : Bool) (w : World) (hs : s.size = 90) (h : countsB s 90 = b) : Calls Tryz.prog 70 #[.string s] w (Gives w (.bool b)) := by subst h; rw [← hs]; exact haveCounts_any s w (by omega)
theorem havePlaces_is (s : ByteArray) (b : Bool) (w : World) (hs : s.size = 90) (h : placesB s 90 = b) : Calls Tryz.prog 71 #[.string s] w (Gives w (.bool b)) := by subst h; rw [← hs]; exact havePlaces_any s w (by omega)
set_option maxHeartbeats 4000000 in
theorem check_any (s : ByteArray) (side clock full : Int) (w : World) : Calls Tryz.prog 38 #[.agg #[.string s, .int .i64 side, .int .i64 clock, .int .i64 full]] w (Gives w (.int .i64 (checkN s side clock full : Nat))) := by
  unfold Gives
  cases hb : isB s
  · have K := Lib.hid (parts_false (side := side) (clock := clock) (full := full) (.inl hb))
    have B := Lib.hid hb
    clear hb
    go_enter Tryz.func38, Tryz.ntmps38
    go_wp2_with fail
    refine (is_is s false _ B.out).mono ?_
    rintro e w1 ⟨rfl, rfl⟩
    go_wp2
    go_ret
    exact ⟨by rw [K.out]; rfl, (by repeat (first | exact Below.refl _ _ | (refine Below.setCell ?_ (by first | omega | (simp; done) | (simp; omega) | (simp at *; omega)) _) | (refine Below.alloc ?_ (by first | omega | (simp; done) | (simp; omega) | (simp at *; omega)) _) | refine Below.drew ?_ | (refine below_drewN ?_ _) | (refine Below.trans ?_ (Below.mono (by assumption) (by first | omega | (simp; done) | (simp; omega) | (simp at *; omega))))))⟩
  have B := Lib.hid hb
  cases hd : (side == 0 || side == 1)
  · have K := Lib.hid (parts_false (s := s) (side := side) (clock := clock) (full := full) (.inr (.inl hd)))
    have D := Lib.hid hd
    clear hb hd
    go_enter Tryz.func38, Tryz.ntmps38
    go_wp2_with fail
    refine (is_is s true _ B.out).mono ?_
    rintro e w1 ⟨rfl, rfl⟩
    go_wp2_with fail
    refine (isSide_is side false _ D.out).mono ?_
    rintro e w1 ⟨rfl, rfl⟩
    go_wp2
    go_ret
    exact ⟨by rw [K.out]; rfl, (by repeat (first | exact Below.refl _ _ | (refine Below.setCell ?_ (by first | omega | (simp; done) | (simp; omega) | (simp at *; omega)) _) | (refine Below.alloc ?_ (by first | omega | (simp; done) | (simp; omega) | (simp at *; omega)) _) | refine Below.drew ?_ | (refine below_drewN ?_ _) | (refine Below.trans ?_ (Below.mono (by assumption) (by first | omega | (simp; done) | (simp; omega) | (simp at *; omega))))))⟩
  have D := Lib.hid hd
  have hc : (clock < 0) ∨ (0 ≤ clock ∧ 120 < clock) ∨ (0 ≤ clock ∧ clock ≤ 120 ∧ full < 1) ∨ (0 ≤ clock ∧ clock ≤ 120 ∧ 1 ≤ full ∧ 9999 < full) ∨ (0 ≤ clock ∧ clock ≤ 120 ∧ 1 ≤ full ∧ full ≤ 9999) := by omega
  rcases hc with h0 | ⟨h0, h1⟩ | ⟨h0, h1, h2⟩ | ⟨h0, h1, h2, h3⟩ | ⟨h0, h1, h2, h3⟩
  iterate 4
    · have K := Lib.hid (parts_false (s := s) (side := side) (clock := clock) (full := full) (.inr (.inr (by omega))))
      clear hb hd
      go_enter Tryz.func38, Tryz.ntmps38
      go_wp2_with fail
      refine (is_is s true _ B.out).mono ?_
      rintro e w1 ⟨rfl, rfl⟩
      go_wp2_with fail
      refine (isSide_is side true _ D.out).mono ?_
      rintro e w1 ⟨rfl, rfl⟩
      go_wp2
      go_ret
      exact ⟨by rw [K.out]; rfl, (by repeat (first | exact Below.refl _ _ | (refine Below.setCell ?_ (by first | omega | (simp; done) | (simp; omega) | (simp at *; omega)) _) | (refine Below.alloc ?_ (by first | omega | (simp; done) | (simp; omega) | (simp at *; omega)) _) | refine Below.drew ?_ | (refine below_drewN ?_ _) | (refine Below.trans ?_ (Below.mono (by assumption) (by first | omega | (simp; done) | (simp; omega) | (simp at *; omega))))))⟩
  have hz := Lib.hid (isB_size hb)
  have hP := parts_true hb hd h0 h1 h2 h3
  clear hb hd
  obtain ⟨W0, hW0⟩ : ∃ W0, w.alloc (.cells #[.string s, .int .i64 side, .int .i64 clock, .int .i64 full] 23) = W0 := ⟨_, rfl⟩
  have hB : Below w.heap.size w W0 := by rw [← hW0]; exact (by repeat (first | exact Below.refl _ _ | (refine Below.setCell ?_ (by first | omega | (simp; done) | (simp; omega) | (simp at *; omega)) _) | (refine Below.alloc ?_ (by first | omega | (simp; done) | (simp; omega) | (simp at *; omega)) _) | refine Below.drew ?_ | (refine below_drewN ?_ _) | (refine Below.trans ?_ (Below.mono (by assumption) (by first | omega | (simp; done) | (simp; omega) | (simp at *; omega))))))
  have bA : Blk W0 w.heap.size 23 #[.string s, .int .i64 side, .int .i64 clock, .int .i64 full] := by rw [← hW0]; exact Blk.new _ _ _ rfl
  have HW := Lib.hid hW0
  clear hW0
  cases hn : countsB s 90
  · have K : Hid (checkN s side clock full = 3) := by show _ = _; rw [checkN, hP, hn]; rfl
    have Hn := Lib.hid hn
    clear hn hP
    go_enter Tryz.func38, Tryz.ntmps38
    go_wp2_with fail
    refine (is_is s true _ B.out).mono ?_
    rintro e w1 ⟨rfl, rfl⟩
    go_wp2_with fail
    refine (isSide_is side true _ D.out).mono ?_
    rintro e w1 ⟨rfl, rfl⟩
    go_wp2_with fail
    rw [HW.out]
    refine (haveCounts_is s false _ hz.out Hn.out).mono ?_
    rintro e w1 ⟨rfl, hb1⟩
    go_wp2
    go_ret
    exact ⟨by rw [K.out]; rfl, hB.trans (hb1.mono hB.size)⟩
  have Hn := Lib.hid hn
  cases hp : placesB s 90
  · have K : Hid (checkN s side clock full = 2) := by show _ = _; rw [checkN, hP, hn, hp]; rfl
    have Hp := Lib.hid hp
    clear hn hP hp
    go_enter Tryz.func38, Tryz.ntmps38
    go_wp2_with fail
    refine (is_is s true _ B.out).mono ?_
    rintro e w1 ⟨rfl, rfl⟩
    go_wp2_with fail
    refine (isSide_is side true _ D.out).mono ?_
    rintro e w1 ⟨rfl, rfl⟩
    go_wp2_with fail
    rw [HW.out]
    refine (haveCounts_is s true _ hz.out Hn.out).mono ?_
    rintro e w1 ⟨rfl, hb1⟩
    have a0 := (bA.next hb1).cell 0
    simp only [List.getElem?_toArray, List.getElem?_cons_zero] at a0
    go_wp2_with fail
    refine (havePlaces_is s false _ hz.out Hp.out).mono ?_
    rintro e w2 ⟨rfl, hb2⟩
    go_wp2
    go_ret
    exact ⟨by rw [K.out]; rfl, (hB.trans (hb1.mono hB.size)).trans (hb2.mono (hB.trans (hb1.mono hB.size)).size)⟩
  · have K : Hid (checkN s side clock full = 0) := by show _ = _; rw [checkN, hP, hn, hp]; rfl
    have Hp := Lib.hid hp
    clear hn hP hp
    go_enter Tryz.func38, Tryz.ntmps38
    go_wp2_with fail
    refine (is_is s true _ B.out).mono ?_
    rintro e w1 ⟨rfl, rfl⟩
    go_wp2_with fail
    refine (isSide_is side true _ D.out).mono ?_
    rintro e w1 ⟨rfl, rfl⟩
    go_wp2_with fail
    rw [HW.out]
    refine (haveCounts_is s true _ hz.out Hn.out).mono ?_
    rintro e w1 ⟨rfl, hb1⟩
    have a0 := (bA.next hb1).cell 0
    simp only [List.getElem?_toArray, List.getElem?_cons_zero] at a0
    go_wp2_with fail
    refine (havePlaces_is s true _ hz.out Hp.out).mono ?_
    rintro e w2 ⟨rfl, hb2⟩
    go_wp2
    go_ret
    exact ⟨by rw [K.out]; rfl, (hB.trans (hb1.mono hB.size)).trans (hb2.mono (hB.trans (hb1.mono hB.size)).size)⟩
theorem check_is (s : ByteArray) (side clock full k : Int) (w : World) (h : (checkN s side clock full : Int) = k) : Calls Tryz.prog 38 #[.agg #[.string s, .int .i64 side, .int .i64 clock, .int .i64 full]] w (Gives w (.int .i64 k)) := by subst h; exact check_any s side clock full w
end Go.Proofs.YtbfkkedcjodceaaGreatDoor
