/- What the document's plain Check of layer 3 comes to, whole. -/
import Derived.Test.YtbfkkedcjodceaaGreatDoorRefP3
namespace Go.Proofs.YtbfkkedcjodceaaGreatDoor
open Go.RowKit Go.Shelf
open M (S)

set_option maxRecDepth 100000 in
set_option maxHeartbeats 8000000 in
theorem rcheck_good (s : ByteArray) (side clock full : Int) (w : World) (hb : isB s = true) (h1 : 0 ≤ side) (h2 : side ≤ 1) (h3 : 0 ≤ clock) (h4 : clock ≤ 120) (h5 : 1 ≤ full) (h6 : full ≤ 9999) :
    Calls Tryz.prog 40 #[.agg #[.string s, .int .i64 side, .int .i64 clock, .int .i64 full]] w (Gives w (.int .i64 (if countsB s 90 then (if placesB s 90 then 0 else 2) else 3 : Nat))) := by
  unfold Gives
  obtain ⟨res, hres⟩ : ∃ res : Nat, (if countsB s 90 then (if placesB s 90 then 0 else 2) else 3 : Nat) = res := ⟨_, rfl⟩
  rw [hres]
  have Hres := Lib.hid hres
  clear hres
  have B := Lib.hid hb
  have hs := isB_size hb
  have hs1 : 90 ≤ s.size := by omega
  clear hs hb
  have d1 : decide (side < 0) = false := by simp; omega
  have d2 : decide (1 < side) = false := by simp; omega
  have d3 : decide (clock < 0) = false := by simp; omega
  have d4 : decide (120 < clock) = false := by simp; omega
  have d5 : decide (full < 1) = false := by simp; omega
  have d6 : decide (9999 < full) = false := by simp; omega
  have r3 : countsB s 90 = false → res = 3 := fun h => by have := Hres.out; rw [h] at this; exact this.symm
  have r2 : countsB s 90 = true → placesB s 90 = false → res = 2 := fun h h' => by have := Hres.out; rw [h, h'] at this; exact this.symm
  have r0 : countsB s 90 = true → placesB s 90 = true → res = 0 := fun h h' => by have := Hres.out; rw [h, h'] at this; exact this.symm
  have R3 := Lib.hid r3
  have R2 := Lib.hid r2
  have R0 := Lib.hid r0
  clear r3 r2 r0 h1 h2 h3 h4 h5 h6
  go_enter Tryz.func40, Tryz.ntmps40
  go_wp2_with fail
  refine (ris_is s true _ B.out).mono ?_
  rintro e w1 ⟨rfl, rfl⟩
  obtain ⟨W0, hW0⟩ : ∃ W0, w.alloc (.cells #[.string s, .int .i64 side, .int .i64 clock, .int .i64 full] 23) = W0 := ⟨_, rfl⟩
  have hB : Below w.heap.size w W0 := by rw [← hW0]; exact (by repeat (first | exact Below.refl _ _ | (refine Below.setCell ?_ (by first | omega | (simp; done) | (simp; omega) | (simp at *; omega)) _) | (refine Below.alloc ?_ (by first | omega | (simp; done) | (simp; omega) | (simp at *; omega)) _) | refine Below.drew ?_ | (refine below_drewN ?_ _) | (refine Below.trans ?_ (Below.mono (by assumption) (by first | omega | (simp; done) | (simp; omega) | (simp at *; omega))))))
  have bA : Blk W0 w.heap.size 23 #[.string s, .int .i64 side, .int .i64 clock, .int .i64 full] := by rw [← hW0]; exact Blk.new _ _ _ rfl
  have a0 := bA.cell 0
  have a1 := bA.cell 1
  have a2 := bA.cell 2
  have a3 := bA.cell 3
  simp only [List.getElem?_toArray, List.getElem?_cons_zero, List.getElem?_cons_succ] at a0 a1 a2 a3
  rw [hW0]
  clear hW0
  go_wp2_with fail
  rw [show (⟨#[75, 65, 66, 78, 82, 67, 80, 107, 97, 98, 110, 114, 99, 112]⟩ : ByteArray) = lettersS from rfl]
  have hLs : lettersS.size = 14 := rfl
  have hLa : ∀ j, j < 14 → bAt lettersS j = lettersL.getD j 0 := fun j hj => lettersS_at ⟨j, hj⟩
  generalize lettersS = L at hLs hLa ⊢
  have HLs := Lib.hid hLs
  have HLa := Lib.hid hLa
  have hL14 : L.size ≤ 14 := by omega
  have hL14' : 14 ≤ L.size := by omega
  clear hLs hLa a1 a2 a3
  go_loopw [4, 5] (fun i _ wr => ∃ j : Nat, j ≤ 14 ∧ i = .int .i64 j ∧ (∀ u, u < j → okL s (lettersL.getD u 0) = true) ∧ (wr.cell? ⟨w.heap.size, 0, none⟩ = some (.string s) ∧ Below w.heap.size w wr)) (fun i _ _ => 14 - (intOf i).toNat)
  case atStart => exact ⟨0, by omega, rfl, fun u hu => absurd hu (Nat.not_lt_zero u), a0, hB⟩
  case round =>
    obtain ⟨j, hj, rfl, hall, hS⟩ := hrel
    have Hall := Lib.hid hall
    clear hall
    by_cases hlt : j < 14
    · have hjL : j < L.size := by omega
      obtain ⟨x, hx⟩ : ∃ x, bAt L j = x := ⟨_, rfl⟩
      have hbk : L[j].toNat = x := (bAt_eq L j hjL).trans hx
      have hxl : lettersL.getD j 0 = x := (HLa.out j hlt).symm.trans hx
      have hmem : x ∈ lettersL := by rw [← hxl]; exact letters_in ⟨j, hlt⟩
      have Hxl := Lib.hid hxl
      have Hmem := Lib.hid hmem
      obtain ⟨m, hm⟩ : ∃ m, cntN s 90 x = m := ⟨_, rfl⟩
      have Hf : Hid ((findL s x).length = m) := by show _ = _; rw [find_cnt B.out, hm]
      have hok : okL s x = (decide (m ≤ mostN x) && (kindN x != 75 || m == 1)) := by unfold okL; rw [hm]
      obtain ⟨q, hq⟩ : ∃ q, mostN x = q := ⟨_, rfl⟩
      obtain ⟨kd, hkd⟩ : ∃ kd, kindN x = kd := ⟨_, rfl⟩
      rw [hq, hkd] at hok
      have Hq := Lib.hid hq
      have Hkd := Lib.hid hkd
      have Hok := Lib.hid hok
      have hSd : wr.drew.cell? ⟨w.heap.size, 0, none⟩ = some (.string s) ∧ Below w.heap.size w wr.drew := ⟨hS.1, hS.2.drew⟩
      clear hx hxl hmem hm hok hq hkd hS
      go_wp2_with fail
      go_region_held3 (fun W => W.cell? ⟨w.heap.size, 0, none⟩ = some (.string s) ∧ Below w.heap.size w W)
        (first | exact hSd | exact pos_keep (by assumption) hb)
        ((go_at_call 73; refine (rfind_is s x m _ Hf.out).mono ?_; rintro e w2 ⟨A2, k2, rfl, hr2, hb⟩))
      have hS2 : w2.cell? ⟨w.heap.size, 0, none⟩ = some (.string s) ∧ Below w.heap.size w w2 := by assumption
      clear hSd hb hr2
      by_cases c1 : q < m
      · have K : Hid (res = 3) := R3.out (letters_no Hmem.out (by rw [Hok.out, decide_eq_false (by omega)]; rfl))
        have e1 : decide (q < m) = true := by simp; omega
        go_wp2_with fail
        refine (rmost_is x q _ Hq.out).mono ?_
        rintro e w3 ⟨rfl, rfl⟩
        go_wp2
        go_ret
        exact ⟨by rw [K.out]; rfl, hS2.2⟩
      have e1 : decide (q < m) = false := by simp; omega
      by_cases c2 : kd = 75
      · have e2 : ((kd : Int) == 75) = true := by rw [beq_iff_eq]; omega
        by_cases c3 : m = 1
        · have e3 : ((m : Int) != 1) = false := by rw [c3]; rfl
          have K : Hid (okL s x = true) := by show _ = _; rw [Hok.out, decide_eq_true (by omega), c3]; simp
          clear c2 c3
          go_wp2_with fail
          refine (rmost_is x q _ Hq.out).mono ?_
          rintro e w3 ⟨rfl, rfl⟩
          go_wp2_with fail
          refine (rkind_is x kd _ Hkd.out).mono ?_
          rintro e w3 ⟨rfl, rfl⟩
          go_wp2
          go_roundw
          case rel => exact ⟨j + 1, by omega, by go_num, fun u hu => (by
            rcases Nat.lt_or_ge u j with h | h
            · exact Hall.out u h
            · rw [show u = j by omega, Hxl.out]; exact K.out), hS2⟩
          case measure => simp [intOf]; omega
        · have e3 : ((m : Int) != 1) = true := by rw [bne_iff_ne]; omega
          have K : Hid (res = 3) := R3.out (letters_no Hmem.out (by rw [Hok.out, c2]; simp [c3]))
          clear c2 c3
          go_wp2_with fail
          refine (rmost_is x q _ Hq.out).mono ?_
          rintro e w3 ⟨rfl, rfl⟩
          go_wp2_with fail
          refine (rkind_is x kd _ Hkd.out).mono ?_
          rintro e w3 ⟨rfl, rfl⟩
          go_wp2
          go_ret
          exact ⟨by rw [K.out]; rfl, hS2.2⟩
      · have e2 : ((kd : Int) == 75) = false := by rw [beq_eq_false_iff_ne]; omega
        have K : Hid (okL s x = true) := by show _ = _; rw [Hok.out, decide_eq_true (by omega)]; simp [c2]
        clear c2
        go_wp2_with fail
        refine (rmost_is x q _ Hq.out).mono ?_
        rintro e w3 ⟨rfl, rfl⟩
        go_wp2_with fail
        refine (rkind_is x kd _ Hkd.out).mono ?_
        rintro e w3 ⟨rfl, rfl⟩
        go_wp2
        go_roundw
        case rel => exact ⟨j + 1, by omega, by go_num, fun u hu => (by
          rcases Nat.lt_or_ge u j with h | h
          · exact Hall.out u h
          · rw [show u = j by omega, Hxl.out]; exact K.out), hS2⟩
        case measure => simp [intOf]; omega
    · have KC := Lib.hid (letters_yes (s := s) (fun u hu => Hall.out u (by omega)))
      have hLe' : decide (j < L.size) = false := by simp; omega
      go_wp2_with fail
      go_loopw [6] (fun i wr' => ∃ k : Nat, k ≤ 90 ∧ i = .int .i64 k ∧ (∀ u, u < k → ((kindN (bAt s u) == 0) || mayB (bAt s u) u) = true) ∧ (wr'.cell? ⟨w.heap.size, 0, none⟩ = some (.string s) ∧ Below w.heap.size w wr')) (fun i _ => 90 - (intOf i).toNat)
      case atStart => exact ⟨0, by omega, rfl, fun u hu => absurd hu (Nat.not_lt_zero u), hS⟩
      case round =>
        obtain ⟨k, hk, rfl, hall, hS⟩ := hrel
        have Hall := Lib.hid hall
        clear hall
        obtain ⟨c0, hB⟩ := hS
        by_cases hlt : k < 90
        · have hks : k < s.size := by omega
          obtain ⟨x, hx⟩ : ∃ x, bAt s k = x := ⟨_, rfl⟩
          have hbk : s[k].toNat = x := (bAt_eq s k hks).trans hx
          have hfk := fill_kind (isB_fill B.out k hlt)
          rw [hx] at hfk
          by_cases h0 : x = 46
          · have e0 : ((x : Int) != 46) = false := by rw [h0]; rfl
            have K : Hid (((kindN (bAt s k) == 0) || mayB (bAt s k) k) = true) := by show _ = _; rw [hx, hfk, h0]; rfl
            clear h0 hx hfk
            go_wp2
            go_roundw
            case rel => exact ⟨k + 1, by omega, by go_num, fun u hu => (by
              rcases Nat.lt_or_ge u k with h | h
              · exact Hall.out u h
              · rw [show u = k by omega]; exact K.out), c0, hB⟩
            case measure => simp [intOf]; omega
          · have e0 : ((x : Int) != 46) = true := by rw [bne_iff_ne]; omega
            have hk0 : kindN x ≠ 0 := fun h => by rw [h] at hfk; simp at hfk; omega
            cases hm : mayB x k
            · have K : Hid (res = 2) := R2.out KC.out (places_no (s := s) hlt (by rw [hx]; exact hk0) (by rw [hx]; exact hm))
              have Hm := Lib.hid hm
              clear h0 hx hm hfk hk0
              go_wp2_with fail
              refine (rmay_is x k false _ Hm.out).mono ?_
              rintro e w1 ⟨rfl, rfl⟩
              go_wp2
              go_ret
              exact ⟨by rw [K.out]; rfl, hB⟩
            · have K : Hid (((kindN (bAt s k) == 0) || mayB (bAt s k) k) = true) := by show _ = _; rw [hx, hm, Bool.or_true]
              have Hm := Lib.hid hm
              clear h0 hx hm hfk hk0
              go_wp2_with fail
              refine (rmay_is x k true _ Hm.out).mono ?_
              rintro e w1 ⟨rfl, rfl⟩
              go_wp2
              go_roundw
              case rel => exact ⟨k + 1, by omega, by go_num, fun u hu => (by
                rcases Nat.lt_or_ge u k with h | h
                · exact Hall.out u h
                · rw [show u = k by omega]; exact K.out), c0, hB⟩
              case measure => simp [intOf]; omega
        · obtain rfl : k = 90 := by omega
          have K : Hid (res = 0) := R0.out KC.out (places_yes Hall.out)
          go_wp2
          go_ret
          exact ⟨by rw [K.out]; rfl, hB⟩
theorem rcheck_any (s : ByteArray) (side clock full : Int) (w : World) : Calls Tryz.prog 40 #[.agg #[.string s, .int .i64 side, .int .i64 clock, .int .i64 full]] w (Gives w (.int .i64 (checkN s side clock full : Nat))) := by
  cases hb : isB s
  · rw [parts_false (.inl hb)]
    exact rcheck_bad s side clock full w (.inl hb)
  by_cases hg : 0 ≤ side ∧ side ≤ 1 ∧ 0 ≤ clock ∧ clock ≤ 120 ∧ 1 ≤ full ∧ full ≤ 9999
  · obtain ⟨h1, h2, h3, h4, h5, h6⟩ := hg
    have hd : (side == 0 || side == 1) = true := by
      simp only [Bool.or_eq_true, beq_iff_eq]
      omega
    rw [checkN, parts_true hb hd h3 h4 h5 h6, if_pos rfl]
    exact rcheck_good s side clock full w hb h1 h2 h3 h4 h5 h6
  · have hc : checkN s side clock full = 1 := by
      by_cases hd : (side == 0 || side == 1) = true
      · simp only [Bool.or_eq_true, beq_iff_eq] at hd
        exact parts_false (.inr (.inr (by omega)))
      · exact parts_false (.inr (.inl (by simpa using hd)))
    rw [hc]
    exact rcheck_bad s side clock full w (.inr ⟨hb, by omega⟩)
theorem rcheck_is (s : ByteArray) (side clock full k : Int) (w : World) (h : (checkN s side clock full : Int) = k) : Calls Tryz.prog 40 #[.agg #[.string s, .int .i64 side, .int .i64 clock, .int .i64 full]] w (Gives w (.int .i64 k)) := by subst h; exact rcheck_any s side clock full w
end Go.Proofs.YtbfkkedcjodceaaGreatDoor
