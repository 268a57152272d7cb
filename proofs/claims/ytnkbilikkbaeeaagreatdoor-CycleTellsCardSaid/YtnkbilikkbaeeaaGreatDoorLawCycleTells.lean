/- Which of any positions is the last one's first; where any piece stood ahead of any moves: the call answers true. -/
import Derived.Test.YtnkbilikkbaeeaaGreatDoorCycleH
import Derived.Test.YtnkbilikkbaeeaaGreatDoorCycleR
namespace Go.Proofs.YtnkbilikkbaeeaaGreatDoor.cytells
open Go.RowKit Go.Shelf
open M (S)

theorem ear_is (A : Option Addr) (l : List Ps) (n c : Nat) (v : Int) (w : World) (hr : Rd w A (psL l)) (hn : l.length = n) (hl : n ≤ 1000000) (hv : earlierI l = v) : Calls Tryz.prog 30 #[.slice A n c] w (Gives w (.int .i64 v)) := by
  subst hv
  exact cearlier_any A l n c w hr hn hl
theorem rear_is (A : Option Addr) (l : List Ps) (n c : Nat) (v : Int) (w : World) (hr : Rd w A (psL l)) (hn : l.length = n) (hl : n ≤ 1000000) (hv : earlierI l = v) : Calls Tryz.prog 31 #[.slice A n c] w (Gives w (.int .i64 v)) := by
  subst hv
  exact rearlier_any A l n c w hr hn hl
theorem org_is (A : Option Addr) (m : List (Int × Int)) (n c : Nat) (x v : Int) (w : World) (hr : Rd w A (mzL m)) (hn : m.length = n) (hl : n ≤ 1000000) (hv : originI m x = v) : Calls Tryz.prog 32 #[.slice A n c, .int .i64 x] w (Gives w (.int .i64 v)) := by
  subst hv
  exact origin_any A m n c x w hr hn hl
theorem rorg_is (A : Option Addr) (m : List (Int × Int)) (n c : Nat) (x v : Int) (w : World) (hr : Rd w A (mzL m)) (hn : m.length = n) (hl : n ≤ 1000000) (hv : originI m x = v) : Calls Tryz.prog 33 #[.slice A n c, .int .i64 x] w (Gives w (.int .i64 v)) := by
  subst hv
  exact rorigin_any A m n c x w hr hn hl
set_option maxRecDepth 100000 in
set_option maxHeartbeats 4000000 in
theorem large (A C : Option Addr) (n c a d : Nat) (x : Int) (w : World) (hT : Tab w) (h : 60 < n ∨ 100 < a) : Calls Tryz.prog 5 #[.slice A n c, .slice C a d, .int .i64 x] w (Gives w (.bool true)) := by
  unfold Gives
  by_cases h1 : 60 < n
  · have hd : (60 : Int) < (n : Int) := by omega
    clear h h1
    go_enter Tryz.func5, Tryz.ntmps5
    go_wp2_with fail
    refine (live17_any _ hT).mono ?_
    rintro e w9 ⟨rfl, hb⟩
    go_wp2
    go_ret
    exact ⟨rfl, hb⟩
  · have hd : ¬ (60 : Int) < (n : Int) := by omega
    have hd2 : (100 : Int) < (a : Int) := by omega
    clear h h1
    go_enter Tryz.func5, Tryz.ntmps5
    go_wp2_with fail
    refine (live17_any _ hT).mono ?_
    rintro e w9 ⟨rfl, hb⟩
    go_wp2
    go_ret
    exact ⟨rfl, hb⟩
set_option maxRecDepth 100000 in
set_option maxHeartbeats 4000000 in
theorem small (A C : Option Addr) (l : List Ps) (ms : List (Int × Int)) (n c a d : Nat) (x : Int) (w : World) (hT : Tab w) (hr : Rd w A (psL l)) (hm : Rd w C (mzL ms)) (hn : l.length = n) (ha : ms.length = a) (h1 : n ≤ 60) (h2 : a ≤ 100) : Calls Tryz.prog 5 #[.slice A n c, .slice C a d, .int .i64 x] w (Gives w (.bool true)) := by
  unfold Gives
  have hd : ¬ (60 : Int) < (n : Int) := by omega
  have hd2 : ¬ (100 : Int) < (a : Int) := by omega
  have n6 : n ≤ 1000000 := by omega
  have a6 : a ≤ 1000000 := by omega
  obtain ⟨ev, hev⟩ : ∃ v, earlierI l = v := ⟨_, rfl⟩
  obtain ⟨ov, hov⟩ : ∃ v, originI ms x = v := ⟨_, rfl⟩
  have HE := Lib.hid hev
  have HO := Lib.hid hov
  have HN := Lib.hid hn
  have HA := Lib.hid ha
  have HR := Lib.hid hr
  have HM := Lib.hid hm
  have ee : (ev == ev) = true := by simp
  have oo : (ov == ov) = true := by simp
  clear hev hov hn ha hm
  go_enter Tryz.func5, Tryz.ntmps5
  go_wp2_with fail
  go_loopw [7] (fun i wr => ∃ k : Nat, k ≤ n ∧ i = .int .i64 (k : Int) ∧ Below w.heap.size w wr) (fun i _ => n - (intOf i).toNat)
  case atStart => exact ⟨0, Nat.zero_le _, rfl, Below.refl _ _⟩
  case round =>
    obtain ⟨k, hk, rfl, hB⟩ := hrel
    have hTr := hT.next hB
    by_cases hlt : k < n
    · have bk : (k : Int) < (n : Int) := by omega
      have b0 : (0 : Int) < (n : Int) := by omega
      have b00 : 0 < n := by omega
      have hkl : k < l.length := by rw [HN.out]; exact hlt
      obtain ⟨g, b, rfl, p0, p1, p2, p3⟩ := hr.ps hkl
      obtain ⟨_, _, eA, q0, q1, q2, q3⟩ := hr.ps (k := 0) (by omega)
      cases eA
      rw [Nat.zero_mul, Nat.add_zero] at q0 q1 q2 q3
      obtain ⟨pk, hpk⟩ : ∃ p, l[k]'hkl = p := ⟨_, rfl⟩
      obtain ⟨pm, hpm⟩ : ∃ p, l[0]'(by omega) = p := ⟨_, rfl⟩
      rw [hpk] at p0 p1 p2 p3
      rw [hpm] at q0 q1 q2 q3
      have c0 := (hB.cell (p := ⟨g, b + k * 4, none⟩) (cell_lt p0)).trans p0
      have c1 := (hB.cell (p := ⟨g, b + k * 4 + 1, none⟩) (cell_lt p1)).trans p1
      have c2 := (hB.cell (p := ⟨g, b + k * 4 + 2, none⟩) (cell_lt p2)).trans p2
      have c3 := (hB.cell (p := ⟨g, b + k * 4 + 3, none⟩) (cell_lt p3)).trans p3
      have d0 := (hB.cell (p := ⟨g, b, none⟩) (cell_lt q0)).trans q0
      have d1 := (hB.cell (p := ⟨g, b + 1, none⟩) (cell_lt q1)).trans q1
      have d2 := (hB.cell (p := ⟨g, b + 2, none⟩) (cell_lt q2)).trans q2
      have d3 := (hB.cell (p := ⟨g, b + 3, none⟩) (cell_lt q3)).trans q3
      clear hpk hpm p0 p1 p2 p3 q0 q1 q2 q3
      obtain ⟨s1, y1, z1, u1⟩ := pk
      obtain ⟨s2, y2, z2, u2⟩ := pm
      obtain ⟨v, hv⟩ : ∃ v, ((s2.toList == s1.toList) && (y2 == y1)) = v := ⟨_, rfl⟩
      have HV := Lib.hid hv
      have vv : (v != v) = false := by cases v <;> rfl
      have hS : Eight w wr.drew g (b + k * 4) b s1 y1 z1 u1 s2 y2 z2 u2 := eight_keep ⟨c0, c1, c2, c3, d0, d1, d2, d3, hB⟩ (Below.refl _ _).drew
      clear hv
      by_cases hs : 200 < s1.size
      · have hs2 : decide ((200 : Int) < (s1.size : Int)) = true := by simp; omega
        clear hs
        clear hS HV vv d0 d1 d2 d3 c1 c2 c3
        go_wp2_with fail
        go_quiet (fail)
        have e0 : (wr.drewN nq).cell? ⟨g, b + k * 4, none⟩ = some (.string s1) := c0
        go_wp2_with fail
        refine (live17_any _ (hTr.next (below_drewN (Below.refl _ _) _))).mono ?_
        rintro e8 w9 ⟨rfl, hb⟩
        go_wp2
        go_ret
        have hB9 := below_drewN hB nq
        exact ⟨rfl, hB9.trans (hb.mono hB9.size)⟩
      · have hs2 : decide ((200 : Int) < (s1.size : Int)) = false := by simp; omega
        clear hs
        clear c0 c1 c2 c3 d0 d1 d2 d3
        go_wp2_with fail
        go_region_held3 (fun W => W.cell? ⟨g, b + k * 4, none⟩ = some (.string s1) ∧ W.cell? ⟨g, b + k * 4 + 1, none⟩ = some (.int .i64 y1) ∧ W.cell? ⟨g, b + k * 4 + 2, none⟩ = some (.int .i64 z1) ∧ W.cell? ⟨g, b + k * 4 + 3, none⟩ = some (.int .i64 u1) ∧ W.cell? ⟨g, b, none⟩ = some (.string s2) ∧ W.cell? ⟨g, b + 1, none⟩ = some (.int .i64 y2) ∧ W.cell? ⟨g, b + 2, none⟩ = some (.int .i64 z2) ∧ W.cell? ⟨g, b + 3, none⟩ = some (.int .i64 u2) ∧ Below w.heap.size w W)
          (first | exact hS | exact eight_keep (by assumption) hb)
          (first | (go_at_call 28; refine (csame_two s2 s1 y2 z2 u2 y1 z1 u1 _ v HV.out).mono ?_; rintro e8 w3 ⟨rfl, hb⟩) | (go_at_call 29; refine (rsame_two s2 s1 y2 z2 u2 y1 z1 u1 _ v HV.out).mono ?_; rintro e8 w3 ⟨rfl, hb⟩))
        all_goals
          have hB3 := eight_below (by assumption)
          go_wp2
          go_roundw
          case rel => exact ⟨k + 1, by omega, by go_num, hB3⟩
          case measure => simp [intOf]; omega
    · obtain rfl : k = n := by omega
      have bk : ¬ (k : Int) < (k : Int) := by omega
      clear hlt hk hr
      go_wp2_with fail
      refine (ear_is _ l k c ev _ (HR.out.next hB) HN.out n6 HE.out).mono ?_
      rintro e1 w1 ⟨rfl, hb1⟩
      have hB1 := hB.trans (hb1.mono hB.size)
      go_wp2_with fail
      refine (rear_is _ l k c ev _ (HR.out.next hB1) HN.out n6 HE.out).mono ?_
      rintro e2 w2 ⟨rfl, hb2⟩
      have hB2 := hB1.trans (hb2.mono hB1.size)
      go_wp2_with fail
      refine (org_is _ ms a d x ov _ (HM.out.next hB2) HA.out a6 HO.out).mono ?_
      rintro e3 w3 ⟨rfl, hb3⟩
      have hB3 := hB2.trans (hb3.mono hB2.size)
      go_wp2_with fail
      refine (rorg_is _ ms a d x ov _ (HM.out.next hB3) HA.out a6 HO.out).mono ?_
      rintro e4 w4 ⟨rfl, hb4⟩
      have hB4 := hB3.trans (hb4.mono hB3.size)
      go_wp2_with fail
      refine (live17_any _ (hT.next hB4)).mono ?_
      rintro e8 w9 ⟨rfl, hb⟩
      go_wp2
      go_ret
      exact ⟨rfl, hB4.trans (hb.mono hB4.size)⟩
theorem walk (A : Option Addr) (l : List Ps) (c : Nat) (C : Option Addr) (ms : List (Int × Int)) (d : Nat) (x : Int) (w : World) (hT : Tab w) (hr : Rd w A (psL l)) (hm : Rd w C (mzL ms)) (_ : ms.length ≤ d) : Calls Tryz.prog 5 #[.slice A l.length c, .slice C ms.length d, .int .i64 x] w (Gives w (.bool true)) := by
  by_cases h1 : l.length ≤ 60
  · by_cases h2 : ms.length ≤ 100
    · exact small A C l ms _ c _ d x w hT hr hm rfl rfl h1 h2
    · exact large A C _ c _ d x w hT (.inr (by omega))
  · exact large A C _ c _ d x w hT (.inl (by omega))
end Go.Proofs.YtnkbilikkbaeeaaGreatDoor.cytells
