/- What is told as the first one is the same as the last one, and none ahead of it is: the call answers true. -/
import Derived.Test.YtnkbilikkbaeeaaGreatDoorCycleH
namespace Go.Proofs.YtnkbilikkbaeeaaGreatDoor.cyfirst
open Go.RowKit Go.Shelf
open M (S)

set_option maxRecDepth 100000 in
set_option maxHeartbeats 4000000 in
theorem large (A : Option Addr) (n c : Nat) (w : World) (hT : Tab w) (hn : 60 < n) : Calls Tryz.prog 8 #[.slice A n c] w (Gives w (.bool true)) := by
  unfold Gives
  have hd : (60 : Int) < (n : Int) := by omega
  clear hn
  go_enter Tryz.func8, Tryz.ntmps8
  go_wp2_with fail
  refine (live17_any _ hT).mono ?_
  rintro e w9 ⟨rfl, hb⟩
  go_wp2
  go_ret
  exact ⟨rfl, hb⟩
theorem ear_is (A : Option Addr) (l : List Ps) (n c : Nat) (v : Int) (w : World) (hr : Rd w A (psL l)) (hn : l.length = n) (hl : n ≤ 1000000) (hv : earlierI l = v) : Calls Tryz.prog 30 #[.slice A n c] w (Gives w (.int .i64 v)) := by
  subst hv
  exact cearlier_any A l n c w hr hn hl
set_option maxRecDepth 100000 in
set_option maxHeartbeats 4000000 in
theorem empty_ (A : Option Addr) (c : Nat) (w : World) (hT : Tab w) : Calls Tryz.prog 8 #[.slice A 0 c] w (Gives w (.bool true)) := by
  unfold Gives
  go_enter Tryz.func8, Tryz.ntmps8
  go_wp2_with fail
  refine (cearlier_none A c _).mono ?_
  rintro e w1 ⟨rfl, hb1⟩
  have hT1 := hT.next hb1
  go_wp2_with fail
  go_loopw [4] (fun i wr => i = .int .i64 0 ∧ w1 = wr) (fun _ _ => 0)
  case atStart => exact ⟨rfl, rfl⟩
  case round =>
    obtain ⟨rfl, rfl⟩ := hrel
    go_wp2_with fail
    refine (live17_any _ hT1).mono ?_
    rintro e w9 ⟨rfl, hb⟩
    go_wp2
    go_ret
    exact ⟨rfl, hb1.trans (hb.mono hb1.size)⟩
set_option maxRecDepth 100000 in
set_option maxHeartbeats 4000000 in
theorem full_ (g b : Nat) (l : List Ps) (n m c : Nat) (e : Int) (w : World) (hT : Tab w) (hr : Rd w (some ⟨g, b, none⟩) (psL l)) (hn : l.length = n) (hm : n = m + 1) (hl : n ≤ 60) (he : earlierI l = e) (h0 : -1 ≤ e) (h1 : e < (n : Int))
    (hno : ∀ k : Nat, k < m → (e = -1 ∨ (k : Int) < e) → sameAt l k m = false) (hyes : ∀ k : Nat, (k : Int) = e → sameAt l k m = true) :
    Calls Tryz.prog 8 #[.slice (some ⟨g, b, none⟩) n c] w (Gives w (.bool true)) := by
  unfold Gives
  have HE := Lib.hid he
  have HN := Lib.hid hn
  have HM := Lib.hid hm
  have HNO := Lib.hid hno
  have HYES := Lib.hid hyes
  have hd : ¬ (60 : Int) < (n : Int) := by omega
  have d1 : ¬ e < -1 := by omega
  have d2 : ¬ (n : Int) ≤ e := by omega
  have d3 : ((n : Int) == 0) = false := by rw [beq_eq_false_iff_ne]; omega
  have bm : (m : Int) < (n : Int) := by omega
  have hm1 : (n : Int) - 1 = (m : Int) := by omega
  have hmw : IntKind.i64.wrap (m : Int) = (m : Int) := by rw [IntKind.wrap_i64]; omega
  obtain ⟨_, _, eA, q0, q1, q2, q3⟩ := hr.ps (k := m) (by omega)
  cases eA
  have hml : m < l.length := by omega
  obtain ⟨pm, hpm⟩ : ∃ p, l[m]'hml = p := ⟨_, rfl⟩
  rw [hpm] at q0 q1 q2 q3
  have HPM : Hid (l[m]? = some pm) := by show _ = _; rw [← hpm]; exact List.getElem?_eq_getElem _
  have hl6 : n ≤ 1000000 := by omega
  have HR := Lib.hid hr
  clear hn hm hml hpm he hno hyes h0 h1 hr
  go_enter Tryz.func8, Tryz.ntmps8
  go_wp2_with fail
  refine (ear_is _ l n c e _ HR.out HN.out hl6 HE.out).mono ?_
  rintro e9 w1 ⟨rfl, hb1⟩
  have hT1 := hT.next hb1
  replace q0 := (hb1.cell (p := ⟨g, b + m * 4, none⟩) (cell_lt q0)).trans q0
  replace q1 := (hb1.cell (p := ⟨g, b + m * 4 + 1, none⟩) (cell_lt q1)).trans q1
  replace q2 := (hb1.cell (p := ⟨g, b + m * 4 + 2, none⟩) (cell_lt q2)).trans q2
  replace q3 := (hb1.cell (p := ⟨g, b + m * 4 + 3, none⟩) (cell_lt q3)).trans q3
  have hr1 := HR.out.next hb1
  go_wp2_with fail
  go_loopw [4, 5] (fun i _ wr => ∃ k : Nat, k ≤ m ∧ i = .int .i64 (k : Int) ∧ Below w1.heap.size w1 wr) (fun i _ _ => m - (intOf i).toNat)
  case atStart => exact ⟨0, Nat.zero_le _, rfl, Below.refl _ _⟩
  case round =>
    obtain ⟨k, hk, rfl, hB⟩ := hrel
    have hTr := hT1.next hB
    have hBB := hb1.trans (hB.mono hb1.size)
    by_cases hlt : k < m
    · have bk : (k : Int) < (m : Int) := by omega
      have bkn : (k : Int) < (n : Int) := by omega
      have hkl : k < l.length := by rw [HN.out, HM.out]; omega
      obtain ⟨_, _, eA, p0, p1, p2, p3⟩ := hr1.ps hkl
      cases eA
      obtain ⟨pk, hpk⟩ : ∃ p, l[k]'hkl = p := ⟨_, rfl⟩
      rw [hpk] at p0 p1 p2 p3
      have c0 := (hB.cell (p := ⟨g, b + k * 4, none⟩) (cell_lt p0)).trans p0
      have c1 := (hB.cell (p := ⟨g, b + k * 4 + 1, none⟩) (cell_lt p1)).trans p1
      have c2 := (hB.cell (p := ⟨g, b + k * 4 + 2, none⟩) (cell_lt p2)).trans p2
      have c3 := (hB.cell (p := ⟨g, b + k * 4 + 3, none⟩) (cell_lt p3)).trans p3
      have d0 := (hB.cell (p := ⟨g, b + m * 4, none⟩) (cell_lt q0)).trans q0
      have d1' := (hB.cell (p := ⟨g, b + m * 4 + 1, none⟩) (cell_lt q1)).trans q1
      have d2' := (hB.cell (p := ⟨g, b + m * 4 + 2, none⟩) (cell_lt q2)).trans q2
      have d3' := (hB.cell (p := ⟨g, b + m * 4 + 3, none⟩) (cell_lt q3)).trans q3
      obtain ⟨v, hv⟩ : ∃ v, sameB pk pm = v := ⟨_, rfl⟩
      have hsv : sameAt l k m = v := by
        unfold sameAt
        rw [List.getElem?_eq_getElem hkl, hpk, HPM.out]
        exact hv
      have HV := Lib.hid hv
      have HSV := Lib.hid hsv
      clear hv hsv hpk p0 p1 p2 p3 hkl
      obtain ⟨s1, y1, z1, u1⟩ := pk
      obtain ⟨s2, y2, z2, u2⟩ := pm
      by_cases hs : 200 < s1.size
      · have hs1 : (200 : Int) < (s1.size : Int) := by omega
        go_wp2_with fail
        refine (live17_any _ hTr).mono ?_
        rintro e8 w9 ⟨rfl, hb⟩
        go_wp2
        go_ret
        exact ⟨rfl, hBB.trans (hb.mono hBB.size)⟩
      · have hs1 : ¬ (200 : Int) < (s1.size : Int) := by omega
        have hS : Eight w1 wr.drew g (b + k * 4) (b + m * 4) s1 y1 z1 u1 s2 y2 z2 u2 := eight_keep ⟨c0, c1, c2, c3, d0, d1', d2', d3', hB⟩ (Below.refl _ _).drew
        clear d0 d1' d2' d3' c1 c2 c3
        go_wp2_with fail
        clear c0
        go_region_held3 (fun W => W.cell? ⟨g, b + k * 4, none⟩ = some (.string s1) ∧ W.cell? ⟨g, b + k * 4 + 1, none⟩ = some (.int .i64 y1) ∧ W.cell? ⟨g, b + k * 4 + 2, none⟩ = some (.int .i64 z1) ∧ W.cell? ⟨g, b + k * 4 + 3, none⟩ = some (.int .i64 u1) ∧ W.cell? ⟨g, b + m * 4, none⟩ = some (.string s2) ∧ W.cell? ⟨g, b + m * 4 + 1, none⟩ = some (.int .i64 y2) ∧ W.cell? ⟨g, b + m * 4 + 2, none⟩ = some (.int .i64 z2) ∧ W.cell? ⟨g, b + m * 4 + 3, none⟩ = some (.int .i64 u2) ∧ Below w1.heap.size w1 W)
          (first | exact hS | exact eight_keep (by assumption) hb)
          (first | (go_at_call 28; refine (csame_two s1 s2 y1 z1 u1 y2 z2 u2 _ v HV.out).mono ?_; rintro e8 w3 ⟨rfl, hb⟩))
        all_goals
          have hB3 := eight_below (by assumption)
          rcases Int.lt_trichotomy (k : Int) e with h | h | h
          · have v0 := (HNO.out k hlt (.inr h)).symm.trans HSV.out
            subst v0
            have e1 : ((k : Int) == e) = false := by rw [beq_eq_false_iff_ne]; omega
            have e2 : (e == -1) = false := by rw [beq_eq_false_iff_ne]; omega
            go_wp2
            go_roundw
            case rel => exact ⟨k + 1, by omega, by go_num, hB3⟩
            case measure => simp [intOf]; omega
          · have v0 := (HYES.out k h).symm.trans HSV.out
            subst v0
            subst h
            have e2 : ((k : Int) == -1) = false := by rw [beq_eq_false_iff_ne]; omega
            go_wp2
            go_roundw
            case rel => exact ⟨k + 1, by omega, by go_num, hB3⟩
            case measure => simp [intOf]; omega
          · have e1 : ((k : Int) == e) = false := by rw [beq_eq_false_iff_ne]; omega
            have e3 : ¬ (k : Int) < e := by omega
            by_cases hm9 : e = -1
            · have v0 := (HNO.out k hlt (.inl hm9)).symm.trans HSV.out
              subst v0
              subst hm9
              go_wp2
              go_roundw
              case rel => exact ⟨k + 1, by omega, by go_num, hB3⟩
              case measure => simp [intOf]; omega
            · have e2 : (e == -1) = false := by rw [beq_eq_false_iff_ne]; exact hm9
              go_wp2
              go_roundw
              case rel => exact ⟨k + 1, by omega, by go_num, hB3⟩
              case measure => simp [intOf]; omega
    · obtain rfl : k = m := by omega
      have bk : ¬ (k : Int) < (k : Int) := by omega
      clear hlt hk
      go_wp2_with fail
      refine (live17_any _ hTr).mono ?_
      rintro e8 w9 ⟨rfl, hb⟩
      go_wp2
      go_ret
      exact ⟨rfl, hBB.trans (hb.mono hBB.size)⟩
theorem walk (A : Option Addr) (l : List Ps) (c : Nat) (w : World) (hT : Tab w) (hr : Rd w A (psL l)) : Calls Tryz.prog 8 #[.slice A l.length c] w (Gives w (.bool true)) := by
  obtain ⟨n, hn⟩ : ∃ n, l.length = n := ⟨_, rfl⟩
  rw [hn]
  by_cases h6 : 60 < n
  · exact large A n c w hT h6
  · cases n with
    | zero => exact empty_ A c w hT
    | succ m =>
      obtain ⟨g, b, rfl, _⟩ := hr.ps (k := 0) (by omega)
      have hlm : l.length - 1 = m := by omega
      have hE : earlierI l = firstI (fun i => sameAt l i m) m := by unfold earlierI; rw [hlm]
      rcases first_cases (fun i => sameAt l i m) m with ⟨i, hi, hp, hno, e⟩ | ⟨hno, e⟩
      · exact full_ g b l (m + 1) m c (i : Int) w hT hr hn rfl (by omega) (hE.trans e) (by omega) (by omega) (fun k hk h => by
          rcases h with h | h
          · omega
          · exact hno k (by omega)) (fun k hk => by
          have : k = i := by omega
          rw [this]; exact hp)
      · exact full_ g b l (m + 1) m c (-1) w hT hr hn rfl (by omega) (hE.trans e) (by omega) (by omega) (fun k hk _ => hno k hk) (fun k hk => by omega)
end Go.Proofs.YtnkbilikkbaeeaaGreatDoor.cyfirst
