/- What comes again, where a piece stood: the document's own answers. -/
import Derived.Test.YtiiipchfclmbcaaGreatDoorCycleM
namespace Go.Proofs.YtiiipchfclmbcaaGreatDoor
open Go.RowKit Go.Shelf
open M (S)

set_option maxRecDepth 100000 in
set_option maxHeartbeats 2000000 in
theorem rsame_two (s s2 : ByteArray) (y z u y2 z2 u2 : Int) (w : World) (v : Bool) (hv : ((s.toList == s2.toList) && (y == y2)) = v) : Calls Tryz.prog 51 #[.agg #[.string s, .int .i64 y, .int .i64 z, .int .i64 u], .agg #[.string s2, .int .i64 y2, .int .i64 z2, .int .i64 u2]] w (Gives w (.bool v)) := by
  unfold Gives
  obtain ⟨W0, hW0⟩ : ∃ W0, (w.alloc (.cells #[.string s, .int .i64 y, .int .i64 z, .int .i64 u] 23)).alloc (.cells #[.string s2, .int .i64 y2, .int .i64 z2, .int .i64 u2] 23) = W0 := ⟨_, rfl⟩
  obtain ⟨hB, b1, b2⟩ := two_start w _ _ _ hW0
  obtain ⟨p0, p1, p2, p3⟩ := four_cells b1
  obtain ⟨q0, q1, q2, q3⟩ := four_cells b2
  obtain ⟨e, he⟩ : ∃ e, (s.toList == s2.toList) = e := ⟨_, rfl⟩
  obtain ⟨f, hf⟩ : ∃ f, (y == y2) = f := ⟨_, rfl⟩
  rw [he, hf] at hv
  have HV := Lib.hid hv
  have HW := Lib.hid hW0
  clear hW0 hv
  cases e
  · go_enter Tryz.func51, Tryz.ntmps51
    go_wp2
    go_ret
    rw [HW.out]
    exact ⟨by rw [← HV.out]; rfl, hB⟩
  · go_enter Tryz.func51, Tryz.ntmps51
    go_wp2
    go_ret
    rw [HW.out]
    exact ⟨by rw [← HV.out]; rfl, hB⟩
set_option maxRecDepth 100000 in
set_option maxHeartbeats 2000000 in
theorem rearlier_some (g b : Nat) (l : List Ps) (n m c : Nat) (w : World) (hr : Rd w (some ⟨g, b, none⟩) (psL l)) (hn : l.length = n) (hm : n = m + 1) (hl : n ≤ 1000000) :
    Calls Tryz.prog 21 #[.slice (some ⟨g, b, none⟩) n c] w (Gives w (.int .i64 (earlierI l))) := by
  unfold Gives
  have HN := Lib.hid hn
  have HM := Lib.hid hm
  have bm : (m : Int) < (n : Int) := by omega
  have hm1 : (n : Int) - 1 = (m : Int) := by omega
  have hmw : IntKind.i64.wrap (m : Int) = (m : Int) := by rw [IntKind.wrap_i64]; omega
  obtain ⟨_, _, e, q0, q1, q2, q3⟩ := hr.ps (k := m) (by omega)
  cases e
  have hml : m < l.length := by omega
  obtain ⟨pm, hpm⟩ : ∃ p, l[m]'hml = p := ⟨_, rfl⟩
  rw [hpm] at q0 q1 q2 q3
  have HPM : Hid (l[m]? = some pm) := by show _ = _; rw [← hpm]; exact List.getElem?_eq_getElem _
  clear hn hm hml hpm
  go_enter Tryz.func21, Tryz.ntmps21
  go_wp2_with fail
  go_loopw [3] (fun i wr => ∃ k : Nat, k ≤ m ∧ i = .int .i64 (k : Int) ∧ (∀ j, j < k → sameAt l j (l.length - 1) = false) ∧ Below w.heap.size w wr) (fun i _ => m - (intOf i).toNat)
  case atStart => exact ⟨0, Nat.zero_le _, rfl, fun j hj => absurd hj (by omega), Below.refl _ _⟩
  case round =>
    obtain ⟨k, hk, rfl, hno, hB⟩ := hrel
    by_cases hlt : k < m
    · have bk : (k : Int) < (m : Int) := by omega
      have bkn : (k : Int) < (n : Int) := by omega
      have hkl : k < l.length := by rw [HN.out, HM.out]; omega
      obtain ⟨_, _, e, p0, p1, p2, p3⟩ := hr.ps hkl
      cases e
      obtain ⟨pk, hpk⟩ : ∃ p, l[k]'hkl = p := ⟨_, rfl⟩
      rw [hpk] at p0 p1 p2 p3
      have c0 := (hB.cell (p := ⟨g, b + k * 4, none⟩) (cell_lt p0)).trans p0
      have c1 := (hB.cell (p := ⟨g, b + k * 4 + 1, none⟩) (cell_lt p1)).trans p1
      have c2 := (hB.cell (p := ⟨g, b + k * 4 + 2, none⟩) (cell_lt p2)).trans p2
      have c3 := (hB.cell (p := ⟨g, b + k * 4 + 3, none⟩) (cell_lt p3)).trans p3
      have d0 := (hB.cell (p := ⟨g, b + m * 4, none⟩) (cell_lt q0)).trans q0
      have d1 := (hB.cell (p := ⟨g, b + m * 4 + 1, none⟩) (cell_lt q1)).trans q1
      have d2 := (hB.cell (p := ⟨g, b + m * 4 + 2, none⟩) (cell_lt q2)).trans q2
      have d3 := (hB.cell (p := ⟨g, b + m * 4 + 3, none⟩) (cell_lt q3)).trans q3
      obtain ⟨v, hv⟩ : ∃ v, sameB pk pm = v := ⟨_, rfl⟩
      have hsv : sameAt l k (l.length - 1) = v := by
        unfold sameAt
        rw [List.getElem?_eq_getElem hkl, hpk, show l.length - 1 = m by rw [HN.out, HM.out]; omega, HPM.out]
        exact hv
      have HV := Lib.hid hv
      have HSV := Lib.hid hsv
      have HNO := Lib.hid hno
      clear hv hsv hpk p0 p1 p2 p3 hkl hno
      obtain ⟨s1, y1, z1, u1⟩ := pk
      obtain ⟨s2, y2, z2, u2⟩ := pm
      have hS : Eight w wr.drew g (b + k * 4) (b + m * 4) s1 y1 z1 u1 s2 y2 z2 u2 := eight_keep ⟨c0, c1, c2, c3, d0, d1, d2, d3, hB⟩ (Below.refl _ _).drew
      clear c0 c1 c2 c3 d0 d1 d2 d3 q0 q1 q2 q3
      go_wp2_with fail
      go_region_held3 (fun W => W.cell? ⟨g, b + k * 4, none⟩ = some (.string s1) ∧ W.cell? ⟨g, b + k * 4 + 1, none⟩ = some (.int .i64 y1) ∧ W.cell? ⟨g, b + k * 4 + 2, none⟩ = some (.int .i64 z1) ∧ W.cell? ⟨g, b + k * 4 + 3, none⟩ = some (.int .i64 u1) ∧ W.cell? ⟨g, b + m * 4, none⟩ = some (.string s2) ∧ W.cell? ⟨g, b + m * 4 + 1, none⟩ = some (.int .i64 y2) ∧ W.cell? ⟨g, b + m * 4 + 2, none⟩ = some (.int .i64 z2) ∧ W.cell? ⟨g, b + m * 4 + 3, none⟩ = some (.int .i64 u2) ∧ Below w.heap.size w W)
        (first | exact hS | exact eight_keep (by assumption) hb)
        (first | (go_at_call 51; refine (rsame_two s1 s2 y1 z1 u1 y2 z2 u2 _ v HV.out).mono ?_; rintro e w3 ⟨rfl, hb⟩))
      all_goals
        have hBb := eight_below (by assumption)
        cases v
        · go_wp2
          go_roundw
          case rel => exact ⟨k + 1, by omega, by go_num, fun j hj => by
            rcases Nat.lt_succ_iff_lt_or_eq.1 hj with h | h
            · exact HNO.out j h
            · rw [h]; exact HSV.out, hBb⟩
          case measure => simp [intOf]; omega
        · go_wp2
          go_ret
          refine ⟨?_, hBb⟩
          rw [show earlierI l = (k : Int) from first_hit (by rw [HN.out, HM.out]; omega) HSV.out fun j hj => HNO.out j hj]
          rfl
    · obtain rfl : k = m := by omega
      have bk : ¬ (k : Int) < (k : Int) := by omega
      have HNO := Lib.hid hno
      clear hno hlt hk
      go_wp2
      go_ret
      refine ⟨?_, hB⟩
      rw [show earlierI l = -1 from first_none fun j hj => HNO.out j (by rw [HN.out, HM.out] at hj; omega)]
      rfl
set_option maxRecDepth 100000 in
theorem rearlier_none (A : Option Addr) (c : Nat) (w : World) : Calls Tryz.prog 21 #[.slice A 0 c] w (Gives w (.int .i64 (-1))) := by
  unfold Gives
  go_enter Tryz.func21, Tryz.ntmps21
  go_wp2_with fail
  go_loopw [3] (fun i wr => i = .int .i64 0 ∧ w = wr) (fun _ _ => 0)
  case atStart => exact ⟨rfl, rfl⟩
  case round =>
    obtain ⟨rfl, rfl⟩ := hrel
    go_wp2
    go_ret
    exact ⟨rfl, Below.refl _ _⟩
theorem rearlier_any (A : Option Addr) (l : List Ps) (n c : Nat) (w : World) (hr : Rd w A (psL l)) (hn : l.length = n) (hl : n ≤ 1000000) :
    Calls Tryz.prog 21 #[.slice A n c] w (Gives w (.int .i64 (earlierI l))) := by
  cases n with
  | zero =>
    rw [List.eq_nil_of_length_eq_zero hn]
    exact rearlier_none A c w
  | succ m =>
    obtain ⟨g, b, rfl, _⟩ := hr.ps (k := 0) (by omega)
    exact rearlier_some g b l (m + 1) m c w hr hn rfl hl
set_option maxRecDepth 100000 in
set_option maxHeartbeats 2000000 in
theorem rorigin_any (A : Option Addr) (m : List (Int × Int)) (n c : Nat) (n0 : Int) (w : World) (hr : Rd w A (mzL m)) (hn : m.length = n) (hl : n ≤ 1000000) :
    Calls Tryz.prog 150 #[.slice A n c, .int .i64 n0] w (Gives w (.int .i64 (originI m n0))) := by
  unfold Gives
  have HN := Lib.hid hn
  clear hn
  go_enter Tryz.func150, Tryz.ntmps150
  go_wp2_with fail
  go_loopw [1, 5] (fun x i wr => ∃ k : Nat, k ≤ n ∧ i = .int .i64 ((k : Int) - 1) ∧ x = .int .i64 (originI (m.drop k) n0) ∧ Below w.heap.size w wr) (fun _ i _ => ((intOf i) + 1).toNat)
  case atStart => exact ⟨n, Nat.le_refl _, by go_num, by rw [List.drop_of_length_le (by rw [HN.out]; exact Nat.le_refl _)]; rfl, Below.refl _ _⟩
  case round =>
    obtain ⟨k, hk, rfl, rfl, hB⟩ := hrel
    cases k with
    | zero =>
      go_wp2
      go_ret
      exact ⟨rfl, hB⟩
    | succ j =>
      have hjm : j < m.length := by rw [HN.out]; omega
      obtain ⟨g, b, rfl, d0, d1⟩ := hr.mz hjm
      have hst := origin_drop hjm n0
      obtain ⟨⟨x, y⟩, hxy⟩ : ∃ x, m[j]'hjm = x := ⟨_, rfl⟩
      rw [hxy] at d0 d1 hst
      have c0 := (hB.cell (p := ⟨g, b + j * 2, none⟩) (cell_lt d0)).trans d0
      have c1 := (hB.cell (p := ⟨g, b + j * 2 + 1, none⟩) (cell_lt d1)).trans d1
      rw [show ((j + 1 : Nat) : Int) - 1 = (j : Int) by omega]
      have bj : (j : Int) < (n : Int) := by omega
      obtain ⟨v, hv⟩ : ∃ v, originI (m.drop (j + 1)) n0 = v := ⟨_, rfl⟩
      rw [hv] at hst ⊢
      have hst : originI (m.drop j) n0 = if y = v then x else v := hst
      by_cases hyv : y = v
      · have e : (y == v) = true := by rw [hyv]; simp
        rw [if_pos hyv] at hst
        have HST := Lib.hid hst
        clear hst hyv hv hxy hjm d0 d1
        go_wp2
        go_roundw
        case rel => exact ⟨j, by omega, by go_num, by rw [HST.out], hB⟩
        case measure => simp [intOf]
      · have e : (y == v) = false := by rw [beq_eq_false_iff_ne]; exact hyv
        rw [if_neg hyv] at hst
        have HST := Lib.hid hst
        clear hst hyv hv hxy hjm d0 d1
        go_wp2
        go_roundw
        case rel => exact ⟨j, by omega, by go_num, by rw [HST.out], hB⟩
        case measure => simp [intOf]
end Go.Proofs.YtiiipchfclmbcaaGreatDoor
