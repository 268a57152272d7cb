/- Numbers of pieces on squares are not the same, but of the same piece on the same square: the call answers true. -/
import Derived.Test.YtocdmnkmepplcaaKeyL
import Derived.Test.YtocdmnkmepplcaaKeyN
namespace Go.Proofs.Ytocdmnkmepplcaa.kapart
open Go.RowKit Go.Shelf
open M (S)

theorem cell_some {c : Nat} {n : Int} (h : cellK c n ≠ 0) : ∃ i m : Nat, placeK c = some i ∧ n = m ∧ m < 90 ∧ i < 14 ∧ cellK c n = rowK (1 + 90 * i + m) := by
  unfold cellK at h ⊢
  split at h
  · rename_i hn
    cases hp : placeK c with
    | none => rw [hp] at h; exact absurd rfl h
    | some i =>
      refine ⟨i, n.toNat, rfl, by omega, by omega, place_lt hp, ?_⟩
      rw [if_pos hn]
  · exact absurd rfl h
theorem place_inj {c d i : Nat} (hc : placeK c = some i) (hd : placeK d = some i) : c = d := by
  unfold placeK at hc hd
  obtain ⟨hl, h1, _⟩ := List.findIdx?_eq_some_iff_getElem.1 hc
  obtain ⟨_, h2, _⟩ := List.findIdx?_eq_some_iff_getElem.1 hd
  rw [beq_iff_eq] at h1 h2
  rw [← h1, h2]
theorem cells_same {c d : Nat} {n m : Int} (ha : cellK c n ≠ 0) (hb : cellK d m ≠ 0) : (cellK c n = cellK d m) ↔ (c = d ∧ n = m) := by
  obtain ⟨i, p, hi, rfl, hp, li, e1⟩ := cell_some ha
  obtain ⟨j, q, hj, rfl, hq, lj, e2⟩ := cell_some hb
  constructor
  · intro h
    rw [e1, e2] at h
    have := row_inj (by omega) (by omega) h
    have hij : i = j := by omega
    subst hij
    exact ⟨place_inj hi hj, by omega⟩
  · rintro ⟨rfl, h⟩
    rw [h]
theorem cell_turn {c : Nat} {n : Int} (ha : cellK c n ≠ 0) : cellK c n ≠ turnK := by
  obtain ⟨i, p, hi, rfl, hp, li, e1⟩ := cell_some ha
  rw [e1]
  intro h
  have := row_inj (by omega) (by decide) (show rowK (1 + 90 * i + p) = rowK 1261 from h)
  omega
set_option maxRecDepth 100000 in
set_option maxHeartbeats 4000000 in
theorem walk (c d : Nat) (n m : Int) (w : World) (hc : c < 256) (hd : d < 256) : Calls Try.prog 7 #[.agg #[.int .u8 (c : Int), .int .i64 n, .int .u8 (d : Int), .int .i64 m]] w (Gives w (.bool true)) := by
  unfold Gives
  obtain ⟨a, ha⟩ : ∃ a, cellK c n = a := ⟨_, rfl⟩
  obtain ⟨b, hb⟩ : ∃ b, cellK d m = b := ⟨_, rfl⟩
  obtain ⟨t, ht⟩ : ∃ t, turnK = t := ⟨_, rfl⟩
  have HA := Lib.hid ha
  have HB := Lib.hid hb
  have HT := Lib.hid ht
  obtain ⟨W0, hW0⟩ : ∃ W0, w.alloc (.cells #[.int .u8 (c : Int), .int .i64 n, .int .u8 (d : Int), .int .i64 m] 44) = W0 := ⟨_, rfl⟩
  have hB : Below w.heap.size w W0 := by rw [← hW0]; exact (by repeat (first | exact Below.refl _ _ | (refine Below.setCell ?_ (by first | omega | (simp; done) | (simp; omega) | (simp at *; omega)) _) | (refine Below.alloc ?_ (by first | omega | (simp; done) | (simp; omega) | (simp at *; omega)) _) | refine Below.drew ?_ | (refine below_drewN ?_ _) | (refine Below.trans ?_ (Below.mono (by assumption) (by first | omega | (simp; done) | (simp; omega) | (simp at *; omega))))))
  have bX : Blk W0 w.heap.size 44 #[.int .u8 (c : Int), .int .i64 n, .int .u8 (d : Int), .int .i64 m] := by rw [← hW0]; exact Blk.new _ _ _ rfl
  have HW := Lib.hid hW0
  clear hW0
  have p0 : W0.cell? ⟨w.heap.size, 0, none⟩ = some (.int .u8 (c : Int)) := bX.cell 0
  have p1 : W0.cell? ⟨w.heap.size, 1, none⟩ = some (.int .i64 n) := bX.cell 1
  have p2 : W0.cell? ⟨w.heap.size, 2, none⟩ = some (.int .u8 (d : Int)) := bX.cell 2
  have p3 : W0.cell? ⟨w.heap.size, 3, none⟩ = some (.int .i64 m) := bX.cell 3
  by_cases ha0 : a = 0
  · have e0 : ((a : Int) == 0) = true := by rw [ha0]; rfl
    clear ha hb ht ha0
    go_enter Try.func7, Try.ntmps7
    go_wp2_with fail
    rw [HW.out]
    go_quiet (fail)
    go_wp2_with fail
    refine (cell_is c n a _ hc HA.out).mono ?_
    rintro e w1 ⟨rfl, hb1⟩
    go_wp2_with fail
    refine (cell_is d m b _ hd HB.out).mono ?_
    rintro e w2 ⟨rfl, hb2⟩
    go_wp2_with fail
    refine (live10_any _).mono ?_
    rintro e w3 ⟨rfl, hb3⟩
    have hb4 := (below_drewN hB nq).trans (hb1.mono (below_drewN hB nq).size)
    have hb5 := hb4.trans (hb2.mono hb4.size)
    have hb6 := hb5.trans (hb3.mono hb5.size)
    go_wp2
    go_ret
    exact ⟨rfl, hb6⟩
  · have e0 : ((a : Int) == 0) = false := by simp; omega
    by_cases hb0 : b = 0
    · have e1 : ((b : Int) == 0) = true := by rw [hb0]; rfl
      clear ha hb ht ha0 hb0
      go_enter Try.func7, Try.ntmps7
      go_wp2_with fail
      rw [HW.out]
      go_quiet (fail)
      go_wp2_with fail
      refine (cell_is c n a _ hc HA.out).mono ?_
      rintro e w1 ⟨rfl, hb1⟩
      go_wp2_with fail
      refine (cell_is d m b _ hd HB.out).mono ?_
      rintro e w2 ⟨rfl, hb2⟩
      go_wp2_with fail
      refine (live10_any _).mono ?_
      rintro e w3 ⟨rfl, hb3⟩
      have hb4 := (below_drewN hB nq).trans (hb1.mono (below_drewN hB nq).size)
      have hb5 := hb4.trans (hb2.mono hb4.size)
      have hb6 := hb5.trans (hb3.mono hb5.size)
      go_wp2
      go_ret
      exact ⟨rfl, hb6⟩
    · have e1 : ((b : Int) == 0) = false := by simp; omega
      have hcells := cells_same (c := c) (d := d) (n := n) (m := m) (by rw [ha]; exact ha0) (by rw [hb]; exact hb0)
      have hturn := cell_turn (c := c) (n := n) (by rw [ha]; exact ha0)
      rw [ha, hb] at hcells
      rw [ha, ht] at hturn
      have e2 : ((a : Int) != (t : Int)) = true := by rw [bne_iff_ne]; omega
      clear ha hb ht ha0 hb0 hturn
      by_cases hcd : c = d
      · by_cases hnm : n = m
        · have f1 : ((c : Int) == (d : Int)) = true := by rw [hcd]; simp
          have f2 : (n == m) = true := by rw [hnm]; simp
          have f3 : ((a : Int) == (b : Int)) = true := by rw [hcells.2 ⟨hcd, hnm⟩]; simp
          clear hcd hnm hcells
          go_enter Try.func7, Try.ntmps7
          go_wp2_with fail
          rw [HW.out]
          go_quiet (fail)
          go_wp2_with fail
          refine (cell_is c n a _ hc HA.out).mono ?_
          rintro e w1 ⟨rfl, hb1⟩
          go_wp2_with fail
          refine (cell_is d m b _ hd HB.out).mono ?_
          rintro e w2 ⟨rfl, hb2⟩
          go_wp2_with fail
          refine (kturn_is t _ HT.out).mono ?_
          rintro e w3 ⟨rfl, hb3⟩
          go_wp2_with fail
          refine (live10_any _).mono ?_
          rintro e w4 ⟨rfl, hb4⟩
          have hb5 := (below_drewN hB nq).trans (hb1.mono (below_drewN hB nq).size)
          have hb6 := hb5.trans (hb2.mono hb5.size)
          have hb7 := hb6.trans (hb3.mono hb6.size)
          have hb8 := hb7.trans (hb4.mono hb7.size)
          go_wp2
          go_ret
          exact ⟨rfl, hb8⟩
        · have f1 : ((c : Int) == (d : Int)) = true := by rw [hcd]; simp
          have f2 : (n == m) = false := by rw [beq_eq_false_iff_ne]; exact hnm
          have f3 : ((a : Int) == (b : Int)) = false := by rw [beq_eq_false_iff_ne]; intro h; exact hnm (hcells.1 (by omega)).2
          clear hcd hnm hcells
          go_enter Try.func7, Try.ntmps7
          go_wp2_with fail
          rw [HW.out]
          go_quiet (fail)
          go_wp2_with fail
          refine (cell_is c n a _ hc HA.out).mono ?_
          rintro e w1 ⟨rfl, hb1⟩
          go_wp2_with fail
          refine (cell_is d m b _ hd HB.out).mono ?_
          rintro e w2 ⟨rfl, hb2⟩
          go_wp2_with fail
          refine (kturn_is t _ HT.out).mono ?_
          rintro e w3 ⟨rfl, hb3⟩
          go_wp2_with fail
          refine (live10_any _).mono ?_
          rintro e w4 ⟨rfl, hb4⟩
          have hb5 := (below_drewN hB nq).trans (hb1.mono (below_drewN hB nq).size)
          have hb6 := hb5.trans (hb2.mono hb5.size)
          have hb7 := hb6.trans (hb3.mono hb6.size)
          have hb8 := hb7.trans (hb4.mono hb7.size)
          go_wp2
          go_ret
          exact ⟨rfl, hb8⟩
      · have f1 : ((c : Int) == (d : Int)) = false := by rw [beq_eq_false_iff_ne]; omega
        have f3 : ((a : Int) == (b : Int)) = false := by rw [beq_eq_false_iff_ne]; intro h; exact hcd (hcells.1 (by omega)).1
        clear hcd hcells
        go_enter Try.func7, Try.ntmps7
        go_wp2_with fail
        rw [HW.out]
        go_quiet (fail)
        go_wp2_with fail
        refine (cell_is c n a _ hc HA.out).mono ?_
        rintro e w1 ⟨rfl, hb1⟩
        go_wp2_with fail
        refine (cell_is d m b _ hd HB.out).mono ?_
        rintro e w2 ⟨rfl, hb2⟩
        go_wp2_with fail
        refine (kturn_is t _ HT.out).mono ?_
        rintro e w3 ⟨rfl, hb3⟩
        go_wp2_with fail
        refine (live10_any _).mono ?_
        rintro e w4 ⟨rfl, hb4⟩
        have hb5 := (below_drewN hB nq).trans (hb1.mono (below_drewN hB nq).size)
        have hb6 := hb5.trans (hb2.mono hb5.size)
        have hb7 := hb6.trans (hb3.mono hb6.size)
        have hb8 := hb7.trans (hb4.mono hb7.size)
        go_wp2
        go_ret
        exact ⟨rfl, hb8⟩
end Go.Proofs.Ytocdmnkmepplcaa.kapart
