/- Whether a list has a move, of any numbers. -/
import Derived.Test.YtnpenlmlggpemaaGreatDoorGuardP
import Derived.Test.YtnpenlmlggpemaaGreatDoorPseudoM
namespace Go.Proofs.YtnpenlmlggpemaaGreatDoor
open Go.RowKit Go.Shelf
open M (S)

theorem hasI_yes {l : List (Nat × Nat)} {a b : Int} {k : Nat} (hk : k < l.length) (h : ((l[k].1 : Int) == a && (l[k].2 : Int) == b) = true) : hasI l a b = true := by
  unfold hasI
  rw [List.any_eq_true]
  exact ⟨l[k], List.getElem_mem hk, h⟩
theorem hasI_no {l : List (Nat × Nat)} {a b : Int} (h : ∀ k (hk : k < l.length), ((l[k].1 : Int) == a && (l[k].2 : Int) == b) = false) : hasI l a b = false := by
  unfold hasI
  rw [List.any_eq_false]
  intro x hx
  obtain ⟨k, hk, rfl⟩ := List.mem_iff_getElem.1 hx
  rw [h k hk]
  decide
set_option maxRecDepth 100000 in
set_option maxHeartbeats 2000000 in
theorem hasI_any (A : Option Addr) (l : List (Nat × Nat)) (n c : Nat) (a b : Int) (w : World) (hx : Rd w A (mvs l)) (hn : l.length = n) (hm : n ≤ 1000000) :
    Calls Tryz.prog 20 #[.slice A n c, .agg #[.int .i64 a, .int .i64 b]] w (Gives w (.bool (hasI l a b))) := by
  unfold Gives
  obtain ⟨r, hr⟩ : ∃ r, hasI l a b = r := ⟨_, rfl⟩
  have HR := Lib.hid hr
  have HN := Lib.hid hn
  rw [hr]
  clear hn hr
  obtain ⟨W0, hW0⟩ : ∃ W0, w.alloc (.cells #[.int .i64 a, .int .i64 b] 23) = W0 := ⟨_, rfl⟩
  have hB0 : Below w.heap.size w W0 := by rw [← hW0]; exact (by repeat (first | exact Below.refl _ _ | (refine Below.setCell ?_ (by first | omega | (simp; done) | (simp; omega) | (simp at *; omega)) _) | (refine Below.alloc ?_ (by first | omega | (simp; done) | (simp; omega) | (simp at *; omega)) _) | refine Below.drew ?_ | (refine below_drewN ?_ _) | (refine Below.trans ?_ (Below.mono (by assumption) (by first | omega | (simp; done) | (simp; omega) | (simp at *; omega))))))
  have bM0 : Blk W0 w.heap.size 23 #[.int .i64 a, .int .i64 b] := by rw [← hW0]; exact Blk.new _ _ _ rfl
  have HW := Lib.hid hW0
  clear hW0
  go_enter Tryz.func20, Tryz.ntmps20
  go_wp2
  rw [HW.out]
  go_loopw [5] (fun i wr => ∃ k : Nat, k ≤ n ∧ i = .int .i64 k ∧ Blk wr w.heap.size 23 #[.int .i64 a, .int .i64 b] ∧ Below w.heap.size w wr ∧ Hid (∀ j (hj : j < l.length), j < k → ((l[j].1 : Int) == a && (l[j].2 : Int) == b) = false)) (fun i _ => n - (intOf i).toNat)
  case atStart => exact ⟨0, Nat.zero_le _, rfl, bM0, hB0, fun j _ h => absurd h (Nat.not_lt_zero _)⟩
  case round =>
    obtain ⟨k, hk, rfl, bM, hB, hno⟩ := hrel
    by_cases hlt : k < n
    · have hkl : k < l.length := by rw [HN.out]; exact hlt
      obtain ⟨g1, o1, rfl, c0, c1⟩ := hx.move hkl
      obtain ⟨u, hu⟩ : ∃ u, l[k].1 = u := ⟨_, rfl⟩
      obtain ⟨v, hv⟩ : ∃ v, l[k].2 = v := ⟨_, rfl⟩
      have HU := Lib.hid hu
      have HV := Lib.hid hv
      rw [hu] at c0
      rw [hv] at c1
      have hc0 := (hB.cell (p := ⟨g1, o1 + k * 2, none⟩) (cell_lt c0)).trans c0
      have hc1 := (hB.cell (p := ⟨g1, o1 + k * 2 + 1, none⟩) (cell_lt c1)).trans c1
      have m0 : wr.cell? ⟨w.heap.size, 0, none⟩ = some (.int .i64 a) := bM.cell 0
      have m1 : wr.cell? ⟨w.heap.size, 1, none⟩ = some (.int .i64 b) := bM.cell 1
      have b1 : (k : Int) < (n : Int) := by omega
      have hne := eql_move
      clear c0 c1 hu hv
      cases he : ((u : Int) == a && (v : Int) == b)
      · have HE := Lib.hid he
        go_wp2_with fail
        try (go_quiet (fail))
        go_wp2_with fail
        go_roundw
        case rel =>
          refine ⟨k + 1, by omega, by go_num, by first | exact bM | exact bM.next (below_drewN (Below.refl _ _) _), by first | exact hB | exact below_drewN hB _, ?_⟩
          show ∀ j (hj : j < l.length), j < k + 1 → _
          intro j hj hjk
          by_cases e : j = k
          · subst e
            rw [HU.out, HV.out]
            exact HE.out
          · exact hno.out j hj (by omega)
        case measure => simp [intOf]; omega
      · have K : Hid (r = true) := by
          show _ = _
          rw [← HR.out]
          exact hasI_yes hkl (by rw [HU.out, HV.out]; exact he)
        go_wp2_with fail
        try (go_quiet (fail))
        go_wp2_with fail
        go_ret
        exact ⟨by rw [K.out]; rfl, by first | exact hB | exact below_drewN hB _⟩
    · obtain rfl : k = n := by omega
      have K : Hid (r = false) := by
        show _ = _
        rw [← HR.out]
        exact hasI_no fun j hj => hno.out j hj (by rw [← HN.out]; exact hj)
      go_wp2
      go_ret
      exact ⟨by rw [K.out]; rfl, hB⟩
theorem hasI_is (A : Option Addr) (l : List (Nat × Nat)) (n c : Nat) (a b : Int) (v : Bool) (w : World) (hx : Rd w A (mvs l)) (hn : l.length = n) (hm : n ≤ 1000000) (h : hasI l a b = v) :
    Calls Tryz.prog 20 #[.slice A n c, .agg #[.int .i64 a, .int .i64 b]] w (Gives w (.bool v)) := by subst h; exact hasI_any A l n c a b w hx hn hm
end Go.Proofs.YtnpenlmlggpemaaGreatDoor
