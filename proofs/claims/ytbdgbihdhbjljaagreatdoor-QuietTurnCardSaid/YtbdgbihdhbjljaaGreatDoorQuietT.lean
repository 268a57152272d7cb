/- Turned round a position is worth the same when all captures are done. No program in it. -/
import Derived.Test.YtbdgbihdhbjljaaGreatDoorQuietA
import Derived.Test.YtbdgbihdhbjljaaGreatDoorQuietE
namespace Go.Proofs.YtbdgbihdhbjljaaGreatDoor

theorem swap_is46 (c : Nat) : swapN c = 46 ↔ c = 46 := by
  rcases byte_cases c with ⟨kb, kr, _⟩ | rfl | rfl | rfl | rfl | rfl | rfl | rfl | rfl | rfl | rfl | rfl | rfl | rfl | rfl
  · have e : swapN c = c := by simp [swapN, kb, kr]
    rw [e]
  all_goals decide
theorem caps_turn {s : ByteArray} (hs : isB s = true) (hc : countsB s 90 = true) {y : Int} (hy : y = 0 ∨ y = 1) : capsN (turnB s) (1 - y) = ((capsN s y).map turnM).reverse := by
  unfold capsN
  rw [legal_turn hs hc hy, List.filter_reverse, List.filter_map]
  congr 2
  refine List.filter_congr fun m hm => ?_
  obtain ⟨_, hb, _⟩ := legal_mem.1 hm
  show (bAt (turnB s) (89 - m.2) != 46) = (bAt s m.2 != 46)
  rw [turn_bAt hs hb, Bool.eq_iff_iff, bne_iff_ne, bne_iff_ne, ne_eq, ne_eq, swap_is46]
theorem empty_turn {s : ByteArray} (hs : isB s = true) (hc : countsB s 90 = true) {y : Int} (hy : y = 0 ∨ y = 1) : (legalN (turnB s) (1 - y)).isEmpty = (legalN s y).isEmpty := by
  rw [legal_turn hs hc hy, List.isEmpty_reverse]
  cases legalN s y <;> rfl
theorem quiet_turn (n : Nat) : ∀ {s : ByteArray} {y z u : Int}, wellN s y z u = 0 → quietF n (turnB s) (1 - y) = quietF n s y := by
  induction n with
  | zero =>
    intro s y z u hw
    obtain ⟨hs, hy⟩ := well_side hw
    have hc := (check_zero (well_zero hw).1).2.1
    rw [quiet_zero, quiet_zero, empty_turn hs hc hy, value_turn hs hy]
  | succ n ih =>
    intro s y z u hw
    obtain ⟨hs, hy⟩ := well_side hw
    have hc := (check_zero (well_zero hw).1).2.1
    rw [quiet_succ, quiet_succ, empty_turn hs hc hy, value_turn hs hy, caps_turn hs hc hy]
    have e : maxL (ofV s y) (((((capsN s y).map turnM).reverse).map fun m => -(quietF n (behindS (turnB s) m) (1 - (1 - y))))) = maxL (ofV s y) ((capsN s y).map fun m => -(quietF n (behindS s m) (1 - y))) := by
      rw [maxL_perm ((List.reverse_perm _).map _), List.map_map]
      congr 1
      refine List.map_congr_left fun m hm => ?_
      obtain ⟨a, b⟩ := m
      have hf := cap_facts hw (caps_mem.1 hm).1
      show -(quietF n (behindS (turnB s) (89 - a, 89 - b)) (1 - (1 - y))) = -(quietF n (behindS s (a, b)) (1 - y))
      rw [behind_turn hs hf.1 hf.2.1, ih hf.2.2.2.2.2.2]
    rw [e]
theorem quietV_turn {s : ByteArray} {y z u : Int} (hw : wellN s y z u = 0) : quietV (turnB s) (1 - y) z u = quietV s y z u := by
  obtain ⟨hs, hy⟩ := well_side hw
  unfold quietV
  rw [well_turn hs hy, quiet_turn 9 hw]
theorem cntP_turn {s : ByteArray} (hs : isB s = true) : cntP (turnB s) = cntP s := by
  unfold cntP
  rw [← vsum_rev 90 (oneP (turnB s))]
  refine vsum_same 90 fun k hk => ?_
  unfold oneP
  rw [show 90 - 1 - k = 89 - k by omega, turn_bAt hs hk]
  simp only [swap_is46]
end Go.Proofs.YtbdgbihdhbjljaaGreatDoor
