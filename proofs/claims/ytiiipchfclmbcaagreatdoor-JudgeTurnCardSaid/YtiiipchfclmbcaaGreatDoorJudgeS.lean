/- Lists of positions that are the same: the document's answer; the beginnings of a game that goes on. -/
import Derived.Test.YtiiipchfclmbcaaGreatDoorJudgeV
namespace Go.Proofs.YtiiipchfclmbcaaGreatDoor
open Go.RowKit Go.Shelf
open M (S)

/-- Of a game that is played each beginning goes on. -/
theorem play_ahead {p : Ps} {l : List (Int × Int)} {n : Nat} (h : playE p l = 0) (hn : n < l.length) : playE p (l.take n) = 0 ∧ playV p (l.take n) = (0, 0) ∧ playL p (l.take n) = (playL p l).take (n + 1) ∧ (playL p l).length = l.length + 1 := by
  obtain ⟨hw, h9, hr⟩ := playE_zero h
  have hlen : (l.take n).length = n := by rw [List.length_take]; omega
  have hsame : runJ p (l.take n) n = runJ p l n := run_same (by rw [List.take_take, Nat.min_self])
  obtain ⟨hp1, hp2⟩ := run_prefix (p := p) (ms := l) (j := n) (by omega) (l.length - n) (by omega) (by rw [show n + (l.length - n) = l.length by omega]; exact hr)
  rw [show n + (l.length - n) = l.length by omega] at hp2
  have h1 : playE p (l.take n) = 0 := by rw [playE_run hw (by omega), hlen, hsame, hp1]
  have hL : playL p l = (runJ p l l.length).2 := by unfold playL; rw [if_pos h]
  have hc := run_chain (p := p) (ms := l) (j := l.length) (Nat.le_refl _) hr
  have hgo : (runJ p l (n + 1)).1 = 0 := by
    obtain ⟨d, hd⟩ : ∃ d, l.length = (n + 1) + d := ⟨l.length - (n + 1), by omega⟩
    by_cases e : (runJ p l (n + 1)).1 = 0
    · exact e
    · rw [hd, run_err e d] at hr
      exact absurd hr e
  refine ⟨h1, ?_, ?_, ?_⟩
  · unfold playV
    rw [if_pos h1, hlen, hsame]
    exact run_goes hgo
  · unfold playL
    rw [if_pos h1, if_pos h, hlen, hsame]
    exact hp2.symm
  · rw [hL, hc.len, List.take_length]
theorem ps_beq (p : Ps) : (p.s.toList == p.s.toList) = true := by simp
set_option maxRecDepth 100000 in
set_option maxHeartbeats 4000000 in
theorem rsame_is (A B : Option Addr) (l : List Ps) (n c d : Nat) (w : World) (ha : Rd w A (psL l)) (hb : Rd w B (psL l)) (hn : l.length = n) (hn9 : n ≤ 1000000) : Calls Tryz.prog 16 #[.slice A n c, .slice B n d] w (Gives w (.bool true)) := by
  unfold Gives
  have HN := Lib.hid hn
  have hnn : ((n : Int) != (n : Int)) = false := by simp
  clear hn
  go_enter Tryz.func16, Tryz.ntmps16
  go_wp2
  go_loopw [5] (fun i wr => ∃ j : Nat, j ≤ n ∧ i = .int .i64 (j : Int) ∧ Below w.heap.size w wr) (fun i _ => n - (intOf i).toNat)
  case atStart => exact ⟨0, Nat.zero_le _, rfl, Below.refl _ _⟩
  case round =>
    obtain ⟨j, hj, rfl, hB⟩ := hrel
    by_cases hlt : j < n
    · have bj : (j : Int) < (n : Int) := by omega
      have hjl : j < l.length := by rw [HN.out]; exact hlt
      obtain ⟨g1, b1, rfl, d0, d1, d2, d3⟩ := (ha.next hB).ps hjl
      obtain ⟨g2, b2, rfl, f0, f1, f2, f3⟩ := (hb.next hB).ps hjl
      obtain ⟨⟨s, y, z, u⟩, hq⟩ : ∃ q, l[j]'hjl = q := ⟨_, rfl⟩
      rw [hq] at d0 d1 d2 d3 f0 f1 f2 f3
      simp only at d0 d1 d2 d3 f0 f1 f2 f3
      have ss : (s.toList == s.toList) = true := by simp
      clear hq
      go_wp2
      go_quiet (fail)
      go_wp2
      go_roundw
      case rel => exact ⟨j + 1, by omega, by go_num, below_drewN hB _⟩
      case measure => simp [intOf]; omega
    · obtain rfl : j = n := by omega
      have bj : ¬ (j : Int) < (j : Int) := by omega
      go_wp2
      go_ret
      exact ⟨rfl, hB⟩
end Go.Proofs.YtiiipchfclmbcaaGreatDoor
