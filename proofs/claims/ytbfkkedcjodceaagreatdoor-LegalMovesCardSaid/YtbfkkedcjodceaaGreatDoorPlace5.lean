/- How many there are of each piece on a board, and whether all stand where they may. -/
import Derived.Test.YtbfkkedcjodceaaGreatDoorPlace4
namespace Go.Proofs.YtbfkkedcjodceaaGreatDoor
open Go.RowKit Go.Shelf
open M (S)

/-- How many of the first k bytes of a text are b. -/
def cntN (s : ByteArray) (k b : Nat) : Nat := (trues (fun i => bAt s i == b) k).length
theorem cntN_succ (s : ByteArray) (k b : Nat) : cntN s (k + 1) b = if bAt s k = b then cntN s k b + 1 else cntN s k b := by
  unfold cntN
  rw [trues_succ]
  by_cases h : bAt s k = b
  · rw [if_pos h, if_pos (by simpa using h), List.length_append]; rfl
  · rw [if_neg h, if_neg (by simpa using h)]
theorem cntN_le (s : ByteArray) (k b : Nat) : cntN s k b ≤ k := trues_le _ k
/-- 256 counts in memory. -/
def cntC (s : ByteArray) (k : Nat) : Array Value := ((List.range 256).map fun b => Value.int .i64 (cntN s k b : Nat)).toArray
theorem cntC_at (s : ByteArray) (k b : Nat) (h : b < 256) : (cntC s k)[b]? = some (.int .i64 (cntN s k b : Nat)) := by simp [cntC, h]
theorem cntC_set (s : ByteArray) (k : Nat) : (cntC s k).setIfInBounds (bAt s k) (.int .i64 ((cntN s k (bAt s k) + 1 : Nat) : Int)) = cntC s (k + 1) := by
  apply Array.ext
  · simp [cntC]
  · intro i h1 h2
    simp only [cntC, List.size_toArray, List.length_map, List.length_range] at h2
    rw [Array.getElem_setIfInBounds (by simpa [cntC] using h2)]
    simp only [cntC, List.getElem_toArray, List.getElem_map, List.getElem_range]
    rw [cntN_succ]
    by_cases e : bAt s k = i
    · rw [if_pos e, if_pos e, e]
    · rw [if_neg e, if_neg e]
theorem cntC_zero (s t : ByteArray) : cntC s 0 = cntC t 0 := rfl
/-- Not more than there may be of a kind, of either side. -/
def fewB (s : ByteArray) (n c : Nat) : Bool := decide (cntN s n c ≤ mostN c) && decide (cntN s n (c + 32) ≤ mostN (c + 32))
def kindsL : List Nat := [75, 65, 66, 78, 82, 67, 80]
/-- As many of each piece as there may be? -/
def countsB (s : ByteArray) (n : Nat) : Bool := kindsL.all (fewB s n) && (cntN s n 75 == 1) && (cntN s n 107 == 1)
theorem counts_no {s : ByteArray} {n c : Nat} (hc : c ∈ kindsL) (h : fewB s n c = false) : countsB s n = false := by
  unfold countsB
  rw [List.all_eq_false.2 ⟨c, hc, by simp [h]⟩]
  rfl
theorem counts_yes {s : ByteArray} {n : Nat} (h : ∀ j, j < 7 → fewB s n (kindsL.getD j 0) = true) : countsB s n = ((cntN s n 75 == 1) && (cntN s n 107 == 1)) := by
  have ha : kindsL.all (fewB s n) = true := by
    rw [List.all_eq_true]
    intro c hc
    simp only [kindsL, List.mem_cons, List.not_mem_nil, or_false] at hc
    rcases hc with rfl | rfl | rfl | rfl | rfl | rfl | rfl
    · exact h 0 (by decide)
    · exact h 1 (by decide)
    · exact h 2 (by decide)
    · exact h 3 (by decide)
    · exact h 4 (by decide)
    · exact h 5 (by decide)
    · exact h 6 (by decide)
  unfold countsB
  rw [ha, Bool.true_and]
theorem few_red {s : ByteArray} {n c x m : Nat} (hx : cntN s n c = x) (hm : mostN c = m) (h : m < x) : fewB s n c = false := by
  unfold fewB
  rw [hx, hm, decide_eq_false (by omega), Bool.false_and]
theorem few_black {s : ByteArray} {n c x m : Nat} (hx : cntN s n (c + 32) = x) (hm : mostN (c + 32) = m) (h : m < x) : fewB s n c = false := by
  unfold fewB
  rw [hx, hm, decide_eq_false (p := x ≤ m) (by omega), Bool.and_false]
theorem few_ok {s : ByteArray} {n c x y m : Nat} (hx : cntN s n c = x) (hy : cntN s n (c + 32) = y) (hm : mostN c = m) (hm' : mostN (c + 32) = m) (h : x ≤ m) (h' : y ≤ m) : fewB s n c = true := by
  unfold fewB
  rw [hx, hy, hm, hm', decide_eq_true h, decide_eq_true h']
  rfl

theorem zeros256 : Tryz.zeroCells81 = cntC ByteArray.empty 0 := by kernel_rfl
theorem mostI (c k : Int) (w : World) (h : 0 ≤ c) (hk : (mostN c.toNat : Int) = k) : Calls Tryz.prog 96 #[.int .u8 c] w fun e w' => e = .returned (.int .i64 k) ∧ w' = w := by
  obtain ⟨n, rfl⟩ : ∃ n : Nat, c = n := ⟨c.toNat, by omega⟩
  subst hk
  exact (most_any n w).mono fun _ _ ⟨a, b⟩ => ⟨by rw [Int.toNat_natCast]; exact a, b.symm⟩
set_option maxRecDepth 100000 in
set_option maxHeartbeats 8000000 in
theorem haveCounts_any (s : ByteArray) (w : World) (hs : s.size ≤ 1000000) : Calls Tryz.prog 70 #[.string s] w (Gives w (.bool (countsB s s.size))) := by
  unfold Gives
  go_enter Tryz.func70, Tryz.ntmps70
  go_wp2_with fail
  obtain ⟨W0, hW0⟩ : ∃ W0, w.alloc (.cells Tryz.zeroCells81 81) = W0 := ⟨_, rfl⟩
  have hb0 : Below w.heap.size w W0 := by rw [← hW0]; exact (by repeat (first | exact Below.refl _ _ | (refine Below.setCell ?_ (by first | omega | (simp; done) | (simp; omega) | (simp at *; omega)) _) | (refine Below.alloc ?_ (by first | omega | (simp; done) | (simp; omega) | (simp at *; omega)) _) | refine Below.drew ?_ | (refine below_drewN ?_ _) | (refine Below.trans ?_ (Below.mono (by assumption) (by first | omega | (simp; done) | (simp; omega) | (simp at *; omega))))))
  have bT : Blk W0 w.heap.size 81 (cntC s 0) := by rw [← hW0, zeros256]; exact Blk.new _ _ _ rfl
  rw [hW0]
  clear hW0
  go_loopw [4, 10] (fun _ i wr => ∃ k : Nat, k ≤ s.size ∧ i = .int .i64 k ∧ Blk wr w.heap.size 81 (cntC s k) ∧ Below w.heap.size w wr) (fun _ i _ => s.size - (intOf i).toNat)
  case atStart => exact ⟨0, by omega, rfl, bT, hb0⟩
  case round =>
    obtain ⟨k, hk, rfl, bT, hB⟩ := hrel
    by_cases hlt : k < s.size
    · obtain ⟨x, hx⟩ : ∃ x, bAt s k = x := ⟨_, rfl⟩
      have hbk : s[k].toNat = x := (bAt_eq s k hlt).trans hx
      have hx256 : x < 256 := by rw [← hx]; exact bAt_lt _ _
      have c0 := bT.cell x
      rw [cntC_at s k x hx256] at c0
      have f0 := bT.frozen x
      have hst := cntC_set s k
      have hle := cntN_le s k x
      rw [hx] at hst
      obtain ⟨y, hy⟩ : ∃ y, cntN s k x = y := ⟨_, rfl⟩
      rw [hy] at c0 hst hle
      have Hst := Lib.hid hst
      have Hx := Lib.hid hx
      clear hst hx hy
      go_wp2
      go_roundw
      case rel => exact ⟨k + 1, by omega, by go_num, by have h := bT.set_ x (.int .i64 ((y + 1 : Nat) : Int)); rw [Hst.out] at h; exact h, hB.setCell (p := ⟨w.heap.size, x, none⟩) (Nat.le_refl _) _⟩
      case measure => simp [intOf]; omega
    · obtain rfl : k = s.size := by omega
      have bTn := bT
      go_wp2_with fail
      go_loopw [5, 6, 7, 21] (fun _ _ _ i wr' => ∃ j : Nat, j ≤ 7 ∧ i = .int .i64 j ∧ (∀ u, u < j → fewB s s.size (kindsL.getD u 0) = true) ∧ Blk wr' w.heap.size 81 (cntC s s.size) ∧ Below w.heap.size w wr') (fun _ _ _ i _ => 7 - (intOf i).toNat)
      case atStart => exact ⟨0, by omega, rfl, fun u hu => absurd hu (Nat.not_lt_zero u), bTn, hB⟩
      case round =>
        obtain ⟨j, hj, rfl, hall, bT, hB⟩ := hrel
        have Hall := Lib.hid hall
        clear hall
        by_cases hj7 : j = 7
        · subst hj7
          have K := Lib.hid (counts_yes Hall.out)
          have c0 := bT.cell 75
          have c1 := bT.cell 107
          rw [cntC_at s s.size 75 (by decide)] at c0
          rw [cntC_at s s.size 107 (by decide)] at c1
          obtain ⟨x, hx⟩ : ∃ x, cntN s s.size 75 = x := ⟨_, rfl⟩
          obtain ⟨y, hy⟩ : ∃ y, cntN s s.size 107 = y := ⟨_, rfl⟩
          rw [hx] at c0
          rw [hy] at c1
          have K2 : Hid (countsB s s.size = ((x == 1) && (y == 1))) := by show _ = _; rw [K.out, hx, hy]
          have ey : Hid (((y : Int) == 1) = (y == 1)) := by show _ = _; rw [Bool.eq_iff_iff]; simp; omega
          clear hx hy
          by_cases h1 : x = 1
          · have e1 : ((x : Int) == 1) = true := by rw [beq_iff_eq]; omega
            have k1 : Hid ((x == 1) = true) := by show _ = _; simp [h1]
            clear h1
            go_wp2
            go_ret
            exact ⟨by rw [K2.out, k1.out, Bool.true_and, ← ey.out]; rfl, hB⟩
          · have e1 : ((x : Int) == 1) = false := by rw [beq_eq_false_iff_ne]; omega
            have k1 : Hid ((x == 1) = false) := by show _ = _; simp [h1]
            clear h1
            go_wp2
            go_ret
            exact ⟨by rw [K2.out, k1.out, Bool.false_and]; rfl, hB⟩
        have hj' : j = 0 ∨ j = 1 ∨ j = 2 ∨ j = 3 ∨ j = 4 ∨ j = 5 ∨ j = 6 := by omega
        clear hj7 hj
        rcases hj' with rfl | rfl | rfl | rfl | rfl | rfl | rfl
        · obtain ⟨x, hx⟩ : ∃ x, cntN s s.size 75 = x := ⟨_, rfl⟩
          obtain ⟨y, hy⟩ : ∃ y, cntN s s.size 107 = y := ⟨_, rfl⟩
          have Hx := Lib.hid hx
          have Hy := Lib.hid hy
          by_cases h1 : 1 < x
          · have K := Lib.hid (counts_no (s := s) (n := s.size) (c := 75) (by decide) (few_red hx rfl h1))
            have e1 : decide (1 < (x : Int)) = true := by simp; omega
            have e2 : decide (1 < x) = true := by simp; omega
            clear hx hy h1
            have hk0 : ((⟨#[75, 65, 66, 78, 82, 67, 80]⟩ : ByteArray)[0]'(by decide)).toNat = 75 := rfl
            go_wp2_with fail
            go_quiet (fail)
            go_wp2_with fail
            have bT1 := bT.next (below_drewN (Below.refl _ _) nq)
            have hB1 := below_drewN hB nq
            generalize wr.drewN nq = W1 at bT1 hB1 ⊢
            have c0 := bT1.cell 75
            have c1 := bT1.cell 107
            rw [cntC_at s s.size 75 (by decide), Hx.out] at c0
            rw [cntC_at s s.size 107 (by decide), Hy.out] at c1
            clear hk0
            go_quiet ((go_at_call 96; exact Calls.quiet_of_same (mostI _ 1 _ (by decide) (by decide))))
            go_wp2
            go_ret
            exact ⟨by rw [K.out]; rfl, below_drewN hB1 _⟩
          · have e1 : decide (1 < (x : Int)) = false := by simp; omega
            have e2 : decide (1 < x) = false := by simp; omega
            by_cases h2 : 1 < y
            · have K := Lib.hid (counts_no (s := s) (n := s.size) (c := 75) (by decide) (few_black hy rfl h2))
              have e3 : decide (1 < (y : Int)) = true := by simp; omega
              have e4 : decide (1 < y) = true := by simp; omega
              clear hx hy h1 h2
              have hk0 : ((⟨#[75, 65, 66, 78, 82, 67, 80]⟩ : ByteArray)[0]'(by decide)).toNat = 75 := rfl
              go_wp2_with fail
              go_quiet (fail)
              go_wp2_with fail
              have bT1 := bT.next (below_drewN (Below.refl _ _) nq)
              have hB1 := below_drewN hB nq
              generalize wr.drewN nq = W1 at bT1 hB1 ⊢
              have c0 := bT1.cell 75
              have c1 := bT1.cell 107
              rw [cntC_at s s.size 75 (by decide), Hx.out] at c0
              rw [cntC_at s s.size 107 (by decide), Hy.out] at c1
              clear hk0
              go_quiet ((go_at_call 96; exact Calls.quiet_of_same (mostI _ 1 _ (by decide) (by decide))))
              go_wp2
              go_ret
              exact ⟨by rw [K.out]; rfl, below_drewN hB1 _⟩
            · have K := Lib.hid (few_ok (s := s) (n := s.size) (c := 75) (m := 1) hx hy rfl rfl (by omega) (by omega))
              have e3 : decide (1 < (y : Int)) = false := by simp; omega
              have e4 : decide (1 < y) = false := by simp; omega
              clear hx hy h1 h2
              have hk0 : ((⟨#[75, 65, 66, 78, 82, 67, 80]⟩ : ByteArray)[0]'(by decide)).toNat = 75 := rfl
              go_wp2_with fail
              go_quiet (fail)
              go_wp2_with fail
              have bT1 := bT.next (below_drewN (Below.refl _ _) nq)
              have hB1 := below_drewN hB nq
              generalize wr.drewN nq = W1 at bT1 hB1 ⊢
              have c0 := bT1.cell 75
              have c1 := bT1.cell 107
              rw [cntC_at s s.size 75 (by decide), Hx.out] at c0
              rw [cntC_at s s.size 107 (by decide), Hy.out] at c1
              clear hk0
              go_quiet ((go_at_call 96; exact Calls.quiet_of_same (mostI _ 1 _ (by decide) (by decide))))
              go_wp2
              go_roundw
              case rel => exact ⟨1, by omega, rfl, fun u hu => (by
                rcases Nat.lt_or_ge u 0 with h | h
                · exact Hall.out u h
                · rw [show u = 0 by omega]; exact K.out), bT1.next (below_drewN (Below.refl _ _) _), below_drewN hB1 _⟩
              case measure => simp [intOf]
        · obtain ⟨x, hx⟩ : ∃ x, cntN s s.size 65 = x := ⟨_, rfl⟩
          obtain ⟨y, hy⟩ : ∃ y, cntN s s.size 97 = y := ⟨_, rfl⟩
          have Hx := Lib.hid hx
          have Hy := Lib.hid hy
          by_cases h1 : 2 < x
          · have K := Lib.hid (counts_no (s := s) (n := s.size) (c := 65) (by decide) (few_red hx rfl h1))
            have e1 : decide (2 < (x : Int)) = true := by simp; omega
            have e2 : decide (2 < x) = true := by simp; omega
            clear hx hy h1
            have hk0 : ((⟨#[75, 65, 66, 78, 82, 67, 80]⟩ : ByteArray)[1]'(by decide)).toNat = 65 := rfl
            go_wp2_with fail
            go_quiet (fail)
            go_wp2_with fail
            have bT1 := bT.next (below_drewN (Below.refl _ _) nq)
            have hB1 := below_drewN hB nq
            generalize wr.drewN nq = W1 at bT1 hB1 ⊢
            have c0 := bT1.cell 65
            have c1 := bT1.cell 97
            rw [cntC_at s s.size 65 (by decide), Hx.out] at c0
            rw [cntC_at s s.size 97 (by decide), Hy.out] at c1
            clear hk0
            go_quiet ((go_at_call 96; exact Calls.quiet_of_same (mostI _ 2 _ (by decide) (by decide))))
            go_wp2
            go_ret
            exact ⟨by rw [K.out]; rfl, below_drewN hB1 _⟩
          · have e1 : decide (2 < (x : Int)) = false := by simp; omega
            have e2 : decide (2 < x) = false := by simp; omega
            by_cases h2 : 2 < y
            · have K := Lib.hid (counts_no (s := s) (n := s.size) (c := 65) (by decide) (few_black hy rfl h2))
              have e3 : decide (2 < (y : Int)) = true := by simp; omega
              have e4 : decide (2 < y) = true := by simp; omega
              clear hx hy h1 h2
              have hk0 : ((⟨#[75, 65, 66, 78, 82, 67, 80]⟩ : ByteArray)[1]'(by decide)).toNat = 65 := rfl
              go_wp2_with fail
              go_quiet (fail)
              go_wp2_with fail
              have bT1 := bT.next (below_drewN (Below.refl _ _) nq)
              have hB1 := below_drewN hB nq
              generalize wr.drewN nq = W1 at bT1 hB1 ⊢
              have c0 := bT1.cell 65
              have c1 := bT1.cell 97
              rw [cntC_at s s.size 65 (by decide), Hx.out] at c0
              rw [cntC_at s s.size 97 (by decide), Hy.out] at c1
              clear hk0
              go_quiet ((go_at_call 96; exact Calls.quiet_of_same (mostI _ 2 _ (by decide) (by decide))))
              go_wp2
              go_ret
              exact ⟨by rw [K.out]; rfl, below_drewN hB1 _⟩
            · have K := Lib.hid (few_ok (s := s) (n := s.size) (c := 65) (m := 2) hx hy rfl rfl (by omega) (by omega))
              have e3 : decide (2 < (y : Int)) = false := by simp; omega
              have e4 : decide (2 < y) = false := by simp; omega
              clear hx hy h1 h2
              have hk0 : ((⟨#[75, 65, 66, 78, 82, 67, 80]⟩ : ByteArray)[1]'(by decide)).toNat = 65 := rfl
              go_wp2_with fail
              go_quiet (fail)
              go_wp2_with fail
              have bT1 := bT.next (below_drewN (Below.refl _ _) nq)
              have hB1 := below_drewN hB nq
              generalize wr.drewN nq = W1 at bT1 hB1 ⊢
              have c0 := bT1.cell 65
              have c1 := bT1.cell 97
              rw [cntC_at s s.size 65 (by decide), Hx.out] at c0
              rw [cntC_at s s.size 97 (by decide), Hy.out] at c1
              clear hk0
              go_quiet ((go_at_call 96; exact Calls.quiet_of_same (mostI _ 2 _ (by decide) (by decide))))
              go_wp2
              go_roundw
              case rel => exact ⟨2, by omega, rfl, fun u hu => (by
                rcases Nat.lt_or_ge u 1 with h | h
                · exact Hall.out u h
                · rw [show u = 1 by omega]; exact K.out), bT1.next (below_drewN (Below.refl _ _) _), below_drewN hB1 _⟩
              case measure => simp [intOf]
        · obtain ⟨x, hx⟩ : ∃ x, cntN s s.size 66 = x := ⟨_, rfl⟩
          obtain ⟨y, hy⟩ : ∃ y, cntN s s.size 98 = y := ⟨_, rfl⟩
          have Hx := Lib.hid hx
          have Hy := Lib.hid hy
          by_cases h1 : 2 < x
          · have K := Lib.hid (counts_no (s := s) (n := s.size) (c := 66) (by decide) (few_red hx rfl h1))
            have e1 : decide (2 < (x : Int)) = true := by simp; omega
            have e2 : decide (2 < x) = true := by simp; omega
            clear hx hy h1
            have hk0 : ((⟨#[75, 65, 66, 78, 82, 67, 80]⟩ : ByteArray)[2]'(by decide)).toNat = 66 := rfl
            go_wp2_with fail
            go_quiet (fail)
            go_wp2_with fail
            have bT1 := bT.next (below_drewN (Below.refl _ _) nq)
            have hB1 := below_drewN hB nq
            generalize wr.drewN nq = W1 at bT1 hB1 ⊢
            have c0 := bT1.cell 66
            have c1 := bT1.cell 98
            rw [cntC_at s s.size 66 (by decide), Hx.out] at c0
            rw [cntC_at s s.size 98 (by decide), Hy.out] at c1
            clear hk0
            go_quiet ((go_at_call 96; exact Calls.quiet_of_same (mostI _ 2 _ (by decide) (by decide))))
            go_wp2
            go_ret
            exact ⟨by rw [K.out]; rfl, below_drewN hB1 _⟩
          · have e1 : decide (2 < (x : Int)) = false := by simp; omega
            have e2 : decide (2 < x) = false := by simp; omega
            by_cases h2 : 2 < y
            · have K := Lib.hid (counts_no (s := s) (n := s.size) (c := 66) (by decide) (few_black hy rfl h2))
              have e3 : decide (2 < (y : Int)) = true := by simp; omega
              have e4 : decide (2 < y) = true := by simp; omega
              clear hx hy h1 h2
              have hk0 : ((⟨#[75, 65, 66, 78, 82, 67, 80]⟩ : ByteArray)[2]'(by decide)).toNat = 66 := rfl
              go_wp2_with fail
              go_quiet (fail)
              go_wp2_with fail
              have bT1 := bT.next (below_drewN (Below.refl _ _) nq)
              have hB1 := below_drewN hB nq
              generalize wr.drewN nq = W1 at bT1 hB1 ⊢
              have c0 := bT1.cell 66
              have c1 := bT1.cell 98
              rw [cntC_at s s.size 66 (by decide), Hx.out] at c0
              rw [cntC_at s s.size 98 (by decide), Hy.out] at c1
              clear hk0
              go_quiet ((go_at_call 96; exact Calls.quiet_of_same (mostI _ 2 _ (by decide) (by decide))))
              go_wp2
              go_ret
              exact ⟨by rw [K.out]; rfl, below_drewN hB1 _⟩
            · have K := Lib.hid (few_ok (s := s) (n := s.size) (c := 66) (m := 2) hx hy rfl rfl (by omega) (by omega))
              have e3 : decide (2 < (y : Int)) = false := by simp; omega
              have e4 : decide (2 < y) = false := by simp; omega
              clear hx hy h1 h2
              have hk0 : ((⟨#[75, 65, 66, 78, 82, 67, 80]⟩ : ByteArray)[2]'(by decide)).toNat = 66 := rfl
              go_wp2_with fail
              go_quiet (fail)
              go_wp2_with fail
              have bT1 := bT.next (below_drewN (Below.refl _ _) nq)
              have hB1 := below_drewN hB nq
              generalize wr.drewN nq = W1 at bT1 hB1 ⊢
              have c0 := bT1.cell 66
              have c1 := bT1.cell 98
              rw [cntC_at s s.size 66 (by decide), Hx.out] at c0
              rw [cntC_at s s.size 98 (by decide), Hy.out] at c1
              clear hk0
              go_quiet ((go_at_call 96; exact Calls.quiet_of_same (mostI _ 2 _ (by decide) (by decide))))
              go_wp2
              go_roundw
              case rel => exact ⟨3, by omega, rfl, fun u hu => (by
                rcases Nat.lt_or_ge u 2 with h | h
                · exact Hall.out u h
                · rw [show u = 2 by omega]; exact K.out), bT1.next (below_drewN (Below.refl _ _) _), below_drewN hB1 _⟩
              case measure => simp [intOf]
        · obtain ⟨x, hx⟩ : ∃ x, cntN s s.size 78 = x := ⟨_, rfl⟩
          obtain ⟨y, hy⟩ : ∃ y, cntN s s.size 110 = y := ⟨_, rfl⟩
          have Hx := Lib.hid hx
          have Hy := Lib.hid hy
          by_cases h1 : 2 < x
          · have K := Lib.hid (counts_no (s := s) (n := s.size) (c := 78) (by decide) (few_red hx rfl h1))
            have e1 : decide (2 < (x : Int)) = true := by simp; omega
            have e2 : decide (2 < x) = true := by simp; omega
            clear hx hy h1
            have hk0 : ((⟨#[75, 65, 66, 78, 82, 67, 80]⟩ : ByteArray)[3]'(by decide)).toNat = 78 := rfl
            go_wp2_with fail
            go_quiet (fail)
            go_wp2_with fail
            have bT1 := bT.next (below_drewN (Below.refl _ _) nq)
            have hB1 := below_drewN hB nq
            generalize wr.drewN nq = W1 at bT1 hB1 ⊢
            have c0 := bT1.cell 78
            have c1 := bT1.cell 110
            rw [cntC_at s s.size 78 (by decide), Hx.out] at c0
            rw [cntC_at s s.size 110 (by decide), Hy.out] at c1
            clear hk0
            go_quiet ((go_at_call 96; exact Calls.quiet_of_same (mostI _ 2 _ (by decide) (by decide))))
            go_wp2
            go_ret
            exact ⟨by rw [K.out]; rfl, below_drewN hB1 _⟩
          · have e1 : decide (2 < (x : Int)) = false := by simp; omega
            have e2 : decide (2 < x) = false := by simp; omega
            by_cases h2 : 2 < y
            · have K := Lib.hid (counts_no (s := s) (n := s.size) (c := 78) (by decide) (few_black hy rfl h2))
              have e3 : decide (2 < (y : Int)) = true := by simp; omega
              have e4 : decide (2 < y) = true := by simp; omega
              clear hx hy h1 h2
              have hk0 : ((⟨#[75, 65, 66, 78, 82, 67, 80]⟩ : ByteArray)[3]'(by decide)).toNat = 78 := rfl
              go_wp2_with fail
              go_quiet (fail)
              go_wp2_with fail
              have bT1 := bT.next (below_drewN (Below.refl _ _) nq)
              have hB1 := below_drewN hB nq
              generalize wr.drewN nq = W1 at bT1 hB1 ⊢
              have c0 := bT1.cell 78
              have c1 := bT1.cell 110
              rw [cntC_at s s.size 78 (by decide), Hx.out] at c0
              rw [cntC_at s s.size 110 (by decide), Hy.out] at c1
              clear hk0
              go_quiet ((go_at_call 96; exact Calls.quiet_of_same (mostI _ 2 _ (by decide) (by decide))))
              go_wp2
              go_ret
              exact ⟨by rw [K.out]; rfl, below_drewN hB1 _⟩
            · have K := Lib.hid (few_ok (s := s) (n := s.size) (c := 78) (m := 2) hx hy rfl rfl (by omega) (by omega))
              have e3 : decide (2 < (y : Int)) = false := by simp; omega
              have e4 : decide (2 < y) = false := by simp; omega
              clear hx hy h1 h2
              have hk0 : ((⟨#[75, 65, 66, 78, 82, 67, 80]⟩ : ByteArray)[3]'(by decide)).toNat = 78 := rfl
              go_wp2_with fail
              go_quiet (fail)
              go_wp2_with fail
              have bT1 := bT.next (below_drewN (Below.refl _ _) nq)
              have hB1 := below_drewN hB nq
              generalize wr.drewN nq = W1 at bT1 hB1 ⊢
              have c0 := bT1.cell 78
              have c1 := bT1.cell 110
              rw [cntC_at s s.size 78 (by decide), Hx.out] at c0
              rw [cntC_at s s.size 110 (by decide), Hy.out] at c1
              clear hk0
              go_quiet ((go_at_call 96; exact Calls.quiet_of_same (mostI _ 2 _ (by decide) (by decide))))
              go_wp2
              go_roundw
              case rel => exact ⟨4, by omega, rfl, fun u hu => (by
                rcases Nat.lt_or_ge u 3 with h | h
                · exact Hall.out u h
                · rw [show u = 3 by omega]; exact K.out), bT1.next (below_drewN (Below.refl _ _) _), below_drewN hB1 _⟩
              case measure => simp [intOf]
        · obtain ⟨x, hx⟩ : ∃ x, cntN s s.size 82 = x := ⟨_, rfl⟩
          obtain ⟨y, hy⟩ : ∃ y, cntN s s.size 114 = y := ⟨_, rfl⟩
          have Hx := Lib.hid hx
          have Hy := Lib.hid hy
          by_cases h1 : 2 < x
          · have K := Lib.hid (counts_no (s := s) (n := s.size) (c := 82) (by decide) (few_red hx rfl h1))
            have e1 : decide (2 < (x : Int)) = true := by simp; omega
            have e2 : decide (2 < x) = true := by simp; omega
            clear hx hy h1
            have hk0 : ((⟨#[75, 65, 66, 78, 82, 67, 80]⟩ : ByteArray)[4]'(by decide)).toNat = 82 := rfl
            go_wp2_with fail
            go_quiet (fail)
            go_wp2_with fail
            have bT1 := bT.next (below_drewN (Below.refl _ _) nq)
            have hB1 := below_drewN hB nq
            generalize wr.drewN nq = W1 at bT1 hB1 ⊢
            have c0 := bT1.cell 82
            have c1 := bT1.cell 114
            rw [cntC_at s s.size 82 (by decide), Hx.out] at c0
            rw [cntC_at s s.size 114 (by decide), Hy.out] at c1
            clear hk0
            go_quiet ((go_at_call 96; exact Calls.quiet_of_same (mostI _ 2 _ (by decide) (by decide))))
            go_wp2
            go_ret
            exact ⟨by rw [K.out]; rfl, below_drewN hB1 _⟩
          · have e1 : decide (2 < (x : Int)) = false := by simp; omega
            have e2 : decide (2 < x) = false := by simp; omega
            by_cases h2 : 2 < y
            · have K := Lib.hid (counts_no (s := s) (n := s.size) (c := 82) (by decide) (few_black hy rfl h2))
              have e3 : decide (2 < (y : Int)) = true := by simp; omega
              have e4 : decide (2 < y) = true := by simp; omega
              clear hx hy h1 h2
              have hk0 : ((⟨#[75, 65, 66, 78, 82, 67, 80]⟩ : ByteArray)[4]'(by decide)).toNat = 82 := rfl
              go_wp2_with fail
              go_quiet (fail)
              go_wp2_with fail
              have bT1 := bT.next (below_drewN (Below.refl _ _) nq)
              have hB1 := below_drewN hB nq
              generalize wr.drewN nq = W1 at bT1 hB1 ⊢
              have c0 := bT1.cell 82
              have c1 := bT1.cell 114
              rw [cntC_at s s.size 82 (by decide), Hx.out] at c0
              rw [cntC_at s s.size 114 (by decide), Hy.out] at c1
              clear hk0
              go_quiet ((go_at_call 96; exact Calls.quiet_of_same (mostI _ 2 _ (by decide) (by decide))))
              go_wp2
              go_ret
              exact ⟨by rw [K.out]; rfl, below_drewN hB1 _⟩
            · have K := Lib.hid (few_ok (s := s) (n := s.size) (c := 82) (m := 2) hx hy rfl rfl (by omega) (by omega))
              have e3 : decide (2 < (y : Int)) = false := by simp; omega
              have e4 : decide (2 < y) = false := by simp; omega
              clear hx hy h1 h2
              have hk0 : ((⟨#[75, 65, 66, 78, 82, 67, 80]⟩ : ByteArray)[4]'(by decide)).toNat = 82 := rfl
              go_wp2_with fail
              go_quiet (fail)
              go_wp2_with fail
              have bT1 := bT.next (below_drewN (Below.refl _ _) nq)
              have hB1 := below_drewN hB nq
              generalize wr.drewN nq = W1 at bT1 hB1 ⊢
              have c0 := bT1.cell 82
              have c1 := bT1.cell 114
              rw [cntC_at s s.size 82 (by decide), Hx.out] at c0
              rw [cntC_at s s.size 114 (by decide), Hy.out] at c1
              clear hk0
              go_quiet ((go_at_call 96; exact Calls.quiet_of_same (mostI _ 2 _ (by decide) (by decide))))
              go_wp2
              go_roundw
              case rel => exact ⟨5, by omega, rfl, fun u hu => (by
                rcases Nat.lt_or_ge u 4 with h | h
                · exact Hall.out u h
                · rw [show u = 4 by omega]; exact K.out), bT1.next (below_drewN (Below.refl _ _) _), below_drewN hB1 _⟩
              case measure => simp [intOf]
        · obtain ⟨x, hx⟩ : ∃ x, cntN s s.size 67 = x := ⟨_, rfl⟩
          obtain ⟨y, hy⟩ : ∃ y, cntN s s.size 99 = y := ⟨_, rfl⟩
          have Hx := Lib.hid hx
          have Hy := Lib.hid hy
          by_cases h1 : 2 < x
          · have K := Lib.hid (counts_no (s := s) (n := s.size) (c := 67) (by decide) (few_red hx rfl h1))
            have e1 : decide (2 < (x : Int)) = true := by simp; omega
            have e2 : decide (2 < x) = true := by simp; omega
            clear hx hy h1
            have hk0 : ((⟨#[75, 65, 66, 78, 82, 67, 80]⟩ : ByteArray)[5]'(by decide)).toNat = 67 := rfl
            go_wp2_with fail
            go_quiet (fail)
            go_wp2_with fail
            have bT1 := bT.next (below_drewN (Below.refl _ _) nq)
            have hB1 := below_drewN hB nq
            generalize wr.drewN nq = W1 at bT1 hB1 ⊢
            have c0 := bT1.cell 67
            have c1 := bT1.cell 99
            rw [cntC_at s s.size 67 (by decide), Hx.out] at c0
            rw [cntC_at s s.size 99 (by decide), Hy.out] at c1
            clear hk0
            go_quiet ((go_at_call 96; exact Calls.quiet_of_same (mostI _ 2 _ (by decide) (by decide))))
            go_wp2
            go_ret
            exact ⟨by rw [K.out]; rfl, below_drewN hB1 _⟩
          · have e1 : decide (2 < (x : Int)) = false := by simp; omega
            have e2 : decide (2 < x) = false := by simp; omega
            by_cases h2 : 2 < y
            · have K := Lib.hid (counts_no (s := s) (n := s.size) (c := 67) (by decide) (few_black hy rfl h2))
              have e3 : decide (2 < (y : Int)) = true := by simp; omega
              have e4 : decide (2 < y) = true := by simp; omega
              clear hx hy h1 h2
              have hk0 : ((⟨#[75, 65, 66, 78, 82, 67, 80]⟩ : ByteArray)[5]'(by decide)).toNat = 67 := rfl
              go_wp2_with fail
              go_quiet (fail)
              go_wp2_with fail
              have bT1 := bT.next (below_drewN (Below.refl _ _) nq)
              have hB1 := below_drewN hB nq
              generalize wr.drewN nq = W1 at bT1 hB1 ⊢
              have c0 := bT1.cell 67
              have c1 := bT1.cell 99
              rw [cntC_at s s.size 67 (by decide), Hx.out] at c0
              rw [cntC_at s s.size 99 (by decide), Hy.out] at c1
              clear hk0
              go_quiet ((go_at_call 96; exact Calls.quiet_of_same (mostI _ 2 _ (by decide) (by decide))))
              go_wp2
              go_ret
              exact ⟨by rw [K.out]; rfl, below_drewN hB1 _⟩
            · have K := Lib.hid (few_ok (s := s) (n := s.size) (c := 67) (m := 2) hx hy rfl rfl (by omega) (by omega))
              have e3 : decide (2 < (y : Int)) = false := by simp; omega
              have e4 : decide (2 < y) = false := by simp; omega
              clear hx hy h1 h2
              have hk0 : ((⟨#[75, 65, 66, 78, 82, 67, 80]⟩ : ByteArray)[5]'(by decide)).toNat = 67 := rfl
              go_wp2_with fail
              go_quiet (fail)
              go_wp2_with fail
              have bT1 := bT.next (below_drewN (Below.refl _ _) nq)
              have hB1 := below_drewN hB nq
              generalize wr.drewN nq = W1 at bT1 hB1 ⊢
              have c0 := bT1.cell 67
              have c1 := bT1.cell 99
              rw [cntC_at s s.size 67 (by decide), Hx.out] at c0
              rw [cntC_at s s.size 99 (by decide), Hy.out] at c1
              clear hk0
              go_quiet ((go_at_call 96; exact Calls.quiet_of_same (mostI _ 2 _ (by decide) (by decide))))
              go_wp2
              go_roundw
              case rel => exact ⟨6, by omega, rfl, fun u hu => (by
                rcases Nat.lt_or_ge u 5 with h | h
                · exact Hall.out u h
                · rw [show u = 5 by omega]; exact K.out), bT1.next (below_drewN (Below.refl _ _) _), below_drewN hB1 _⟩
              case measure => simp [intOf]
        · obtain ⟨x, hx⟩ : ∃ x, cntN s s.size 80 = x := ⟨_, rfl⟩
          obtain ⟨y, hy⟩ : ∃ y, cntN s s.size 112 = y := ⟨_, rfl⟩
          have Hx := Lib.hid hx
          have Hy := Lib.hid hy
          by_cases h1 : 5 < x
          · have K := Lib.hid (counts_no (s := s) (n := s.size) (c := 80) (by decide) (few_red hx rfl h1))
            have e1 : decide (5 < (x : Int)) = true := by simp; omega
            have e2 : decide (5 < x) = true := by simp; omega
            clear hx hy h1
            have hk0 : ((⟨#[75, 65, 66, 78, 82, 67, 80]⟩ : ByteArray)[6]'(by decide)).toNat = 80 := rfl
            go_wp2_with fail
            go_quiet (fail)
            go_wp2_with fail
            have bT1 := bT.next (below_drewN (Below.refl _ _) nq)
            have hB1 := below_drewN hB nq
            generalize wr.drewN nq = W1 at bT1 hB1 ⊢
            have c0 := bT1.cell 80
            have c1 := bT1.cell 112
            rw [cntC_at s s.size 80 (by decide), Hx.out] at c0
            rw [cntC_at s s.size 112 (by decide), Hy.out] at c1
            clear hk0
            go_quiet ((go_at_call 96; exact Calls.quiet_of_same (mostI _ 5 _ (by decide) (by decide))))
            go_wp2
            go_ret
            exact ⟨by rw [K.out]; rfl, below_drewN hB1 _⟩
          · have e1 : decide (5 < (x : Int)) = false := by simp; omega
            have e2 : decide (5 < x) = false := by simp; omega
            by_cases h2 : 5 < y
            · have K := Lib.hid (counts_no (s := s) (n := s.size) (c := 80) (by decide) (few_black hy rfl h2))
              have e3 : decide (5 < (y : Int)) = true := by simp; omega
              have e4 : decide (5 < y) = true := by simp; omega
              clear hx hy h1 h2
              have hk0 : ((⟨#[75, 65, 66, 78, 82, 67, 80]⟩ : ByteArray)[6]'(by decide)).toNat = 80 := rfl
              go_wp2_with fail
              go_quiet (fail)
              go_wp2_with fail
              have bT1 := bT.next (below_drewN (Below.refl _ _) nq)
              have hB1 := below_drewN hB nq
              generalize wr.drewN nq = W1 at bT1 hB1 ⊢
              have c0 := bT1.cell 80
              have c1 := bT1.cell 112
              rw [cntC_at s s.size 80 (by decide), Hx.out] at c0
              rw [cntC_at s s.size 112 (by decide), Hy.out] at c1
              clear hk0
              go_quiet ((go_at_call 96; exact Calls.quiet_of_same (mostI _ 5 _ (by decide) (by decide))))
              go_wp2
              go_ret
              exact ⟨by rw [K.out]; rfl, below_drewN hB1 _⟩
            · have K := Lib.hid (few_ok (s := s) (n := s.size) (c := 80) (m := 5) hx hy rfl rfl (by omega) (by omega))
              have e3 : decide (5 < (y : Int)) = false := by simp; omega
              have e4 : decide (5 < y) = false := by simp; omega
              clear hx hy h1 h2
              have hk0 : ((⟨#[75, 65, 66, 78, 82, 67, 80]⟩ : ByteArray)[6]'(by decide)).toNat = 80 := rfl
              go_wp2_with fail
              go_quiet (fail)
              go_wp2_with fail
              have bT1 := bT.next (below_drewN (Below.refl _ _) nq)
              have hB1 := below_drewN hB nq
              generalize wr.drewN nq = W1 at bT1 hB1 ⊢
              have c0 := bT1.cell 80
              have c1 := bT1.cell 112
              rw [cntC_at s s.size 80 (by decide), Hx.out] at c0
              rw [cntC_at s s.size 112 (by decide), Hy.out] at c1
              clear hk0
              go_quiet ((go_at_call 96; exact Calls.quiet_of_same (mostI _ 5 _ (by decide) (by decide))))
              go_wp2
              go_roundw
              case rel => exact ⟨7, by omega, rfl, fun u hu => (by
                rcases Nat.lt_or_ge u 6 with h | h
                · exact Hall.out u h
                · rw [show u = 6 by omega]; exact K.out), bT1.next (below_drewN (Below.refl _ _) _), below_drewN hB1 _⟩
              case measure => simp [intOf]
end Go.Proofs.YtbfkkedcjodceaaGreatDoor
