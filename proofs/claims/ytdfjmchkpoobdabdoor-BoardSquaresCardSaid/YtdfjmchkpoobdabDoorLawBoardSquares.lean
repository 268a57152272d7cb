/- Each square has a file and a rank of its own; squares of one rank follow one another: the call answers true. -/
import Derived.Test.YtdfjmchkpoobdabDoorLive2
namespace Go.Proofs.YtdfjmchkpoobdabDoor.squares
open Go.RowKit Go.Shelf
open M (S)

set_option maxRecDepth 100000 in
set_option maxHeartbeats 1000000 in
theorem far (n m : Int) (w : World) (hT : Tab w) (h : ¬ (0 ≤ n ∧ n < 90 ∧ 0 ≤ m ∧ m < 90)) : Calls Tryd.prog 8 #[.int .i64 n, .int .i64 m] w fun e w' => e = .returned (.bool true) ∧ Below w.heap.size w w' := by
  by_cases h0 : n < 0
  · clear h
    go_enter Tryd.func8, Tryd.ntmps8
    go_wp2_with (first | (go_at_call 28; refine (file_any _ _).mono ?_; rintro e w' ⟨rfl, rfl⟩) | (go_at_call 30; refine (rank_any _ _).mono ?_; rintro e w' ⟨rfl, rfl⟩) | (go_at_call 10; refine (live2_any _ hT).mono ?_; rintro e w1 ⟨rfl, hb⟩))
    go_ret
    exact ⟨rfl, hb⟩
  · by_cases h1 : 89 < n
    · clear h
      go_enter Tryd.func8, Tryd.ntmps8
      go_wp2_with (first | (go_at_call 28; refine (file_any _ _).mono ?_; rintro e w' ⟨rfl, rfl⟩) | (go_at_call 30; refine (rank_any _ _).mono ?_; rintro e w' ⟨rfl, rfl⟩) | (go_at_call 10; refine (live2_any _ hT).mono ?_; rintro e w1 ⟨rfl, hb⟩))
      go_ret
      exact ⟨rfl, hb⟩
    · by_cases h2 : m < 0
      · clear h
        go_enter Tryd.func8, Tryd.ntmps8
        go_wp2_with (first | (go_at_call 28; refine (file_any _ _).mono ?_; rintro e w' ⟨rfl, rfl⟩) | (go_at_call 30; refine (rank_any _ _).mono ?_; rintro e w' ⟨rfl, rfl⟩) | (go_at_call 10; refine (live2_any _ hT).mono ?_; rintro e w1 ⟨rfl, hb⟩))
        go_ret
        exact ⟨rfl, hb⟩
      · have h3 : 89 < m := by omega
        clear h
        go_enter Tryd.func8, Tryd.ntmps8
        go_wp2_with (first | (go_at_call 28; refine (file_any _ _).mono ?_; rintro e w' ⟨rfl, rfl⟩) | (go_at_call 30; refine (rank_any _ _).mono ?_; rintro e w' ⟨rfl, rfl⟩) | (go_at_call 10; refine (live2_any _ hT).mono ?_; rintro e w1 ⟨rfl, hb⟩))
        go_ret
        exact ⟨rfl, hb⟩

set_option maxRecDepth 100000 in
set_option maxHeartbeats 4000000 in
theorem near (n m : Int) (w : World) (hT : Tab w) (n0 : 0 ≤ n) (n1 : n < 90) (m0 : 0 ≤ m) (m1 : m < 90) : Calls Tryd.prog 8 #[.int .i64 n, .int .i64 m] w fun e w' => e = .returned (.bool true) ∧ Below w.heap.size w w' := by
  have fn : fileI n = n % 9 := by rw [fileI, if_pos ⟨n0, n1⟩]
  have fm : fileI m = m % 9 := by rw [fileI, if_pos ⟨m0, m1⟩]
  have rn : rankI n = n / 9 := by rw [rankI, if_pos ⟨n0, n1⟩]
  have rm : rankI m = m / 9 := by rw [rankI, if_pos ⟨m0, m1⟩]
  by_cases h : n = m
  · have q1 : (fileI n == fileI m) = true := by rw [fn, fm]; rw [beq_iff_eq]; omega
    have q2 : (rankI n == rankI m) = true := by rw [rn, rm]; rw [beq_iff_eq]; omega
    have q2' : (rankI n != rankI m) = false := by rw [rn, rm]; simp; omega
    have q3 : (n == m) = true := by rw [beq_iff_eq]; omega
    have q4 : decide (rankI n < rankI m) = false := by rw [rn, rm]; simp; omega
    have q5 : decide (n < m) = false := by simp; omega
    clear fn fm rn rm h
    go_enter Tryd.func8, Tryd.ntmps8
    go_wp2_with (first | (go_at_call 28; refine (file_any _ _).mono ?_; rintro e w' ⟨rfl, rfl⟩) | (go_at_call 30; refine (rank_any _ _).mono ?_; rintro e w' ⟨rfl, rfl⟩) | (go_at_call 10; refine (live2_any _ hT).mono ?_; rintro e w1 ⟨rfl, hb⟩))
    go_ret
    exact ⟨rfl, hb⟩
  · by_cases hf : n % 9 = m % 9
    · by_cases hl : n < m
      · have q1 : (fileI n == fileI m) = true := by rw [fn, fm]; rw [beq_iff_eq]; omega
        have q2 : (rankI n == rankI m) = false := by rw [rn, rm]; rw [beq_eq_false_iff_ne]; omega
        have q2' : (rankI n != rankI m) = true := by rw [rn, rm]; rw [bne_iff_ne]; omega
        have q3 : (n == m) = false := by rw [beq_eq_false_iff_ne]; omega
        have q4 : decide (rankI n < rankI m) = true := by rw [rn, rm]; simp; omega
        have q5 : decide (n < m) = true := by simp; omega
        clear fn fm rn rm h hf hl
        go_enter Tryd.func8, Tryd.ntmps8
        go_wp2_with (first | (go_at_call 28; refine (file_any _ _).mono ?_; rintro e w' ⟨rfl, rfl⟩) | (go_at_call 30; refine (rank_any _ _).mono ?_; rintro e w' ⟨rfl, rfl⟩) | (go_at_call 10; refine (live2_any _ hT).mono ?_; rintro e w1 ⟨rfl, hb⟩))
        go_ret
        exact ⟨rfl, hb⟩
      · have q1 : (fileI n == fileI m) = true := by rw [fn, fm]; rw [beq_iff_eq]; omega
        have q2 : (rankI n == rankI m) = false := by rw [rn, rm]; rw [beq_eq_false_iff_ne]; omega
        have q2' : (rankI n != rankI m) = true := by rw [rn, rm]; rw [bne_iff_ne]; omega
        have q3 : (n == m) = false := by rw [beq_eq_false_iff_ne]; omega
        have q4 : decide (rankI n < rankI m) = false := by rw [rn, rm]; simp; omega
        have q5 : decide (n < m) = false := by simp; omega
        clear fn fm rn rm h hf hl
        go_enter Tryd.func8, Tryd.ntmps8
        go_wp2_with (first | (go_at_call 28; refine (file_any _ _).mono ?_; rintro e w' ⟨rfl, rfl⟩) | (go_at_call 30; refine (rank_any _ _).mono ?_; rintro e w' ⟨rfl, rfl⟩) | (go_at_call 10; refine (live2_any _ hT).mono ?_; rintro e w1 ⟨rfl, hb⟩))
        go_ret
        exact ⟨rfl, hb⟩
    · by_cases hr : n / 9 = m / 9
      · by_cases hl : n < m
        · have q1 : (fileI n == fileI m) = false := by rw [fn, fm]; rw [beq_eq_false_iff_ne]; omega
          have q2 : (rankI n == rankI m) = true := by rw [rn, rm]; rw [beq_iff_eq]; omega
          have q2' : (rankI n != rankI m) = false := by rw [rn, rm]; simp; omega
          have q3 : (n == m) = false := by rw [beq_eq_false_iff_ne]; omega
          have q4 : decide (rankI n < rankI m) = false := by rw [rn, rm]; simp; omega
          have q5 : decide (n < m) = true := by simp; omega
          clear fn fm rn rm h hf hr hl
          go_enter Tryd.func8, Tryd.ntmps8
          go_wp2_with (first | (go_at_call 28; refine (file_any _ _).mono ?_; rintro e w' ⟨rfl, rfl⟩) | (go_at_call 30; refine (rank_any _ _).mono ?_; rintro e w' ⟨rfl, rfl⟩) | (go_at_call 10; refine (live2_any _ hT).mono ?_; rintro e w1 ⟨rfl, hb⟩))
          go_ret
          exact ⟨rfl, hb⟩
        · have q1 : (fileI n == fileI m) = false := by rw [fn, fm]; rw [beq_eq_false_iff_ne]; omega
          have q2 : (rankI n == rankI m) = true := by rw [rn, rm]; rw [beq_iff_eq]; omega
          have q2' : (rankI n != rankI m) = false := by rw [rn, rm]; simp; omega
          have q3 : (n == m) = false := by rw [beq_eq_false_iff_ne]; omega
          have q4 : decide (rankI n < rankI m) = false := by rw [rn, rm]; simp; omega
          have q5 : decide (n < m) = false := by simp; omega
          clear fn fm rn rm h hf hr hl
          go_enter Tryd.func8, Tryd.ntmps8
          go_wp2_with (first | (go_at_call 28; refine (file_any _ _).mono ?_; rintro e w' ⟨rfl, rfl⟩) | (go_at_call 30; refine (rank_any _ _).mono ?_; rintro e w' ⟨rfl, rfl⟩) | (go_at_call 10; refine (live2_any _ hT).mono ?_; rintro e w1 ⟨rfl, hb⟩))
          go_ret
          exact ⟨rfl, hb⟩
      · by_cases hl : n < m
        · have q1 : (fileI n == fileI m) = false := by rw [fn, fm]; rw [beq_eq_false_iff_ne]; omega
          have q2 : (rankI n == rankI m) = false := by rw [rn, rm]; rw [beq_eq_false_iff_ne]; omega
          have q2' : (rankI n != rankI m) = true := by rw [rn, rm]; rw [bne_iff_ne]; omega
          have q3 : (n == m) = false := by rw [beq_eq_false_iff_ne]; omega
          have q4 : decide (rankI n < rankI m) = true := by rw [rn, rm]; simp; omega
          have q5 : decide (n < m) = true := by simp; omega
          clear fn fm rn rm h hf hr hl
          go_enter Tryd.func8, Tryd.ntmps8
          go_wp2_with (first | (go_at_call 28; refine (file_any _ _).mono ?_; rintro e w' ⟨rfl, rfl⟩) | (go_at_call 30; refine (rank_any _ _).mono ?_; rintro e w' ⟨rfl, rfl⟩) | (go_at_call 10; refine (live2_any _ hT).mono ?_; rintro e w1 ⟨rfl, hb⟩))
          go_ret
          exact ⟨rfl, hb⟩
        · have q1 : (fileI n == fileI m) = false := by rw [fn, fm]; rw [beq_eq_false_iff_ne]; omega
          have q2 : (rankI n == rankI m) = false := by rw [rn, rm]; rw [beq_eq_false_iff_ne]; omega
          have q2' : (rankI n != rankI m) = true := by rw [rn, rm]; rw [bne_iff_ne]; omega
          have q3 : (n == m) = false := by rw [beq_eq_false_iff_ne]; omega
          have q4 : decide (rankI n < rankI m) = false := by rw [rn, rm]; simp; omega
          have q5 : decide (n < m) = false := by simp; omega
          clear fn fm rn rm h hf hr hl
          go_enter Tryd.func8, Tryd.ntmps8
          go_wp2_with (first | (go_at_call 28; refine (file_any _ _).mono ?_; rintro e w' ⟨rfl, rfl⟩) | (go_at_call 30; refine (rank_any _ _).mono ?_; rintro e w' ⟨rfl, rfl⟩) | (go_at_call 10; refine (live2_any _ hT).mono ?_; rintro e w1 ⟨rfl, hb⟩))
          go_ret
          exact ⟨rfl, hb⟩

theorem walk (n m : Int) (w : World) (hT : Tab w) : Calls Tryd.prog 8 #[.int .i64 n, .int .i64 m] w fun e w' => e = .returned (.bool true) ∧ Below w.heap.size w w' := by
  by_cases h : 0 ≤ n ∧ n < 90 ∧ 0 ≤ m ∧ m < 90
  · exact near n m w hT h.1 h.2.1 h.2.2.1 h.2.2.2
  · exact far n m w hT h
end Go.Proofs.YtdfjmchkpoobdabDoor.squares
