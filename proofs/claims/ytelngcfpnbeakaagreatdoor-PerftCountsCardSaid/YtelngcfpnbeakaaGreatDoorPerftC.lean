/- The document's count: its errors; the statements' own bound. -/
import Derived.Test.YtelngcfpnbeakaaGreatDoorPerftB
namespace Go.Proofs.YtelngcfpnbeakaaGreatDoor
open Go.RowKit Go.Shelf
open M (S)

/-- What is answered ahead of a count: k is check.Well's. -/
def beginN (k depth least : Int) : Int := if k = 0 ∧ (depth < least ∨ 64 < depth) then 1 else k
theorem below_past {w w1 : World} {o : Obj} (hb : Below (w.alloc o).heap.size (w.alloc o) w1) : Below w.heap.size w w1 :=
  ((Below.refl _ _).alloc (Nat.le_refl _) _).trans (hb.mono (by simp))
set_option maxHeartbeats 2000000 in
theorem rpcheck_any (s : ByteArray) (y z u depth least : Int) (w : World) : Calls Tryz.prog 9 #[.agg #[.string s, .int .i64 y, .int .i64 z, .int .i64 u], .int .i64 depth, .int .i64 least] w (Gives w (.int .i64 (beginN (wellN s y z u) depth least))) := by
  obtain ⟨k, hk⟩ : ∃ k, wellN s y z u = k := ⟨_, rfl⟩
  rw [hk]
  have HK := Lib.hid hk
  clear hk
  unfold Gives
  by_cases h0 : k = 0
  · subst h0
    by_cases h1 : depth < least
    · rw [show beginN 0 depth least = 1 from if_pos ⟨rfl, .inl h1⟩]
      go_enter Tryz.func9, Tryz.ntmps9
      go_wp2_with fail
      refine (rwell_is s y z u 0 _ HK.out).mono ?_
      rintro e w1 ⟨rfl, hb⟩
      go_wp2
      go_ret
      exact ⟨rfl, below_past hb⟩
    · by_cases h2 : 64 < depth
      · rw [show beginN 0 depth least = 1 from if_pos ⟨rfl, .inr h2⟩]
        go_enter Tryz.func9, Tryz.ntmps9
        go_wp2_with fail
        refine (rwell_is s y z u 0 _ HK.out).mono ?_
        rintro e w1 ⟨rfl, hb⟩
        go_wp2
        go_ret
        exact ⟨rfl, below_past hb⟩
      · rw [show beginN 0 depth least = 0 from if_neg (by omega)]
        go_enter Tryz.func9, Tryz.ntmps9
        go_wp2_with fail
        refine (rwell_is s y z u 0 _ HK.out).mono ?_
        rintro e w1 ⟨rfl, hb⟩
        go_wp2
        go_ret
        exact ⟨rfl, below_past hb⟩
  · have e0 : (k == 0) = false := by rw [beq_eq_false_iff_ne]; exact h0
    rw [show beginN k depth least = k from if_neg (by omega)]
    go_enter Tryz.func9, Tryz.ntmps9
    go_wp2_with fail
    refine (rwell_is s y z u k _ HK.out).mono ?_
    rintro e w1 ⟨rfl, hb⟩
    go_wp2
    go_ret
    exact ⟨rfl, below_past hb⟩
/-- What a count answers. -/
def countV (s : ByteArray) (y z u depth : Int) : Value := .tuple #[.int .i64 (if beginN (wellN s y z u) depth 0 = 0 then (linesN depth.toNat s y : Int) else 0), .int .i64 (beginN (wellN s y z u) depth 0)]
theorem begin_zero {k depth least : Int} (h : beginN k depth least = 0) : k = 0 ∧ least ≤ depth ∧ depth ≤ 64 := by
  unfold beginN at h
  split at h <;> omega
theorem well_side {s : ByteArray} {y z u : Int} (h : wellN s y z u = 0) : y = 0 ∨ y = 1 := (check_other (well_zero h).1).1
set_option maxHeartbeats 2000000 in
theorem rpcount_any (s : ByteArray) (y z u depth : Int) (w : World) (hd : depth ≤ 4 ∨ 64 < depth) : Calls Tryz.prog 8 #[.agg #[.string s, .int .i64 y, .int .i64 z, .int .i64 u], .int .i64 depth] w (Gives w (countV s y z u depth)) := by
  unfold Gives countV
  obtain ⟨k, hk⟩ : ∃ k, beginN (wellN s y z u) depth 0 = k := ⟨_, rfl⟩
  have HC := Lib.hid fun W => rpcheck_any s y z u depth 0 W
  rw [hk] at HC ⊢
  by_cases h0 : k = 0
  · subst h0
    obtain ⟨hw, h1, h2⟩ := begin_zero hk
    have hsz : s.size = 90 := isB_size (parts_board (check_zero (well_zero hw).1).1)
    have hsd := well_side hw
    obtain ⟨d, hdd⟩ : ∃ d, depth.toNat = d := ⟨_, rfl⟩
    rw [if_pos rfl, hdd]
    have HL := Lib.hid fun W => rlines_any d (by omega) s y depth W (by omega) hsz hsd
    clear hk hw hsz hsd hdd hd
    obtain ⟨W0, hW0⟩ : ∃ W0, w.alloc (.cells #[.string s, .int .i64 y, .int .i64 z, .int .i64 u] 23) = W0 := ⟨_, rfl⟩
    have hB : Below w.heap.size w W0 := by rw [← hW0]; exact (by repeat (first | exact Below.refl _ _ | (refine Below.setCell ?_ (by first | omega | (simp; done) | (simp; omega) | (simp at *; omega)) _) | (refine Below.alloc ?_ (by first | omega | (simp; done) | (simp; omega) | (simp at *; omega)) _) | refine Below.drew ?_ | (refine below_drewN ?_ _) | (refine Below.trans ?_ (Below.mono (by assumption) (by first | omega | (simp; done) | (simp; omega) | (simp at *; omega))))))
    have bP : Blk W0 w.heap.size 23 #[.string s, .int .i64 y, .int .i64 z, .int .i64 u] := by rw [← hW0]; exact Blk.new _ _ _ rfl
    obtain ⟨p0, p1, p2, p3⟩ := ppos_cells bP
    have HW := Lib.hid hW0
    clear hW0
    go_enter Tryz.func8, Tryz.ntmps8
    go_wp2_with fail
    rw [HW.out]
    refine (HC.out _).mono ?_
    rintro e w1 ⟨rfl, hb⟩
    obtain ⟨q0, q1, q2, q3⟩ := ppos_cells (bP.next hb)
    have hB1 := hB.trans (hb.mono hB.size)
    clear p0 p1 p2 p3
    go_wp2_with fail
    refine (HL.out _).mono ?_
    rintro e w2 ⟨rfl, hb2⟩
    go_wp2
    go_ret2
    exact ⟨rfl, hB1.trans (hb2.mono hB1.size)⟩
  · have e0 : (k != 0) = true := by rw [bne_iff_ne]; exact h0
    rw [if_neg h0]
    clear hk hd
    go_enter Tryz.func8, Tryz.ntmps8
    go_wp2_with fail
    refine (HC.out _).mono ?_
    rintro e w1 ⟨rfl, hb⟩
    go_wp2
    go_ret2
    exact ⟨rfl, below_past hb⟩
/-- What the statements' bound answers: if it is kept, the depth is 3 at most, or beyond 64. -/
def FewG (s : ByteArray) (depth : Int) (w : World) (e : Ending) (w' : World) : Prop := ∃ b, e = .returned (.bool b) ∧ (b = true → s.size ≤ 200 ∧ (depth ≤ 3 ∨ 64 < depth)) ∧ Below w.heap.size w w'
set_option maxRecDepth 100000 in
set_option maxHeartbeats 8000000 in
theorem few_any (s : ByteArray) (y z u depth : Int) (w : World) : Calls Tryz.prog 5 #[.agg #[.string s, .int .i64 y, .int .i64 z, .int .i64 u], .int .i64 depth] w (FewG s depth w) := by
  obtain ⟨W0, hW0⟩ : ∃ W0, w.alloc (.cells #[.string s, .int .i64 y, .int .i64 z, .int .i64 u] 23) = W0 := ⟨_, rfl⟩
  have hB : Below w.heap.size w W0 := by rw [← hW0]; exact (by repeat (first | exact Below.refl _ _ | (refine Below.setCell ?_ (by first | omega | (simp; done) | (simp; omega) | (simp at *; omega)) _) | (refine Below.alloc ?_ (by first | omega | (simp; done) | (simp; omega) | (simp at *; omega)) _) | refine Below.drew ?_ | (refine below_drewN ?_ _) | (refine Below.trans ?_ (Below.mono (by assumption) (by first | omega | (simp; done) | (simp; omega) | (simp at *; omega))))))
  have bP : Blk W0 w.heap.size 23 #[.string s, .int .i64 y, .int .i64 z, .int .i64 u] := by rw [← hW0]; exact Blk.new _ _ _ rfl
  obtain ⟨p0, p1, p2, p3⟩ := ppos_cells bP
  have HW := Lib.hid hW0
  clear hW0 bP
  go_enter Tryz.func5, Tryz.ntmps5
  go_wp2_with fail
  rw [HW.out]
  go_loopw [5, 6] (fun v i wr => ∃ k x : Nat, k ≤ 90 ∧ k ≤ s.size ∧ x ≤ k ∧ v = .int .i64 x ∧ i = .int .i64 k ∧ W0 = wr) (fun _ i _ => 90 - (intOf i).toNat)
  case atStart => exact ⟨0, 0, by omega, by omega, by omega, rfl, rfl, rfl⟩
  case round =>
    obtain ⟨k, x, hk, hks, hx, rfl, rfl, rfl⟩ := hrel
    by_cases hlt : k < s.size
    · have c1 : (k : Int) < (s.size : Int) := by omega
      by_cases hlt2 : k < 90
      · have c2 : (k : Int) < 90 := by omega
        obtain ⟨c, hc⟩ : ∃ c, s[k].toNat = c := ⟨_, rfl⟩
        by_cases h46 : c = 46
        · subst h46
          go_wp2
          go_roundw
          case rel => exact ⟨k + 1, x, by omega, by omega, by omega, rfl, by go_num, trivial⟩
          case measure => simp [intOf]; omega
        · have e46 : ((c : Int) != 46) = true := by rw [bne_iff_ne]; omega
          go_wp2
          go_roundw
          case rel => exact ⟨k + 1, x + 1, by omega, by omega, by omega, by go_num, by go_num, trivial⟩
          case measure => simp [intOf]; omega
      · have c2 : ¬ (k : Int) < 90 := by omega
        rcases Int.lt_or_le 200 (s.size : Int) with a | a
        · (go_wp2; go_ret; refine ⟨_, rfl, fun h => by first | exact ⟨by omega, by omega⟩ | (simp at h <;> exact ⟨by omega, by omega⟩), by assumption⟩)
        · rcases Int.lt_or_le 1 depth with b | b
          · rcases Int.lt_or_le 64 depth with c | c
            · (go_wp2; go_ret; refine ⟨_, rfl, fun h => by first | exact ⟨by omega, by omega⟩ | (simp at h <;> exact ⟨by omega, by omega⟩), by assumption⟩)
            · rcases Int.lt_or_le 16 (x : Int) with d | d
              · have d2 : 6 < (x : Int) := by omega
                (go_wp2; go_ret; refine ⟨_, rfl, fun h => by first | exact ⟨by omega, by omega⟩ | (simp at h <;> exact ⟨by omega, by omega⟩), by assumption⟩)
              · by_cases e : depth = 2
                · subst e
                  (go_wp2; go_ret; refine ⟨_, rfl, fun h => by first | exact ⟨by omega, by omega⟩ | (simp at h <;> exact ⟨by omega, by omega⟩), by assumption⟩)
                · have e2 : (depth == 2) = false := by rw [beq_eq_false_iff_ne]; exact e
                  rcases Int.lt_or_le 6 (x : Int) with f | f
                  · (go_wp2; go_ret; refine ⟨_, rfl, fun h => by first | exact ⟨by omega, by omega⟩ | (simp at h <;> exact ⟨by omega, by omega⟩), by assumption⟩)
                  · rcases Int.lt_or_le 3 depth with g | g
                    · (go_wp2; go_ret; refine ⟨_, rfl, fun h => by first | exact ⟨by omega, by omega⟩ | (simp at h <;> exact ⟨by omega, by omega⟩), by assumption⟩)
                    · (go_wp2; go_ret; refine ⟨_, rfl, fun h => by first | exact ⟨by omega, by omega⟩ | (simp at h <;> exact ⟨by omega, by omega⟩), by assumption⟩)
          · (go_wp2; go_ret; refine ⟨_, rfl, fun h => by first | exact ⟨by omega, by omega⟩ | (simp at h <;> exact ⟨by omega, by omega⟩), by assumption⟩)
    · have c1 : ¬ (k : Int) < (s.size : Int) := by omega
      rcases Int.lt_or_le 200 (s.size : Int) with a | a
      · omega
      · rcases Int.lt_or_le 1 depth with b | b
        · rcases Int.lt_or_le 64 depth with c | c
          · (go_wp2; go_ret; refine ⟨_, rfl, fun h => by first | exact ⟨by omega, by omega⟩ | (simp at h <;> exact ⟨by omega, by omega⟩), by assumption⟩)
          · rcases Int.lt_or_le 16 (x : Int) with d | d
            · have d2 : 6 < (x : Int) := by omega
              (go_wp2; go_ret; refine ⟨_, rfl, fun h => by first | exact ⟨by omega, by omega⟩ | (simp at h <;> exact ⟨by omega, by omega⟩), by assumption⟩)
            · by_cases e : depth = 2
              · subst e
                (go_wp2; go_ret; refine ⟨_, rfl, fun h => by first | exact ⟨by omega, by omega⟩ | (simp at h <;> exact ⟨by omega, by omega⟩), by assumption⟩)
              · have e2 : (depth == 2) = false := by rw [beq_eq_false_iff_ne]; exact e
                rcases Int.lt_or_le 6 (x : Int) with f | f
                · (go_wp2; go_ret; refine ⟨_, rfl, fun h => by first | exact ⟨by omega, by omega⟩ | (simp at h <;> exact ⟨by omega, by omega⟩), by assumption⟩)
                · rcases Int.lt_or_le 3 depth with g | g
                  · (go_wp2; go_ret; refine ⟨_, rfl, fun h => by first | exact ⟨by omega, by omega⟩ | (simp at h <;> exact ⟨by omega, by omega⟩), by assumption⟩)
                  · (go_wp2; go_ret; refine ⟨_, rfl, fun h => by first | exact ⟨by omega, by omega⟩ | (simp at h <;> exact ⟨by omega, by omega⟩), by assumption⟩)
        · (go_wp2; go_ret; refine ⟨_, rfl, fun h => by first | exact ⟨by omega, by omega⟩ | (simp at h <;> exact ⟨by omega, by omega⟩), by assumption⟩)
end Go.Proofs.YtelngcfpnbeakaaGreatDoor
