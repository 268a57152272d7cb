/- Seen from the other side there are as many lines; at depth 1 as many as moves: the call answers true. -/
import Derived.Test.YtelngcfpnbeakaaGreatDoorPerftK
namespace Go.Proofs.YtelngcfpnbeakaaGreatDoor.pturn
open Go.RowKit Go.Shelf
open M (S)

theorem count_turn {s : ByteArray} {y z u depth : Int} (h : beginN (wellN s y z u) depth 0 = 0) : countV (turnB s) (1 - y) z u depth = countV s y z u depth := by
  obtain ⟨hw, _, _⟩ := begin_zero h
  have hs : isB s = true := parts_board (check_zero (well_zero hw).1).1
  have hsd := well_side hw
  unfold countV
  rw [well_turn hs hsd, lines_turn depth.toNat ⟨hsd, z, u, hw⟩]
theorem count_one {s : ByteArray} {y z u depth : Int} (h : beginN (wellN s y z u) depth 0 = 0) : countV s y z u 1 = .tuple #[.int .i64 ((legalV s y z u).length : Nat), .int .i64 0] := by
  obtain ⟨hw, _, _⟩ := begin_zero h
  unfold countV
  rw [hw, show beginN 0 1 0 = 0 from rfl, if_pos rfl, show (1 : Int).toNat = 1 from rfl, linesN_one, legal_same, if_pos hw]
set_option maxRecDepth 100000 in
set_option maxHeartbeats 8000000 in
theorem walk (s : ByteArray) (y z u depth : Int) (w : World) (hT : Tab w) : Calls Tryz.prog 4 #[.agg #[.string s, .int .i64 y, .int .i64 z, .int .i64 u], .int .i64 depth] w (Gives w (.bool true)) := by
  unfold Gives
  obtain ⟨W0, hW0⟩ : ∃ W0, w.alloc (.cells #[.string s, .int .i64 y, .int .i64 z, .int .i64 u] 23) = W0 := ⟨_, rfl⟩
  have hB : Below w.heap.size w W0 := by rw [← hW0]; exact (by repeat (first | exact Below.refl _ _ | (refine Below.setCell ?_ (by first | omega | (simp; done) | (simp; omega) | (simp at *; omega)) _) | (refine Below.alloc ?_ (by first | omega | (simp; done) | (simp; omega) | (simp at *; omega)) _) | refine Below.drew ?_ | (refine below_drewN ?_ _) | (refine Below.trans ?_ (Below.mono (by assumption) (by first | omega | (simp; done) | (simp; omega) | (simp at *; omega))))))
  have bP : Blk W0 w.heap.size 23 #[.string s, .int .i64 y, .int .i64 z, .int .i64 u] := by rw [← hW0]; exact Blk.new _ _ _ rfl
  replace hT := hT.below hB hT.lt
  have HW := Lib.hid hW0
  clear hW0
  obtain ⟨p0, p1, p2, p3⟩ := ppos_cells bP
  go_enter Tryz.func4, Tryz.ntmps4
  go_wp2_with fail
  rw [HW.out]
  refine (few_any s y z u depth _).mono ?_
  rintro e w1 ⟨b, rfl, hfew, hb⟩
  replace hT := hT.next hb
  replace bP := bP.next hb
  replace hB := hB.trans (hb.mono hB.size)
  clear hb p0 p1 p2 p3
  obtain ⟨p0, p1, p2, p3⟩ := ppos_cells bP
  cases b
  · clear hfew
    go_wp2_with fail
    refine (live11_any _ hT).mono ?_
    rintro e w9 ⟨rfl, hb⟩
    go_wp2
    go_ret
    exact ⟨rfl, hB.trans (hb.mono hB.size)⟩
  · obtain ⟨_, hd⟩ := hfew rfl
    clear hfew
    obtain ⟨k, hk⟩ : ∃ k, beginN (wellN s y z u) depth 0 = k := ⟨_, rfl⟩
    have HCK : Hid (∀ W, Calls Tryz.prog 9 #[.agg #[.string s, .int .i64 y, .int .i64 z, .int .i64 u], .int .i64 depth, .int .i64 0] W (Gives W (.int .i64 k))) := fun W => by
      rw [← hk]
      exact rpcheck_any s y z u depth 0 W
    by_cases h0 : k = 0
    · subst h0
      obtain ⟨a, ha⟩ : ∃ a, (if beginN (wellN s y z u) depth 0 = 0 then (linesN depth.toNat s y : Int) else 0) = a := ⟨_, rfl⟩
      obtain ⟨m, hm⟩ : ∃ m, (legalV s y z u).length = m := ⟨_, rfl⟩
      have hv : countV s y z u depth = .tuple #[.int .i64 a, .int .i64 0] := by unfold countV; rw [ha, hk]
      have hv1 := count_turn hk
      rw [hv] at hv1
      have hv2 := count_one hk
      rw [hm] at hv2
      obtain ⟨hw, _, _⟩ := begin_zero hk
      have hsd := well_side hw
      have HC := Lib.hid (fun W hW => pcount_is s y z u depth a 0 W hW hd hv)
      have HT := Lib.hid (fun W hW => pcount_is (turnB s) (1 - y) z u depth a 0 W hW hd hv1)
      have H1 := Lib.hid (fun W hW => pcount_is s y z u 1 m 0 W hW (by omega) hv2)
      have HM := Lib.hid hm
      obtain ⟨t, ht⟩ : ∃ t, turnB s = t := ⟨_, rfl⟩
      obtain ⟨o, ho⟩ : ∃ o, 1 - y = o := ⟨_, rfl⟩
      rw [ht, ho] at HT
      have HRT : Hid (∀ W, Calls Tryz.prog 10 #[.agg #[.string s, .int .i64 y, .int .i64 z, .int .i64 u]] W (Gives W (.agg #[.string t, .int .i64 o, .int .i64 z, .int .i64 u]))) := fun W => by
        have h := rturnP_any s t y z u W (by omega) (by omega) (Lib.hid ht)
        rw [ho] at h
        exact h
      clear ha hk hv hv1 hv2 hd hm hw hsd ht ho
      go_wp2_with fail
      refine (HCK.out _).mono ?_
      rintro e w2 ⟨rfl, hb⟩
      replace hT := hT.next hb
      replace bP := bP.next hb
      replace hB := hB.trans (hb.mono hB.size)
      clear hb p0 p1 p2 p3
      obtain ⟨p0, p1, p2, p3⟩ := ppos_cells bP
      go_wp2_with fail
      refine (HC.out _ hT).mono ?_
      rintro e w2 ⟨rfl, hb⟩
      replace hT := hT.next hb
      replace bP := bP.next hb
      replace hB := hB.trans (hb.mono hB.size)
      clear hb p0 p1 p2 p3
      obtain ⟨p0, p1, p2, p3⟩ := ppos_cells bP
      go_wp2_with fail
      refine (HRT.out _).mono ?_
      rintro e w3 ⟨rfl, hb⟩
      replace hT := hT.next hb
      replace bP := bP.next hb
      replace hB := hB.trans (hb.mono hB.size)
      clear hb p0 p1 p2 p3
      obtain ⟨p0, p1, p2, p3⟩ := ppos_cells bP
      go_wp2_with fail
      refine (HT.out _ hT).mono ?_
      rintro e w4 ⟨rfl, hb⟩
      replace hT := hT.next hb
      replace bP := bP.next hb
      replace hB := hB.trans (hb.mono hB.size)
      clear hb p0 p1 p2 p3
      obtain ⟨p0, p1, p2, p3⟩ := ppos_cells bP
      go_wp2_with fail
      refine (H1.out _ hT).mono ?_
      rintro e w5 ⟨rfl, hb⟩
      replace hT := hT.next hb
      replace bP := bP.next hb
      replace hB := hB.trans (hb.mono hB.size)
      clear hb p0 p1 p2 p3
      obtain ⟨p0, p1, p2, p3⟩ := ppos_cells bP
      go_wp2_with fail
      refine (rlmoves_is s y z u _ m _ rfl HM.out).mono ?_
      rintro e w6 ⟨A, c, rfl, hr, hb⟩
      replace hT := hT.next hb
      replace hB := hB.trans (hb.mono hB.size)
      clear hb p0 p1 p2 p3 bP hr
      have b1 : a = a := rfl
      go_wp2_with fail
      refine (live11_any _ hT).mono ?_
      rintro e w9 ⟨rfl, hb⟩
      go_wp2
      go_ret
      exact ⟨rfl, hB.trans (hb.mono hB.size)⟩
    · have e0 : (k == 0) = false := by rw [beq_eq_false_iff_ne]; exact h0
      clear hk hd
      go_wp2_with fail
      refine (HCK.out _).mono ?_
      rintro e w2 ⟨rfl, hb⟩
      replace hT := hT.next hb
      replace hB := hB.trans (hb.mono hB.size)
      clear hb p0 p1 p2 p3
      go_wp2_with fail
      refine (live11_any _ hT).mono ?_
      rintro e w9 ⟨rfl, hb⟩
      go_wp2
      go_ret
      exact ⟨rfl, hB.trans (hb.mono hB.size)⟩
end Go.Proofs.YtelngcfpnbeakaaGreatDoor.pturn
