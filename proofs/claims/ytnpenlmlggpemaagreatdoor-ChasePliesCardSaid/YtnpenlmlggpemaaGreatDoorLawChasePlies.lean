/- What the move that led to any position did: the call answers true. -/
import Derived.Test.YtnpenlmlggpemaaGreatDoorChaseV
import Derived.Test.YtnpenlmlggpemaaGreatDoorChaseN
namespace Go.Proofs.YtnpenlmlggpemaaGreatDoor.cplies
open Go.RowKit Go.Shelf
open M (S)

theorem plyL_len (s : ByteArray) (y z u : Int) : (plyL s y z u).length ≤ 90 := by
  unfold plyL
  split
  · rw [chasedL_map, List.length_map]
    exact chasedN_len _ _
  · simp
set_option maxRecDepth 100000 in
set_option maxHeartbeats 8000000 in
theorem large (s : ByteArray) (y z u : Int) (w : World) (hT : Tab w) (hs : 200 < s.size) : Calls Tryz.prog 7 #[.agg #[.string s, .int .i64 y, .int .i64 z, .int .i64 u]] w (Gives w (.bool true)) := by
  unfold Gives
  have hd : decide (200 < (s.size : Int)) = true := by simp; omega
  clear hs
  go_enter Tryz.func7, Tryz.ntmps7
  go_wp2_with fail
  obtain ⟨W0, hW0⟩ : ∃ W0, w.alloc (.cells #[.string s, .int .i64 y, .int .i64 z, .int .i64 u] 31) = W0 := ⟨_, rfl⟩
  have hB : Below w.heap.size w W0 := by rw [← hW0]; exact below_new _ _
  replace hT := hT.below hB hT.lt
  rw [hW0]
  refine (live16_any _ hT).mono ?_
  rintro e w9 ⟨rfl, hb⟩
  go_wp2
  go_ret
  exact ⟨rfl, hB.trans (hb.mono hB.size)⟩
set_option maxRecDepth 100000 in
set_option maxHeartbeats 8000000 in
theorem small (s : ByteArray) (y z u : Int) (w : World) (hT : Tab w) (hs : s.size ≤ 200) : Calls Tryz.prog 7 #[.agg #[.string s, .int .i64 y, .int .i64 z, .int .i64 u]] w (Gives w (.bool true)) := by
  unfold Gives
  have hd : decide (200 < (s.size : Int)) = false := by simp; omega
  clear hs
  obtain ⟨W0, hW0⟩ : ∃ W0, w.alloc (.cells #[.string s, .int .i64 y, .int .i64 z, .int .i64 u] 31) = W0 := ⟨_, rfl⟩
  have hB : Below w.heap.size w W0 := by rw [← hW0]; exact below_new _ _
  have bP : Blk W0 w.heap.size 31 #[.string s, .int .i64 y, .int .i64 z, .int .i64 u] := by rw [← hW0]; exact Blk.new _ _ _ rfl
  replace hT := hT.below hB hT.lt
  have HW := Lib.hid hW0
  obtain ⟨c, hc⟩ : ∃ c, plyC s y z u = c := ⟨_, rfl⟩
  obtain ⟨l, hl⟩ : ∃ l, plyL s y z u = l := ⟨_, rfl⟩
  obtain ⟨k, hk⟩ : ∃ k, wellN s y z u = k := ⟨_, rfl⟩
  have hln : l.length ≤ 1000000 := by rw [← hl]; exact Nat.le_trans (plyL_len s y z u) (by decide)
  have HLN := Lib.hid hln
  have HC := Lib.hid hc
  have HL := Lib.hid hl
  have HK := Lib.hid hk
  have e1 : (c == c) = true := by cases c <;> rfl
  have e2 : (k == k) = true := by simp
  clear hW0 hc hl hk hln
  obtain ⟨p0, p1, p2, p3⟩ := ppos_cells bP
  go_enter Tryz.func7, Tryz.ntmps7
  go_wp2_with fail
  rw [HW.out]
  refine (cof_is s y z u c l k _ hT HC.out HL.out HK.out).mono ?_
  rintro e w1 ⟨A, a1, rfl, hr, hb⟩
  replace bP := bP.next hb
  replace hT := hT.next hb
  replace hB := hB.trans (hb.mono hB.size)
  clear p0 p1 p2 p3 hb
  obtain ⟨p0, p1, p2, p3⟩ := ppos_cells bP
  have hgp := bP.lt
  go_wp2_with fail
  obtain ⟨U, hU⟩ : ∃ U, w1.alloc (.cells #[.bool c, .slice A l.length a1] 43) = U := ⟨_, rfl⟩
  have bX : Blk U w1.heap.size 43 #[.bool c, .slice A l.length a1] := by rw [← hU]; exact Blk.new _ _ _ rfl
  have hbU : Below w1.heap.size w1 U := by rw [← hU]; exact below_new _ _
  rw [hU]
  clear hU p0 p1 p2 p3 hgp
  replace hr := hr.next hbU
  replace hT := hT.next hbU
  replace hB := hB.trans (hbU.mono hB.size)
  generalize w1.heap.size = gx at bX hbU ⊢
  clear bP hbU
  refine (rcof_is s y z u c l k _ hT HC.out HL.out HK.out).mono ?_
  rintro e w2 ⟨A2, a2, rfl, hr2, hb⟩
  replace bX := bX.next hb
  replace hr := hr.next hb
  replace hT := hT.next hb
  replace hB := hB.trans (hb.mono hB.size)
  obtain ⟨x0, x1⟩ := ply_cells bX
  have hgx := bX.lt
  clear hb
  go_wp2_with fail
  have hbV : Below w2.heap.size w2 (w2.alloc (.cells #[.bool c, .slice A2 l.length a2] 46)) := below_new _ _
  replace hT := hT.next hbV
  replace hB := hB.trans (hbV.mono hB.size)
  refine (ints_true A A2 l l.length a1 a2 _ (hr.next hbV) (hr2.next hbV) rfl HLN.out).mono ?_
  rintro e w3 ⟨rfl, hb⟩
  replace hT := hT.next hb
  replace hB := hB.trans (hb.mono hB.size)
  clear hb x0 x1 bX
  go_wp2_with fail
  refine (live16_any _ hT).mono ?_
  rintro e w9 ⟨rfl, hb⟩
  go_wp2
  go_ret
  exact ⟨rfl, hB.trans (hb.mono hB.size)⟩
theorem walk (s : ByteArray) (y z u : Int) (w : World) (hT : Tab w) : Calls Tryz.prog 7 #[.agg #[.string s, .int .i64 y, .int .i64 z, .int .i64 u]] w (Gives w (.bool true)) := by
  by_cases hs : s.size ≤ 200
  · exact small s y z u w hT hs
  · exact large s y z u w hT (by omega)
end Go.Proofs.YtnpenlmlggpemaaGreatDoor.cplies
