/- Seen from the other side it is the same: a check is one, and as much is chased, turned round: the call answers true. -/
import Derived.Test.YtnkbilikkbaeeaaGreatDoorChaseV
import Derived.Test.YtnkbilikkbaeeaaGreatDoorChaseN
import Derived.Test.YtnkbilikkbaeeaaGreatDoorCycleP
import Derived.Test.YtnkbilikkbaeeaaGreatDoorRefP5
namespace Go.Proofs.YtnkbilikkbaeeaaGreatDoor.cturn
open Go.RowKit Go.Shelf
open M (S)

theorem cof_n (s : ByteArray) (y z u : Int) (c : Bool) (l : List Int) (n : Nat) (w : World) (hT : Tab w) (hc : plyC s y z u = c) (hl : plyL s y z u = l) (hk : wellN s y z u = 0) (hn : l.length = n) : Calls Tryz.prog 24 #[.agg #[.string s, .int .i64 y, .int .i64 z, .int .i64 u]] w fun e w' => ∃ A cap, e = .returned (.tuple #[.agg #[.bool c, .slice A n cap], .int .i64 0]) ∧ Rd w' A (l.map iv) ∧ Below w.heap.size w w' := by
  subst hn
  exact cof_is s y z u c l 0 w hT hc hl hk
theorem plyL_facts {s : ByteArray} {y z u : Int} {n : Nat} (h : (plyL s y z u).length = n) : n ≤ 90 ∧ ∀ k (hk : k < (plyL s y z u).length), 0 ≤ (plyL s y z u)[k] ∧ (plyL s y z u)[k] < 90 := by
  subst h
  unfold plyL
  split
  · refine ⟨by rw [chasedL_map, List.length_map]; exact chasedN_len _ _, fun k hk => ?_⟩
    simp only [chasedL_map, List.getElem_map]
    have := (chasedN_at (s := s) (side := 1 - y) (k := k) (by rw [chasedL_map, List.length_map] at hk; exact hk)).1
    omega
  · exact ⟨by simp, fun k hk => absurd hk (by simp)⟩
theorem rd_int2 {w : World} {A : Option Addr} {l : List Int} (h : Rd w A (l.map iv)) {k : Nat} (hk : k < l.length) : ∃ g b, A = some ⟨g, b, none⟩ ∧ w.cell? ⟨g, b + k, none⟩ = some (iv l[k]) := by
  obtain ⟨⟨g, b, sp⟩, rfl, hc⟩ := h k (iv l[k]) (by simp [hk])
  have h00 : 0 < l.length := by omega
  obtain ⟨a0, e0, hc0⟩ := h 0 (iv l[0]) (by simp [h00])
  cases e0
  have hsp : sp = none := by simpa [Addr.add] using World.cell?_spot hc0
  subst hsp
  have hadd : (Addr.add ⟨g, b, none⟩ k) = ⟨g, b + k, none⟩ := by
    simp only [Addr.add]
    split <;> simp_all
  rw [hadd] at hc
  exact ⟨g, b, rfl, hc⟩
abbrev CT (w : World) (gp ga gb : Nat) (s : ByteArray) (y : Int) (c : Bool) (A B : Option Addr) (n a b : Nat) (W : World) : Prop := W.cell? ⟨gp, 0, none⟩ = some (.string s) ∧ W.cell? ⟨gp, 1, none⟩ = some (.int .i64 y) ∧ W.cell? ⟨ga, 0, none⟩ = some (.bool c) ∧ W.cell? ⟨ga, 1, none⟩ = some (.slice A n a) ∧ W.cell? ⟨gb, 0, none⟩ = some (.bool c) ∧ W.cell? ⟨gb, 1, none⟩ = some (.slice B n b) ∧ Tab W ∧ Below w.heap.size w W
theorem ct_keep {w : World} {gp ga gb : Nat} {s : ByteArray} {y : Int} {c : Bool} {A B : Option Addr} {n a b : Nat} {W W' : World} (h : CT w gp ga gb s y c A B n a b W) (hb : Below W.heap.size W W') : CT w gp ga gb s y c A B n a b W' := by
  obtain ⟨h0, h1, h2, h3, h4, h5, h6, h7⟩ := h
  exact ⟨(hb.cell (p := ⟨gp, 0, none⟩) (cell_lt h0)).trans h0, (hb.cell (p := ⟨gp, 1, none⟩) (cell_lt h1)).trans h1, (hb.cell (p := ⟨ga, 0, none⟩) (cell_lt h2)).trans h2, (hb.cell (p := ⟨ga, 1, none⟩) (cell_lt h3)).trans h3, (hb.cell (p := ⟨gb, 0, none⟩) (cell_lt h4)).trans h4, (hb.cell (p := ⟨gb, 1, none⟩) (cell_lt h5)).trans h5, h6.next hb, h7.trans (hb.mono h7.size)⟩
theorem ct_tab {w : World} {gp ga gb : Nat} {s : ByteArray} {y : Int} {c : Bool} {A B : Option Addr} {n a b : Nat} {W : World} (h : CT w gp ga gb s y c A B n a b W) : Tab W := h.2.2.2.2.2.2.1
set_option maxRecDepth 100000 in
set_option maxHeartbeats 2000000 in
theorem large (s : ByteArray) (y z u : Int) (w : World) (hT : Tab w) (hs : 200 < s.size) : Calls Tryz.prog 4 #[.agg #[.string s, .int .i64 y, .int .i64 z, .int .i64 u]] w (Gives w (.bool true)) := by
  unfold Gives
  have hd : decide (200 < (s.size : Int)) = true := by simp; omega
  clear hs
  go_enter Tryz.func4, Tryz.ntmps4
  go_wp2_with fail
  obtain ⟨W0, hW0⟩ : ∃ W0, w.alloc (.cells #[.string s, .int .i64 y, .int .i64 z, .int .i64 u] 36) = W0 := ⟨_, rfl⟩
  have hB : Below w.heap.size w W0 := by rw [← hW0]; exact below_new _ _
  replace hT := hT.below hB hT.lt
  rw [hW0]
  refine (live16_any _ hT).mono ?_
  rintro e w9 ⟨rfl, hb⟩
  go_wp2
  go_ret
  exact ⟨rfl, hB.trans (hb.mono hB.size)⟩
set_option maxRecDepth 100000 in
set_option maxHeartbeats 2000000 in
theorem ill (s : ByteArray) (y z u : Int) (w : World) (hT : Tab w) (hs : s.size ≤ 200) (k : Int) (hk : wellN s y z u = k) (h : k ≠ 0) : Calls Tryz.prog 4 #[.agg #[.string s, .int .i64 y, .int .i64 z, .int .i64 u]] w (Gives w (.bool true)) := by
  unfold Gives
  have hd : decide (200 < (s.size : Int)) = false := by simp; omega
  clear hs
  obtain ⟨W0, hW0⟩ : ∃ W0, w.alloc (.cells #[.string s, .int .i64 y, .int .i64 z, .int .i64 u] 36) = W0 := ⟨_, rfl⟩
  have hB : Below w.heap.size w W0 := by rw [← hW0]; exact below_new _ _
  have bP : Blk W0 w.heap.size 36 #[.string s, .int .i64 y, .int .i64 z, .int .i64 u] := by rw [← hW0]; exact Blk.new _ _ _ rfl
  replace hT := hT.below hB hT.lt
  have HW := Lib.hid hW0
  obtain ⟨p0, p1, p2, p3⟩ := ppos_cells bP
  have HK := Lib.hid hk
  have k0 : (k != 0) = true := by rw [bne_iff_ne]; exact h
  clear hW0 hk h
  go_enter Tryz.func4, Tryz.ntmps4
  go_wp2_with fail
  rw [HW.out]
  refine (rwell_is s y z u k _ HK.out).mono ?_
  rintro e w1 ⟨rfl, hb⟩
  replace hT := hT.next hb
  replace hB := hB.trans (hb.mono hB.size)
  clear p0 p1 p2 p3 hb
  go_wp2_with fail
  refine (live16_any _ hT).mono ?_
  rintro e w9 ⟨rfl, hb⟩
  go_wp2
  go_ret
  exact ⟨rfl, hB.trans (hb.mono hB.size)⟩
set_option maxRecDepth 100000 in
set_option maxHeartbeats 4000000 in
theorem good (s : ByteArray) (y z u : Int) (w : World) (hT : Tab w) (hs : s.size ≤ 200) (hk : wellN s y z u = 0) : Calls Tryz.prog 4 #[.agg #[.string s, .int .i64 y, .int .i64 z, .int .i64 u]] w (Gives w (.bool true)) := by
  unfold Gives
  have hd : decide (200 < (s.size : Int)) = false := by simp; omega
  clear hs
  obtain ⟨t, ht⟩ : ∃ t, turnB s = t := ⟨_, rfl⟩
  obtain ⟨o, ho⟩ : ∃ o, 1 - y = o := ⟨_, rfl⟩
  have htp : TurnP ⟨s, y, z, u⟩ ⟨t, o, z, u⟩ := turnP_of (a := ⟨s, y, z, u⟩) hk ht.symm ho.symm rfl (well_nums hk).2.2.1 (well_nums hk).2.2.2
  have hsd := Ps.side (a := ⟨s, y, z, u⟩) hk
  have hsd : y = 0 ∨ y = 1 := hsd
  obtain ⟨c, hc⟩ : ∃ c, plyC s y z u = c := ⟨_, rfl⟩
  obtain ⟨l, hl⟩ : ∃ l, plyL s y z u = l := ⟨_, rfl⟩
  obtain ⟨n, hn⟩ : ∃ n, l.length = n := ⟨_, rfl⟩
  obtain ⟨hn9, hin⟩ := plyL_facts (s := s) (y := y) (z := z) (u := u) (n := n) (by rw [hl, hn])
  have hcT : plyC t o z u = c := (plyC_turn htp).trans hc
  have hlT : plyL t o z u = (l.map fun k => 89 - k).reverse := by
    rw [← hl]
    exact plyL_turn htp
  have hin2 : inB s y = c := by
    rw [← hc]
    unfold plyC
    rw [decide_eq_true hk, Bool.true_and]
  obtain ⟨r, hr⟩ : ∃ r, (l.map fun k => 89 - k).reverse = r := ⟨_, rfl⟩
  rw [hr] at hlT
  have hrn : r.length = n := by rw [← hr, List.length_reverse, List.length_map, hn]
  have HBK : Hid (∀ k (hk : k < l.length) (hj : n - 1 - k < r.length), r[n - 1 - k] = 89 - l[k]) := fun k hk hj => by
    subst hr
    rw [List.getElem_reverse, List.getElem_map]
    congr 1
    congr 1
    rw [List.length_map]
    omega
  have HIN : Hid (∀ k (hk : k < l.length), 0 ≤ l[k] ∧ l[k] < 90) := by
    show ∀ k (hk : k < l.length), 0 ≤ l[k] ∧ l[k] < 90
    subst hl
    exact hin
  have HT1 : Hid (turnB s = t) := ht
  have HK := Lib.hid hk
  have HK2 := Lib.hid (show wellN t o z u = 0 from htp.wb)
  have HC := Lib.hid hc
  have HCT := Lib.hid hcT
  have HL := Lib.hid hl
  have HLT := Lib.hid hlT
  have HN := Lib.hid hn
  have HRN := Lib.hid hrn
  have HI := Lib.hid hin2
  have y0 : 0 ≤ y := by omega
  have y1 : y ≤ 1 := by omega
  have HRT : Hid (∀ W, Calls Tryz.prog 25 #[.agg #[.string s, .int .i64 y, .int .i64 z, .int .i64 u]] W (Gives W (.agg #[.string t, .int .i64 o, .int .i64 z, .int .i64 u]))) := fun W => by rw [← ho]; exact rturnP_any s t y z u W y0 y1 HT1
  obtain ⟨W0, hW0⟩ : ∃ W0, w.alloc (.cells #[.string s, .int .i64 y, .int .i64 z, .int .i64 u] 36) = W0 := ⟨_, rfl⟩
  have hB : Below w.heap.size w W0 := by rw [← hW0]; exact below_new _ _
  have bP : Blk W0 w.heap.size 36 #[.string s, .int .i64 y, .int .i64 z, .int .i64 u] := by rw [← hW0]; exact Blk.new _ _ _ rfl
  replace hT := hT.below hB hT.lt
  have HW := Lib.hid hW0
  obtain ⟨p0, p1, p2, p3⟩ := ppos_cells bP
  clear hW0 hk hc hl hn hcT hlT hin hin2 hr hrn ht ho htp hsd
  go_enter Tryz.func4, Tryz.ntmps4
  go_wp2_with fail
  rw [HW.out]
  refine (rwell_is s y z u 0 _ HK.out).mono ?_
  rintro e w1 ⟨rfl, hb⟩
  replace bP := bP.next hb
  replace hT := hT.next hb
  replace hB := hB.trans (hb.mono hB.size)
  clear p0 p1 p2 p3 hb
  obtain ⟨p0, p1, p2, p3⟩ := ppos_cells bP
  go_wp2_with fail
  refine (cof_n s y z u c l n _ hT HC.out HL.out HK.out HN.out).mono ?_
  rintro e w2 ⟨A, a1, rfl, hr, hb⟩
  replace bP := bP.next hb
  replace hT := hT.next hb
  replace hB := hB.trans (hb.mono hB.size)
  clear p0 p1 p2 p3 hb
  obtain ⟨U, hU⟩ : ∃ U, w2.alloc (.cells #[.bool c, .slice A n a1] 40) = U := ⟨_, rfl⟩
  have bX : Blk U w2.heap.size 40 #[.bool c, .slice A n a1] := by rw [← hU]; exact Blk.new _ _ _ rfl
  have hbU : Below w2.heap.size w2 U := by rw [← hU]; exact below_new _ _
  replace bP := bP.next hbU
  replace hT := hT.next hbU
  replace hB := hB.trans (hbU.mono hB.size)
  replace hr := hr.next hbU
  have hgp := bP.lt
  obtain ⟨p0, p1, p2, p3⟩ := ppos_cells bP
  clear hbU
  go_wp2_with fail
  refine (HRT.out _).mono ?_
  rintro e w3 ⟨rfl, hb⟩
  replace bP := bP.next hb
  replace bX := bX.next hb
  replace hT := hT.next hb
  replace hB := hB.trans (hb.mono hB.size)
  replace hr := hr.next hb
  clear p0 p1 p2 p3 hb hU hgp
  go_wp2_with fail
  refine (cof_n t o z u c r n _ hT HCT.out HLT.out HK2.out HRN.out).mono ?_
  rintro e w4 ⟨B, b1, rfl, hr2, hb⟩
  replace bP := bP.next hb
  replace bX := bX.next hb
  replace hT := hT.next hb
  replace hB := hB.trans (hb.mono hB.size)
  replace hr := hr.next hb
  clear hb
  obtain ⟨U2, hU2⟩ : ∃ U2, w4.alloc (.cells #[.bool c, .slice B n b1] 40) = U2 := ⟨_, rfl⟩
  have bY : Blk U2 w4.heap.size 40 #[.bool c, .slice B n b1] := by rw [← hU2]; exact Blk.new _ _ _ rfl
  have hbU : Below w4.heap.size w4 U2 := by rw [← hU2]; exact below_new _ _
  replace bP := bP.next hbU
  replace bX := bX.next hbU
  replace hT := hT.next hbU
  replace hB := hB.trans (hbU.mono hB.size)
  replace hr := hr.next hbU
  replace hr2 := hr2.next hbU
  have ccb : (c != c) = false := by cases c <;> rfl
  have hS : CT w w.heap.size w2.heap.size w4.heap.size s y c A B n a1 b1 U2.drew := ct_keep ⟨bP.cell 0, bP.cell 1, bX.cell 0, bX.cell 1, bY.cell 0, bY.cell 1, hT, hB⟩ (Below.refl _ _).drew
  replace hr := hr.next (Below.refl _ _).drew
  replace hr2 := hr2.next (Below.refl _ _).drew
  clear bP bX bY hT hB hbU
  go_wp2_with fail
  go_region_held3 (fun W => W.cell? ⟨w.heap.size, 0, none⟩ = some (.string s) ∧ W.cell? ⟨w.heap.size, 1, none⟩ = some (.int .i64 y) ∧ W.cell? ⟨w2.heap.size, 0, none⟩ = some (.bool c) ∧ W.cell? ⟨w2.heap.size, 1, none⟩ = some (.slice A n a1) ∧ W.cell? ⟨w4.heap.size, 0, none⟩ = some (.bool c) ∧ W.cell? ⟨w4.heap.size, 1, none⟩ = some (.slice B n b1) ∧ Tab W ∧ Below w.heap.size w W)
    (first | exact hS | exact ct_keep (by assumption) hb)
    (first | (go_at_call 26; refine (in_is s y c _ ?_ HI.out).mono ?_; (exact ct_tab (by assumption)); rintro e w5 ⟨rfl, hb⟩; have hr5 := hr.next hb; have hr6 := hr2.next hb))
  all_goals
    have hS5 := ‹CT w w.heap.size w2.heap.size w4.heap.size s y c A B n a1 b1 w5›
    clear hS hr hr2 hb hU2
    go_wp2_with fail
    go_loopw [7] (fun i wr => ∃ k : Nat, k ≤ n ∧ i = .int .i64 (k : Int) ∧ Below w5.heap.size w5 wr) (fun i _ => n - (intOf i).toNat)
    case atStart => exact ⟨0, Nat.zero_le _, rfl, Below.refl _ _⟩
    case round =>
      obtain ⟨k, hk, rfl, hBk⟩ := hrel
      have hSk := ct_keep hS5 hBk
      obtain ⟨_, _, x0, x1, z0, z1, hTk, hBB⟩ := hSk
      by_cases hlt : k < n
      · have hkl : k < l.length := by rw [HN.out]; exact hlt
        obtain ⟨j, hj⟩ : ∃ j, n - 1 - k = j := ⟨_, rfl⟩
        have hjl : j < r.length := by rw [HRN.out]; omega
        have hbk := HBK.out k hkl (by rw [hj]; exact hjl)
        simp only [hj] at hbk
        obtain ⟨g1, o1, rfl, d0⟩ := rd_int2 hr5 hkl
        obtain ⟨g2, o2, rfl, e0⟩ := rd_int2 hr6 hjl
        obtain ⟨xa, hxa⟩ : ∃ x, l[k]'hkl = x := ⟨_, rfl⟩
        obtain ⟨xb, hxb⟩ : ∃ x, r[j]'hjl = x := ⟨_, rfl⟩
        have hinx := HIN.out k hkl
        rw [hxa] at d0 hinx
        rw [hxb] at e0
        rw [hxa, hxb] at hbk
        have c0 := (hBk.cell (p := ⟨g1, o1 + k, none⟩) (cell_lt d0)).trans d0
        have c1 := (hBk.cell (p := ⟨g2, o2 + j, none⟩) (cell_lt e0)).trans e0
        have j1 : (n : Int) - 1 - (k : Int) = (j : Int) := by omega
        have b1' : (k : Int) < (n : Int) := by omega
        have b2' : (j : Int) < (n : Int) := by omega
        have wj : IntKind.i64.wrap (j : Int) = (j : Int) := by rw [IntKind.wrap_i64]; omega
        have sum : xa + xb = 89 := by omega
        have sumb : (xa + xb != 89) = false := by rw [sum]; rfl
        have wsum : IntKind.i64.wrap (xa + xb) = 89 := by rw [sum, IntKind.wrap_i64]; rfl
        clear hxa hxb hbk hinx d0 e0 sum
        go_wp2_with fail
        go_quiet (fail)
        go_wp2_with fail
        go_roundw
        case rel => exact ⟨k + 1, by omega, by go_num, by first | exact hBk | exact below_drewN hBk _⟩
        case measure => simp [intOf]; omega
      · obtain rfl : k = n := by omega
        go_wp2_with fail
        refine (live16_any _ hTk).mono ?_
        rintro e w9 ⟨rfl, hb⟩
        go_wp2
        go_ret
        exact ⟨rfl, hBB.trans (hb.mono hBB.size)⟩
theorem walk (s : ByteArray) (y z u : Int) (w : World) (hT : Tab w) : Calls Tryz.prog 4 #[.agg #[.string s, .int .i64 y, .int .i64 z, .int .i64 u]] w (Gives w (.bool true)) := by
  by_cases hs : s.size ≤ 200
  · by_cases hk : wellN s y z u = 0
    · exact good s y z u w hT hs hk
    · exact ill s y z u w hT hs _ rfl hk
  · exact large s y z u w hT (by omega)
end Go.Proofs.YtnkbilikkbaeeaaGreatDoor.cturn
