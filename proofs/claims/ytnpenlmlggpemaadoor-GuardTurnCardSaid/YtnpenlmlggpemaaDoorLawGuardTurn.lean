/- Seen from the other side as many could be taken, and they are guarded alike, if each side has one general at most: the call answers true. -/
import Derived.Test.YtnpenlmlggpemaaDoorGuardV
namespace Go.Proofs.YtnpenlmlggpemaaDoor.gturn
open Go.RowKit Go.Shelf
open M (S)

theorem takes_turned (s : ByteArray) (h : isB s = true → Few1 s) : takesG (turnB s) 1 = ((takesG s 0).map turnM).reverse := by
  by_cases hs : isB s = true
  · exact takes_turn hs (h hs) (side := 0) (.inl rfl)
  · have e1 : takesG s 0 = [] := by
      unfold takesG
      rw [if_neg]
      rw [Bool.and_eq_true]
      exact fun h => hs h.1
    have e2 : turnB s = ByteArray.empty := by
      unfold turnB
      rw [if_neg hs]
    rw [e1, e2]
    decide +kernel
theorem guard_turned {s : ByteArray} {a b : Nat} (hs : isB s = true) (hf : Few1 s) (ha : a < 90) (hb : b < 90) (hc : couldB s 0 a b = true) : guardI (turnB s) ((89 - a : Nat) : Int) ((89 - b : Nat) : Int) = guardI s (a : Int) (b : Int) := by
  rw [guardI_nat hs ha hb, guardI_nat (turn_is_board hs) (by omega) (by omega), guard_turn hs hf ha hb hc]
theorem few_find {s : ByteArray} (h1 : (findL s 75).length ≤ 1) (h2 : (findL s 107).length ≤ 1) : isB s = true → Few1 s := fun hs => by
  unfold findL at h1 h2
  rw [if_pos hs] at h1 h2
  exact ⟨by rw [cnt_trues]; exact h1, by rw [cnt_trues]; exact h2⟩
theorem rturn_t (s t : ByteArray) (w : World) (h : turnB s = t) : Calls Tryd.prog 9 #[.string s] w (Gives w (.string t)) := by subst h; exact rturn_any s w
theorem gguard_h (s : ByteArray) (a b : Int) (v : Bool) (w : World) (hT : Tab w) (h : Hid (guardI s a b = v)) : Calls Tryd.prog 11 #[.string s, .agg #[.int .i64 a, .int .i64 b]] w (Gives w (.bool v)) := gguard_is s a b v w hT h.out
abbrev GT (w : World) (gm : Nat) (x y : Int) (g1 i0 i1 : Nat) (a b : Nat) (W : World) : Prop := W.cell? ⟨gm, 0, none⟩ = some (.int .i64 x) ∧ W.cell? ⟨gm, 1, none⟩ = some (.int .i64 y) ∧ W.cell? ⟨g1, i0, none⟩ = some (.int .i64 (a : Int)) ∧ W.cell? ⟨g1, i1, none⟩ = some (.int .i64 (b : Int)) ∧ Tab W ∧ Below w.heap.size w W
theorem gt_keep {w : World} {gm : Nat} {x y : Int} {g1 i0 i1 : Nat} {a b : Nat} {W W' : World} (h : GT w gm x y g1 i0 i1 a b W) (hb : Below W.heap.size W W') : GT w gm x y g1 i0 i1 a b W' := by
  obtain ⟨h0, h1, h2, h3, h4, h5⟩ := h
  exact ⟨(hb.cell (p := ⟨gm, 0, none⟩) (cell_lt h0)).trans h0, (hb.cell (p := ⟨gm, 1, none⟩) (cell_lt h1)).trans h1, (hb.cell (p := ⟨g1, i0, none⟩) (cell_lt h2)).trans h2, (hb.cell (p := ⟨g1, i1, none⟩) (cell_lt h3)).trans h3, h4.next hb, h5.trans (hb.mono h5.size)⟩
theorem gt_tab {w : World} {gm : Nat} {x y : Int} {g1 i0 i1 : Nat} {a b : Nat} {W : World} (h : GT w gm x y g1 i0 i1 a b W) : Tab W := h.2.2.2.2.1
theorem gt_below {w : World} {gm : Nat} {x y : Int} {g1 i0 i1 : Nat} {a b : Nat} {W : World} (h : GT w gm x y g1 i0 i1 a b W) : Below w.heap.size w W := h.2.2.2.2.2
set_option maxRecDepth 100000 in
set_option maxHeartbeats 8000000 in
theorem large (s : ByteArray) (w : World) (hT : Tab w) (hs : 200 < s.size) : Calls Tryd.prog 3 #[.string s] w (Gives w (.bool true)) := by
  unfold Gives
  have hd : decide (200 < (s.size : Int)) = true := by simp; omega
  clear hs
  go_enter Tryd.func3, Tryd.ntmps3
  go_wp2_with fail
  refine (live15_any _ hT).mono ?_
  rintro e w9 ⟨rfl, hb⟩
  go_wp2
  go_ret
  exact ⟨rfl, hb⟩
set_option maxRecDepth 100000 in
set_option maxHeartbeats 8000000 in
theorem many (s : ByteArray) (n m : Nat) (w : World) (hT : Tab w) (hs : s.size ≤ 200) (hn : (findL s 75).length = n) (hm : (findL s 107).length = m) (h : 1 < n ∨ 1 < m) : Calls Tryd.prog 3 #[.string s] w (Gives w (.bool true)) := by
  unfold Gives
  have hd : decide (200 < (s.size : Int)) = false := by simp; omega
  have HN := Lib.hid hn
  have HM := Lib.hid hm
  clear hs hn hm
  by_cases h1 : 1 < n
  · have n1 : (1 : Int) < (n : Int) := by omega
    clear h h1
    go_enter Tryd.func3, Tryd.ntmps3
    go_wp2_with fail
    refine (rfind_is s 75 n _ HN.out).mono ?_
    rintro e w1 ⟨A, c, rfl, _, hb⟩
    have hT1 := hT.next hb
    go_wp2_with fail
    refine (live15_any _ hT1).mono ?_
    rintro e w9 ⟨rfl, hb2⟩
    go_wp2
    go_ret
    exact ⟨rfl, hb.trans (hb2.mono hb.size)⟩
  · have h2 : 1 < m := by omega
    have n1 : ¬ (1 : Int) < (n : Int) := by omega
    have m1 : (1 : Int) < (m : Int) := by omega
    clear h h1 h2
    go_enter Tryd.func3, Tryd.ntmps3
    go_wp2_with fail
    refine (rfind_is s 75 n _ HN.out).mono ?_
    rintro e w1 ⟨A, c, rfl, _, hb⟩
    go_wp2_with fail
    refine (rfind_is s 107 m _ HM.out).mono ?_
    rintro e w2 ⟨A2, c2, rfl, _, hb2⟩
    have hB := hb.trans (hb2.mono hb.size)
    have hT1 := hT.next hB
    go_wp2_with fail
    refine (live15_any _ hT1).mono ?_
    rintro e w9 ⟨rfl, hb3⟩
    go_wp2
    go_ret
    exact ⟨rfl, hB.trans (hb3.mono hB.size)⟩
set_option maxRecDepth 100000 in
set_option maxHeartbeats 8000000 in
theorem few (s : ByteArray) (n m : Nat) (w : World) (hT : Tab w) (hs : s.size ≤ 200) (hn : (findL s 75).length = n) (hm : (findL s 107).length = m) (h1 : n ≤ 1) (h2 : m ≤ 1) : Calls Tryd.prog 3 #[.string s] w (Gives w (.bool true)) := by
  unfold Gives
  have hd : decide (200 < (s.size : Int)) = false := by simp; omega
  have hfew := few_find (s := s) (by omega) (by omega)
  obtain ⟨L, hL⟩ : ∃ L, takesG s 0 = L := ⟨_, rfl⟩
  obtain ⟨q, hq⟩ : ∃ q, L.length = q := ⟨_, rfl⟩
  have hq81 : q ≤ 8100 := by rw [← hq, ← hL]; exact takes_len s 0
  obtain ⟨t, ht⟩ : ∃ t, turnB s = t := ⟨_, rfl⟩
  obtain ⟨K2, hK⟩ : ∃ K2, (L.map turnM).reverse = K2 := ⟨_, rfl⟩
  have hKq : K2.length = q := by rw [← hK, List.length_reverse, List.length_map, hq]
  have HT1 : Hid (takesG t 1 = K2) := by show _ = _; rw [← ht, takes_turned s hfew, hL, hK]
  have HIN : Hid (∀ k (hk : k < L.length), isB s = true ∧ L[k].1 < 90 ∧ L[k].2 < 90 ∧ couldB s 0 L[k].1 L[k].2 = true ∧ bAt s L[k].2 ≠ 46) := fun k hk => by
    have hm : (L[k].1, L[k].2) ∈ takesG s 0 := by rw [hL]; exact List.getElem_mem hk
    exact takes_mem.1 hm
  have HBK : Hid (∀ k (hk : k < L.length) (hj : q - 1 - k < K2.length), K2[q - 1 - k] = turnM L[k]) := fun k hk hj => by
    subst hK
    rw [List.getElem_reverse, List.getElem_map]
    congr 1
    congr 1
    rw [List.length_map]
    omega
  have HL := Lib.hid hL
  have HQ := Lib.hid hq
  have HKQ := Lib.hid hKq
  have HTT := Lib.hid ht
  have HN := Lib.hid hn
  have HM := Lib.hid hm
  have HFW := Lib.hid hfew
  have n1 : ¬ (1 : Int) < (n : Int) := by omega
  have m1 : ¬ (1 : Int) < (m : Int) := by omega
  clear hs hn hm h1 h2 hfew hL hq ht hK hKq
  go_enter Tryd.func3, Tryd.ntmps3
  go_wp2_with fail
  refine (rfind_is s 75 n _ HN.out).mono ?_
  rintro e w1 ⟨A, c, rfl, _, hb⟩
  go_wp2_with fail
  refine (rfind_is s 107 m _ HM.out).mono ?_
  rintro e w2 ⟨A2, c2, rfl, _, hb2⟩
  have hB := hb.trans (hb2.mono hb.size)
  clear hb hb2
  go_wp2_with fail
  refine (rturn_t s t _ HTT.out).mono ?_
  rintro e w3 ⟨rfl, hb⟩
  replace hB := hB.trans (hb.mono hB.size)
  clear hb
  go_wp2_with fail
  refine (gtakes_is s 0 L q _ (hT.next hB) HL.out HQ.out).mono ?_
  rintro e w4 ⟨v1, rfl, ho1, hb⟩
  obtain ⟨A3, c3, rfl⟩ := owns_slice ho1
  have hr1 := Rd.owns ho1
  replace hB := hB.trans (hb.mono hB.size)
  clear hb ho1
  go_wp2_with fail
  refine (gtakes_is t 1 K2 q _ (hT.next hB) HT1.out HKQ.out).mono ?_
  rintro e w5 ⟨v2, rfl, ho2, hb⟩
  obtain ⟨A4, c4, rfl⟩ := owns_slice ho2
  have hr2 := Rd.owns ho2
  replace hr1 := hr1.next hb
  replace hB := hB.trans (hb.mono hB.size)
  have hT5 := hT.next hB
  clear hb ho2
  go_wp2_with fail
  go_loopw [6] (fun i wr => ∃ k : Nat, k ≤ q ∧ i = .int .i64 k ∧ Below w5.heap.size w5 wr) (fun i _ => q - (intOf i).toNat)
  case atStart => exact ⟨0, Nat.zero_le _, rfl, Below.refl _ _⟩
  case round =>
    obtain ⟨k, hk, rfl, hBk⟩ := hrel
    by_cases hlt : k < q
    · have hkl : k < L.length := by rw [HQ.out]; exact hlt
      obtain ⟨j, hj⟩ : ∃ j, q - 1 - k = j := ⟨_, rfl⟩
      have hjl : j < K2.length := by rw [HKQ.out]; omega
      have hbk := HBK.out k hkl (by rw [hj]; exact hjl)
      obtain ⟨g1, o1, rfl, d0, d1⟩ := hr1.move hkl
      obtain ⟨g2, o2, rfl, f0, f1⟩ := hr2.move hjl
      obtain ⟨hsb, ha, hb9, hc, _⟩ := HIN.out k hkl
      obtain ⟨⟨a, b⟩, huv⟩ : ∃ x, L[k] = x := ⟨_, rfl⟩
      obtain ⟨⟨x, y⟩, hxy⟩ : ∃ x, K2[j] = x := ⟨_, rfl⟩
      have hxy2 : (x, y) = turnM (a, b) := by
        rw [← hxy, ← huv, ← hbk]
        simp only [hj]
      have hx : x = 89 - a := by
        have := congrArg Prod.fst hxy2
        exact this
      have hy : y = 89 - b := by
        have := congrArg Prod.snd hxy2
        exact this
      rw [huv] at d0 d1 ha hb9 hc
      rw [hxy] at f0 f1
      have ha : a < 90 := ha
      have hb9 : b < 90 := hb9
      obtain ⟨g, hg⟩ : ∃ g, guardI s (a : Int) (b : Int) = g := ⟨_, rfl⟩
      have HG1 := Lib.hid hg
      have HG2 : Hid (guardI t (x : Int) (y : Int) = g) := by
        show _ = _
        rw [← HTT.out, hx, hy, guard_turned hsb (HFW.out hsb) ha hb9 hc, hg]
      have x1 : (89 : Int) - (a : Int) = (x : Int) := by omega
      have y1 : (89 : Int) - (b : Int) = (y : Int) := by omega
      have j1 : (q : Int) - 1 - (k : Int) = (j : Int) := by omega
      have e0 := (hBk.cell (p := ⟨g1, o1 + k * 2, none⟩) (cell_lt d0)).trans d0
      have e1 := (hBk.cell (p := ⟨g1, o1 + k * 2 + 1, none⟩) (cell_lt d1)).trans d1
      have e2 := (hBk.cell (p := ⟨g2, o2 + j * 2, none⟩) (cell_lt f0)).trans f0
      have e3 := (hBk.cell (p := ⟨g2, o2 + j * 2 + 1, none⟩) (cell_lt f1)).trans f1
      have b1 : (k : Int) < (q : Int) := by omega
      have b2 : (j : Int) < (q : Int) := by omega
      have wx : IntKind.i64.wrap (x : Int) = (x : Int) := by rw [IntKind.wrap_i64]; omega
      have wy : IntKind.i64.wrap (y : Int) = (y : Int) := by rw [IntKind.wrap_i64]; omega
      have gg : (g != g) = false := by cases g <;> rfl
      have hne := neq_move
      have xx : (!((x : Int) == (x : Int) && (y : Int) == (y : Int))) = false := by simp
      have hbA := (Below.refl wr.heap.size wr).alloc (Nat.le_refl _) (.cells #[.int .i64 (x : Int), .int .i64 (y : Int)] 29)
      have bM : Blk (wr.alloc (.cells #[.int .i64 (x : Int), .int .i64 (y : Int)] 29)) wr.heap.size 29 #[.int .i64 (x : Int), .int .i64 (y : Int)] := Blk.new _ _ _ rfl
      have bM2 := bM.next (Below.refl _ _).drew
      have hBA := hBk.trans (hbA.drew.mono hBk.size)
      have r0 := (hbA.drew.cell (p := ⟨g1, o1 + k * 2, none⟩) (cell_lt e0)).trans e0
      have r1 := (hbA.drew.cell (p := ⟨g1, o1 + k * 2 + 1, none⟩) (cell_lt e1)).trans e1
      have hS : GT w5 wr.heap.size x y g1 (o1 + k * 2) (o1 + k * 2 + 1) a b (wr.alloc (.cells #[.int .i64 (x : Int), .int .i64 (y : Int)] 29)).drew := ⟨bM2.cell 0, bM2.cell 1, r0, r1, hT5.next hBA, hBA⟩
      clear hbk huv hxy hxy2 hx hy hc hsb hg d0 d1 f0 f1 hj bM bM2 r0 r1 hbA hBA HIN HBK
      go_wp2_with fail
      go_region_held3 (fun W => W.cell? ⟨wr.heap.size, 0, none⟩ = some (.int .i64 (x : Int)) ∧ W.cell? ⟨wr.heap.size, 1, none⟩ = some (.int .i64 (y : Int)) ∧ W.cell? ⟨g1, o1 + k * 2, none⟩ = some (.int .i64 (a : Int)) ∧ W.cell? ⟨g1, o1 + k * 2 + 1, none⟩ = some (.int .i64 (b : Int)) ∧ Tab W ∧ Below w5.heap.size w5 W)
        (first | exact hS | exact gt_keep (by assumption) hb)
        (first
          | (go_at_call 11; refine (gguard_h _ _ _ g _ ?_ (by first | with_reducible exact HG1 | with_reducible exact HG2)).mono ?_; (exact gt_tab (by assumption)); rintro e w6 ⟨rfl, hb⟩))
      all_goals
        go_wp2
        go_roundw
        case rel => exact ⟨k + 1, by omega, by go_num, gt_below (by assumption)⟩
        case measure => simp [intOf]; omega
    · obtain rfl : k = q := by omega
      have hB2 := hB.trans (hBk.mono hB.size)
      go_wp2_with fail
      refine (live15_any _ (hT5.next hBk)).mono ?_
      rintro e w9 ⟨rfl, hb⟩
      go_wp2
      go_ret
      exact ⟨rfl, hB2.trans (hb.mono hB2.size)⟩
theorem walk (s : ByteArray) (w : World) (hT : Tab w) : Calls Tryd.prog 3 #[.string s] w (Gives w (.bool true)) := by
  by_cases hs : s.size ≤ 200
  · by_cases h1 : (findL s 75).length ≤ 1
    · by_cases h2 : (findL s 107).length ≤ 1
      · exact few s _ _ w hT hs rfl rfl h1 h2
      · exact many s _ _ w hT hs rfl rfl (.inr (by omega))
    · exact many s _ _ w hT hs rfl rfl (.inl (by omega))
  · exact large s w hT (by omega)
end Go.Proofs.YtnpenlmlggpemaaDoor.gturn
