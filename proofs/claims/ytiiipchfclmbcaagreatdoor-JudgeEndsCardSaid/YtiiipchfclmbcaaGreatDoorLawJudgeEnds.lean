/- A game that has ended does not go on; a game that goes on does so with each move that may be made: the call answers true. -/
import Derived.Test.YtiiipchfclmbcaaGreatDoorJudgeX
import Derived.Test.YtiiipchfclmbcaaGreatDoorJudgeW
import Derived.Deep.AppendLies
import Derived.Deep.RegionLaw
namespace Go.Proofs.YtiiipchfclmbcaaGreatDoor.jends
open Go.RowKit Go.Shelf
open M (S)

set_option maxRecDepth 100000 in
set_option maxHeartbeats 4000000 in
theorem large (p : Ps) (C : Option Addr) (a d : Nat) (x y : Int) (w : World) (hT : Tab w) (h : 200 < p.s.size ∨ 20 < a) : Calls Tryz.prog 5 #[.agg #[.string p.s, .int .i64 p.y, .int .i64 p.z, .int .i64 p.u], .slice C a d, .agg #[.int .i64 x, .int .i64 y]] w (Gives w (.bool true)) := by
  unfold Gives
  obtain ⟨s, y0, z, u⟩ := p
  obtain ⟨W0, hW0⟩ : ∃ W0, (w.alloc (.cells #[.string s, .int .i64 y0, .int .i64 z, .int .i64 u] 23)).alloc (.cells #[.int .i64 x, .int .i64 y] 37) = W0 := ⟨_, rfl⟩
  have hB : Below w.heap.size w W0 := by rw [← hW0]; exact (below_new _ _).alloc (by rw [World.size_alloc]; exact Nat.le_succ _) _
  have bP : Blk W0 w.heap.size 23 #[.string s, .int .i64 y0, .int .i64 z, .int .i64 u] := by rw [← hW0]; exact (Blk.new _ _ _ rfl).alloc _
  have bM : Blk W0 (w.heap.size + 1) 37 #[.int .i64 x, .int .i64 y] := by rw [← hW0]; exact Blk.new _ _ _ (by rw [World.size_alloc])
  obtain ⟨p0, p1, p2, p3⟩ := four_cells bP
  replace hT := hT.below hB hT.lt
  have h : 200 < s.size ∨ 20 < a := h
  have h : ((200 : Int) < (s.size : Int)) ∨ (¬ ((200 : Int) < (s.size : Int)) ∧ (20 : Int) < (a : Int)) := by omega
  rcases h with hd | ⟨hd, hd2⟩
  all_goals
    go_enter Tryz.func5, Tryz.ntmps5
    go_wp2_with fail
    (try rw [hW0])
    refine (live18_any _ hT).mono ?_
    rintro e w9 ⟨rfl, hb⟩
    go_wp2
    go_ret
    exact ⟨rfl, hB.trans (hb.mono hB.size)⟩
set_option maxRecDepth 100000 in
set_option maxHeartbeats 20000000 in
theorem small (p : Ps) (C : Option Addr) (l : List (Int × Int)) (a d : Nat) (x1 x2 : Int) (w : World) (hT : Tab w) (hm : Rd w C (mzL l)) (ha : l.length = a) (had : a ≤ d) (h1 : p.s.size ≤ 200) (h2 : a ≤ 20) : Calls Tryz.prog 5 #[.agg #[.string p.s, .int .i64 p.y, .int .i64 p.z, .int .i64 p.u], .slice C a d, .agg #[.int .i64 x1, .int .i64 x2]] w (Gives w (.bool true)) := by
  unfold Gives
  obtain ⟨i1, hj1, hy0, hy1, hy2⟩ := info_parts info_move
  have hj : ∀ W (_ : Tab W) (_ : Rd W C (mzL l)), Calls Tryz.prog 14 #[.agg #[.string p.s, .int .i64 p.y, .int .i64 p.z, .int .i64 p.u], .slice C a d] W (fun e w' => ∃ A c, e = .returned (.tuple #[.agg #[.int .i64 (playV p l).1, .int .i64 (playV p l).2], .slice A (playL p l).length c, .int .i64 (playE p l)]) ∧ Rd w' A (psL (playL p l)) ∧ (playL p l).length ≤ c ∧ Below W.heap.size W w') := fun W hTW hr => jplay_any p C l a d W hTW hr ha had
  have hj2 : ∀ W D e (_ : Tab W) (_ : Rd W D (mzL (l ++ [(x1, x2)]))) (_ : a + 1 ≤ e), Calls Tryz.prog 14 #[.agg #[.string p.s, .int .i64 p.y, .int .i64 p.z, .int .i64 p.u], .slice D (a + 1) e] W (fun e w' => ∃ A c v1 v2 n, e = .returned (.tuple #[.agg #[.int .i64 v1, .int .i64 v2], .slice A n c, .int .i64 (playE p (l ++ [(x1, x2)]))]) ∧ Below W.heap.size W w') := fun W D e hTW hr he => (jplay_any p D (l ++ [(x1, x2)]) (a + 1) e W hTW hr (by rw [List.length_append, ha]; rfl) he).mono fun e w' ⟨A, c, he, _, _, hb⟩ => ⟨A, c, _, _, _, he, hb⟩
  have hno : playE p l ≠ 0 → (playV p l).1 = 0 ∧ (playV p l).2 = 0 ∧ (playL p l).length = 0 := fun h => by unfold playV playL; rw [if_neg h, if_neg h]; exact ⟨rfl, rfl, rfl⟩
  have hend := fun h => play_ends (p := p) (l := l) (x1, x2) h (by omega)
  obtain ⟨kv, hV1⟩ : ∃ x, (playV p l).1 = x := ⟨_, rfl⟩
  obtain ⟨rv, hV2⟩ : ∃ x, (playV p l).2 = x := ⟨_, rfl⟩
  obtain ⟨ls, hL⟩ : ∃ x, playL p l = x := ⟨_, rfl⟩
  obtain ⟨er, hE⟩ : ∃ x, playE p l = x := ⟨_, rfl⟩
  obtain ⟨fr, hF⟩ : ∃ x, playE p (l ++ [(x1, x2)]) = x := ⟨_, rfl⟩
  rw [hV1, hV2, hL, hE] at hj
  rw [hV1, hV2, hL, hE] at hno
  rw [hF] at hj2
  rw [hL, hE, hV1, hV2, hF] at hend
  have HJ := Lib.hid hj
  have HJ2 := Lib.hid hj2
  have HEND := Lib.hid hend
  have HNO := Lib.hid hno
  have HA := Lib.hid ha
  obtain ⟨s, y, z, u⟩ := p
  have hd : ¬ (200 : Int) < (s.size : Int) := by have : s.size ≤ 200 := h1; omega
  have hd2 : ¬ (20 : Int) < (a : Int) := by omega
  obtain ⟨W0, hW0⟩ : ∃ W0, (w.alloc (.cells #[.string s, .int .i64 y, .int .i64 z, .int .i64 u] 23)).alloc (.cells #[.int .i64 x1, .int .i64 x2] 37) = W0 := ⟨_, rfl⟩
  have hB : Below w.heap.size w W0 := by rw [← hW0]; exact (below_new _ _).alloc (by rw [World.size_alloc]; exact Nat.le_succ _) _
  have bP : Blk W0 w.heap.size 23 #[.string s, .int .i64 y, .int .i64 z, .int .i64 u] := by rw [← hW0]; exact (Blk.new _ _ _ rfl).alloc _
  have bM : Blk W0 (w.heap.size + 1) 37 #[.int .i64 x1, .int .i64 x2] := by rw [← hW0]; exact Blk.new _ _ _ (by rw [World.size_alloc])
  replace hT := hT.below hB hT.lt
  have HMM := Lib.hid (hm.next hB)
  have HP := Lib.hid bP
  have HX := Lib.hid bM
  have HB := Lib.hid hB
  have HW := Lib.hid hW0
  have HT := Lib.hid hT
  obtain ⟨p0, p1, p2, p3⟩ := four_cells bP
  clear hV1 hV2 hL hE hF hj hj2 hend hno ha h1 h2 hm hB hW0 hT bP bM
  go_enter Tryz.func5, Tryz.ntmps5
  go_wp2_with fail
  (try rw [HW.out])
  refine (HJ.out _ HT.out HMM.out).mono ?_
  rintro e w1 ⟨A1, c1, rfl, hr1, hc1, hb1⟩
  have HB1 := Lib.hid (HB.out.trans (hb1.mono HB.out.size))
  have HT1 := Lib.hid (HT.out.next hb1)
  have HM1 := Lib.hid (HMM.out.next hb1)
  have HP1 := Lib.hid (HP.out.next hb1)
  have HX1 := Lib.hid (HX.out.next hb1)
  have HR1 := Lib.hid hr1
  have HC1 := Lib.hid hc1
  clear hr1 hc1 hb1 p0 p1 p2 p3
  obtain ⟨W2, hW2⟩ : ∃ W2, w1.alloc (.cells #[.int .i64 kv, .int .i64 rv] 27) = W2 := ⟨_, rfl⟩
  have hb2 : Below w1.heap.size w1 W2 := by rw [← hW2]; exact below_new _ _
  have bV : Blk W2 w1.heap.size 27 #[.int .i64 kv, .int .i64 rv] := by rw [← hW2]; exact Blk.new _ _ _ rfl
  obtain ⟨gv, hgv⟩ : ∃ gv, w1.heap.size = gv := ⟨_, rfl⟩
  rw [hgv] at bV
  have HGV := Lib.hid hgv
  have HBV := Lib.hid bV
  have HB2 := Lib.hid (HB1.out.trans (hb2.mono HB1.out.size))
  have HT2 := Lib.hid (HT1.out.next hb2)
  have HM2 := Lib.hid (HM1.out.next hb2)
  have HP2 := Lib.hid (HP1.out.next hb2)
  have HX2 := Lib.hid (HX1.out.next hb2)
  have HR2 := Lib.hid (HR1.out.next hb2)
  have HW2 := Lib.hid hW2
  clear hb2 hW2 hgv bV
  by_cases he : er = 0
  · subst he
    obtain ⟨hll, c, hcc, hE1, hE2⟩ := HEND.out rfl
    have HCC := Lib.hid hcc
    have HE1 := Lib.hid hE1
    have HE2 := Lib.hid hE2
    have hn1 : ls.length = a + 1 := by rw [hll, HA.out]
    have HN1 := Lib.hid hn1
    obtain ⟨n1, he1⟩ : ∃ n1, ls.length = n1 := ⟨_, rfl⟩
    have hna : n1 = a + 1 := he1.symm.trans hn1
    have HNA := Lib.hid hna
    have w1n : IntKind.i64.wrap ((a : Int) + 1) = (n1 : Int) := by rw [IntWalk.i64_in _ (by omega), hna]; rfl
    have nn : ((n1 : Int) != (n1 : Int)) = false := by simp
    clear HEND HNO hll hcc hE1 hE2
    rw [he1]
    clear hn1 he1 hna
    have h20 : a ≤ 1000 := by omega
    have hmL : Rd (w1.alloc (.cells #[.int .i64 kv, .int .i64 rv] 27)) C (mzL l) := by rw [HW2.out]; exact HM2.out
    have HML := Lib.hid hmL
    clear hmL
    have hsz : W2.heap.size ≤ (w1.alloc (.cells #[.int .i64 kv, .int .i64 rv] 27)).heap.size := by rw [HW2.out]; exact Nat.le_refl _
    have HSZ := Lib.hid hsz
    clear hsz
    have HL : Hid (a + 1 ≤ maxLen) := by show _ ≤ _; unfold maxLen; omega
    have HBY : Hid ((a + 1) * 16 ≤ 140737488355328) := by show _ ≤ _; omega
    have HONE : Hid (∀ u ∈ [iv x1, iv x2], u.oneCell' = true) := by intro u hu; simp only [List.mem_cons, List.not_mem_nil, or_false] at hu; rcases hu with rfl | rfl <;> rfl
    go_wp2_with (first
      | (at_builtin; refine wpList_append_row rfl _ _ rfl rfl W2.heap.size C l a d i1 hj1 hy0 hy1 hy2 _ rfl rfl HML.out HA.out h20 HSZ.out ?_; intro v3 w3 hown hb3; rw [HW2.out] at hb3; have HB3 := Lib.hid hb3; have HO3 := Lib.hid hown; obtain ⟨x0, x1c⟩ := two_cells (HX2.out.next hb3); have HNEW := Lib.hid (cells_two_new w3 (iv x1) (iv x2) 37); have HBS : Hid (W2.heap.size ≤ (w3.alloc (.cells #[iv x1, iv x2] 37)).heap.size) := Nat.le_trans hb3.size (by rw [World.size_alloc]; exact Nat.le_succ _); clear hb3 hown)
      | (at_builtin; refine wpList_append_lies _ rfl _ _ 24 rfl W2.heap.size 37 i1 _ 2 16 Tryz.underlying24 hj1 hy0 hy1 hy2 rfl (by decide) _ a (mzL l) rfl (HO3.out.alloc _) ⟨w3.heap.size, 0, none⟩ 1 1 [iv x1, iv x2] rfl rfl HNEW.out HONE.out (by decide) HL.out HBY.out HBS.out _ rfl ?_; intro g9 cap9 w6 hown2 hgrow2 hat2 hlt2; have hb6 := below_app HB3.out HB3.out.size HO3.out hgrow2; have HB6 := Lib.hid hb6; have HO6 := Lib.hid hown2; obtain ⟨p0, p1, p2, p3⟩ := four_cells (HP2.out.next hb6); clear hb6 hown2 hgrow2 hat2 hlt2 x0 x1c))
    obtain ⟨A4, c4, he4, hr4, hc4⟩ := own_any HO6.out
    cases he4
    have HT6 := Lib.hid (HT2.out.next HB6.out)
    have HR4 : Hid (Rd w6 (some ⟨g9, 0, none⟩) (mzL (l ++ [(x1, x2)]))) := by show Rd _ _ _; rw [mzL_snoc]; exact hr4
    refine (HJ2.out w6 (some ⟨g9, 0, none⟩) cap9 HT6.out HR4.out hc4).mono ?_
    rintro e w7 ⟨A7, c7, z1, z2, n7, rfl, hb⟩
    have hb8 := HB6.out.trans (hb.mono HB6.out.size)
    have hb7 : Below W2.heap.size W2 (w7.alloc (.cells #[.int .i64 z1, .int .i64 z2] 27)) := hb8.alloc hb8.size _
    obtain ⟨W8, hW8⟩ : ∃ W8, w7.alloc (.cells #[.int .i64 z1, .int .i64 z2] 27) = W8 := ⟨_, rfl⟩
    have HW8 := Lib.hid hW8
    have HB7 := Lib.hid hb7
    have hT8 := HT2.out.next hb7
    rw [hW8] at hT8
    have HT7 := Lib.hid hT8
    have hw8 := HB2.out.trans (hb7.mono HB2.out.size)
    rw [hW8] at hw8
    have HW7 := Lib.hid hw8
    obtain ⟨v0, v1⟩ := two_cells (HBV.out.next hb7)
    rw [← HGV.out] at v0 v1
    have hal : a < ls.length := by rw [HN1.out]; exact Nat.lt_succ_self _
    obtain ⟨g1, b1, hA1, d0, d1, d2, d3⟩ := (HR2.out.next hb7).ps hal
    have hcc : ls[a]'hal = c := by
      have h := HCC.out
      rw [HA.out, List.getElem?_eq_getElem hal] at h
      exact Option.some.inj h
    rw [hcc] at d0 d1 d2 d3
    obtain ⟨x0, x1c⟩ := two_cells (HX2.out.next hb7)
    obtain ⟨q, qy, qz, qu, tk, k, hV, hcase⟩ := step_value c (x1, x2)
    obtain ⟨cs, cy, cz, cu⟩ := c
    simp only at d0 d1 d2 d3 hV
    have HV := Lib.hid hV
    have HCASE := Lib.hid hcase
    subst hA1
    clear hW8 hb8 hT8 hw8 hb hb7 hr4 hc4 hV hcase p0 p1 p2 p3 hcc HCC
    by_cases hk : kv = 0
    · obtain ⟨rfl, hor⟩ := HE2.out hk
      subst hk
      have HOR := Lib.hid hor
      clear hor HE1 HE2
      have HMK : Hid (∀ W, Calls Tryz.prog 19 #[.agg #[.string cs, .int .i64 cy, .int .i64 cz, .int .i64 cu], .agg #[.int .i64 x1, .int .i64 x2]] W (Gives W (.tuple #[.agg #[.string q, .int .i64 qy, .int .i64 qz, .int .i64 qu], .int .u8 tk, .int .i64 k]))) := fun W => rmake_isJ cs cy cz cu x1 x2 _ W HV.out
      go_wp2_with fail
      (try rw [HW8.out])
      rw [HW8.out] at d0 d1 d2 d3 x0 x1c v0 v1
      have HD : Hid (Below W2.heap.size W2 W8) := by have h := HB7.out; rw [HW8.out] at h; exact h
      have HVB : Hid (Blk W8 gv 27 #[.int .i64 0, .int .i64 0]) := HBV.out.next HD.out
      have wa : IntKind.i64.wrap ((n1 : Int) - 1) = (a : Int) := by have := HNA.out; rw [IntWalk.i64_in _ (by omega)]; omega
      have ga : (a : Int) < (n1 : Int) := by have := HNA.out; omega
      have gb : (0 : Int) ≤ (a : Int) := by omega
      have hba : Below W8.heap.size W8 (W8.alloc (.cells #[.string ⟨#[]⟩, .int .i64 0, .int .i64 0, .int .i64 0] 23)) := (Below.refl _ _).alloc (Nat.le_refl _) _
      have HBZ : Hid (Blk (W8.alloc (.cells #[.string ⟨#[]⟩, .int .i64 0, .int .i64 0, .int .i64 0] 23)).drew W8.heap.size 23 #[.string ⟨#[]⟩, .int .i64 0, .int .i64 0, .int .i64 0]) := (Blk.new W8 23 #[.string ⟨#[]⟩, .int .i64 0, .int .i64 0, .int .i64 0] rfl).next (Below.refl _ _).drew
      have HBA := Lib.hid hba
      have hal : ∀ (o : Obj) (pl : Addr) (x : Value), W8.cell? pl = some x → (W8.alloc o).cell? pl = some x := fun o pl x h => (((Below.refl W8.heap.size W8).alloc (Nat.le_refl _) o).cell (cell_lt h)).trans h
      have pa0 := fun o => hal o _ _ d0
      have pa1 := fun o => hal o _ _ d1
      have pa2 := fun o => hal o _ _ d2
      have pa3 := fun o => hal o _ _ d3
      have ha0 := fun o => hal o _ _ x0
      have ha1 := fun o => hal o _ _ x1c
      clear hal hba v0 v1
      apply cut_
      · intro key
        go_region_with ((go_at_call 19; first
        | (refine (HMK.out W8.drew).mono ?_; rintro e w9 ⟨rfl, hb⟩; obtain ⟨W4, hW4⟩ : ∃ x, w9.alloc (.cells #[.string q, .int .i64 qy, .int .i64 qz, .int .i64 qu] 23) = x := ⟨_, rfl⟩)
        | (refine (HMK.out (W8.alloc (.cells #[.string ⟨#[]⟩, .int .i64 0, .int .i64 0, .int .i64 0] 23)).drew).mono ?_; rintro e w9 ⟨rfl, hb⟩; obtain ⟨z0, z1, z2, z3⟩ := four_cells (HBZ.out.next hb); obtain ⟨f0, f1, f2, f3⟩ := four_frozen (HBZ.out.next hb); obtain ⟨W4, hW4⟩ : ∃ x, ((((w9.setCell ⟨W8.heap.size, 0, none⟩ (.string q)).setCell ⟨W8.heap.size, 1, none⟩ (.int .i64 qy)).setCell ⟨W8.heap.size, 2, none⟩ (.int .i64 qz)).setCell ⟨W8.heap.size, 3, none⟩ (.int .i64 qu)) = x := ⟨_, rfl⟩)))
        all_goals
          first
          | (have hb3 : Below W8.heap.size W8 w9 := ((Below.refl W8.heap.size W8).drew).trans hb
             have hb4 : Below W8.heap.size W8 W4 := by rw [← hW4]; exact hb3.alloc hb3.size _
             (try rw [hW4])
             clear hW4 hb3 hb
             generalize w9.heap.size = gq
             (try clear w9))
          | (have hb3 : Below W8.heap.size W8 w9 := (HBA.out.drew).trans (hb.mono (HBA.out.drew).size)
             have hb4 : Below W8.heap.size W8 W4 := by rw [← hW4]; exact ((((hb3.setCell (p := ⟨W8.heap.size, 0, none⟩) (Nat.le_refl _) _).setCell (p := ⟨W8.heap.size, 1, none⟩) (Nat.le_refl _) _).setCell (p := ⟨W8.heap.size, 2, none⟩) (Nat.le_refl _) _).setCell (p := ⟨W8.heap.size, 3, none⟩) (Nat.le_refl _) _)
             (try rw [hW4])
             obtain ⟨gq, hgqe⟩ : ∃ gq, W8.heap.size = gq := ⟨_, rfl⟩
             clear hW4 hb3 hb
             (try clear z0 z1 z2 z3 f0 f1 f2 f3)
             (try rw [hgqe])
             clear hgqe)
          have HL4 := Lib.hid hb4
          clear hb4
          revert HL4
          revert gq
          revert W4
          exact key
      intro W4 gq HL4
      clear pa0 pa1 pa2 pa3 ha0 ha1 d0 d1 d2 d3 x0 x1c HBA HBZ
      obtain ⟨v0, v1⟩ := two_cells (HVB.out.next HL4.out)
      rw [← HGV.out] at v0 v1
      have HT4 := Lib.hid (HT7.out.next HL4.out)
      have HB4 := Lib.hid (HW7.out.trans (HL4.out.mono HW7.out.size))
      have hkf : (k = 0 ∧ fr = 0) ∨ (k ≠ 0 ∧ fr = 7) := by
        rcases HCASE.out with ⟨h1, h2⟩ | ⟨h1, h2⟩ <;> rcases HOR.out with ⟨h3, h4⟩ | ⟨h3, h4⟩
        · exact .inl ⟨h1, h3⟩
        · rw [h2] at h4; cases h4
        · exact absurd h2 h4
        · exact .inr ⟨h1, h3⟩
      rcases hkf with ⟨rfl, rfl⟩ | ⟨hk, rfl⟩
      · go_wp2_with fail
        refine (live18_any _ HT4.out).mono ?_
        rintro e w10 ⟨rfl, hb⟩
        have HB10 := Lib.hid (HB4.out.trans (hb.mono HB4.out.size))
        clear hb
        go_wp2_with fail
        go_ret
        exact ⟨rfl, HB10.out⟩
      · have kk : (k == 0) = false := by rw [beq_eq_false_iff_ne]; exact hk
        clear hk
        go_wp2_with fail
        refine (live18_any _ HT4.out).mono ?_
        rintro e w10 ⟨rfl, hb⟩
        have HB10 := Lib.hid (HB4.out.trans (hb.mono HB4.out.size))
        clear hb
        go_wp2_with fail
        go_ret
        exact ⟨rfl, HB10.out⟩
    · have hfr := HE1.out hk
      subst hfr
      have kn : (kv != 0) = true := by rw [bne_iff_ne]; exact hk
      have kn2 : (kv == 0) = false := by rw [beq_eq_false_iff_ne]; exact hk
      clear HE1 HE2 hk
      go_wp2_with fail
      (try rw [HW8.out])
      refine (live18_any _ HT7.out).mono ?_
      rintro e w9 ⟨rfl, hb⟩
      have HB9 := Lib.hid (HW7.out.trans (hb.mono HW7.out.size))
      clear hb
      go_wp2_with fail
      go_ret
      exact ⟨rfl, HB9.out⟩
  · obtain ⟨rfl, rfl, hl0⟩ := HNO.out he
    have en : (er != 0) = true := by rw [bne_iff_ne]; exact he
    have hl0' : ((ls.length : Int) == 0) = true := by rw [hl0]; rfl
    obtain ⟨v0, v1⟩ := two_cells HBV.out
    rw [← HW2.out, ← HGV.out] at v0 v1
    clear he HNO HEND hl0
    go_wp2_with fail
    (try rw [HW2.out])
    refine (live18_any _ HT2.out).mono ?_
    rintro e w9 ⟨rfl, hb⟩
    have HB9 := Lib.hid (HB2.out.trans (hb.mono HB2.out.size))
    clear hb
    go_wp2_with fail
    go_ret
    exact ⟨rfl, HB9.out⟩
theorem walk (p : Ps) (C : Option Addr) (l : List (Int × Int)) (d : Nat) (x1 x2 : Int) (w : World) (hT : Tab w) (hm : Rd w C (mzL l)) (hd : l.length ≤ d) : Calls Tryz.prog 5 #[.agg #[.string p.s, .int .i64 p.y, .int .i64 p.z, .int .i64 p.u], .slice C l.length d, .agg #[.int .i64 x1, .int .i64 x2]] w (Gives w (.bool true)) := by
  by_cases h1 : p.s.size ≤ 200
  · by_cases h2 : l.length ≤ 20
    · exact small p C l _ d x1 x2 w hT hm rfl hd h1 h2
    · exact large p C _ d x1 x2 w hT (.inr (by omega))
  · exact large p C _ d x1 x2 w hT (.inl (by omega))
end Go.Proofs.YtiiipchfclmbcaaGreatDoor.jends
