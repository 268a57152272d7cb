/- Of a game that goes on each beginning goes on, too: the call answers true. -/
import Derived.Test.YtiiipchfclmbcaaGreatDoorJudgeS
import Derived.Deep.RegionHeld
namespace Go.Proofs.YtiiipchfclmbcaaGreatDoor.jahead
open Go.RowKit Go.Shelf
open M (S)

theorem psL_prefix (l : List Ps) (k j : Nat) (u : Value) (h : (psL (l.take k))[j]? = some u) : (psL l)[j]? = some u := by
  have hl := (List.getElem?_eq_some_iff.1 h).1
  have e : psL l = psL (l.take k) ++ psL (l.drop k) := by
    conv => lhs; rw [← List.take_append_drop k l]
    unfold psL
    rw [List.flatMap_append]
  rw [e, List.getElem?_append_left hl]
  exact h
theorem rd_prefix {w : World} {A : Option Addr} {l : List Ps} (h : Rd w A (psL l)) (k : Nat) : Rd w A (psL (l.take k)) := fun j u hu => h j u (psL_prefix l k j u hu)
theorem rd_set2 {W : World} {A : Option Addr} {xs : List Value} {p : Addr} {v : Value} (h : Rd W A xs) (hv : W.cell? p = some v) : Rd (W.setCell p v) A xs := fun j u hu => by
  obtain ⟨ad, hA, hc⟩ := h j u hu
  refine ⟨ad, hA, ?_⟩
  by_cases e : p = ad.add j
  · rw [← e] at hc ⊢
    rw [World.cell?_setCell_same _ _ _ hv]
    rw [hv] at hc
    exact hc
  · rw [World.cell?_setCell_other _ _ _ _ e]
    exact hc
theorem cell_set2 {W : World} {g : Nat} {v u : Value} (h : W.cell? ⟨g, 1, none⟩ = some u) : (W.setCell ⟨g, 0, none⟩ v).cell? ⟨g, 1, none⟩ = some u := by
  rw [World.cell?_setCell_other _ _ _ _ (by simp)]
  exact h
/-- What the rest of the walk needs. -/
structure LA (w W : World) (gq n : Nat) (A1 A3 : Option Addr) (ls : List Ps) : Prop where
  b : Below w.heap.size w W
  t : Tab W
  q : Blk W gq 27 #[.int .i64 0, .int .i64 0]
  r1 : Rd W A1 (psL ls)
  r3 : Rd W A3 (psL (ls.take (n + 1)))
theorem LA.next {w W W' : World} {gq n : Nat} {A1 A3 : Option Addr} {ls : List Ps} (h : LA w W gq n A1 A3 ls) (hb : Below W.heap.size W W') : LA w W' gq n A1 A3 ls := ⟨h.b.trans (hb.mono h.b.size), h.t.next hb, h.q.next hb, h.r1.next hb, h.r3.next hb⟩
theorem la_s {w W : World} {gq n : Nat} {A1 A3 : Option Addr} {ls : List Ps} (h : LA w W gq n A1 A3 ls) : W.cell? ⟨gq, 0, none⟩ = some (.int .i64 0) ∧ W.cell? ⟨gq, 1, none⟩ = some (.int .i64 0) ∧ LA w W gq n A1 A3 ls := ⟨h.q.cell 0, h.q.cell 1, h⟩
theorem la_k {w W W' : World} {gq n : Nat} {A1 A3 : Option Addr} {ls : List Ps} (h : W.cell? ⟨gq, 0, none⟩ = some (.int .i64 0) ∧ W.cell? ⟨gq, 1, none⟩ = some (.int .i64 0) ∧ LA w W gq n A1 A3 ls) (hb : Below W.heap.size W W') : W'.cell? ⟨gq, 0, none⟩ = some (.int .i64 0) ∧ W'.cell? ⟨gq, 1, none⟩ = some (.int .i64 0) ∧ LA w W' gq n A1 A3 ls := la_s (h.2.2.next hb)
theorem la_e {w W : World} {gq n : Nat} {A1 A3 : Option Addr} {ls : List Ps} (h : W.cell? ⟨gq, 0, none⟩ = some (.int .i64 0) ∧ W.cell? ⟨gq, 1, none⟩ = some (.int .i64 0) ∧ LA w W gq n A1 A3 ls) : LA w W gq n A1 A3 ls := h.2.2
theorem la_same {w W : World} {gq n : Nat} {A1 A3 : Option Addr} {ls : List Ps} (c1 c3 : Nat) (hn : n + 1 ≤ 1000) (hl : n + 1 ≤ ls.length) (h : W.cell? ⟨gq, 0, none⟩ = some (.int .i64 0) ∧ W.cell? ⟨gq, 1, none⟩ = some (.int .i64 0) ∧ LA w W gq n A1 A3 ls) : Calls Tryz.prog 16 #[.slice A1 (n + 1) c1, .slice A3 (n + 1) c3] W (Gives W (.bool true)) := rsame_is A1 A3 (ls.take (n + 1)) (n + 1) c1 c3 W (rd_prefix h.2.2.r1 _) h.2.2.r3 (by rw [List.length_take]; omega) (by omega)
theorem la_live {w W : World} {gq n : Nat} {A1 A3 : Option Addr} {ls : List Ps} (h : W.cell? ⟨gq, 0, none⟩ = some (.int .i64 0) ∧ W.cell? ⟨gq, 1, none⟩ = some (.int .i64 0) ∧ LA w W gq n A1 A3 ls) : Calls Tryz.prog 13 #[] W (Gives W (.bool true)) := live18_any W h.2.2.t
set_option maxRecDepth 100000 in
set_option maxHeartbeats 4000000 in
theorem large (p : Ps) (C : Option Addr) (a d : Nat) (x : Int) (w : World) (hT : Tab w) (h : 200 < p.s.size ∨ 20 < a ∨ x < 0 ∨ (a : Int) ≤ x) : Calls Tryz.prog 7 #[.agg #[.string p.s, .int .i64 p.y, .int .i64 p.z, .int .i64 p.u], .slice C a d, .int .i64 x] w (Gives w (.bool true)) := by
  unfold Gives
  obtain ⟨s, y, z, u⟩ := p
  obtain ⟨W0, hW0⟩ : ∃ W0, w.alloc (.cells #[.string s, .int .i64 y, .int .i64 z, .int .i64 u] 23) = W0 := ⟨_, rfl⟩
  have hB : Below w.heap.size w W0 := by rw [← hW0]; exact below_new _ _
  have bP : Blk W0 w.heap.size 23 #[.string s, .int .i64 y, .int .i64 z, .int .i64 u] := by rw [← hW0]; exact Blk.new _ _ _ rfl
  obtain ⟨p0, p1, p2, p3⟩ := four_cells bP
  replace hT := hT.below hB hT.lt
  have h : 200 < s.size ∨ 20 < a ∨ x < 0 ∨ (a : Int) ≤ x := h
  have h : ((200 : Int) < (s.size : Int)) ∨ (¬ ((200 : Int) < (s.size : Int)) ∧ (20 : Int) < (a : Int)) ∨ (¬ ((200 : Int) < (s.size : Int)) ∧ ¬ (20 : Int) < (a : Int) ∧ x < 0) ∨ (¬ ((200 : Int) < (s.size : Int)) ∧ ¬ (20 : Int) < (a : Int) ∧ ¬ x < 0 ∧ (a : Int) ≤ x) := by omega
  rcases h with hd | ⟨hd, hd2⟩ | ⟨hd, hd2, hd3⟩ | ⟨hd, hd2, hd3, hd4⟩
  all_goals
    go_enter Tryz.func7, Tryz.ntmps7
    go_wp2_with fail
    (try rw [hW0])
    refine (live18_any _ hT).mono ?_
    rintro e w9 ⟨rfl, hb⟩
    go_wp2
    go_ret
    exact ⟨rfl, hB.trans (hb.mono hB.size)⟩
set_option maxRecDepth 100000 in
set_option maxHeartbeats 20000000 in
theorem small (p : Ps) (C : Option Addr) (l : List (Int × Int)) (a d n : Nat) (w : World) (hT : Tab w) (hm : Rd w C (mzL l)) (ha : l.length = a) (had : a ≤ d) (h1 : p.s.size ≤ 200) (h2 : a ≤ 20) (hn : n < a) : Calls Tryz.prog 7 #[.agg #[.string p.s, .int .i64 p.y, .int .i64 p.z, .int .i64 p.u], .slice C a d, .int .i64 n] w (Gives w (.bool true)) := by
  unfold Gives
  have hj : ∀ W (_ : Tab W) (_ : Rd W C (mzL l)), Calls Tryz.prog 14 #[.agg #[.string p.s, .int .i64 p.y, .int .i64 p.z, .int .i64 p.u], .slice C a d] W (fun e w' => ∃ A c, e = .returned (.tuple #[.agg #[.int .i64 (playV p l).1, .int .i64 (playV p l).2], .slice A (playL p l).length c, .int .i64 (playE p l)]) ∧ Rd w' A (psL (playL p l)) ∧ (playL p l).length ≤ c ∧ Below W.heap.size W w') := fun W hTW hr => jplay_any p C l a d W hTW hr ha had
  have hj2 : ∀ W (_ : Tab W) (_ : Rd W C (mzL l)), Calls Tryz.prog 14 #[.agg #[.string p.s, .int .i64 p.y, .int .i64 p.z, .int .i64 p.u], .slice C n d] W (fun e w' => ∃ A c, e = .returned (.tuple #[.agg #[.int .i64 (playV p (l.take n)).1, .int .i64 (playV p (l.take n)).2], .slice A (playL p (l.take n)).length c, .int .i64 (playE p (l.take n))]) ∧ Rd w' A (psL (playL p (l.take n))) ∧ (playL p (l.take n)).length ≤ c ∧ Below W.heap.size W w') := fun W hTW hr => jplay_any p C (l.take n) n d W hTW (rd_take hr n) (by rw [List.length_take]; omega) (by omega)
  have hah := fun h => play_ahead (p := p) (l := l) (n := n) h (by rw [ha]; exact hn)
  obtain ⟨kv, hV1⟩ : ∃ x, (playV p l).1 = x := ⟨_, rfl⟩
  obtain ⟨rv, hV2⟩ : ∃ x, (playV p l).2 = x := ⟨_, rfl⟩
  obtain ⟨ls, hL⟩ : ∃ x, playL p l = x := ⟨_, rfl⟩
  obtain ⟨er, hE⟩ : ∃ x, playE p l = x := ⟨_, rfl⟩
  rw [hV1, hV2, hL, hE] at hj
  rw [hL, hE] at hah
  have HJ := Lib.hid hj
  have HJ2 := Lib.hid hj2
  have HAH := Lib.hid hah
  have HA := Lib.hid ha
  obtain ⟨s, y, z, u⟩ := p
  have hd : ¬ (200 : Int) < (s.size : Int) := by have : s.size ≤ 200 := h1; omega
  have hd2 : ¬ (20 : Int) < (a : Int) := by omega
  have hd3 : ¬ (n : Int) < 0 := by omega
  have hd4 : ¬ (a : Int) ≤ (n : Int) := by omega
  obtain ⟨W0, hW0⟩ : ∃ W0, w.alloc (.cells #[.string s, .int .i64 y, .int .i64 z, .int .i64 u] 23) = W0 := ⟨_, rfl⟩
  have hB : Below w.heap.size w W0 := by rw [← hW0]; exact below_new _ _
  have bP : Blk W0 w.heap.size 23 #[.string s, .int .i64 y, .int .i64 z, .int .i64 u] := by rw [← hW0]; exact Blk.new _ _ _ rfl
  replace hT := hT.below hB hT.lt
  have HMM := Lib.hid (hm.next hB)
  have HP := Lib.hid bP
  have HB := Lib.hid hB
  have HW := Lib.hid hW0
  have HT := Lib.hid hT
  obtain ⟨p0, p1, p2, p3⟩ := four_cells bP
  clear hV1 hV2 hL hE hj hj2 hah ha h1 h2 hm hB hW0 hT bP
  go_enter Tryz.func7, Tryz.ntmps7
  go_wp2_with fail
  (try rw [HW.out])
  refine (HJ.out _ HT.out HMM.out).mono ?_
  rintro e w1 ⟨A1, c1, rfl, hr1, hc1, hb1⟩
  have HB1 := Lib.hid (HB.out.trans (hb1.mono HB.out.size))
  have HT1 := Lib.hid (HT.out.next hb1)
  have HM1 := Lib.hid (HMM.out.next hb1)
  have HP1 := Lib.hid (HP.out.next hb1)
  have HR1 := Lib.hid hr1
  have HC1 := Lib.hid hc1
  clear hr1 hc1 hb1 p0 p1 p2 p3
  by_cases he : er = 0
  · subst he
    obtain ⟨f1, f2, f3, f4⟩ := HAH.out rfl
    have hj3 := HJ2.out
    rw [f1, f2, f3, List.length_take, Nat.min_eq_left (show n + 1 ≤ ls.length by have := HA.out; omega)] at hj3
    have HJ3 := Lib.hid hj3
    have hll : n + 1 ≤ ls.length := by have := HA.out; omega
    have HLL := Lib.hid f4
    obtain ⟨W2, hW2⟩ : ∃ W2, w1.alloc (.cells #[.int .i64 kv, .int .i64 rv] 27) = W2 := ⟨_, rfl⟩
    have hb2 : Below w1.heap.size w1 W2 := by rw [← hW2]; exact below_new _ _
    have HB2 := Lib.hid (HB1.out.trans (hb2.mono HB1.out.size))
    have HT2 := Lib.hid (HT1.out.next hb2)
    have HM2 := Lib.hid (HM1.out.next hb2)
    have HP2 := Lib.hid (HP1.out.next hb2)
    have HR2 := Lib.hid (HR1.out.next hb2)
    have HW2 := Lib.hid hW2
    obtain ⟨p0, p1, p2, p3⟩ := four_cells HP1.out
    clear f1 f2 f3 hj3 hb2 hW2 HJ2 f4
    have nd : (n : Int) ≤ (d : Int) := by omega
    go_wp2_with fail
    (try rw [HW2.out])
    clear p0 p1 p2 p3
    obtain ⟨p0, p1, p2, p3⟩ := four_cells HP2.out
    have hba : Below W2.heap.size W2 (W2.alloc (.cells #[.int .i64 0, .int .i64 0] 27)) := below_new _ _
    have HBZ : Hid (Blk (W2.alloc (.cells #[.int .i64 0, .int .i64 0] 27)).drew W2.heap.size 27 #[.int .i64 0, .int .i64 0]) := (Blk.new W2 27 #[.int .i64 0, .int .i64 0] rfl).next (Below.refl _ _).drew
    have HBA := Lib.hid hba
    have hal : ∀ (o : Obj) (pl : Addr) (x : Value), W2.cell? pl = some x → (W2.alloc o).cell? pl = some x := fun o pl x h => (((Below.refl W2.heap.size W2).alloc (Nat.le_refl _) o).cell (cell_lt h)).trans h
    have pa0 := fun o => hal o _ _ p0
    have pa1 := fun o => hal o _ _ p1
    have pa2 := fun o => hal o _ _ p2
    have pa3 := fun o => hal o _ _ p3
    clear hba hal
    apply cut_
    · intro key
      go_region_with ((go_at_call 14; first
        | (refine (HJ3.out W2.drew (HT2.out.next (Below.refl _ _).drew) (HM2.out.next (Below.refl _ _).drew)).mono ?_; rintro e w3 ⟨A3, c3, rfl, hr3, hc3, hb⟩)
        | (refine (HJ3.out (W2.alloc (.cells #[.int .i64 0, .int .i64 0] 27)).drew (HT2.out.next HBA.out.drew) (HM2.out.next HBA.out.drew)).mono ?_; rintro e w3 ⟨A3, c3, rfl, hr3, hc3, hb⟩; obtain ⟨z0, z1⟩ := two_cells (HBZ.out.next hb); have f0 := (HBZ.out.next hb).frozen 0; have f1 := (HBZ.out.next hb).frozen 1; obtain ⟨W4, hW4⟩ : ∃ x, ((w3.setCell ⟨W2.heap.size, 0, none⟩ (.int .i64 0)).setCell ⟨W2.heap.size, 1, none⟩ (.int .i64 0)) = x := ⟨_, rfl⟩)))
      all_goals
        first
        | (have hb3 : Below W2.heap.size W2 w3 := ((Below.refl W2.heap.size W2).drew).trans hb
           obtain ⟨W4, hW4⟩ : ∃ x, w3.alloc (.cells #[.int .i64 0, .int .i64 0] 27) = x := ⟨_, rfl⟩
           rw [hW4]
           have hb4 : Below W2.heap.size W2 W4 := by rw [← hW4]; exact hb3.alloc hb3.size _
           have bQ : Blk W4 w3.heap.size 27 #[.int .i64 0, .int .i64 0] := by rw [← hW4]; exact Blk.new _ _ _ rfl
           have hr4 : Rd W4 A3 (psL (ls.take (n + 1))) := by rw [← hW4]; exact hr3.next (below_new _ _)
           clear hW4 hb3 hb
           generalize w3.heap.size = gq at bQ ⊢)
        | (have hb3 : Below W2.heap.size W2 w3 := (HBA.out.drew).trans (hb.mono (HBA.out.drew).size)
           have bz := HBZ.out.next hb
           have hb4 : Below W2.heap.size W2 W4 := by rw [← hW4]; exact (hb3.setCell (p := ⟨W2.heap.size, 0, none⟩) (Nat.le_refl _) _).setCell (p := ⟨W2.heap.size, 1, none⟩) (Nat.le_refl _) _
           have bQ : Blk W4 W2.heap.size 27 #[.int .i64 0, .int .i64 0] := by rw [← hW4]; exact (bz.set_ 0 (.int .i64 0)).set_ 1 (.int .i64 0)
           have hr4 : Rd W4 A3 (psL (ls.take (n + 1))) := by rw [← hW4]; exact rd_set2 (rd_set2 hr3 z0) (cell_set2 z1)
           obtain ⟨gq, hgqe⟩ : ∃ gq, W2.heap.size = gq := ⟨_, rfl⟩
           clear hW4 hb3 hb bz
           (try clear z0 z1 f0 f1)
           rw [hgqe] at bQ ⊢
           clear hgqe)
        have HL4 : Hid (LA w W4 gq n A1 A3 ls) := ⟨HB2.out.trans (hb4.mono HB2.out.size), HT2.out.next hb4, bQ, HR2.out.next hb4, hr4⟩
        clear hb4 bQ hr4 hr3
        revert HL4
        revert gq
        revert W4
        revert hc3
        revert c3
        revert A3
        exact key
    intro A3 c3 hc3 W4 gq HL4
    clear pa0 pa1 pa2 pa3 p0 p1 p2 p3 HBA HBZ HP2 HR2 HM2
    obtain ⟨q0, q1, _⟩ := la_s HL4.out
    have w1n : IntKind.i64.wrap ((n : Int) + 1) = ((n + 1 : Nat) : Int) := by rw [IntWalk.i64_in _ (by omega)]; rfl
    have nl : (n : Int) < (ls.length : Int) := by omega
    have nl2 : ((n + 1 : Nat) : Int) ≤ (c1 : Int) := by have := HC1.out; omega
    have nn : (((n + 1 : Nat) : Int) == ((n + 1 : Nat) : Int)) = true := by simp
    go_wp2_with fail
    refine (la_same c1 c3 (by omega) hll (la_s HL4.out)).mono ?_
    rintro e w5 ⟨rfl, hb⟩
    have HL5 := Lib.hid (HL4.out.next hb)
    clear hb q0 q1
    go_wp2_with fail
    refine (live18_any _ HL5.out.t).mono ?_
    rintro e w6 ⟨rfl, hb⟩
    have HL6 := Lib.hid (HL5.out.next hb)
    clear hb
    go_wp2_with fail
    go_ret
    exact ⟨rfl, HL6.out.b⟩
  · have en : (er != 0) = true := by rw [bne_iff_ne]; exact he
    clear he
    have HN := Lib.hid (below_new w1 (.cells #[.int .i64 kv, .int .i64 rv] 27))
    go_wp2_with fail
    refine (live18_any _ (HT1.out.next HN.out)).mono ?_
    rintro e w9 ⟨rfl, hb⟩
    have HB9 := Lib.hid ((HB1.out.trans (HN.out.mono HB1.out.size)).trans (hb.mono (Nat.le_trans HB1.out.size HN.out.size)))
    clear hb
    go_wp2
    go_ret
    exact ⟨rfl, HB9.out⟩
theorem walk (p : Ps) (C : Option Addr) (l : List (Int × Int)) (d : Nat) (x : Int) (w : World) (hT : Tab w) (hm : Rd w C (mzL l)) (hd : l.length ≤ d) : Calls Tryz.prog 7 #[.agg #[.string p.s, .int .i64 p.y, .int .i64 p.z, .int .i64 p.u], .slice C l.length d, .int .i64 x] w (Gives w (.bool true)) := by
  by_cases h1 : p.s.size ≤ 200
  · by_cases h2 : l.length ≤ 20
    · by_cases h3 : 0 ≤ x
      · by_cases h4 : x < (l.length : Int)
        · obtain ⟨n, rfl⟩ : ∃ n : Nat, x = n := ⟨x.toNat, by omega⟩
          exact small p C l _ d n w hT hm rfl hd h1 h2 (by omega)
        · exact large p C _ d x w hT (.inr (.inr (.inr (by omega))))
      · exact large p C _ d x w hT (.inr (.inr (.inl (by omega))))
    · exact large p C _ d x w hT (.inr (.inl (by omega)))
  · exact large p C _ d x w hT (.inl (by omega))
end Go.Proofs.YtiiipchfclmbcaaGreatDoor.jahead
