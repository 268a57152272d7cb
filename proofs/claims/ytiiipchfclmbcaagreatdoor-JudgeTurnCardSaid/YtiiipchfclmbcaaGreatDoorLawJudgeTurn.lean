/- Seen from the other side the other one loses, for the same: the call answers true. -/
import Derived.Test.YtiiipchfclmbcaaGreatDoorJudgeS
import Derived.Test.YtiiipchfclmbcaaGreatDoorRefP5
import Derived.Test.YtiiipchfclmbcaaGreatDoorCycleR
import Derived.Deep.AppendLies
import Derived.Deep.RegionLaw
namespace Go.Proofs.YtiiipchfclmbcaaGreatDoor.jturn
open Go.RowKit Go.Shelf
open M (S)

def turnU (p : Ps) : Ps := ⟨turnB p.s, IntKind.i64.wrap (1 - p.y), p.z, p.u⟩
/-- A game seen from the other side. -/
theorem play_turn {p : Ps} {l : List (Int × Int)} (h : playE p l = 0) : playE (turnU p) (l.map turnI) = 0 ∧ playV (turnU p) (l.map turnI) = swapV (playV p l) ∧ (playL (turnU p) (l.map turnI)).length = (playL p l).length ∧ earlierI (playL (turnU p) (l.map turnI)) = earlierI (playL p l) ∧ (∀ x ∈ l, 0 ≤ x.1 ∧ x.1 < 90 ∧ 0 ≤ x.2 ∧ x.2 < 90) ∧ (playL p l).length = l.length + 1 := by
  obtain ⟨hw, h9, hr⟩ := playE_zero h
  have hc := run_chain (p := p) (ms := l) (j := l.length) (Nat.le_refl _) hr
  rw [List.take_length] at hc
  have hs := Ps.side hw
  obtain ⟨_, _, u1, u2⟩ := well_nums hw
  have hT : TurnP p (turnU p) := turnP_of hw rfl (IntWalk.i64_in _ (by omega)) rfl u1 u2
  obtain ⟨h1, h2⟩ := run_turn hT l l.length (Nat.le_refl _)
  have hp := h2 hr
  have hE : playE (turnU p) (l.map turnI) = 0 := by
    rw [playE_run hT.wb (by rw [List.length_map]; exact h9), List.length_map, h1, hr]
  have hL1 : playL p l = (runJ p l l.length).2 := by unfold playL; rw [if_pos h]
  have hL2 : playL (turnU p) (l.map turnI) = (runJ (turnU p) (l.map turnI) l.length).2 := by unfold playL; rw [if_pos hE, List.length_map]
  refine ⟨hE, ?_, ?_, ?_, ?_, ?_⟩
  · unfold playV
    rw [if_pos hE, if_pos h, List.length_map]
    exact last_turn hp l
  · rw [hL1, hL2]
    exact hp.len.symm
  · rw [hL1, hL2]
    exact (earlier_pair same_turn hp).symm
  · intro x hx
    exact hc.sq x hx
  · rw [hL1]
    exact hc.len
theorem play_range (p : Ps) (l : List (Int × Int)) : playV p l = (0, 0) ∨ (playV p l).1 = 1 ∨ (playV p l).1 = 2 ∨ (playV p l).1 = 3 := by
  unfold playV
  split
  · exact lastI_range _ _
  · exact .inl rfl
/-- Both verdicts' numbers. -/
theorem swap_nums {v : Int × Int} (h : v = (0, 0) ∨ v.1 = 1 ∨ v.1 = 2 ∨ v.1 = 3) : (swapV v).2 = v.2 ∧ ((v.1 ≤ 1 ∧ (swapV v).1 = v.1) ∨ (1 < v.1 ∧ v.1 + (swapV v).1 = 5)) := by
  refine ⟨rfl, ?_⟩
  unfold swapV
  show (v.1 ≤ 1 ∧ (if v.1 = 2 then (3 : Int) else if v.1 = 3 then 2 else v.1) = v.1) ∨ (1 < v.1 ∧ v.1 + (if v.1 = 2 then (3 : Int) else if v.1 = 3 then 2 else v.1) = 5)
  rcases h with h | h | h | h
  · rw [h]
    exact .inl ⟨by decide, by decide⟩
  · rw [h]
    exact .inl ⟨by decide, by decide⟩
  · rw [h]
    exact .inr ⟨by decide, by decide⟩
  · rw [h]
    exact .inr ⟨by decide, by decide⟩
set_option maxRecDepth 100000 in
set_option maxHeartbeats 4000000 in
theorem large (p : Ps) (C : Option Addr) (a d : Nat) (w : World) (hT : Tab w) (h : 200 < p.s.size ∨ 20 < a) : Calls Tryz.prog 6 #[.agg #[.string p.s, .int .i64 p.y, .int .i64 p.z, .int .i64 p.u], .slice C a d] w (Gives w (.bool true)) := by
  unfold Gives
  obtain ⟨s, y, z, u⟩ := p
  obtain ⟨W0, hW0⟩ : ∃ W0, w.alloc (.cells #[.string s, .int .i64 y, .int .i64 z, .int .i64 u] 23) = W0 := ⟨_, rfl⟩
  have hB : Below w.heap.size w W0 := by rw [← hW0]; exact below_new _ _
  have bP : Blk W0 w.heap.size 23 #[.string s, .int .i64 y, .int .i64 z, .int .i64 u] := by rw [← hW0]; exact Blk.new _ _ _ rfl
  obtain ⟨p0, p1, p2, p3⟩ := four_cells bP
  replace hT := hT.below hB hT.lt
  have h : 200 < s.size ∨ 20 < a := h
  have h : ((200 : Int) < (s.size : Int)) ∨ (¬ ((200 : Int) < (s.size : Int)) ∧ (20 : Int) < (a : Int)) := by omega
  rcases h with hd | ⟨hd, hd2⟩
  all_goals
    go_enter Tryz.func6, Tryz.ntmps6
    go_wp2_with fail
    (try rw [hW0])
    refine (live18_any _ hT).mono ?_
    rintro e w9 ⟨rfl, hb⟩
    go_wp2
    go_ret
    exact ⟨rfl, hB.trans (hb.mono hB.size)⟩
theorem ear_is (A : Option Addr) (l : List Ps) (n c : Nat) (v : Int) (w : World) (hr : Rd w A (psL l)) (hn : l.length = n) (hl : n ≤ 1000000) (hv : earlierI l = v) : Calls Tryz.prog 21 #[.slice A n c] w (Gives w (.int .i64 v)) := by
  subst hv
  exact rearlier_any A l n c w hr hn hl
set_option maxRecDepth 100000 in
set_option maxHeartbeats 1000000 in
theorem rturnW (s t : ByteArray) (side clock full : Int) (w : World) (o : Int) (i1 : IntKind.i64.wrap (1 - side) = o) (Ht : Hid (turnB s = t)) : Calls Tryz.prog 20 #[.agg #[.string s, .int .i64 side, .int .i64 clock, .int .i64 full]] w (Gives w (.agg #[.string t, .int .i64 o, .int .i64 clock, .int .i64 full])) := by
  unfold Gives
  go_enter Tryz.func20, Tryz.ntmps20
  go_wp2_with fail
  obtain ⟨W0, hW0⟩ : ∃ W0, (w.alloc (.cells #[.string s, .int .i64 side, .int .i64 clock, .int .i64 full] 23)).alloc (.cells #[.string ⟨#[]⟩, .int .i64 0, .int .i64 0, .int .i64 0] 23) = W0 := ⟨_, rfl⟩
  have hB : Below w.heap.size w W0 := by rw [← hW0]; exact (by repeat (first | exact Below.refl _ _ | (refine Below.setCell ?_ (by first | omega | (simp; done) | (simp; omega) | (simp at *; omega)) _) | (refine Below.alloc ?_ (by first | omega | (simp; done) | (simp; omega) | (simp at *; omega)) _) | refine Below.drew ?_ | (refine below_drewN ?_ _) | (refine Below.trans ?_ (Below.mono (by assumption) (by first | omega | (simp; done) | (simp; omega) | (simp at *; omega))))))
  have bP : Blk W0 w.heap.size 23 #[.string s, .int .i64 side, .int .i64 clock, .int .i64 full] := by rw [← hW0]; exact (Blk.new _ _ _ rfl).alloc _
  have bQ : Blk W0 (w.heap.size + 1) 23 #[.string ⟨#[]⟩, .int .i64 0, .int .i64 0, .int .i64 0] := by rw [← hW0]; exact Blk.new _ _ _ (by simp)
  rw [hW0]
  have hS : W0.drew.cell? ⟨w.heap.size, 0, none⟩ = some (.string s) ∧ W0.drew.cell? ⟨w.heap.size, 1, none⟩ = some (.int .i64 side) ∧ W0.drew.cell? ⟨w.heap.size, 2, none⟩ = some (.int .i64 clock) ∧ W0.drew.cell? ⟨w.heap.size, 3, none⟩ = some (.int .i64 full) ∧ W0.drew.cell? ⟨w.heap.size + 1, 0, none⟩ = some (cellOf W0.drew ⟨w.heap.size + 1, 0, none⟩) ∧ W0.drew.cell? ⟨w.heap.size + 1, 1, none⟩ = some (cellOf W0.drew ⟨w.heap.size + 1, 1, none⟩) ∧ W0.drew.cell? ⟨w.heap.size + 1, 2, none⟩ = some (cellOf W0.drew ⟨w.heap.size + 1, 2, none⟩) ∧ W0.drew.cell? ⟨w.heap.size + 1, 3, none⟩ = some (cellOf W0.drew ⟨w.heap.size + 1, 3, none⟩) ∧ W0.drew.frozen? ⟨w.heap.size + 1, 0, none⟩ = false ∧ W0.drew.frozen? ⟨w.heap.size + 1, 1, none⟩ = false ∧ W0.drew.frozen? ⟨w.heap.size + 1, 2, none⟩ = false ∧ W0.drew.frozen? ⟨w.heap.size + 1, 3, none⟩ = false ∧ Below w.heap.size w W0.drew := ⟨bP.cell 0, bP.cell 1, bP.cell 2, bP.cell 3, cellOf_some (isSome_of (bQ.cell 0)), cellOf_some (isSome_of (bQ.cell 1)), cellOf_some (isSome_of (bQ.cell 2)), cellOf_some (isSome_of (bQ.cell 3)), bQ.frozen 0, bQ.frozen 1, bQ.frozen 2, bQ.frozen 3, hB.drew⟩
  clear hW0 hB bP bQ
  go_region_held3 (fun W => W.cell? ⟨w.heap.size, 0, none⟩ = some (.string s) ∧ W.cell? ⟨w.heap.size, 1, none⟩ = some (.int .i64 side) ∧ W.cell? ⟨w.heap.size, 2, none⟩ = some (.int .i64 clock) ∧ W.cell? ⟨w.heap.size, 3, none⟩ = some (.int .i64 full) ∧ W.cell? ⟨w.heap.size + 1, 0, none⟩ = some (cellOf W ⟨w.heap.size + 1, 0, none⟩) ∧ W.cell? ⟨w.heap.size + 1, 1, none⟩ = some (cellOf W ⟨w.heap.size + 1, 1, none⟩) ∧ W.cell? ⟨w.heap.size + 1, 2, none⟩ = some (cellOf W ⟨w.heap.size + 1, 2, none⟩) ∧ W.cell? ⟨w.heap.size + 1, 3, none⟩ = some (cellOf W ⟨w.heap.size + 1, 3, none⟩) ∧ W.frozen? ⟨w.heap.size + 1, 0, none⟩ = false ∧ W.frozen? ⟨w.heap.size + 1, 1, none⟩ = false ∧ W.frozen? ⟨w.heap.size + 1, 2, none⟩ = false ∧ W.frozen? ⟨w.heap.size + 1, 3, none⟩ = false ∧ Below w.heap.size w W)
    (first | exact hS | exact tpos_keep (by assumption) hb | exact tpos_set (tpos_set (tpos_set (tpos_set (by assumption) _ _) _ _) _ _) _ _)
    ((go_at_call 50; refine (rturn_is s t _ Ht.out).mono ?_; rintro e w1 ⟨rfl, hb⟩))
  rename_i hH
  obtain ⟨_, _, _, _, q0, q1, q2, q3, _, _, _, _, hB⟩ := tpos_keep hS hb
  clear hH hS hb
  go_wp2
  exact bodyPost_ret (v := .agg #[.string t, .int .i64 o, .int .i64 clock, .int .i64 full]) (by simp [results, Tryz.results20, go_sem, q0, q1, q2, q3]) rfl ⟨rfl, (((hB.setCell (p := ⟨w.heap.size + 1, 0, none⟩) (by simp) _).setCell (p := ⟨w.heap.size + 1, 1, none⟩) (by simp) _).setCell (p := ⟨w.heap.size + 1, 2, none⟩) (by simp) _).setCell (p := ⟨w.heap.size + 1, 3, none⟩) (by simp) _⟩
set_option maxRecDepth 100000 in
set_option maxHeartbeats 20000000 in
theorem small (p : Ps) (C : Option Addr) (l : List (Int × Int)) (a d : Nat) (w : World) (hT : Tab w) (hm : Rd w C (mzL l)) (ha : l.length = a) (had : a ≤ d) (h1 : p.s.size ≤ 200) (h2 : a ≤ 20) : Calls Tryz.prog 6 #[.agg #[.string p.s, .int .i64 p.y, .int .i64 p.z, .int .i64 p.u], .slice C a d] w (Gives w (.bool true)) := by
  unfold Gives
  obtain ⟨i1, hj1, hy0, hy1, hy2⟩ := info_parts info_move
  have hj : ∀ W (_ : Tab W) (_ : Rd W C (mzL l)), Calls Tryz.prog 14 #[.agg #[.string p.s, .int .i64 p.y, .int .i64 p.z, .int .i64 p.u], .slice C a d] W (fun e w' => ∃ A c, e = .returned (.tuple #[.agg #[.int .i64 (playV p l).1, .int .i64 (playV p l).2], .slice A (playL p l).length c, .int .i64 (playE p l)]) ∧ Rd w' A (psL (playL p l)) ∧ (playL p l).length ≤ c ∧ Below W.heap.size W w') := fun W hTW hr => jplay_any p C l a d W hTW hr ha had
  have hj2 : ∀ W D e (_ : Tab W) (_ : Rd W D (mzL (l.map turnI))) (_ : a ≤ e), Calls Tryz.prog 14 #[.agg #[.string (turnU p).s, .int .i64 (turnU p).y, .int .i64 (turnU p).z, .int .i64 (turnU p).u], .slice D a e] W (fun e w' => ∃ A c, e = .returned (.tuple #[.agg #[.int .i64 (playV (turnU p) (l.map turnI)).1, .int .i64 (playV (turnU p) (l.map turnI)).2], .slice A (playL (turnU p) (l.map turnI)).length c, .int .i64 (playE (turnU p) (l.map turnI))]) ∧ Rd w' A (psL (playL (turnU p) (l.map turnI))) ∧ (playL (turnU p) (l.map turnI)).length ≤ c ∧ Below W.heap.size W w') := fun W D e hTW hr he => jplay_any (turnU p) D (l.map turnI) a e W hTW hr (by rw [List.length_map]; exact ha) he
  have hpt := fun h => play_turn (p := p) (l := l) h
  have hrange := play_range p l
  obtain ⟨kv, hV1⟩ : ∃ x, (playV p l).1 = x := ⟨_, rfl⟩
  obtain ⟨rv, hV2⟩ : ∃ x, (playV p l).2 = x := ⟨_, rfl⟩
  have hVV : playV p l = (kv, rv) := by rw [← hV1, ← hV2]
  obtain ⟨ls, hL⟩ : ∃ x, playL p l = x := ⟨_, rfl⟩
  obtain ⟨er, hE⟩ : ∃ x, playE p l = x := ⟨_, rfl⟩
  rw [hV1, hV2, hL, hE] at hj
  rw [hL, hE, hVV] at hpt
  rw [hVV] at hrange
  have HJ := Lib.hid hj
  have HJ2 := Lib.hid hj2
  have HPT := Lib.hid hpt
  have HRG := Lib.hid hrange
  have HA := Lib.hid ha
  obtain ⟨s, y, z, u⟩ := p
  have hd : ¬ (200 : Int) < (s.size : Int) := by have : s.size ≤ 200 := h1; omega
  have hd2 : ¬ (20 : Int) < (a : Int) := by omega
  obtain ⟨W0, hW0⟩ : ∃ W0, w.alloc (.cells #[.string s, .int .i64 y, .int .i64 z, .int .i64 u] 23) = W0 := ⟨_, rfl⟩
  have hB : Below w.heap.size w W0 := by rw [← hW0]; exact below_new _ _
  have bP : Blk W0 w.heap.size 23 #[.string s, .int .i64 y, .int .i64 z, .int .i64 u] := by rw [← hW0]; exact Blk.new _ _ _ rfl
  replace hT := hT.below hB hT.lt
  have HMM := Lib.hid (hm.next hB)
  have HP := Lib.hid bP
  have HB := Lib.hid hB
  have HW := Lib.hid hW0
  have HT := Lib.hid hT
  obtain ⟨p0, p1, p2, p3⟩ := four_cells bP
  clear hV1 hV2 hVV hL hE hj hj2 hpt hrange ha h1 h2 hm hB hW0 hT bP
  go_enter Tryz.func6, Tryz.ntmps6
  go_wp2_with fail
  (try rw [HW.out])
  refine (HJ.out _ HT.out HMM.out).mono ?_
  rintro e w1 ⟨A1, c1, rfl, hr1, hc1, hb1⟩
  have HB1 := Lib.hid (HB.out.trans (hb1.mono HB.out.size))
  have HT1 := Lib.hid (HT.out.next hb1)
  have HM1 := Lib.hid (HMM.out.next hb1)
  have HP1 := Lib.hid (HP.out.next hb1)
  have HR1 := Lib.hid hr1
  have HC1 := Lib.hid hc1
  clear hr1 hc1 hb1 p0 p1 p2 p3
  by_cases he : er = 0
  · subst he
    obtain ⟨f1, f2, f3, f4, f5, f6⟩ := HPT.out rfl
    have hj3 := HJ2.out
    rw [f1, f2, f3] at hj3
    have HJ3 := Lib.hid hj3
    have HEA := Lib.hid f4
    have HSQ := Lib.hid f5
    have HLL := Lib.hid f6
    have HKLL := Lib.hid f3
    obtain ⟨W2, hW2⟩ : ∃ W2, w1.alloc (.cells #[.int .i64 kv, .int .i64 rv] 27) = W2 := ⟨_, rfl⟩
    have hb2 : Below w1.heap.size w1 W2 := by rw [← hW2]; exact below_new _ _
    have bV : Blk W2 w1.heap.size 27 #[.int .i64 kv, .int .i64 rv] := by rw [← hW2]; exact Blk.new _ _ _ rfl
    obtain ⟨gv, hgv⟩ : ∃ gv, w1.heap.size = gv := ⟨_, rfl⟩
    rw [hgv] at bV
    have HGV := Lib.hid hgv
    have HBV := Lib.hid bV
    have HB2 := Lib.hid (HB1.out.trans (hb2.mono HB1.out.size))
    have HT2 := Lib.hid (HT1.out.next hb2)
    have HM2 := Lib.hid (HM1.out.next hb2)
    have HP2 := Lib.hid (HP1.out.next hb2)
    have HR2 := Lib.hid (HR1.out.next hb2)
    have HW2 := Lib.hid hW2
    clear f1 f2 f3 hj3 hb2 hW2 HJ2 f4 f5 f6 HPT hgv bV
    go_wp2_with fail
    (try rw [HW2.out])
    (try rw [HGV.out])
    go_loopw [8, 9] (fun vk i wr => ∃ k : Nat, k ≤ a ∧ i = .int .i64 (k : Int) ∧ wr.ownsRow W2.heap.size 37 2 vk k (mzL ((l.take k).map turnI)) ∧ Below W2.heap.size W2 wr) (fun _ i _ => a - (intOf i).toNat)
    case atStart => exact ⟨0, Nat.zero_le _, rfl, by rw [List.take_zero]; exact World.ownsRow_nil _ _ _ _, Below.refl _ _⟩
    case round =>
      obtain ⟨k, hk, rfl, hown, hBj⟩ := hrel
      by_cases hlt : k < a
      · have bk2 : (k : Int) < (a : Int) := by omega
        have hkl : k < l.length := by rw [HA.out]; exact hlt
        obtain ⟨g2, b2, rfl, m0, m1⟩ := (HM2.out.next hBj).mz hkl
        have hsq := HSQ.out _ (List.getElem_mem hkl)
        have hsnoc : ((l.take (k + 1)).map turnI) = ((l.take k).map turnI) ++ [turnI (l[k]'hkl)] := by
          rw [List.take_succ_eq_append_getElem hkl, List.map_append]; rfl
        obtain ⟨⟨x1, x2⟩, hq⟩ : ∃ q, l[k]'hkl = q := ⟨_, rfl⟩
        rw [hq] at m0 m1 hsnoc hsq
        obtain ⟨q1, q2, q3, q4⟩ : 0 ≤ x1 ∧ x1 < 90 ∧ 0 ≤ x2 ∧ x2 < 90 := hsq
        have wx1 : IntKind.i64.wrap (89 - x1) = 89 - x1 := IntWalk.i64_in _ (by omega)
        have wx2 : IntKind.i64.wrap (89 - x2) = 89 - x2 := IntWalk.i64_in _ (by omega)
        simp only at m0 m1
        have HSN := Lib.hid hsnoc
        have HOWN := Lib.hid hown
        clear hown hsnoc hq
        have HSZ : Hid (W2.heap.size ≤ wr.heap.size ∧ k ≤ 1000) := ⟨hBj.size, by omega⟩
        have bW : Below W2.heap.size W2 wr.drew := hBj.drew
        have HOWN := Lib.hid (own_next HOWN.out (Below.refl _ _).drew)
        have HL : Hid (k + 1 ≤ maxLen) := by show _ ≤ _; unfold maxLen; omega
        have HBY : Hid ((k + 1) * 16 ≤ 140737488355328) := by show _ ≤ _; omega
        have HONE : Hid (∀ u ∈ [iv (89 - x1), iv (89 - x2)], u.oneCell' = true) := by intro u hu; simp only [List.mem_cons, List.not_mem_nil, or_false] at hu; rcases hu with rfl | rfl <;> rfl
        have hnew := cells_two_new wr.drew (iv (89 - x1)) (iv (89 - x2)) 37
        have HNEW := Lib.hid hnew
        clear hnew
        obtain ⟨A4, c4, rfl, _, _⟩ := own_any HOWN.out
        have HBA : Hid (W2.heap.size ≤ (wr.drew.alloc (.cells #[iv (89 - x1), iv (89 - x2)] 37)).heap.size) := by show _ ≤ _; rw [World.size_alloc]; exact Nat.le_succ_of_le HSZ.out.1
        go_wp2_with fail
        go_region_law (refine step_append_lies _ rfl (.tmp 39) (.tmp 53) 24 rfl W2.heap.size 37 i1 _ 2 16 Tryz.underlying24 hj1 hy0 hy1 hy2 rfl (by decide) _ k (mzL ((l.take k).map turnI)) rfl (own_next HOWN.out (below_new _ _)) ⟨wr.heap.size, 0, none⟩ 1 1 [iv (89 - x1), iv (89 - x2)] rfl rfl HNEW.out HONE.out (by decide) HL.out HBY.out HBA.out _ rfl ?_; intro g9 cap9 w6 hown2 hgrow2 hat2 hlt2)
        all_goals
          have hB6 : Below W2.heap.size W2 w6 := below_app bW HSZ.out.1 HOWN.out hgrow2
          go_wp2
          go_roundw
          case rel => exact ⟨k + 1, by omega, by go_num, by rw [HSN.out, mzL_snoc]; exact hown2, hB6⟩
          case measure => simp [intOf]; omega
      · obtain rfl : k = a := by omega
        have bk2 : ¬ (k : Int) < (k : Int) := by omega
        rw [List.take_of_length_le (by rw [HA.out]; exact Nat.le_refl _)] at hown
        obtain ⟨A4, c4, rfl, hr4, hc4⟩ := own_any hown
        have HR4 := Lib.hid hr4
        have HC4 := Lib.hid hc4
        have HBK := Lib.hid (HB2.out.trans (hBj.mono HB2.out.size))
        have HTK := Lib.hid (HT2.out.next hBj)
        have HPK := Lib.hid (HP2.out.next hBj)
        have HRK := Lib.hid (HR2.out.next hBj)
        have HVK := Lib.hid (HBV.out.next hBj)
        obtain ⟨p0, p1, p2, p3⟩ := four_cells HPK.out
        clear hown hr4 hc4 hBj hlt hk
        go_wp2_with fail
        obtain ⟨o, ho⟩ : ∃ o, IntKind.i64.wrap (1 - y) = o := ⟨_, rfl⟩
        have hj4 : ∀ W D e (_ : Tab W) (_ : Rd W D (mzL (l.map turnI))) (_ : k ≤ e), Calls Tryz.prog 14 #[.agg #[.string (turnB s), .int .i64 (IntKind.i64.wrap (1 - y)), .int .i64 z, .int .i64 u], .slice D k e] W _ := HJ3.out
        rw [ho] at hj4
        have HJ4 := Lib.hid hj4
        clear hj4 HJ3
        refine (rturnW s _ y z u _ o ho (Lib.hid rfl)).mono ?_
        clear ho
        rintro e w5 ⟨rfl, hb⟩
        have HT5 := Lib.hid (HTK.out.next hb)
        have HB5 := Lib.hid (HBK.out.trans (hb.mono HBK.out.size))
        have HP5 := Lib.hid (HPK.out.next hb)
        have HR5 := Lib.hid (HRK.out.next hb)
        have HV5 := Lib.hid (HVK.out.next hb)
        have HM5 := Lib.hid (HR4.out.next hb)
        clear hb p0 p1 p2 p3
        go_wp2_with fail
        refine (HJ4.out w5 A4 c4 HT5.out HM5.out HC4.out).mono ?_
        rintro e w6 ⟨A6, c6, rfl, hr6, hc6, hb⟩
        have HB6 := Lib.hid (HB5.out.trans (hb.mono HB5.out.size))
        have HT6 := Lib.hid (HT5.out.next hb)
        have HR6 := Lib.hid (HR5.out.next hb)
        have HV6 := Lib.hid (HV5.out.next hb)
        have HK6 := Lib.hid hr6
        have HC6 := Lib.hid hc6
        clear hb hr6 hc6
        obtain ⟨sr, sk⟩ := swap_nums HRG.out
        obtain ⟨⟨k2, r2⟩, hv2⟩ : ∃ x, swapV (kv, rv) = x := ⟨_, rfl⟩
        rw [hv2] at sr sk ⊢
        simp only at sr sk ⊢
        subst sr
        obtain ⟨W7, hW7⟩ : ∃ W7, w6.alloc (.cells #[.int .i64 k2, .int .i64 r2] 27) = W7 := ⟨_, rfl⟩
        have hb7 : Below w6.heap.size w6 W7 := by rw [← hW7]; exact below_new _ _
        have bQ : Blk W7 w6.heap.size 27 #[.int .i64 k2, .int .i64 r2] := by rw [← hW7]; exact Blk.new _ _ _ rfl
        obtain ⟨gw, hgw⟩ : ∃ gw, w6.heap.size = gw := ⟨_, rfl⟩
        rw [hgw] at bQ
        have HGW := Lib.hid hgw
        have HB7 := Lib.hid (HB6.out.trans (hb7.mono HB6.out.size))
        have HT7 := Lib.hid (HT6.out.next hb7)
        have HR7 := Lib.hid (HR6.out.next hb7)
        have HV7 := Lib.hid (HV6.out.next hb7)
        have HK7 := Lib.hid (HK6.out.next hb7)
        have HQ7 := Lib.hid bQ
        have HW7 := Lib.hid hW7
        obtain ⟨v0, v1⟩ := two_cells HV7.out
        obtain ⟨q0, q1⟩ := two_cells HQ7.out
        rw [← HW7.out] at v0 v1 q0 q1
        rw [← HGW.out] at q0 q1
        have rr : (r2 != r2) = false := by simp
        have nn : ((ls.length : Int) != (ls.length : Int)) = false := by simp
        have HSK := Lib.hid sk
        clear hb7 bQ hgw hW7 sk hv2 HJ4
        go_wp2_with fail
        (try rw [HW7.out])
        (try rw [HGW.out])
        clear v0 v1 q0 q1
        have hea := HEA.out
        obtain ⟨ev, hev⟩ : ∃ ev, earlierI ls = ev := ⟨_, rfl⟩
        obtain ⟨ks, hks⟩ : ∃ ks, playL (turnU { s := s, y := y, z := z, u := u }) (List.map turnI l) = ks := ⟨_, rfl⟩
        rw [hks, hev] at hea
        have hl9 : ls.length ≤ 1000000 := by have := HLL.out; have := HA.out; omega
        have HL9 := Lib.hid hl9
        have hkl0 := HKLL.out
        rw [hks] at hkl0
        have hk7 := HK7.out
        rw [hks] at hk7
        have HK8 := Lib.hid hk7
        have HKL := Lib.hid hkl0
        have HEA2 := Lib.hid hea
        clear hea hl9 hk7 hks HK7 HK6 HEA hkl0 HKLL
        refine (ear_is A1 ls ls.length c1 ev W7 HR7.out rfl HL9.out hev).mono ?_
        clear hev
        rintro e w8 ⟨rfl, hb⟩
        have HB8 := Lib.hid (HB7.out.trans (hb.mono HB7.out.size))
        have HT8 := Lib.hid (HT7.out.next hb)
        have HV8 := Lib.hid (HV7.out.next hb)
        have HK9 := Lib.hid (HK8.out.next hb)
        have HQ8 := Lib.hid (HQ7.out.next hb)
        clear hb
        go_wp2_with fail
        refine (ear_is A6 ks ls.length c6 ev w8 HK9.out HKL.out HL9.out HEA2.out).mono ?_
        rintro e w9 ⟨rfl, hb⟩
        have HB9 := Lib.hid (HB8.out.trans (hb.mono HB8.out.size))
        have HT9 := Lib.hid (HT8.out.next hb)
        obtain ⟨v0, v1⟩ := two_cells (HV8.out.next hb)
        obtain ⟨q0, q1⟩ := two_cells (HQ8.out.next hb)
        have ee : (ev != ev) = false := by simp
        clear hb
        rcases HSK.out with ⟨kb, kk⟩ | ⟨kb, kk⟩
        · subst kk
          have k1 : (k2 == k2) = true := by simp
          have k2' : (r2 == r2) = true := by simp
          go_wp2_with fail
          refine (live18_any _ HT9.out).mono ?_
          rintro e w10 ⟨rfl, hb⟩
          have HB10 := Lib.hid (HB9.out.trans (hb.mono HB9.out.size))
          clear hb
          go_wp2_with fail
          go_ret
          exact ⟨rfl, HB10.out⟩
        · have kb' : ¬ kv ≤ 1 := by omega
          go_wp2_with fail
          refine (live18_any _ HT9.out).mono ?_
          rintro e w10 ⟨rfl, hb⟩
          have HB10 := Lib.hid (HB9.out.trans (hb.mono HB9.out.size))
          clear hb
          go_wp2_with fail
          go_ret
          exact ⟨rfl, HB10.out⟩
  · have en : (er != 0) = true := by rw [bne_iff_ne]; exact he
    clear he
    have HN := Lib.hid (below_new w1 (.cells #[.int .i64 kv, .int .i64 rv] 27))
    go_wp2_with fail
    refine (live18_any _ (HT1.out.next HN.out)).mono ?_
    rintro e w9 ⟨rfl, hb⟩
    have HB9 := Lib.hid ((HB1.out.trans (HN.out.mono HB1.out.size)).trans (hb.mono (Nat.le_trans HB1.out.size HN.out.size)))
    clear hb
    go_wp2
    go_ret
    exact ⟨rfl, HB9.out⟩
theorem walk (p : Ps) (C : Option Addr) (l : List (Int × Int)) (d : Nat) (w : World) (hT : Tab w) (hm : Rd w C (mzL l)) (hd : l.length ≤ d) : Calls Tryz.prog 6 #[.agg #[.string p.s, .int .i64 p.y, .int .i64 p.z, .int .i64 p.u], .slice C l.length d] w (Gives w (.bool true)) := by
  by_cases h1 : p.s.size ≤ 200
  · by_cases h2 : l.length ≤ 20
    · exact small p C l _ d w hT hm rfl hd h1 h2
    · exact large p C _ d w hT (.inr (by omega))
  · exact large p C _ d w hT (.inl (by omega))
end Go.Proofs.YtiiipchfclmbcaaGreatDoor.jturn
