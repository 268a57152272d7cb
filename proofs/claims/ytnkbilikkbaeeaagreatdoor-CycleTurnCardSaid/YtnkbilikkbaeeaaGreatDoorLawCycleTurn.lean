/- Seen from the other side each side did what the other one does: the call answers true. -/
import Derived.Test.YtnkbilikkbaeeaaGreatDoorCycleH
import Derived.Deep.AppendLies
import Derived.Deep.RegionLaw
namespace Go.Proofs.YtnkbilikkbaeeaaGreatDoor.cyturn
open Go.RowKit Go.Shelf
open M (S)

theorem ear_is (A : Option Addr) (l : List Ps) (n c : Nat) (v : Int) (w : World) (hr : Rd w A (psL l)) (hn : l.length = n) (hl : n ≤ 1000000) (hv : earlierI l = v) : Calls Tryz.prog 30 #[.slice A n c] w (Gives w (.int .i64 v)) := by
  subst hv
  exact cearlier_any A l n c w hr hn hl
def turnU (p : Ps) : Ps := ⟨turnB p.s, IntKind.i64.wrap (1 - p.y), p.z, p.u⟩
set_option maxRecDepth 100000 in
set_option maxHeartbeats 1000000 in
theorem rturnW (s t : ByteArray) (side clock full : Int) (w : World) (o : Int) (i1 : IntKind.i64.wrap (1 - side) = o) (Ht : Hid (turnB s = t)) : Calls Tryz.prog 25 #[.agg #[.string s, .int .i64 side, .int .i64 clock, .int .i64 full]] w (Gives w (.agg #[.string t, .int .i64 o, .int .i64 clock, .int .i64 full])) := by
  unfold Gives
  go_enter Tryz.func25, Tryz.ntmps25
  go_wp2_with fail
  obtain ⟨W0, hW0⟩ : ∃ W0, (w.alloc (.cells #[.string s, .int .i64 side, .int .i64 clock, .int .i64 full] 36)).alloc (.cells #[.string ⟨#[]⟩, .int .i64 0, .int .i64 0, .int .i64 0] 36) = W0 := ⟨_, rfl⟩
  have hB : Below w.heap.size w W0 := by rw [← hW0]; exact (by repeat (first | exact Below.refl _ _ | (refine Below.setCell ?_ (by first | omega | (simp; done) | (simp; omega) | (simp at *; omega)) _) | (refine Below.alloc ?_ (by first | omega | (simp; done) | (simp; omega) | (simp at *; omega)) _) | refine Below.drew ?_ | (refine below_drewN ?_ _) | (refine Below.trans ?_ (Below.mono (by assumption) (by first | omega | (simp; done) | (simp; omega) | (simp at *; omega))))))
  have bP : Blk W0 w.heap.size 36 #[.string s, .int .i64 side, .int .i64 clock, .int .i64 full] := by rw [← hW0]; exact (Blk.new _ _ _ rfl).alloc _
  have bQ : Blk W0 (w.heap.size + 1) 36 #[.string ⟨#[]⟩, .int .i64 0, .int .i64 0, .int .i64 0] := by rw [← hW0]; exact Blk.new _ _ _ (by simp)
  rw [hW0]
  have hS : W0.drew.cell? ⟨w.heap.size, 0, none⟩ = some (.string s) ∧ W0.drew.cell? ⟨w.heap.size, 1, none⟩ = some (.int .i64 side) ∧ W0.drew.cell? ⟨w.heap.size, 2, none⟩ = some (.int .i64 clock) ∧ W0.drew.cell? ⟨w.heap.size, 3, none⟩ = some (.int .i64 full) ∧ W0.drew.cell? ⟨w.heap.size + 1, 0, none⟩ = some (cellOf W0.drew ⟨w.heap.size + 1, 0, none⟩) ∧ W0.drew.cell? ⟨w.heap.size + 1, 1, none⟩ = some (cellOf W0.drew ⟨w.heap.size + 1, 1, none⟩) ∧ W0.drew.cell? ⟨w.heap.size + 1, 2, none⟩ = some (cellOf W0.drew ⟨w.heap.size + 1, 2, none⟩) ∧ W0.drew.cell? ⟨w.heap.size + 1, 3, none⟩ = some (cellOf W0.drew ⟨w.heap.size + 1, 3, none⟩) ∧ W0.drew.frozen? ⟨w.heap.size + 1, 0, none⟩ = false ∧ W0.drew.frozen? ⟨w.heap.size + 1, 1, none⟩ = false ∧ W0.drew.frozen? ⟨w.heap.size + 1, 2, none⟩ = false ∧ W0.drew.frozen? ⟨w.heap.size + 1, 3, none⟩ = false ∧ Below w.heap.size w W0.drew := ⟨bP.cell 0, bP.cell 1, bP.cell 2, bP.cell 3, cellOf_some (isSome_of (bQ.cell 0)), cellOf_some (isSome_of (bQ.cell 1)), cellOf_some (isSome_of (bQ.cell 2)), cellOf_some (isSome_of (bQ.cell 3)), bQ.frozen 0, bQ.frozen 1, bQ.frozen 2, bQ.frozen 3, hB.drew⟩
  clear hW0 hB bP bQ
  go_region_held3 (fun W => W.cell? ⟨w.heap.size, 0, none⟩ = some (.string s) ∧ W.cell? ⟨w.heap.size, 1, none⟩ = some (.int .i64 side) ∧ W.cell? ⟨w.heap.size, 2, none⟩ = some (.int .i64 clock) ∧ W.cell? ⟨w.heap.size, 3, none⟩ = some (.int .i64 full) ∧ W.cell? ⟨w.heap.size + 1, 0, none⟩ = some (cellOf W ⟨w.heap.size + 1, 0, none⟩) ∧ W.cell? ⟨w.heap.size + 1, 1, none⟩ = some (cellOf W ⟨w.heap.size + 1, 1, none⟩) ∧ W.cell? ⟨w.heap.size + 1, 2, none⟩ = some (cellOf W ⟨w.heap.size + 1, 2, none⟩) ∧ W.cell? ⟨w.heap.size + 1, 3, none⟩ = some (cellOf W ⟨w.heap.size + 1, 3, none⟩) ∧ W.frozen? ⟨w.heap.size + 1, 0, none⟩ = false ∧ W.frozen? ⟨w.heap.size + 1, 1, none⟩ = false ∧ W.frozen? ⟨w.heap.size + 1, 2, none⟩ = false ∧ W.frozen? ⟨w.heap.size + 1, 3, none⟩ = false ∧ Below w.heap.size w W)
    (first | exact hS | exact tpos_keep (by assumption) hb | exact tpos_set (tpos_set (tpos_set (tpos_set (by assumption) _ _) _ _) _ _) _ _)
    ((go_at_call 59; refine (rturn_is s t _ Ht.out).mono ?_; rintro e w1 ⟨rfl, hb⟩))
  rename_i hH
  obtain ⟨_, _, _, _, q0, q1, q2, q3, _, _, _, _, hB⟩ := tpos_keep hS hb
  clear hH hS hb
  go_wp2
  exact bodyPost_ret (v := .agg #[.string t, .int .i64 o, .int .i64 clock, .int .i64 full]) (by simp [results, Tryz.results25, go_sem, q0, q1, q2, q3]) rfl ⟨rfl, (((hB.setCell (p := ⟨w.heap.size + 1, 0, none⟩) (by simp) _).setCell (p := ⟨w.heap.size + 1, 1, none⟩) (by simp) _).setCell (p := ⟨w.heap.size + 1, 2, none⟩) (by simp) _).setCell (p := ⟨w.heap.size + 1, 3, none⟩) (by simp) _⟩
set_option maxRecDepth 100000 in
set_option maxHeartbeats 4000000 in
theorem large (p : Ps) (C : Option Addr) (a d : Nat) (w : World) (hT : Tab w) (h : 200 < p.s.size ∨ 20 < a) : Calls Tryz.prog 6 #[.agg #[.string p.s, .int .i64 p.y, .int .i64 p.z, .int .i64 p.u], .slice C a d] w (Gives w (.bool true)) := by
  unfold Gives
  obtain ⟨s, y, z, u⟩ := p
  obtain ⟨W0, hW0⟩ : ∃ W0, w.alloc (.cells #[.string s, .int .i64 y, .int .i64 z, .int .i64 u] 36) = W0 := ⟨_, rfl⟩
  have hB : Below w.heap.size w W0 := by rw [← hW0]; exact below_new _ _
  have bP : Blk W0 w.heap.size 36 #[.string s, .int .i64 y, .int .i64 z, .int .i64 u] := by rw [← hW0]; exact Blk.new _ _ _ rfl
  obtain ⟨p0, p1, p2, p3⟩ := four_cells bP
  replace hT := hT.below hB hT.lt
  have h : 200 < s.size ∨ 20 < a := h
  by_cases h1 : 200 < s.size
  · have hd : (200 : Int) < (s.size : Int) := by omega
    clear h h1
    go_enter Tryz.func6, Tryz.ntmps6
    go_wp2_with fail
    (try rw [hW0])
    refine (live17_any _ hT).mono ?_
    rintro e w9 ⟨rfl, hb⟩
    go_wp2
    go_ret
    exact ⟨rfl, hB.trans (hb.mono hB.size)⟩
  · have hd : ¬ (200 : Int) < (s.size : Int) := by omega
    have hd2 : (20 : Int) < (a : Int) := by omega
    clear h h1
    go_enter Tryz.func6, Tryz.ntmps6
    go_wp2_with fail
    (try rw [hW0])
    refine (live17_any _ hT).mono ?_
    rintro e w9 ⟨rfl, hb⟩
    go_wp2
    go_ret
    exact ⟨rfl, hB.trans (hb.mono hB.size)⟩
set_option maxRecDepth 100000 in
set_option maxHeartbeats 4000000 in
theorem small (p : Ps) (C : Option Addr) (l : List (Int × Int)) (a d : Nat) (w : World) (hT : Tab w) (hm : Rd w C (mzL l)) (ha : l.length = a) (h1 : p.s.size ≤ 200) (h2 : a ≤ 20) : Calls Tryz.prog 6 #[.agg #[.string p.s, .int .i64 p.y, .int .i64 p.z, .int .i64 p.u], .slice C a d] w (Gives w (.bool true)) := by
  unfold Gives
  obtain ⟨i0, hi, hz0, hz1, hz2⟩ := info_partsY info_pos4
  obtain ⟨i1, hj, hy0, hy1, hy2⟩ := info_parts info_move
  obtain ⟨hch, hcur, hmk⟩ := play_chain p l l.length (Nat.le_refl _)
  rw [List.take_length] at hch hcur hmk
  have hplay := fun W (hr : Rd W C (mzL l)) => played_any C p l a d W hr ha (by omega)
  obtain ⟨⟨ls, ms, cur⟩, hpf⟩ : ∃ x, playF p l = x := ⟨_, rfl⟩
  rw [hpf] at hch hcur hmk hplay
  have hch : Chain p ls ms := hch
  have hmk : ms.length ≤ l.length := hmk
  obtain ⟨n, hn⟩ : ∃ n, ms.length = n := ⟨_, rfl⟩
  have hlsn : ls.length = n + 1 := by rw [hch.len, hn]
  have hmk9 : n ≤ 20 := by rw [← hn]; omega
  have hPair : n ≠ 0 → Pair TurnP ls (ls.map turnU) := fun h0 => pair_map turnU fun j q hq => by
    have hw := hch.well (.inr (by omega)) hq
    have hs := Ps.side hw
    obtain ⟨_, _, u1, u2⟩ := well_nums hw
    exact turnP_of hw rfl (IntWalk.i64_in _ (by omega)) rfl u1 u2
  have hE : earlierI (ls.map turnU) = earlierI ls := by
    by_cases h0 : n = 0
    · have e1 : earlierI ls = -1 := first_none fun k hk => absurd hk (by omega)
      rw [e1]
      exact first_none fun k hk => absurd hk (by rw [List.length_map]; omega)
    · exact (earlier_pair same_turn (hPair h0)).symm
  have hC0 : n ≠ 0 → classI (ls.map turnU) (ms.map turnI) 1 = classI ls ms 0 := fun h0 => (class_turn (hPair h0) ms 0).symm
  have hC1 : n ≠ 0 → classI (ls.map turnU) (ms.map turnI) 0 = classI ls ms 1 := fun h0 => (class_turn (hPair h0) ms 1).symm
  have hsq := hch.sq
  obtain ⟨s, y, z, u⟩ := p
  have hd : ¬ (200 : Int) < (s.size : Int) := by have : s.size ≤ 200 := h1; omega
  have hd2 : ¬ (20 : Int) < (a : Int) := by omega
  have HPL := Lib.hid hplay
  have HN := Lib.hid hn
  have HLS := Lib.hid hlsn
  have HE := Lib.hid hE
  have HC0 := Lib.hid hC0
  have HC1 := Lib.hid hC1
  have HSQ := Lib.hid hsq
  obtain ⟨W0, hW0⟩ : ∃ W0, w.alloc (.cells #[.string s, .int .i64 y, .int .i64 z, .int .i64 u] 36) = W0 := ⟨_, rfl⟩
  have hB : Below w.heap.size w W0 := by rw [← hW0]; exact below_new _ _
  have bP : Blk W0 w.heap.size 36 #[.string s, .int .i64 y, .int .i64 z, .int .i64 u] := by rw [← hW0]; exact Blk.new _ _ _ rfl
  replace hT := hT.below hB hT.lt
  have HMM := Lib.hid (hm.next hB)
  obtain ⟨p0, p1, p2, p3⟩ := four_cells bP
  clear h1 h2 hm ha hch hcur hmk hplay hpf hn hlsn hE hC0 hC1 hPair hsq
  go_enter Tryz.func6, Tryz.ntmps6
  go_wp2_with fail
  (try rw [hW0])
  refine (HPL.out _ HMM.out).mono ?_
  rintro e w1 ⟨v1, v2, rfl, hP, hb1⟩
  have hP1 : w1.ownsRow (W0.heap.size + 1) 36 4 v1 (n + 1) (psL ls) := by have := hP.r1; rw [← HLS.out]; exact this
  have hP2 : w1.ownsRow (W0.heap.size + 1) 28 2 v2 n (mzL ms) := by have := hP.r2; rw [← HN.out]; exact this
  obtain ⟨A1, c1, rfl, hr1, hc1⟩ := own_any hP1
  obtain ⟨A2, c2, rfl, hr2, hc2⟩ := own_any hP2
  have hB1 := hB.trans (hb1.mono hB.size)
  have hT1 := hT.next hb1
  clear p0 p1 p2 p3 hP hP1 hP2 hc1
  go_wp2_with fail
  go_loopw [7, 9] (fun vk i wr => ∃ k : Nat, k ≤ n + 1 ∧ i = .int .i64 (k : Int) ∧ wr.ownsRow w1.heap.size 36 4 vk k (psL ((ls.take k).map turnU)) ∧ Below w1.heap.size w1 wr) (fun _ i _ => n + 1 - (intOf i).toNat)
  case atStart => exact ⟨0, Nat.zero_le _, rfl, by rw [List.take_zero]; exact World.ownsRow_nil _ _ _ _, Below.refl _ _⟩
  case round =>
    obtain ⟨k, hk, rfl, hown, hBk⟩ := hrel
    have hBB := hB1.trans (hBk.mono hB1.size)
    have hTk := hT1.next hBk
    by_cases hlt : k < n + 1
    · have bk : (k : Int) < ((n + 1 : Nat) : Int) := by omega
      have bk' : (k : Int) < (n : Int) + 1 := by omega
      have hkl : k < ls.length := by rw [HLS.out]; exact hlt
      obtain ⟨g1, b1, rfl, d0, d1, d2, d3⟩ := hr1.ps hkl
      have hsnoc : ((ls.take (k + 1)).map turnU) = ((ls.take k).map turnU) ++ [turnU (ls[k]'hkl)] := by
        rw [List.take_succ_eq_append_getElem hkl, List.map_append]; rfl
      obtain ⟨⟨s', y', z', u'⟩, hq⟩ : ∃ q, ls[k]'hkl = q := ⟨_, rfl⟩
      rw [hq] at d0 d1 d2 d3 hsnoc
      obtain ⟨t', ht⟩ : ∃ t, turnB s' = t := ⟨_, rfl⟩
      obtain ⟨o', ho⟩ : ∃ o, IntKind.i64.wrap (1 - y') = o := ⟨_, rfl⟩
      have hsnoc : ((ls.take (k + 1)).map turnU) = ((ls.take k).map turnU) ++ [⟨t', o', z', u'⟩] := by
        rw [hsnoc, ← ht, ← ho]; rfl
      have c0 := (hBk.cell (p := ⟨g1, b1 + k * 4, none⟩) (cell_lt d0)).trans d0
      have c1' := (hBk.cell (p := ⟨g1, b1 + k * 4 + 1, none⟩) (cell_lt d1)).trans d1
      have c2' := (hBk.cell (p := ⟨g1, b1 + k * 4 + 2, none⟩) (cell_lt d2)).trans d2
      have c3' := (hBk.cell (p := ⟨g1, b1 + k * 4 + 3, none⟩) (cell_lt d3)).trans d3
      have HSN := Lib.hid hsnoc
      have HOWN := Lib.hid hown
      have HT' := Lib.hid ht
      have HO' := Lib.hid ho
      clear hown hsnoc d0 d1 d2 d3 hq ht ho
      go_wp2_with fail
      refine (rturnW s' t' y' z' u' _ o' HO'.out HT').mono ?_
      rintro e8 w3 ⟨rfl, hb3⟩
      have hB3 := hBk.trans (hb3.mono hBk.size)
      have HSZ : Hid (w1.heap.size ≤ w3.heap.size ∧ k ≤ 1000) := ⟨hB3.size, by omega⟩
      clear c0 c1' c2' c3'
      go_wp2_with (first
        | (at_builtin; refine wpList_append_own_at _ rfl _ _ 45 rfl w1.heap.size 36 i0 (.agg #[.string ⟨#[]⟩, .int .i64 0, .int .i64 0, .int .i64 0]) 4 40 Tryz.underlying45 hi hz0 hz1 hz2 rfl (by decide) _ _ _ rfl (own_next (own_next HOWN.out hb3) (below_new _ _)) ⟨w3.heap.size, 0, none⟩ 1 1 [.string t', .int .i64 o', .int .i64 z', .int .i64 u'] rfl rfl (cells_four_new _ _ _ _ _ _) (by simp [Value.oneCell']) (by have := HSZ.out; unfold maxLen; omega) (by have := HSZ.out; omega) (by have := HSZ.out; simp; omega) ?_; intro v1' w5 hown' hgrow _ hat))
      have hB5 : Below w1.heap.size w1 w5 := below_app hB3 HSZ.out.1 (own_next HOWN.out hb3) hgrow
      go_roundw
      case rel => exact ⟨k + 1, by omega, by go_num, by rw [HSN.out, psL_snoc]; exact hown', hB5⟩
      case measure => simp [intOf]; omega
    · obtain rfl : k = n + 1 := by omega
      have bk : ¬ ((n + 1 : Nat) : Int) < ((n + 1 : Nat) : Int) := by omega
      have bk' : ¬ (n : Int) + 1 < (n : Int) + 1 := by omega
      rw [List.take_of_length_le (by rw [HLS.out]; exact Nat.le_refl _)] at hown
      obtain ⟨A3, c3, rfl, hr3, hc3⟩ := own_any hown
      clear hown hlt hk
      have hl3 : (ls.map turnU).length = n + 1 := by rw [List.length_map, HLS.out]
      have HL3 := Lib.hid hl3
      have HR1 := Lib.hid (hr1.next hBk)
      have hr2k := hr2.next hBk
      have HR3 := Lib.hid hr3
      clear hl3 hr1 hr2 hr3
      rename World => wa
      go_wp2_with fail
      go_loopw [8, 10] (fun vk i wr => ∃ k : Nat, k ≤ n ∧ i = .int .i64 (k : Int) ∧ wr.ownsRow wa.heap.size 28 2 vk k (mzL ((ms.take k).map turnI)) ∧ Below wa.heap.size wa wr) (fun _ i _ => n - (intOf i).toNat)
      case atStart => exact ⟨0, Nat.zero_le _, rfl, by rw [List.take_zero]; exact World.ownsRow_nil _ _ _ _, Below.refl _ _⟩
      case round =>
        obtain ⟨k, hk, rfl, hown, hBj⟩ := hrel
        have hBBj := hBB.trans (hBj.mono hBB.size)
        have hTj := hTk.next hBj
        by_cases hlt : k < n
        · have bk2 : (k : Int) < (n : Int) := by omega
          have hkl : k < ms.length := by rw [HN.out]; exact hlt
          obtain ⟨g2, b2, rfl, m0, m1⟩ := hr2k.mz hkl
          have hsq := HSQ.out _ (List.getElem_mem hkl)
          have hsnoc : ((ms.take (k + 1)).map turnI) = ((ms.take k).map turnI) ++ [turnI (ms[k]'hkl)] := by
            rw [List.take_succ_eq_append_getElem hkl, List.map_append]; rfl
          obtain ⟨⟨x1, x2⟩, hq⟩ : ∃ q, ms[k]'hkl = q := ⟨_, rfl⟩
          rw [hq] at m0 m1 hsnoc hsq
          obtain ⟨q1, q2, q3, q4⟩ : 0 ≤ x1 ∧ x1 < 90 ∧ 0 ≤ x2 ∧ x2 < 90 := hsq
          have wx1 : IntKind.i64.wrap (89 - x1) = 89 - x1 := IntWalk.i64_in _ (by omega)
          have wx2 : IntKind.i64.wrap (89 - x2) = 89 - x2 := IntWalk.i64_in _ (by omega)
          have c0 := (hBj.cell (p := ⟨g2, b2 + k * 2, none⟩) (cell_lt m0)).trans m0
          have c1' := (hBj.cell (p := ⟨g2, b2 + k * 2 + 1, none⟩) (cell_lt m1)).trans m1
          have HSN := Lib.hid hsnoc
          have HOWN := Lib.hid hown
          clear hown hsnoc m0 m1 hq
          have HSZ : Hid (wa.heap.size ≤ wr.heap.size ∧ k ≤ 1000) := ⟨hBj.size, by omega⟩
          have bW : Below wa.heap.size wa wr.drew := hBj.drew
          have HOWN := Lib.hid (own_next HOWN.out (Below.refl _ _).drew)
          have HL : Hid (k + 1 ≤ maxLen) := by show _ ≤ _; unfold maxLen; omega
          have HBY : Hid ((k + 1) * 16 ≤ 140737488355328) := by show _ ≤ _; omega
          have HONE : Hid (∀ u ∈ [iv (89 - x1), iv (89 - x2)], u.oneCell' = true) := by intro u hu; simp only [List.mem_cons, List.not_mem_nil, or_false] at hu; rcases hu with rfl | rfl <;> rfl
          have hnew := cells_two_new wr.drew (iv (89 - x1)) (iv (89 - x2)) 28
          have HNEW := Lib.hid hnew
          clear hnew
          obtain ⟨A4, c4, rfl, _, _⟩ := own_any HOWN.out
          have HBA : Hid (wa.heap.size ≤ (wr.drew.alloc (.cells #[iv (89 - x1), iv (89 - x2)] 28)).heap.size) := by show _ ≤ _; rw [World.size_alloc]; exact Nat.le_succ_of_le HSZ.out.1
          go_wp2_with fail
          go_region_law (refine step_append_lies _ rfl (.tmp 47) (.tmp 61) 25 rfl wa.heap.size 28 i1 _ 2 16 Tryz.underlying25 hj hy0 hy1 hy2 rfl (by decide) _ k (mzL ((ms.take k).map turnI)) rfl (own_next HOWN.out (below_new _ _)) ⟨wr.heap.size, 0, none⟩ 1 1 [iv (89 - x1), iv (89 - x2)] rfl rfl HNEW.out HONE.out (by decide) HL.out HBY.out HBA.out _ rfl ?_; intro g9 cap9 w6 hown2 hgrow2 hat2 hlt2)
          all_goals
            have hB6 : Below wa.heap.size wa w6 := below_app bW HSZ.out.1 HOWN.out hgrow2
            go_wp2
            go_roundw
            case rel => exact ⟨k + 1, by omega, by go_num, by rw [HSN.out, mzL_snoc]; exact hown2, hB6⟩
            case measure => simp [intOf]; omega
        · obtain rfl : k = n := by omega
          have bk2 : ¬ (k : Int) < (k : Int) := by omega
          rw [List.take_of_length_le (by rw [HN.out]; exact Nat.le_refl _)] at hown
          obtain ⟨A4, c4, rfl, hr4, hc4⟩ := own_any hown
          clear hown hlt hk
          have hl4 : (ms.map turnI).length = k := by rw [List.length_map, HN.out]
          have HL4 := Lib.hid hl4
          have HR1 := Lib.hid (HR1.out.next hBj)
          have HR2 := Lib.hid (hr2k.next hBj)
          have HR3 := Lib.hid (HR3.out.next hBj)
          have HR4 := Lib.hid hr4
          have HTT : Hid (∀ W, Below wr.heap.size wr W → Tab W) := fun W h => hTj.next h
          have HEND : Hid (∀ W, Below wr.heap.size wr W → Below w.heap.size w W) := fun W h => hBBj.trans (h.mono hBBj.size)
          obtain ⟨ev, hev⟩ : ∃ v, earlierI ls = v := ⟨_, rfl⟩
          have HEV := Lib.hid hev
          have ee : (ev == ev) = true := by simp
          clear hl4 hr2k hr4 hev
          by_cases h0 : k = 0
          · subst h0
            go_wp2_with fail
            refine (ear_is _ ls (0 + 1) c1 ev _ HR1.out HLS.out (by omega) HEV.out).mono ?_
            rintro e8 w3 ⟨rfl, hb3⟩
            go_wp2_with fail
            refine (ear_is _ _ (0 + 1) c3 ev _ (HR3.out.next hb3) HL3.out (by omega) (HE.out.trans HEV.out)).mono ?_
            rintro e8 w4 ⟨rfl, hb4⟩
            have hb34 := hb3.trans (hb4.mono hb3.size)
            go_wp2_with fail
            refine (live17_any _ (HTT.out _ hb34)).mono ?_
            rintro e8 w9 ⟨rfl, hb⟩
            go_wp2
            go_ret
            exact ⟨rfl, HEND.out _ (hb34.trans (hb.mono hb34.size))⟩
          · have nn : (0 : Int) < (k : Int) := by omega
            obtain ⟨v, hv⟩ : ∃ v, classI ls ms 0 = v := ⟨_, rfl⟩
            obtain ⟨v2, hv2⟩ : ∃ v, classI ls ms 1 = v := ⟨_, rfl⟩
            have HV := Lib.hid hv
            have HV2 := Lib.hid hv2
            have HW := Lib.hid ((HC0.out h0).trans hv)
            have HW2 := Lib.hid ((HC1.out h0).trans hv2)
            have vv : (v != v) = false := by simp
            have vv2 : (v2 != v2) = false := by simp
            clear hv hv2 h0
            go_wp2_with fail
            refine (class_is _ _ ls ms 0 v (k + 1) k c1 c2 _ (HTT.out _ (Below.refl _ _)) HR1.out HLS.out HR2.out HN.out (by omega) (by omega) hc2 HV.out).mono ?_
            rintro e8 w3 ⟨rfl, hb3⟩
            go_wp2_with fail
            refine (class_is _ _ _ _ 1 v (k + 1) k c3 c4 _ (HTT.out _ hb3) (HR3.out.next hb3) HL3.out (HR4.out.next hb3) HL4.out (by omega) (by omega) hc4 HW.out).mono ?_
            rintro e8 w4 ⟨rfl, hb4⟩
            have hb34 := hb3.trans (hb4.mono hb3.size)
            go_wp2_with fail
            refine (class_is _ _ ls ms 1 v2 (k + 1) k c1 c2 _ (HTT.out _ hb34) (HR1.out.next hb34) HLS.out (HR2.out.next hb34) HN.out (by omega) (by omega) hc2 HV2.out).mono ?_
            rintro e8 w5 ⟨rfl, hb5⟩
            have hb35 := hb34.trans (hb5.mono hb34.size)
            go_wp2_with fail
            refine (class_is _ _ _ _ 0 v2 (k + 1) k c3 c4 _ (HTT.out _ hb35) (HR3.out.next hb35) HL3.out (HR4.out.next hb35) HL4.out (by omega) (by omega) hc4 HW2.out).mono ?_
            rintro e8 w6 ⟨rfl, hb6⟩
            have hb36 := hb35.trans (hb6.mono hb35.size)
            go_wp2_with fail
            refine (ear_is _ ls (k + 1) c1 ev _ (HR1.out.next hb36) HLS.out (by omega) HEV.out).mono ?_
            rintro e8 w7 ⟨rfl, hb7⟩
            have hb37 := hb36.trans (hb7.mono hb36.size)
            go_wp2_with fail
            refine (ear_is _ _ (k + 1) c3 ev _ (HR3.out.next hb37) HL3.out (by omega) (HE.out.trans HEV.out)).mono ?_
            rintro e8 w8 ⟨rfl, hb8⟩
            have hb38 := hb37.trans (hb8.mono hb37.size)
            go_wp2_with fail
            refine (live17_any _ (HTT.out _ hb38)).mono ?_
            rintro e8 w9 ⟨rfl, hb⟩
            go_wp2
            go_ret
            exact ⟨rfl, HEND.out _ (hb38.trans (hb.mono hb38.size))⟩
theorem walk (p : Ps) (C : Option Addr) (l : List (Int × Int)) (d : Nat) (w : World) (hT : Tab w) (hm : Rd w C (mzL l)) : Calls Tryz.prog 6 #[.agg #[.string p.s, .int .i64 p.y, .int .i64 p.z, .int .i64 p.u], .slice C l.length d] w (Gives w (.bool true)) := by
  by_cases h1 : p.s.size ≤ 200
  · by_cases h2 : l.length ≤ 20
    · exact small p C l _ d w hT hm rfl h1 h2
    · exact large p C _ d w hT (.inr (by omega))
  · exact large p C _ d w hT (.inl (by omega))
end Go.Proofs.YtnkbilikkbaeeaaGreatDoor.cyturn
