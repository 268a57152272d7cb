/- The sides' pieces stand on squares of their own: the call answers true. -/
import Derived.Test.YtocdmnkmepplcaaDoorGameL
namespace Go.Proofs.YtocdmnkmepplcaaDoor.gsquares
open Go.RowKit Go.Shelf
open M (S)

theorem three {α : Type} (p q r : α → Bool) : ∀ l : List α, (∀ x ∈ l, (p x = true ∧ q x = false ∧ r x = false) ∨ (p x = false ∧ q x = true ∧ r x = false) ∨ (p x = false ∧ q x = false ∧ r x = true)) →
    (l.filter p).length + (l.filter q).length + (l.filter r).length = l.length
  | [], _ => rfl
  | x :: l, h => by
    have ih := three p q r l fun y hy => h y (List.mem_cons_of_mem _ hy)
    rcases h x List.mem_cons_self with ⟨a, b, c⟩ | ⟨a, b, c⟩ | ⟨a, b, c⟩ <;> simp only [List.filter_cons, a, b, c, if_true, List.length_cons] <;> simp only [Bool.false_eq_true, if_false] <;> omega
theorem all90 {s : ByteArray} (hb : isB s = true) : (piecesL s 0).length + (piecesL s 1).length + (findL s 46).length = 90 := by
  simp only [piecesL, findL, hb, if_true, trues, List.length_map]
  rw [three _ _ _ (List.range 90), List.length_range]
  intro x hx
  have hf := isB_fill hb x (List.mem_range.1 hx)
  revert hf
  generalize bAt s x = c
  intro hf
  rw [fill_side] at hf
  have hg := sideN_ge c
  by_cases e : c = 46
  · subst e; decide
  · have h0 : 0 ≤ sideN c := by simpa [e] using hf
    by_cases e1 : sideN c = 0
    · left; simp [ofSide, e, e1]
    · have e2 : sideN c = 1 := by omega
      right; left; simp [ofSide, e, e2]
theorem cnt_empty {s : ByteArray} (hz : s.size = 90) {a b : Nat} (ha : a < 90) (hb : b < 90) (hne : a ≠ b) (hfull : bAt s a ≠ 46) : cntN (movedS s a b (bAt s a)) 90 46 + (if bAt s b = 46 then 1 else 0) = cntN s 90 46 + 1 := by
  have hlt := bAt_lt s a
  have h1 := cnt_put (s := s) (k := a) (c := 46) (by decide) 46 90 ha (by omega)
  have h2 := cnt_put (s := putS s a 46) (k := b) (c := bAt s a) hlt 46 90 hb (by rw [put_size]; omega)
  have e1 : bAt (putS s a 46) b = bAt s b := by rw [put_at s a 46 b (by decide) (by omega), if_neg (fun e => hne e.symm)]
  rw [e1, if_neg hfull] at h2
  rw [if_neg hfull, if_pos rfl] at h1
  unfold movedS
  omega
theorem clock_low {s : ByteArray} {side clock full : Int} (h : partsB s side clock full = true) : 0 ≤ clock := by
  unfold partsB at h
  simp only [Bool.and_eq_true, decide_eq_true_eq] at h
  omega
theorem well_board {s : ByteArray} {side clock full : Int} (h : wellN s side clock full = 0) : isB s = true ∧ 0 ≤ clock := by
  have hc := well_check h
  have hc' : (checkN s side clock full : Int) = 0 := by rw [hc]; rfl
  exact ⟨parts_board (check_zero hc').1, clock_low (check_zero hc').1⟩
/-- What a move does to the number of pieces. -/
theorem step {s q : ByteArray} {y z u a b y' z' u' : Int} {t : Nat} {k : Int} (hw : wellN s y z u = 0) (hV : makeV s y z u a b = .tuple #[.agg #[.string q, .int .i64 y', .int .i64 z', .int .i64 u'], .int .u8 t, .int .i64 k]) (hk : k = 0) :
    wellN q y' z' u' = 0 ∧ (z' = 0 → (piecesL q 0).length + (piecesL q 1).length + 1 = (piecesL s 0).length + (piecesL s 1).length) ∧ (z' ≠ 0 → (piecesL q 0).length + (piecesL q 1).length = (piecesL s 0).length + (piecesL s 1).length) := by
  subst hk
  obtain ⟨hbd, hc0⟩ := well_board hw
  unfold makeV at hV
  rw [if_pos hw] at hV
  by_cases hl : leavesI s y z u a b = true
  · rw [if_pos hl] at hV
    have hg : isM s y a b = true ∧ kindN (bAt s b.toNat) ≠ 75 := Classical.byContradiction fun h => by rw [leaves_bad h] at hl; cases hl
    rw [apply_good_value (well_check hw) hg] at hV
    simp only [Value.tuple.injEq, Array.mk.injEq, List.cons.injEq, Value.agg.injEq, Value.string.injEq, Value.int.injEq, and_true, true_and] at hV
    obtain ⟨⟨rfl, rfl, rfl, rfl⟩, _⟩ := hV
    rw [leaves_good hg, beq_iff_eq] at hl
    refine ⟨hl, ?_⟩
    obtain ⟨hbm, _⟩ := well_board hl
    obtain ⟨_, ha, hb, h4⟩ := isM_parts hg.1
    have h1 : a.toNat < 90 := by omega
    have h2 : b.toNat < 90 := by omega
    have hfull : bAt s a.toNat ≠ 46 := fun e => by
      have := (can_parts h4).1
      rw [e] at this
      exact absurd this (by decide)
    have hcnt := cnt_empty (isB_size hbd) h1 h2 (can_self h4) hfull
    have hA := all90 hbd
    have hM := all90 hbm
    have e1 : (findL s 46).length = cntN s 90 46 := by rw [findL, if_pos hbd, ← cnt_trues]
    have e2 : (findL (movedS s a.toNat b.toNat (bAt s a.toNat)) 46).length = cntN (movedS s a.toNat b.toNat (bAt s a.toNat)) 90 46 := by rw [findL, if_pos hbm, ← cnt_trues]
    unfold clockA
    by_cases h46 : bAt s b.toNat = 46
    · rw [if_pos h46] at hcnt ⊢
      exact ⟨fun h => by omega, fun _ => by omega⟩
    · rw [if_neg h46] at hcnt ⊢
      exact ⟨fun _ => by omega, fun h => absurd rfl h⟩
  · rw [if_neg hl] at hV
    unfold noneV at hV
    simp at hV
theorem pieces_low {s : ByteArray} {side : Int} (h : side < 0) : piecesL s side = [] := by
  unfold piecesL
  split
  · rename_i hb
    unfold trues
    rw [List.filter_eq_nil_iff.2, List.map_nil]
    intro k hk
    have hf := isB_fill hb k (List.mem_range.1 hk)
    rw [fill_side] at hf
    simp only [ofSide, Bool.and_eq_true, bne_iff_ne, beq_iff_eq, not_and]
    intro h46 he
    simp only [Bool.or_eq_true, beq_iff_eq, h46, false_or, decide_eq_true_eq] at hf
    omega
  · rfl
theorem rfind_sq (s : ByteArray) (c n : Nat) (w : World) (hn : (findL s c).length = n) : Calls Tryd.prog 15 #[.string s, .int .u8 (c : Int)] w (GivesN w (findL s c) n) := by subst hn; exact rfind_any s c w
set_option maxRecDepth 100000 in
set_option maxHeartbeats 4000000 in
theorem walk (s : ByteArray) (y z u : Int) (A : Option Addr) (l : List (Int × Int)) (c : Nat) (w : World) (hT : Tab w) (rd : ∀ j a b, l[j]? = some (a, b) → ∃ ad, A = some ad ∧ w.cell? (ad.add (j * 2)) = some (.int .i64 a) ∧ w.cell? ⟨(ad.add (j * 2)).block, (ad.add (j * 2)).off + 1, none⟩ = some (.int .i64 b)) : Calls Tryd.prog 5 #[.agg #[.string s, .int .i64 y, .int .i64 z, .int .i64 u], .slice A l.length c] w (Gives w (.bool true)) := by
  unfold Gives
  obtain ⟨n, hn⟩ : ∃ n, l.length = n := ⟨_, rfl⟩
  rw [hn]
  obtain ⟨W0, hW0⟩ : ∃ W0, w.alloc (.cells #[.string s, .int .i64 y, .int .i64 z, .int .i64 u] 28) = W0 := ⟨_, rfl⟩
  have hB : Below w.heap.size w W0 := by rw [← hW0]; exact (by repeat (first | exact Below.refl _ _ | (refine Below.setCell ?_ (by first | omega | (simp; done) | (simp; omega) | (simp at *; omega)) _) | (refine Below.alloc ?_ (by first | omega | (simp; done) | (simp; omega) | (simp at *; omega)) _) | refine Below.drew ?_ | (refine below_drewN ?_ _) | (refine Below.trans ?_ (Below.mono (by assumption) (by first | omega | (simp; done) | (simp; omega) | (simp at *; omega))))))
  have bP : Blk W0 w.heap.size 28 #[.string s, .int .i64 y, .int .i64 z, .int .i64 u] := by rw [← hW0]; exact Blk.new _ _ _ rfl
  obtain ⟨p0, p1, p2, p3⟩ := ppos_cells bP
  have hT0 := hT.next hB
  have HW := Lib.hid hW0
  have HT := Lib.hid hT
  have RD := Lib.hid rd
  have HN := Lib.hid hn
  clear hW0 hT rd hn
  by_cases hs : 200 < s.size
  · have d1 : decide (200 < (s.size : Int)) = true := by simp; omega
    clear hs
    go_enter Tryd.func5, Tryd.ntmps5
    go_wp2_with fail
    rw [HW.out]
    go_wp2_with fail
    refine (live9_any _ hT0).mono ?_
    rintro e w9 ⟨rfl, hb⟩
    go_wp2
    go_ret
    exact ⟨rfl, hB.trans (hb.mono hB.size)⟩
  have d1 : decide (200 < (s.size : Int)) = false := by simp; omega
  by_cases hs2 : 30 < n
  · have d2 : decide (30 < (n : Int)) = true := by simp; omega
    clear hs hs2
    go_enter Tryd.func5, Tryd.ntmps5
    go_wp2_with fail
    rw [HW.out]
    go_wp2_with fail
    refine (live9_any _ hT0).mono ?_
    rintro e w9 ⟨rfl, hb⟩
    go_wp2
    go_ret
    exact ⟨rfl, hB.trans (hb.mono hB.size)⟩
  have d2 : decide (30 < (n : Int)) = false := by simp; omega
  by_cases hw : wellN s y z u = 0
  · have hn30 : n ≤ 30 := by omega
    clear hs hs2
    go_enter Tryd.func5, Tryd.ntmps5
    have HWE := Lib.hid hw
    clear hw
    go_wp2_with fail
    rw [HW.out]
    go_wp2_with fail
    refine (new_is s y z u _ hT0 HWE.out).mono ?_
    rintro e w1 ⟨g, rfl, hg, bG, hb⟩
    have hg0 : w.heap.size ≤ g := Nat.le_trans hB.size hg
    have hB1 := hB.trans (hb.mono hB.size)
    have hI := GAt.new (p := ⟨s, y, z, u⟩) bG
    have h4 : w.heap.size ≤ w1.heap.size := hB1.size
    generalize w1.heap.size = n₀ at hI h4
    clear hb bP p0 p1 p2 p3 hB d1 d2
    go_wp2_with fail
    go_loopw [7] (fun i wr => ∃ (k : Nat) (v : Value) (st : List Stp) (now : Po), k ≤ n ∧ i = .int .i64 k ∧ GAt n₀ wr g v st now ∧ Hid (st.length ≤ k ∧ wellN now.s now.y now.z now.u = 0) ∧ Below w.heap.size w wr) (fun i _ => n - (intOf i).toNat)
    case atStart => exact ⟨0, _, _, _, by omega, rfl, hI, ⟨Nat.le_refl _, HWE.out⟩, hB1⟩
    case round =>
      obtain ⟨k, v, st, now, hk, rfl, hG, hI1, hB2⟩ := hrel
      clear hI bG hB1 hT0
      have hTr := HT.out.below hB2 HT.out.lt
      by_cases hlt : k < n
      · have b1 : (k : Int) < (n : Int) := by omega
        have hkl : k < l.length := by rw [HN.out]; exact hlt
        obtain ⟨a, b, hab⟩ : ∃ a b, l[k]? = some (a, b) := ⟨l[k].1, l[k].2, by rw [List.getElem?_eq_getElem hkl]⟩
        obtain ⟨ad, rfl, hc0, hc1⟩ := RD.out k a b hab
        have m0 := (hB2.cell (p := ad.add (k * 2)) (cell_lt hc0)).trans hc0
        have m1 := (hB2.cell (p := ⟨(ad.add (k * 2)).block, (ad.add (k * 2)).off + 1, none⟩) (cell_lt hc1)).trans hc1

        obtain ⟨x, hx⟩ : ∃ x, (piecesL now.s 0).length = x := ⟨_, rfl⟩
        obtain ⟨x', hx'⟩ : ∃ x, (piecesL now.s 1).length = x := ⟨_, rfl⟩
        have h90 := all90 (well_board hI1.2).1
        rw [hx, hx'] at h90
        obtain ⟨tw, htw⟩ : ∃ tw, x + x' = tw := ⟨_, rfl⟩
        have i1 : IntKind.i64.wrap ((x : Int) + x') = (tw : Int) := by rw [IntWalk.i64_in _ (by omega)]; omega
        clear hc0 hc1
        go_wp2_with fail
        refine (gpieces_is hG hTr 0 x hx).mono ?_
        rintro e w2 ⟨A2, k2, rfl, hr, hb⟩
        have hG2 := hG.next hb
        have hB3 := hB2.trans (hb.mono hB2.size)
        replace m0 := (hb.cell (p := ad.add (k * 2)) (cell_lt m0)).trans m0
        replace m1 := (hb.cell (p := ⟨(ad.add (k * 2)).block, (ad.add (k * 2)).off + 1, none⟩) (cell_lt m1)).trans m1
        replace hTr := hTr.next hb
        clear hG hB2 hb hr
        go_wp2_with fail
        refine (gpieces_is hG2 hTr 1 x' hx').mono ?_
        rintro e w3 ⟨A3, k3, rfl, hr, hb⟩
        have hG3 := hG2.next hb
        have hB4 := hB3.trans (hb.mono hB3.size)
        replace m0 := (hb.cell (p := ad.add (k * 2)) (cell_lt m0)).trans m0
        replace m1 := (hb.cell (p := ⟨(ad.add (k * 2)).block, (ad.add (k * 2)).off + 1, none⟩) (cell_lt m1)).trans m1
        replace hTr := hTr.next hb
        clear hG2 hB3 hb hr
        go_wp2_with fail
        obtain ⟨q, y', z', u', t, kk, hV, -⟩ := makeV_parts now.s now.y now.z now.u a b
        have hst : st.length < 1024 := by have := hI1.1; omega
        have hgw : w.heap.size ≤ g := hg0
        have hm : Calls Tryd.prog 8 #[.pointer (some ⟨g, 0, none⟩), .agg #[.int .i64 a, .int .i64 b]] w3 fun e w' => ∃ (v' : Value) (st' : List Stp) (P : Po) (f : Int), e = .returned (.int .i64 f) ∧ GAt n₀ w' g v' st' P ∧ (st'.length ≤ k + 1 ∧ wellN P.s P.y P.z P.u = 0) ∧ Below w.heap.size w w' ∧ ((f = 0 ∧ P.z = 0 ∧ (piecesL P.s 0).length + (piecesL P.s 1).length + 1 = tw) ∨ (f = 0 ∧ P.z ≠ 0 ∧ (piecesL P.s 0).length + (piecesL P.s 1).length = tw) ∨ (f = 7 ∧ (piecesL P.s 0).length + (piecesL P.s 1).length = tw)) := by
          refine (gmake_any hG3 hTr a b hst q y' z' u' kk t (kk == 0) hV rfl).mono fun e w' h => ?_
          by_cases hkk : kk = 0
          · obtain ⟨s1, s2, s3⟩ := step hI1.2 hV hkk
            simp only [hkk, beq_self_eq_true, if_true] at h
            obtain ⟨rfl, v', hG', _, hf⟩ := h
            refine ⟨v', _, _, 0, rfl, hG', ⟨by rw [List.length_append]; have := hI1.1; simp; omega, s1⟩, hB4.trans (hf.below (OfG.low hG3 hgw h4) hB4.size), ?_⟩
            by_cases hz : z' = 0
            · exact .inl ⟨rfl, hz, by have := s2 hz; show (piecesL q 0).length + (piecesL q 1).length + 1 = tw; omega⟩
            · exact .inr (.inl ⟨rfl, hz, by have := s3 hz; show (piecesL q 0).length + (piecesL q 1).length = tw; omega⟩)
          · rw [show (kk == 0) = false by simpa using hkk] at h
            simp only [Bool.false_eq_true, if_false] at h
            obtain ⟨rfl, hb⟩ := h
            exact ⟨v, st, now, 7, rfl, hG3.next hb, ⟨Nat.le_succ_of_le hI1.1, hI1.2⟩, hB4.trans (hb.mono hB4.size), .inr (.inr ⟨rfl, by omega⟩)⟩
        clear hV hst hI1 hab RD h90 hx hx' htw
        refine hm.mono ?_
        rintro e w4 ⟨v4, st4, P, f, rfl, hG4, hI4, hB5, htot⟩
        have HI4 := Lib.hid hI4
        replace hTr := HT.out.below hB5 HT.out.lt
        clear hm m0 m1 hG3 hB4 hI4
        go_wp2_with fail
        refine (position_is hG4).mono ?_
        rintro e w5 ⟨rfl, hb⟩
        have hG5 := hG4.next hb
        have hB6 := hB5.trans (hb.mono hB5.size)
        replace hTr := hTr.next hb
        clear hG4 hB5 hb
        go_wp2_with fail
        obtain ⟨V6, hV6⟩ : ∃ x, w5.alloc (.cells #[.string P.s, .int .i64 P.y, .int .i64 P.z, .int .i64 P.u] 28) = x := ⟨_, rfl⟩
        have hb : Below w5.heap.size w5 V6 := by rw [← hV6]; exact (by repeat (first | exact Below.refl _ _ | (refine Below.setCell ?_ (by first | omega | (simp; done) | (simp; omega) | (simp at *; omega)) _) | (refine Below.alloc ?_ (by first | omega | (simp; done) | (simp; omega) | (simp at *; omega)) _) | refine Below.drew ?_ | (refine below_drewN ?_ _) | (refine Below.trans ?_ (Below.mono (by assumption) (by first | omega | (simp; done) | (simp; omega) | (simp at *; omega))))))
        have bQ : Blk V6 w5.heap.size 28 #[.string P.s, .int .i64 P.y, .int .i64 P.z, .int .i64 P.u] := by rw [← hV6]; exact Blk.new _ _ _ rfl
        have hG6 := hG5.next hb
        have hB7 := hB6.trans (hb.mono hB6.size)
        replace hTr := hTr.next hb
        rw [hV6]
        generalize w5.heap.size = qb at bQ ⊢
        clear hV6 hG5 hB6 hb
        have hbd := (well_board HI4.out.2).1
        obtain ⟨X, hX⟩ : ∃ x, (piecesL P.s 0).length = x := ⟨_, rfl⟩
        obtain ⟨X', hX'⟩ : ∃ x, (piecesL P.s 1).length = x := ⟨_, rfl⟩
        obtain ⟨F, hF⟩ : ∃ x, (findL P.s 46).length = x := ⟨_, rfl⟩
        have h90 := all90 hbd
        rw [hX, hX', hF] at h90
        rw [hX, hX'] at htot
        obtain ⟨T, hT⟩ : ∃ T, X + X' = T := ⟨_, rfl⟩
        have j1 : IntKind.i64.wrap ((X : Int) + X') = (T : Int) := by rw [IntWalk.i64_in _ (by omega)]; omega
        have j2 : IntKind.i64.wrap (90 - (F : Int)) = (T : Int) := by rw [IntWalk.i64_in _ (by omega)]; omega
        rw [hT] at htot
        refine (gpieces_is hG6 hTr 0 X hX).mono ?_
        rintro e w7 ⟨A7, k7, rfl, hr, hb⟩
        have hG7 := hG6.next hb
        have hB8 := hB7.trans (hb.mono hB7.size)
        replace bQ := bQ.next hb
        replace hTr := hTr.next hb
        clear hG6 hB7 hb hr
        go_wp2_with fail
        refine (gpieces_is hG7 hTr 1 X' hX').mono ?_
        rintro e w8 ⟨A8, k8, rfl, hr, hb⟩
        have hG8 := hG7.next hb
        have hB9 := hB8.trans (hb.mono hB8.size)
        replace bQ := bQ.next hb
        replace hTr := hTr.next hb
        obtain ⟨z0, z1, z2, z3⟩ := ppos_cells bQ
        clear hG7 hB8 hb hr
        rcases htot with ⟨rfl, hz, hTT⟩ | ⟨rfl, hz, hTT⟩ | ⟨rfl, hTT⟩
        · rw [hz] at z2
          have j3 : IntKind.i64.wrap ((tw : Int) - 1) = (T : Int) := by rw [IntWalk.i64_in _ (by omega)]; omega
          clear hTT hT h90 hX hX' hz
          go_wp2_with fail
          refine (rfind_sq P.s 46 F _ hF).mono ?_
          rintro e w9 ⟨A9, k9, rfl, hr, hb⟩
          have hG9 := hG8.next hb
          have hB10 := hB9.trans (hb.mono hB9.size)
          clear hb hr z0 z1 z2 z3
          go_wp2_with fail
          go_roundw
          case rel => exact ⟨k + 1, v4, st4, P, by omega, by go_num, hG9, HI4, hB10⟩
          case measure => simp [intOf]; omega
        · have hz1 : (P.z == 0) = false := by simpa using hz
          have hz2 : decide (P.z = 0) = false := by simpa using hz
          subst hTT
          clear hT h90 hX hX' hz
          go_wp2_with fail
          refine (rfind_sq P.s 46 F _ hF).mono ?_
          rintro e w9 ⟨A9, k9, rfl, hr, hb⟩
          have hG9 := hG8.next hb
          have hB10 := hB9.trans (hb.mono hB9.size)
          clear hb hr z0 z1 z2 z3
          go_wp2_with fail
          go_roundw
          case rel => exact ⟨k + 1, v4, st4, P, by omega, by go_num, hG9, HI4, hB10⟩
          case measure => simp [intOf]; omega
        · subst hTT
          clear hT h90 hX hX'
          go_wp2_with fail
          refine (rfind_sq P.s 46 F _ hF).mono ?_
          rintro e w9 ⟨A9, k9, rfl, hr, hb⟩
          have hG9 := hG8.next hb
          have hB10 := hB9.trans (hb.mono hB9.size)
          clear hb hr z0 z1 z2 z3
          go_wp2_with fail
          go_roundw
          case rel => exact ⟨k + 1, v4, st4, P, by omega, by go_num, hG9, HI4, hB10⟩
          case measure => simp [intOf]; omega
      · have b1 : (n : Int) ≤ (k : Int) := by omega
        have hneg : (piecesL now.s (-1)).length = 0 := by rw [pieces_low (by decide)]; rfl
        go_wp2_with fail
        refine (gpieces_is hG hTr (-1) 0 hneg).mono ?_
        rintro e w2 ⟨A2, k2, rfl, hr, hb⟩
        replace hTr := hTr.next hb
        have hB3 := hB2.trans (hb.mono hB2.size)
        clear hb hr
        go_wp2_with fail
        refine (live9_any _ hTr).mono ?_
        rintro e w9 ⟨rfl, hb⟩
        go_wp2
        go_ret
        exact ⟨rfl, hB3.trans (hb.mono hB3.size)⟩
  · obtain ⟨r, hr⟩ : ∃ r, wellN s y z u = r := ⟨_, rfl⟩
    have h0 : ((r : Int) != 0) = true := by rw [← hr]; simpa using hw
    have HR := Lib.hid hr
    clear hw hr hs hs2
    go_enter Tryd.func5, Tryd.ntmps5
    go_wp2_with fail
    rw [HW.out]
    go_wp2_with fail
    refine (new_bad s y z u _ _ hT0 HR.out h0).mono ?_
    rintro e w1 ⟨rfl, hb⟩
    have hB1 := hB.trans (hb.mono hB.size)
    replace hT0 := hT0.next hb
    clear hb
    go_wp2_with fail
    refine (live9_any _ hT0).mono ?_
    rintro e w9 ⟨rfl, hb⟩
    go_wp2
    go_ret
    exact ⟨rfl, hB1.trans (hb.mono hB1.size)⟩
end Go.Proofs.YtocdmnkmepplcaaDoor.gsquares
