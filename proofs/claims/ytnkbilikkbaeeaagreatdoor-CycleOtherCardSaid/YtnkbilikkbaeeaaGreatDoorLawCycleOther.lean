/- Clocks and numbers of positions are of no moment, nor what is asked of a side that there is not: the call answers true. -/
import Derived.Test.YtnkbilikkbaeeaaGreatDoorCycleH
namespace Go.Proofs.YtnkbilikkbaeeaaGreatDoor.cyother
open Go.RowKit Go.Shelf
open M (S)

theorem ear_is (A : Option Addr) (l : List Ps) (n c : Nat) (v : Int) (w : World) (hr : Rd w A (psL l)) (hn : l.length = n) (hl : n ≤ 1000000) (hv : earlierI l = v) : Calls Tryz.prog 30 #[.slice A n c] w (Gives w (.int .i64 v)) := by
  subst hv
  exact cearlier_any A l n c w hr hn hl
def oneU (p : Ps) : Ps := ⟨p.s, p.y, p.z, 1⟩
set_option maxRecDepth 100000 in
set_option maxHeartbeats 4000000 in
theorem large (p : Ps) (C : Option Addr) (a d : Nat) (x : Int) (w : World) (hT : Tab w) (h : 200 < p.s.size ∨ 20 < a) : Calls Tryz.prog 9 #[.agg #[.string p.s, .int .i64 p.y, .int .i64 p.z, .int .i64 p.u], .slice C a d, .int .i64 x] w (Gives w (.bool true)) := by
  unfold Gives
  obtain ⟨s, y, z, u⟩ := p
  obtain ⟨W0, hW0⟩ : ∃ W0, w.alloc (.cells #[.string s, .int .i64 y, .int .i64 z, .int .i64 u] 36) = W0 := ⟨_, rfl⟩
  have hB : Below w.heap.size w W0 := by rw [← hW0]; exact below_new _ _
  have bP : Blk W0 w.heap.size 36 #[.string s, .int .i64 y, .int .i64 z, .int .i64 u] := by rw [← hW0]; exact Blk.new _ _ _ rfl
  obtain ⟨p0, p1, p2, p3⟩ := four_cells bP
  replace hT := hT.below hB hT.lt
  have h : 200 < s.size ∨ 20 < a := h
  by_cases h1 : 200 < s.size
  · have hd : (200 : Int) < (s.size : Int) := by omega
    clear h h1
    go_enter Tryz.func9, Tryz.ntmps9
    go_wp2_with fail
    (try rw [hW0])
    refine (live17_any _ hT).mono ?_
    rintro e w9 ⟨rfl, hb⟩
    go_wp2
    go_ret
    exact ⟨rfl, hB.trans (hb.mono hB.size)⟩
  · have hd : ¬ (200 : Int) < (s.size : Int) := by omega
    have hd2 : (20 : Int) < (a : Int) := by omega
    clear h h1
    go_enter Tryz.func9, Tryz.ntmps9
    go_wp2_with fail
    (try rw [hW0])
    refine (live17_any _ hT).mono ?_
    rintro e w9 ⟨rfl, hb⟩
    go_wp2
    go_ret
    exact ⟨rfl, hB.trans (hb.mono hB.size)⟩
set_option maxRecDepth 100000 in
set_option maxHeartbeats 4000000 in
theorem small (p : Ps) (C : Option Addr) (l : List (Int × Int)) (a d : Nat) (x : Int) (w : World) (hT : Tab w) (hm : Rd w C (mzL l)) (ha : l.length = a) (h1 : p.s.size ≤ 200) (h2 : a ≤ 20) : Calls Tryz.prog 9 #[.agg #[.string p.s, .int .i64 p.y, .int .i64 p.z, .int .i64 p.u], .slice C a d, .int .i64 x] w (Gives w (.bool true)) := by
  unfold Gives
  obtain ⟨i0, hi, hz0, hz1, hz2⟩ := info_partsY info_pos4
  obtain ⟨hch, hcur, hmk⟩ := play_chain p l l.length (Nat.le_refl _)
  rw [List.take_length] at hch hcur hmk
  have hplay := fun W (hr : Rd W C (mzL l)) => played_any C p l a d W hr ha (by omega)
  obtain ⟨⟨ls, ms, cur⟩, hpf⟩ : ∃ x, playF p l = x := ⟨_, rfl⟩
  rw [hpf] at hch hcur hmk hplay
  have hch : Chain p ls ms := hch
  have hmk : ms.length ≤ l.length := hmk
  obtain ⟨n, hn⟩ : ∃ n, ms.length = n := ⟨_, rfl⟩
  have hlsn : ls.length = n + 1 := by rw [hch.len, hn]
  have hmk9 : n ≤ 20 := by rw [← hn]; omega
  have hE : earlierI (ls.map oneU) = earlierI ls := by
    unfold earlierI
    rw [List.length_map]
    refine first_same fun k hk => ?_
    unfold sameAt
    rw [List.getElem?_map, List.getElem?_map]
    cases ls[k]? <;> cases ls[ls.length - 1]? <;> rfl
  have hCl : n ≠ 0 → ∀ sd, classI (ls.map oneU) ms sd = classI ls ms sd := fun h0 sd => (class_like (pair_map oneU fun j q hq => by
    have hw := hch.well (.inr (by omega)) hq
    exact ⟨hw, well_full hw (Int.le_refl 1) (show (1 : Int) ≤ 9999 by omega), rfl, rfl⟩) ms sd).symm
  have hNo : n ≠ 0 → (x ≠ 0 ∧ x ≠ 1) → classI ls ms x = 0 := fun h0 hx => class_nobody fun j hj => by
    obtain ⟨q, hq⟩ := hch.get (j := j) (by omega)
    have hs := Ps.side (hch.well (.inr (by omega)) hq)
    rw [of_of hq, beq_eq_false_iff_ne]
    omega
  obtain ⟨s, y, z, u⟩ := p
  have hd : ¬ (200 : Int) < (s.size : Int) := by have : s.size ≤ 200 := h1; omega
  have hd2 : ¬ (20 : Int) < (a : Int) := by omega
  have HPL := Lib.hid hplay
  have HN := Lib.hid hn
  have HLS := Lib.hid hlsn
  have HE := Lib.hid hE
  have HCL := Lib.hid hCl
  have HNO := Lib.hid hNo
  obtain ⟨W0, hW0⟩ : ∃ W0, w.alloc (.cells #[.string s, .int .i64 y, .int .i64 z, .int .i64 u] 36) = W0 := ⟨_, rfl⟩
  have hB : Below w.heap.size w W0 := by rw [← hW0]; exact below_new _ _
  have bP : Blk W0 w.heap.size 36 #[.string s, .int .i64 y, .int .i64 z, .int .i64 u] := by rw [← hW0]; exact Blk.new _ _ _ rfl
  replace hT := hT.below hB hT.lt
  have HMM := Lib.hid (hm.next hB)
  obtain ⟨p0, p1, p2, p3⟩ := four_cells bP
  clear h1 h2 hm ha hch hcur hmk hplay hpf hn hlsn hE hCl hNo
  go_enter Tryz.func9, Tryz.ntmps9
  go_wp2_with fail
  (try rw [hW0])
  refine (HPL.out _ HMM.out).mono ?_
  rintro e w1 ⟨v1, v2, rfl, hP, hb1⟩
  have hP1 : w1.ownsRow (W0.heap.size + 1) 36 4 v1 (n + 1) (psL ls) := by have := hP.r1; rw [← HLS.out]; exact this
  have hP2 : w1.ownsRow (W0.heap.size + 1) 28 2 v2 n (mzL ms) := by have := hP.r2; rw [← HN.out]; exact this
  obtain ⟨A1, c1, rfl, hr1, hc1⟩ := own_any hP1
  obtain ⟨A2, c2, rfl, hr2, hc2⟩ := own_any hP2
  have hB1 := hB.trans (hb1.mono hB.size)
  have hT1 := hT.next hb1
  clear p0 p1 p2 p3 hP hP1 hP2 hc1
  go_wp2_with fail
  go_loopw [9, 10, 11] (fun vk i _ wr => ∃ k : Nat, k ≤ n + 1 ∧ i = .int .i64 (k : Int) ∧ wr.ownsRow w1.heap.size 36 4 vk k (psL ((ls.take k).map oneU)) ∧ Below w1.heap.size w1 wr) (fun _ i _ _ => n + 1 - (intOf i).toNat)
  case atStart => exact ⟨0, Nat.zero_le _, rfl, by rw [List.take_zero]; exact World.ownsRow_nil _ _ _ _, Below.refl _ _⟩
  case round =>
    obtain ⟨k, hk, rfl, hown, hBk⟩ := hrel
    have hBB := hB1.trans (hBk.mono hB1.size)
    have hTk := hT1.next hBk
    by_cases hlt : k < n + 1
    · have bk : (k : Int) < ((n + 1 : Nat) : Int) := by omega
      have bk' : (k : Int) < (n : Int) + 1 := by omega
      have hkl : k < ls.length := by rw [HLS.out]; exact hlt
      obtain ⟨g1, b1, rfl, d0, d1, d2, d3⟩ := hr1.ps hkl
      have hsnoc : ((ls.take (k + 1)).map oneU) = ((ls.take k).map oneU) ++ [oneU (ls[k]'hkl)] := by
        rw [List.take_succ_eq_append_getElem hkl, List.map_append]; rfl
      obtain ⟨⟨s', y', z', u'⟩, hq⟩ : ∃ q, ls[k]'hkl = q := ⟨_, rfl⟩
      rw [hq] at d0 d1 d2 d3 hsnoc
      have c0 := (hBk.cell (p := ⟨g1, b1 + k * 4, none⟩) (cell_lt d0)).trans d0
      have c1' := (hBk.cell (p := ⟨g1, b1 + k * 4 + 1, none⟩) (cell_lt d1)).trans d1
      have c2' := (hBk.cell (p := ⟨g1, b1 + k * 4 + 2, none⟩) (cell_lt d2)).trans d2
      have c3' := (hBk.cell (p := ⟨g1, b1 + k * 4 + 3, none⟩) (cell_lt d3)).trans d3
      have HSN := Lib.hid hsnoc
      have HOWN := Lib.hid hown
      clear hown hsnoc d0 d1 d2 d3 hq
      have HSZ : Hid (w1.heap.size ≤ wr.heap.size ∧ k ≤ 1000) := ⟨hBk.size, by omega⟩
      have hn2 := cells_four_new (wr.alloc (.cells #[.string s', .int .i64 y', .int .i64 z', .int .i64 1] 36)) (.string s') (.int .i64 y') (.int .i64 z') (.int .i64 1) 36
      rw [World.size_alloc] at hn2
      have HN2 := Lib.hid hn2
      clear hn2
      go_wp2_with (first
        | (at_builtin; refine wpList_append_own_at _ rfl _ _ 45 rfl w1.heap.size 36 i0 (.agg #[.string ⟨#[]⟩, .int .i64 0, .int .i64 0, .int .i64 0]) 4 40 Tryz.underlying45 hi hz0 hz1 hz2 rfl (by decide) _ _ _ rfl (own_next (own_next HOWN.out (below_new _ _)) (below_new _ _)) ⟨wr.heap.size + 1, 0, none⟩ 1 1 [.string s', .int .i64 y', .int .i64 z', .int .i64 1] rfl rfl HN2.out (by simp [Value.oneCell']) (by have := HSZ.out; unfold maxLen; omega) (by have := HSZ.out; omega) (by have := HSZ.out; simp; omega) ?_; intro v1' w5 hown' hgrow _ hat))
      have hB5 : Below w1.heap.size w1 w5 := below_app (hBk.trans ((below_new wr _).mono hBk.size)) (by rw [World.size_alloc]; have := HSZ.out; omega) (own_next HOWN.out (below_new _ _)) hgrow
      go_roundw
      case rel => exact ⟨k + 1, by omega, by go_num, by rw [HSN.out, psL_snoc]; exact hown', hB5⟩
      case measure => simp [intOf]; omega
    · obtain rfl : k = n + 1 := by omega
      have bk : ¬ ((n + 1 : Nat) : Int) < ((n + 1 : Nat) : Int) := by omega
      have bk' : ¬ (n : Int) + 1 < (n : Int) + 1 := by omega
      rw [List.take_of_length_le (by rw [HLS.out]; exact Nat.le_refl _)] at hown
      obtain ⟨A3, c3, rfl, hr3, hc3⟩ := own_any hown
      clear hown hlt hk
      have hl3 : (ls.map oneU).length = n + 1 := by rw [List.length_map, HLS.out]
      have HL3 := Lib.hid hl3
      clear hl3
      have hTT : ∀ W, Below wr.heap.size wr W → Tab W := fun W h => hTk.next h
      have hEnd : ∀ W, Below wr.heap.size wr W → Below w.heap.size w W := fun W h => hBB.trans (h.mono hBB.size)
      have HTT := Lib.hid hTT
      have HEND := Lib.hid hEnd
      have HR1 := Lib.hid (hr1.next hBk)
      have HR2 := Lib.hid (hr2.next hBk)
      have HR3 := Lib.hid hr3
      clear hTT hEnd hr1 hr2 hr3
      by_cases hx : x < 0
      · by_cases h0 : n = 0
        · subst h0
          go_wp2_with fail
          refine (live17_any _ (HTT.out _ (Below.refl _ _))).mono ?_
          rintro e8 w9 ⟨rfl, hb⟩
          go_wp2
          go_ret
          exact ⟨rfl, HEND.out _ hb⟩
        · have nn : ((n : Int) == 0) = false := by rw [beq_eq_false_iff_ne]; omega
          have hv0 := HNO.out h0 (by omega)
          have HV := Lib.hid hv0
          clear hv0 h0
          go_wp2_with fail
          refine (class_is _ _ ls ms x 0 (n + 1) n c1 c2 _ (HTT.out _ (Below.refl _ _)) HR1.out HLS.out HR2.out HN.out (by omega) (by omega) hc2 HV.out).mono ?_
          rintro e8 w3 ⟨rfl, hb3⟩
          go_wp2_with fail
          refine (live17_any _ (HTT.out _ hb3)).mono ?_
          rintro e8 w9 ⟨rfl, hb⟩
          go_wp2
          go_ret
          exact ⟨rfl, HEND.out _ (hb3.trans (hb.mono hb3.size))⟩
      · by_cases hx1 : 1 < x
        · by_cases h0 : n = 0
          · subst h0
            go_wp2_with fail
            refine (live17_any _ (HTT.out _ (Below.refl _ _))).mono ?_
            rintro e8 w9 ⟨rfl, hb⟩
            go_wp2
            go_ret
            exact ⟨rfl, HEND.out _ hb⟩
          · have nn : ((n : Int) == 0) = false := by rw [beq_eq_false_iff_ne]; omega
            have hv0 := HNO.out h0 (by omega)
            have HV := Lib.hid hv0
            clear hv0 h0
            go_wp2_with fail
            refine (class_is _ _ ls ms x 0 (n + 1) n c1 c2 _ (HTT.out _ (Below.refl _ _)) HR1.out HLS.out HR2.out HN.out (by omega) (by omega) hc2 HV.out).mono ?_
            rintro e8 w3 ⟨rfl, hb3⟩
            go_wp2_with fail
            refine (live17_any _ (HTT.out _ hb3)).mono ?_
            rintro e8 w9 ⟨rfl, hb⟩
            go_wp2
            go_ret
            exact ⟨rfl, HEND.out _ (hb3.trans (hb.mono hb3.size))⟩
        · obtain ⟨ev, hev⟩ : ∃ v, earlierI ls = v := ⟨_, rfl⟩
          have HEV := Lib.hid hev
          have ee : (ev == ev) = true := by simp
          clear hev
          by_cases h0 : n = 0
          · subst h0
            go_wp2_with fail
            refine (ear_is _ ls (0 + 1) c1 ev _ HR1.out HLS.out (by omega) HEV.out).mono ?_
            rintro e8 w3 ⟨rfl, hb3⟩
            go_wp2_with fail
            refine (ear_is _ _ (0 + 1) c3 ev _ (HR3.out.next hb3) HL3.out (by omega) (HE.out.trans HEV.out)).mono ?_
            rintro e8 w4 ⟨rfl, hb4⟩
            have hb34 := hb3.trans (hb4.mono hb3.size)
            go_wp2_with fail
            refine (live17_any _ (HTT.out _ hb34)).mono ?_
            rintro e8 w9 ⟨rfl, hb⟩
            go_wp2
            go_ret
            exact ⟨rfl, HEND.out _ (hb34.trans (hb.mono hb34.size))⟩
          · have nn : ((n : Int) == 0) = false := by rw [beq_eq_false_iff_ne]; omega
            obtain ⟨v, hv⟩ : ∃ v, classI ls ms x = v := ⟨_, rfl⟩
            have hv2 := (HCL.out h0 x).trans hv
            have HV := Lib.hid hv
            have HV2 := Lib.hid hv2
            have vv : (v == v) = true := by simp
            clear hv hv2 h0
            go_wp2_with fail
            refine (class_is _ _ ls ms x v (n + 1) n c1 c2 _ (HTT.out _ (Below.refl _ _)) HR1.out HLS.out HR2.out HN.out (by omega) (by omega) hc2 HV.out).mono ?_
            rintro e8 w3 ⟨rfl, hb3⟩
            go_wp2_with fail
            refine (class_is _ _ _ ms x v (n + 1) n c3 c2 _ (HTT.out _ hb3) (HR3.out.next hb3) HL3.out (HR2.out.next hb3) HN.out (by omega) (by omega) hc2 HV2.out).mono ?_
            rintro e8 w4 ⟨rfl, hb4⟩
            have hb34 := hb3.trans (hb4.mono hb3.size)
            go_wp2_with fail
            refine (ear_is _ ls (n + 1) c1 ev _ (HR1.out.next hb34) HLS.out (by omega) HEV.out).mono ?_
            rintro e8 w5 ⟨rfl, hb5⟩
            have hb35 := hb34.trans (hb5.mono hb34.size)
            go_wp2_with fail
            refine (ear_is _ _ (n + 1) c3 ev _ (HR3.out.next hb35) HL3.out (by omega) (HE.out.trans HEV.out)).mono ?_
            rintro e8 w6 ⟨rfl, hb6⟩
            have hb36 := hb35.trans (hb6.mono hb35.size)
            go_wp2_with fail
            refine (live17_any _ (HTT.out _ hb36)).mono ?_
            rintro e8 w9 ⟨rfl, hb⟩
            go_wp2
            go_ret
            exact ⟨rfl, HEND.out _ (hb36.trans (hb.mono hb36.size))⟩
theorem walk (p : Ps) (C : Option Addr) (l : List (Int × Int)) (d : Nat) (x : Int) (w : World) (hT : Tab w) (hm : Rd w C (mzL l)) : Calls Tryz.prog 9 #[.agg #[.string p.s, .int .i64 p.y, .int .i64 p.z, .int .i64 p.u], .slice C l.length d, .int .i64 x] w (Gives w (.bool true)) := by
  by_cases h1 : p.s.size ≤ 200
  · by_cases h2 : l.length ≤ 20
    · exact small p C l _ d x w hT hm rfl h1 h2
    · exact large p C _ d x w hT (.inr (by omega))
  · exact large p C _ d x w hT (.inl (by omega))
end Go.Proofs.YtnkbilikkbaeeaaGreatDoor.cyother
