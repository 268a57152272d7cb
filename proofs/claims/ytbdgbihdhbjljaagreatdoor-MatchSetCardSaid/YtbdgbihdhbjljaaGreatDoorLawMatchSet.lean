/- A match that is set twice is as one that is set once, the second time; what was banned ahead is not any more: the call answers true. -/
import Derived.Test.YtbdgbihdhbjljaaGreatDoorMatchV
namespace Go.Proofs.YtbdgbihdhbjljaaGreatDoor.mset
open Go.RowKit Go.Shelf
open M (S)

theorem ps_beq (p : Ps) : (p.s.toList == p.s.toList) = true := by simp
set_option maxRecDepth 100000 in
set_option maxHeartbeats 4000000 in
theorem large (b0 b1 : Bool) (p q : Ps) (C D : Option Addr) (a d a2 d2 : Nat) (w : World) (hT : Tab w) (h : 200 < p.s.size ∨ 20 < a ∨ 200 < q.s.size ∨ 20 < a2) : Calls Tryz.prog 7 #[.agg #[.bool b0, .string p.s, .int .i64 p.y, .int .i64 p.z, .int .i64 p.u, .slice C a d], .agg #[.bool b1, .string q.s, .int .i64 q.y, .int .i64 q.z, .int .i64 q.u, .slice D a2 d2]] w (Gives w (.bool true)) := by
  unfold Gives
  obtain ⟨s, y, z, u⟩ := p
  obtain ⟨s2, y2, z2, u2⟩ := q
  obtain ⟨W0, hW0⟩ : ∃ W0, (w.alloc (.cells #[.bool b0, .string s, .int .i64 y, .int .i64 z, .int .i64 u, .slice C a d] 41)).alloc (.cells #[.bool b1, .string s2, .int .i64 y2, .int .i64 z2, .int .i64 u2, .slice D a2 d2] 41) = W0 := ⟨_, rfl⟩
  have hB : Below w.heap.size w W0 := by rw [← hW0]; exact (below_new _ _).alloc (by rw [World.size_alloc]; exact Nat.le_succ _) _
  have bP : Blk W0 w.heap.size 41 #[.bool b0, .string s, .int .i64 y, .int .i64 z, .int .i64 u, .slice C a d] := by rw [← hW0]; exact (Blk.new _ _ _ rfl).alloc _
  have bQ : Blk W0 (w.heap.size + 1) 41 #[.bool b1, .string s2, .int .i64 y2, .int .i64 z2, .int .i64 u2, .slice D a2 d2] := by rw [← hW0]; exact Blk.new _ _ _ (by rw [World.size_alloc])
  obtain ⟨p0, p1, p2, p3, p4, p5⟩ := op_cells bP
  obtain ⟨q0, q1, q2, q3, q4, q5⟩ := op_cells bQ
  have HT := Lib.hid (hT.next hB)
  have h : 200 < s.size ∨ 20 < a ∨ 200 < s2.size ∨ 20 < a2 := h
  have h : ((200 : Int) < (s.size : Int)) ∨ (¬ ((200 : Int) < (s.size : Int)) ∧ (20 : Int) < (a : Int)) ∨ (¬ ((200 : Int) < (s.size : Int)) ∧ ¬ (20 : Int) < (a : Int) ∧ (200 : Int) < (s2.size : Int)) ∨ (¬ ((200 : Int) < (s.size : Int)) ∧ ¬ (20 : Int) < (a : Int) ∧ ¬ (200 : Int) < (s2.size : Int) ∧ (20 : Int) < (a2 : Int)) := by omega
  rcases h with e1 | ⟨e1, e2⟩ | ⟨e1, e2, e3⟩ | ⟨e1, e2, e3, e4⟩
  all_goals
    go_enter Tryz.func7, Tryz.ntmps7
    go_wp2_with fail
    (try rw [hW0])
    refine (live19_any _ HT.out).mono ?_
    rintro e w9 ⟨rfl, hb⟩
    go_wp2
    go_ret
    exact ⟨rfl, hB.trans (hb.mono hB.size)⟩
set_option maxRecDepth 100000 in
set_option maxHeartbeats 8000000 in
theorem small (b0 b1 : Bool) (p p' : Ps) (C D : Option Addr) (l l' : List (Int × Int)) (a d a2 d2 : Nat) (w : World) (hT : Tab w) (hm : Rd w C (mzL l)) (ha : l.length = a) (had : a ≤ d) (hm' : Rd w D (mzL l')) (ha' : l'.length = a2) (had' : a2 ≤ d2) (h1 : p.s.size ≤ 200) (h2 : a ≤ 20) (h3 : p'.s.size ≤ 200) (h4 : a2 ≤ 20) : Calls Tryz.prog 7 #[.agg #[.bool b0, .string p.s, .int .i64 p.y, .int .i64 p.z, .int .i64 p.u, .slice C a d], .agg #[.bool b1, .string p'.s, .int .i64 p'.y, .int .i64 p'.z, .int .i64 p'.u, .slice D a2 d2]] w (Gives w (.bool true)) := by
  unfold Gives
  have HS1 := Lib.hid (fun (W : World) (mb : Nat) (h : MAt W mb froP0 0 0 0 none 0 []) (hTW : Tab W) (hr : Rd W C (mzL l)) => mset_new h p C l a d hTW hr ha had)
  have HS2 := Lib.hid (fun (W : World) (mb : Nat) (h : MAt W mb froP0 0 0 0 none 0 []) (hTW : Tab W) (hr : Rd W D (mzL l')) => mset_new h p' D l' a2 d2 hTW hr ha' had')
  have HS3 := Lib.hid (fun (W : World) (mb : Nat) (x : Ps) (k r : Int) (n : Nat) (A : Option Addr) (c : Nat) (bs : List (Int × Int)) (h : MAt W mb x k r n A c bs) (hTW : Tab W) (hr : Rd W D (mzL l')) => mset_any h p' D l' a2 d2 hTW hr ha' had')
  have HA2 := Lib.hid ha'
  obtain ⟨s, y, z, u⟩ := p


  obtain ⟨s2, y2, z2, u2⟩ := p'
  have e1 : ¬ (200 : Int) < (s.size : Int) := by have : s.size ≤ 200 := h1; omega
  have e2 : ¬ (20 : Int) < (a : Int) := by omega
  have e3 : ¬ (200 : Int) < (s2.size : Int) := by have : s2.size ≤ 200 := h3; omega
  have e4 : ¬ (20 : Int) < (a2 : Int) := by omega
  obtain ⟨W0, hW0⟩ : ∃ W0, (w.alloc (.cells #[.bool b0, .string s, .int .i64 y, .int .i64 z, .int .i64 u, .slice C a d] 41)).alloc (.cells #[.bool b1, .string s2, .int .i64 y2, .int .i64 z2, .int .i64 u2, .slice D a2 d2] 41) = W0 := ⟨_, rfl⟩
  have hB : Below w.heap.size w W0 := by rw [← hW0]; exact (below_new _ _).alloc (by rw [World.size_alloc]; exact Nat.le_succ _) _
  have bP : Blk W0 w.heap.size 41 #[.bool b0, .string s, .int .i64 y, .int .i64 z, .int .i64 u, .slice C a d] := by rw [← hW0]; exact (Blk.new _ _ _ rfl).alloc _
  have bQ : Blk W0 (w.heap.size + 1) 41 #[.bool b1, .string s2, .int .i64 y2, .int .i64 z2, .int .i64 u2, .slice D a2 d2] := by rw [← hW0]; exact Blk.new _ _ _ (by rw [World.size_alloc])
  obtain ⟨p0, p1, p2, p3, p4, p5⟩ := op_cells bP
  obtain ⟨q0, q1, q2, q3, q4, q5⟩ := op_cells bQ
  have HT0 := Lib.hid hT
  have HT := Lib.hid (hT.next hB)
  have HR := Lib.hid (hm.next hB)
  have HR' := Lib.hid (hm'.next hB)
  have HB := Lib.hid hB
  have HP := Lib.hid bP
  have HQ := Lib.hid bQ
  have HSZ : Hid (w.heap.size + 1 < W0.heap.size) := bQ.lt
  have HW := Lib.hid hW0
  clear hW0 hB bP bQ hT hm hm' h1 h2 h3 h4 ha'
  go_enter Tryz.func7, Tryz.ntmps7
  go_wp2_with fail
  (try rw [HW.out])
  refine (mnew_is W0 HT.out).mono ?_
  rintro e w1 ⟨mb, rfl, hmb, hm1, hb1⟩
  have HMB : Hid (W0.heap.size ≤ mb) := hmb
  have HM1 := Lib.hid hm1
  have HB1 := Lib.hid hb1
  clear hmb hm1 hb1 p0 p1 p2 p3 p4 p5 q0 q1 q2 q3 q4 q5
  go_wp2_with fail
  refine (mnew_is w1 (HT.out.next HB1.out)).mono ?_
  rintro e w2 ⟨kb, rfl, hkb, hk2, hb2⟩
  have HKB : Hid (W0.heap.size ≤ kb) := Nat.le_trans HB1.out.size hkb
  have HNE : Hid (kb ≠ mb) := by have := HM1.out.lt; show _ ≠ _; omega
  have HK2 := Lib.hid hk2
  have HM2 := Lib.hid (HM1.out.next hb2)
  have HB2 := Lib.hid (HB1.out.trans (hb2.mono HB1.out.size))
  have hP2 := HP.out.next HB2.out
  clear hkb hk2 hb2
  obtain ⟨p0, p1, p2, p3, p4, p5⟩ := op_cells hP2
  go_wp2_with fail
  refine (HS1.out w2 mb HM2.out (HT.out.next HB2.out) (HR.out.next HB2.out)).mono ?_
  rintro e w3 ⟨er, q, kv, rv, n, rfl, _, hm3, hf3⟩
  have HM3 := Lib.hid hm3
  have HK3 := Lib.hid (HK2.out.apart hf3 HNE.out)
  have HB3 := Lib.hid (far_tab HB2.out HMB.out hf3)
  clear hm3 hf3 p0 p1 p2 p3 p4 p5 hP2
  obtain ⟨L, hL⟩ : ∃ L, movesM q kv [] = L := ⟨_, rfl⟩
  obtain ⟨k, hk⟩ : ∃ k, L.length = k := ⟨_, rfl⟩
  have hk9 : k ≤ 8100 := by rw [← hk, ← hL]; exact movesM_len _ _ _
  have HK9 : Hid (k ≤ 1000000) := by show _ ≤ _; omega
  have HL := Lib.hid hL
  have HK := Lib.hid hk
  have HX : Hid (∀ x ∈ L, x ∈ allI q) := fun x hx => movesM_may (k := kv) (bs := []) (by rw [hL]; exact hx)
  clear hL hk hk9
  go_wp2_with fail
  refine (mmoves_all HM3.out (HT.out.next HB3.out) (by decide) L HL.out k HK.out).mono ?_
  rintro e w4 ⟨A4, c4, rfl, ho4, hb4⟩
  have HO4 := Lib.hid ho4
  have HB4 := Lib.hid (HB3.out.trans (hb4.mono HB3.out.size))
  have HM4 := Lib.hid (HM3.out.next hb4)
  have HK4 := Lib.hid (HK3.out.next hb4)
  clear ho4 hb4
  go_wp2_with fail
  refine (mban_good HM4.out (HT.out.next HB4.out) A4 L k c4 (Rd.owns HO4.out) HK.out HK9.out HX.out).mono ?_
  rintro e w5 ⟨rfl, A5, c5, hm5, hf5⟩
  have HM5 := Lib.hid hm5
  have HK5 := Lib.hid (HK4.out.apart hf5 HNE.out)
  have HB5 := Lib.hid (far_tab HB4.out HMB.out hf5)
  have hQ5 := HQ.out.next HB5.out
  clear hm5 hf5
  obtain ⟨q0, q1, q2, q3, q4, q5⟩ := op_cells hQ5
  go_wp2_with fail
  refine (HS3.out w5 mb q kv rv n A5 c5 (banL q L) HM5.out (HT.out.next HB5.out) (HR'.out.next HB5.out)).mono ?_
  rintro e w6 ⟨rfl, hcase⟩
  obtain ⟨E, hE⟩ : ∃ E, playE ⟨s2, y2, z2, u2⟩ l' = E := ⟨_, rfl⟩
  have HE := Lib.hid hE
  rw [hE] at hcase
  (try rw [hE])
  have HC := Lib.hid hcase
  have hf6 : Far (· = mb) w5 w6 := by
    rcases hcase with ⟨_, _, h⟩ | ⟨_, _, _, _, _, _, _, h⟩ <;> exact h
  have HK6 := Lib.hid (HK5.out.apart hf6 HNE.out)
  have HB6 := Lib.hid (far_tab HB5.out HMB.out hf6)
  have hQ6 := HQ.out.next HB6.out
  clear hcase hf6 hE q0 q1 q2 q3 q4 q5 hQ5
  obtain ⟨q0, q1, q2, q3, q4, q5⟩ := op_cells hQ6
  go_wp2_with fail
  refine (HS2.out w6 kb HK6.out (HT.out.next HB6.out) (HR'.out.next HB6.out)).mono ?_
  rintro e w7 ⟨fr, x, xk, xr, xn, rfl, hst, hk7, hf7⟩
  obtain rfl : fr = E := by rw [← hst.err]; exact HE.out
  have HST := Lib.hid hst
  have HK7 := Lib.hid hk7
  have HB7 := Lib.hid (far_tab HB6.out HKB.out hf7)
  have HF7 := Lib.hid hf7
  clear hst hk7 hf7 q0 q1 q2 q3 q4 q5 hQ6
  have ee : (fr != fr) = false := by simp
  by_cases h0 : fr = 0
  · subst h0
    obtain ⟨q', k', r', hv', hq', hm6⟩ : ∃ q' k' r', playV ⟨s2, y2, z2, u2⟩ l' = (k', r') ∧ (playL ⟨s2, y2, z2, u2⟩ l')[l'.length]? = some q' ∧ MAt w6 mb q' k' r' a2 none 0 [] := by
      rcases HC.out with ⟨h, _, _⟩ | ⟨_, q', k', r', h1, h2, h3, _⟩
      · exact absurd rfl h
      · exact ⟨q', k', r', h1, h2, h3⟩
    obtain ⟨hv, hq, hn⟩ := HST.out.good rfl
    obtain ⟨rfl, rfl⟩ : k' = xk ∧ r' = xr := by
      rw [hv'] at hv
      injection hv with h1 h2
      exact ⟨h1, h2⟩
    obtain rfl : q' = x := by
      rw [hq'] at hq
      injection hq
    obtain rfl : xn = a2 := hn.trans HA2.out
    have HM7 := Lib.hid (hm6.apart HF7.out (fun e => HNE.out e.symm))
    obtain ⟨L2, hL2⟩ : ∃ L2, movesM q' k' [] = L2 := ⟨_, rfl⟩
    obtain ⟨k2, hk2⟩ : ∃ k2, L2.length = k2 := ⟨_, rfl⟩
    have hk9 : k2 ≤ 8100 := by rw [← hk2, ← hL2]; exact movesM_len _ _ _
    have HK92 : Hid (k2 ≤ 1000000) := by show _ ≤ _; omega
    have HL2 := Lib.hid hL2
    have HKK2 := Lib.hid hk2
    have hpe := ps_beq q'
    clear hv hq hn hv' hq' hm6 hL2 hk2 hk9
    obtain ⟨xs, xy, xz, xu⟩ := q'
    simp only at hpe
    go_wp2_with fail
    refine (mnow_is HM7.out).mono ?_
    rintro e w8 ⟨rfl, hb⟩
    have HB8 := Lib.hid (HB7.out.trans (hb.mono HB7.out.size))
    have HM8 := Lib.hid (HM7.out.next hb)
    have HK8 := Lib.hid (HK7.out.next hb)
    clear hb
    go_wp2_with fail
    refine (mnow_is HK8.out).mono ?_
    rintro e w9 ⟨rfl, hb⟩
    have HB9 := Lib.hid (HB8.out.trans (hb.mono HB8.out.size))
    have HM9 := Lib.hid (HM8.out.next hb)
    have HK9' := Lib.hid (HK8.out.next hb)
    clear hb
    go_wp2_with fail
    refine (mplies_is HM9.out).mono ?_
    rintro e w10 ⟨rfl, hb⟩
    have HB10 := Lib.hid (HB9.out.trans (hb.mono HB9.out.size))
    have HM10 := Lib.hid (HM9.out.next hb)
    have HK10 := Lib.hid (HK9'.out.next hb)
    clear hb
    go_wp2_with fail
    refine (mplies_is HK10.out).mono ?_
    rintro e w11 ⟨rfl, hb⟩
    have HB11 := Lib.hid (HB10.out.trans (hb.mono HB10.out.size))
    have HM11 := Lib.hid (HM10.out.next hb)
    have HK11 := Lib.hid (HK10.out.next hb)
    clear hb
    go_wp2_with fail
    refine (mverdict_is HM11.out).mono ?_
    rintro e w12 ⟨rfl, hb⟩
    have HB12 := Lib.hid (HB11.out.trans (hb.mono HB11.out.size))
    have HM12 := Lib.hid (HM11.out.next hb)
    have HK12 := Lib.hid (HK11.out.next hb)
    clear hb
    go_wp2_with fail
    refine (mverdict_is HK12.out).mono ?_
    rintro e w13 ⟨rfl, hb⟩
    have HB13 := Lib.hid (HB12.out.trans (hb.mono HB12.out.size))
    have HM13 := Lib.hid (HM12.out.next hb)
    have HK13 := Lib.hid (HK12.out.next hb)
    clear hb
    go_wp2_with fail
    refine (mbanned_any HM13.out (by decide)).mono ?_
    rintro e w14 ⟨v14, rfl, ho, hb⟩
    obtain ⟨A14, c14, rfl, _, _⟩ := own_any ho
    have HB14 := Lib.hid (HB13.out.trans (hb.mono HB13.out.size))
    have HM14 := Lib.hid (HM13.out.next hb)
    have HK14 := Lib.hid (HK13.out.next hb)
    clear hb ho
    go_wp2_with fail
    refine (mmoves_all HM14.out (HT.out.next HB14.out) (by decide) L2 HL2.out k2 HKK2.out).mono ?_
    rintro e w15 ⟨A15, c15, rfl, ho, hb⟩
    have HO15 := Lib.hid ho
    have HB15 := Lib.hid (HB14.out.trans (hb.mono HB14.out.size))
    have HK15 := Lib.hid (HK14.out.next hb)
    clear hb ho
    go_wp2_with fail
    refine (mmoves_all HK15.out (HT.out.next HB15.out) (by decide) L2 HL2.out k2 HKK2.out).mono ?_
    rintro e w16 ⟨A16, c16, rfl, ho, hb⟩
    have HO16 := Lib.hid ho
    have HO15' := Lib.hid (own_next HO15.out hb)
    have HB16 := Lib.hid (HB15.out.trans (hb.mono HB15.out.size))
    clear hb ho
    go_wp2_with fail
    refine (msame_is A15 A16 L2 k2 c15 c16 w16 (Rd.owns HO15'.out) (Rd.owns HO16.out) HKK2.out HK92.out).mono ?_
    rintro e w17 ⟨rfl, hb⟩
    have HB17 := Lib.hid (HB16.out.trans (hb.mono HB16.out.size))
    clear hb
    go_wp2_with fail
    refine (live19_any _ (HT.out.next HB17.out)).mono ?_
    rintro e w18 ⟨rfl, hb⟩
    have hb2 := HB.out.trans ((HB17.out.trans (hb.mono HB17.out.size)).mono HB.out.size)
    go_wp2_with fail
    go_ret
    exact ⟨rfl, hb2⟩
  · have k0 : (fr != 0) = true := by rw [bne_iff_ne]; exact h0
    clear h0
    go_wp2_with fail
    refine (live19_any _ (HT.out.next HB7.out)).mono ?_
    rintro e w8 ⟨rfl, hb⟩
    have hb2 := HB.out.trans ((HB7.out.trans (hb.mono HB7.out.size)).mono HB.out.size)
    go_wp2_with fail
    go_ret
    exact ⟨rfl, hb2⟩
theorem walk (b0 b1 : Bool) (p q : Ps) (C D : Option Addr) (l l' : List (Int × Int)) (d d' : Nat) (w : World) (hT : Tab w) (hm : Rd w C (mzL l)) (hd : l.length ≤ d) (hm' : Rd w D (mzL l')) (hd' : l'.length ≤ d') : Calls Tryz.prog 7 #[.agg #[.bool b0, .string p.s, .int .i64 p.y, .int .i64 p.z, .int .i64 p.u, .slice C l.length d], .agg #[.bool b1, .string q.s, .int .i64 q.y, .int .i64 q.z, .int .i64 q.u, .slice D l'.length d']] w (Gives w (.bool true)) := by
  by_cases h1 : p.s.size ≤ 200 ∧ l.length ≤ 20 ∧ q.s.size ≤ 200 ∧ l'.length ≤ 20
  · exact small b0 b1 p q C D l l' _ d _ d' w hT hm rfl hd hm' rfl hd' h1.1 h1.2.1 h1.2.2.1 h1.2.2.2
  · exact large b0 b1 p q C D _ d _ d' w hT (by omega)
end Go.Proofs.YtbdgbihdhbjljaaGreatDoor.mset
