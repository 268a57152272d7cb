/- All moves of a match may be banned; then there is none: the call answers true. -/
import Derived.Test.YtbdgbihdhbjljaaGreatDoorMatchV
namespace Go.Proofs.YtbdgbihdhbjljaaGreatDoor.mall
open Go.RowKit Go.Shelf
open M (S)

set_option maxRecDepth 100000 in
set_option maxHeartbeats 4000000 in
theorem large (b0 : Bool) (p : Ps) (C : Option Addr) (a d : Nat) (w : World) (hT : Tab w) (h : 200 < p.s.size ∨ 20 < a) : Calls Tryz.prog 8 #[.agg #[.bool b0, .string p.s, .int .i64 p.y, .int .i64 p.z, .int .i64 p.u, .slice C a d]] w (Gives w (.bool true)) := by
  unfold Gives
  obtain ⟨s, y, z, u⟩ := p
  obtain ⟨W0, hW0⟩ : ∃ W0, w.alloc (.cells #[.bool b0, .string s, .int .i64 y, .int .i64 z, .int .i64 u, .slice C a d] 41) = W0 := ⟨_, rfl⟩
  have hB : Below w.heap.size w W0 := by rw [← hW0]; exact below_new _ _
  have bP : Blk W0 w.heap.size 41 #[.bool b0, .string s, .int .i64 y, .int .i64 z, .int .i64 u, .slice C a d] := by rw [← hW0]; exact Blk.new _ _ _ rfl
  obtain ⟨p0, p1, p2, p3, p4, p5⟩ := op_cells bP
  have HT := Lib.hid (hT.next hB)
  have h : 200 < s.size ∨ 20 < a := h
  have h : ((200 : Int) < (s.size : Int)) ∨ (¬ ((200 : Int) < (s.size : Int)) ∧ (20 : Int) < (a : Int)) := by omega
  rcases h with hd | ⟨hd, hd2⟩
  all_goals
    go_enter Tryz.func8, Tryz.ntmps8
    go_wp2_with fail
    (try rw [hW0])
    refine (live19_any _ HT.out).mono ?_
    rintro e w9 ⟨rfl, hb⟩
    go_wp2
    go_ret
    exact ⟨rfl, hB.trans (hb.mono hB.size)⟩
set_option maxRecDepth 100000 in
set_option maxHeartbeats 8000000 in
theorem small (b0 : Bool) (p : Ps) (C : Option Addr) (l : List (Int × Int)) (a d : Nat) (w : World) (hT : Tab w) (hm : Rd w C (mzL l)) (ha : l.length = a) (had : a ≤ d) (h1 : p.s.size ≤ 200) (h2 : a ≤ 20) : Calls Tryz.prog 8 #[.agg #[.bool b0, .string p.s, .int .i64 p.y, .int .i64 p.z, .int .i64 p.u, .slice C a d]] w (Gives w (.bool true)) := by
  unfold Gives
  have HSET := Lib.hid (fun (W : World) (mb : Nat) (h : MAt W mb froP0 0 0 0 none 0 []) (hTW : Tab W) (hr : Rd W C (mzL l)) => mset_new h p C l a d hTW hr ha had)
  obtain ⟨s, y, z, u⟩ := p
  have hd : ¬ (200 : Int) < (s.size : Int) := by have : s.size ≤ 200 := h1; omega
  have hd2 : ¬ (20 : Int) < (a : Int) := by omega
  obtain ⟨W0, hW0⟩ : ∃ W0, w.alloc (.cells #[.bool b0, .string s, .int .i64 y, .int .i64 z, .int .i64 u, .slice C a d] 41) = W0 := ⟨_, rfl⟩
  have hB : Below w.heap.size w W0 := by rw [← hW0]; exact below_new _ _
  have bP : Blk W0 w.heap.size 41 #[.bool b0, .string s, .int .i64 y, .int .i64 z, .int .i64 u, .slice C a d] := by rw [← hW0]; exact Blk.new _ _ _ rfl
  obtain ⟨p0, p1, p2, p3, p4, p5⟩ := op_cells bP
  have HT0 := Lib.hid hT
  have HT := Lib.hid (hT.next hB)
  have HR := Lib.hid (hm.next hB)
  have HB := Lib.hid hB
  have HP := Lib.hid bP
  have HW := Lib.hid hW0
  clear hW0 hB bP hT hm h1 h2
  go_enter Tryz.func8, Tryz.ntmps8
  go_wp2_with fail
  (try rw [HW.out])
  refine (mnew_is W0 HT.out).mono ?_
  rintro e w1 ⟨mb, rfl, hmb, hm1, hb1⟩
  have HMB : Hid (w.heap.size ≤ mb) := Nat.le_trans HB.out.size hmb
  have HM1 := Lib.hid hm1
  have HB1 := Lib.hid (HB.out.trans (hb1.mono HB.out.size))
  have HT1 := Lib.hid (HT.out.next hb1)
  have HR1 := Lib.hid (HR.out.next hb1)
  have hP1 := HP.out.next hb1
  clear hmb hm1 hb1 p0 p1 p2 p3 p4 p5
  obtain ⟨p0, p1, p2, p3, p4, p5⟩ := op_cells hP1
  go_wp2_with fail
  refine (HSET.out w1 mb HM1.out HT1.out HR1.out).mono ?_
  rintro e w2 ⟨er, q, kv, rv, n, rfl, _, hm2, hf2⟩
  have HM2 := Lib.hid hm2
  have HB2 := Lib.hid (far_tab HB1.out HMB.out hf2)
  clear hm2 hf2 p0 p1 p2 p3 p4 p5 hP1
  obtain ⟨L, hL⟩ : ∃ L, movesM q kv [] = L := ⟨_, rfl⟩
  obtain ⟨k, hk⟩ : ∃ k, L.length = k := ⟨_, rfl⟩
  have hk9 : k ≤ 8100 := by rw [← hk, ← hL]; exact movesM_len _ _ _
  have HK9 : Hid (k ≤ 1000000) := by show _ ≤ _; omega
  have HL := Lib.hid hL
  have HK := Lib.hid hk
  have HX : Hid (∀ x ∈ L, x ∈ allI q) := fun x hx => movesM_may (k := kv) (bs := []) (by rw [hL]; exact hx)
  have HBL : Hid (banL q L = L) := by show _ = _; rw [← hL]; exact ban_moves q kv
  have HML : Hid (movesM q kv L = []) := by show _ = _; rw [← hL]; exact moves_banned q kv
  have HBN : Hid (banL q [] = []) := ban_none q
  clear hL hk hk9
  go_wp2_with fail
  refine (mmoves_all HM2.out (HT0.out.next HB2.out) (by decide) L HL.out k HK.out).mono ?_
  rintro e w3 ⟨A3, c3, rfl, ho3, hb3⟩
  have HO3 := Lib.hid ho3
  have HB3 := Lib.hid (HB2.out.trans (hb3.mono HB2.out.size))
  have HM3 := Lib.hid (HM2.out.next hb3)
  have HLT : Hid (mb < w2.heap.size) := HM2.out.lt
  clear ho3 hb3
  go_wp2_with fail
  refine (mban_good HM3.out (HT0.out.next HB3.out) A3 L k c3 (Rd.owns HO3.out) HK.out HK9.out HX.out).mono ?_
  rintro e w4 ⟨rfl, A4, c4, hm4, hf4⟩
  rw [HBL.out] at hm4
  have HM4 := Lib.hid hm4
  have HB4 := Lib.hid (far_tab HB3.out HMB.out hf4)
  have HO4 := Lib.hid (hf4.rd HO3.out HLT.out)
  have HL9 : Hid (L.length ≤ 1000000) := by show _ ≤ _; rw [HK.out]; exact HK9.out
  clear hm4 hf4
  go_wp2_with fail
  refine (mbanned_any HM4.out HL9.out).mono ?_
  rintro e w5 ⟨v5, rfl, ho5, hb5⟩
  rw [HK.out] at ho5
  obtain ⟨A5, c5, rfl, _, _⟩ := own_any ho5
  have HB5 := Lib.hid (HB4.out.trans (hb5.mono HB4.out.size))
  have HM5 := Lib.hid (HM4.out.next hb5)
  have HO5 := Lib.hid (own_next HO4.out hb5)
  clear ho5 hb5
  go_wp2_with fail
  refine (mmoves_all HM5.out (HT0.out.next HB5.out) HL9.out [] HML.out 0 rfl).mono ?_
  rintro e w6 ⟨A6, c6, rfl, _, hb6⟩
  have HB6 := Lib.hid (HB5.out.trans (hb6.mono HB5.out.size))
  have HM6 := Lib.hid (HM5.out.next hb6)
  have HO6 := Lib.hid (own_next HO5.out hb6)
  clear hb6
  go_wp2_with fail
  refine (mban_good HM6.out (HT0.out.next HB6.out) none [] 0 0 (rd_nil _ _) rfl (by decide) (fun x hx => by cases hx)).mono ?_
  rintro e w7 ⟨rfl, A7, c7, hm7, hf7⟩
  rw [HBN.out] at hm7
  have HM7 := Lib.hid hm7
  have HB7 := Lib.hid (far_tab HB6.out HMB.out hf7)
  have HO7 := Lib.hid (hf7.rd HO6.out HLT.out)
  clear hm7 hf7
  go_wp2_with fail
  refine (mmoves_all HM7.out (HT0.out.next HB7.out) (by decide) L HL.out k HK.out).mono ?_
  rintro e w8 ⟨A8, c8, rfl, ho8, hb8⟩
  have HB8 := Lib.hid (HB7.out.trans (hb8.mono HB7.out.size))
  have HO8 := Lib.hid (own_next HO7.out hb8)
  have HP8 := Lib.hid ho8
  clear ho8 hb8
  go_wp2_with fail
  refine (msame_is A8 A3 L k c8 c3 w8 (Rd.owns HP8.out) (Rd.owns HO8.out) HK.out HK9.out).mono ?_
  rintro e w9 ⟨rfl, hb9⟩
  have HB9 := Lib.hid (HB8.out.trans (hb9.mono HB8.out.size))
  clear hb9
  go_wp2_with fail
  refine (live19_any _ (HT0.out.next HB9.out)).mono ?_
  rintro e w10 ⟨rfl, hb10⟩
  have hb := HB9.out.trans (hb10.mono HB9.out.size)
  go_wp2_with fail
  go_ret
  exact ⟨rfl, hb⟩
theorem walk (b0 : Bool) (p : Ps) (C : Option Addr) (l : List (Int × Int)) (d : Nat) (w : World) (hT : Tab w) (hm : Rd w C (mzL l)) (hd : l.length ≤ d) : Calls Tryz.prog 8 #[.agg #[.bool b0, .string p.s, .int .i64 p.y, .int .i64 p.z, .int .i64 p.u, .slice C l.length d]] w (Gives w (.bool true)) := by
  by_cases h1 : p.s.size ≤ 200
  · by_cases h2 : l.length ≤ 20
    · exact small b0 p C l _ d w hT hm rfl hd h1 h2
    · exact large b0 p C _ d w hT (.inr (by omega))
  · exact large b0 p C _ d w hT (.inl (by omega))
end Go.Proofs.YtbdgbihdhbjljaaGreatDoor.mall
