/- What is refused changes nothing; a match that is none does nothing: the call answers true. -/
import Derived.Test.YtbdgbihdhbjljaaGreatDoorMatchV
namespace Go.Proofs.YtbdgbihdhbjljaaGreatDoor.mref
open Go.RowKit Go.Shelf
open M (S)

theorem ps_beq (p : Ps) : (p.s.toList == p.s.toList) = true := by simp
set_option maxRecDepth 100000 in
set_option maxHeartbeats 4000000 in
theorem large (b0 b1 : Bool) (p q : Ps) (C D : Option Addr) (a d a2 d2 : Nat) (w : World) (hT : Tab w) (h : 200 < p.s.size ∨ 20 < a ∨ 200 < q.s.size ∨ 20 < a2) : Calls Tryz.prog 6 #[.agg #[.bool b0, .string p.s, .int .i64 p.y, .int .i64 p.z, .int .i64 p.u, .slice C a d], .agg #[.bool b1, .string q.s, .int .i64 q.y, .int .i64 q.z, .int .i64 q.u, .slice D a2 d2]] w (Gives w (.bool true)) := by
  unfold Gives
  obtain ⟨s, y, z, u⟩ := p
  obtain ⟨s2, y2, z2, u2⟩ := q
  obtain ⟨W0, hW0⟩ : ∃ W0, (w.alloc (.cells #[.bool b0, .string s, .int .i64 y, .int .i64 z, .int .i64 u, .slice C a d] 41)).alloc (.cells #[.bool b1, .string s2, .int .i64 y2, .int .i64 z2, .int .i64 u2, .slice D a2 d2] 41) = W0 := ⟨_, rfl⟩
  have hB : Below w.heap.size w W0 := by rw [← hW0]; exact (below_new _ _).alloc (by rw [World.size_alloc]; exact Nat.le_succ _) _
  have bP : Blk W0 w.heap.size 41 #[.bool b0, .string s, .int .i64 y, .int .i64 z, .int .i64 u, .slice C a d] := by rw [← hW0]; exact (Blk.new _ _ _ rfl).alloc _
  have bQ : Blk W0 (w.heap.size + 1) 41 #[.bool b1, .string s2, .int .i64 y2, .int .i64 z2, .int .i64 u2, .slice D a2 d2] := by rw [← hW0]; exact Blk.new _ _ _ (by rw [World.size_alloc])
  obtain ⟨p0, p1, p2, p3, p4, p5⟩ := op_cells bP
  obtain ⟨q0, q1, q2, q3, q4, q5⟩ := op_cells bQ
  have HT := Lib.hid (hT.next hB)
  have h : 200 < s.size ∨ 20 < a ∨ 200 < s2.size ∨ 20 < a2 := h
  have h : ((200 : Int) < (s.size : Int)) ∨ (¬ ((200 : Int) < (s.size : Int)) ∧ (20 : Int) < (a : Int)) ∨ (¬ ((200 : Int) < (s.size : Int)) ∧ ¬ (20 : Int) < (a : Int) ∧ (200 : Int) < (s2.size : Int)) ∨ (¬ ((200 : Int) < (s.size : Int)) ∧ ¬ (20 : Int) < (a : Int) ∧ ¬ (200 : Int) < (s2.size : Int) ∧ (20 : Int) < (a2 : Int)) := by omega
  rcases h with e1 | ⟨e1, e2⟩ | ⟨e1, e2, e3⟩ | ⟨e1, e2, e3, e4⟩
  all_goals
    go_enter Tryz.func6, Tryz.ntmps6
    go_wp2_with fail
    (try rw [hW0])
    refine (live19_any _ HT.out).mono ?_
    rintro e w9 ⟨rfl, hb⟩
    go_wp2
    go_ret
    exact ⟨rfl, hB.trans (hb.mono hB.size)⟩
/-- What the rest of the walk needs. -/
def RS (w : World) (gn mb : Nat) (q : Ps) (kv rv : Int) (n : Nat) (W : World) : Prop := W.cell? ⟨gn, 0, none⟩ = some (.string q.s) ∧ W.cell? ⟨gn, 1, none⟩ = some (.int .i64 q.y) ∧ W.cell? ⟨gn, 2, none⟩ = some (.int .i64 q.z) ∧ W.cell? ⟨gn, 3, none⟩ = some (.int .i64 q.u) ∧ MAt W mb q kv rv n none 0 [] ∧ Tab W ∧ Below w.heap.size w W
theorem rs_keep {w : World} {gn mb : Nat} {q : Ps} {kv rv : Int} {n : Nat} {W W' : World} (H : RS w gn mb q kv rv n W) (hb : Below W.heap.size W W') : RS w gn mb q kv rv n W' := by
  obtain ⟨h0, h1, h2, h3, h4, h5, h6⟩ := H
  exact ⟨(hb.cell (cell_lt h0)).trans h0, (hb.cell (cell_lt h1)).trans h1, (hb.cell (cell_lt h2)).trans h2, (hb.cell (cell_lt h3)).trans h3, h4.next hb, h5.next hb, h6.trans (hb.mono h6.size)⟩
theorem rs_m {w : World} {gn mb : Nat} {q : Ps} {kv rv : Int} {n : Nat} {W : World} (H : RS w gn mb q kv rv n W) : MAt W mb q kv rv n none 0 [] := H.2.2.2.2.1
theorem rs_tab {w : World} {gn mb : Nat} {q : Ps} {kv rv : Int} {n : Nat} {W : World} (H : RS w gn mb q kv rv n W) : Tab W := H.2.2.2.2.2.1
theorem rs_below {w : World} {gn mb : Nat} {q : Ps} {kv rv : Int} {n : Nat} {W : World} (H : RS w gn mb q kv rv n W) : Below w.heap.size w W := H.2.2.2.2.2.2
set_option maxRecDepth 100000 in
set_option maxHeartbeats 8000000 in
theorem small (b0 b1 : Bool) (p p' : Ps) (C D : Option Addr) (l l' : List (Int × Int)) (a d a2 d2 : Nat) (w : World) (hT : Tab w) (hm : Rd w C (mzL l)) (ha : l.length = a) (had : a ≤ d) (hm' : Rd w D (mzL l')) (ha' : l'.length = a2) (had' : a2 ≤ d2) (h1 : p.s.size ≤ 200) (h2 : a ≤ 20) (h3 : p'.s.size ≤ 200) (h4 : a2 ≤ 20) : Calls Tryz.prog 6 #[.agg #[.bool b0, .string p.s, .int .i64 p.y, .int .i64 p.z, .int .i64 p.u, .slice C a d], .agg #[.bool b1, .string p'.s, .int .i64 p'.y, .int .i64 p'.z, .int .i64 p'.u, .slice D a2 d2]] w (Gives w (.bool true)) := by
  unfold Gives
  have HS1 := Lib.hid (fun (W : World) (mb : Nat) (h : MAt W mb froP0 0 0 0 none 0 []) (hTW : Tab W) (hr : Rd W C (mzL l)) => mset_new h p C l a d hTW hr ha had)
  have HS3 : Hid (∀ (W : World) (mb : Nat) (x : Ps) (k r : Int) (n : Nat) (h : MAt W mb x k r n none 0 []) (hTW : Tab W) (hr : Rd W D (mzL l')), Calls Tryz.prog 20 #[.pointer (some ⟨mb, 0, none⟩), .agg #[.string p'.s, .int .i64 p'.y, .int .i64 p'.z, .int .i64 p'.u], .slice D a2 d2] W fun e w' => ∃ er, e = .returned (.int .i64 er) ∧ (er ≠ 0 → MAt w' mb x k r n none 0 []) ∧ Far (· = mb) W w') := fun W mb x k r n h hTW hr => by
    refine (mset_any h p' D l' a2 d2 hTW hr ha' had').mono ?_
    rintro e w' ⟨rfl, hh⟩
    rcases hh with ⟨_, h1, h2⟩ | ⟨h0, _, _, _, _, _, _, h2⟩
    · exact ⟨_, rfl, fun _ => h1, h2⟩
    · exact ⟨_, rfl, fun h => absurd h0 h, h2⟩
  have HS4 : Hid (∀ (W : World) (mb : Nat) (x : Ps) (k r : Int) (n : Nat) (h : MAt W mb x k r n none 0 []) (hTW : Tab W) (hr : Rd W D (mzL l')), Calls Tryz.prog 22 #[.pointer (some ⟨mb, 0, none⟩), .slice D a2 d2] W fun e w' => ∃ er, e = .returned (.int .i64 er) ∧ (er ≠ 0 → MAt w' mb x k r n none 0 []) ∧ Far (· = mb) W w') := fun W mb x k r n h hTW hr => by
    refine (mban_any h hTW D l' a2 d2 hr ha' (by omega) _ rfl).mono ?_
    rintro e w' ⟨rfl, hh⟩
    rcases hh with ⟨h0, hb⟩ | ⟨h0, A', c', _, hf⟩
    · exact ⟨_, rfl, fun _ => h.next hb, Far.of hb⟩
    · rw [h0]
      exact ⟨_, rfl, fun h => absurd rfl h, hf⟩
  have HN1 : Hid (∀ W, Calls Tryz.prog 20 #[.pointer none, .agg #[.string p.s, .int .i64 p.y, .int .i64 p.z, .int .i64 p.u], .slice C a d] W (Gives W (.int .i64 1))) := fun W => mset_nil p C a d W
  obtain ⟨s, y, z, u⟩ := p
  obtain ⟨s2, y2, z2, u2⟩ := p'
  have e1 : ¬ (200 : Int) < (s.size : Int) := by have : s.size ≤ 200 := h1; omega
  have e2 : ¬ (20 : Int) < (a : Int) := by omega
  have e3 : ¬ (200 : Int) < (s2.size : Int) := by have : s2.size ≤ 200 := h3; omega
  have e4 : ¬ (20 : Int) < (a2 : Int) := by omega
  obtain ⟨W0, hW0⟩ : ∃ W0, (w.alloc (.cells #[.bool b0, .string s, .int .i64 y, .int .i64 z, .int .i64 u, .slice C a d] 41)).alloc (.cells #[.bool b1, .string s2, .int .i64 y2, .int .i64 z2, .int .i64 u2, .slice D a2 d2] 41) = W0 := ⟨_, rfl⟩
  have hB : Below w.heap.size w W0 := by rw [← hW0]; exact (below_new _ _).alloc (by rw [World.size_alloc]; exact Nat.le_succ _) _
  have bP : Blk W0 w.heap.size 41 #[.bool b0, .string s, .int .i64 y, .int .i64 z, .int .i64 u, .slice C a d] := by rw [← hW0]; exact (Blk.new _ _ _ rfl).alloc _
  have bQ : Blk W0 (w.heap.size + 1) 41 #[.bool b1, .string s2, .int .i64 y2, .int .i64 z2, .int .i64 u2, .slice D a2 d2] := by rw [← hW0]; exact Blk.new _ _ _ (by rw [World.size_alloc])
  obtain ⟨p0, p1, p2, p3, p4, p5⟩ := op_cells bP
  obtain ⟨q0, q1, q2, q3, q4, q5⟩ := op_cells bQ
  have HT := Lib.hid (hT.next hB)
  have HR := Lib.hid (hm.next hB)
  have HR' := Lib.hid (hm'.next hB)
  have HB := Lib.hid hB
  have HP := Lib.hid bP
  have HQ := Lib.hid bQ
  have HW := Lib.hid hW0
  clear hW0 hB bP bQ hT hm hm' h1 h2 h3 h4
  go_enter Tryz.func6, Tryz.ntmps6
  go_wp2_with fail
  (try rw [HW.out])
  refine (mnew_is W0 HT.out).mono ?_
  rintro e w1 ⟨mb, rfl, hmb, hm1, hb1⟩
  have HMB : Hid (W0.heap.size ≤ mb) := hmb
  have HM1 := Lib.hid hm1
  have HB1 := Lib.hid hb1
  have hP1 := HP.out.next hb1
  clear hmb hm1 hb1 p0 p1 p2 p3 p4 p5 q0 q1 q2 q3 q4 q5
  obtain ⟨p0, p1, p2, p3, p4, p5⟩ := op_cells hP1
  go_wp2_with fail
  refine (HS1.out w1 mb HM1.out (HT.out.next HB1.out) (HR.out.next HB1.out)).mono ?_
  rintro e w2 ⟨er, q, kv, rv, n, rfl, _, hm2, hf2⟩
  have HM2 := Lib.hid hm2
  have HB2 := Lib.hid (far_tab HB1.out HMB.out hf2)
  clear hm2 hf2 p0 p1 p2 p3 p4 p5 hP1
  go_wp2_with fail
  refine (mnow_is HM2.out).mono ?_
  rintro e w3 ⟨rfl, hb3⟩
  have hal : Below w3.heap.size w3 (w3.alloc (.cells #[.string q.s, .int .i64 q.y, .int .i64 q.z, .int .i64 q.u] 23)) := below_new _ _
  have hb4 := hb3.trans (hal.mono hb3.size)
  have HB4 := Lib.hid (HB2.out.trans (hb4.mono HB2.out.size))
  have HM4 := Lib.hid (HM2.out.next hb4)
  have HN4 := Lib.hid (Blk.new w3 23 #[.string q.s, .int .i64 q.y, .int .i64 q.z, .int .i64 q.u] rfl)
  have HNE : Hid (w3.heap.size ≠ mb) := by
    have := HM2.out.lt
    have := hb3.size
    show _ ≠ _
    omega
  clear hb3 hal hb4
  go_wp2_with fail
  refine (mplies_is HM4.out).mono ?_
  rintro e w5 ⟨rfl, hb5⟩
  have HB5 := Lib.hid (HB4.out.trans (hb5.mono HB4.out.size))
  have HM5 := Lib.hid (HM4.out.next hb5)
  have HN5 := Lib.hid (HN4.out.next hb5)
  clear hb5
  obtain ⟨L, hL⟩ : ∃ L, movesM q kv [] = L := ⟨_, rfl⟩
  obtain ⟨k, hk⟩ : ∃ k, L.length = k := ⟨_, rfl⟩
  have HL := Lib.hid hL
  have HK := Lib.hid hk
  clear hL hk
  go_wp2_with fail
  refine (mmoves_all HM5.out (HT.out.next HB5.out) (by decide) L HL.out k HK.out).mono ?_
  rintro e w6 ⟨A6, c6, rfl, _, hb6⟩
  have HB6 := Lib.hid (HB5.out.trans (hb6.mono HB5.out.size))
  have HM6 := Lib.hid (HM5.out.next hb6)
  have HN6 := Lib.hid (HN5.out.next hb6)
  have hQ6 := HQ.out.next HB6.out
  clear hb6
  obtain ⟨q0, q1, q2, q3, q4, q5⟩ := op_cells hQ6
  cases b1 with
  | true =>
    go_wp2_with fail
    refine (HS3.out w6 mb q kv rv n HM6.out (HT.out.next HB6.out) (HR'.out.next HB6.out)).mono ?_
    rintro e w7 ⟨er7, rfl, hm7, hf7⟩
    have HB7 := Lib.hid (far_tab HB6.out HMB.out hf7)
    have HN7 := Lib.hid (hf7.blk HN6.out HNE.out)
    have HM7 := Lib.hid hm7
    clear hm7 hf7 q0 q1 q2 q3 q4 q5 hQ6
    by_cases h0 : er7 = 0
    · subst h0
      go_wp2_with fail
      go_quiet (fail)
      have HB8 : Hid (Below W0.heap.size W0 (w7.drewN nq)) := below_drewN HB7.out _
      have hP8 := HP.out.next HB8.out
      obtain ⟨p0, p1, p2, p3, p4, p5⟩ := op_cells hP8
      go_wp2_with fail
      refine (HN1.out _).mono ?_
      rintro e w9 ⟨rfl, hb⟩
      have HB9 := Lib.hid (HB8.out.trans (hb.mono HB8.out.size))
      clear hb
      go_wp2_with fail
      refine (mban_nil _ none 0 0 _ rfl).mono ?_
      rintro e w10 ⟨rfl, hb⟩
      have HB10 := Lib.hid (HB9.out.trans (hb.mono HB9.out.size))
      clear hb
      go_wp2_with fail
      refine (mmoves_nil _).mono ?_
      rintro e w11 ⟨rfl, hb⟩
      have HB11 := Lib.hid (HB10.out.trans (hb.mono HB10.out.size))
      clear hb
      go_wp2_with fail
      refine (mnow_nil _).mono ?_
      rintro e w12 ⟨rfl, hb⟩
      have HB12 := Lib.hid (HB11.out.trans (hb.mono HB11.out.size))
      clear hb
      go_wp2_with fail
      refine (mverdict_nil _).mono ?_
      rintro e w13 ⟨rfl, hb⟩
      have HB13 := Lib.hid (HB12.out.trans (hb.mono HB12.out.size))
      clear hb
      go_wp2_with fail
      refine (mplies_nil _).mono ?_
      rintro e w14 ⟨rfl, hb⟩
      have HB14 := Lib.hid (HB13.out.trans (hb.mono HB13.out.size))
      clear hb
      go_wp2_with fail
      refine (mbanned_nil _).mono ?_
      rintro e w15 ⟨rfl, hb⟩
      have HB15 := Lib.hid (HB14.out.trans (hb.mono HB14.out.size))
      clear hb
      go_wp2_with fail
      refine (live19_any _ (HT.out.next HB15.out)).mono ?_
      rintro e w16 ⟨rfl, hb⟩
      have hb2 := HB.out.trans ((HB15.out.trans (hb.mono HB15.out.size)).mono HB.out.size)
      go_wp2_with fail
      go_ret
      exact ⟨rfl, hb2⟩
    · have k0 : decide (er7 = 0) = false := by rw [decide_eq_false_iff_not]; exact h0
      have k1 : (er7 != 0) = true := by rw [bne_iff_ne]; exact h0
      obtain ⟨r0, r1, r2, r3⟩ := four_cells HN7.out
      have hS : RS W0 w3.heap.size mb q kv rv n w7.drew := ⟨r0, r1, r2, r3, (HM7.out h0).next (Below.refl _ _).drew, (HT.out.next HB7.out).next (Below.refl _ _).drew, HB7.out.drew⟩
      have hpe := ps_beq q
      clear r0 r1 r2 r3 h0
      unfold RS at hS
      go_wp2_with fail
      go_region_held3 (fun W => W.cell? ⟨w3.heap.size, 0, none⟩ = some (.string q.s) ∧ W.cell? ⟨w3.heap.size, 1, none⟩ = some (.int .i64 q.y) ∧ W.cell? ⟨w3.heap.size, 2, none⟩ = some (.int .i64 q.z) ∧ W.cell? ⟨w3.heap.size, 3, none⟩ = some (.int .i64 q.u) ∧ MAt W mb q kv rv n none 0 [] ∧ Tab W ∧ Below W0.heap.size W0 W)
        (first | exact hS | exact rs_keep (by assumption) hb)
        (first
          | (go_at_call 29; refine (mnow_is (p := q) (k := kv) (r := rv) (n := n) (A := none) (c := 0) (bs := []) ?_).mono ?_; (exact rs_m (by assumption)); rintro e w8 ⟨rfl, hb⟩)
          | (go_at_call 30; refine (mplies_is (p := q) (k := kv) (r := rv) (n := n) (A := none) (c := 0) (bs := []) ?_).mono ?_; (exact rs_m (by assumption)); rintro e w8 ⟨rfl, hb⟩)
          | (go_at_call 24; refine (mmoves_all (p := q) (k := kv) (r := rv) (n := n) (A := none) (c := 0) (bs := []) ?_ ?_ (by decide) L HL.out k HK.out).mono ?_; (exact rs_m (by assumption)); (exact rs_tab (by assumption)); rintro e w8 ⟨A8, c8, rfl, _, hb⟩))
      rename_i hh
      have HB8 := Lib.hid (rs_below hh)
      clear hh
      have hP8 := HP.out.next HB8.out
      obtain ⟨p0, p1, p2, p3, p4, p5⟩ := op_cells hP8
      go_wp2_with fail
      refine (HN1.out _).mono ?_
      rintro e w9 ⟨rfl, hb⟩
      have HB9 := Lib.hid (HB8.out.trans (hb.mono HB8.out.size))
      clear hb
      go_wp2_with fail
      refine (mban_nil _ none 0 0 _ rfl).mono ?_
      rintro e w10 ⟨rfl, hb⟩
      have HB10 := Lib.hid (HB9.out.trans (hb.mono HB9.out.size))
      clear hb
      go_wp2_with fail
      refine (mmoves_nil _).mono ?_
      rintro e w11 ⟨rfl, hb⟩
      have HB11 := Lib.hid (HB10.out.trans (hb.mono HB10.out.size))
      clear hb
      go_wp2_with fail
      refine (mnow_nil _).mono ?_
      rintro e w12 ⟨rfl, hb⟩
      have HB12 := Lib.hid (HB11.out.trans (hb.mono HB11.out.size))
      clear hb
      go_wp2_with fail
      refine (mverdict_nil _).mono ?_
      rintro e w13 ⟨rfl, hb⟩
      have HB13 := Lib.hid (HB12.out.trans (hb.mono HB12.out.size))
      clear hb
      go_wp2_with fail
      refine (mplies_nil _).mono ?_
      rintro e w14 ⟨rfl, hb⟩
      have HB14 := Lib.hid (HB13.out.trans (hb.mono HB13.out.size))
      clear hb
      go_wp2_with fail
      refine (mbanned_nil _).mono ?_
      rintro e w15 ⟨rfl, hb⟩
      have HB15 := Lib.hid (HB14.out.trans (hb.mono HB14.out.size))
      clear hb
      go_wp2_with fail
      refine (live19_any _ (HT.out.next HB15.out)).mono ?_
      rintro e w16 ⟨rfl, hb⟩
      have hb2 := HB.out.trans ((HB15.out.trans (hb.mono HB15.out.size)).mono HB.out.size)
      go_wp2_with fail
      go_ret
      exact ⟨rfl, hb2⟩
  | false =>
    go_wp2_with fail
    refine (HS4.out w6 mb q kv rv n HM6.out (HT.out.next HB6.out) (HR'.out.next HB6.out)).mono ?_
    rintro e w7 ⟨er7, rfl, hm7, hf7⟩
    have HB7 := Lib.hid (far_tab HB6.out HMB.out hf7)
    have HN7 := Lib.hid (hf7.blk HN6.out HNE.out)
    have HM7 := Lib.hid hm7
    clear hm7 hf7 q0 q1 q2 q3 q4 q5 hQ6
    by_cases h0 : er7 = 0
    · subst h0
      go_wp2_with fail
      go_quiet (fail)
      have HB8 : Hid (Below W0.heap.size W0 (w7.drewN nq)) := below_drewN HB7.out _
      have hP8 := HP.out.next HB8.out
      obtain ⟨p0, p1, p2, p3, p4, p5⟩ := op_cells hP8
      go_wp2_with fail
      refine (HN1.out _).mono ?_
      rintro e w9 ⟨rfl, hb⟩
      have HB9 := Lib.hid (HB8.out.trans (hb.mono HB8.out.size))
      clear hb
      go_wp2_with fail
      refine (mban_nil _ none 0 0 _ rfl).mono ?_
      rintro e w10 ⟨rfl, hb⟩
      have HB10 := Lib.hid (HB9.out.trans (hb.mono HB9.out.size))
      clear hb
      go_wp2_with fail
      refine (mmoves_nil _).mono ?_
      rintro e w11 ⟨rfl, hb⟩
      have HB11 := Lib.hid (HB10.out.trans (hb.mono HB10.out.size))
      clear hb
      go_wp2_with fail
      refine (mnow_nil _).mono ?_
      rintro e w12 ⟨rfl, hb⟩
      have HB12 := Lib.hid (HB11.out.trans (hb.mono HB11.out.size))
      clear hb
      go_wp2_with fail
      refine (mverdict_nil _).mono ?_
      rintro e w13 ⟨rfl, hb⟩
      have HB13 := Lib.hid (HB12.out.trans (hb.mono HB12.out.size))
      clear hb
      go_wp2_with fail
      refine (mplies_nil _).mono ?_
      rintro e w14 ⟨rfl, hb⟩
      have HB14 := Lib.hid (HB13.out.trans (hb.mono HB13.out.size))
      clear hb
      go_wp2_with fail
      refine (mbanned_nil _).mono ?_
      rintro e w15 ⟨rfl, hb⟩
      have HB15 := Lib.hid (HB14.out.trans (hb.mono HB14.out.size))
      clear hb
      go_wp2_with fail
      refine (live19_any _ (HT.out.next HB15.out)).mono ?_
      rintro e w16 ⟨rfl, hb⟩
      have hb2 := HB.out.trans ((HB15.out.trans (hb.mono HB15.out.size)).mono HB.out.size)
      go_wp2_with fail
      go_ret
      exact ⟨rfl, hb2⟩
    · have k0 : decide (er7 = 0) = false := by rw [decide_eq_false_iff_not]; exact h0
      have k1 : (er7 != 0) = true := by rw [bne_iff_ne]; exact h0
      obtain ⟨r0, r1, r2, r3⟩ := four_cells HN7.out
      have hS : RS W0 w3.heap.size mb q kv rv n w7.drew := ⟨r0, r1, r2, r3, (HM7.out h0).next (Below.refl _ _).drew, (HT.out.next HB7.out).next (Below.refl _ _).drew, HB7.out.drew⟩
      have hpe := ps_beq q
      clear r0 r1 r2 r3 h0
      unfold RS at hS
      go_wp2_with fail
      go_region_held3 (fun W => W.cell? ⟨w3.heap.size, 0, none⟩ = some (.string q.s) ∧ W.cell? ⟨w3.heap.size, 1, none⟩ = some (.int .i64 q.y) ∧ W.cell? ⟨w3.heap.size, 2, none⟩ = some (.int .i64 q.z) ∧ W.cell? ⟨w3.heap.size, 3, none⟩ = some (.int .i64 q.u) ∧ MAt W mb q kv rv n none 0 [] ∧ Tab W ∧ Below W0.heap.size W0 W)
        (first | exact hS | exact rs_keep (by assumption) hb)
        (first
          | (go_at_call 29; refine (mnow_is (p := q) (k := kv) (r := rv) (n := n) (A := none) (c := 0) (bs := []) ?_).mono ?_; (exact rs_m (by assumption)); rintro e w8 ⟨rfl, hb⟩)
          | (go_at_call 30; refine (mplies_is (p := q) (k := kv) (r := rv) (n := n) (A := none) (c := 0) (bs := []) ?_).mono ?_; (exact rs_m (by assumption)); rintro e w8 ⟨rfl, hb⟩)
          | (go_at_call 24; refine (mmoves_all (p := q) (k := kv) (r := rv) (n := n) (A := none) (c := 0) (bs := []) ?_ ?_ (by decide) L HL.out k HK.out).mono ?_; (exact rs_m (by assumption)); (exact rs_tab (by assumption)); rintro e w8 ⟨A8, c8, rfl, _, hb⟩))
      rename_i hh
      have HB8 := Lib.hid (rs_below hh)
      clear hh
      have hP8 := HP.out.next HB8.out
      obtain ⟨p0, p1, p2, p3, p4, p5⟩ := op_cells hP8
      go_wp2_with fail
      refine (HN1.out _).mono ?_
      rintro e w9 ⟨rfl, hb⟩
      have HB9 := Lib.hid (HB8.out.trans (hb.mono HB8.out.size))
      clear hb
      go_wp2_with fail
      refine (mban_nil _ none 0 0 _ rfl).mono ?_
      rintro e w10 ⟨rfl, hb⟩
      have HB10 := Lib.hid (HB9.out.trans (hb.mono HB9.out.size))
      clear hb
      go_wp2_with fail
      refine (mmoves_nil _).mono ?_
      rintro e w11 ⟨rfl, hb⟩
      have HB11 := Lib.hid (HB10.out.trans (hb.mono HB10.out.size))
      clear hb
      go_wp2_with fail
      refine (mnow_nil _).mono ?_
      rintro e w12 ⟨rfl, hb⟩
      have HB12 := Lib.hid (HB11.out.trans (hb.mono HB11.out.size))
      clear hb
      go_wp2_with fail
      refine (mverdict_nil _).mono ?_
      rintro e w13 ⟨rfl, hb⟩
      have HB13 := Lib.hid (HB12.out.trans (hb.mono HB12.out.size))
      clear hb
      go_wp2_with fail
      refine (mplies_nil _).mono ?_
      rintro e w14 ⟨rfl, hb⟩
      have HB14 := Lib.hid (HB13.out.trans (hb.mono HB13.out.size))
      clear hb
      go_wp2_with fail
      refine (mbanned_nil _).mono ?_
      rintro e w15 ⟨rfl, hb⟩
      have HB15 := Lib.hid (HB14.out.trans (hb.mono HB14.out.size))
      clear hb
      go_wp2_with fail
      refine (live19_any _ (HT.out.next HB15.out)).mono ?_
      rintro e w16 ⟨rfl, hb⟩
      have hb2 := HB.out.trans ((HB15.out.trans (hb.mono HB15.out.size)).mono HB.out.size)
      go_wp2_with fail
      go_ret
      exact ⟨rfl, hb2⟩
theorem walk (b0 b1 : Bool) (p q : Ps) (C D : Option Addr) (l l' : List (Int × Int)) (d d' : Nat) (w : World) (hT : Tab w) (hm : Rd w C (mzL l)) (hd : l.length ≤ d) (hm' : Rd w D (mzL l')) (hd' : l'.length ≤ d') : Calls Tryz.prog 6 #[.agg #[.bool b0, .string p.s, .int .i64 p.y, .int .i64 p.z, .int .i64 p.u, .slice C l.length d], .agg #[.bool b1, .string q.s, .int .i64 q.y, .int .i64 q.z, .int .i64 q.u, .slice D l'.length d']] w (Gives w (.bool true)) := by
  by_cases h1 : p.s.size ≤ 200 ∧ l.length ≤ 20 ∧ q.s.size ≤ 200 ∧ l'.length ≤ 20
  · exact small b0 b1 p q C D l l' _ d _ d' w hT hm rfl hd hm' rfl hd' h1.1 h1.2.1 h1.2.2.1 h1.2.2.2
  · exact large b0 b1 p q C D _ d _ d' w hT (by omega)
end Go.Proofs.YtbdgbihdhbjljaaGreatDoor.mref
