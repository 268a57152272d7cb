/- What the document says of that game, told by the code: live18. -/
import Derived.Test.YtiiipchfclmbcaaGreatDoorJudgeE
import Derived.Test.YtiiipchfclmbcaaGreatDoorJudgeM
import Derived.Deep.RegionHeld
namespace Go.Proofs.YtiiipchfclmbcaaGreatDoor
open Go.RowKit Go.Shelf
open M (S)

theorem jp4 (C : Option Addr) (d : Nat) (w : World) (hT : Tab w) (hm : Rd w C (mzL froM)) (hd : 4 ≤ d) : Calls Tryz.prog 14 #[.agg #[.string startS, .int .i64 0, .int .i64 0, .int .i64 1], .slice C 4 d] w (fun e w' => ∃ A c, e = .returned (.tuple #[.agg #[.int .i64 1, .int .i64 5], .slice A 5 c, .int .i64 0]) ∧ Rd w' A (psL froL) ∧ 5 ≤ c ∧ Below w.heap.size w w') := by
  have h := jplay_any froP0 C froM 4 d w hT hm rfl hd
  rw [fro_game4.1, fro_game4.2.1, fro_game4.2.2] at h
  exact h
theorem jp3 (C : Option Addr) (d : Nat) (w : World) (hT : Tab w) (hm : Rd w C (mzL froM)) (hd : 3 ≤ d) : Calls Tryz.prog 14 #[.agg #[.string startS, .int .i64 0, .int .i64 0, .int .i64 1], .slice C 3 d] w (fun e w' => ∃ A n c, e = .returned (.tuple #[.agg #[.int .i64 0, .int .i64 0], .slice A n c, .int .i64 0]) ∧ Below w.heap.size w w') := by
  have h := jplay_any froP0 C (froM.take 3) 3 d w hT (rd_take hm 3) rfl hd
  rw [fro_game3.1, fro_game3.2] at h
  refine h.mono ?_
  rintro e w' ⟨A, c, he, _, _, hb⟩
  exact ⟨A, _, c, he, hb⟩
theorem jpx (ms : List (Int × Int)) (n : Nat) (k : Int) (hn : ms.length = n) (hn9 : n ≤ 1024) (hr : (runJ froP0 ms n).1 = k) (hk : k ≠ 0) (C : Option Addr) (d : Nat) (w : World) (hT : Tab w) (hm : Rd w C (mzL ms)) (hd : n ≤ d) : Calls Tryz.prog 14 #[.agg #[.string startS, .int .i64 0, .int .i64 0, .int .i64 1], .slice C n d] w (fun e w' => ∃ A m c, e = .returned (.tuple #[.agg #[.int .i64 0, .int .i64 0], .slice A m c, .int .i64 k]) ∧ Below w.heap.size w w') := by
  have h := jplay_any froP0 C ms n d w hT hm hn hd
  obtain ⟨h1, h2, h3⟩ := play_err (p := froP0) (ms := ms) (k := n) (e := k) fro_well0 (by omega) (by omega) hr hk
  rw [h1, h2, h3] at h
  refine h.mono ?_
  rintro e w' ⟨A, c, he, _, _, hb⟩
  exact ⟨A, _, c, he, hb⟩
theorem jp5 (C : Option Addr) (w : World) (hT : Tab w) (hm : Rd w C (mzL froM5)) : Calls Tryz.prog 14 #[.agg #[.string startS, .int .i64 0, .int .i64 0, .int .i64 1], .slice C 5 5] w (fun e w' => ∃ A m c, e = .returned (.tuple #[.agg #[.int .i64 0, .int .i64 0], .slice A m c, .int .i64 10]) ∧ Below w.heap.size w w') :=
  jpx froM5 5 10 rfl (by decide) (congrArg Prod.fst fro_run5) (by decide) C 5 w hT hm (by decide)
theorem jp1 (C : Option Addr) (w : World) (hT : Tab w) (hm : Rd w C (mzL [(81, 72)])) : Calls Tryz.prog 14 #[.agg #[.string startS, .int .i64 0, .int .i64 0, .int .i64 1], .slice C 1 1] w (fun e w' => ∃ A m c, e = .returned (.tuple #[.agg #[.int .i64 0, .int .i64 0], .slice A m c, .int .i64 7]) ∧ Below w.heap.size w w') :=
  jpx [(81, 72)] 1 7 rfl (by decide) (congrArg Prod.fst fro_run9) (by decide) C 1 w hT hm (by decide)
theorem rd_blk {W : World} {g : Nat} {t : TypeId} {cs : Array Value} (h : Blk W g t cs) : Rd W (some ⟨g, 0, none⟩) cs.toList := fun j u hu => ⟨_, rfl, by
  have e1 : (⟨g, 0, none⟩ : Addr).add j = ⟨g, j, none⟩ := by
    simp only [Addr.add]
    split <;> simp_all
  rw [e1, h.cell j, ← hu, ← Array.getElem?_toList]⟩
/-- What the rest of that walk needs. -/
structure L18 (w W : World) (g1 gq : Nat) (A1 : Option Addr) : Prop where
  b : Below w.heap.size w W
  v : Blk W g1 27 #[.int .i64 1, .int .i64 5]
  q : Blk W gq 27 #[.int .i64 0, .int .i64 0]
  r : Rd W A1 (psL froL)
  p : Blk W w.heap.size 23 #[.string startS, .int .i64 0, .int .i64 0, .int .i64 1]
  m : Blk W (w.heap.size + 1) 37 #[.int .i64 0, .int .i64 9, .int .i64 81, .int .i64 72, .int .i64 9, .int .i64 0, .int .i64 72, .int .i64 81]
theorem L18.next {w W W' : World} {g1 gq : Nat} {A1 : Option Addr} (h : L18 w W g1 gq A1) (hb : Below W.heap.size W W') : L18 w W' g1 gq A1 :=
  ⟨h.b.trans (hb.mono h.b.size), h.v.next hb, h.q.next hb, h.r.next hb, h.p.next hb, h.m.next hb⟩
abbrev Z2 : Obj := .cells #[.int .i64 0, .int .i64 0] 27
/-- A fresh row, a fresh verdict, in either order. -/
theorem row_first (W : World) (cs : Array Value) (t : TypeId) : Rd (W.alloc (.cells cs t)).drew (some ⟨W.heap.size, 0, none⟩) cs.toList ∧ Below W.heap.size W (W.alloc (.cells cs t)).drew :=
  ⟨rd_blk ((Blk.new W t cs rfl).next (Below.refl _ _).drew), (below_new _ _).drew⟩
theorem row_then (W : World) (cs : Array Value) (t : TypeId) : Rd ((W.alloc (.cells cs t)).alloc Z2).drew (some ⟨W.heap.size, 0, none⟩) cs.toList ∧ Blk ((W.alloc (.cells cs t)).alloc Z2).drew (W.heap.size + 1) 27 #[.int .i64 0, .int .i64 0] ∧ Below W.heap.size W ((W.alloc (.cells cs t)).alloc Z2).drew :=
  ⟨rd_blk (((Blk.new W t cs rfl).alloc _).next (Below.refl _ _).drew), (Blk.new _ _ _ (by simp)).next (Below.refl _ _).drew, ((below_new _ _).alloc (by simp) _).drew⟩
theorem row_behind (W : World) (cs : Array Value) (t : TypeId) : Rd ((W.alloc Z2).alloc (.cells cs t)).drew (some ⟨W.heap.size + 1, 0, none⟩) cs.toList ∧ Blk ((W.alloc Z2).alloc (.cells cs t)).drew W.heap.size 27 #[.int .i64 0, .int .i64 0] ∧ Below W.heap.size W ((W.alloc Z2).alloc (.cells cs t)).drew :=
  ⟨rd_blk ((Blk.new (W.alloc Z2) t cs (by simp)).next (Below.refl _ _).drew), ((Blk.new _ _ _ rfl).alloc _).next (Below.refl _ _).drew, ((below_new _ _).alloc (by simp) _).drew⟩
theorem s18 {w W : World} {g1 gq : Nat} {A1 : Option Addr} (h : L18 w W g1 gq A1) : W.cell? ⟨w.heap.size, 0, none⟩ = some (.string startS) ∧ W.cell? ⟨w.heap.size, 1, none⟩ = some (.int .i64 0) ∧ W.cell? ⟨w.heap.size, 2, none⟩ = some (.int .i64 0) ∧ W.cell? ⟨w.heap.size, 3, none⟩ = some (.int .i64 1) ∧ W.cell? ⟨w.heap.size + 1, 0, none⟩ = some (.int .i64 0) ∧ W.cell? ⟨w.heap.size + 1, 1, none⟩ = some (.int .i64 9) ∧ W.cell? ⟨w.heap.size + 1, 2, none⟩ = some (.int .i64 81) ∧ W.cell? ⟨w.heap.size + 1, 3, none⟩ = some (.int .i64 72) ∧ W.cell? ⟨w.heap.size + 1, 4, none⟩ = some (.int .i64 9) ∧ W.cell? ⟨w.heap.size + 1, 5, none⟩ = some (.int .i64 0) ∧ W.cell? ⟨w.heap.size + 1, 6, none⟩ = some (.int .i64 72) ∧ W.cell? ⟨w.heap.size + 1, 7, none⟩ = some (.int .i64 81) :=
  ⟨h.p.cell 0, h.p.cell 1, h.p.cell 2, h.p.cell 3, h.m.cell 0, h.m.cell 1, h.m.cell 2, h.m.cell 3, h.m.cell 4, h.m.cell 5, h.m.cell 6, h.m.cell 7⟩
theorem s18b {w W : World} {g1 gq : Nat} {A1 : Option Addr} (h : L18 w W g1 gq A1) : W.cell? ⟨g1, 0, none⟩ = some (.int .i64 1) ∧ W.cell? ⟨g1, 1, none⟩ = some (.int .i64 5) ∧ W.cell? ⟨gq, 0, none⟩ = some (.int .i64 0) ∧ W.cell? ⟨gq, 1, none⟩ = some (.int .i64 0) ∧ L18 w W g1 gq A1 :=
  ⟨h.v.cell 0, h.v.cell 1, h.q.cell 0, h.q.cell 1, h⟩
theorem s18k {w W W' : World} {g1 gq : Nat} {A1 : Option Addr} (h : W.cell? ⟨g1, 0, none⟩ = some (.int .i64 1) ∧ W.cell? ⟨g1, 1, none⟩ = some (.int .i64 5) ∧ W.cell? ⟨gq, 0, none⟩ = some (.int .i64 0) ∧ W.cell? ⟨gq, 1, none⟩ = some (.int .i64 0) ∧ L18 w W g1 gq A1) (hb : Below W.heap.size W W') : W'.cell? ⟨g1, 0, none⟩ = some (.int .i64 1) ∧ W'.cell? ⟨g1, 1, none⟩ = some (.int .i64 5) ∧ W'.cell? ⟨gq, 0, none⟩ = some (.int .i64 0) ∧ W'.cell? ⟨gq, 1, none⟩ = some (.int .i64 0) ∧ L18 w W' g1 gq A1 := s18b (h.2.2.2.2.next hb)
theorem s18e {w W : World} {g1 gq : Nat} {A1 : Option Addr} (h : W.cell? ⟨g1, 0, none⟩ = some (.int .i64 1) ∧ W.cell? ⟨g1, 1, none⟩ = some (.int .i64 5) ∧ W.cell? ⟨gq, 0, none⟩ = some (.int .i64 0) ∧ W.cell? ⟨gq, 1, none⟩ = some (.int .i64 0) ∧ L18 w W g1 gq A1) : L18 w W g1 gq A1 := h.2.2.2.2
theorem last_t {w W : World} {g1 gq : Nat} {A1 : Option Addr} (c1 : Nat) (hT : Tab w) (h : W.cell? ⟨g1, 0, none⟩ = some (.int .i64 1) ∧ W.cell? ⟨g1, 1, none⟩ = some (.int .i64 5) ∧ W.cell? ⟨gq, 0, none⟩ = some (.int .i64 0) ∧ W.cell? ⟨gq, 1, none⟩ = some (.int .i64 0) ∧ L18 w W g1 gq A1) (hc : 5 ≤ c1) : Calls Tryz.prog 38 #[.slice A1 5 c1, .slice (some ⟨w.heap.size + 1, 0, none⟩) 4 4] W (Gives W (.agg #[.int .i64 (lastI froL froM).1, .int .i64 (lastI froL froM).2])) :=
  jlast_any A1 _ froL froM 5 c1 4 4 W (hT.next h.2.2.2.2.b) h.2.2.2.2.r rfl (rd_blk h.2.2.2.2.m) rfl (by decide) hc (Nat.le_refl _)
/-- One way for several. -/
theorem cut_ {K G : Prop} (h : K → G) (k : K) : G := h k
set_option maxRecDepth 100000 in
set_option maxHeartbeats 20000000 in
theorem live18_any (w : World) (hT : Tab w) : Calls Tryz.prog 13 #[] w (Gives w (.bool true)) := by
  unfold Gives
  go_enter Tryz.func13, Tryz.ntmps13
  go_wp2_with fail
  obtain ⟨W0, hW0⟩ : ∃ W0, (w.alloc (.cells #[.string startS, .int .i64 0, .int .i64 0, .int .i64 1] 23)).alloc (.cells #[.int .i64 0, .int .i64 9, .int .i64 81, .int .i64 72, .int .i64 9, .int .i64 0, .int .i64 72, .int .i64 81] 37) = W0 := ⟨_, rfl⟩
  have hB0 : Below w.heap.size w W0 := by rw [← hW0]; exact (by repeat (first | exact Below.refl _ _ | (refine Below.setCell ?_ (by first | omega | (simp; done) | (simp; omega) | (simp at *; omega)) _) | (refine Below.alloc ?_ (by first | omega | (simp; done) | (simp; omega) | (simp at *; omega)) _) | refine Below.drew ?_ | (refine below_drewN ?_ _) | (refine Below.trans ?_ (Below.mono (by assumption) (by first | omega | (simp; done) | (simp; omega) | (simp at *; omega))))))
  have bP : Blk W0 w.heap.size 23 #[.string startS, .int .i64 0, .int .i64 0, .int .i64 1] := by rw [← hW0]; exact (Blk.new _ _ _ rfl).alloc _
  have bM : Blk W0 (w.heap.size + 1) 37 #[.int .i64 0, .int .i64 9, .int .i64 81, .int .i64 72, .int .i64 9, .int .i64 0, .int .i64 72, .int .i64 81] := by rw [← hW0]; exact Blk.new _ _ _ (by simp)
  have HM : Hid (Rd W0 (some ⟨w.heap.size + 1, 0, none⟩) (mzL froM)) := rd_blk bM
  have HP := Lib.hid bP
  have HBM := Lib.hid bM
  rw [show (⟨#[82, 78, 66, 65, 75, 65, 66, 78, 82, 46, 46, 46, 46, 46, 46, 46, 46, 46, 46, 67, 46, 46, 46, 46, 46, 67, 46, 80, 46, 80, 46, 80, 46, 80, 46, 80, 46, 46, 46, 46, 46, 46, 46, 46, 46, 46, 46, 46, 46, 46, 46, 46, 46, 46, 112, 46, 112, 46, 112, 46, 112, 46, 112, 46, 99, 46, 46, 46, 46, 46, 99, 46, 46, 46, 46, 46, 46, 46, 46, 46, 46, 114, 110, 98, 97, 107, 97, 98, 110, 114]⟩ : ByteArray) = startS from rfl, hW0]
  clear hW0 bP bM
  refine (jp4 _ _ _ (hT.next hB0) HM.out (by decide)).mono ?_
  rintro e w1 ⟨A1, c1, rfl, hr1, hc1, hb1⟩
  have hB1 := hB0.trans (hb1.mono hB0.size)
  have HR1 := Lib.hid hr1
  have HC1 := Lib.hid hc1
  have HP1 := Lib.hid (HP.out.next hb1)
  have HM1 := Lib.hid (HM.out.next hb1)
  have HBM1 := Lib.hid (HBM.out.next hb1)
  obtain ⟨p0, p1, p2, p3⟩ := four_cells HP1.out
  obtain ⟨W2, hW2⟩ : ∃ W2, w1.alloc (.cells #[.int .i64 1, .int .i64 5] 27) = W2 := ⟨_, rfl⟩
  have bV : Blk W2 w1.heap.size 27 #[.int .i64 1, .int .i64 5] := by rw [← hW2]; exact Blk.new _ _ _ rfl
  have hb2 : Below w1.heap.size w1 W2 := by rw [← hW2]; exact below_new _ _
  have HBV := Lib.hid bV
  have HB2 := Lib.hid (hB1.trans (hb2.mono hB1.size))
  have HR2 := Lib.hid (HR1.out.next hb2)
  have HP2 := Lib.hid (HP1.out.next hb2)
  have HM2 := Lib.hid (HM1.out.next hb2)
  have HBM2 := Lib.hid (HBM1.out.next hb2)
  have HW2 := Lib.hid hW2
  obtain ⟨g1, hg1⟩ : ∃ g, w1.heap.size = g := ⟨_, rfl⟩
  have HG1 := Lib.hid hg1
  rw [hg1] at HBV
  clear hr1 hc1 hb1 hB0 HP HM HBM hW2 bV hb2 hB1 HR1 HP1 HM1 HBM1
  go_wp2_with fail
  (try rw [HW2.out])
  (try rw [hg1])
  clear HW2 HG1 hg1 p0 p1 p2 p3
  obtain ⟨p0, p1, p2, p3⟩ := four_cells HP2.out
  have hba : Below W2.heap.size W2 (W2.alloc (.cells #[.int .i64 0, .int .i64 0] 27)) := (Below.refl _ _).alloc (Nat.le_refl _) _
  have HBZ : Hid (Blk (W2.alloc (.cells #[.int .i64 0, .int .i64 0] 27)).drew W2.heap.size 27 #[.int .i64 0, .int .i64 0]) := (Blk.new W2 27 #[.int .i64 0, .int .i64 0] rfl).next (Below.refl _ _).drew
  have HBA := Lib.hid hba
  have hal : ∀ (o : Obj) (pl : Addr) (x : Value), W2.cell? pl = some x → (W2.alloc o).cell? pl = some x := fun o pl x h => (((Below.refl W2.heap.size W2).alloc (Nat.le_refl _) o).cell (cell_lt h)).trans h
  have pa0 := fun o => hal o _ _ p0
  have pa1 := fun o => hal o _ _ p1
  have pa2 := fun o => hal o _ _ p2
  have pa3 := fun o => hal o _ _ p3
  have HT2 := Lib.hid (hT.next HB2.out)
  clear hba hal
  apply cut_
  · intro key
    go_region_with ((go_at_call 14; first
      | (refine (jp3 _ _ W2.drew (HT2.out.next (Below.refl _ _).drew) (HM2.out.next (Below.refl _ _).drew) (by decide)).mono ?_; rintro e w3 ⟨A3, n3, c3, rfl, hb⟩)
      | (refine (jp3 _ _ (W2.alloc (.cells #[.int .i64 0, .int .i64 0] 27)).drew (HT2.out.next HBA.out.drew) (HM2.out.next HBA.out.drew) (by decide)).mono ?_; rintro e w3 ⟨A3, n3, c3, rfl, hb⟩; obtain ⟨z0, z1⟩ := two_cells (HBZ.out.next hb); have f0 := (HBZ.out.next hb).frozen 0; have f1 := (HBZ.out.next hb).frozen 1; obtain ⟨W4, hW4⟩ : ∃ x, ((w3.setCell ⟨W2.heap.size, 0, none⟩ (.int .i64 0)).setCell ⟨W2.heap.size, 1, none⟩ (.int .i64 0)) = x := ⟨_, rfl⟩)))
    all_goals
      first
      | (have hb3 : Below W2.heap.size W2 w3 := ((Below.refl W2.heap.size W2).drew).trans hb
         obtain ⟨W4, hW4⟩ : ∃ x, w3.alloc (.cells #[.int .i64 0, .int .i64 0] 27) = x := ⟨_, rfl⟩
         rw [hW4]
         have hgq : W2.heap.size ≤ w3.heap.size := hb3.size
         have hb4 : Below W2.heap.size W2 W4 := by rw [← hW4]; exact hb3.alloc hb3.size _
         have bQ : Blk W4 w3.heap.size 27 #[.int .i64 0, .int .i64 0] := by rw [← hW4]; exact Blk.new _ _ _ rfl
         clear hW4 hb3 hb
         generalize w3.heap.size = gq at bQ hgq ⊢)
      | (have hb3 : Below W2.heap.size W2 w3 := (HBA.out.drew).trans (hb.mono (HBA.out.drew).size)
         have bz := HBZ.out.next hb
         have hb4 : Below W2.heap.size W2 W4 := by rw [← hW4]; exact (hb3.setCell (p := ⟨W2.heap.size, 0, none⟩) (Nat.le_refl _) _).setCell (p := ⟨W2.heap.size, 1, none⟩) (Nat.le_refl _) _
         have bQ : Blk W4 W2.heap.size 27 #[.int .i64 0, .int .i64 0] := by rw [← hW4]; exact (bz.set_ 0 (.int .i64 0)).set_ 1 (.int .i64 0)
         obtain ⟨gq, hgqe⟩ : ∃ gq, W2.heap.size = gq := ⟨_, rfl⟩
         have hgq : W2.heap.size ≤ gq := Nat.le_of_eq hgqe
         clear hW4 hb3 hb bz
         (try clear z0 z1 f0 f1)
         rw [hgqe] at bQ ⊢
         clear hgqe)
      have HL4 : Hid (L18 w W4 g1 gq A1) := ⟨HB2.out.trans (hb4.mono HB2.out.size), HBV.out.next hb4, bQ, HR2.out.next hb4, HP2.out.next hb4, HBM2.out.next hb4⟩
      clear hb4 hgq bQ
      revert HL4
      revert gq
      revert W4
      revert c3
      revert n3
      revert A3
      exact key
  intro A3 n3 c3 W4 gq HL4
  clear pa0 pa1 pa2 pa3 p0 p1 p2 p3 HBA HBZ HT2 HBM2 HM2 HP2 HR2 HB2 HBV
  obtain ⟨p0, p1, p2, p3, m0, m1, m2, m3, m4, m5, m6, m7⟩ := s18 HL4.out
  go_wp2_with fail
  obtain ⟨V1, hV1⟩ : ∃ V, (W4.alloc (.cells #[.int .i64 0, .int .i64 9, .int .i64 81, .int .i64 72, .int .i64 9, .int .i64 0, .int .i64 72, .int .i64 81, .int .i64 0, .int .i64 9] 37)).drew = V := ⟨_, rfl⟩
  obtain ⟨V2, hV2⟩ : ∃ V, ((W4.alloc (.cells #[.int .i64 0, .int .i64 0] 27)).alloc (.cells #[.int .i64 0, .int .i64 9, .int .i64 81, .int .i64 72, .int .i64 9, .int .i64 0, .int .i64 72, .int .i64 81, .int .i64 0, .int .i64 9] 37)).drew = V := ⟨_, rfl⟩
  obtain ⟨V3, hV3⟩ : ∃ V, ((W4.alloc (.cells #[.int .i64 0, .int .i64 9, .int .i64 81, .int .i64 72, .int .i64 9, .int .i64 0, .int .i64 72, .int .i64 81, .int .i64 0, .int .i64 9] 37)).alloc (.cells #[.int .i64 0, .int .i64 0] 27)).drew = V := ⟨_, rfl⟩
  have HXa : Hid (Tab V1 ∧ Rd V1 (some ⟨W4.heap.size, 0, none⟩) (mzL froM5) ∧ Below W4.heap.size W4 V1) := by
    obtain ⟨h1, h2⟩ := row_first W4 #[.int .i64 0, .int .i64 9, .int .i64 81, .int .i64 72, .int .i64 9, .int .i64 0, .int .i64 72, .int .i64 81, .int .i64 0, .int .i64 9] 37
    rw [hV1] at h1 h2
    exact ⟨hT.next (HL4.out.next h2).b, h1, h2⟩
  have HXb : Hid (Tab V2 ∧ Rd V2 (some ⟨W4.heap.size + 1, 0, none⟩) (mzL froM5) ∧ Blk V2 W4.heap.size 27 #[.int .i64 0, .int .i64 0] ∧ Below W4.heap.size W4 V2) := by
    obtain ⟨h1, h3, h2⟩ := row_behind W4 #[.int .i64 0, .int .i64 9, .int .i64 81, .int .i64 72, .int .i64 9, .int .i64 0, .int .i64 72, .int .i64 81, .int .i64 0, .int .i64 9] 37
    rw [hV2] at h1 h2 h3
    exact ⟨hT.next (HL4.out.next h2).b, h1, h3, h2⟩
  have HXc : Hid (Tab V3 ∧ Rd V3 (some ⟨W4.heap.size, 0, none⟩) (mzL froM5) ∧ Blk V3 (W4.heap.size + 1) 27 #[.int .i64 0, .int .i64 0] ∧ Below W4.heap.size W4 V3) := by
    obtain ⟨h1, h3, h2⟩ := row_then W4 #[.int .i64 0, .int .i64 9, .int .i64 81, .int .i64 72, .int .i64 9, .int .i64 0, .int .i64 72, .int .i64 81, .int .i64 0, .int .i64 9] 37
    rw [hV3] at h1 h2 h3
    exact ⟨hT.next (HL4.out.next h2).b, h1, h3, h2⟩
  have HV1 := Lib.hid hV1
  have HV2 := Lib.hid hV2
  have HV3 := Lib.hid hV3
  have hS0 := s18 (HL4.out.next (Below.refl _ _).drew)
  clear hV1 hV2 hV3
  apply cut_
  · intro key
    go_region_held (fun W => W.cell? ⟨w.heap.size, 0, none⟩ = some (.string startS) ∧ W.cell? ⟨w.heap.size, 1, none⟩ = some (.int .i64 0) ∧ W.cell? ⟨w.heap.size, 2, none⟩ = some (.int .i64 0) ∧ W.cell? ⟨w.heap.size, 3, none⟩ = some (.int .i64 1) ∧ W.cell? ⟨w.heap.size + 1, 0, none⟩ = some (.int .i64 0) ∧ W.cell? ⟨w.heap.size + 1, 1, none⟩ = some (.int .i64 9) ∧ W.cell? ⟨w.heap.size + 1, 2, none⟩ = some (.int .i64 81) ∧ W.cell? ⟨w.heap.size + 1, 3, none⟩ = some (.int .i64 72) ∧ W.cell? ⟨w.heap.size + 1, 4, none⟩ = some (.int .i64 9) ∧ W.cell? ⟨w.heap.size + 1, 5, none⟩ = some (.int .i64 0) ∧ W.cell? ⟨w.heap.size + 1, 6, none⟩ = some (.int .i64 72) ∧ W.cell? ⟨w.heap.size + 1, 7, none⟩ = some (.int .i64 81))
      (first | exact hS0 | go_keep | exact s18 (HL4.out.next HB5.out) | exact s18 (HL4.out.next ((HB5.out.setCell (p := ⟨W4.heap.size, 0, none⟩) (Nat.le_refl _) _).setCell (p := ⟨W4.heap.size, 1, none⟩) (Nat.le_refl _) _)) | exact s18 (HL4.out.next ((HB5.out.setCell (p := ⟨W4.heap.size + 1, 0, none⟩) (Nat.le_succ _) _).setCell (p := ⟨W4.heap.size + 1, 1, none⟩) (Nat.le_succ _) _)))
      ((go_at_call 14; (first
      | (rw [HV1.out]; refine (jp5 _ V1 HXa.out.1 HXa.out.2.1).mono ?_; rintro e w5 ⟨A5, n5, c5, rfl, hb⟩; have HB5 : Hid (Below W4.heap.size W4 w5) := HXa.out.2.2.trans (hb.mono HXa.out.2.2.size); clear hb)
      | (rw [HV2.out]; refine (jp5 _ V2 HXb.out.1 HXb.out.2.1).mono ?_; rintro e w5 ⟨A5, n5, c5, rfl, hb⟩; have bz5 := HXb.out.2.2.1.next hb; have HB5 : Hid (Below W4.heap.size W4 w5) := HXb.out.2.2.2.trans (hb.mono HXb.out.2.2.2.size); obtain ⟨z0, z1⟩ := two_cells bz5; have f0 := bz5.frozen 0; have f1 := bz5.frozen 1; clear hb bz5)
      | (rw [HV3.out]; refine (jp5 _ V3 HXc.out.1 HXc.out.2.1).mono ?_; rintro e w5 ⟨A5, n5, c5, rfl, hb⟩; have bz5 := HXc.out.2.2.1.next hb; have HB5 : Hid (Below W4.heap.size W4 w5) := HXc.out.2.2.2.trans (hb.mono HXc.out.2.2.2.size); obtain ⟨z0, z1⟩ := two_cells bz5; have f0 := bz5.frozen 0; have f1 := bz5.frozen 1; clear hb bz5))))
    all_goals
      first
      | (have HL6 := Lib.hid (HL4.out.next (HB5.out.alloc (o := .cells #[.int .i64 0, .int .i64 0] 27) HB5.out.size))
         obtain ⟨W6, hWn⟩ : ∃ x, w5.alloc (.cells #[.int .i64 0, .int .i64 0] 27) = x := ⟨_, rfl⟩
         rw [hWn] at HL6 ⊢
         clear hWn
         generalize w5.heap.size = gd
         generalize W4.heap.size = gr)
      | (have HL6 := Lib.hid (HL4.out.next ((HB5.out.setCell (p := ⟨W4.heap.size, 0, none⟩) (Nat.le_refl _) (.int .i64 0)).setCell (p := ⟨W4.heap.size, 1, none⟩) (Nat.le_refl _) (.int .i64 0)))
         obtain ⟨W6, hWn⟩ : ∃ x, ((w5.setCell ⟨W4.heap.size, 0, none⟩ (.int .i64 0)).setCell ⟨W4.heap.size, 1, none⟩ (.int .i64 0)) = x := ⟨_, rfl⟩
         rw [hWn] at HL6 ⊢
         clear hWn z0 z1 f0 f1
         generalize W4.heap.size + 1 = gr
         generalize W4.heap.size = gd)
      | (have HL6 := Lib.hid (HL4.out.next ((HB5.out.setCell (p := ⟨W4.heap.size + 1, 0, none⟩) (Nat.le_succ _) (.int .i64 0)).setCell (p := ⟨W4.heap.size + 1, 1, none⟩) (Nat.le_succ _) (.int .i64 0)))
         obtain ⟨W6, hWn⟩ : ∃ x, ((w5.setCell ⟨W4.heap.size + 1, 0, none⟩ (.int .i64 0)).setCell ⟨W4.heap.size + 1, 1, none⟩ (.int .i64 0)) = x := ⟨_, rfl⟩
         rw [hWn] at HL6 ⊢
         clear hWn z0 z1 f0 f1
         generalize W4.heap.size + 1 = gd
         generalize W4.heap.size = gr)
      clear HB5
      revert HL6
      revert gr
      revert gd
      revert W6
      revert c5
      revert n5
      revert A5
      exact key
  intro A5 n5 c5 W6 gd5 gr5 HL6
  clear HXa HXb HXc HV1 HV2 HV3 hS0
  clear p0 p1 p2 p3 m0 m1 m2 m3 m4 m5 m6 m7
  obtain ⟨p0, p1, p2, p3, m0, m1, m2, m3, m4, m5, m6, m7⟩ := s18 HL6.out
  go_wp2_with fail
  obtain ⟨V1, hV1⟩ : ∃ V, (W6.alloc (.cells #[.int .i64 81, .int .i64 72] 37)).drew = V := ⟨_, rfl⟩
  obtain ⟨V2, hV2⟩ : ∃ V, ((W6.alloc (.cells #[.int .i64 0, .int .i64 0] 27)).alloc (.cells #[.int .i64 81, .int .i64 72] 37)).drew = V := ⟨_, rfl⟩
  obtain ⟨V3, hV3⟩ : ∃ V, ((W6.alloc (.cells #[.int .i64 81, .int .i64 72] 37)).alloc (.cells #[.int .i64 0, .int .i64 0] 27)).drew = V := ⟨_, rfl⟩
  have HXa : Hid (Tab V1 ∧ Rd V1 (some ⟨W6.heap.size, 0, none⟩) (mzL [(81, 72)]) ∧ Below W6.heap.size W6 V1) := by
    obtain ⟨h1, h2⟩ := row_first W6 #[.int .i64 81, .int .i64 72] 37
    rw [hV1] at h1 h2
    exact ⟨hT.next (HL6.out.next h2).b, h1, h2⟩
  have HXb : Hid (Tab V2 ∧ Rd V2 (some ⟨W6.heap.size + 1, 0, none⟩) (mzL [(81, 72)]) ∧ Blk V2 W6.heap.size 27 #[.int .i64 0, .int .i64 0] ∧ Below W6.heap.size W6 V2) := by
    obtain ⟨h1, h3, h2⟩ := row_behind W6 #[.int .i64 81, .int .i64 72] 37
    rw [hV2] at h1 h2 h3
    exact ⟨hT.next (HL6.out.next h2).b, h1, h3, h2⟩
  have HXc : Hid (Tab V3 ∧ Rd V3 (some ⟨W6.heap.size, 0, none⟩) (mzL [(81, 72)]) ∧ Blk V3 (W6.heap.size + 1) 27 #[.int .i64 0, .int .i64 0] ∧ Below W6.heap.size W6 V3) := by
    obtain ⟨h1, h3, h2⟩ := row_then W6 #[.int .i64 81, .int .i64 72] 37
    rw [hV3] at h1 h2 h3
    exact ⟨hT.next (HL6.out.next h2).b, h1, h3, h2⟩
  have HV1 := Lib.hid hV1
  have HV2 := Lib.hid hV2
  have HV3 := Lib.hid hV3
  have hS0 := s18 (HL6.out.next (Below.refl _ _).drew)
  clear hV1 hV2 hV3
  apply cut_
  · intro key
    go_region_held (fun W => W.cell? ⟨w.heap.size, 0, none⟩ = some (.string startS) ∧ W.cell? ⟨w.heap.size, 1, none⟩ = some (.int .i64 0) ∧ W.cell? ⟨w.heap.size, 2, none⟩ = some (.int .i64 0) ∧ W.cell? ⟨w.heap.size, 3, none⟩ = some (.int .i64 1) ∧ W.cell? ⟨w.heap.size + 1, 0, none⟩ = some (.int .i64 0) ∧ W.cell? ⟨w.heap.size + 1, 1, none⟩ = some (.int .i64 9) ∧ W.cell? ⟨w.heap.size + 1, 2, none⟩ = some (.int .i64 81) ∧ W.cell? ⟨w.heap.size + 1, 3, none⟩ = some (.int .i64 72) ∧ W.cell? ⟨w.heap.size + 1, 4, none⟩ = some (.int .i64 9) ∧ W.cell? ⟨w.heap.size + 1, 5, none⟩ = some (.int .i64 0) ∧ W.cell? ⟨w.heap.size + 1, 6, none⟩ = some (.int .i64 72) ∧ W.cell? ⟨w.heap.size + 1, 7, none⟩ = some (.int .i64 81))
      (first | exact hS0 | go_keep | exact s18 (HL6.out.next HB5.out) | exact s18 (HL6.out.next ((HB5.out.setCell (p := ⟨W6.heap.size, 0, none⟩) (Nat.le_refl _) _).setCell (p := ⟨W6.heap.size, 1, none⟩) (Nat.le_refl _) _)) | exact s18 (HL6.out.next ((HB5.out.setCell (p := ⟨W6.heap.size + 1, 0, none⟩) (Nat.le_succ _) _).setCell (p := ⟨W6.heap.size + 1, 1, none⟩) (Nat.le_succ _) _)))
      ((go_at_call 14; (first
      | (rw [HV1.out]; refine (jp1 _ V1 HXa.out.1 HXa.out.2.1).mono ?_; rintro e w7 ⟨A5, n5, c5, rfl, hb⟩; have HB5 : Hid (Below W6.heap.size W6 w7) := HXa.out.2.2.trans (hb.mono HXa.out.2.2.size); clear hb)
      | (rw [HV2.out]; refine (jp1 _ V2 HXb.out.1 HXb.out.2.1).mono ?_; rintro e w7 ⟨A5, n5, c5, rfl, hb⟩; have bz5 := HXb.out.2.2.1.next hb; have HB5 : Hid (Below W6.heap.size W6 w7) := HXb.out.2.2.2.trans (hb.mono HXb.out.2.2.2.size); obtain ⟨z0, z1⟩ := two_cells bz5; have f0 := bz5.frozen 0; have f1 := bz5.frozen 1; clear hb bz5)
      | (rw [HV3.out]; refine (jp1 _ V3 HXc.out.1 HXc.out.2.1).mono ?_; rintro e w7 ⟨A5, n5, c5, rfl, hb⟩; have bz5 := HXc.out.2.2.1.next hb; have HB5 : Hid (Below W6.heap.size W6 w7) := HXc.out.2.2.2.trans (hb.mono HXc.out.2.2.2.size); obtain ⟨z0, z1⟩ := two_cells bz5; have f0 := bz5.frozen 0; have f1 := bz5.frozen 1; clear hb bz5))))
    all_goals
      first
      | (have HL8 := Lib.hid (HL6.out.next (HB5.out.alloc (o := .cells #[.int .i64 0, .int .i64 0] 27) HB5.out.size))
         obtain ⟨W8, hWn⟩ : ∃ x, w7.alloc (.cells #[.int .i64 0, .int .i64 0] 27) = x := ⟨_, rfl⟩
         rw [hWn] at HL8 ⊢
         clear hWn
         generalize w7.heap.size = gd
         generalize W6.heap.size = gr)
      | (have HL8 := Lib.hid (HL6.out.next ((HB5.out.setCell (p := ⟨W6.heap.size, 0, none⟩) (Nat.le_refl _) (.int .i64 0)).setCell (p := ⟨W6.heap.size, 1, none⟩) (Nat.le_refl _) (.int .i64 0)))
         obtain ⟨W8, hWn⟩ : ∃ x, ((w7.setCell ⟨W6.heap.size, 0, none⟩ (.int .i64 0)).setCell ⟨W6.heap.size, 1, none⟩ (.int .i64 0)) = x := ⟨_, rfl⟩
         rw [hWn] at HL8 ⊢
         clear hWn z0 z1 f0 f1
         generalize W6.heap.size + 1 = gr
         generalize W6.heap.size = gd)
      | (have HL8 := Lib.hid (HL6.out.next ((HB5.out.setCell (p := ⟨W6.heap.size + 1, 0, none⟩) (Nat.le_succ _) (.int .i64 0)).setCell (p := ⟨W6.heap.size + 1, 1, none⟩) (Nat.le_succ _) (.int .i64 0)))
         obtain ⟨W8, hWn⟩ : ∃ x, ((w7.setCell ⟨W6.heap.size + 1, 0, none⟩ (.int .i64 0)).setCell ⟨W6.heap.size + 1, 1, none⟩ (.int .i64 0)) = x := ⟨_, rfl⟩
         rw [hWn] at HL8 ⊢
         clear hWn z0 z1 f0 f1
         generalize W6.heap.size + 1 = gd
         generalize W6.heap.size = gr)
      clear HB5
      revert HL8
      revert gr
      revert gd
      revert W8
      revert c5
      revert n5
      revert A5
      exact key
  intro A7 n7 c7 W8 gd7 gr7 HL8
  clear HXa HXb HXc HV1 HV2 HV3 hS0
  clear p0 p1 p2 p3 m0 m1 m2 m3 m4 m5 m6 m7
  have hS := s18b (HL8.out.next (Below.refl _ _).drew)
  have t1 := fro_table21
  have t2 := fro_table01
  have t3 := fro_last5
  go_wp2_with fail
  go_region_held3 (fun W => W.cell? ⟨g1, 0, none⟩ = some (.int .i64 1) ∧ W.cell? ⟨g1, 1, none⟩ = some (.int .i64 5) ∧ W.cell? ⟨gq, 0, none⟩ = some (.int .i64 0) ∧ W.cell? ⟨gq, 1, none⟩ = some (.int .i64 0) ∧ L18 w W g1 gq A1)
    (first | exact hS | exact s18k (by assumption) hb)
    (first
      | (go_at_call 17; refine (table_any _ _ _).mono ?_; rintro e w9 ⟨rfl, hb⟩)
      | (go_at_call 38; refine (last_t _ hT (by assumption) HC1.out).mono ?_; rintro e w9 ⟨rfl, hb⟩))
  all_goals
    have hF : L18 w w9 g1 gq A1 := s18e (by assumption)
    go_wp2
    go_ret
    exact ⟨rfl, hF.b⟩
end Go.Proofs.YtiiipchfclmbcaaGreatDoor
