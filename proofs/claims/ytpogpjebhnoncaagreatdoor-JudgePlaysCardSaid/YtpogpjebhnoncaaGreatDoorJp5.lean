/- What CardJudgePlays needs, part 5: taken together by a program (tools/prune.py). -/
import Derived.Lib.TrailingZeros
import Derived.Test.YtpogpjebhnoncaaGreatDoorRows
import Derived.WalkKit
import Derived.WalkSpells
import Derived.WalkLawsBesides
import Derived.Outline
import Derived.Laws.BitsAllLaws
import Derived.Laws.OwnMore
import Derived.Deep.RegionWith
import Derived.Deep.RegionHeld3
import Derived.Deep.QuietTactic
import Derived.BigQuiet
import Derived.RangeFuncBox
import Derived.RangeFuncCalls
import Derived.RangeFuncLeaves
import Derived.RangeFuncNested
import Derived.Shelf.Abstract
import Derived.OwnWalkIn
import Derived.TacticsInMore
import Derived.LoopNIn
import Derived.LoopIn
import Derived.Maps.AppendAt
import Derived.Lib.Hide
import Derived.Laws.IdiomStrings
import Derived.Laws.EntriesVeiled
import Derived.Lib.Strings
import Derived.Lib.Walk
import Derived.Lib.Bytealg
import Derived.Shelf.Strings.Search1
import Derived.Ground.SlgfProg
import Derived.Shelf.SlicesE.IndexFunc
import Derived.Shelf.SlicesE.DeleteFunc
import Derived.Test.YtpogpjebhnoncaaGreatDoorProg
import Derived.Lib.OwnBridge
import Derived.Lib.SliceRun
import Derived.Deep.LoopGhost
import Derived.Shelf.Small.Strs
import Derived.Shelf.Slices.Turned
import Derived.Deep.AppendLies
import Derived.Deep.RegionHeldLaw
import Derived.Deep.RegionHeld
import Derived.Deep.RegionLaw
import Derived.Test.YtpogpjebhnoncaaGreatDoorCards
import Derived.Test.YtpogpjebhnoncaaGreatDoorTie
import Derived.ProofKit
import Derived.OpenShut
import Derived.Deep.DeepHandedRow
import Derived.Lib.LaidTab
import Derived.Lib.SmallJoins
import Derived.Deep.SlicePairs
import Derived.Test.YtpogpjebhnoncaaGreatDoorJp4
namespace Go.Proofs.YtpogpjebhnoncaaGreatDoor
open Go.RowKit Go.Shelf
open M (S)
theorem jp4 (C : Option Addr) (d : Nat) (w : World) (hT : Tab w) (hm : Rd w C (mzL froM)) (hd : 4 ≤ d) : Calls Tryz.prog 10 #[.agg #[.string startS, .int .i64 0, .int .i64 0, .int .i64 1], .slice C 4 d] w (fun e w' => ∃ A c, e = .returned (.tuple #[.agg #[.int .i64 1, .int .i64 5], .slice A 5 c, .int .i64 0]) ∧ Rd w' A (psL froL) ∧ 5 ≤ c ∧ Below w.heap.size w w') := by
  have h := jplay_any froP0 C froM 4 d w hT hm rfl hd
  rw [fro_game4.1, fro_game4.2.1, fro_game4.2.2] at h
  exact h
theorem jp3 (C : Option Addr) (d : Nat) (w : World) (hT : Tab w) (hm : Rd w C (mzL froM)) (hd : 3 ≤ d) : Calls Tryz.prog 10 #[.agg #[.string startS, .int .i64 0, .int .i64 0, .int .i64 1], .slice C 3 d] w (fun e w' => ∃ A n c, e = .returned (.tuple #[.agg #[.int .i64 0, .int .i64 0], .slice A n c, .int .i64 0]) ∧ Below w.heap.size w w') := by
  have h := jplay_any froP0 C (froM.take 3) 3 d w hT (rd_take hm 3) rfl hd
  rw [fro_game3.1, fro_game3.2] at h
  refine h.mono ?_
  rintro e w' ⟨A, c, he, _, _, hb⟩
  exact ⟨A, _, c, he, hb⟩
theorem jpx (ms : List (Int × Int)) (n : Nat) (k : Int) (hn : ms.length = n) (hn9 : n ≤ 1024) (hr : (runJ froP0 ms n).1 = k) (hk : k ≠ 0) (C : Option Addr) (d : Nat) (w : World) (hT : Tab w) (hm : Rd w C (mzL ms)) (hd : n ≤ d) : Calls Tryz.prog 10 #[.agg #[.string startS, .int .i64 0, .int .i64 0, .int .i64 1], .slice C n d] w (fun e w' => ∃ A m c, e = .returned (.tuple #[.agg #[.int .i64 0, .int .i64 0], .slice A m c, .int .i64 k]) ∧ Below w.heap.size w w') := by
  have h := jplay_any froP0 C ms n d w hT hm hn hd
  obtain ⟨h1, h2, h3⟩ := play_err (p := froP0) (ms := ms) (k := n) (e := k) fro_well0 (by omega) (by omega) hr hk
  rw [h1, h2, h3] at h
  refine h.mono ?_
  rintro e w' ⟨A, c, he, _, _, hb⟩
  exact ⟨A, _, c, he, hb⟩
theorem jp5 (C : Option Addr) (w : World) (hT : Tab w) (hm : Rd w C (mzL froM5)) : Calls Tryz.prog 10 #[.agg #[.string startS, .int .i64 0, .int .i64 0, .int .i64 1], .slice C 5 5] w (fun e w' => ∃ A m c, e = .returned (.tuple #[.agg #[.int .i64 0, .int .i64 0], .slice A m c, .int .i64 10]) ∧ Below w.heap.size w w') :=
  jpx froM5 5 10 rfl (by decide) (congrArg Prod.fst fro_run5) (by decide) C 5 w hT hm (by decide)
theorem jp1 (C : Option Addr) (w : World) (hT : Tab w) (hm : Rd w C (mzL [(81, 72)])) : Calls Tryz.prog 10 #[.agg #[.string startS, .int .i64 0, .int .i64 0, .int .i64 1], .slice C 1 1] w (fun e w' => ∃ A m c, e = .returned (.tuple #[.agg #[.int .i64 0, .int .i64 0], .slice A m c, .int .i64 7]) ∧ Below w.heap.size w w') :=
  jpx [(81, 72)] 1 7 rfl (by decide) (congrArg Prod.fst fro_run9) (by decide) C 1 w hT hm (by decide)
theorem rd_blk {W : World} {g : Nat} {t : TypeId} {cs : Array Value} (h : Blk W g t cs) : Rd W (some ⟨g, 0, none⟩) cs.toList := fun j u hu => ⟨_, rfl, by
  have e1 : (⟨g, 0, none⟩ : Addr).add j = ⟨g, j, none⟩ := by
    simp only [Addr.add]
    split <;> simp_all
  rw [e1, h.cell j, ← hu, ← Array.getElem?_toList]⟩
structure L18 (w W : World) (g1 gq : Nat) (A1 : Option Addr) : Prop where
  b : Below w.heap.size w W
  v : Blk W g1 27 #[.int .i64 1, .int .i64 5]
  q : Blk W gq 27 #[.int .i64 0, .int .i64 0]
  r : Rd W A1 (psL froL)
  p : Blk W w.heap.size 23 #[.string startS, .int .i64 0, .int .i64 0, .int .i64 1]
  m : Blk W (w.heap.size + 1) 54 #[.int .i64 0, .int .i64 9, .int .i64 81, .int .i64 72, .int .i64 9, .int .i64 0, .int .i64 72, .int .i64 81]
theorem L18.next {w W W' : World} {g1 gq : Nat} {A1 : Option Addr} (h : L18 w W g1 gq A1) (hb : Below W.heap.size W W') : L18 w W' g1 gq A1 :=
  ⟨h.b.trans (hb.mono h.b.size), h.v.next hb, h.q.next hb, h.r.next hb, h.p.next hb, h.m.next hb⟩
abbrev Z2 : Obj := .cells #[.int .i64 0, .int .i64 0] 27
theorem row_first (W : World) (cs : Array Value) (t : TypeId) : Rd (W.alloc (.cells cs t)).drew (some ⟨W.heap.size, 0, none⟩) cs.toList ∧ Below W.heap.size W (W.alloc (.cells cs t)).drew :=
  ⟨rd_blk ((Blk.new W t cs rfl).next (Below.refl _ _).drew), (below_new _ _).drew⟩
theorem row_then (W : World) (cs : Array Value) (t : TypeId) : Rd ((W.alloc (.cells cs t)).alloc Z2).drew (some ⟨W.heap.size, 0, none⟩) cs.toList ∧ Blk ((W.alloc (.cells cs t)).alloc Z2).drew (W.heap.size + 1) 27 #[.int .i64 0, .int .i64 0] ∧ Below W.heap.size W ((W.alloc (.cells cs t)).alloc Z2).drew :=
  ⟨rd_blk (((Blk.new W t cs rfl).alloc _).next (Below.refl _ _).drew), (Blk.new _ _ _ (by simp)).next (Below.refl _ _).drew, ((below_new _ _).alloc (by simp) _).drew⟩
theorem row_behind (W : World) (cs : Array Value) (t : TypeId) : Rd ((W.alloc Z2).alloc (.cells cs t)).drew (some ⟨W.heap.size + 1, 0, none⟩) cs.toList ∧ Blk ((W.alloc Z2).alloc (.cells cs t)).drew W.heap.size 27 #[.int .i64 0, .int .i64 0] ∧ Below W.heap.size W ((W.alloc Z2).alloc (.cells cs t)).drew :=
  ⟨rd_blk ((Blk.new (W.alloc Z2) t cs (by simp)).next (Below.refl _ _).drew), ((Blk.new _ _ _ rfl).alloc _).next (Below.refl _ _).drew, ((below_new _ _).alloc (by simp) _).drew⟩
theorem s18 {w W : World} {g1 gq : Nat} {A1 : Option Addr} (h : L18 w W g1 gq A1) : W.cell? ⟨w.heap.size, 0, none⟩ = some (.string startS) ∧ W.cell? ⟨w.heap.size, 1, none⟩ = some (.int .i64 0) ∧ W.cell? ⟨w.heap.size, 2, none⟩ = some (.int .i64 0) ∧ W.cell? ⟨w.heap.size, 3, none⟩ = some (.int .i64 1) ∧ W.cell? ⟨w.heap.size + 1, 0, none⟩ = some (.int .i64 0) ∧ W.cell? ⟨w.heap.size + 1, 1, none⟩ = some (.int .i64 9) ∧ W.cell? ⟨w.heap.size + 1, 2, none⟩ = some (.int .i64 81) ∧ W.cell? ⟨w.heap.size + 1, 3, none⟩ = some (.int .i64 72) ∧ W.cell? ⟨w.heap.size + 1, 4, none⟩ = some (.int .i64 9) ∧ W.cell? ⟨w.heap.size + 1, 5, none⟩ = some (.int .i64 0) ∧ W.cell? ⟨w.heap.size + 1, 6, none⟩ = some (.int .i64 72) ∧ W.cell? ⟨w.heap.size + 1, 7, none⟩ = some (.int .i64 81) :=
  ⟨h.p.cell 0, h.p.cell 1, h.p.cell 2, h.p.cell 3, h.m.cell 0, h.m.cell 1, h.m.cell 2, h.m.cell 3, h.m.cell 4, h.m.cell 5, h.m.cell 6, h.m.cell 7⟩
theorem s18b {w W : World} {g1 gq : Nat} {A1 : Option Addr} (h : L18 w W g1 gq A1) : W.cell? ⟨g1, 0, none⟩ = some (.int .i64 1) ∧ W.cell? ⟨g1, 1, none⟩ = some (.int .i64 5) ∧ W.cell? ⟨gq, 0, none⟩ = some (.int .i64 0) ∧ W.cell? ⟨gq, 1, none⟩ = some (.int .i64 0) ∧ L18 w W g1 gq A1 :=
  ⟨h.v.cell 0, h.v.cell 1, h.q.cell 0, h.q.cell 1, h⟩
theorem s18k {w W W' : World} {g1 gq : Nat} {A1 : Option Addr} (h : W.cell? ⟨g1, 0, none⟩ = some (.int .i64 1) ∧ W.cell? ⟨g1, 1, none⟩ = some (.int .i64 5) ∧ W.cell? ⟨gq, 0, none⟩ = some (.int .i64 0) ∧ W.cell? ⟨gq, 1, none⟩ = some (.int .i64 0) ∧ L18 w W g1 gq A1) (hb : Below W.heap.size W W') : W'.cell? ⟨g1, 0, none⟩ = some (.int .i64 1) ∧ W'.cell? ⟨g1, 1, none⟩ = some (.int .i64 5) ∧ W'.cell? ⟨gq, 0, none⟩ = some (.int .i64 0) ∧ W'.cell? ⟨gq, 1, none⟩ = some (.int .i64 0) ∧ L18 w W' g1 gq A1 := s18b (h.2.2.2.2.next hb)
theorem s18e {w W : World} {g1 gq : Nat} {A1 : Option Addr} (h : W.cell? ⟨g1, 0, none⟩ = some (.int .i64 1) ∧ W.cell? ⟨g1, 1, none⟩ = some (.int .i64 5) ∧ W.cell? ⟨gq, 0, none⟩ = some (.int .i64 0) ∧ W.cell? ⟨gq, 1, none⟩ = some (.int .i64 0) ∧ L18 w W g1 gq A1) : L18 w W g1 gq A1 := h.2.2.2.2
theorem last_t {w W : World} {g1 gq : Nat} {A1 : Option Addr} (c1 : Nat) (hT : Tab w) (h : W.cell? ⟨g1, 0, none⟩ = some (.int .i64 1) ∧ W.cell? ⟨g1, 1, none⟩ = some (.int .i64 5) ∧ W.cell? ⟨gq, 0, none⟩ = some (.int .i64 0) ∧ W.cell? ⟨gq, 1, none⟩ = some (.int .i64 0) ∧ L18 w W g1 gq A1) (hc : 5 ≤ c1) : Calls Tryz.prog 35 #[.slice A1 5 c1, .slice (some ⟨w.heap.size + 1, 0, none⟩) 4 4] W (Gives W (.agg #[.int .i64 (lastI froL froM).1, .int .i64 (lastI froL froM).2])) :=
  jlast_any A1 _ froL froM 5 c1 4 4 W (hT.next h.2.2.2.2.b) h.2.2.2.2.r rfl (rd_blk h.2.2.2.2.m) rfl (by decide) hc (Nat.le_refl _)
theorem cut_ {K G : Prop} (h : K → G) (k : K) : G := h k
set_option maxRecDepth 100000 in
set_option maxHeartbeats 20000000 in
theorem live18_any (w : World) (hT : Tab w) : Calls Tryz.prog 9 #[] w (Gives w (.bool true)) := by
  unfold Gives
  go_enter Tryz.func9, Tryz.ntmps9
  go_wp2_with fail
  obtain ⟨W0, hW0⟩ : ∃ W0, (w.alloc (.cells #[.string startS, .int .i64 0, .int .i64 0, .int .i64 1] 23)).alloc (.cells #[.int .i64 0, .int .i64 9, .int .i64 81, .int .i64 72, .int .i64 9, .int .i64 0, .int .i64 72, .int .i64 81] 54) = W0 := ⟨_, rfl⟩
  have hB0 : Below w.heap.size w W0 := by rw [← hW0]; exact (by repeat (first | exact Below.refl _ _ | (refine Below.setCell ?_ (by first | omega | (simp; done) | (simp; omega) | (simp at *; omega)) _) | (refine Below.alloc ?_ (by first | omega | (simp; done) | (simp; omega) | (simp at *; omega)) _) | refine Below.drew ?_ | (refine below_drewN ?_ _) | (refine Below.trans ?_ (Below.mono (by assumption) (by first | omega | (simp; done) | (simp; omega) | (simp at *; omega))))))
  have bP : Blk W0 w.heap.size 23 #[.string startS, .int .i64 0, .int .i64 0, .int .i64 1] := by rw [← hW0]; exact (Blk.new _ _ _ rfl).alloc _
  have bM : Blk W0 (w.heap.size + 1) 54 #[.int .i64 0, .int .i64 9, .int .i64 81, .int .i64 72, .int .i64 9, .int .i64 0, .int .i64 72, .int .i64 81] := by rw [← hW0]; exact Blk.new _ _ _ (by simp)
  have HM : Hid (Rd W0 (some ⟨w.heap.size + 1, 0, none⟩) (mzL froM)) := rd_blk bM
  have HP := Lib.hid bP
  have HBM := Lib.hid bM
  rw [show (⟨#[82, 78, 66, 65, 75, 65, 66, 78, 82, 46, 46, 46, 46, 46, 46, 46, 46, 46, 46, 67, 46, 46, 46, 46, 46, 67, 46, 80, 46, 80, 46, 80, 46, 80, 46, 80, 46, 46, 46, 46, 46, 46, 46, 46, 46, 46, 46, 46, 46, 46, 46, 46, 46, 46, 112, 46, 112, 46, 112, 46, 112, 46, 112, 46, 99, 46, 46, 46, 46, 46, 99, 46, 46, 46, 46, 46, 46, 46, 46, 46, 46, 114, 110, 98, 97, 107, 97, 98, 110, 114]⟩ : ByteArray) = startS from rfl, hW0]
  clear hW0 bP bM
  refine (jp4 _ _ _ (hT.next hB0) HM.out (by decide)).mono ?_
  rintro e w1 ⟨A1, c1, rfl, hr1, hc1, hb1⟩
  have hB1 := hB0.trans (hb1.mono hB0.size)
  have HR1 := Lib.hid hr1
  have HC1 := Lib.hid hc1
  have HP1 := Lib.hid (HP.out.next hb1)
  have HM1 := Lib.hid (HM.out.next hb1)
  have HBM1 := Lib.hid (HBM.out.next hb1)
  obtain ⟨p0, p1, p2, p3⟩ := four_cells HP1.out
  obtain ⟨W2, hW2⟩ : ∃ W2, w1.alloc (.cells #[.int .i64 1, .int .i64 5] 27) = W2 := ⟨_, rfl⟩
  have bV : Blk W2 w1.heap.size 27 #[.int .i64 1, .int .i64 5] := by rw [← hW2]; exact Blk.new _ _ _ rfl
  have hb2 : Below w1.heap.size w1 W2 := by rw [← hW2]; exact below_new _ _
  have HBV := Lib.hid bV
  have HB2 := Lib.hid (hB1.trans (hb2.mono hB1.size))
  have HR2 := Lib.hid (HR1.out.next hb2)
  have HP2 := Lib.hid (HP1.out.next hb2)
  have HM2 := Lib.hid (HM1.out.next hb2)
  have HBM2 := Lib.hid (HBM1.out.next hb2)
  have HW2 := Lib.hid hW2
  obtain ⟨g1, hg1⟩ : ∃ g, w1.heap.size = g := ⟨_, rfl⟩
  have HG1 := Lib.hid hg1
  rw [hg1] at HBV
  clear hr1 hc1 hb1 hB0 HP HM HBM hW2 bV hb2 hB1 HR1 HP1 HM1 HBM1
  go_wp2_with fail
  (try rw [HW2.out])
  (try rw [hg1])
  clear HW2 HG1 hg1 p0 p1 p2 p3
  obtain ⟨p0, p1, p2, p3⟩ := four_cells HP2.out
  have hba : Below W2.heap.size W2 (W2.alloc (.cells #[.int .i64 0, .int .i64 0] 27)) := (Below.refl _ _).alloc (Nat.le_refl _) _
  have HBZ : Hid (Blk (W2.alloc (.cells #[.int .i64 0, .int .i64 0] 27)).drew W2.heap.size 27 #[.int .i64 0, .int .i64 0]) := (Blk.new W2 27 #[.int .i64 0, .int .i64 0] rfl).next (Below.refl _ _).drew
  have HBA := Lib.hid hba
  have hal : ∀ (o : Obj) (pl : Addr) (x : Value), W2.cell? pl = some x → (W2.alloc o).cell? pl = some x := fun o pl x h => (((Below.refl W2.heap.size W2).alloc (Nat.le_refl _) o).cell (cell_lt h)).trans h
  have pa0 := fun o => hal o _ _ p0
  have pa1 := fun o => hal o _ _ p1
  have pa2 := fun o => hal o _ _ p2
  have pa3 := fun o => hal o _ _ p3
  have HT2 := Lib.hid (hT.next HB2.out)
  clear hba hal
  apply cut_
  · intro key
    go_region_with ((go_at_call 10; first
      | (refine (jp3 _ _ W2.drew (HT2.out.next (Below.refl _ _).drew) (HM2.out.next (Below.refl _ _).drew) (by decide)).mono ?_; rintro e w3 ⟨A3, n3, c3, rfl, hb⟩)
      | (refine (jp3 _ _ (W2.alloc (.cells #[.int .i64 0, .int .i64 0] 27)).drew (HT2.out.next HBA.out.drew) (HM2.out.next HBA.out.drew) (by decide)).mono ?_; rintro e w3 ⟨A3, n3, c3, rfl, hb⟩; obtain ⟨z0, z1⟩ := two_cells (HBZ.out.next hb); have f0 := (HBZ.out.next hb).frozen 0; have f1 := (HBZ.out.next hb).frozen 1; obtain ⟨W4, hW4⟩ : ∃ x, ((w3.setCell ⟨W2.heap.size, 0, none⟩ (.int .i64 0)).setCell ⟨W2.heap.size, 1, none⟩ (.int .i64 0)) = x := ⟨_, rfl⟩)))
    all_goals
      first
      | (have hb3 : Below W2.heap.size W2 w3 := ((Below.refl W2.heap.size W2).drew).trans hb
         obtain ⟨W4, hW4⟩ : ∃ x, w3.alloc (.cells #[.int .i64 0, .int .i64 0] 27) = x := ⟨_, rfl⟩
         rw [hW4]
         have hgq : W2.heap.size ≤ w3.heap.size := hb3.size
         have hb4 : Below W2.heap.size W2 W4 := by rw [← hW4]; exact hb3.alloc hb3.size _
         have bQ : Blk W4 w3.heap.size 27 #[.int .i64 0, .int .i64 0] := by rw [← hW4]; exact Blk.new _ _ _ rfl
         clear hW4 hb3 hb
         generalize w3.heap.size = gq at bQ hgq ⊢)
      | (have hb3 : Below W2.heap.size W2 w3 := (HBA.out.drew).trans (hb.mono (HBA.out.drew).size)
         have bz := HBZ.out.next hb
         have hb4 : Below W2.heap.size W2 W4 := by rw [← hW4]; exact (hb3.setCell (p := ⟨W2.heap.size, 0, none⟩) (Nat.le_refl _) _).setCell (p := ⟨W2.heap.size, 1, none⟩) (Nat.le_refl _) _
         have bQ : Blk W4 W2.heap.size 27 #[.int .i64 0, .int .i64 0] := by rw [← hW4]; exact (bz.set_ 0 (.int .i64 0)).set_ 1 (.int .i64 0)
         obtain ⟨gq, hgqe⟩ : ∃ gq, W2.heap.size = gq := ⟨_, rfl⟩
         have hgq : W2.heap.size ≤ gq := Nat.le_of_eq hgqe
         clear hW4 hb3 hb bz
         (try clear z0 z1 f0 f1)
         rw [hgqe] at bQ ⊢
         clear hgqe)
      have HL4 : Hid (L18 w W4 g1 gq A1) := ⟨HB2.out.trans (hb4.mono HB2.out.size), HBV.out.next hb4, bQ, HR2.out.next hb4, HP2.out.next hb4, HBM2.out.next hb4⟩
      clear hb4 hgq bQ
      revert HL4
      revert gq
      revert W4
      revert c3
      revert n3
      revert A3
      exact key
  intro A3 n3 c3 W4 gq HL4
  clear pa0 pa1 pa2 pa3 p0 p1 p2 p3 HBA HBZ HT2 HBM2 HM2 HP2 HR2 HB2 HBV
  obtain ⟨p0, p1, p2, p3, m0, m1, m2, m3, m4, m5, m6, m7⟩ := s18 HL4.out
  go_wp2_with fail
  obtain ⟨V1, hV1⟩ : ∃ V, (W4.alloc (.cells #[.int .i64 0, .int .i64 9, .int .i64 81, .int .i64 72, .int .i64 9, .int .i64 0, .int .i64 72, .int .i64 81, .int .i64 0, .int .i64 9] 54)).drew = V := ⟨_, rfl⟩
  obtain ⟨V2, hV2⟩ : ∃ V, ((W4.alloc (.cells #[.int .i64 0, .int .i64 0] 27)).alloc (.cells #[.int .i64 0, .int .i64 9, .int .i64 81, .int .i64 72, .int .i64 9, .int .i64 0, .int .i64 72, .int .i64 81, .int .i64 0, .int .i64 9] 54)).drew = V := ⟨_, rfl⟩
  obtain ⟨V3, hV3⟩ : ∃ V, ((W4.alloc (.cells #[.int .i64 0, .int .i64 9, .int .i64 81, .int .i64 72, .int .i64 9, .int .i64 0, .int .i64 72, .int .i64 81, .int .i64 0, .int .i64 9] 54)).alloc (.cells #[.int .i64 0, .int .i64 0] 27)).drew = V := ⟨_, rfl⟩
  have HXa : Hid (Tab V1 ∧ Rd V1 (some ⟨W4.heap.size, 0, none⟩) (mzL froM5) ∧ Below W4.heap.size W4 V1) := by
    obtain ⟨h1, h2⟩ := row_first W4 #[.int .i64 0, .int .i64 9, .int .i64 81, .int .i64 72, .int .i64 9, .int .i64 0, .int .i64 72, .int .i64 81, .int .i64 0, .int .i64 9] 54
    rw [hV1] at h1 h2
    exact ⟨hT.next (HL4.out.next h2).b, h1, h2⟩
  have HXb : Hid (Tab V2 ∧ Rd V2 (some ⟨W4.heap.size + 1, 0, none⟩) (mzL froM5) ∧ Blk V2 W4.heap.size 27 #[.int .i64 0, .int .i64 0] ∧ Below W4.heap.size W4 V2) := by
    obtain ⟨h1, h3, h2⟩ := row_behind W4 #[.int .i64 0, .int .i64 9, .int .i64 81, .int .i64 72, .int .i64 9, .int .i64 0, .int .i64 72, .int .i64 81, .int .i64 0, .int .i64 9] 54
    rw [hV2] at h1 h2 h3
    exact ⟨hT.next (HL4.out.next h2).b, h1, h3, h2⟩
  have HXc : Hid (Tab V3 ∧ Rd V3 (some ⟨W4.heap.size, 0, none⟩) (mzL froM5) ∧ Blk V3 (W4.heap.size + 1) 27 #[.int .i64 0, .int .i64 0] ∧ Below W4.heap.size W4 V3) := by
    obtain ⟨h1, h3, h2⟩ := row_then W4 #[.int .i64 0, .int .i64 9, .int .i64 81, .int .i64 72, .int .i64 9, .int .i64 0, .int .i64 72, .int .i64 81, .int .i64 0, .int .i64 9] 54
    rw [hV3] at h1 h2 h3
    exact ⟨hT.next (HL4.out.next h2).b, h1, h3, h2⟩
  have HV1 := Lib.hid hV1
  have HV2 := Lib.hid hV2
  have HV3 := Lib.hid hV3
  have hS0 := s18 (HL4.out.next (Below.refl _ _).drew)
  clear hV1 hV2 hV3
  apply cut_
  · intro key
    go_region_held (fun W => W.cell? ⟨w.heap.size, 0, none⟩ = some (.string startS) ∧ W.cell? ⟨w.heap.size, 1, none⟩ = some (.int .i64 0) ∧ W.cell? ⟨w.heap.size, 2, none⟩ = some (.int .i64 0) ∧ W.cell? ⟨w.heap.size, 3, none⟩ = some (.int .i64 1) ∧ W.cell? ⟨w.heap.size + 1, 0, none⟩ = some (.int .i64 0) ∧ W.cell? ⟨w.heap.size + 1, 1, none⟩ = some (.int .i64 9) ∧ W.cell? ⟨w.heap.size + 1, 2, none⟩ = some (.int .i64 81) ∧ W.cell? ⟨w.heap.size + 1, 3, none⟩ = some (.int .i64 72) ∧ W.cell? ⟨w.heap.size + 1, 4, none⟩ = some (.int .i64 9) ∧ W.cell? ⟨w.heap.size + 1, 5, none⟩ = some (.int .i64 0) ∧ W.cell? ⟨w.heap.size + 1, 6, none⟩ = some (.int .i64 72) ∧ W.cell? ⟨w.heap.size + 1, 7, none⟩ = some (.int .i64 81))
      (first | exact hS0 | go_keep | exact s18 (HL4.out.next HB5.out) | exact s18 (HL4.out.next ((HB5.out.setCell (p := ⟨W4.heap.size, 0, none⟩) (Nat.le_refl _) _).setCell (p := ⟨W4.heap.size, 1, none⟩) (Nat.le_refl _) _)) | exact s18 (HL4.out.next ((HB5.out.setCell (p := ⟨W4.heap.size + 1, 0, none⟩) (Nat.le_succ _) _).setCell (p := ⟨W4.heap.size + 1, 1, none⟩) (Nat.le_succ _) _)))
      ((go_at_call 10; (first
      | (rw [HV1.out]; refine (jp5 _ V1 HXa.out.1 HXa.out.2.1).mono ?_; rintro e w5 ⟨A5, n5, c5, rfl, hb⟩; have HB5 : Hid (Below W4.heap.size W4 w5) := HXa.out.2.2.trans (hb.mono HXa.out.2.2.size); clear hb)
      | (rw [HV2.out]; refine (jp5 _ V2 HXb.out.1 HXb.out.2.1).mono ?_; rintro e w5 ⟨A5, n5, c5, rfl, hb⟩; have bz5 := HXb.out.2.2.1.next hb; have HB5 : Hid (Below W4.heap.size W4 w5) := HXb.out.2.2.2.trans (hb.mono HXb.out.2.2.2.size); obtain ⟨z0, z1⟩ := two_cells bz5; have f0 := bz5.frozen 0; have f1 := bz5.frozen 1; clear hb bz5)
      | (rw [HV3.out]; refine (jp5 _ V3 HXc.out.1 HXc.out.2.1).mono ?_; rintro e w5 ⟨A5, n5, c5, rfl, hb⟩; have bz5 := HXc.out.2.2.1.next hb; have HB5 : Hid (Below W4.heap.size W4 w5) := HXc.out.2.2.2.trans (hb.mono HXc.out.2.2.2.size); obtain ⟨z0, z1⟩ := two_cells bz5; have f0 := bz5.frozen 0; have f1 := bz5.frozen 1; clear hb bz5))))
    all_goals
      first
      | (have HL6 := Lib.hid (HL4.out.next (HB5.out.alloc (o := .cells #[.int .i64 0, .int .i64 0] 27) HB5.out.size))
         obtain ⟨W6, hWn⟩ : ∃ x, w5.alloc (.cells #[.int .i64 0, .int .i64 0] 27) = x := ⟨_, rfl⟩
         rw [hWn] at HL6 ⊢
         clear hWn
         generalize w5.heap.size = gd
         generalize W4.heap.size = gr)
      | (have HL6 := Lib.hid (HL4.out.next ((HB5.out.setCell (p := ⟨W4.heap.size, 0, none⟩) (Nat.le_refl _) (.int .i64 0)).setCell (p := ⟨W4.heap.size, 1, none⟩) (Nat.le_refl _) (.int .i64 0)))
         obtain ⟨W6, hWn⟩ : ∃ x, ((w5.setCell ⟨W4.heap.size, 0, none⟩ (.int .i64 0)).setCell ⟨W4.heap.size, 1, none⟩ (.int .i64 0)) = x := ⟨_, rfl⟩
         rw [hWn] at HL6 ⊢
         clear hWn z0 z1 f0 f1
         generalize W4.heap.size + 1 = gr
         generalize W4.heap.size = gd)
      | (have HL6 := Lib.hid (HL4.out.next ((HB5.out.setCell (p := ⟨W4.heap.size + 1, 0, none⟩) (Nat.le_succ _) (.int .i64 0)).setCell (p := ⟨W4.heap.size + 1, 1, none⟩) (Nat.le_succ _) (.int .i64 0)))
         obtain ⟨W6, hWn⟩ : ∃ x, ((w5.setCell ⟨W4.heap.size + 1, 0, none⟩ (.int .i64 0)).setCell ⟨W4.heap.size + 1, 1, none⟩ (.int .i64 0)) = x := ⟨_, rfl⟩
         rw [hWn] at HL6 ⊢
         clear hWn z0 z1 f0 f1
         generalize W4.heap.size + 1 = gd
         generalize W4.heap.size = gr)
      clear HB5
      revert HL6
      revert gr
      revert gd
      revert W6
      revert c5
      revert n5
      revert A5
      exact key
  intro A5 n5 c5 W6 gd5 gr5 HL6
  clear HXa HXb HXc HV1 HV2 HV3 hS0
  clear p0 p1 p2 p3 m0 m1 m2 m3 m4 m5 m6 m7
  obtain ⟨p0, p1, p2, p3, m0, m1, m2, m3, m4, m5, m6, m7⟩ := s18 HL6.out
  go_wp2_with fail
  obtain ⟨V1, hV1⟩ : ∃ V, (W6.alloc (.cells #[.int .i64 81, .int .i64 72] 54)).drew = V := ⟨_, rfl⟩
  obtain ⟨V2, hV2⟩ : ∃ V, ((W6.alloc (.cells #[.int .i64 0, .int .i64 0] 27)).alloc (.cells #[.int .i64 81, .int .i64 72] 54)).drew = V := ⟨_, rfl⟩
  obtain ⟨V3, hV3⟩ : ∃ V, ((W6.alloc (.cells #[.int .i64 81, .int .i64 72] 54)).alloc (.cells #[.int .i64 0, .int .i64 0] 27)).drew = V := ⟨_, rfl⟩
  have HXa : Hid (Tab V1 ∧ Rd V1 (some ⟨W6.heap.size, 0, none⟩) (mzL [(81, 72)]) ∧ Below W6.heap.size W6 V1) := by
    obtain ⟨h1, h2⟩ := row_first W6 #[.int .i64 81, .int .i64 72] 54
    rw [hV1] at h1 h2
    exact ⟨hT.next (HL6.out.next h2).b, h1, h2⟩
  have HXb : Hid (Tab V2 ∧ Rd V2 (some ⟨W6.heap.size + 1, 0, none⟩) (mzL [(81, 72)]) ∧ Blk V2 W6.heap.size 27 #[.int .i64 0, .int .i64 0] ∧ Below W6.heap.size W6 V2) := by
    obtain ⟨h1, h3, h2⟩ := row_behind W6 #[.int .i64 81, .int .i64 72] 54
    rw [hV2] at h1 h2 h3
    exact ⟨hT.next (HL6.out.next h2).b, h1, h3, h2⟩
  have HXc : Hid (Tab V3 ∧ Rd V3 (some ⟨W6.heap.size, 0, none⟩) (mzL [(81, 72)]) ∧ Blk V3 (W6.heap.size + 1) 27 #[.int .i64 0, .int .i64 0] ∧ Below W6.heap.size W6 V3) := by
    obtain ⟨h1, h3, h2⟩ := row_then W6 #[.int .i64 81, .int .i64 72] 54
    rw [hV3] at h1 h2 h3
    exact ⟨hT.next (HL6.out.next h2).b, h1, h3, h2⟩
  have HV1 := Lib.hid hV1
  have HV2 := Lib.hid hV2
  have HV3 := Lib.hid hV3
  have hS0 := s18 (HL6.out.next (Below.refl _ _).drew)
  clear hV1 hV2 hV3
  apply cut_
  · intro key
    go_region_held (fun W => W.cell? ⟨w.heap.size, 0, none⟩ = some (.string startS) ∧ W.cell? ⟨w.heap.size, 1, none⟩ = some (.int .i64 0) ∧ W.cell? ⟨w.heap.size, 2, none⟩ = some (.int .i64 0) ∧ W.cell? ⟨w.heap.size, 3, none⟩ = some (.int .i64 1) ∧ W.cell? ⟨w.heap.size + 1, 0, none⟩ = some (.int .i64 0) ∧ W.cell? ⟨w.heap.size + 1, 1, none⟩ = some (.int .i64 9) ∧ W.cell? ⟨w.heap.size + 1, 2, none⟩ = some (.int .i64 81) ∧ W.cell? ⟨w.heap.size + 1, 3, none⟩ = some (.int .i64 72) ∧ W.cell? ⟨w.heap.size + 1, 4, none⟩ = some (.int .i64 9) ∧ W.cell? ⟨w.heap.size + 1, 5, none⟩ = some (.int .i64 0) ∧ W.cell? ⟨w.heap.size + 1, 6, none⟩ = some (.int .i64 72) ∧ W.cell? ⟨w.heap.size + 1, 7, none⟩ = some (.int .i64 81))
      (first | exact hS0 | go_keep | exact s18 (HL6.out.next HB5.out) | exact s18 (HL6.out.next ((HB5.out.setCell (p := ⟨W6.heap.size, 0, none⟩) (Nat.le_refl _) _).setCell (p := ⟨W6.heap.size, 1, none⟩) (Nat.le_refl _) _)) | exact s18 (HL6.out.next ((HB5.out.setCell (p := ⟨W6.heap.size + 1, 0, none⟩) (Nat.le_succ _) _).setCell (p := ⟨W6.heap.size + 1, 1, none⟩) (Nat.le_succ _) _)))
      ((go_at_call 10; (first
      | (rw [HV1.out]; refine (jp1 _ V1 HXa.out.1 HXa.out.2.1).mono ?_; rintro e w7 ⟨A5, n5, c5, rfl, hb⟩; have HB5 : Hid (Below W6.heap.size W6 w7) := HXa.out.2.2.trans (hb.mono HXa.out.2.2.size); clear hb)
      | (rw [HV2.out]; refine (jp1 _ V2 HXb.out.1 HXb.out.2.1).mono ?_; rintro e w7 ⟨A5, n5, c5, rfl, hb⟩; have bz5 := HXb.out.2.2.1.next hb; have HB5 : Hid (Below W6.heap.size W6 w7) := HXb.out.2.2.2.trans (hb.mono HXb.out.2.2.2.size); obtain ⟨z0, z1⟩ := two_cells bz5; have f0 := bz5.frozen 0; have f1 := bz5.frozen 1; clear hb bz5)
      | (rw [HV3.out]; refine (jp1 _ V3 HXc.out.1 HXc.out.2.1).mono ?_; rintro e w7 ⟨A5, n5, c5, rfl, hb⟩; have bz5 := HXc.out.2.2.1.next hb; have HB5 : Hid (Below W6.heap.size W6 w7) := HXc.out.2.2.2.trans (hb.mono HXc.out.2.2.2.size); obtain ⟨z0, z1⟩ := two_cells bz5; have f0 := bz5.frozen 0; have f1 := bz5.frozen 1; clear hb bz5))))
    all_goals
      first
      | (have HL8 := Lib.hid (HL6.out.next (HB5.out.alloc (o := .cells #[.int .i64 0, .int .i64 0] 27) HB5.out.size))
         obtain ⟨W8, hWn⟩ : ∃ x, w7.alloc (.cells #[.int .i64 0, .int .i64 0] 27) = x := ⟨_, rfl⟩
         rw [hWn] at HL8 ⊢
         clear hWn
         generalize w7.heap.size = gd
         generalize W6.heap.size = gr)
      | (have HL8 := Lib.hid (HL6.out.next ((HB5.out.setCell (p := ⟨W6.heap.size, 0, none⟩) (Nat.le_refl _) (.int .i64 0)).setCell (p := ⟨W6.heap.size, 1, none⟩) (Nat.le_refl _) (.int .i64 0)))
         obtain ⟨W8, hWn⟩ : ∃ x, ((w7.setCell ⟨W6.heap.size, 0, none⟩ (.int .i64 0)).setCell ⟨W6.heap.size, 1, none⟩ (.int .i64 0)) = x := ⟨_, rfl⟩
         rw [hWn] at HL8 ⊢
         clear hWn z0 z1 f0 f1
         generalize W6.heap.size + 1 = gr
         generalize W6.heap.size = gd)
      | (have HL8 := Lib.hid (HL6.out.next ((HB5.out.setCell (p := ⟨W6.heap.size + 1, 0, none⟩) (Nat.le_succ _) (.int .i64 0)).setCell (p := ⟨W6.heap.size + 1, 1, none⟩) (Nat.le_succ _) (.int .i64 0)))
         obtain ⟨W8, hWn⟩ : ∃ x, ((w7.setCell ⟨W6.heap.size + 1, 0, none⟩ (.int .i64 0)).setCell ⟨W6.heap.size + 1, 1, none⟩ (.int .i64 0)) = x := ⟨_, rfl⟩
         rw [hWn] at HL8 ⊢
         clear hWn z0 z1 f0 f1
         generalize W6.heap.size + 1 = gd
         generalize W6.heap.size = gr)
      clear HB5
      revert HL8
      revert gr
      revert gd
      revert W8
      revert c5
      revert n5
      revert A5
      exact key
  intro A7 n7 c7 W8 gd7 gr7 HL8
  clear HXa HXb HXc HV1 HV2 HV3 hS0
  clear p0 p1 p2 p3 m0 m1 m2 m3 m4 m5 m6 m7
  have hS := s18b (HL8.out.next (Below.refl _ _).drew)
  have t1 := fro_table21
  have t2 := fro_table01
  have t3 := fro_last5
  go_wp2_with fail
  go_region_held3 (fun W => W.cell? ⟨g1, 0, none⟩ = some (.int .i64 1) ∧ W.cell? ⟨g1, 1, none⟩ = some (.int .i64 5) ∧ W.cell? ⟨gq, 0, none⟩ = some (.int .i64 0) ∧ W.cell? ⟨gq, 1, none⟩ = some (.int .i64 0) ∧ L18 w W g1 gq A1)
    (first | exact hS | exact s18k (by assumption) hb)
    (first
      | (go_at_call 34; refine (table_any _ _ _).mono ?_; rintro e w9 ⟨rfl, hb⟩)
      | (go_at_call 35; refine (last_t _ hT (by assumption) HC1.out).mono ?_; rintro e w9 ⟨rfl, hb⟩))
  all_goals
    have hF : L18 w w9 g1 gq A1 := s18e (by assumption)
    go_wp2
    go_ret
    exact ⟨rfl, hF.b⟩
end Go.Proofs.YtpogpjebhnoncaaGreatDoor
namespace Go.Proofs.YtpogpjebhnoncaaGreatDoor
open Go.RowKit Go.Shelf
open M (S)
set_option maxRecDepth 100000 in
set_option maxHeartbeats 4000000 in
theorem rsame_is (A B : Option Addr) (l : List Ps) (n c d : Nat) (w : World) (ha : Rd w A (psL l)) (hb : Rd w B (psL l)) (hn : l.length = n) (hn9 : n ≤ 1000000) : Calls Tryz.prog 12 #[.slice A n c, .slice B n d] w (Gives w (.bool true)) := by
  unfold Gives
  have HN := Lib.hid hn
  have hnn : ((n : Int) != (n : Int)) = false := by simp
  clear hn
  go_enter Tryz.func12, Tryz.ntmps12
  go_wp2
  go_loopw [5] (fun i wr => ∃ j : Nat, j ≤ n ∧ i = .int .i64 (j : Int) ∧ Below w.heap.size w wr) (fun i _ => n - (intOf i).toNat)
  case atStart => exact ⟨0, Nat.zero_le _, rfl, Below.refl _ _⟩
  case round =>
    obtain ⟨j, hj, rfl, hB⟩ := hrel
    by_cases hlt : j < n
    · have bj : (j : Int) < (n : Int) := by omega
      have hjl : j < l.length := by rw [HN.out]; exact hlt
      obtain ⟨g1, b1, rfl, d0, d1, d2, d3⟩ := (ha.next hB).ps hjl
      obtain ⟨g2, b2, rfl, f0, f1, f2, f3⟩ := (hb.next hB).ps hjl
      obtain ⟨⟨s, y, z, u⟩, hq⟩ : ∃ q, l[j]'hjl = q := ⟨_, rfl⟩
      rw [hq] at d0 d1 d2 d3 f0 f1 f2 f3
      simp only at d0 d1 d2 d3 f0 f1 f2 f3
      have ss : (s.toList == s.toList) = true := by simp
      clear hq
      go_wp2
      go_quiet (fail)
      go_wp2
      go_roundw
      case rel => exact ⟨j + 1, by omega, by go_num, below_drewN hB _⟩
      case measure => simp [intOf]; omega
    · obtain rfl : j = n := by omega
      have bj : ¬ (j : Int) < (j : Int) := by omega
      go_wp2
      go_ret
      exact ⟨rfl, hB⟩
end Go.Proofs.YtpogpjebhnoncaaGreatDoor
namespace Go.Proofs.YtpogpjebhnoncaaGreatDoor
open Go.RowKit Go.Shelf
open M (S)
set_option maxRecDepth 100000 in
set_option maxHeartbeats 2000000 in
theorem rsame_two (s s2 : ByteArray) (y z u y2 z2 u2 : Int) (w : World) (v : Bool) (hv : ((s.toList == s2.toList) && (y == y2)) = v) : Calls Tryz.prog 141 #[.agg #[.string s, .int .i64 y, .int .i64 z, .int .i64 u], .agg #[.string s2, .int .i64 y2, .int .i64 z2, .int .i64 u2]] w (Gives w (.bool v)) := by
  unfold Gives
  obtain ⟨W0, hW0⟩ : ∃ W0, (w.alloc (.cells #[.string s, .int .i64 y, .int .i64 z, .int .i64 u] 23)).alloc (.cells #[.string s2, .int .i64 y2, .int .i64 z2, .int .i64 u2] 23) = W0 := ⟨_, rfl⟩
  obtain ⟨hB, b1, b2⟩ := two_start w _ _ _ hW0
  obtain ⟨p0, p1, p2, p3⟩ := four_cells b1
  obtain ⟨q0, q1, q2, q3⟩ := four_cells b2
  obtain ⟨e, he⟩ : ∃ e, (s.toList == s2.toList) = e := ⟨_, rfl⟩
  obtain ⟨f, hf⟩ : ∃ f, (y == y2) = f := ⟨_, rfl⟩
  rw [he, hf] at hv
  have HV := Lib.hid hv
  have HW := Lib.hid hW0
  clear hW0 hv
  cases e
  · go_enter Tryz.func141, Tryz.ntmps141
    go_wp2
    go_ret
    rw [HW.out]
    exact ⟨by rw [← HV.out]; rfl, hB⟩
  · go_enter Tryz.func141, Tryz.ntmps141
    go_wp2
    go_ret
    rw [HW.out]
    exact ⟨by rw [← HV.out]; rfl, hB⟩
set_option maxRecDepth 100000 in
set_option maxHeartbeats 2000000 in
theorem rearlier_some (g b : Nat) (l : List Ps) (n m c : Nat) (w : World) (hr : Rd w (some ⟨g, b, none⟩) (psL l)) (hn : l.length = n) (hm : n = m + 1) (hl : n ≤ 1000000) :
    Calls Tryz.prog 85 #[.slice (some ⟨g, b, none⟩) n c] w (Gives w (.int .i64 (earlierI l))) := by
  unfold Gives
  have HN := Lib.hid hn
  have HM := Lib.hid hm
  have bm : (m : Int) < (n : Int) := by omega
  have hm1 : (n : Int) - 1 = (m : Int) := by omega
  have hmw : IntKind.i64.wrap (m : Int) = (m : Int) := by rw [IntKind.wrap_i64]; omega
  obtain ⟨_, _, e, q0, q1, q2, q3⟩ := hr.ps (k := m) (by omega)
  cases e
  have hml : m < l.length := by omega
  obtain ⟨pm, hpm⟩ : ∃ p, l[m]'hml = p := ⟨_, rfl⟩
  rw [hpm] at q0 q1 q2 q3
  have HPM : Hid (l[m]? = some pm) := by show _ = _; rw [← hpm]; exact List.getElem?_eq_getElem _
  clear hn hm hml hpm
  go_enter Tryz.func85, Tryz.ntmps85
  go_wp2_with fail
  go_loopw [3] (fun i wr => ∃ k : Nat, k ≤ m ∧ i = .int .i64 (k : Int) ∧ (∀ j, j < k → sameAt l j (l.length - 1) = false) ∧ Below w.heap.size w wr) (fun i _ => m - (intOf i).toNat)
  case atStart => exact ⟨0, Nat.zero_le _, rfl, fun j hj => absurd hj (by omega), Below.refl _ _⟩
  case round =>
    obtain ⟨k, hk, rfl, hno, hB⟩ := hrel
    by_cases hlt : k < m
    · have bk : (k : Int) < (m : Int) := by omega
      have bkn : (k : Int) < (n : Int) := by omega
      have hkl : k < l.length := by rw [HN.out, HM.out]; omega
      obtain ⟨_, _, e, p0, p1, p2, p3⟩ := hr.ps hkl
      cases e
      obtain ⟨pk, hpk⟩ : ∃ p, l[k]'hkl = p := ⟨_, rfl⟩
      rw [hpk] at p0 p1 p2 p3
      have c0 := (hB.cell (p := ⟨g, b + k * 4, none⟩) (cell_lt p0)).trans p0
      have c1 := (hB.cell (p := ⟨g, b + k * 4 + 1, none⟩) (cell_lt p1)).trans p1
      have c2 := (hB.cell (p := ⟨g, b + k * 4 + 2, none⟩) (cell_lt p2)).trans p2
      have c3 := (hB.cell (p := ⟨g, b + k * 4 + 3, none⟩) (cell_lt p3)).trans p3
      have d0 := (hB.cell (p := ⟨g, b + m * 4, none⟩) (cell_lt q0)).trans q0
      have d1 := (hB.cell (p := ⟨g, b + m * 4 + 1, none⟩) (cell_lt q1)).trans q1
      have d2 := (hB.cell (p := ⟨g, b + m * 4 + 2, none⟩) (cell_lt q2)).trans q2
      have d3 := (hB.cell (p := ⟨g, b + m * 4 + 3, none⟩) (cell_lt q3)).trans q3
      obtain ⟨v, hv⟩ : ∃ v, sameB pk pm = v := ⟨_, rfl⟩
      have hsv : sameAt l k (l.length - 1) = v := by
        unfold sameAt
        rw [List.getElem?_eq_getElem hkl, hpk, show l.length - 1 = m by rw [HN.out, HM.out]; omega, HPM.out]
        exact hv
      have HV := Lib.hid hv
      have HSV := Lib.hid hsv
      have HNO := Lib.hid hno
      clear hv hsv hpk p0 p1 p2 p3 hkl hno
      obtain ⟨s1, y1, z1, u1⟩ := pk
      obtain ⟨s2, y2, z2, u2⟩ := pm
      have hS : Eight w wr.drew g (b + k * 4) (b + m * 4) s1 y1 z1 u1 s2 y2 z2 u2 := eight_keep ⟨c0, c1, c2, c3, d0, d1, d2, d3, hB⟩ (Below.refl _ _).drew
      clear c0 c1 c2 c3 d0 d1 d2 d3 q0 q1 q2 q3
      go_wp2_with fail
      go_region_held3 (fun W => W.cell? ⟨g, b + k * 4, none⟩ = some (.string s1) ∧ W.cell? ⟨g, b + k * 4 + 1, none⟩ = some (.int .i64 y1) ∧ W.cell? ⟨g, b + k * 4 + 2, none⟩ = some (.int .i64 z1) ∧ W.cell? ⟨g, b + k * 4 + 3, none⟩ = some (.int .i64 u1) ∧ W.cell? ⟨g, b + m * 4, none⟩ = some (.string s2) ∧ W.cell? ⟨g, b + m * 4 + 1, none⟩ = some (.int .i64 y2) ∧ W.cell? ⟨g, b + m * 4 + 2, none⟩ = some (.int .i64 z2) ∧ W.cell? ⟨g, b + m * 4 + 3, none⟩ = some (.int .i64 u2) ∧ Below w.heap.size w W)
        (first | exact hS | exact eight_keep (by assumption) hb)
        (first | (go_at_call 141; refine (rsame_two s1 s2 y1 z1 u1 y2 z2 u2 _ v HV.out).mono ?_; rintro e w3 ⟨rfl, hb⟩))
      all_goals
        have hBb := eight_below (by assumption)
        cases v
        · go_wp2
          go_roundw
          case rel => exact ⟨k + 1, by omega, by go_num, fun j hj => by
            rcases Nat.lt_succ_iff_lt_or_eq.1 hj with h | h
            · exact HNO.out j h
            · rw [h]; exact HSV.out, hBb⟩
          case measure => simp [intOf]; omega
        · go_wp2
          go_ret
          refine ⟨?_, hBb⟩
          rw [show earlierI l = (k : Int) from first_hit (by rw [HN.out, HM.out]; omega) HSV.out fun j hj => HNO.out j hj]
          rfl
    · obtain rfl : k = m := by omega
      have bk : ¬ (k : Int) < (k : Int) := by omega
      have HNO := Lib.hid hno
      clear hno hlt hk
      go_wp2
      go_ret
      refine ⟨?_, hB⟩
      rw [show earlierI l = -1 from first_none fun j hj => HNO.out j (by rw [HN.out, HM.out] at hj; omega)]
      rfl
set_option maxRecDepth 100000 in
theorem rearlier_none (A : Option Addr) (c : Nat) (w : World) : Calls Tryz.prog 85 #[.slice A 0 c] w (Gives w (.int .i64 (-1))) := by
  unfold Gives
  go_enter Tryz.func85, Tryz.ntmps85
  go_wp2_with fail
  go_loopw [3] (fun i wr => i = .int .i64 0 ∧ w = wr) (fun _ _ => 0)
  case atStart => exact ⟨rfl, rfl⟩
  case round =>
    obtain ⟨rfl, rfl⟩ := hrel
    go_wp2
    go_ret
    exact ⟨rfl, Below.refl _ _⟩
theorem rearlier_any (A : Option Addr) (l : List Ps) (n c : Nat) (w : World) (hr : Rd w A (psL l)) (hn : l.length = n) (hl : n ≤ 1000000) :
    Calls Tryz.prog 85 #[.slice A n c] w (Gives w (.int .i64 (earlierI l))) := by
  cases n with
  | zero =>
    rw [List.eq_nil_of_length_eq_zero hn]
    exact rearlier_none A c w
  | succ m =>
    obtain ⟨g, b, rfl, _⟩ := hr.ps (k := 0) (by omega)
    exact rearlier_some g b l (m + 1) m c w hr hn rfl hl
set_option maxRecDepth 100000 in
set_option maxHeartbeats 2000000 in
theorem rorigin_any (A : Option Addr) (m : List (Int × Int)) (n c : Nat) (n0 : Int) (w : World) (hr : Rd w A (mzL m)) (hn : m.length = n) (hl : n ≤ 1000000) :
    Calls Tryz.prog 196 #[.slice A n c, .int .i64 n0] w (Gives w (.int .i64 (originI m n0))) := by
  unfold Gives
  have HN := Lib.hid hn
  clear hn
  go_enter Tryz.func196, Tryz.ntmps196
  go_wp2_with fail
  go_loopw [1, 5] (fun x i wr => ∃ k : Nat, k ≤ n ∧ i = .int .i64 ((k : Int) - 1) ∧ x = .int .i64 (originI (m.drop k) n0) ∧ Below w.heap.size w wr) (fun _ i _ => ((intOf i) + 1).toNat)
  case atStart => exact ⟨n, Nat.le_refl _, by go_num, by rw [List.drop_of_length_le (by rw [HN.out]; exact Nat.le_refl _)]; rfl, Below.refl _ _⟩
  case round =>
    obtain ⟨k, hk, rfl, rfl, hB⟩ := hrel
    cases k with
    | zero =>
      go_wp2
      go_ret
      exact ⟨rfl, hB⟩
    | succ j =>
      have hjm : j < m.length := by rw [HN.out]; omega
      obtain ⟨g, b, rfl, d0, d1⟩ := hr.mz hjm
      have hst := origin_drop hjm n0
      obtain ⟨⟨x, y⟩, hxy⟩ : ∃ x, m[j]'hjm = x := ⟨_, rfl⟩
      rw [hxy] at d0 d1 hst
      have c0 := (hB.cell (p := ⟨g, b + j * 2, none⟩) (cell_lt d0)).trans d0
      have c1 := (hB.cell (p := ⟨g, b + j * 2 + 1, none⟩) (cell_lt d1)).trans d1
      rw [show ((j + 1 : Nat) : Int) - 1 = (j : Int) by omega]
      have bj : (j : Int) < (n : Int) := by omega
      obtain ⟨v, hv⟩ : ∃ v, originI (m.drop (j + 1)) n0 = v := ⟨_, rfl⟩
      rw [hv] at hst ⊢
      have hst : originI (m.drop j) n0 = if y = v then x else v := hst
      by_cases hyv : y = v
      · have e : (y == v) = true := by rw [hyv]; simp
        rw [if_pos hyv] at hst
        have HST := Lib.hid hst
        clear hst hyv hv hxy hjm d0 d1
        go_wp2
        go_roundw
        case rel => exact ⟨j, by omega, by go_num, by rw [HST.out], hB⟩
        case measure => simp [intOf]
      · have e : (y == v) = false := by rw [beq_eq_false_iff_ne]; exact hyv
        rw [if_neg hyv] at hst
        have HST := Lib.hid hst
        clear hst hyv hv hxy hjm d0 d1
        go_wp2
        go_roundw
        case rel => exact ⟨j, by omega, by go_num, by rw [HST.out], hB⟩
        case measure => simp [intOf]
end Go.Proofs.YtpogpjebhnoncaaGreatDoor
namespace Go.Proofs.YtpogpjebhnoncaaGreatDoor
open Go.RowKit Go.Shelf
open M (S)
set_option maxRecDepth 100000 in
set_option maxHeartbeats 4000000 in
theorem rorigins_own (A C : Option Addr) (m : List (Int × Int)) (l : List Int) (n a c d : Nat) (w : World) (hm : Rd w A (mzL m)) (hn : m.length = n) (hl : n ≤ 1000000) (hr : Rd w C (l.map iv)) (ha : l.length = a) (ha9 : a ≤ 1000000) :
    Calls Tryz.prog 144 #[.slice A n c, .slice C a d] w fun e w' => ∃ v, e = .returned v ∧ w'.ownsRow w.heap.size 3 1 v a (orV m l) ∧ Below w.heap.size w w' := by
  obtain ⟨i0, hi, hz0, hz1, hz2⟩ := info_parts info_int
  have HN := Lib.hid hn
  have HA := Lib.hid ha
  have HM := Lib.hid hm
  clear hn ha hm
  go_enter Tryz.func144, Tryz.ntmps144
  go_wp2_with fail
  go_loopw [5, 6] (fun v i wr => ∃ k : Nat, k ≤ a ∧ i = .int .i64 (k : Int) ∧ wr.ownsRow w.heap.size 3 1 v k (orV m (l.take k)) ∧ Below w.heap.size w wr) (fun _ i _ => a - (intOf i).toNat)
  case atStart => exact ⟨0, Nat.zero_le _, rfl, by simpa [orV] using World.ownsRow_nil w w.heap.size 3 1, Below.refl _ _⟩
  case round =>
    obtain ⟨k, hk, rfl, hown, hB⟩ := hrel
    by_cases hlt : k < a
    · have hkl : k < l.length := by rw [HA.out]; exact hlt
      have bk : (k : Int) < (a : Int) := by omega
      obtain ⟨g, b, rfl, d0⟩ := hr.int hkl
      have hst : orV m (l.take (k + 1)) = orV m (l.take k) ++ [iv (originI m (l[k]'hkl))] := by
        unfold orV
        rw [List.take_succ_eq_append_getElem hkl, List.map_append, List.map_append]
        rfl
      obtain ⟨x, hx⟩ : ∃ x, l[k]'hkl = x := ⟨_, rfl⟩
      rw [hx] at d0 hst
      have c0 := (hB.cell (p := ⟨g, b + k, none⟩) (cell_lt d0)).trans d0
      have hmr : Rd wr A (mzL m) := (HM.out.next hB)
      obtain ⟨y, hy⟩ : ∃ y, originI m x = y := ⟨_, rfl⟩
      rw [hy] at hst
      have HST := Lib.hid hst
      have HY := Lib.hid hy
      have HMR := Lib.hid hmr
      have HOW := Lib.hid hown
      have hbs := Lib.hid hB.size
      clear hst hx hy hkl d0 hmr hown
      go_wp2_with fail
      refine (rorigin_any A m n c x _ HMR.out HN.out hl).mono ?_
      rintro e w3 ⟨rfl, hb⟩
      rw [HY.out]
      have hown := own_next2 HOW.out hb
      have hB3 := hB.trans (hb.mono hbs.out)
      have hs3 := hB3.size
      clear hb hbs hB
      go_wp2_with (at_builtin; refine wpList_append_own _ rfl _ _ 152 rfl w.heap.size 3 i0 (.int .i64 0) 1 8 Tryz.underlying152 hi hz0 hz1 hz2 rfl (by decide) _ _ _ rfl (hown.alloc _) ⟨w3.heap.size, 0, none⟩ 1 1 [iv y] rfl rfl (cell_one_new _ _ _) (by simp [Value.oneCell']) (by unfold maxLen; omega) (by omega) (by simp; omega) ?_; intro v' w4 hown' hgrow _)
      go_roundw
      case rel => exact ⟨k + 1, by omega, by go_num, by rw [HST.out]; exact hown', below_app hB3 hs3 hown hgrow⟩
      case measure => simp [intOf]; omega
    · obtain rfl : k = a := by omega
      have bk : ¬ (k : Int) < (k : Int) := by omega
      have HOW := Lib.hid hown
      clear hown hlt hk
      go_wp2
      go_ret
      refine ⟨_, rfl, ?_, hB⟩
      have h := HOW.out
      rw [List.take_of_length_le (by rw [HA.out]; exact Nat.le_refl _)] at h
      exact h
set_option maxRecDepth 100000 in
set_option maxHeartbeats 4000000 in
theorem rhas17_any (A : Option Addr) (xs : List Int) (n c : Nat) (x : Int) (w : World) (hr : Rd w A (xs.map iv)) (hn : xs.length = n) (h9 : n ≤ 1000000) :
    Calls Tryz.prog 197 #[.slice A n c, .int .i64 x] w (Gives w (.bool (xs.contains x))) := by
  unfold Gives
  obtain ⟨r, hrr⟩ : ∃ r, xs.contains x = r := ⟨_, rfl⟩
  rw [hrr]
  have HRR := Lib.hid hrr
  have HN := Lib.hid hn
  clear hn hrr
  go_enter Tryz.func197, Tryz.ntmps197
  go_wp2_with fail
  go_loopw [5] (fun i wr => ∃ k : Nat, k ≤ n ∧ i = .int .i64 (k : Int) ∧ (∀ j (hj : j < xs.length), j < k → (xs[j] == x) = false) ∧ wr = w) (fun i _ => n - (intOf i).toNat)
  case atStart => exact ⟨0, Nat.zero_le _, rfl, fun j _ h => absurd h (Nat.not_lt_zero _), rfl⟩
  case round =>
    obtain ⟨k, hk, rfl, hno, rfl⟩ := hrel
    have HNO := Lib.hid hno
    clear hno
    by_cases hlt : k < n
    · have hkl : k < xs.length := by rw [HN.out]; exact hlt
      have bk : (k : Int) < (n : Int) := by omega
      obtain ⟨g1, o1, rfl, c0⟩ := hr.int hkl
      obtain ⟨y, hy⟩ : ∃ y, xs[k] = y := ⟨_, rfl⟩
      rw [hy] at c0
      have HY := Lib.hid hy
      clear hy
      cases he : (y == x) with
      | false =>
        have HE := Lib.hid he
        go_wp2_with fail
        go_roundw
        case rel =>
          refine ⟨k + 1, by omega, by go_num, fun j hj h => ?_, by first | rfl | trivial⟩
          by_cases e : j = k
          · subst e
            rw [HY.out]
            exact HE.out
          · exact HNO.out j hj (by omega)
        case measure => simp [intOf]; omega
      | true =>
        have hrt : r = true := by
          rw [← HRR.out, List.contains_iff_mem]
          have : y = x := by simpa using he
          rw [← this, ← HY.out]
          exact List.getElem_mem hkl
        subst hrt
        go_wp2_with fail
        go_ret
        exact ⟨rfl, Below.refl _ _⟩
    · obtain rfl : k = n := by omega
      have bk : ¬ (k : Int) < (k : Int) := by omega
      have hrf : r = false := by
        rw [← HRR.out, Bool.eq_false_iff]
        intro h
        rw [List.contains_iff_mem] at h
        obtain ⟨j, hj, rfl⟩ := List.getElem_of_mem h
        have h2 := HNO.out j hj (by rw [← HN.out]; exact hj)
        simp at h2
      subst hrf
      go_wp2_with fail
      go_ret
      exact ⟨rfl, Below.refl _ _⟩
def commonB (ss : List (List Int)) : Bool := match ss with
  | [] => false
  | s0 :: r => s0.any fun x => (s0 :: r).all fun s => s.contains x
theorem common_at {ss : List (List Int)} (h : 0 < ss.length) : commonB ss = (ss[0]).any fun x => ss.all fun s => s.contains x := by
  cases ss with
  | nil => exact absurd h (Nat.not_lt_zero _)
  | cons s0 r => rfl
def SetsAt (W : World) (g o : Nat) (ss : List (List Int)) : Prop := ∀ j (h : j < ss.length), ∃ Aj cj, W.cell? ⟨g, o + j, none⟩ = some (.slice Aj ss[j].length cj) ∧ Rd W Aj (ss[j].map iv)
theorem SetsAt.next {W W' : World} {g o : Nat} {ss : List (List Int)} (h : SetsAt W g o ss) (hb : Below W.heap.size W W') : SetsAt W' g o ss := fun j hj => by
  obtain ⟨Aj, cj, h1, h2⟩ := h j hj
  exact ⟨Aj, cj, (hb.cell (cell_lt h1)).trans h1, h2.next hb⟩
theorem hc_keep {g a b g0 o0 : Nat} {va vb vx : Value} {w W W' : World} (H : W.cell? ⟨g, a, none⟩ = some va ∧ W.cell? ⟨g, b, none⟩ = some vb ∧ W.cell? ⟨g0, o0, none⟩ = some vx ∧ Below w.heap.size w W) (hb : Below W.heap.size W W') : W'.cell? ⟨g, a, none⟩ = some va ∧ W'.cell? ⟨g, b, none⟩ = some vb ∧ W'.cell? ⟨g0, o0, none⟩ = some vx ∧ Below w.heap.size w W' :=
  ⟨(hb.cell (cell_lt H.1)).trans H.1, (hb.cell (cell_lt H.2.1)).trans H.2.1, (hb.cell (cell_lt H.2.2.1)).trans H.2.2.1, H.2.2.2.trans (hb.mono H.2.2.2.size)⟩
theorem hc_below {g a b g0 o0 : Nat} {va vb vx : Value} {w W : World} (H : W.cell? ⟨g, a, none⟩ = some va ∧ W.cell? ⟨g, b, none⟩ = some vb ∧ W.cell? ⟨g0, o0, none⟩ = some vx ∧ Below w.heap.size w W) : Below w.heap.size w W := H.2.2.2
set_option maxRecDepth 100000 in
set_option maxHeartbeats 8000000 in
theorem rcommon_some (g o n c : Nat) (ss : List (List Int)) (w : World) (hr : SetsAt w g o ss) (hn : ss.length = n) (h9 : n ≤ 1000000) (h0 : 0 < n) (h8 : ∀ s ∈ ss, s.length ≤ 1000) :
    Calls Tryz.prog 145 #[.slice (some ⟨g, o, none⟩) n c] w (Gives w (.bool (commonB ss))) := by
  unfold Gives
  have hn0 : 0 < ss.length := by omega
  obtain ⟨r, hrr⟩ : ∃ r, commonB ss = r := ⟨_, rfl⟩
  rw [hrr]
  rw [common_at hn0] at hrr
  obtain ⟨s0, hs0⟩ : ∃ s0, ss[0] = s0 := ⟨_, rfl⟩
  rw [hs0] at hrr
  obtain ⟨A0, c0, hc0, hr0⟩ := hr 0 hn0
  rw [hs0] at hc0 hr0
  rw [Nat.add_zero] at hc0
  have hl0 : s0.length ≤ 1000 := by rw [← hs0]; exact h8 _ (List.getElem_mem hn0)
  obtain ⟨m, hm⟩ : ∃ m, s0.length = m := ⟨_, rfl⟩
  rw [hm] at hc0 hl0
  have HRR := Lib.hid hrr
  have HN := Lib.hid hn
  have HM := Lib.hid hm
  have HR := Lib.hid hr
  have HR0 := Lib.hid hr0
  have H8 := Lib.hid h8
  have HC0 := Lib.hid hc0
  have n1 : (0 : Int) < (n : Int) := by omega
  clear hn hrr hm hr hr0 h8 hs0
  go_enter Tryz.func145, Tryz.ntmps145
  go_wp2_with fail
  go_loopw [3] (fun i wr => ∃ k : Nat, k ≤ m ∧ i = .int .i64 (k : Int) ∧ (∀ j (hj : j < s0.length), j < k → (ss.all fun s => s.contains s0[j]) = false) ∧ Below w.heap.size w wr) (fun i _ => m - (intOf i).toNat)
  case atStart => exact ⟨0, Nat.zero_le _, rfl, fun j _ h => absurd h (Nat.not_lt_zero _), Below.refl _ _⟩
  case round =>
    obtain ⟨k, hk, rfl, hno, hB⟩ := hrel
    have HNO := Lib.hid hno
    have HB := Lib.hid hB
    clear hno
    have d0 := (hB.cell (p := ⟨g, o, none⟩) (cell_lt HC0.out)).trans HC0.out
    by_cases hlt : k < m
    · have hkl : k < s0.length := by rw [HM.out]; exact hlt
      have bk : (k : Int) < (m : Int) := by omega
      have k0 : (0 : Int) ≤ (k : Int) := by omega
      obtain ⟨g0, o0, hA0, e0⟩ := HR0.out.int hkl
      subst hA0
      obtain ⟨x, hx⟩ : ∃ x, s0[k] = x := ⟨_, rfl⟩
      rw [hx] at e0
      have HX := Lib.hid hx
      clear hx
      go_wp2_with fail
      rename World => wa
      go_loopw [4, 5] (fun b i wr => ∃ q : Nat, q ≤ n ∧ i = .int .i64 (q : Int) ∧ b = .bool ((ss.take q).all fun s => s.contains x) ∧ Below w.heap.size w wr) (fun _ i _ => n - (intOf i).toNat)
      case atStart => exact ⟨0, Nat.zero_le _, rfl, rfl, HB.out⟩
      case round =>
        obtain ⟨q, hq, rfl, rfl, hB2⟩ := hrel
        have HB2 := Lib.hid hB2
        obtain ⟨bb, hbb⟩ : ∃ bb, ((ss.take q).all fun s => s.contains x) = bb := ⟨_, rfl⟩
        rw [hbb]
        have HBB := Lib.hid hbb
        clear hbb
        by_cases hlq : q < n
        · have hql : q < ss.length := by rw [HN.out]; exact hlq
          have bq : (q : Int) < (n : Int) := by omega
          have q0 : (0 : Int) ≤ (q : Int) := by omega
          obtain ⟨Aq, cq, hcq, hrq⟩ := HR.out q hql
          have hl8 := H8.out _ (List.getElem_mem hql)
          have hst : ((ss.take (q + 1)).all fun s => s.contains x) = (bb && (ss[q]).contains x) := by
            rw [List.take_succ_eq_append_getElem hql, List.all_append, HBB.out]
            simp
          obtain ⟨sq, hsq⟩ : ∃ sq, ss[q] = sq := ⟨_, rfl⟩
          rw [hsq] at hcq hrq hst hl8
          obtain ⟨lq, hlqq⟩ : ∃ lq, sq.length = lq := ⟨_, rfl⟩
          rw [hlqq] at hcq hl8
          obtain ⟨v, hv⟩ : ∃ v, sq.contains x = v := ⟨_, rfl⟩
          rw [hv] at hst
          have HST := Lib.hid hst
          have HH : Hid (∀ W, Below w.heap.size w W → Calls Tryz.prog 197 #[.slice Aq lq cq, .int .i64 x] W (Gives W (.bool v))) := fun W hb => by
            have h := rhas17_any Aq sq lq cq x W (hrq.next hb) hlqq (by omega)
            rw [hv] at h
            exact h
          have f0 := (hB2.cell (p := ⟨g, o + q, none⟩) (cell_lt hcq)).trans hcq
          have f1 := (hB2.cell (p := ⟨g, o, none⟩) (cell_lt HC0.out)).trans HC0.out
          have f2 := (hB2.cell (p := ⟨g0, o0 + k, none⟩) (cell_lt e0)).trans e0
          have hS : wr.drew.cell? ⟨g, o + q, none⟩ = some (.slice Aq lq cq) ∧ wr.drew.cell? ⟨g, o, none⟩ = some (.slice (some ⟨g0, o0, none⟩) m c0) ∧ wr.drew.cell? ⟨g0, o0 + k, none⟩ = some (.int .i64 x) ∧ Below w.heap.size w wr.drew := ⟨f0, f1, f2, hB2.drew⟩
          clear hcq hrq hst hl8 hsq hlqq hv hB2
          cases bb with
          | true =>
            clear f0 f1 f2
            go_wp2_with fail
            go_region_held3 (fun W => W.cell? ⟨g, o + q, none⟩ = some (.slice Aq lq cq) ∧ W.cell? ⟨g, o, none⟩ = some (.slice (some ⟨g0, o0, none⟩) m c0) ∧ W.cell? ⟨g0, o0 + k, none⟩ = some (.int .i64 x) ∧ Below w.heap.size w W)
              (first | exact hS | exact hc_keep (by assumption) hb)
              (first | (go_at_call 197; refine (HH.out _ ?_).mono ?_; (exact hc_below (by assumption)); rintro e w6 ⟨rfl, hb⟩))
            rename_i hh
            obtain ⟨_, _, _, hB6⟩ := hh
            have HB6 := Lib.hid hB6
            clear hS hB6
            all_goals go_wp2
            go_roundw
            case rel => exact ⟨q + 1, by omega, by go_num, by rw [HST.out]; first | done | rfl, HB6.out⟩
            case measure => simp [intOf]; omega
          | false =>
            go_wp2_with fail
            go_quiet (fail)
            go_wp2_with fail
            go_roundw
            case rel => exact ⟨q + 1, by omega, by go_num, by rw [HST.out]; first | done | rfl, below_drewN HB2.out _⟩
            case measure => simp [intOf]; omega
        · obtain rfl : q = n := by omega
          have bq : ¬ (q : Int) < (q : Int) := by omega
          have hall : (ss.all fun s => s.contains x) = bb := by
            have h := HBB.out
            rw [List.take_of_length_le (by rw [HN.out]; exact Nat.le_refl _)] at h
            exact h
          cases bb with
          | true =>
            have hrt : r = true := by
              rw [← HRR.out, List.any_eq_true]
              exact ⟨x, by rw [← HX.out]; exact List.getElem_mem hkl, hall⟩
            subst hrt
            go_wp2_with fail
            go_ret
            exact ⟨rfl, HB2.out⟩
          | false =>
            have HALL := Lib.hid hall
            clear hall
            go_wp2_with fail
            go_roundw
            case rel =>
              refine ⟨k + 1, by omega, by go_num, fun j hj h => ?_, HB2.out⟩
              by_cases e : j = k
              · subst e
                rw [HX.out]
                exact HALL.out
              · exact HNO.out j hj (by omega)
            case measure => simp [intOf]; omega
    · obtain rfl : k = m := by omega
      have bk : ¬ (k : Int) < (k : Int) := by omega
      have hrf : r = false := by
        rw [← HRR.out, List.any_eq_false]
        intro x hx
        obtain ⟨j, hj, rfl⟩ := List.getElem_of_mem hx
        rw [HNO.out j hj (by rw [← HM.out]; exact hj)]
        simp
      subst hrf
      go_wp2_with fail
      go_ret
      exact ⟨rfl, HB.out⟩
end Go.Proofs.YtpogpjebhnoncaaGreatDoor
namespace Go.Proofs.YtpogpjebhnoncaaGreatDoor
open Go.RowKit Go.Shelf
open M (S)
def setsL (l : List Ps) (m : List (Int × Int)) (side : Int) (k : Nat) : List (List Int) := ((pliesN l side k).filter fun j => !ckAt l j).map (oriAt l m)
theorem setsL_succ (l : List Ps) (m : List (Int × Int)) (side : Int) (k : Nat) : setsL l m side (k + 1) = if ofAt l side k && !ckAt l k then setsL l m side k ++ [oriAt l m k] else setsL l m side k := by
  unfold setsL
  rw [plies_succ]
  cases ofAt l side k with
  | false => rfl
  | true =>
    rw [if_pos rfl, List.filter_append, List.map_append]
    cases h : ckAt l k <;> simp [h]
theorem plies_len_succ (l : List Ps) (side : Int) (k : Nat) : (pliesN l side (k + 1)).length = (pliesN l side k).length + if ofAt l side k then 1 else 0 := by
  rw [plies_succ]
  cases ofAt l side k <;> simp
theorem checks_len_succ (l : List Ps) (side : Int) (k : Nat) : ((pliesN l side (k + 1)).filter (ckAt l)).length = ((pliesN l side k).filter (ckAt l)).length + if ofAt l side k && ckAt l k then 1 else 0 := by
  rw [plies_succ]
  cases ofAt l side k with
  | false => rfl
  | true =>
    rw [if_pos rfl, List.filter_append, List.length_append]
    cases h : ckAt l k <;> simp [h]
theorem plies_le (l : List Ps) (side : Int) (k : Nat) : (pliesN l side k).length ≤ k := by
  unfold pliesN
  exact Nat.le_trans (List.length_filter_le _ _) (by rw [List.length_range]; exact Nat.le_refl _)
theorem setsL_le (l : List Ps) (m : List (Int × Int)) (side : Int) (k : Nat) : (setsL l m side k).length ≤ k := by
  unfold setsL
  rw [List.length_map]
  exact Nat.le_trans (List.length_filter_le _ _) (plies_le l side k)
theorem oriAt_le (l : List Ps) (m : List (Int × Int)) (j : Nat) : (oriAt l m j).length ≤ 90 := by
  unfold oriAt
  split
  · rw [List.length_map]
    exact plyL_le _ _ _ _
  · exact Nat.zero_le _
def classR (l : List Ps) (m : List (Int × Int)) (side : Int) : Int :=
  if (pliesN l side m.length).length = 0 then 0 else if ((pliesN l side m.length).filter (ckAt l)).length = (pliesN l side m.length).length then 2 else if commonB (setsL l m side m.length) then 1 else 0
def SetsIn (W : World) (base : Nat) (v : Value) (ss : List (List Int)) : Prop := ∃ vs : List Value, W.ownsRow base 152 1 v ss.length vs ∧ ∀ j (h : j < ss.length), ∃ Aj cj, vs[j]? = some (.slice Aj ss[j].length cj) ∧ Rd W Aj (ss[j].map iv) ∧ (ss[j] ≠ [] → ∀ ad, Aj = some ad → v.ownBlock ≠ some ad.block)
theorem SetsIn.nil (W : World) (base : Nat) : SetsIn W base (.slice none 0 0) [] := ⟨[], World.ownsRow_nil _ _ _ _, fun _ h => absurd h (Nat.not_lt_zero _)⟩
theorem SetsIn.next {W W' : World} {base : Nat} {v : Value} {ss : List (List Int)} (h : SetsIn W base v ss) (hb : Below W.heap.size W W') : SetsIn W' base v ss := by
  obtain ⟨vs, h1, h2⟩ := h
  refine ⟨vs, own_next h1 hb, fun j hj => ?_⟩
  obtain ⟨Aj, cj, h3, h4, h5⟩ := h2 j hj
  exact ⟨Aj, cj, h3, h4.next hb, h5⟩
theorem cell_grown {W W' : World} {r : Option Nat} (h : W.grownBy W' r) {p : Addr} {u : Value} (hc : W.cell? p = some u) (hne : r ≠ some p.block) : W'.cell? p = some u := by
  have hb : W'.heap[p.block]? = W.heap[p.block]? := h.block p.block (cell_lt hc) fun e => hne e.symm
  rw [World.cell?_of_block (w := W) hb]
  exact hc
theorem add_block (ad : Addr) (j : Nat) : (ad.add j).block = ad.block := by
  unfold Addr.add
  split <;> rfl
theorem rd_grownS {W W' : World} {r : Option Nat} (h : W.grownBy W' r) {A : Option Addr} {xs : List Value} (hr : Rd W A xs) (hne : xs ≠ [] → ∀ ad, A = some ad → r ≠ some ad.block) : Rd W' A xs := fun j u hu => by
  obtain ⟨ad, hA, hc⟩ := hr j u hu
  refine ⟨ad, hA, cell_grown h hc ?_⟩
  rw [add_block]
  exact hne (fun e => by rw [e] at hu; cases hu) ad hA
theorem rd_lt {W : World} {A : Option Addr} {xs : List Value} (hr : Rd W A xs) (hx : xs ≠ []) {ad : Addr} (hA : A = some ad) : ad.block < W.heap.size := by
  cases xs with
  | nil => exact absurd rfl hx
  | cons x l =>
    obtain ⟨ad', hA', hc⟩ := hr 0 x rfl
    rw [hA] at hA'
    injection hA' with e
    subst e
    have := cell_lt hc
    rw [add_block] at this
    exact this
theorem SetsIn.app {W W0 w' : World} {base : Nat} {v : Value} {ss : List (List Int)} (h : SetsIn W base v ss) {s : List Int} {A : Option Addr} {c : Nat} {o : Obj} (hW0 : W0 = W.alloc o) (hr : Rd W A (s.map iv)) (hne : s ≠ [] → ∀ ad, A = some ad → v.ownBlock ≠ some ad.block)
    {g cap : Nat} (hown : ∀ vs, W.ownsRow base 152 1 v ss.length vs → w'.ownsRow base 152 1 (.slice (some ⟨g, 0, none⟩) (ss.length + 1) cap) (ss.length + 1) (vs ++ [.slice A s.length c])) (hg : W0.grownBy w' v.ownBlock) (hat : v.ownBlock = some g ∨ g = W0.heap.size) :
    SetsIn w' base (.slice (some ⟨g, 0, none⟩) (ss.length + 1) cap) (ss ++ [s]) := by
  subst hW0
  obtain ⟨vs, h1, h2⟩ := h
  have hvl : vs.length = ss.length := by have := h1.1; omega
  have hal : Below W.heap.size W (W.alloc o) := (Below.refl _ _).alloc (Nat.le_refl _) _
  have hsz : (W.alloc o).heap.size = W.heap.size + 1 := by simp
  have hob : (Value.slice (some ⟨g, 0, none⟩) (ss.length + 1) cap).ownBlock = some g := rfl
  refine ⟨vs ++ [.slice A s.length c], by rw [List.length_append]; exact hown vs h1, fun j hj => ?_⟩
  by_cases hjl : j < ss.length
  · obtain ⟨Aj, cj, h3, h4, h5⟩ := h2 j hjl
    have e : (ss ++ [s])[j] = ss[j] := List.getElem_append_left hjl
    rw [e]
    refine ⟨Aj, cj, by rw [List.getElem?_append_left (by omega)]; exact h3, rd_grownS hg (h4.next hal) (fun hx => h5 (fun e => hx (by rw [e]; rfl))), fun hx ad hA => ?_⟩
    rw [hob]
    intro e2
    injection e2 with e2
    rcases hat with h6 | h6
    · exact h5 hx ad hA (by rw [h6, e2])
    · have := rd_lt h4 (fun e => hx (by simpa using e)) hA
      omega
  · have hje : j = ss.length := by rw [List.length_append] at hj; simp at hj; omega
    subst hje
    have e : (ss ++ [s])[ss.length] = s := by simp
    rw [e]
    refine ⟨A, c, by rw [List.getElem?_append_right (by omega), hvl, Nat.sub_self]; rfl, rd_grownS hg (hr.next hal) (fun hx => hne (fun e => hx (by rw [e]; rfl))), fun hx ad hA => ?_⟩
    rw [hob]
    intro e2
    injection e2 with e2
    rcases hat with h6 | h6
    · exact hne hx ad hA (by rw [h6, e2])
    · have := rd_lt hr (fun e => hx (by simpa using e)) hA
      omega
theorem SetsIn.at {W : World} {base : Nat} {v : Value} {ss : List (List Int)} (h : SetsIn W base v ss) (h0 : ss ≠ []) : ∃ g c, v = .slice (some ⟨g, 0, none⟩) ss.length c ∧ SetsAt W g 0 ss := by
  obtain ⟨vs, h1, h2⟩ := h
  obtain ⟨A, c, rfl, hr, _⟩ := own_any h1
  rcases h1.2 with ⟨e, hz⟩ | ⟨g, cap, cur, hv, _⟩
  · exact absurd (List.length_eq_zero_iff.1 hz) h0
  · injection hv with e1 e2 e3
    subst e1
    refine ⟨g, c, rfl, fun j hj => ?_⟩
    obtain ⟨Aj, cj, h3, h4, _⟩ := h2 j hj
    obtain ⟨ad, hA, hc⟩ := hr j _ h3
    injection hA with hA
    subst hA
    refine ⟨Aj, cj, ?_, h4⟩
    have e : (⟨g, 0, none⟩ : Addr).add j = ⟨g, 0 + j, none⟩ := by
      simp only [Addr.add]
      split <;> simp_all
    rw [← e]
    exact hc
theorem info_ints : (Tryz.prog.info? 152).map (fun i => (i.zero, i.size, i.bytes)) = some (some (.slice none 0 0), 1, 24) := by kernel_rfl
end Go.Proofs.YtpogpjebhnoncaaGreatDoor
namespace Go.Proofs.YtpogpjebhnoncaaGreatDoor
open Go.RowKit Go.Shelf
open M (S)
set_option maxRecDepth 100000 in
set_option maxHeartbeats 2000000 in
theorem rsafe_is (s : ByteArray) (side : Int) (r : Bool) (w : World) (h : safeB s side = r) : Calls Tryz.prog 88 #[.string s, .int .i64 side] w (Gives w (.bool r)) := by
  unfold Gives
  obtain ⟨f, hf⟩ : ∃ f, facingB s = f := ⟨_, rfl⟩
  obtain ⟨i, hi⟩ : ∃ i, inB s side = i := ⟨_, rfl⟩
  have HF := Lib.hid hf
  have HI := Lib.hid hi
  have HR : Hid ((!f && !i) = r) := by show _ = _; rw [← h, safeB, hf, hi]
  clear hf hi h
  cases f
  · go_enter Tryz.func88, Tryz.ntmps88
    go_wp2_with fail
    refine (rfacing_is s false _ HF.out).mono ?_
    rintro e w1 ⟨rfl, hb⟩
    go_wp2_with fail
    refine (rin_is s side i _ HI.out).mono ?_
    rintro e w2 ⟨rfl, hb2⟩
    go_wp2
    go_ret
    exact ⟨by rw [← HR.out]; rfl, hb.trans (hb2.mono hb.size)⟩
  · go_enter Tryz.func88, Tryz.ntmps88
    go_wp2_with fail
    refine (rfacing_is s true _ HF.out).mono ?_
    rintro e w1 ⟨rfl, hb⟩
    go_wp2
    go_ret
    exact ⟨by rw [← HR.out]; rfl, hb⟩
set_option maxRecDepth 100000 in
set_option maxHeartbeats 2000000 in
theorem rend_of (s : ByteArray) (side clock full : Int) (w : World) (k : Int) (hk : wellN s side clock full = k) (h0 : (k != 0) = true) : Calls Tryz.prog 83 #[.agg #[.string s, .int .i64 side, .int .i64 clock, .int .i64 full]] w (Gives w (.int .i64 0)) := by
  unfold Gives
  have HK := Lib.hid hk
  clear hk
  obtain ⟨W1, hW1⟩ : ∃ W1, w.alloc (.cells #[.string s, .int .i64 side, .int .i64 clock, .int .i64 full] 23) = W1 := ⟨_, rfl⟩
  have hB : Below w.heap.size w W1 := by rw [← hW1]; exact (by repeat (first | exact Below.refl _ _ | (refine Below.setCell ?_ (by first | omega | (simp; done) | (simp; omega) | (simp at *; omega)) _) | (refine Below.alloc ?_ (by first | omega | (simp; done) | (simp; omega) | (simp at *; omega)) _) | refine Below.drew ?_ | (refine below_drewN ?_ _) | (refine Below.trans ?_ (Below.mono (by assumption) (by first | omega | (simp; done) | (simp; omega) | (simp at *; omega))))))
  have bP : Blk W1 w.heap.size 23 #[.string s, .int .i64 side, .int .i64 clock, .int .i64 full] := by rw [← hW1]; exact Blk.new _ _ _ rfl
  obtain ⟨p0, p1, p2, p3⟩ := ppos_cells bP
  go_enter Tryz.func83, Tryz.ntmps83
  go_wp2_with fail
  refine (rwell_is s side clock full k _ HK.out).mono ?_
  rintro e w2 ⟨rfl, hb⟩
  go_wp2
  go_ret
  exact ⟨rfl, hB.trans (hb.mono hB.size)⟩
end Go.Proofs.YtpogpjebhnoncaaGreatDoor
namespace Go.Proofs.YtpogpjebhnoncaaGreatDoor
open Go.RowKit Go.Shelf
open M (S)
def legalTo (s : ByteArray) (side : Int) (l : List (Nat × Nat)) (k : Nat) : List (Nat × Nat) := (l.take k).filter (legalB s side)
theorem legalTo_succ {s : ByteArray} {side : Int} {l : List (Nat × Nat)} {k : Nat} (h : k < l.length) : legalTo s side l (k + 1) = if legalB s side l[k] then legalTo s side l k ++ [l[k]] else legalTo s side l k := by
  unfold legalTo
  rw [List.take_succ_eq_append_getElem h, List.filter_append]
  cases e : legalB s side l[k] <;> simp [e]
theorem legalTo_len (s : ByteArray) (side : Int) (l : List (Nat × Nat)) (k : Nat) : (legalTo s side l k).length ≤ k := by
  unfold legalTo
  exact Nat.le_trans (List.length_filter_le _ _) (by simp; omega)
set_option maxRecDepth 100000 in
set_option maxHeartbeats 8000000 in
theorem rlof_is (s : ByteArray) (side : Int) (l : List (Nat × Nat)) (n : Nat) (w : World) (hs : s.size = 90) (h : legalN s side = l) (hn : l.length = n) : Calls Tryz.prog 67 #[.string s, .int .i64 side] w (GivesM w l n) := by
  obtain ⟨i0, hi, hy0, hy1, hy2⟩ := info_parts info_move
  obtain ⟨L, hL⟩ : ∃ L, movesN s side = L := ⟨_, rfl⟩
  obtain ⟨m, hm⟩ : ∃ m, L.length = m := ⟨_, rfl⟩
  have hlen : m ≤ 8100 := by rw [← hm, ← hL]; exact movesTo_len s side 90
  have HLT : Hid (∀ k (hk : k < L.length), L[k].1 < 90 ∧ L[k].2 < 90 ∧ L[k].1 ≠ L[k].2) := fun k hk => by
    have hmem : L[k] ∈ movesN s side := by rw [hL]; exact List.getElem_mem hk
    obtain ⟨h1, h2, _, h3⟩ := moves_mem.1 (show (L[k].1, L[k].2) ∈ movesN s side from hmem)
    exact ⟨h1, h2, can_self h3⟩
  have HE : Hid (legalTo s side L m = l) := by show _ = _; rw [← h, legalN, hL, legalTo, List.take_of_length_le (by omega)]
  have HL := Lib.hid hL
  have HM := Lib.hid hm
  have HN := Lib.hid hn
  have HSZ := Lib.hid hs
  clear hL hm h hn hs
  go_enter Tryz.func67, Tryz.ntmps67
  go_wp2_with fail
  refine (rofm_is s side L m _ (by have := HSZ.out; omega) HL.out HM.out).mono ?_
  rintro e w1 ⟨A, c, rfl, hr, hb1⟩
  go_wp2_with fail
  go_loopw [6, 7] (fun v i wr => ∃ k : Nat, k ≤ m ∧ i = .int .i64 k ∧ wr.ownsRow w1.heap.size 54 2 v (legalTo s side L k).length (mvs (legalTo s side L k)) ∧ Below w1.heap.size w1 wr) (fun _ i _ => m - (intOf i).toNat)
  case atStart => exact ⟨0, by omega, rfl, by simpa [legalTo, mvs] using World.ownsRow_nil w1 w1.heap.size 54 2, Below.refl _ _⟩
  case round =>
    obtain ⟨k, hk, rfl, hown, hB⟩ := hrel
    have hbs := hB.size
    have hle := legalTo_len s side L k
    by_cases hlt : k < m
    · have hkl : k < L.length := by rw [HM.out]; exact hlt
      obtain ⟨g1, o1, rfl, c0, c1⟩ := hr.move hkl
      have hst := legalTo_succ (s := s) (side := side) hkl
      obtain ⟨h89, h90, hne⟩ := HLT.out k hkl
      obtain ⟨⟨u, v⟩, huv⟩ : ∃ x, L[k] = x := ⟨_, rfl⟩
      rw [huv] at c0 c1 hst h89 h90 hne
      have hc0 := (hB.cell (p := ⟨g1, o1 + k * 2, none⟩) (cell_lt c0)).trans c0
      have hc1 := (hB.cell (p := ⟨g1, o1 + k * 2 + 1, none⟩) (cell_lt c1)).trans c1
      obtain ⟨x, hx⟩ : ∃ x, bAt s v = x := ⟨_, rfl⟩
      have hvs : v < s.size := by have := HSZ.out; have h3 : v < 90 := h90; omega
      have hbk : s[v].toNat = x := (bAt_eq s v hvs).trans hx
      have b0 : (0 : Int) ≤ (v : Int) := by omega
      have b1 : (k : Int) < (m : Int) := by omega
      have b2 : (v : Int) < (s.size : Int) := by omega
      obtain ⟨q, hq⟩ : ∃ q, behindS s (u, v) = q := ⟨_, rfl⟩
      obtain ⟨f, hf⟩ : ∃ f, safeB q side = f := ⟨_, rfl⟩
      obtain ⟨d, hd⟩ : ∃ d, kindN x = d := ⟨_, rfl⟩
      have HQ : Hid (∀ W, Calls Tryz.prog 114 #[.string s, .agg #[.int .i64 (u : Int), .int .i64 (v : Int)]] W (Gives W (.string q))) := fun W => rmoved_any s u v _ q W HSZ.out h89 h90 hne rfl hq
      have HF := Lib.hid hf
      have HD := Lib.hid hd
      have HST : Hid (legalTo s side L (k + 1) = if (d != 75) && f then legalTo s side L k ++ [(u, v)] else legalTo s side L k) := by
        show _ = _
        rw [hst, legalB, hq, hf]
        show (if (kindN (bAt s v) != 75 && f) = true then _ else _) = _
        rw [hx, hd]
      clear c0 c1 huv hx hst hf hd hq
      go_wp2_with fail
      refine (rkind_any x _).mono ?_
      rintro e w2 ⟨rfl, rfl⟩
      rw [HD.out]
      by_cases h75 : d = 75
      · subst h75
        have Hs : Hid (legalTo s side L (k + 1) = legalTo s side L k) := by show _ = _; rw [HST.out]; rfl
        clear HST HD
        go_wp2_with fail
        go_roundw
        case rel => exact ⟨k + 1, by omega, by go_num, by rw [Hs.out]; exact hown, hB⟩
        case measure => simp [intOf]; omega
      · have e75 : ((d : Int) != 75) = true := by rw [bne_iff_ne]; omega
        have e75n : (d != 75) = true := by rw [bne_iff_ne]; exact h75
        have Hs0 : Hid (legalTo s side L (k + 1) = if f then legalTo s side L k ++ [(u, v)] else legalTo s side L k) := by show _ = _; rw [HST.out, e75n, Bool.true_and]
        clear HST HD h75
        go_wp2_with fail
        refine (HQ.out _).mono ?_
        rintro e w2 ⟨rfl, hb⟩
        have hown2 := own_next hown hb
        have hB2 := hB.trans (hb.mono hB.size)
        have hd0 := (hb.cell (p := ⟨g1, o1 + k * 2, none⟩) (cell_lt hc0)).trans hc0
        have hd1 := (hb.cell (p := ⟨g1, o1 + k * 2 + 1, none⟩) (cell_lt hc1)).trans hc1
        clear hown hB hb hc0 hc1 hbs
        go_wp2_with fail
        refine (rsafe_is q side f _ HF.out).mono ?_
        rintro e w3 ⟨rfl, hb⟩
        have hown := own_next hown2 hb
        have hB := hB2.trans (hb.mono hB2.size)
        have hc0 := (hb.cell (p := ⟨g1, o1 + k * 2, none⟩) (cell_lt hd0)).trans hd0
        have hc1 := (hb.cell (p := ⟨g1, o1 + k * 2 + 1, none⟩) (cell_lt hd1)).trans hd1
        have hbs := hB.size
        clear hown2 hB2 hb hd0 hd1
        cases f
        · have Hs : Hid (legalTo s side L (k + 1) = legalTo s side L k) := Hs0.out
          clear Hs0
          go_wp2_with fail
          go_roundw
          case rel => exact ⟨k + 1, by omega, by go_num, by rw [Hs.out]; exact hown, hB⟩
          case measure => simp [intOf]; omega
        · have Hs : Hid (legalTo s side L (k + 1) = legalTo s side L k ++ [(u, v)]) := Hs0.out
          clear Hs0
          go_wp2_with (at_builtin; refine wpList_append_own _ rfl _ _ 24 rfl w1.heap.size 54 i0 (.agg #[.int .i64 0, .int .i64 0]) 2 16 Tryz.underlying24 hi hy0 hy1 hy2 rfl (by decide) _ _ _ rfl (hown.alloc _) ⟨w3.heap.size, 0, none⟩ 1 1 [iv u, iv v] rfl rfl (cells_two_new _ _ _ _) (by simp [Value.oneCell']) (by unfold maxLen; omega) (by omega) (by simp; omega) ?_; intro v' w4 hown' hgrow _)
          go_roundw
          case rel => exact ⟨k + 1, by omega, by go_num, by rw [Hs.out, mvs_app, List.length_append]; exact hown', below_app hB hbs hown hgrow⟩
          case measure => simp [intOf]; omega
    · obtain rfl : k = m := by omega
      rw [HE.out, HN.out] at hown
      obtain ⟨A', c', rfl⟩ := owns_slice hown
      go_wp2
      go_ret
      exact ⟨A', c', rfl, Rd.owns hown, hb1.trans (hB.mono hb1.size)⟩
end Go.Proofs.YtpogpjebhnoncaaGreatDoor
namespace Go.Proofs.YtpogpjebhnoncaaGreatDoor
open Go.RowKit Go.Shelf
open M (S)
theorem well_size {s : ByteArray} {side clock full : Int} (h : wellN s side clock full = 0) : s.size = 90 := isB_size (parts_board (check_zero (well_zero h).1).1)
set_option maxRecDepth 100000 in
set_option maxHeartbeats 4000000 in
theorem rend_any (s : ByteArray) (side clock full : Int) (w : World) : Calls Tryz.prog 83 #[.agg #[.string s, .int .i64 side, .int .i64 clock, .int .i64 full]] w (Gives w (.int .i64 (endV s side clock full))) := by
  by_cases hk : wellN s side clock full = 0
  · unfold Gives
    have hs := well_size hk
    obtain ⟨n, hn⟩ : ∃ n, (legalN s side).length = n := ⟨_, rfl⟩
    obtain ⟨i, hi⟩ : ∃ i, inB s side = i := ⟨_, rfl⟩
    have hV : endV s side clock full = if 0 < n then 0 else if i then 1 else 2 := by
      unfold endV
      rw [if_pos hk, has_legal _ _ _ _ hk, legal_same, if_pos hk, hn, hi]
      rcases Nat.eq_zero_or_pos n with h0 | h0
      · subst h0; rfl
      · rw [if_pos h0, if_pos (by rw [bne_iff_ne]; omega)]
    obtain ⟨z, hz⟩ : ∃ z, endV s side clock full = z := ⟨_, rfl⟩
    have HZ : Hid ((if 0 < n then 0 else if i then 1 else 2 : Int) = z) := by show _ = _; rw [← hV]; exact hz
    rw [hz]
    have HC := Lib.hid hk
    have HN := Lib.hid hn
    have HI := Lib.hid hi
    have HS := Lib.hid hs
    clear hk hn hi hs hV hz
    obtain ⟨W0, hW0⟩ : ∃ W0, w.alloc (.cells #[.string s, .int .i64 side, .int .i64 clock, .int .i64 full] 23) = W0 := ⟨_, rfl⟩
    have hB : Below w.heap.size w W0 := by rw [← hW0]; exact (by repeat (first | exact Below.refl _ _ | (refine Below.setCell ?_ (by first | omega | (simp; done) | (simp; omega) | (simp at *; omega)) _) | (refine Below.alloc ?_ (by first | omega | (simp; done) | (simp; omega) | (simp at *; omega)) _) | refine Below.drew ?_ | (refine below_drewN ?_ _) | (refine Below.trans ?_ (Below.mono (by assumption) (by first | omega | (simp; done) | (simp; omega) | (simp at *; omega))))))
    have bP : Blk W0 w.heap.size 23 #[.string s, .int .i64 side, .int .i64 clock, .int .i64 full] := by rw [← hW0]; exact Blk.new _ _ _ rfl
    obtain ⟨p0, p1, p2, p3⟩ := ppos_cells bP
    go_enter Tryz.func83, Tryz.ntmps83
    go_wp2_with fail
    refine (rwell_is s side clock full 0 _ HC.out).mono ?_
    rintro e w1 ⟨rfl, hb⟩
    have bP1 := bP.next hb
    have hB1 := hB.trans (hb.mono hB.size)
    clear hb p0 p1 p2 p3 hW0 bP hB
    obtain ⟨p0, p1, p2, p3⟩ := ppos_cells bP1
    go_wp2_with fail
    refine (rlof_is s side _ n _ HS.out rfl HN.out).mono ?_
    rintro e w2 ⟨A, c, rfl, _, hb⟩
    have bP2 := bP1.next hb
    have hB2 := hB1.trans (hb.mono hB1.size)
    clear hb p0 p1 p2 p3 bP1 hB1
    obtain ⟨p0, p1, p2, p3⟩ := ppos_cells bP2
    rcases Nat.eq_zero_or_pos n with h0 | h0
    · subst h0
      go_wp2_with fail
      refine (rin_is s side i _ HI.out).mono ?_
      rintro e w3 ⟨rfl, hb⟩
      have hB3 := hB2.trans (hb.mono hB2.size)
      clear hb p0 p1 p2 p3
      cases i
      · go_wp2
        go_ret
        exact ⟨by rw [← HZ.out]; rfl, hB3⟩
      · go_wp2
        go_ret
        exact ⟨by rw [← HZ.out]; rfl, hB3⟩
    · have hi0 : (0 : Int) < (n : Int) := by omega
      go_wp2
      go_ret
      exact ⟨by rw [← HZ.out, if_pos h0]; rfl, hB2⟩
  · have hV : endV s side clock full = 0 := by unfold endV; rw [if_neg hk]
    rw [hV]
    exact rend_of s side clock full w _ rfl (by rw [bne_iff_ne]; exact hk)
theorem rend_is (s : ByteArray) (side clock full k : Int) (w : World) (h : endV s side clock full = k) : Calls Tryz.prog 83 #[.agg #[.string s, .int .i64 side, .int .i64 clock, .int .i64 full]] w (Gives w (.int .i64 k)) := by subst h; exact rend_any s side clock full w
end Go.Proofs.YtpogpjebhnoncaaGreatDoor
namespace Go.Proofs.YtpogpjebhnoncaaGreatDoor
open Go.RowKit Go.Shelf
open M (S)
theorem leaves_safe {s : ByteArray} {side clock full a b : Int} (hc : (checkN s side clock full : Int) = 0) (h : isM s side a b = true ∧ kindN (bAt s b.toNat) ≠ 75) : leavesI s side clock full a b = safeB (movedS s a.toNat b.toNat (bAt s a.toNat)) side := by
  rw [leaves_good h]
  have h1 := h.1
  unfold isM canI at h1
  simp only [Bool.and_eq_true] at h1
  obtain ⟨⟨⟨⟨_, ha⟩, hb⟩, hcan⟩, _⟩ := h1
  have ha2 : a.toNat < 90 := by
    unfold sqI at ha
    simp only [Bool.and_eq_true, decide_eq_true_eq] at ha
    omega
  have hb2 : b.toNat < 90 := by
    unfold sqI at hb
    simp only [Bool.and_eq_true, decide_eq_true_eq] at hb
    omega
  rw [Bool.eq_iff_iff, beq_iff_eq]
  exact well_behind hc ha2 hb2 hcan h.2
set_option maxRecDepth 100000 in
set_option maxHeartbeats 4000000 in
theorem rmake_bad (s : ByteArray) (side clock full a b k : Int) (w : World) (hk : wellN s side clock full = k) (h0 : (k != 0) = true) :
    Calls Tryz.prog 40 #[.agg #[.string s, .int .i64 side, .int .i64 clock, .int .i64 full], .agg #[.int .i64 a, .int .i64 b]] w (Gives w (noneV k)) := by
  unfold Gives noneV
  obtain ⟨W1, hW1⟩ : ∃ W1, ((w.alloc (.cells #[.string s, .int .i64 side, .int .i64 clock, .int .i64 full] 23)).alloc (.cells #[.int .i64 a, .int .i64 b] 54)).alloc (.cells #[.string ⟨#[]⟩, .int .i64 0, .int .i64 0, .int .i64 0] 23) = W1 := ⟨_, rfl⟩
  obtain ⟨hB, bP, bM, bR⟩ := ap_start hW1
  obtain ⟨p0, p1, p2, p3⟩ := ppos_cells bP
  have HC := Lib.hid hk
  have HW := Lib.hid hW1
  clear hk hW1
  go_enter Tryz.func40, Tryz.ntmps40
  go_wp2_with fail
  rw [HW.out]
  have f0 := ppos_frozen bR
  go_wp2_with fail
  refine (rwell_is s side clock full k _ HC.out).mono ?_
  rintro e w1 ⟨rfl, hb⟩
  have bR1 := bR.next hb
  obtain ⟨g0, g1, g2, g3⟩ := ppos_cells bR1
  obtain ⟨f0, f1, f2, f3⟩ := ppos_frozen bR1
  go_wp2_with fail
  refine bodyPost_ret (res_pos3 rfl _ _ rfl (mvEnd (bR1) (by omega) (hB.trans (hb.mono hB.size))).1) rfl ⟨rfl, (mvEnd (bR1) (by omega) (hB.trans (hb.mono hB.size))).2⟩
set_option maxRecDepth 100000 in
set_option maxHeartbeats 1500000 in
theorem rmake_none (s : ByteArray) (side clock full a b : Int) (w : World) (HA : Hid (∀ W, Calls Tryz.prog 66 #[.agg #[.string s, .int .i64 side, .int .i64 clock, .int .i64 full], .agg #[.int .i64 a, .int .i64 b]] W (Gives W (applyV s side clock full a b)))) (hk : wellN s side clock full = 0) (h : ¬ (isM s side a b = true ∧ kindN (bAt s b.toNat) ≠ 75)) :
    Calls Tryz.prog 40 #[.agg #[.string s, .int .i64 side, .int .i64 clock, .int .i64 full], .agg #[.int .i64 a, .int .i64 b]] w (Gives w (noneV 7)) := by
  have hV := apply_bad_value (well_check hk) h
  unfold noneV at hV
  unfold Gives noneV
  obtain ⟨W1, hW1⟩ : ∃ W1, ((w.alloc (.cells #[.string s, .int .i64 side, .int .i64 clock, .int .i64 full] 23)).alloc (.cells #[.int .i64 a, .int .i64 b] 54)).alloc (.cells #[.string ⟨#[]⟩, .int .i64 0, .int .i64 0, .int .i64 0] 23) = W1 := ⟨_, rfl⟩
  obtain ⟨hB, bP, bM, bR⟩ := ap_start hW1
  obtain ⟨p0, p1, p2, p3⟩ := ppos_cells bP
  have HC := Lib.hid hk
  rw [hV] at HA
  have HW := Lib.hid hW1
  clear hk hW1 h hV
  go_enter Tryz.func40, Tryz.ntmps40
  go_wp2_with fail
  rw [HW.out]
  have f0 := ppos_frozen bR
  go_wp2_with fail
  refine (rwell_is s side clock full 0 _ HC.out).mono ?_
  rintro e w1 ⟨rfl, hb⟩
  have hB1 := hB.trans (hb.mono hB.size)
  have bR1 := bR.next hb
  have bM1 := bM.next hb
  obtain ⟨q0, q1, q2, q3⟩ := ppos_cells (bP.next hb)
  have m0 : w1.cell? ⟨w.heap.size + 1, 0, none⟩ = some (.int .i64 a) := bM1.cell 0
  have m1 : w1.cell? ⟨w.heap.size + 1, 1, none⟩ = some (.int .i64 b) := bM1.cell 1
  clear hb bP bM p0 p1 p2 p3
  go_wp2_with fail
  refine (HA.out _).mono ?_
  rintro e w2 ⟨rfl, hb⟩
  have hB2 := hB1.trans (hb.mono hB1.size)
  have bR2 := bR1.next hb
  clear hb q0 q1 q2 q3 m0 m1 bR1 bM1 f0
  obtain ⟨W3, hW3⟩ : ∃ W3, w2.alloc (.cells #[.string ⟨#[]⟩, .int .i64 0, .int .i64 0, .int .i64 0] 23) = W3 := ⟨_, rfl⟩
  have hb3 : Below w2.heap.size w2 W3 := by rw [← hW3]; exact (by repeat (first | exact Below.refl _ _ | (refine Below.setCell ?_ (by first | omega | (simp; done) | (simp; omega) | (simp at *; omega)) _) | (refine Below.alloc ?_ (by first | omega | (simp; done) | (simp; omega) | (simp at *; omega)) _) | refine Below.drew ?_ | (refine below_drewN ?_ _) | (refine Below.trans ?_ (Below.mono (by assumption) (by first | omega | (simp; done) | (simp; omega) | (simp at *; omega))))))
  have bQ : Blk W3 w2.heap.size 23 #[.string ⟨#[]⟩, .int .i64 0, .int .i64 0, .int .i64 0] := by rw [← hW3]; exact Blk.new _ _ _ rfl
  have bR3 := bR2.next hb3
  have hB3 := hB2.trans (hb3.mono hB2.size)
  have hlt := bR2.lt
  have hBs := hB2.size
  have nq : w.heap.size + 2 ≠ w2.heap.size := by omega
  have nq1 : w.heap.size + 1 + 1 ≠ w2.heap.size := by omega
  have nq2 : w2.heap.size ≠ w.heap.size + 1 + 1 := by omega
  obtain ⟨q0, q1, q2, q3⟩ := ppos_cells bQ
  obtain ⟨z0, z1, z2, z3⟩ := ppos_frozen bQ
  obtain ⟨g0, g1, g2, g3⟩ := ppos_cells bR3
  obtain ⟨f0, f1, f2, f3⟩ := ppos_frozen bR3
  obtain ⟨W4, hW4⟩ : ∃ W4, (((W3.setCell ⟨w2.heap.size, 0, none⟩ (.string ⟨#[]⟩)).setCell ⟨w2.heap.size, 1, none⟩ (.int .i64 0)).setCell ⟨w2.heap.size, 2, none⟩ (.int .i64 0)).setCell ⟨w2.heap.size, 3, none⟩ (.int .i64 0) = W4 := ⟨_, rfl⟩
  have bR4 : Blk W4 (w.heap.size + 2) 23 #[.string ⟨#[]⟩, .int .i64 0, .int .i64 0, .int .i64 0] := by rw [← hW4]; exact (((bR3.far (p := ⟨w2.heap.size, 0, none⟩) nq _).far (p := ⟨w2.heap.size, 1, none⟩) nq _).far (p := ⟨w2.heap.size, 2, none⟩) nq _).far (p := ⟨w2.heap.size, 3, none⟩) nq _
  have hB4 : Below w.heap.size w W4 := by rw [← hW4]; exact (((hB3.setCell (p := ⟨w2.heap.size, 0, none⟩) hBs _).setCell (p := ⟨w2.heap.size, 1, none⟩) hBs _).setCell (p := ⟨w2.heap.size, 2, none⟩) hBs _).setCell (p := ⟨w2.heap.size, 3, none⟩) hBs _
  obtain ⟨j0, j1, j2, j3⟩ := ppos_cells bR4
  obtain ⟨k0, k1, k2, k3⟩ := ppos_frozen bR4
  have HR3 := Lib.hid bR3
  have HB3 := Lib.hid hB3
  have HR4 := Lib.hid bR4
  have HB4 := Lib.hid hB4
  clear hb3 bQ bR3 hB3 bR4 hB4 bR2
  go_wp2_with fail
  subst hW4
  refine bodyPost_ret (res_pos3 rfl _ _ rfl (mvEnd (HR4.out) (by omega) (HB4.out)).1) rfl ⟨rfl, (mvEnd (HR4.out) (by omega) (HB4.out)).2⟩
set_option maxRecDepth 100000 in
set_option maxHeartbeats 4000000 in
theorem rmake_good (s : ByteArray) (side clock full a b : Int) (q : ByteArray) (y z u t : Int) (f : Bool) (w : World) (HA : Hid (∀ W, Calls Tryz.prog 66 #[.agg #[.string s, .int .i64 side, .int .i64 clock, .int .i64 full], .agg #[.int .i64 a, .int .i64 b]] W (Gives W (applyV s side clock full a b)))) (hk : wellN s side clock full = 0) (hV : applyV s side clock full a b = .tuple #[.agg #[.string q, .int .i64 y, .int .i64 z, .int .i64 u], .int .u8 t, .int .i64 0]) (hq : safeB q side = f) (V : Value) (hR : V = if f then .tuple #[.agg #[.string q, .int .i64 y, .int .i64 z, .int .i64 u], .int .u8 t, .int .i64 0] else noneV 7) :
    Calls Tryz.prog 40 #[.agg #[.string s, .int .i64 side, .int .i64 clock, .int .i64 full], .agg #[.int .i64 a, .int .i64 b]] w (Gives w V) := by
  unfold Gives
  have HRV := Lib.hid hR
  clear hR
  obtain ⟨W1, hW1⟩ : ∃ W1, ((w.alloc (.cells #[.string s, .int .i64 side, .int .i64 clock, .int .i64 full] 23)).alloc (.cells #[.int .i64 a, .int .i64 b] 54)).alloc (.cells #[.string ⟨#[]⟩, .int .i64 0, .int .i64 0, .int .i64 0] 23) = W1 := ⟨_, rfl⟩
  obtain ⟨hB, bP, bM, bR⟩ := ap_start hW1
  obtain ⟨p0, p1, p2, p3⟩ := ppos_cells bP
  have HC := Lib.hid hk
  rw [hV] at HA
  have HQ := Lib.hid hq
  have HW := Lib.hid hW1
  clear hk hW1 hV hq
  go_enter Tryz.func40, Tryz.ntmps40
  go_wp2_with fail
  rw [HW.out]
  have f0 := ppos_frozen bR
  go_wp2_with fail
  refine (rwell_is s side clock full 0 _ HC.out).mono ?_
  rintro e w1 ⟨rfl, hb⟩
  have hB1 := hB.trans (hb.mono hB.size)
  have bR1 := bR.next hb
  have bM1 := bM.next hb
  have bP1 := bP.next hb
  obtain ⟨q0, q1, q2, q3⟩ := ppos_cells (bP.next hb)
  have m0 : w1.cell? ⟨w.heap.size + 1, 0, none⟩ = some (.int .i64 a) := bM1.cell 0
  have m1 : w1.cell? ⟨w.heap.size + 1, 1, none⟩ = some (.int .i64 b) := bM1.cell 1
  clear hb bP bM p0 p1 p2 p3
  go_wp2_with fail
  refine (HA.out _).mono ?_
  rintro e w2 ⟨rfl, hb⟩
  have hB2 := hB1.trans (hb.mono hB1.size)
  have bR2 := bR1.next hb
  have bP2 := bP1.next hb
  clear hb q0 q1 q2 q3 m0 m1 bR1 bM1 f0
  obtain ⟨W3, hW3⟩ : ∃ W3, w2.alloc (.cells #[.string q, .int .i64 y, .int .i64 z, .int .i64 u] 23) = W3 := ⟨_, rfl⟩
  have hb3 : Below w2.heap.size w2 W3 := by rw [← hW3]; exact (by repeat (first | exact Below.refl _ _ | (refine Below.setCell ?_ (by first | omega | (simp; done) | (simp; omega) | (simp at *; omega)) _) | (refine Below.alloc ?_ (by first | omega | (simp; done) | (simp; omega) | (simp at *; omega)) _) | refine Below.drew ?_ | (refine below_drewN ?_ _) | (refine Below.trans ?_ (Below.mono (by assumption) (by first | omega | (simp; done) | (simp; omega) | (simp at *; omega))))))
  have bQ : Blk W3 w2.heap.size 23 #[.string q, .int .i64 y, .int .i64 z, .int .i64 u] := by rw [← hW3]; exact Blk.new _ _ _ rfl
  have bR3 := bR2.next hb3
  obtain ⟨n0, n1, n2, n3⟩ := ppos_cells (bP2.next hb3)
  have hB3 := hB2.trans (hb3.mono hB2.size)
  have hlt := bR2.lt
  have nq1 : w.heap.size + 1 + 1 ≠ w2.heap.size := by omega
  have nq2 : w2.heap.size ≠ w.heap.size + 1 + 1 := by omega
  obtain ⟨q0, q1, q2, q3⟩ := ppos_cells bQ
  clear hb3 bR2
  go_wp2_with fail
  refine (rsafe_is q side f _ HQ.out).mono ?_
  rintro e w4 ⟨rfl, hb⟩
  clear n0 n1 n2 n3 bP1 bP2
  have bR4 := bR3.next hb
  have bQ4 := bQ.next hb
  have hB4 := hB3.trans (hb.mono hB3.size)
  clear hb q0 q1 q2 q3 bQ bR3 hB3 hW3
  obtain ⟨q0, q1, q2, q3⟩ := ppos_cells bQ4
  obtain ⟨g0, g1, g2, g3⟩ := ppos_cells bR4
  obtain ⟨f0, f1, f2, f3⟩ := ppos_frozen bR4
  cases f
  · have HRN : Hid (V = noneV 7) := by show _ = _; rw [HRV.out]; rfl
    go_wp2_with fail
    refine bodyPost_ret (res_pos3 rfl _ _ rfl (mvEnd bR4 (by omega) hB4).1) rfl ⟨by rw [HRN.out]; rfl, (mvEnd bR4 (by omega) hB4).2⟩
  · have HRP : Hid (V = .tuple #[.agg #[.string q, .int .i64 y, .int .i64 z, .int .i64 u], .int .u8 t, .int .i64 0]) := by show _ = _; rw [HRV.out]; rfl
    go_wp2_with fail
    refine bodyPost_ret (res_pos3 rfl _ _ rfl (mvEnd bR4 (by omega) hB4).1) rfl ⟨by rw [HRP.out]; rfl, (mvEnd bR4 (by omega) hB4).2⟩
theorem rmake_any (s : ByteArray) (side clock full a b : Int) (w : World) (HA : Hid (∀ W, Calls Tryz.prog 66 #[.agg #[.string s, .int .i64 side, .int .i64 clock, .int .i64 full], .agg #[.int .i64 a, .int .i64 b]] W (Gives W (applyV s side clock full a b)))) :
    Calls Tryz.prog 40 #[.agg #[.string s, .int .i64 side, .int .i64 clock, .int .i64 full], .agg #[.int .i64 a, .int .i64 b]] w (Gives w (makeV s side clock full a b)) := by
  unfold makeV
  by_cases hk : wellN s side clock full = 0
  · rw [if_pos hk]
    by_cases h : isM s side a b = true ∧ kindN (bAt s b.toNat) ≠ 75
    · have := rmake_good s side clock full a b _ _ _ _ _ _ w HA hk (apply_good_value (well_check hk) h) rfl _ rfl
      rw [leaves_safe (well_zero hk).1 h, apply_good_value (well_check hk) h]
      exact this
    · rw [leaves_bad h, if_neg (by simp)]
      exact rmake_none s side clock full a b w HA hk h
  · rw [if_neg hk]
    exact rmake_bad s side clock full a b _ w rfl (by rw [bne_iff_ne]; exact hk)
end Go.Proofs.YtpogpjebhnoncaaGreatDoor
namespace Go.Proofs.YtpogpjebhnoncaaGreatDoor
theorem movesOf_len (s : ByteArray) (side : Int) (a : Nat) : (movesOf s side a).length ≤ 90 := by
  unfold movesOf
  split
  · rw [List.length_map]
    exact Nat.le_trans (List.length_filter_le _ _) (by simp)
  · exact Nat.zero_le _
theorem moves_flat (s : ByteArray) (side : Int) : ∀ l : List Nat, (l.flatMap (movesOf s side)).length ≤ l.length * 90
  | [] => Nat.zero_le _
  | a :: l => by
    have h1 := movesOf_len s side a
    have h2 := moves_flat s side l
    rw [List.flatMap_cons, List.length_append, List.length_cons]
    omega
theorem moves_len (s : ByteArray) (side : Int) : (movesN s side).length ≤ 8100 := by
  have := moves_flat s side (List.range 90)
  rw [List.length_range] at this
  exact this
theorem legalN_le (s : ByteArray) (side : Int) : (legalN s side).length ≤ 8100 := Nat.le_trans (List.length_filter_le _ _) (moves_len s side)
end Go.Proofs.YtpogpjebhnoncaaGreatDoor
namespace Go.Proofs.YtpogpjebhnoncaaGreatDoor
open Go.RowKit Go.Shelf
open M (S)
set_option maxRecDepth 100000 in
set_option maxHeartbeats 4000000 in
theorem rgtakes_no (s : ByteArray) (side : Int) (w : World) (h : isB s = false ∨ side < 0 ∨ 1 < side) : Calls Tryz.prog 231 #[.string s, .int .i64 side] w (GivesM w [] 0) := by
  obtain ⟨b, hb⟩ : ∃ b, isB s = b := ⟨_, rfl⟩
  have HB := Lib.hid hb
  rw [hb] at h
  clear hb
  have hrd : ∀ W, Rd W none (mvs []) := fun W j u hu => by simp [mvs] at hu
  cases b
  · go_enter Tryz.func231, Tryz.ntmps231
    go_wp2_with fail
    refine (ris5_is s false _ HB.out).mono ?_
    rintro e w1 ⟨rfl, rfl⟩
    go_wp2
    go_ret
    exact ⟨none, 0, rfl, hrd _, Below.refl _ _⟩
  · have h : side < 0 ∨ 1 < side := by simpa using h
    rcases h with h | h
    · go_enter Tryz.func231, Tryz.ntmps231
      go_wp2_with fail
      refine (ris5_is s true _ HB.out).mono ?_
      rintro e w1 ⟨rfl, rfl⟩
      go_wp2
      go_ret
      exact ⟨none, 0, rfl, hrd _, Below.refl _ _⟩
    · go_enter Tryz.func231, Tryz.ntmps231
      go_wp2_with fail
      refine (ris5_is s true _ HB.out).mono ?_
      rintro e w1 ⟨rfl, rfl⟩
      go_wp2
      go_ret
      exact ⟨none, 0, rfl, hrd _, Below.refl _ _⟩
set_option maxRecDepth 100000 in
set_option maxHeartbeats 4000000 in
theorem rgtakes_yes (s : ByteArray) (side : Int) (L l : List (Nat × Nat)) (n m : Nat) (w : World) (hs : isB s = true) (h0 : 0 ≤ side) (h1 : side ≤ 1) (hL : legalN s side = L) (hm : L.length = m) (h : takesG s side = l) (hn : l.length = n) : Calls Tryz.prog 231 #[.string s, .int .i64 side] w (GivesM w l n) := by
  obtain ⟨i0, hi, hy0, hy1, hy2⟩ := info_parts info_move
  have hz := isB_size hs
  have hlen : m ≤ 8100 := by rw [← hm, ← hL]; exact legalN_le s side
  have HLT : Hid (∀ k (hk : k < L.length), L[k].2 < 90) := fun k hk => by
    have hmem : L[k] ∈ legalN s side := by rw [hL]; exact List.getElem_mem hk
    exact (legal_mem.1 hmem).2.1
  have HE : Hid (capsTo s L m = l) := by
    show _ = _
    rw [← h, takesG, hs, hL, capsTo, List.take_of_length_le (by omega), show (true && ((side == 0) || (side == 1))) = true by rcases (show side = 0 ∨ side = 1 by omega) with rfl | rfl <;> rfl, if_pos rfl]
  have HB := Lib.hid hs
  have HZ := Lib.hid hz
  have HL := Lib.hid hL
  have HM := Lib.hid hm
  have HN := Lib.hid hn
  clear hs hz hL hm h hn
  go_enter Tryz.func231, Tryz.ntmps231
  go_wp2_with fail
  refine (ris5_is s true _ HB.out).mono ?_
  rintro e w0 ⟨rfl, rfl⟩
  go_wp2_with fail
  refine (rlof_is s side L m _ HZ.out HL.out HM.out).mono ?_
  rintro e w1 ⟨A, c, rfl, hr, hb1⟩
  go_wp2_with fail
  go_loopw [5, 7] (fun v i wr => ∃ k : Nat, k ≤ m ∧ i = .int .i64 k ∧ wr.ownsRow w1.heap.size 54 2 v (capsTo s L k).length (mvs (capsTo s L k)) ∧ Below w1.heap.size w1 wr) (fun _ i _ => m - (intOf i).toNat)
  case atStart => exact ⟨0, by omega, rfl, by simpa [capsTo, mvs] using World.ownsRow_nil w1 w1.heap.size 54 2, Below.refl _ _⟩
  case round =>
    obtain ⟨k, hk, rfl, hown, hB⟩ := hrel
    have hbs := hB.size
    have hle := capsTo_len s L k
    by_cases hlt : k < m
    · have hkl : k < L.length := by rw [HM.out]; exact hlt
      obtain ⟨g1, o1, rfl, c0, c1⟩ := hr.move hkl
      have hst := capsTo_succ (s := s) hkl
      have h90 := HLT.out k hkl
      obtain ⟨⟨u, v⟩, huv⟩ : ∃ x, L[k] = x := ⟨_, rfl⟩
      rw [huv] at c0 c1 hst h90
      have hc0 := (hB.cell (p := ⟨g1, o1 + k * 2, none⟩) (cell_lt c0)).trans c0
      have hc1 := (hB.cell (p := ⟨g1, o1 + k * 2 + 1, none⟩) (cell_lt c1)).trans c1
      obtain ⟨x, hx⟩ : ∃ x, bAt s v = x := ⟨_, rfl⟩
      have hvs : v < s.size := by rw [HZ.out]; exact h90
      have hbk : s[v].toNat = x := (bAt_eq s v hvs).trans hx
      have b1 : (k : Int) < (m : Int) := by omega
      rw [show (u, v).2 = v from rfl, hx] at hst
      clear c0 c1 huv hx
      by_cases h46 : x = 46
      · have e46 : ((x : Int) != 46) = false := by rw [h46]; rfl
        have Hs : Hid (capsTo s L (k + 1) = capsTo s L k) := by show _ = _; rw [hst, h46]; rfl
        clear hst h46
        go_wp2_with fail
        go_roundw
        case rel => exact ⟨k + 1, by omega, by go_num, by rw [Hs.out]; exact hown, hB⟩
        case measure => simp [intOf]; omega
      · have e46 : ((x : Int) != 46) = true := by rw [bne_iff_ne]; omega
        have Hs : Hid (capsTo s L (k + 1) = capsTo s L k ++ [(u, v)]) := by show _ = _; rw [hst, if_pos (by rw [bne_iff_ne]; exact h46)]
        clear hst h46
        go_wp2_with (at_builtin; refine wpList_append_own _ rfl _ _ 24 rfl w1.heap.size 54 i0 (.agg #[.int .i64 0, .int .i64 0]) 2 16 Tryz.underlying24 hi hy0 hy1 hy2 rfl (by decide) _ _ _ rfl (hown.alloc _) ⟨wr.heap.size, 0, none⟩ 1 1 [iv u, iv v] rfl rfl (cells_two_new _ _ _ _) (by simp [Value.oneCell']) (by unfold maxLen; omega) (by omega) (by simp; omega) ?_; intro v' w2 hown' hgrow _)
        go_roundw
        case rel => exact ⟨k + 1, by omega, by go_num, by rw [Hs.out, mvs_app, List.length_append]; exact hown', below_app hB hbs hown hgrow⟩
        case measure => simp [intOf]; omega
    · obtain rfl : k = m := by omega
      rw [HE.out, HN.out] at hown
      obtain ⟨A', c', rfl⟩ := owns_slice hown
      go_wp2
      go_ret
      exact ⟨A', c', rfl, Rd.owns hown, hb1.trans (hB.mono hb1.size)⟩
theorem rgtakes_is (s : ByteArray) (side : Int) (l : List (Nat × Nat)) (n : Nat) (w : World) (h : takesG s side = l) (hn : l.length = n) : Calls Tryz.prog 231 #[.string s, .int .i64 side] w (GivesM w l n) := by
  by_cases hc : isB s = true ∧ 0 ≤ side ∧ side ≤ 1
  · exact rgtakes_yes s side _ l n _ w hc.1 hc.2.1 hc.2.2 rfl rfl h hn
  · have hl : l = [] := by
      rw [← h, takesG, if_neg]
      rintro h1
      rw [Bool.and_eq_true, Bool.or_eq_true, beq_iff_eq, beq_iff_eq] at h1
      exact hc ⟨h1.1, by omega, by omega⟩
    subst hl
    obtain rfl : n = 0 := hn.symm
    refine rgtakes_no s side w ?_
    cases hb : isB s
    · exact .inl rfl
    · right
      by_cases h0 : side < 0
      · exact .inl h0
      · exact .inr (by
          by_cases h1 : side ≤ 1
          · exact absurd ⟨hb, by omega, h1⟩ hc
          · omega)
end Go.Proofs.YtpogpjebhnoncaaGreatDoor
namespace Go.Proofs.YtpogpjebhnoncaaGreatDoor
open Go.RowKit Go.Shelf
open M (S)
theorem gs_keep {w : World} {p0 p1 : Value} {g : Nat} {W W' : World} (h0 : W.cell? ⟨g, 0, none⟩ = some p0) (h1 : W.cell? ⟨g, 1, none⟩ = some p1) (h : Below w.heap.size w W) (hb : Below W.heap.size W W') : W'.cell? ⟨g, 0, none⟩ = some p0 ∧ W'.cell? ⟨g, 1, none⟩ = some p1 ∧ Below w.heap.size w W' :=
  ⟨(hb.cell (p := ⟨g, 0, none⟩) (cell_lt h0)).trans h0, (hb.cell (p := ⟨g, 1, none⟩) (cell_lt h1)).trans h1, h.trans (hb.mono h.size)⟩
theorem rkind_s (c k : Nat) (w : World) (h : kindN c = k) : Calls Tryz.prog 113 #[.int .u8 (c : Int)] w (Says w (.int .u8 (k : Int))) := by subst h; exact rkind_any c w
theorem rside_s (c : Nat) (k : Int) (w : World) (h : sideN c = k) : Calls Tryz.prog 111 #[.int .u8 (c : Int)] w (Says w (.int .i64 k)) := by subst h; exact rside_any c w
set_option maxRecDepth 100000 in
set_option maxHeartbeats 4000000 in
theorem rgcan_no (s : ByteArray) (side a b : Int) (w : World) (h : isB s = false ∨ side < 0 ∨ 1 < side ∨ a < 0 ∨ 89 < a ∨ b < 0 ∨ 89 < b) : Calls Tryz.prog 265 #[.string s, .int .i64 side, .agg #[.int .i64 a, .int .i64 b]] w (Gives w (.bool false)) := by
  unfold Gives
  obtain ⟨W0, hW0⟩ : ∃ W0, w.alloc (.cells #[.int .i64 a, .int .i64 b] 54) = W0 := ⟨_, rfl⟩
  have hB : Below w.heap.size w W0 := by rw [← hW0]; exact (by repeat (first | exact Below.refl _ _ | (refine Below.setCell ?_ (by first | omega | (simp; done) | (simp; omega) | (simp at *; omega)) _) | (refine Below.alloc ?_ (by first | omega | (simp; done) | (simp; omega) | (simp at *; omega)) _) | refine Below.drew ?_ | (refine below_drewN ?_ _) | (refine Below.trans ?_ (Below.mono (by assumption) (by first | omega | (simp; done) | (simp; omega) | (simp at *; omega))))))
  have bM : Blk W0 w.heap.size 54 #[.int .i64 a, .int .i64 b] := by rw [← hW0]; exact Blk.new _ _ _ rfl
  have m0 : W0.cell? ⟨w.heap.size, 0, none⟩ = some (.int .i64 a) := bM.cell 0
  have m1 : W0.cell? ⟨w.heap.size, 1, none⟩ = some (.int .i64 b) := bM.cell 1
  have HW := Lib.hid hW0
  clear hW0 bM
  obtain ⟨k, hk⟩ : ∃ k, isB s = k := ⟨_, rfl⟩
  have HK := Lib.hid hk
  rw [hk] at h
  clear hk
  cases k
  · clear h
    go_enter Tryz.func265, Tryz.ntmps265
    go_wp2_with fail
    rw [HW.out]
    refine (ris5_is s false _ HK.out).mono ?_
    rintro e w1 ⟨rfl, rfl⟩
    go_wp2
    go_ret
    exact ⟨rfl, hB⟩
  · have h : side < 0 ∨ 1 < side ∨ a < 0 ∨ 89 < a ∨ b < 0 ∨ 89 < b := by simpa using h
    by_cases c1 : side < 0
    · clear h
      go_enter Tryz.func265, Tryz.ntmps265
      go_wp2_with fail
      rw [HW.out]
      refine (ris5_is s true _ HK.out).mono ?_
      rintro e w1 ⟨rfl, rfl⟩
      go_wp2
      go_ret
      exact ⟨rfl, hB⟩
    · by_cases c2 : 1 < side
      · clear h
        go_enter Tryz.func265, Tryz.ntmps265
        go_wp2_with fail
        rw [HW.out]
        refine (ris5_is s true _ HK.out).mono ?_
        rintro e w1 ⟨rfl, rfl⟩
        go_wp2
        go_ret
        exact ⟨rfl, hB⟩
      · by_cases c3 : a < 0
        · clear h
          go_enter Tryz.func265, Tryz.ntmps265
          go_wp2_with fail
          rw [HW.out]
          refine (ris5_is s true _ HK.out).mono ?_
          rintro e w1 ⟨rfl, rfl⟩
          go_wp2
          go_ret
          exact ⟨rfl, hB⟩
        · by_cases c4 : 89 < a
          · clear h
            go_enter Tryz.func265, Tryz.ntmps265
            go_wp2_with fail
            rw [HW.out]
            refine (ris5_is s true _ HK.out).mono ?_
            rintro e w1 ⟨rfl, rfl⟩
            go_wp2
            go_ret
            exact ⟨rfl, hB⟩
          · by_cases c5 : b < 0
            · clear h
              go_enter Tryz.func265, Tryz.ntmps265
              go_wp2_with fail
              rw [HW.out]
              refine (ris5_is s true _ HK.out).mono ?_
              rintro e w1 ⟨rfl, rfl⟩
              go_wp2
              go_ret
              exact ⟨rfl, hB⟩
            · have c6 : 89 < b := by omega
              clear h
              go_enter Tryz.func265, Tryz.ntmps265
              go_wp2_with fail
              rw [HW.out]
              refine (ris5_is s true _ HK.out).mono ?_
              rintro e w1 ⟨rfl, rfl⟩
              go_wp2
              go_ret
              exact ⟨rfl, hB⟩
set_option maxRecDepth 100000 in
set_option maxHeartbeats 8000000 in
theorem rgcan_yes (s q : ByteArray) (side y : Int) (a b c d k : Nat) (g f : Bool) (w : World) (hs : isB s = true) (h0 : 0 ≤ side) (h1 : side ≤ 1) (ha : a < 90) (hb : b < 90) (hc : bAt s a = c) (hy : sideN c = y) (hg : y = side → canB s a b = g) (hd : bAt s b = d) (hk : kindN d = k) (hq : y = side → g = true → behindS s (a, b) = q ∧ a ≠ b) (hf : safeB q side = f) (v : Bool) (hv : v = ((y == side) && g && (!((k : Int) == 75)) && f)) : Calls Tryz.prog 265 #[.string s, .int .i64 side, .agg #[.int .i64 (a : Int), .int .i64 (b : Int)]] w (Gives w (.bool v)) := by
  unfold Gives
  obtain ⟨W0, hW0⟩ : ∃ W0, w.alloc (.cells #[.int .i64 (a : Int), .int .i64 (b : Int)] 54) = W0 := ⟨_, rfl⟩
  have hB : Below w.heap.size w W0 := by rw [← hW0]; exact (by repeat (first | exact Below.refl _ _ | (refine Below.setCell ?_ (by first | omega | (simp; done) | (simp; omega) | (simp at *; omega)) _) | (refine Below.alloc ?_ (by first | omega | (simp; done) | (simp; omega) | (simp at *; omega)) _) | refine Below.drew ?_ | (refine below_drewN ?_ _) | (refine Below.trans ?_ (Below.mono (by assumption) (by first | omega | (simp; done) | (simp; omega) | (simp at *; omega))))))
  have bM : Blk W0 w.heap.size 54 #[.int .i64 (a : Int), .int .i64 (b : Int)] := by rw [← hW0]; exact Blk.new _ _ _ rfl
  have m0 : W0.cell? ⟨w.heap.size, 0, none⟩ = some (.int .i64 (a : Int)) := bM.cell 0
  have m1 : W0.cell? ⟨w.heap.size, 1, none⟩ = some (.int .i64 (b : Int)) := bM.cell 1
  have hz := isB_size hs
  have has : a < s.size := by omega
  have hbs : b < s.size := by omega
  have hbk : s[a].toNat = c := (bAt_eq s a has).trans hc
  have hbd : s[b].toNat = d := (bAt_eq s b hbs).trans hd
  have HW := Lib.hid hW0
  have HK := Lib.hid hs
  have HY := Lib.hid hy
  have HKD := Lib.hid hk
  have HZ := Lib.hid hz
  have HF := Lib.hid hf
  have HV := Lib.hid hv
  have HQ := Lib.hid hq
  clear hW0 bM hs hy hk hz hf hv hc hd hq
  have a0 : ¬ (a : Int) < 0 := by omega
  have a1 : ¬ 89 < (a : Int) := by omega
  have b0 : ¬ (b : Int) < 0 := by omega
  have b1 : ¬ 89 < (b : Int) := by omega
  have s0 : ¬ side < 0 := by omega
  have s1 : ¬ 1 < side := by omega
  by_cases hys : y = side
  · subst hys
    have HG := Lib.hid (hg rfl)
    clear hg
    have n1 : (y != y) = false := by simp
    cases g
    · go_enter Tryz.func265, Tryz.ntmps265
      go_wp2_with fail
      rw [HW.out]
      refine (ris5_is s true _ HK.out).mono ?_
      rintro e w1 ⟨rfl, rfl⟩
      go_wp2_with fail
      refine (rside_s c y _ HY.out).mono ?_
      rintro e w1 ⟨rfl, rfl⟩
      go_wp2_with fail
      refine (fast_is s a b false _ (by rw [HZ.out]; decide) ha hb HG.out).mono ?_
      rintro e w1 ⟨rfl, rfl⟩
      go_wp2
      go_ret
      exact ⟨by rw [HV.out]; simp, hB⟩
    · by_cases h75 : k = 75
      · have n2 : ((k : Int) == 75) = true := by rw [beq_iff_eq]; omega
        go_enter Tryz.func265, Tryz.ntmps265
        go_wp2_with fail
        rw [HW.out]
        refine (ris5_is s true _ HK.out).mono ?_
        rintro e w1 ⟨rfl, rfl⟩
        go_wp2_with fail
        refine (rside_s c y _ HY.out).mono ?_
        rintro e w1 ⟨rfl, rfl⟩
        go_wp2_with fail
        refine (fast_is s a b true _ (by rw [HZ.out]; decide) ha hb HG.out).mono ?_
        rintro e w1 ⟨rfl, rfl⟩
        go_wp2_with fail
        refine (rkind_s d k _ HKD.out).mono ?_
        rintro e w1 ⟨rfl, rfl⟩
        go_wp2
        go_ret
        exact ⟨by rw [HV.out, n2]; simp, hB⟩
      · have n2 : ((k : Int) == 75) = false := by rw [beq_eq_false_iff_ne]; omega
        obtain ⟨hq1, hq2⟩ := HQ.out rfl rfl
        have HM := Lib.hid (fun W => rmoved_any s a b _ q W HZ.out ha hb hq2 rfl hq1)
        clear hq1
        go_enter Tryz.func265, Tryz.ntmps265
        go_wp2_with fail
        rw [HW.out]
        refine (ris5_is s true _ HK.out).mono ?_
        rintro e w1 ⟨rfl, rfl⟩
        go_wp2_with fail
        refine (rside_s c y _ HY.out).mono ?_
        rintro e w1 ⟨rfl, rfl⟩
        go_wp2_with fail
        refine (fast_is s a b true _ (by rw [HZ.out]; decide) ha hb HG.out).mono ?_
        rintro e w1 ⟨rfl, rfl⟩
        go_wp2_with fail
        refine (rkind_s d k _ HKD.out).mono ?_
        rintro e w1 ⟨rfl, rfl⟩
        go_wp2_with fail
        refine (HM.out _).mono ?_
        rintro e w2 ⟨rfl, hb2⟩
        have hB2 := hB.trans (hb2.mono hB.size)
        clear hb2 m0 m1
        go_wp2_with fail
        refine (rsafe_is q y f _ HF.out).mono ?_
        rintro e w3 ⟨rfl, hb3⟩
        go_wp2
        go_ret
        exact ⟨by rw [HV.out, n2]; simp, hB2.trans (hb3.mono hB2.size)⟩
  · have n1 : (y != side) = true := by rw [bne_iff_ne]; exact hys
    have n3 : (y == side) = false := by rw [beq_eq_false_iff_ne]; exact hys
    clear hg hys
    go_enter Tryz.func265, Tryz.ntmps265
    go_wp2_with fail
    rw [HW.out]
    refine (ris5_is s true _ HK.out).mono ?_
    rintro e w1 ⟨rfl, rfl⟩
    go_wp2_with fail
    refine (rside_s c y _ HY.out).mono ?_
    rintro e w1 ⟨rfl, rfl⟩
    go_wp2
    go_ret
    exact ⟨by rw [HV.out, n3]; simp, hB⟩
theorem rgcan_any (s : ByteArray) (side a b : Int) (w : World) : Calls Tryz.prog 265 #[.string s, .int .i64 side, .agg #[.int .i64 a, .int .i64 b]] w (Gives w (.bool (couldI s side a b))) := by
  by_cases h : isB s = true ∧ 0 ≤ side ∧ side ≤ 1 ∧ 0 ≤ a ∧ a ≤ 89 ∧ 0 ≤ b ∧ b ≤ 89
  · obtain ⟨hs, s0, s1, a0, a1, b0, b1⟩ := h
    obtain ⟨x, rfl⟩ : ∃ x : Nat, a = x := ⟨a.toNat, by omega⟩
    obtain ⟨y, rfl⟩ : ∃ y : Nat, b = y := ⟨b.toNat, by omega⟩
    have hx : x < 90 := by omega
    have hy : y < 90 := by omega
    rw [couldI_nat hs hx hy]
    refine rgcan_yes s (behindS s (x, y)) side _ x y _ _ _ (canB s x y) _ w hs s0 s1 hx hy rfl rfl (fun _ => rfl) rfl rfl (fun _ h => ⟨rfl, can_self h⟩) rfl _ ?_
    unfold couldB legalB
    have e : (!(((kindN (bAt s y) : Nat) : Int) == 75)) = (kindN (bAt s y) != 75) := by
      rw [Bool.eq_iff_iff, Bool.not_eq_true', beq_eq_false_iff_ne, bne_iff_ne]
      omega
    show ((sideN (bAt s x) == side) && canB s x y && ((kindN (bAt s y) != 75) && safeB (behindS s (x, y)) side)) = _
    rw [e, Bool.and_assoc, Bool.and_assoc, Bool.and_assoc]
  · have hf : couldI s side a b = false := by
      cases e : couldI s side a b
      · rfl
      · obtain ⟨h1, h2, h3, h4⟩ := couldI_parts e
        have := could_sides h4
        exact absurd ⟨h1, by omega, by omega, h2.1, by omega, h3.1, by omega⟩ h
    rw [hf]
    refine rgcan_no s side a b w ?_
    cases hs : isB s
    · exact .inl rfl
    · right
      rw [hs] at h
      by_cases c1 : side < 0
      · exact .inl c1
      · by_cases c2 : 1 < side
        · exact .inr (.inl c2)
        · by_cases c3 : a < 0
          · exact .inr (.inr (.inl c3))
          · by_cases c4 : 89 < a
            · exact .inr (.inr (.inr (.inl c4)))
            · by_cases c5 : b < 0
              · exact .inr (.inr (.inr (.inr (.inl c5))))
              · exact .inr (.inr (.inr (.inr (.inr (by
                  by_cases c6 : b ≤ 89
                  · exact absurd ⟨rfl, by omega, by omega, by omega, by omega, by omega, c6⟩ h
                  · omega)))))
theorem rgcan_is (s : ByteArray) (side a b : Int) (v : Bool) (w : World) (h : couldI s side a b = v) : Calls Tryz.prog 265 #[.string s, .int .i64 side, .agg #[.int .i64 a, .int .i64 b]] w (Gives w (.bool v)) := by subst h; exact rgcan_any s side a b w
end Go.Proofs.YtpogpjebhnoncaaGreatDoor
namespace Go.Proofs.YtpogpjebhnoncaaGreatDoor
open Go.RowKit Go.Shelf
open M (S)
set_option maxRecDepth 100000 in
set_option maxHeartbeats 4000000 in
theorem rgguard_no (s : ByteArray) (a b : Int) (w : World) (h : isB s = false ∨ a < 0 ∨ 89 < a) : Calls Tryz.prog 266 #[.string s, .agg #[.int .i64 a, .int .i64 b]] w (Gives w (.bool false)) := by
  unfold Gives
  obtain ⟨W0, hW0⟩ : ∃ W0, w.alloc (.cells #[.int .i64 a, .int .i64 b] 54) = W0 := ⟨_, rfl⟩
  have hB : Below w.heap.size w W0 := by rw [← hW0]; exact (by repeat (first | exact Below.refl _ _ | (refine Below.setCell ?_ (by first | omega | (simp; done) | (simp; omega) | (simp at *; omega)) _) | (refine Below.alloc ?_ (by first | omega | (simp; done) | (simp; omega) | (simp at *; omega)) _) | refine Below.drew ?_ | (refine below_drewN ?_ _) | (refine Below.trans ?_ (Below.mono (by assumption) (by first | omega | (simp; done) | (simp; omega) | (simp at *; omega))))))
  have bM : Blk W0 w.heap.size 54 #[.int .i64 a, .int .i64 b] := by rw [← hW0]; exact Blk.new _ _ _ rfl
  have m0 : W0.cell? ⟨w.heap.size, 0, none⟩ = some (.int .i64 a) := bM.cell 0
  have HW := Lib.hid hW0
  clear hW0 bM
  obtain ⟨k, hk⟩ : ∃ k, isB s = k := ⟨_, rfl⟩
  have HK := Lib.hid hk
  rw [hk] at h
  clear hk
  cases k
  · clear h
    go_enter Tryz.func266, Tryz.ntmps266
    go_wp2_with fail
    rw [HW.out]
    refine (ris5_is s false _ HK.out).mono ?_
    rintro e w1 ⟨rfl, rfl⟩
    go_wp2
    go_ret
    exact ⟨rfl, hB⟩
  · have h : a < 0 ∨ 89 < a := by simpa using h
    by_cases c3 : a < 0
    · clear h
      go_enter Tryz.func266, Tryz.ntmps266
      go_wp2_with fail
      rw [HW.out]
      refine (ris5_is s true _ HK.out).mono ?_
      rintro e w1 ⟨rfl, rfl⟩
      go_wp2
      go_ret
      exact ⟨rfl, hB⟩
    · have c4 : 89 < a := by omega
      clear h
      go_enter Tryz.func266, Tryz.ntmps266
      go_wp2_with fail
      rw [HW.out]
      refine (ris5_is s true _ HK.out).mono ?_
      rintro e w1 ⟨rfl, rfl⟩
      go_wp2
      go_ret
      exact ⟨rfl, hB⟩
set_option maxRecDepth 100000 in
set_option maxHeartbeats 4000000 in
theorem rgguard_not (s : ByteArray) (a c : Nat) (b y : Int) (w : World) (hs : isB s = true) (ha : a < 90) (hc : bAt s a = c) (hy : sideN c = y) (h : couldI s y (a : Int) b = false) : Calls Tryz.prog 266 #[.string s, .agg #[.int .i64 (a : Int), .int .i64 b]] w (Gives w (.bool false)) := by
  unfold Gives
  obtain ⟨W0, hW0⟩ : ∃ W0, w.alloc (.cells #[.int .i64 (a : Int), .int .i64 b] 54) = W0 := ⟨_, rfl⟩
  have hB : Below w.heap.size w W0 := by rw [← hW0]; exact (by repeat (first | exact Below.refl _ _ | (refine Below.setCell ?_ (by first | omega | (simp; done) | (simp; omega) | (simp at *; omega)) _) | (refine Below.alloc ?_ (by first | omega | (simp; done) | (simp; omega) | (simp at *; omega)) _) | refine Below.drew ?_ | (refine below_drewN ?_ _) | (refine Below.trans ?_ (Below.mono (by assumption) (by first | omega | (simp; done) | (simp; omega) | (simp at *; omega))))))
  have bM : Blk W0 w.heap.size 54 #[.int .i64 (a : Int), .int .i64 b] := by rw [← hW0]; exact Blk.new _ _ _ rfl
  have m0 : W0.cell? ⟨w.heap.size, 0, none⟩ = some (.int .i64 (a : Int)) := bM.cell 0
  have m1 : W0.cell? ⟨w.heap.size, 1, none⟩ = some (.int .i64 b) := bM.cell 1
  have hz := isB_size hs
  have has : a < s.size := by omega
  have hbk : s[a].toNat = c := (bAt_eq s a has).trans hc
  have a0 : ¬ (a : Int) < 0 := by omega
  have a1 : ¬ 89 < (a : Int) := by omega
  have HW := Lib.hid hW0
  have HK := Lib.hid hs
  have HY := Lib.hid hy
  have HN := Lib.hid h
  clear hW0 bM hs hz hc hy h
  go_enter Tryz.func266, Tryz.ntmps266
  go_wp2_with fail
  rw [HW.out]
  refine (ris5_is s true _ HK.out).mono ?_
  rintro e w1 ⟨rfl, rfl⟩
  go_wp2_with fail
  refine (rside_s c y _ HY.out).mono ?_
  rintro e w1 ⟨rfl, rfl⟩
  go_wp2_with fail
  refine (rgcan_is s y a b false _ HN.out).mono ?_
  rintro e w2 ⟨rfl, hb⟩
  go_wp2
  go_ret
  exact ⟨rfl, hB.trans (hb.mono hB.size)⟩
set_option maxRecDepth 100000 in
set_option maxHeartbeats 8000000 in
theorem rgguard_yes (s q : ByteArray) (a b c : Nat) (y z : Int) (r : Bool) (w : World) (hs : isB s = true) (ha : a < 90) (hb9 : b < 90) (hab : a ≠ b) (hc : bAt s a = c) (hy : sideN c = y) (h : couldI s y (a : Int) (b : Int) = true) (y0 : 0 ≤ y) (y1 : y ≤ 1) (hz : 1 - y = z) (hq : behindS s (a, b) = q) (hqb : isB q = true) (hr : againB q z b = r) :
    Calls Tryz.prog 266 #[.string s, .agg #[.int .i64 (a : Int), .int .i64 (b : Int)]] w (Gives w (.bool r)) := by
  unfold Gives
  obtain ⟨W0, hW0⟩ : ∃ W0, w.alloc (.cells #[.int .i64 (a : Int), .int .i64 (b : Int)] 54) = W0 := ⟨_, rfl⟩
  have hB : Below w.heap.size w W0 := by rw [← hW0]; exact (by repeat (first | exact Below.refl _ _ | (refine Below.setCell ?_ (by first | omega | (simp; done) | (simp; omega) | (simp at *; omega)) _) | (refine Below.alloc ?_ (by first | omega | (simp; done) | (simp; omega) | (simp at *; omega)) _) | refine Below.drew ?_ | (refine below_drewN ?_ _) | (refine Below.trans ?_ (Below.mono (by assumption) (by first | omega | (simp; done) | (simp; omega) | (simp at *; omega))))))
  have bM : Blk W0 w.heap.size 54 #[.int .i64 (a : Int), .int .i64 (b : Int)] := by rw [← hW0]; exact Blk.new _ _ _ rfl
  have m0 : W0.cell? ⟨w.heap.size, 0, none⟩ = some (.int .i64 (a : Int)) := bM.cell 0
  have m1 : W0.cell? ⟨w.heap.size, 1, none⟩ = some (.int .i64 (b : Int)) := bM.cell 1
  have hz0 := isB_size hs
  have hqz := isB_size hqb
  have has : a < s.size := by omega
  have hbk : s[a].toNat = c := (bAt_eq s a has).trans hc
  have a0 : ¬ (a : Int) < 0 := by omega
  have a1 : ¬ 89 < (a : Int) := by omega
  have HW := Lib.hid hW0
  have HK := Lib.hid hs
  have HY := Lib.hid hy
  have HN := Lib.hid h
  have HZ := Lib.hid hz
  have HQZ := Lib.hid hqz
  have HQB := Lib.hid hqb
  have HR := Lib.hid hr
  have HM := Lib.hid (fun W => rmoved_any s a b _ q W hz0 ha hb9 hab rfl hq)
  clear hW0 bM hs hz0 hqz hc hy h hz hq hr hqb
  go_enter Tryz.func266, Tryz.ntmps266
  go_wp2_with fail
  rw [HW.out]
  refine (ris5_is s true _ HK.out).mono ?_
  rintro e w1 ⟨rfl, rfl⟩
  go_wp2_with fail
  refine (rside_s c y _ HY.out).mono ?_
  rintro e w1 ⟨rfl, rfl⟩
  go_wp2_with fail
  refine (rgcan_is s y a b true _ HN.out).mono ?_
  rintro e w2 ⟨rfl, hb⟩
  obtain ⟨m0, m1, hB⟩ := gs_keep m0 m1 hB hb
  clear hb
  go_wp2_with fail
  refine (HM.out _).mono ?_
  rintro e w3 ⟨rfl, hb⟩
  obtain ⟨m0, m1, hB⟩ := gs_keep m0 m1 hB hb
  clear hb
  go_wp2_with fail
  go_loopw [7] (fun i wr => ∃ k : Nat, k ≤ 90 ∧ i = .int .i64 k ∧ wr.cell? ⟨w.heap.size, 0, none⟩ = some (.int .i64 (a : Int)) ∧ wr.cell? ⟨w.heap.size, 1, none⟩ = some (.int .i64 (b : Int)) ∧ Below w.heap.size w wr ∧ Hid (∀ j : Nat, j < k → couldB q z j b = false)) (fun i _ => 90 - (intOf i).toNat)
  case atStart => exact ⟨0, Nat.zero_le _, rfl, m0, m1, hB, fun j hj => absurd hj (Nat.not_lt_zero _)⟩
  case round =>
    obtain ⟨k, hk, rfl, n0, n1, hBr, hno⟩ := hrel
    by_cases hlt : k < 90
    · have hkq : k < q.size := by rw [HQZ.out]; exact hlt
      obtain ⟨d, hd⟩ : ∃ d, bAt q k = d := ⟨_, rfl⟩
      have hbd : q[k].toNat = d := (bAt_eq q k hkq).trans hd
      obtain ⟨t, ht⟩ : ∃ t, sideN d = t := ⟨_, rfl⟩
      have HT := Lib.hid ht
      have b1 : (k : Int) < 90 := by omega
      have hz1 := HZ.out
      by_cases htz : t = z
      · obtain ⟨v, hv⟩ : ∃ v, couldB q z k b = v := ⟨_, rfl⟩
        have HV : Hid (couldI q z (k : Int) (b : Int) = v) := by
          show _ = _
          rw [couldI_nat HQB.out hlt hb9, hv]
        have HVB := Lib.hid hv
        have e1 : (t == 1 - y) = true := by rw [beq_iff_eq]; omega
        clear hd ht htz hv hz1
        cases v
        · go_wp2_with fail
          refine (rside_s d t _ HT.out).mono ?_
          rintro e w4 ⟨rfl, rfl⟩
          go_wp2_with fail
          rw [HZ.out]
          refine (rgcan_is q z k b false _ HV.out).mono ?_
          rintro e w5 ⟨rfl, hb⟩
          have hk5 := gs_keep n0 n1 hBr hb
          clear n0 n1 hBr
          go_wp2
          go_roundw
          case rel =>
            refine ⟨k + 1, by omega, by go_num, hk5.1, hk5.2.1, hk5.2.2, ?_⟩
            show ∀ j : Nat, j < k + 1 → _
            intro j hj
            by_cases e : j = k
            · rw [e]
              exact HVB.out
            · exact hno.out j (by omega)
          case measure => simp [intOf]; omega
        · have hfin : Hid (r = true) := by
            show _ = _
            rw [← HR.out]
            unfold againB
            rw [List.any_eq_true]
            exact ⟨k, List.mem_range.2 hlt, HVB.out⟩
          go_wp2_with fail
          refine (rside_s d t _ HT.out).mono ?_
          rintro e w4 ⟨rfl, rfl⟩
          go_wp2_with fail
          rw [HZ.out]
          refine (rgcan_is q z k b true _ HV.out).mono ?_
          rintro e w5 ⟨rfl, hb⟩
          have hk5 := gs_keep n0 n1 hBr hb
          clear n0 n1 hBr
          go_wp2
          go_ret
          exact ⟨by rw [hfin.out]; rfl, hk5.2.2⟩
      · have HVB : Hid (couldB q z k b = false) := by
          show _ = _
          cases e : couldB q z k b
          · rfl
          · have := (could_parts.1 e).1
            rw [hd, ht] at this
            exact absurd this htz
        have e1 : (t == 1 - y) = false := by rw [beq_eq_false_iff_ne]; omega
        clear hd ht htz hz1
        go_wp2_with fail
        refine (rside_s d t _ HT.out).mono ?_
        rintro e w4 ⟨rfl, rfl⟩
        go_wp2
        go_roundw
        case rel =>
          refine ⟨k + 1, by omega, by go_num, n0, n1, hBr, ?_⟩
          show ∀ j : Nat, j < k + 1 → _
          intro j hj
          by_cases e : j = k
          · rw [e]
            exact HVB.out
          · exact hno.out j (by omega)
        case measure => simp [intOf]; omega
    · obtain rfl : k = 90 := by omega
      have hfin : Hid (r = false) := by
        show _ = _
        rw [← HR.out]
        unfold againB
        rw [List.any_eq_false]
        intro j hj
        rw [hno.out j (List.mem_range.1 hj)]
        decide
      go_wp2
      go_ret
      exact ⟨by rw [hfin.out]; rfl, hBr⟩
theorem rgguard_any (s : ByteArray) (a b : Int) (w : World) : Calls Tryz.prog 266 #[.string s, .agg #[.int .i64 a, .int .i64 b]] w (Gives w (.bool (guardI s a b))) := by
  by_cases h : isB s = true ∧ 0 ≤ a ∧ a ≤ 89
  · obtain ⟨hs, a0, a1⟩ := h
    obtain ⟨x, rfl⟩ : ∃ x : Nat, a = x := ⟨a.toNat, by omega⟩
    have hx : x < 90 := by omega
    cases hc : couldI s (sideN (bAt s x)) (x : Int) b
    · have hg : guardI s (x : Int) b = false := by
        cases e : guardI s (x : Int) b
        · rfl
        · have h1 := guardI_could e
          rw [Int.toNat_natCast, hc] at h1
          cases h1
      rw [hg]
      exact rgguard_not s x _ b _ w hs hx rfl rfl hc
    · obtain ⟨_, _, ⟨b0, b1⟩, h4⟩ := couldI_parts hc
      obtain ⟨y, rfl⟩ : ∃ y : Nat, b = y := ⟨b.toNat, by omega⟩
      have hy : y < 90 := by omega
      simp only [Int.toNat_natCast] at h4
      have hsd := could_sides h4
      have hv : guardI s (x : Int) (y : Int) = againB (behindS s (x, y)) (1 - sideN (bAt s x)) y := by
        rw [guardI_nat hs hx hy]
        unfold guardB
        rw [h4, Bool.true_and]
      rw [hv]
      exact rgguard_yes s _ x y _ _ _ _ w hs hx hy (can_self (could_parts.1 h4).2.1) rfl rfl hc (by omega) (by omega) rfl rfl (moved_board hs (bAt_lt s x) (isB_fill hs x hx)) rfl
  · have hg : guardI s a b = false := by
      cases e : guardI s a b
      · rfl
      · obtain ⟨h1, h2, _, _⟩ := couldI_parts (guardI_could e)
        exact absurd ⟨h1, h2.1, by omega⟩ h
    rw [hg]
    refine rgguard_no s a b w ?_
    cases hs : isB s
    · exact .inl rfl
    · rw [hs] at h
      by_cases c3 : a < 0
      · exact .inr (.inl c3)
      · exact .inr (.inr (by
          by_cases c4 : a ≤ 89
          · exact absurd ⟨rfl, by omega, c4⟩ h
          · omega))
theorem rgguard_is (s : ByteArray) (a b : Int) (v : Bool) (w : World) (h : guardI s a b = v) : Calls Tryz.prog 266 #[.string s, .agg #[.int .i64 a, .int .i64 b]] w (Gives w (.bool v)) := by subst h; exact rgguard_any s a b w
end Go.Proofs.YtpogpjebhnoncaaGreatDoor
namespace Go.Proofs.YtpogpjebhnoncaaGreatDoor
open Go.RowKit Go.Shelf
open M (S)
def ratN (s : ByteArray) (n : Int) : Nat := if sqI n = true ∧ s.size = 90 then bAt s n.toNat else 46
def tvb (b75 b80 c80 o g b78 b67 c82 n c : Bool) : Bool := ((!b75 && !b80) && (!c80 || o)) && (!g || ((b78 || b67) && c82)) && (n || !c)
theorem int_eq (k m : Nat) : ((k : Int) == (m : Int)) = (k == m) := by
  rw [Bool.eq_iff_iff, beq_iff_eq, beq_iff_eq]
  omega
theorem int_ne (k m : Nat) : ((k : Int) != (m : Int)) = (k != m) := by
  rw [Bool.eq_iff_iff, bne_iff_ne, bne_iff_ne]
  omega
theorem tvb_is (k l : Nat) (o g c : Bool) : tvb ((k : Int) == 75) ((k : Int) == 80) ((l : Int) == 80) o g ((k : Int) == 78) ((k : Int) == 67) ((l : Int) == 82) ((k : Int) != (l : Int)) c = (((k != 75 && k != 80) && (l != 80 || o)) && (((k == 78 || k == 67) && l == 82) || !g) && (k != l || !c)) := by
  rw [show ((k : Int) == 75) = (k == 75) from int_eq k 75, show ((k : Int) == 80) = (k == 80) from int_eq k 80, show ((l : Int) == 80) = (l == 80) from int_eq l 80, show ((k : Int) == 78) = (k == 78) from int_eq k 78, show ((k : Int) == 67) = (k == 67) from int_eq k 67, show ((l : Int) == 82) = (l == 82) from int_eq l 82, int_ne]
  unfold tvb
  rw [Bool.or_comm (!g)]
  rfl
set_option maxRecDepth 100000 in
set_option maxHeartbeats 4000000 in
theorem rat16_any (s : ByteArray) (n : Int) (w : World) : Calls Tryz.prog 264 #[.string s, .int .i64 n] w (Says w (.int .u8 (ratN s n : Int))) := by
  unfold ratN
  by_cases hn : 0 ≤ n ∧ n < 90
  · obtain ⟨n0, n9⟩ := hn
    have h0 : ¬ n < 0 := by omega
    have h9 : ¬ 89 < n := by omega
    by_cases hs : s.size = 90
    · rw [if_pos ⟨sqI_true ⟨n0, n9⟩, hs⟩]
      obtain ⟨m, rfl⟩ : ∃ m : Nat, n = m := ⟨n.toNat, by omega⟩
      have hms : m < s.size := by omega
      have hbk := Lib.hid (bAt_eq s m hms)
      have hz : ((s.size : Int) != 90) = false := by rw [hs]; rfl
      rw [Int.toNat_natCast, ← hbk.out]
      clear hs hbk
      go_enter Tryz.func264, Tryz.ntmps264
      go_wp2
      go_ret
      exact ⟨rfl, rfl⟩
    · rw [if_neg fun h => hs h.2]
      have hz : ((s.size : Int) != 90) = true := by rw [bne_iff_ne]; omega
      clear hs
      go_enter Tryz.func264, Tryz.ntmps264
      go_wp2
      go_ret
      exact ⟨rfl, rfl⟩
  · rw [if_neg fun h => hn (sqI_iff.1 h.1)]
    by_cases h0 : n < 0
    · go_enter Tryz.func264, Tryz.ntmps264
      go_wp2
      go_ret
      exact ⟨rfl, rfl⟩
    · have h9 : 89 < n := by omega
      go_enter Tryz.func264, Tryz.ntmps264
      go_wp2
      go_ret
      exact ⟨rfl, rfl⟩
theorem rat_h (s : ByteArray) (n : Int) (c : Nat) (w : World) (h : Hid (ratN s n = c)) : Calls Tryz.prog 264 #[.string s, .int .i64 n] w (Says w (.int .u8 (c : Int))) := by
  have := h.out
  subst this
  exact rat16_any s n w
theorem rkind_h (c k : Nat) (w : World) (h : Hid (kindN c = k)) : Calls Tryz.prog 113 #[.int .u8 (c : Int)] w (Says w (.int .u8 (k : Int))) := rkind_s c k w h.out
theorem rcan_h (s : ByteArray) (side a b : Int) (v : Bool) (w : World) (h : Hid (couldI s side a b = v)) : Calls Tryz.prog 265 #[.string s, .int .i64 side, .agg #[.int .i64 a, .int .i64 b]] w (Gives w (.bool v)) := rgcan_is s side a b v w h.out
theorem mvr_keep {w : World} {p0 p1 : Value} {g : Nat} {W W' : World} (hS : W.cell? ⟨g, 0, none⟩ = some p0 ∧ W.cell? ⟨g, 1, none⟩ = some p1 ∧ Below w.heap.size w W) (hb : Below W.heap.size W W') : W'.cell? ⟨g, 0, none⟩ = some p0 ∧ W'.cell? ⟨g, 1, none⟩ = some p1 ∧ Below w.heap.size w W' :=
  ⟨(hb.cell (p := ⟨g, 0, none⟩) (cell_lt hS.1)).trans hS.1, (hb.cell (p := ⟨g, 1, none⟩) (cell_lt hS.2.1)).trans hS.2.1, hS.2.2.trans (hb.mono hS.2.2.size)⟩
theorem mv_cells {W : World} {g : Nat} {t : TypeId} {a b : Value} (h : Blk W g t #[a, b]) : W.cell? ⟨g, 0, none⟩ = some a ∧ W.cell? ⟨g, 1, none⟩ = some b := ⟨h.cell 0, h.cell 1⟩
set_option maxRecDepth 100000 in
set_option maxHeartbeats 16000000 in
theorem rthreat_none (s : ByteArray) (a b : Int) (x y : Nat) (side : Int) (w : World) (hx : ratN s a = x) (hy : ratN s b = y) (hsd : sideN x = side) (h : y = 46 ∨ couldI s side a b = false) : Calls Tryz.prog 232 #[.string s, .agg #[.int .i64 a, .int .i64 b]] w (Gives w (.bool false)) := by
  unfold Gives
  obtain ⟨W0, hW0⟩ : ∃ W0, w.alloc (.cells #[.int .i64 a, .int .i64 b] 54) = W0 := ⟨_, rfl⟩
  have hB : Below w.heap.size w W0 := by rw [← hW0]; exact (by repeat (first | exact Below.refl _ _ | (refine Below.setCell ?_ (by first | omega | (simp; done) | (simp; omega) | (simp at *; omega)) _) | (refine Below.alloc ?_ (by first | omega | (simp; done) | (simp; omega) | (simp at *; omega)) _) | refine Below.drew ?_ | (refine below_drewN ?_ _) | (refine Below.trans ?_ (Below.mono (by assumption) (by first | omega | (simp; done) | (simp; omega) | (simp at *; omega))))))
  have bM : Blk W0 w.heap.size 54 #[.int .i64 a, .int .i64 b] := by rw [← hW0]; exact Blk.new _ _ _ rfl
  obtain ⟨m0, m1⟩ := mv_cells bM
  have HW := Lib.hid hW0
  have HX := Lib.hid hx
  have HY := Lib.hid hy
  have HS := Lib.hid hsd
  clear hW0 hx hy hsd bM
  by_cases h46 : y = 46
  · have e46 : ((y : Int) == 46) = true := by rw [h46]; rfl
    clear h h46
    go_enter Tryz.func232, Tryz.ntmps232
    go_wp2_with (first
      | (go_at_call 264; (try rw [HW.out]); refine (rat_h s _ _ _ (by first | with_reducible exact HX | with_reducible exact HY)).mono ?_; rintro e w1 ⟨rfl, rfl⟩)
      | (go_at_call 111; refine (rside_s x side _ HS.out).mono ?_; rintro e w1 ⟨rfl, rfl⟩)
      | (go_at_call 265; refine (rcan_h s _ _ _ _ _ (by first | with_reducible exact HC | with_reducible exact HZ)).mono ?_; rintro e w1 ⟨rfl, hb⟩; obtain ⟨m0, m1, hB⟩ := mvr_keep ⟨m0, m1, hB⟩ hb; clear hb)
      | (go_at_call 113; refine (rkind_h _ _ _ (by first | with_reducible exact HK | with_reducible exact HL)).mono ?_; rintro e w1 ⟨rfl, rfl⟩)
      | (go_at_call 244; refine (rover_is b o' _ _ HO.out).mono ?_; rintro e w1 ⟨rfl, rfl⟩)
      | (go_at_call 266; refine (rgguard_is s a b _ _ HG.out).mono ?_; rintro e w1 ⟨rfl, hb⟩; obtain ⟨m0, m1, hB⟩ := mvr_keep ⟨m0, m1, hB⟩ hb; clear hb))
    go_ret
    exact ⟨rfl, hB⟩
  · have e46 : ((y : Int) == 46) = false := by rw [beq_eq_false_iff_ne]; omega
    have HC : Hid (couldI s side a b = false) := h.resolve_left h46
    clear h h46
    go_enter Tryz.func232, Tryz.ntmps232
    go_wp2_with (first
      | (go_at_call 264; (try rw [HW.out]); refine (rat_h s _ _ _ (by first | with_reducible exact HX | with_reducible exact HY)).mono ?_; rintro e w1 ⟨rfl, rfl⟩)
      | (go_at_call 111; refine (rside_s x side _ HS.out).mono ?_; rintro e w1 ⟨rfl, rfl⟩)
      | (go_at_call 265; refine (rcan_h s _ _ _ _ _ (by first | with_reducible exact HC | with_reducible exact HZ)).mono ?_; rintro e w1 ⟨rfl, hb⟩; obtain ⟨m0, m1, hB⟩ := mvr_keep ⟨m0, m1, hB⟩ hb; clear hb)
      | (go_at_call 113; refine (rkind_h _ _ _ (by first | with_reducible exact HK | with_reducible exact HL)).mono ?_; rintro e w1 ⟨rfl, rfl⟩)
      | (go_at_call 244; refine (rover_is b o' _ _ HO.out).mono ?_; rintro e w1 ⟨rfl, rfl⟩)
      | (go_at_call 266; refine (rgguard_is s a b _ _ HG.out).mono ?_; rintro e w1 ⟨rfl, hb⟩; obtain ⟨m0, m1, hB⟩ := mvr_keep ⟨m0, m1, hB⟩ hb; clear hb))
    go_ret
    exact ⟨rfl, hB⟩
set_option maxRecDepth 100000 in
set_option maxHeartbeats 16000000 in
theorem rthreat_some (s : ByteArray) (a b : Int) (x y k l : Nat) (side o' : Int) (o g c v : Bool) (w : World) (hx : ratN s a = x) (hy : ratN s b = y) (hsd : sideN x = side) (h46 : y ≠ 46) (hc : couldI s side a b = true) (hk : kindN x = k) (hl : kindN y = l) (hs0 : 0 ≤ side) (hs1 : side ≤ 1) (ho' : 1 - side = o') (ho : overB b o' = o) (hg : guardI s a b = g) (hz : couldI s o' b a = c) (hv0 : tvb ((k : Int) == 75) ((k : Int) == 80) ((l : Int) == 80) o g ((k : Int) == 78) ((k : Int) == 67) ((l : Int) == 82) ((k : Int) != (l : Int)) c = v) : Calls Tryz.prog 232 #[.string s, .agg #[.int .i64 a, .int .i64 b]] w (Gives w (.bool v)) := by
  unfold Gives
  obtain ⟨W0, hW0⟩ : ∃ W0, w.alloc (.cells #[.int .i64 a, .int .i64 b] 54) = W0 := ⟨_, rfl⟩
  have hB : Below w.heap.size w W0 := by rw [← hW0]; exact (by repeat (first | exact Below.refl _ _ | (refine Below.setCell ?_ (by first | omega | (simp; done) | (simp; omega) | (simp at *; omega)) _) | (refine Below.alloc ?_ (by first | omega | (simp; done) | (simp; omega) | (simp at *; omega)) _) | refine Below.drew ?_ | (refine below_drewN ?_ _) | (refine Below.trans ?_ (Below.mono (by assumption) (by first | omega | (simp; done) | (simp; omega) | (simp at *; omega))))))
  have bM : Blk W0 w.heap.size 54 #[.int .i64 a, .int .i64 b] := by rw [← hW0]; exact Blk.new _ _ _ rfl
  obtain ⟨m0, m1⟩ := mv_cells bM
  have HW := Lib.hid hW0
  have HX := Lib.hid hx
  have HY := Lib.hid hy
  have HS := Lib.hid hsd
  clear hW0 hx hy hsd bM
  have e46 : ((y : Int) == 46) = false := by rw [beq_eq_false_iff_ne]; omega
  have HC := Lib.hid hc
  have HK := Lib.hid hk
  have HL := Lib.hid hl
  have HO := Lib.hid ho
  have HG := Lib.hid hg
  have HZ := Lib.hid hz
  clear hc hk hl ho hg hz h46
  obtain ⟨b75, h75⟩ : ∃ z, ((k : Int) == 75) = z := ⟨_, rfl⟩
  obtain ⟨b80, h80⟩ : ∃ z, ((k : Int) == 80) = z := ⟨_, rfl⟩
  obtain ⟨c80, g80⟩ : ∃ z, ((l : Int) == 80) = z := ⟨_, rfl⟩
  obtain ⟨b78, h78⟩ : ∃ z, ((k : Int) == 78) = z := ⟨_, rfl⟩
  obtain ⟨b67, h67⟩ : ∃ z, ((k : Int) == 67) = z := ⟨_, rfl⟩
  obtain ⟨c82, g82⟩ : ∃ z, ((l : Int) == 82) = z := ⟨_, rfl⟩
  obtain ⟨n, hne⟩ : ∃ z, ((k : Int) != (l : Int)) = z := ⟨_, rfl⟩
  rw [h75, h80, g80, h78, h67, g82, hne] at hv0
  cases b75
  case true =>
    have hv : v = false := by rw [← hv0]; rfl
    subst hv
    clear hv0
    go_enter Tryz.func232, Tryz.ntmps232
    go_wp2_with (first
      | (go_at_call 264; (try rw [HW.out]); refine (rat_h s _ _ _ (by first | with_reducible exact HX | with_reducible exact HY)).mono ?_; rintro e w1 ⟨rfl, rfl⟩)
      | (go_at_call 111; refine (rside_s x side _ HS.out).mono ?_; rintro e w1 ⟨rfl, rfl⟩)
      | (go_at_call 265; refine (rcan_h s _ _ _ _ _ (by first | with_reducible exact HC | with_reducible exact HZ)).mono ?_; rintro e w1 ⟨rfl, hb⟩; obtain ⟨m0, m1, hB⟩ := mvr_keep ⟨m0, m1, hB⟩ hb; clear hb)
      | (go_at_call 113; refine (rkind_h _ _ _ (by first | with_reducible exact HK | with_reducible exact HL)).mono ?_; rintro e w1 ⟨rfl, rfl⟩)
      | (go_at_call 244; refine (rover_is b o' _ _ HO.out).mono ?_; rintro e w1 ⟨rfl, rfl⟩)
      | (go_at_call 266; refine (rgguard_is s a b _ _ HG.out).mono ?_; rintro e w1 ⟨rfl, hb⟩; obtain ⟨m0, m1, hB⟩ := mvr_keep ⟨m0, m1, hB⟩ hb; clear hb))
    go_ret
    exact ⟨rfl, hB⟩
  case false =>
    cases b80
    case true =>
      have hv : v = false := by rw [← hv0]; rfl
      subst hv
      clear hv0
      go_enter Tryz.func232, Tryz.ntmps232
      go_wp2_with (first
        | (go_at_call 264; (try rw [HW.out]); refine (rat_h s _ _ _ (by first | with_reducible exact HX | with_reducible exact HY)).mono ?_; rintro e w1 ⟨rfl, rfl⟩)
        | (go_at_call 111; refine (rside_s x side _ HS.out).mono ?_; rintro e w1 ⟨rfl, rfl⟩)
        | (go_at_call 265; refine (rcan_h s _ _ _ _ _ (by first | with_reducible exact HC | with_reducible exact HZ)).mono ?_; rintro e w1 ⟨rfl, hb⟩; obtain ⟨m0, m1, hB⟩ := mvr_keep ⟨m0, m1, hB⟩ hb; clear hb)
        | (go_at_call 113; refine (rkind_h _ _ _ (by first | with_reducible exact HK | with_reducible exact HL)).mono ?_; rintro e w1 ⟨rfl, rfl⟩)
        | (go_at_call 244; refine (rover_is b o' _ _ HO.out).mono ?_; rintro e w1 ⟨rfl, rfl⟩)
        | (go_at_call 266; refine (rgguard_is s a b _ _ HG.out).mono ?_; rintro e w1 ⟨rfl, hb⟩; obtain ⟨m0, m1, hB⟩ := mvr_keep ⟨m0, m1, hB⟩ hb; clear hb))
      go_ret
      exact ⟨rfl, hB⟩
    case false =>
      cases c80
      case true =>
        cases o
        case true =>
          cases g
          case true =>
            cases b78
            case true =>
              cases c82
              case true =>
                cases n
                case true =>
                  have hv : v = true := by rw [← hv0]; rfl
                  subst hv
                  clear hv0
                  go_enter Tryz.func232, Tryz.ntmps232
                  go_wp2_with (first
                    | (go_at_call 264; (try rw [HW.out]); refine (rat_h s _ _ _ (by first | with_reducible exact HX | with_reducible exact HY)).mono ?_; rintro e w1 ⟨rfl, rfl⟩)
                    | (go_at_call 111; refine (rside_s x side _ HS.out).mono ?_; rintro e w1 ⟨rfl, rfl⟩)
                    | (go_at_call 265; refine (rcan_h s _ _ _ _ _ (by first | with_reducible exact HC | with_reducible exact HZ)).mono ?_; rintro e w1 ⟨rfl, hb⟩; obtain ⟨m0, m1, hB⟩ := mvr_keep ⟨m0, m1, hB⟩ hb; clear hb)
                    | (go_at_call 113; refine (rkind_h _ _ _ (by first | with_reducible exact HK | with_reducible exact HL)).mono ?_; rintro e w1 ⟨rfl, rfl⟩)
                    | (go_at_call 244; refine (rover_is b o' _ _ HO.out).mono ?_; rintro e w1 ⟨rfl, rfl⟩)
                    | (go_at_call 266; refine (rgguard_is s a b _ _ HG.out).mono ?_; rintro e w1 ⟨rfl, hb⟩; obtain ⟨m0, m1, hB⟩ := mvr_keep ⟨m0, m1, hB⟩ hb; clear hb))
                  go_ret
                  exact ⟨rfl, hB⟩
                case false =>
                  cases c
                  case true =>
                    have hv : v = false := by rw [← hv0]; rfl
                    subst hv
                    clear hv0
                    go_enter Tryz.func232, Tryz.ntmps232
                    go_wp2_with (first
                      | (go_at_call 264; (try rw [HW.out]); refine (rat_h s _ _ _ (by first | with_reducible exact HX | with_reducible exact HY)).mono ?_; rintro e w1 ⟨rfl, rfl⟩)
                      | (go_at_call 111; refine (rside_s x side _ HS.out).mono ?_; rintro e w1 ⟨rfl, rfl⟩)
                      | (go_at_call 265; refine (rcan_h s _ _ _ _ _ (by first | with_reducible exact HC | with_reducible exact HZ)).mono ?_; rintro e w1 ⟨rfl, hb⟩; obtain ⟨m0, m1, hB⟩ := mvr_keep ⟨m0, m1, hB⟩ hb; clear hb)
                      | (go_at_call 113; refine (rkind_h _ _ _ (by first | with_reducible exact HK | with_reducible exact HL)).mono ?_; rintro e w1 ⟨rfl, rfl⟩)
                      | (go_at_call 244; refine (rover_is b o' _ _ HO.out).mono ?_; rintro e w1 ⟨rfl, rfl⟩)
                      | (go_at_call 266; refine (rgguard_is s a b _ _ HG.out).mono ?_; rintro e w1 ⟨rfl, hb⟩; obtain ⟨m0, m1, hB⟩ := mvr_keep ⟨m0, m1, hB⟩ hb; clear hb))
                    go_ret
                    exact ⟨rfl, hB⟩
                  case false =>
                    have hv : v = true := by rw [← hv0]; rfl
                    subst hv
                    clear hv0
                    go_enter Tryz.func232, Tryz.ntmps232
                    go_wp2_with (first
                      | (go_at_call 264; (try rw [HW.out]); refine (rat_h s _ _ _ (by first | with_reducible exact HX | with_reducible exact HY)).mono ?_; rintro e w1 ⟨rfl, rfl⟩)
                      | (go_at_call 111; refine (rside_s x side _ HS.out).mono ?_; rintro e w1 ⟨rfl, rfl⟩)
                      | (go_at_call 265; refine (rcan_h s _ _ _ _ _ (by first | with_reducible exact HC | with_reducible exact HZ)).mono ?_; rintro e w1 ⟨rfl, hb⟩; obtain ⟨m0, m1, hB⟩ := mvr_keep ⟨m0, m1, hB⟩ hb; clear hb)
                      | (go_at_call 113; refine (rkind_h _ _ _ (by first | with_reducible exact HK | with_reducible exact HL)).mono ?_; rintro e w1 ⟨rfl, rfl⟩)
                      | (go_at_call 244; refine (rover_is b o' _ _ HO.out).mono ?_; rintro e w1 ⟨rfl, rfl⟩)
                      | (go_at_call 266; refine (rgguard_is s a b _ _ HG.out).mono ?_; rintro e w1 ⟨rfl, hb⟩; obtain ⟨m0, m1, hB⟩ := mvr_keep ⟨m0, m1, hB⟩ hb; clear hb))
                    go_ret
                    exact ⟨rfl, hB⟩
              case false =>
                have hv : v = false := by rw [← hv0]; rfl
                subst hv
                clear hv0
                go_enter Tryz.func232, Tryz.ntmps232
                go_wp2_with (first
                  | (go_at_call 264; (try rw [HW.out]); refine (rat_h s _ _ _ (by first | with_reducible exact HX | with_reducible exact HY)).mono ?_; rintro e w1 ⟨rfl, rfl⟩)
                  | (go_at_call 111; refine (rside_s x side _ HS.out).mono ?_; rintro e w1 ⟨rfl, rfl⟩)
                  | (go_at_call 265; refine (rcan_h s _ _ _ _ _ (by first | with_reducible exact HC | with_reducible exact HZ)).mono ?_; rintro e w1 ⟨rfl, hb⟩; obtain ⟨m0, m1, hB⟩ := mvr_keep ⟨m0, m1, hB⟩ hb; clear hb)
                  | (go_at_call 113; refine (rkind_h _ _ _ (by first | with_reducible exact HK | with_reducible exact HL)).mono ?_; rintro e w1 ⟨rfl, rfl⟩)
                  | (go_at_call 244; refine (rover_is b o' _ _ HO.out).mono ?_; rintro e w1 ⟨rfl, rfl⟩)
                  | (go_at_call 266; refine (rgguard_is s a b _ _ HG.out).mono ?_; rintro e w1 ⟨rfl, hb⟩; obtain ⟨m0, m1, hB⟩ := mvr_keep ⟨m0, m1, hB⟩ hb; clear hb))
                go_ret
                exact ⟨rfl, hB⟩
            case false =>
              cases b67
              case true =>
                cases c82
                case true =>
                  cases n
                  case true =>
                    have hv : v = true := by rw [← hv0]; rfl
                    subst hv
                    clear hv0
                    go_enter Tryz.func232, Tryz.ntmps232
                    go_wp2_with (first
                      | (go_at_call 264; (try rw [HW.out]); refine (rat_h s _ _ _ (by first | with_reducible exact HX | with_reducible exact HY)).mono ?_; rintro e w1 ⟨rfl, rfl⟩)
                      | (go_at_call 111; refine (rside_s x side _ HS.out).mono ?_; rintro e w1 ⟨rfl, rfl⟩)
                      | (go_at_call 265; refine (rcan_h s _ _ _ _ _ (by first | with_reducible exact HC | with_reducible exact HZ)).mono ?_; rintro e w1 ⟨rfl, hb⟩; obtain ⟨m0, m1, hB⟩ := mvr_keep ⟨m0, m1, hB⟩ hb; clear hb)
                      | (go_at_call 113; refine (rkind_h _ _ _ (by first | with_reducible exact HK | with_reducible exact HL)).mono ?_; rintro e w1 ⟨rfl, rfl⟩)
                      | (go_at_call 244; refine (rover_is b o' _ _ HO.out).mono ?_; rintro e w1 ⟨rfl, rfl⟩)
                      | (go_at_call 266; refine (rgguard_is s a b _ _ HG.out).mono ?_; rintro e w1 ⟨rfl, hb⟩; obtain ⟨m0, m1, hB⟩ := mvr_keep ⟨m0, m1, hB⟩ hb; clear hb))
                    go_ret
                    exact ⟨rfl, hB⟩
                  case false =>
                    cases c
                    case true =>
                      have hv : v = false := by rw [← hv0]; rfl
                      subst hv
                      clear hv0
                      go_enter Tryz.func232, Tryz.ntmps232
                      go_wp2_with (first
                        | (go_at_call 264; (try rw [HW.out]); refine (rat_h s _ _ _ (by first | with_reducible exact HX | with_reducible exact HY)).mono ?_; rintro e w1 ⟨rfl, rfl⟩)
                        | (go_at_call 111; refine (rside_s x side _ HS.out).mono ?_; rintro e w1 ⟨rfl, rfl⟩)
                        | (go_at_call 265; refine (rcan_h s _ _ _ _ _ (by first | with_reducible exact HC | with_reducible exact HZ)).mono ?_; rintro e w1 ⟨rfl, hb⟩; obtain ⟨m0, m1, hB⟩ := mvr_keep ⟨m0, m1, hB⟩ hb; clear hb)
                        | (go_at_call 113; refine (rkind_h _ _ _ (by first | with_reducible exact HK | with_reducible exact HL)).mono ?_; rintro e w1 ⟨rfl, rfl⟩)
                        | (go_at_call 244; refine (rover_is b o' _ _ HO.out).mono ?_; rintro e w1 ⟨rfl, rfl⟩)
                        | (go_at_call 266; refine (rgguard_is s a b _ _ HG.out).mono ?_; rintro e w1 ⟨rfl, hb⟩; obtain ⟨m0, m1, hB⟩ := mvr_keep ⟨m0, m1, hB⟩ hb; clear hb))
                      go_ret
                      exact ⟨rfl, hB⟩
                    case false =>
                      have hv : v = true := by rw [← hv0]; rfl
                      subst hv
                      clear hv0
                      go_enter Tryz.func232, Tryz.ntmps232
                      go_wp2_with (first
                        | (go_at_call 264; (try rw [HW.out]); refine (rat_h s _ _ _ (by first | with_reducible exact HX | with_reducible exact HY)).mono ?_; rintro e w1 ⟨rfl, rfl⟩)
                        | (go_at_call 111; refine (rside_s x side _ HS.out).mono ?_; rintro e w1 ⟨rfl, rfl⟩)
                        | (go_at_call 265; refine (rcan_h s _ _ _ _ _ (by first | with_reducible exact HC | with_reducible exact HZ)).mono ?_; rintro e w1 ⟨rfl, hb⟩; obtain ⟨m0, m1, hB⟩ := mvr_keep ⟨m0, m1, hB⟩ hb; clear hb)
                        | (go_at_call 113; refine (rkind_h _ _ _ (by first | with_reducible exact HK | with_reducible exact HL)).mono ?_; rintro e w1 ⟨rfl, rfl⟩)
                        | (go_at_call 244; refine (rover_is b o' _ _ HO.out).mono ?_; rintro e w1 ⟨rfl, rfl⟩)
                        | (go_at_call 266; refine (rgguard_is s a b _ _ HG.out).mono ?_; rintro e w1 ⟨rfl, hb⟩; obtain ⟨m0, m1, hB⟩ := mvr_keep ⟨m0, m1, hB⟩ hb; clear hb))
                      go_ret
                      exact ⟨rfl, hB⟩
                case false =>
                  have hv : v = false := by rw [← hv0]; rfl
                  subst hv
                  clear hv0
                  go_enter Tryz.func232, Tryz.ntmps232
                  go_wp2_with (first
                    | (go_at_call 264; (try rw [HW.out]); refine (rat_h s _ _ _ (by first | with_reducible exact HX | with_reducible exact HY)).mono ?_; rintro e w1 ⟨rfl, rfl⟩)
                    | (go_at_call 111; refine (rside_s x side _ HS.out).mono ?_; rintro e w1 ⟨rfl, rfl⟩)
                    | (go_at_call 265; refine (rcan_h s _ _ _ _ _ (by first | with_reducible exact HC | with_reducible exact HZ)).mono ?_; rintro e w1 ⟨rfl, hb⟩; obtain ⟨m0, m1, hB⟩ := mvr_keep ⟨m0, m1, hB⟩ hb; clear hb)
                    | (go_at_call 113; refine (rkind_h _ _ _ (by first | with_reducible exact HK | with_reducible exact HL)).mono ?_; rintro e w1 ⟨rfl, rfl⟩)
                    | (go_at_call 244; refine (rover_is b o' _ _ HO.out).mono ?_; rintro e w1 ⟨rfl, rfl⟩)
                    | (go_at_call 266; refine (rgguard_is s a b _ _ HG.out).mono ?_; rintro e w1 ⟨rfl, hb⟩; obtain ⟨m0, m1, hB⟩ := mvr_keep ⟨m0, m1, hB⟩ hb; clear hb))
                  go_ret
                  exact ⟨rfl, hB⟩
              case false =>
                have hv : v = false := by rw [← hv0]; rfl
                subst hv
                clear hv0
                go_enter Tryz.func232, Tryz.ntmps232
                go_wp2_with (first
                  | (go_at_call 264; (try rw [HW.out]); refine (rat_h s _ _ _ (by first | with_reducible exact HX | with_reducible exact HY)).mono ?_; rintro e w1 ⟨rfl, rfl⟩)
                  | (go_at_call 111; refine (rside_s x side _ HS.out).mono ?_; rintro e w1 ⟨rfl, rfl⟩)
                  | (go_at_call 265; refine (rcan_h s _ _ _ _ _ (by first | with_reducible exact HC | with_reducible exact HZ)).mono ?_; rintro e w1 ⟨rfl, hb⟩; obtain ⟨m0, m1, hB⟩ := mvr_keep ⟨m0, m1, hB⟩ hb; clear hb)
                  | (go_at_call 113; refine (rkind_h _ _ _ (by first | with_reducible exact HK | with_reducible exact HL)).mono ?_; rintro e w1 ⟨rfl, rfl⟩)
                  | (go_at_call 244; refine (rover_is b o' _ _ HO.out).mono ?_; rintro e w1 ⟨rfl, rfl⟩)
                  | (go_at_call 266; refine (rgguard_is s a b _ _ HG.out).mono ?_; rintro e w1 ⟨rfl, hb⟩; obtain ⟨m0, m1, hB⟩ := mvr_keep ⟨m0, m1, hB⟩ hb; clear hb))
                go_ret
                exact ⟨rfl, hB⟩
          case false =>
            cases n
            case true =>
              have hv : v = true := by rw [← hv0]; rfl
              subst hv
              clear hv0
              go_enter Tryz.func232, Tryz.ntmps232
              go_wp2_with (first
                | (go_at_call 264; (try rw [HW.out]); refine (rat_h s _ _ _ (by first | with_reducible exact HX | with_reducible exact HY)).mono ?_; rintro e w1 ⟨rfl, rfl⟩)
                | (go_at_call 111; refine (rside_s x side _ HS.out).mono ?_; rintro e w1 ⟨rfl, rfl⟩)
                | (go_at_call 265; refine (rcan_h s _ _ _ _ _ (by first | with_reducible exact HC | with_reducible exact HZ)).mono ?_; rintro e w1 ⟨rfl, hb⟩; obtain ⟨m0, m1, hB⟩ := mvr_keep ⟨m0, m1, hB⟩ hb; clear hb)
                | (go_at_call 113; refine (rkind_h _ _ _ (by first | with_reducible exact HK | with_reducible exact HL)).mono ?_; rintro e w1 ⟨rfl, rfl⟩)
                | (go_at_call 244; refine (rover_is b o' _ _ HO.out).mono ?_; rintro e w1 ⟨rfl, rfl⟩)
                | (go_at_call 266; refine (rgguard_is s a b _ _ HG.out).mono ?_; rintro e w1 ⟨rfl, hb⟩; obtain ⟨m0, m1, hB⟩ := mvr_keep ⟨m0, m1, hB⟩ hb; clear hb))
              go_ret
              exact ⟨rfl, hB⟩
            case false =>
              cases c
              case true =>
                have hv : v = false := by rw [← hv0]; rfl
                subst hv
                clear hv0
                go_enter Tryz.func232, Tryz.ntmps232
                go_wp2_with (first
                  | (go_at_call 264; (try rw [HW.out]); refine (rat_h s _ _ _ (by first | with_reducible exact HX | with_reducible exact HY)).mono ?_; rintro e w1 ⟨rfl, rfl⟩)
                  | (go_at_call 111; refine (rside_s x side _ HS.out).mono ?_; rintro e w1 ⟨rfl, rfl⟩)
                  | (go_at_call 265; refine (rcan_h s _ _ _ _ _ (by first | with_reducible exact HC | with_reducible exact HZ)).mono ?_; rintro e w1 ⟨rfl, hb⟩; obtain ⟨m0, m1, hB⟩ := mvr_keep ⟨m0, m1, hB⟩ hb; clear hb)
                  | (go_at_call 113; refine (rkind_h _ _ _ (by first | with_reducible exact HK | with_reducible exact HL)).mono ?_; rintro e w1 ⟨rfl, rfl⟩)
                  | (go_at_call 244; refine (rover_is b o' _ _ HO.out).mono ?_; rintro e w1 ⟨rfl, rfl⟩)
                  | (go_at_call 266; refine (rgguard_is s a b _ _ HG.out).mono ?_; rintro e w1 ⟨rfl, hb⟩; obtain ⟨m0, m1, hB⟩ := mvr_keep ⟨m0, m1, hB⟩ hb; clear hb))
                go_ret
                exact ⟨rfl, hB⟩
              case false =>
                have hv : v = true := by rw [← hv0]; rfl
                subst hv
                clear hv0
                go_enter Tryz.func232, Tryz.ntmps232
                go_wp2_with (first
                  | (go_at_call 264; (try rw [HW.out]); refine (rat_h s _ _ _ (by first | with_reducible exact HX | with_reducible exact HY)).mono ?_; rintro e w1 ⟨rfl, rfl⟩)
                  | (go_at_call 111; refine (rside_s x side _ HS.out).mono ?_; rintro e w1 ⟨rfl, rfl⟩)
                  | (go_at_call 265; refine (rcan_h s _ _ _ _ _ (by first | with_reducible exact HC | with_reducible exact HZ)).mono ?_; rintro e w1 ⟨rfl, hb⟩; obtain ⟨m0, m1, hB⟩ := mvr_keep ⟨m0, m1, hB⟩ hb; clear hb)
                  | (go_at_call 113; refine (rkind_h _ _ _ (by first | with_reducible exact HK | with_reducible exact HL)).mono ?_; rintro e w1 ⟨rfl, rfl⟩)
                  | (go_at_call 244; refine (rover_is b o' _ _ HO.out).mono ?_; rintro e w1 ⟨rfl, rfl⟩)
                  | (go_at_call 266; refine (rgguard_is s a b _ _ HG.out).mono ?_; rintro e w1 ⟨rfl, hb⟩; obtain ⟨m0, m1, hB⟩ := mvr_keep ⟨m0, m1, hB⟩ hb; clear hb))
                go_ret
                exact ⟨rfl, hB⟩
        case false =>
          have hv : v = false := by rw [← hv0]; rfl
          subst hv
          clear hv0
          go_enter Tryz.func232, Tryz.ntmps232
          go_wp2_with (first
            | (go_at_call 264; (try rw [HW.out]); refine (rat_h s _ _ _ (by first | with_reducible exact HX | with_reducible exact HY)).mono ?_; rintro e w1 ⟨rfl, rfl⟩)
            | (go_at_call 111; refine (rside_s x side _ HS.out).mono ?_; rintro e w1 ⟨rfl, rfl⟩)
            | (go_at_call 265; refine (rcan_h s _ _ _ _ _ (by first | with_reducible exact HC | with_reducible exact HZ)).mono ?_; rintro e w1 ⟨rfl, hb⟩; obtain ⟨m0, m1, hB⟩ := mvr_keep ⟨m0, m1, hB⟩ hb; clear hb)
            | (go_at_call 113; refine (rkind_h _ _ _ (by first | with_reducible exact HK | with_reducible exact HL)).mono ?_; rintro e w1 ⟨rfl, rfl⟩)
            | (go_at_call 244; refine (rover_is b o' _ _ HO.out).mono ?_; rintro e w1 ⟨rfl, rfl⟩)
            | (go_at_call 266; refine (rgguard_is s a b _ _ HG.out).mono ?_; rintro e w1 ⟨rfl, hb⟩; obtain ⟨m0, m1, hB⟩ := mvr_keep ⟨m0, m1, hB⟩ hb; clear hb))
          go_ret
          exact ⟨rfl, hB⟩
      case false =>
        cases g
        case true =>
          cases b78
          case true =>
            cases c82
            case true =>
              cases n
              case true =>
                have hv : v = true := by rw [← hv0]; rfl
                subst hv
                clear hv0
                go_enter Tryz.func232, Tryz.ntmps232
                go_wp2_with (first
                  | (go_at_call 264; (try rw [HW.out]); refine (rat_h s _ _ _ (by first | with_reducible exact HX | with_reducible exact HY)).mono ?_; rintro e w1 ⟨rfl, rfl⟩)
                  | (go_at_call 111; refine (rside_s x side _ HS.out).mono ?_; rintro e w1 ⟨rfl, rfl⟩)
                  | (go_at_call 265; refine (rcan_h s _ _ _ _ _ (by first | with_reducible exact HC | with_reducible exact HZ)).mono ?_; rintro e w1 ⟨rfl, hb⟩; obtain ⟨m0, m1, hB⟩ := mvr_keep ⟨m0, m1, hB⟩ hb; clear hb)
                  | (go_at_call 113; refine (rkind_h _ _ _ (by first | with_reducible exact HK | with_reducible exact HL)).mono ?_; rintro e w1 ⟨rfl, rfl⟩)
                  | (go_at_call 244; refine (rover_is b o' _ _ HO.out).mono ?_; rintro e w1 ⟨rfl, rfl⟩)
                  | (go_at_call 266; refine (rgguard_is s a b _ _ HG.out).mono ?_; rintro e w1 ⟨rfl, hb⟩; obtain ⟨m0, m1, hB⟩ := mvr_keep ⟨m0, m1, hB⟩ hb; clear hb))
                go_ret
                exact ⟨rfl, hB⟩
              case false =>
                cases c
                case true =>
                  have hv : v = false := by rw [← hv0]; rfl
                  subst hv
                  clear hv0
                  go_enter Tryz.func232, Tryz.ntmps232
                  go_wp2_with (first
                    | (go_at_call 264; (try rw [HW.out]); refine (rat_h s _ _ _ (by first | with_reducible exact HX | with_reducible exact HY)).mono ?_; rintro e w1 ⟨rfl, rfl⟩)
                    | (go_at_call 111; refine (rside_s x side _ HS.out).mono ?_; rintro e w1 ⟨rfl, rfl⟩)
                    | (go_at_call 265; refine (rcan_h s _ _ _ _ _ (by first | with_reducible exact HC | with_reducible exact HZ)).mono ?_; rintro e w1 ⟨rfl, hb⟩; obtain ⟨m0, m1, hB⟩ := mvr_keep ⟨m0, m1, hB⟩ hb; clear hb)
                    | (go_at_call 113; refine (rkind_h _ _ _ (by first | with_reducible exact HK | with_reducible exact HL)).mono ?_; rintro e w1 ⟨rfl, rfl⟩)
                    | (go_at_call 244; refine (rover_is b o' _ _ HO.out).mono ?_; rintro e w1 ⟨rfl, rfl⟩)
                    | (go_at_call 266; refine (rgguard_is s a b _ _ HG.out).mono ?_; rintro e w1 ⟨rfl, hb⟩; obtain ⟨m0, m1, hB⟩ := mvr_keep ⟨m0, m1, hB⟩ hb; clear hb))
                  go_ret
                  exact ⟨rfl, hB⟩
                case false =>
                  have hv : v = true := by rw [← hv0]; rfl
                  subst hv
                  clear hv0
                  go_enter Tryz.func232, Tryz.ntmps232
                  go_wp2_with (first
                    | (go_at_call 264; (try rw [HW.out]); refine (rat_h s _ _ _ (by first | with_reducible exact HX | with_reducible exact HY)).mono ?_; rintro e w1 ⟨rfl, rfl⟩)
                    | (go_at_call 111; refine (rside_s x side _ HS.out).mono ?_; rintro e w1 ⟨rfl, rfl⟩)
                    | (go_at_call 265; refine (rcan_h s _ _ _ _ _ (by first | with_reducible exact HC | with_reducible exact HZ)).mono ?_; rintro e w1 ⟨rfl, hb⟩; obtain ⟨m0, m1, hB⟩ := mvr_keep ⟨m0, m1, hB⟩ hb; clear hb)
                    | (go_at_call 113; refine (rkind_h _ _ _ (by first | with_reducible exact HK | with_reducible exact HL)).mono ?_; rintro e w1 ⟨rfl, rfl⟩)
                    | (go_at_call 244; refine (rover_is b o' _ _ HO.out).mono ?_; rintro e w1 ⟨rfl, rfl⟩)
                    | (go_at_call 266; refine (rgguard_is s a b _ _ HG.out).mono ?_; rintro e w1 ⟨rfl, hb⟩; obtain ⟨m0, m1, hB⟩ := mvr_keep ⟨m0, m1, hB⟩ hb; clear hb))
                  go_ret
                  exact ⟨rfl, hB⟩
            case false =>
              have hv : v = false := by rw [← hv0]; rfl
              subst hv
              clear hv0
              go_enter Tryz.func232, Tryz.ntmps232
              go_wp2_with (first
                | (go_at_call 264; (try rw [HW.out]); refine (rat_h s _ _ _ (by first | with_reducible exact HX | with_reducible exact HY)).mono ?_; rintro e w1 ⟨rfl, rfl⟩)
                | (go_at_call 111; refine (rside_s x side _ HS.out).mono ?_; rintro e w1 ⟨rfl, rfl⟩)
                | (go_at_call 265; refine (rcan_h s _ _ _ _ _ (by first | with_reducible exact HC | with_reducible exact HZ)).mono ?_; rintro e w1 ⟨rfl, hb⟩; obtain ⟨m0, m1, hB⟩ := mvr_keep ⟨m0, m1, hB⟩ hb; clear hb)
                | (go_at_call 113; refine (rkind_h _ _ _ (by first | with_reducible exact HK | with_reducible exact HL)).mono ?_; rintro e w1 ⟨rfl, rfl⟩)
                | (go_at_call 244; refine (rover_is b o' _ _ HO.out).mono ?_; rintro e w1 ⟨rfl, rfl⟩)
                | (go_at_call 266; refine (rgguard_is s a b _ _ HG.out).mono ?_; rintro e w1 ⟨rfl, hb⟩; obtain ⟨m0, m1, hB⟩ := mvr_keep ⟨m0, m1, hB⟩ hb; clear hb))
              go_ret
              exact ⟨rfl, hB⟩
          case false =>
            cases b67
            case true =>
              cases c82
              case true =>
                cases n
                case true =>
                  have hv : v = true := by rw [← hv0]; rfl
                  subst hv
                  clear hv0
                  go_enter Tryz.func232, Tryz.ntmps232
                  go_wp2_with (first
                    | (go_at_call 264; (try rw [HW.out]); refine (rat_h s _ _ _ (by first | with_reducible exact HX | with_reducible exact HY)).mono ?_; rintro e w1 ⟨rfl, rfl⟩)
                    | (go_at_call 111; refine (rside_s x side _ HS.out).mono ?_; rintro e w1 ⟨rfl, rfl⟩)
                    | (go_at_call 265; refine (rcan_h s _ _ _ _ _ (by first | with_reducible exact HC | with_reducible exact HZ)).mono ?_; rintro e w1 ⟨rfl, hb⟩; obtain ⟨m0, m1, hB⟩ := mvr_keep ⟨m0, m1, hB⟩ hb; clear hb)
                    | (go_at_call 113; refine (rkind_h _ _ _ (by first | with_reducible exact HK | with_reducible exact HL)).mono ?_; rintro e w1 ⟨rfl, rfl⟩)
                    | (go_at_call 244; refine (rover_is b o' _ _ HO.out).mono ?_; rintro e w1 ⟨rfl, rfl⟩)
                    | (go_at_call 266; refine (rgguard_is s a b _ _ HG.out).mono ?_; rintro e w1 ⟨rfl, hb⟩; obtain ⟨m0, m1, hB⟩ := mvr_keep ⟨m0, m1, hB⟩ hb; clear hb))
                  go_ret
                  exact ⟨rfl, hB⟩
                case false =>
                  cases c
                  case true =>
                    have hv : v = false := by rw [← hv0]; rfl
                    subst hv
                    clear hv0
                    go_enter Tryz.func232, Tryz.ntmps232
                    go_wp2_with (first
                      | (go_at_call 264; (try rw [HW.out]); refine (rat_h s _ _ _ (by first | with_reducible exact HX | with_reducible exact HY)).mono ?_; rintro e w1 ⟨rfl, rfl⟩)
                      | (go_at_call 111; refine (rside_s x side _ HS.out).mono ?_; rintro e w1 ⟨rfl, rfl⟩)
                      | (go_at_call 265; refine (rcan_h s _ _ _ _ _ (by first | with_reducible exact HC | with_reducible exact HZ)).mono ?_; rintro e w1 ⟨rfl, hb⟩; obtain ⟨m0, m1, hB⟩ := mvr_keep ⟨m0, m1, hB⟩ hb; clear hb)
                      | (go_at_call 113; refine (rkind_h _ _ _ (by first | with_reducible exact HK | with_reducible exact HL)).mono ?_; rintro e w1 ⟨rfl, rfl⟩)
                      | (go_at_call 244; refine (rover_is b o' _ _ HO.out).mono ?_; rintro e w1 ⟨rfl, rfl⟩)
                      | (go_at_call 266; refine (rgguard_is s a b _ _ HG.out).mono ?_; rintro e w1 ⟨rfl, hb⟩; obtain ⟨m0, m1, hB⟩ := mvr_keep ⟨m0, m1, hB⟩ hb; clear hb))
                    go_ret
                    exact ⟨rfl, hB⟩
                  case false =>
                    have hv : v = true := by rw [← hv0]; rfl
                    subst hv
                    clear hv0
                    go_enter Tryz.func232, Tryz.ntmps232
                    go_wp2_with (first
                      | (go_at_call 264; (try rw [HW.out]); refine (rat_h s _ _ _ (by first | with_reducible exact HX | with_reducible exact HY)).mono ?_; rintro e w1 ⟨rfl, rfl⟩)
                      | (go_at_call 111; refine (rside_s x side _ HS.out).mono ?_; rintro e w1 ⟨rfl, rfl⟩)
                      | (go_at_call 265; refine (rcan_h s _ _ _ _ _ (by first | with_reducible exact HC | with_reducible exact HZ)).mono ?_; rintro e w1 ⟨rfl, hb⟩; obtain ⟨m0, m1, hB⟩ := mvr_keep ⟨m0, m1, hB⟩ hb; clear hb)
                      | (go_at_call 113; refine (rkind_h _ _ _ (by first | with_reducible exact HK | with_reducible exact HL)).mono ?_; rintro e w1 ⟨rfl, rfl⟩)
                      | (go_at_call 244; refine (rover_is b o' _ _ HO.out).mono ?_; rintro e w1 ⟨rfl, rfl⟩)
                      | (go_at_call 266; refine (rgguard_is s a b _ _ HG.out).mono ?_; rintro e w1 ⟨rfl, hb⟩; obtain ⟨m0, m1, hB⟩ := mvr_keep ⟨m0, m1, hB⟩ hb; clear hb))
                    go_ret
                    exact ⟨rfl, hB⟩
              case false =>
                have hv : v = false := by rw [← hv0]; rfl
                subst hv
                clear hv0
                go_enter Tryz.func232, Tryz.ntmps232
                go_wp2_with (first
                  | (go_at_call 264; (try rw [HW.out]); refine (rat_h s _ _ _ (by first | with_reducible exact HX | with_reducible exact HY)).mono ?_; rintro e w1 ⟨rfl, rfl⟩)
                  | (go_at_call 111; refine (rside_s x side _ HS.out).mono ?_; rintro e w1 ⟨rfl, rfl⟩)
                  | (go_at_call 265; refine (rcan_h s _ _ _ _ _ (by first | with_reducible exact HC | with_reducible exact HZ)).mono ?_; rintro e w1 ⟨rfl, hb⟩; obtain ⟨m0, m1, hB⟩ := mvr_keep ⟨m0, m1, hB⟩ hb; clear hb)
                  | (go_at_call 113; refine (rkind_h _ _ _ (by first | with_reducible exact HK | with_reducible exact HL)).mono ?_; rintro e w1 ⟨rfl, rfl⟩)
                  | (go_at_call 244; refine (rover_is b o' _ _ HO.out).mono ?_; rintro e w1 ⟨rfl, rfl⟩)
                  | (go_at_call 266; refine (rgguard_is s a b _ _ HG.out).mono ?_; rintro e w1 ⟨rfl, hb⟩; obtain ⟨m0, m1, hB⟩ := mvr_keep ⟨m0, m1, hB⟩ hb; clear hb))
                go_ret
                exact ⟨rfl, hB⟩
            case false =>
              have hv : v = false := by rw [← hv0]; rfl
              subst hv
              clear hv0
              go_enter Tryz.func232, Tryz.ntmps232
              go_wp2_with (first
                | (go_at_call 264; (try rw [HW.out]); refine (rat_h s _ _ _ (by first | with_reducible exact HX | with_reducible exact HY)).mono ?_; rintro e w1 ⟨rfl, rfl⟩)
                | (go_at_call 111; refine (rside_s x side _ HS.out).mono ?_; rintro e w1 ⟨rfl, rfl⟩)
                | (go_at_call 265; refine (rcan_h s _ _ _ _ _ (by first | with_reducible exact HC | with_reducible exact HZ)).mono ?_; rintro e w1 ⟨rfl, hb⟩; obtain ⟨m0, m1, hB⟩ := mvr_keep ⟨m0, m1, hB⟩ hb; clear hb)
                | (go_at_call 113; refine (rkind_h _ _ _ (by first | with_reducible exact HK | with_reducible exact HL)).mono ?_; rintro e w1 ⟨rfl, rfl⟩)
                | (go_at_call 244; refine (rover_is b o' _ _ HO.out).mono ?_; rintro e w1 ⟨rfl, rfl⟩)
                | (go_at_call 266; refine (rgguard_is s a b _ _ HG.out).mono ?_; rintro e w1 ⟨rfl, hb⟩; obtain ⟨m0, m1, hB⟩ := mvr_keep ⟨m0, m1, hB⟩ hb; clear hb))
              go_ret
              exact ⟨rfl, hB⟩
        case false =>
          cases n
          case true =>
            have hv : v = true := by rw [← hv0]; rfl
            subst hv
            clear hv0
            go_enter Tryz.func232, Tryz.ntmps232
            go_wp2_with (first
              | (go_at_call 264; (try rw [HW.out]); refine (rat_h s _ _ _ (by first | with_reducible exact HX | with_reducible exact HY)).mono ?_; rintro e w1 ⟨rfl, rfl⟩)
              | (go_at_call 111; refine (rside_s x side _ HS.out).mono ?_; rintro e w1 ⟨rfl, rfl⟩)
              | (go_at_call 265; refine (rcan_h s _ _ _ _ _ (by first | with_reducible exact HC | with_reducible exact HZ)).mono ?_; rintro e w1 ⟨rfl, hb⟩; obtain ⟨m0, m1, hB⟩ := mvr_keep ⟨m0, m1, hB⟩ hb; clear hb)
              | (go_at_call 113; refine (rkind_h _ _ _ (by first | with_reducible exact HK | with_reducible exact HL)).mono ?_; rintro e w1 ⟨rfl, rfl⟩)
              | (go_at_call 244; refine (rover_is b o' _ _ HO.out).mono ?_; rintro e w1 ⟨rfl, rfl⟩)
              | (go_at_call 266; refine (rgguard_is s a b _ _ HG.out).mono ?_; rintro e w1 ⟨rfl, hb⟩; obtain ⟨m0, m1, hB⟩ := mvr_keep ⟨m0, m1, hB⟩ hb; clear hb))
            go_ret
            exact ⟨rfl, hB⟩
          case false =>
            cases c
            case true =>
              have hv : v = false := by rw [← hv0]; rfl
              subst hv
              clear hv0
              go_enter Tryz.func232, Tryz.ntmps232
              go_wp2_with (first
                | (go_at_call 264; (try rw [HW.out]); refine (rat_h s _ _ _ (by first | with_reducible exact HX | with_reducible exact HY)).mono ?_; rintro e w1 ⟨rfl, rfl⟩)
                | (go_at_call 111; refine (rside_s x side _ HS.out).mono ?_; rintro e w1 ⟨rfl, rfl⟩)
                | (go_at_call 265; refine (rcan_h s _ _ _ _ _ (by first | with_reducible exact HC | with_reducible exact HZ)).mono ?_; rintro e w1 ⟨rfl, hb⟩; obtain ⟨m0, m1, hB⟩ := mvr_keep ⟨m0, m1, hB⟩ hb; clear hb)
                | (go_at_call 113; refine (rkind_h _ _ _ (by first | with_reducible exact HK | with_reducible exact HL)).mono ?_; rintro e w1 ⟨rfl, rfl⟩)
                | (go_at_call 244; refine (rover_is b o' _ _ HO.out).mono ?_; rintro e w1 ⟨rfl, rfl⟩)
                | (go_at_call 266; refine (rgguard_is s a b _ _ HG.out).mono ?_; rintro e w1 ⟨rfl, hb⟩; obtain ⟨m0, m1, hB⟩ := mvr_keep ⟨m0, m1, hB⟩ hb; clear hb))
              go_ret
              exact ⟨rfl, hB⟩
            case false =>
              have hv : v = true := by rw [← hv0]; rfl
              subst hv
              clear hv0
              go_enter Tryz.func232, Tryz.ntmps232
              go_wp2_with (first
                | (go_at_call 264; (try rw [HW.out]); refine (rat_h s _ _ _ (by first | with_reducible exact HX | with_reducible exact HY)).mono ?_; rintro e w1 ⟨rfl, rfl⟩)
                | (go_at_call 111; refine (rside_s x side _ HS.out).mono ?_; rintro e w1 ⟨rfl, rfl⟩)
                | (go_at_call 265; refine (rcan_h s _ _ _ _ _ (by first | with_reducible exact HC | with_reducible exact HZ)).mono ?_; rintro e w1 ⟨rfl, hb⟩; obtain ⟨m0, m1, hB⟩ := mvr_keep ⟨m0, m1, hB⟩ hb; clear hb)
                | (go_at_call 113; refine (rkind_h _ _ _ (by first | with_reducible exact HK | with_reducible exact HL)).mono ?_; rintro e w1 ⟨rfl, rfl⟩)
                | (go_at_call 244; refine (rover_is b o' _ _ HO.out).mono ?_; rintro e w1 ⟨rfl, rfl⟩)
                | (go_at_call 266; refine (rgguard_is s a b _ _ HG.out).mono ?_; rintro e w1 ⟨rfl, hb⟩; obtain ⟨m0, m1, hB⟩ := mvr_keep ⟨m0, m1, hB⟩ hb; clear hb))
              go_ret
              exact ⟨rfl, hB⟩
theorem rat_board {s : ByteArray} (hs : isB s = true) {n : Nat} (hn : n < 90) : ratN s (n : Int) = bAt s n := by
  unfold ratN
  rw [if_pos ⟨sqI_true (by omega), isB_size hs⟩, Int.toNat_natCast]
theorem rthreat_any (s : ByteArray) (a b : Int) (w : World) : Calls Tryz.prog 232 #[.string s, .agg #[.int .i64 a, .int .i64 b]] w (Gives w (.bool (threatI s a b))) := by
  by_cases h : ratN s b = 46 ∨ couldI s (sideN (ratN s a)) a b = false
  · have e : threatI s a b = false := by
      cases e : threatI s a b
      · rfl
      · unfold threatI at e
        simp only [Bool.and_eq_true] at e
        obtain ⟨⟨⟨hs, ha⟩, hb⟩, ht⟩ := e
        obtain ⟨a0, a1⟩ := sqI_iff.1 ha
        obtain ⟨b0, b1⟩ := sqI_iff.1 hb
        obtain ⟨m, rfl⟩ : ∃ m : Nat, a = m := ⟨a.toNat, by omega⟩
        obtain ⟨n, rfl⟩ : ∃ n : Nat, b = n := ⟨b.toNat, by omega⟩
        have hm : m < 90 := by omega
        have hn : n < 90 := by omega
        rw [Int.toNat_natCast, Int.toNat_natCast] at ht
        obtain ⟨t1, t2, _⟩ := threat_parts.1 ht
        rw [rat_board hs hm, rat_board hs hn, couldI_nat hs hm hn] at h
        rcases h with h | h
        · exact absurd h t1
        · rw [t2] at h
          cases h
    rw [e]
    exact rthreat_none s a b _ _ _ w rfl rfl rfl h
  · have hy : ratN s b ≠ 46 := fun e => h (.inl e)
    have hc : couldI s (sideN (ratN s a)) a b = true := by
      cases e : couldI s (sideN (ratN s a)) a b
      · exact absurd (.inr e) h
      · rfl
    obtain ⟨hs, ⟨a0, a1⟩, ⟨b0, b1⟩, hcb⟩ := couldI_parts hc
    obtain ⟨m, rfl⟩ : ∃ m : Nat, a = m := ⟨a.toNat, by omega⟩
    obtain ⟨n, rfl⟩ : ∃ n : Nat, b = n := ⟨b.toNat, by omega⟩
    have hm : m < 90 := by omega
    have hn : n < 90 := by omega
    rw [Int.toNat_natCast, Int.toNat_natCast] at hcb
    have hsd := could_sides hcb
    refine rthreat_some s _ _ _ _ _ _ _ _ _ _ _ (threatI s (m : Int) (n : Int)) w rfl rfl rfl hy hc rfl rfl (by omega) (by omega) rfl rfl rfl rfl ?_
    rw [tvb_is, threatI_nat hs hm hn, rat_board hs hm, rat_board hs hn, guardI_nat hs hm hn, couldI_nat hs hn hm]
    rw [rat_board hs hm] at hcb
    rw [rat_board hs hn] at hy
    have hto := could_to hs hn hcb hy
    unfold threatB momentB worthB fairB
    rw [hcb, hto, show (bAt s n != 46) = true by rw [bne_iff_ne]; exact hy]
    rfl
theorem rthreat_is (s : ByteArray) (a b : Int) (v : Bool) (w : World) (h : threatI s a b = v) : Calls Tryz.prog 232 #[.string s, .agg #[.int .i64 a, .int .i64 b]] w (Gives w (.bool v)) := by subst h; exact rthreat_any s a b w
end Go.Proofs.YtpogpjebhnoncaaGreatDoor
namespace Go.Proofs.YtpogpjebhnoncaaGreatDoor
open Go.RowKit Go.Shelf
open M (S)
def markB (s : ByteArray) (L : List (Nat × Nat)) (k n : Nat) : Bool := (L.take k).any fun m => m.2 == n && threatB s m.1 m.2
theorem markB_succ (s : ByteArray) (L : List (Nat × Nat)) {k : Nat} (h : k < L.length) (n : Nat) : markB s L (k + 1) n = (markB s L k n || (L[k].2 == n && threatB s L[k].1 L[k].2)) := by
  unfold markB
  rw [List.take_succ_eq_append_getElem h, List.any_append]
  simp
def markC (s : ByteArray) (L : List (Nat × Nat)) (k : Nat) : Array Value := ((List.range 90).map fun i => Value.bool (markB s L k i)).toArray
theorem markC_at (s : ByteArray) (L : List (Nat × Nat)) (k i : Nat) (h : i < 90) : (markC s L k)[i]? = some (.bool (markB s L k i)) := by simp [markC, h]
theorem markC_no (s : ByteArray) (L : List (Nat × Nat)) {k : Nat} (h : k < L.length) (ht : threatB s L[k].1 L[k].2 = false) : markC s L (k + 1) = markC s L k := by
  unfold markC
  congr 1
  refine List.map_congr_left fun i _ => ?_
  rw [markB_succ s L h, ht, Bool.and_false, Bool.or_false]
theorem markC_yes (s : ByteArray) (L : List (Nat × Nat)) {k : Nat} (h : k < L.length) (ht : threatB s L[k].1 L[k].2 = true) : (markC s L k).setIfInBounds L[k].2 (.bool true) = markC s L (k + 1) := by
  apply Array.ext
  · simp [markC]
  · intro i h1 h2
    simp only [markC, List.size_toArray, List.length_map, List.length_range] at h2
    rw [Array.getElem_setIfInBounds (by simpa [markC] using h2)]
    by_cases e : L[k].2 = i
    · rw [if_pos e]
      simp [markC, markB_succ s L h, e]
      right
      rw [← e]
      exact ht
    · rw [if_neg e]
      simp [markC, markB_succ s L h, ht, e]
theorem markC_zero (s t : ByteArray) (L M : List (Nat × Nat)) : markC s L 0 = markC t M 0 := by simp [markC, markB]
theorem marks_chased {s : ByteArray} {side : Int} {L : List (Nat × Nat)} {n : Nat} (hL : takesG s side = L) (hn : L.length = n) : trues (markB s L n) 90 = chasedL s side := by
  subst hL hn
  unfold chasedL
  refine trues_congr fun k _ => ?_
  unfold markB chasedB
  rw [List.take_length]
theorem make90m (w : World) : (Instr.makeSlice 224 (.int .i64 90) (.int .i64 90)).run Tryz.prog w = .ok (.slice (some ⟨w.heap.size, 0, none⟩) 90 90) (w.alloc (.cells (markC ByteArray.empty [] 0) 4)) := by kernel_rfl
attribute [local go_sem ↓] make90m in
set_option maxRecDepth 100000 in
set_option maxHeartbeats 8000000 in
theorem rall_go (s : ByteArray) (side : Int) (L : List (Nat × Nat)) (n : Nat) (p : Nat → Bool) (w : World) (hL : takesG s side = L) (hn : L.length = n) (hm : n ≤ 8100) (hp : markB s L n = p) : Calls Tryz.prog 195 #[.string s, .int .i64 side] w (OwnL w (trues p 90)) := by
  unfold OwnL
  obtain ⟨i0, hi, hz0, hz1, hz2⟩ := info_parts info_int
  have HL := Lib.hid hL
  have HN := Lib.hid hn
  have HP := Lib.hid hp
  have HC : Hid (∀ k (hk : k < L.length), threatI s (L[k].1 : Int) (L[k].2 : Int) = threatB s L[k].1 L[k].2 ∧ L[k].2 < 90) := fun k hk => by
    have hmem : L[k] ∈ takesG s side := by rw [hL]; exact List.getElem_mem hk
    obtain ⟨hs, h1, h2, _⟩ := takes_mem.1 (show (L[k].1, L[k].2) ∈ takesG s side from hmem)
    exact ⟨threatI_nat hs h1 h2, h2⟩
  clear hL hn hp
  go_enter Tryz.func195, Tryz.ntmps195
  go_wp2_with fail
  refine (rgtakes_is s side L n _ HL.out HN.out).mono ?_
  rintro e w1 ⟨A, c, rfl, hr, hb1⟩
  go_wp2_with fail
  obtain ⟨W0, hW0⟩ : ∃ W0, w1.alloc (.cells (markC ByteArray.empty [] 0) 4) = W0 := ⟨_, rfl⟩
  have hB0 : Below w1.heap.size w1 W0 := by rw [← hW0]; exact (by repeat (first | exact Below.refl _ _ | (refine Below.setCell ?_ (by first | omega | (simp; done) | (simp; omega) | (simp at *; omega)) _) | (refine Below.alloc ?_ (by first | omega | (simp; done) | (simp; omega) | (simp at *; omega)) _) | refine Below.drew ?_ | (refine below_drewN ?_ _) | (refine Below.trans ?_ (Below.mono (by assumption) (by first | omega | (simp; done) | (simp; omega) | (simp at *; omega))))))
  have bM0 : Blk W0 w1.heap.size 4 (markC s L 0) := by rw [← hW0, markC_zero s ByteArray.empty L []]; exact Blk.new _ _ _ rfl
  rw [hW0]
  clear hW0
  go_loopw [7] (fun i wr => ∃ k : Nat, k ≤ n ∧ i = .int .i64 k ∧ Blk wr w1.heap.size 4 (markC s L k) ∧ Below w1.heap.size w1 wr) (fun i _ => n - (intOf i).toNat)
  case atStart => exact ⟨0, Nat.zero_le _, rfl, bM0, hB0⟩
  case round =>
    obtain ⟨k, hk, rfl, bM, hB⟩ := hrel
    by_cases hlt : k < n
    · have hkl : k < L.length := by rw [HN.out]; exact hlt
      obtain ⟨g1, o1, rfl, d0, d1⟩ := hr.move hkl
      obtain ⟨hth, h90⟩ := HC.out k hkl
      have hno := markC_no s L hkl
      have hyes := markC_yes s L hkl
      obtain ⟨⟨a, b⟩, hab⟩ : ∃ x, L[k] = x := ⟨_, rfl⟩
      rw [hab] at d0 d1 hth h90 hno hyes
      obtain ⟨u, hu⟩ : ∃ u, threatB s a b = u := ⟨_, rfl⟩
      rw [hu] at hth
      have hno := Lib.hid (fun h : u = false => hno (hu.trans h))
      have hyes := Lib.hid (fun h : u = true => hyes (hu.trans h))
      have h90 : b < 90 := h90
      have HTH := Lib.hid hth
      have c0 := (hB.cell (p := ⟨g1, o1 + k * 2, none⟩) (cell_lt d0)).trans d0
      have c1 := (hB.cell (p := ⟨g1, o1 + k * 2 + 1, none⟩) (cell_lt d1)).trans d1
      have b1 : (k : Int) < (n : Int) := by omega
      clear hu hab hth
      cases u
      · go_wp2_with fail
        refine (rthreat_is s a b false _ HTH.out).mono ?_
        rintro e w2 ⟨rfl, hb⟩
        go_wp2_with fail
        go_roundw
        case rel => exact ⟨k + 1, by omega, by go_num, by rw [hno.out (by simp)]; exact bM.next hb, hB.trans (hb.mono hB.size)⟩
        case measure => simp [intOf]; omega
      · go_wp2_with fail
        refine (rthreat_is s a b true _ HTH.out).mono ?_
        rintro e w2 ⟨rfl, hb⟩
        have bM2 := bM.next hb
        have hB2 := hB.trans (hb.mono hB.size)
        have e0 := (hB2.cell (p := ⟨g1, o1 + k * 2, none⟩) (cell_lt d0)).trans d0
        have e1 := (hB2.cell (p := ⟨g1, o1 + k * 2 + 1, none⟩) (cell_lt d1)).trans d1
        have q0 : w2.cell? ⟨w1.heap.size, b, none⟩ = some (.bool (markB s L k b)) := by
          rw [bM2.cell b]
          exact markC_at s L k b h90
        have f0 := bM2.frozen b
        have b9 : (b : Int) < 90 := by omega
        clear c0 c1
        go_wp2_with fail
        go_roundw
        case rel => exact ⟨k + 1, by omega, by go_num, by rw [← hyes.out (by simp)]; exact bM2.set_ b (.bool true), hB2.setCell (p := ⟨w1.heap.size, b, none⟩) (Nat.le_refl _) _⟩
        case measure => simp [intOf]; omega
    · obtain rfl : k = n := by omega
      have b1 : ¬ (k : Int) < (k : Int) := by omega
      obtain ⟨V, rfl⟩ : ∃ V, V = wr := ⟨_, rfl⟩
      have hpk : ∀ j, j < 90 → V.cell? ⟨w1.heap.size, j, none⟩ = some (.bool (p j)) := fun j hj => by
        rw [← HP.out, bM.cell j]
        exact markC_at s L k j hj
      have HPK := Lib.hid hpk
      have hg : w1.heap.size < V.heap.size := bM.lt
      clear hlt hk hpk bM
      go_wp2_with fail
      go_loopw [8, 9] (fun v i wr => ∃ j : Nat, j ≤ 90 ∧ i = .int .i64 j ∧ wr.ownsRow V.heap.size 3 1 v (trues p j).length ((trues p j).map iv) ∧ Below V.heap.size V wr) (fun _ i _ => 90 - (intOf i).toNat)
      case atStart => exact ⟨0, by omega, rfl, by simpa [trues] using World.ownsRow_nil V V.heap.size 3 1, Below.refl _ _⟩
      case round =>
        obtain ⟨j, hj, rfl, hown, hB3⟩ := hrel
        have hbs := hB3.size
        have hle := trues_le p j
        by_cases hjl : j < 90
        · have hst := trues_succ p j
          have hc := HPK.out j hjl
          have hcc := (hB3.cell (p := ⟨w1.heap.size, j, none⟩) (cell_lt hc)).trans hc
          have b9 : (j : Int) < 90 := by omega
          clear hc
          cases hpj : p j
          · rw [hpj] at hst hcc
            have Hs := Lib.hid hst
            clear hst hpj
            go_wp2_with fail
            go_roundw
            case rel => exact ⟨j + 1, by omega, by go_num, by rw [Hs.out]; exact hown, hB3⟩
            case measure => simp [intOf]; omega
          · rw [hpj] at hst hcc
            have Hs := Lib.hid hst
            clear hst hpj
            go_wp2_with (at_builtin; refine wpList_append_own _ rfl _ _ 152 rfl V.heap.size 3 i0 (.int .i64 0) 1 8 Tryz.underlying152 hi hz0 hz1 hz2 rfl (by decide) _ _ _ rfl (hown.alloc _) ⟨wr.heap.size, 0, none⟩ 1 1 [iv j] rfl rfl (cell_one_new _ _ _) (by simp [Value.oneCell']) (by unfold maxLen; omega) (by omega) (by simp; omega) ?_; intro v' w4 hown' hgrow _)
            go_roundw
            case rel => exact ⟨j + 1, by omega, by go_num, by rw [Hs.out]; simpa using hown', below_app hB3 hbs hown hgrow⟩
            case measure => simp [intOf]; omega
        · obtain rfl : j = 90 := by omega
          have hB1 := hb1.trans (hB.mono hb1.size)
          go_wp2
          go_ret
          exact ⟨_, rfl, own_mono hown hB1.size, hB1.trans (hB3.mono hB1.size)⟩
theorem rall_is (s : ByteArray) (side : Int) (w : World) : Calls Tryz.prog 195 #[.string s, .int .i64 side] w (OwnL w (chasedL s side)) := by
  rw [← marks_chased rfl rfl]
  exact rall_go s side _ _ _ w rfl rfl (takes_len s side) rfl
end Go.Proofs.YtpogpjebhnoncaaGreatDoor
namespace Go.Proofs.YtpogpjebhnoncaaGreatDoor
open Go.RowKit Go.Shelf
open M (S)
theorem rply_start (w : World) (s : ByteArray) (y z u : Int) (hT : Tab w) {W0 : World} (hW0 : (w.alloc (.cells #[.string s, .int .i64 y, .int .i64 z, .int .i64 u] 23)).alloc (.cells #[.bool false, .slice none 0 0] 168) = W0) :
    Below w.heap.size w W0 ∧ Tab W0 ∧ Blk W0 w.heap.size 23 #[.string s, .int .i64 y, .int .i64 z, .int .i64 u] ∧ Blk W0 (w.heap.size + 1) 168 #[.bool false, .slice none 0 0] := by
  have hB : Below w.heap.size w W0 := by rw [← hW0]; exact (by repeat (first | exact Below.refl _ _ | (refine Below.setCell ?_ (by first | omega | (simp; done) | (simp; omega) | (simp at *; omega)) _) | (refine Below.alloc ?_ (by first | omega | (simp; done) | (simp; omega) | (simp at *; omega)) _) | refine Below.drew ?_ | (refine below_drewN ?_ _) | (refine Below.trans ?_ (Below.mono (by assumption) (by first | omega | (simp; done) | (simp; omega) | (simp at *; omega))))))
  refine ⟨hB, hT.below hB hT.lt, ?_, ?_⟩
  · rw [← hW0]; exact (Blk.new _ _ _ rfl).alloc _
  · rw [← hW0]; exact Blk.new _ _ _ (by simp)
set_option maxRecDepth 100000 in
set_option maxHeartbeats 8000000 in
theorem rof_bad16 (s : ByteArray) (y z u k : Int) (w : World) (hT : Tab w) (hk : wellN s y z u = k) (h : k ≠ 0) : Calls Tryz.prog 143 #[.agg #[.string s, .int .i64 y, .int .i64 z, .int .i64 u]] w (GivesP w false [] k) := by
  unfold GivesP
  obtain ⟨W0, hW0⟩ : ∃ W0, (w.alloc (.cells #[.string s, .int .i64 y, .int .i64 z, .int .i64 u] 23)).alloc (.cells #[.bool false, .slice none 0 0] 168) = W0 := ⟨_, rfl⟩
  obtain ⟨hB, hT0, bP, bQ⟩ := rply_start w s y z u hT hW0
  have HW := Lib.hid hW0
  have HK := Lib.hid hk
  have k0 : (k != 0) = true := by rw [bne_iff_ne]; exact h
  obtain ⟨p0, p1, p2, p3⟩ := ppos_cells bP
  clear hW0 hk h
  go_enter Tryz.func143, Tryz.ntmps143
  go_wp2_with fail
  rw [HW.out]
  refine (rwell_is s y z u k _ HK.out).mono ?_
  rintro e w1 ⟨rfl, hb⟩
  have bQ1 := bQ.next hb
  obtain ⟨f0, f1⟩ := ply_frozen bQ1
  obtain ⟨q0, q1⟩ := ply_cells bQ1
  have hB1 := hB.trans (hb.mono hB.size)
  clear p0 p1 p2 p3
  go_wp2
  have bQ2 := (bQ1.set_ 0 (.bool false)).set_ 1 (.slice none 0 0)
  exact bodyPost_ret (v := .tuple #[.agg #[.bool false, .slice none 0 0], .int .i64 k]) (by simp [results, Tryz.results143, go_sem, bQ2.cell 0, bQ2.cell 1]) rfl ⟨none, 0, rfl, rd_none _ _, (hB1.setCell (p := ⟨w.heap.size + 1, 0, none⟩) (by simp) _).setCell (p := ⟨w.heap.size + 1, 1, none⟩) (by simp) _⟩
set_option maxRecDepth 100000 in
set_option maxHeartbeats 8000000 in
theorem rof_check16 (s : ByteArray) (y z u : Int) (w : World) (hT : Tab w) (hk : wellN s y z u = 0) (h : inB s y = true) : Calls Tryz.prog 143 #[.agg #[.string s, .int .i64 y, .int .i64 z, .int .i64 u]] w (GivesP w true [] 0) := by
  unfold GivesP
  obtain ⟨W0, hW0⟩ : ∃ W0, (w.alloc (.cells #[.string s, .int .i64 y, .int .i64 z, .int .i64 u] 23)).alloc (.cells #[.bool false, .slice none 0 0] 168) = W0 := ⟨_, rfl⟩
  obtain ⟨hB, hT0, bP, bQ⟩ := rply_start w s y z u hT hW0
  have HW := Lib.hid hW0
  have HK := Lib.hid hk
  have HI := Lib.hid h
  obtain ⟨p0, p1, p2, p3⟩ := ppos_cells bP
  clear hW0 hk h
  go_enter Tryz.func143, Tryz.ntmps143
  go_wp2_with fail
  rw [HW.out]
  refine (rwell_is s y z u 0 _ HK.out).mono ?_
  rintro e w1 ⟨rfl, hb⟩
  have bP1 := bP.next hb
  have bQ1 := bQ.next hb
  have hT1 := hT0.next hb
  have hB1 := hB.trans (hb.mono hB.size)
  clear p0 p1 p2 p3 hb
  obtain ⟨p0, p1, p2, p3⟩ := ppos_cells bP1
  go_wp2_with fail
  refine (rin_is s y true _ HI.out).mono ?_
  rintro e w2 ⟨rfl, hb⟩
  have bQ2 := bQ1.next hb
  have hB2 := hB1.trans (hb.mono hB1.size)
  obtain ⟨f0, f1⟩ := ply_frozen bQ2
  obtain ⟨q0, q1⟩ := ply_cells bQ2
  clear p0 p1 p2 p3 hb
  go_wp2
  have bQ3 := (bQ2.set_ 0 (.bool true)).set_ 1 (.slice none 0 0)
  exact bodyPost_ret (v := .tuple #[.agg #[.bool true, .slice none 0 0], .int .i64 0]) (by simp [results, Tryz.results143, go_sem, bQ3.cell 0, bQ3.cell 1]) rfl ⟨none, 0, rfl, rd_none _ _, (hB2.setCell (p := ⟨w.heap.size + 1, 0, none⟩) (by simp) _).setCell (p := ⟨w.heap.size + 1, 1, none⟩) (by simp) _⟩
set_option maxRecDepth 100000 in
set_option maxHeartbeats 8000000 in
theorem rof_quiet16 (s : ByteArray) (y z u o : Int) (l : List Int) (w : World) (hT : Tab w) (hk : wellN s y z u = 0) (h : inB s y = false) (hy0 : 0 ≤ y) (hy1 : y ≤ 1) (ho : 1 - y = o) (hl : chasedL s o = l) : Calls Tryz.prog 143 #[.agg #[.string s, .int .i64 y, .int .i64 z, .int .i64 u]] w (GivesP w false l 0) := by
  unfold GivesP
  obtain ⟨W0, hW0⟩ : ∃ W0, (w.alloc (.cells #[.string s, .int .i64 y, .int .i64 z, .int .i64 u] 23)).alloc (.cells #[.bool false, .slice none 0 0] 168) = W0 := ⟨_, rfl⟩
  obtain ⟨hB, hT0, bP, bQ⟩ := rply_start w s y z u hT hW0
  have HW := Lib.hid hW0
  have HK := Lib.hid hk
  have HI := Lib.hid h
  have HL := Lib.hid hl
  obtain ⟨p0, p1, p2, p3⟩ := ppos_cells bP
  clear hW0 hk h hl
  go_enter Tryz.func143, Tryz.ntmps143
  go_wp2_with fail
  rw [HW.out]
  refine (rwell_is s y z u 0 _ HK.out).mono ?_
  rintro e w1 ⟨rfl, hb⟩
  have bP1 := bP.next hb
  have bQ1 := bQ.next hb
  have hT1 := hT0.next hb
  have hB1 := hB.trans (hb.mono hB.size)
  clear p0 p1 p2 p3 hb
  obtain ⟨p0, p1, p2, p3⟩ := ppos_cells bP1
  go_wp2_with fail
  refine (rin_is s y false _ HI.out).mono ?_
  rintro e w2 ⟨rfl, hb⟩
  have bP2 := bP1.next hb
  have bQ2 := bQ1.next hb
  have hT2 := hT1.next hb
  have hB2 := hB1.trans (hb.mono hB1.size)
  clear p0 p1 p2 p3 hb
  obtain ⟨p0, p1, p2, p3⟩ := ppos_cells bP2
  have hA := rall_is s o w2
  rw [HL.out] at hA
  go_wp2_with fail
  (try rw [ho])
  refine hA.mono ?_
  rintro e w3 ⟨v3, rfl, ho3, hb⟩
  obtain ⟨A, c, rfl⟩ := own_slice ho3
  have hr := Rd.own ho3
  have hqs : w.heap.size + 1 < w2.heap.size := bQ2.lt
  have hA2 : ∀ ad, A = some ad → w.heap.size + 1 < ad.block := fun ad e => by
    subst e
    rcases ho3.2 with ⟨h1, _⟩ | ⟨g', cap', cur, h1, hb, _⟩
    · simp at h1
    · simp only [Value.slice.injEq, Option.some.injEq] at h1
      rw [h1.1]
      show w.heap.size + 1 < g'
      omega
  clear ho3
  have bQ3 := bQ2.next hb
  have hB3 := hB2.trans (hb.mono hB2.size)
  obtain ⟨f0, f1⟩ := ply_frozen bQ3
  obtain ⟨q0, q1⟩ := ply_cells bQ3
  clear p0 p1 p2 p3 hA
  go_wp2
  have bQ4 := (bQ3.set_ 0 (.bool false)).set_ 1 (.slice A l.length c)
  exact bodyPost_ret (v := .tuple #[.agg #[.bool false, .slice A l.length c], .int .i64 0]) (by simp [results, Tryz.results143, go_sem, bQ4.cell 0, bQ4.cell 1]) rfl ⟨A, c, rfl, rd_far (rd_far hr _ _ hA2) _ _ hA2, (hB3.setCell (p := ⟨w.heap.size + 1, 0, none⟩) (by simp) _).setCell (p := ⟨w.heap.size + 1, 1, none⟩) (by simp) _⟩
theorem rcof_any (s : ByteArray) (y z u : Int) (w : World) (hT : Tab w) : Calls Tryz.prog 143 #[.agg #[.string s, .int .i64 y, .int .i64 z, .int .i64 u]] w (GivesP w (plyC s y z u) (plyL s y z u) (wellN s y z u)) := by
  by_cases hk : wellN s y z u = 0
  · have hsd := (check_other (well_zero hk).1).1
    cases hi : inB s y
    · obtain ⟨e1, e2⟩ := ply_quiet hk hi
      rw [e1, e2, hk]
      exact rof_quiet16 s y z u _ _ w hT hk hi (by omega) (by omega) rfl rfl
    · obtain ⟨e1, e2⟩ := ply_check hk hi
      rw [e1, e2, hk]
      exact rof_check16 s y z u w hT hk hi
  · obtain ⟨e1, e2⟩ := ply_bad hk
    rw [e1, e2]
    exact rof_bad16 s y z u _ w hT rfl hk
theorem rcof_is (s : ByteArray) (y z u : Int) (c : Bool) (l : List Int) (k : Int) (w : World) (hT : Tab w) (hc : plyC s y z u = c) (hl : plyL s y z u = l) (hk : wellN s y z u = k) : Calls Tryz.prog 143 #[.agg #[.string s, .int .i64 y, .int .i64 z, .int .i64 u]] w (GivesP w c l k) := by
  subst hc hl hk
  exact rcof_any s y z u w hT
end Go.Proofs.YtpogpjebhnoncaaGreatDoor
namespace Go.Proofs.YtpogpjebhnoncaaGreatDoor
open Go.RowKit Go.Shelf
open M (S)
theorem two_cellsZ {W : World} {g : Nat} {t : TypeId} {a b : Value} (h : Blk W g t #[a, b]) : W.cell? ⟨g, 0, none⟩ = some a ∧ W.cell? ⟨g, 1, none⟩ = some b := ⟨h.cell 0, h.cell 1⟩
theorem own_geZ {w : World} {base : Nat} {e : TypeId} {size n : Nat} {v : Value} {xs : List Value} (h : w.ownsRow base e size v n xs) {k : Nat} (hk : v.ownBlock = some k) : base ≤ k ∧ k < w.heap.size := by
  rcases h.2 with ⟨rfl, _⟩ | ⟨g', cap, cur, rfl, hb, hc, _⟩
  · cases hk
  · have : g' = k := by simpa [Value.ownBlock] using hk
    rw [← this]
    exact ⟨hb, (Array.getElem?_eq_some_iff.1 hc).1⟩
theorem sets_app2 {W W0 w' : World} {base : Nat} {v : Value} {ss : List (List Int)} {vs : List Value} (h1 : W.ownsRow base 152 1 v ss.length vs)
    (h2 : ∀ j (h : j < ss.length), ∃ Aj cj, vs[j]? = some (.slice Aj ss[j].length cj) ∧ Rd W Aj (ss[j].map iv) ∧ (ss[j] ≠ [] → ∀ ad, Aj = some ad → v.ownBlock ≠ some ad.block)) {s : List Int} {A : Option Addr} {c : Nat} {o : Obj} (hW0 : W0 = W.alloc o) (hr : Rd W A (s.map iv)) (hne : s ≠ [] → ∀ ad, A = some ad → v.ownBlock ≠ some ad.block)
    {g cap : Nat} (hown : w'.ownsRow base 152 1 (.slice (some ⟨g, 0, none⟩) (ss.length + 1) cap) (ss.length + 1) (vs ++ [.slice A s.length c])) (hg : W0.grownBy w' v.ownBlock) (hat : v.ownBlock = some g ∨ g = W0.heap.size) :
    SetsIn w' base (.slice (some ⟨g, 0, none⟩) (ss.length + 1) cap) (ss ++ [s]) := by
  subst hW0
  have hvl : vs.length = ss.length := by have := h1.1; omega
  have hal : Below W.heap.size W (W.alloc o) := (Below.refl _ _).alloc (Nat.le_refl _) _
  have hsz : (W.alloc o).heap.size = W.heap.size + 1 := by simp
  have hob : (Value.slice (some ⟨g, 0, none⟩) (ss.length + 1) cap).ownBlock = some g := rfl
  refine ⟨vs ++ [.slice A s.length c], by rw [List.length_append]; exact hown, fun j hj => ?_⟩
  by_cases hjl : j < ss.length
  · obtain ⟨Aj, cj, h3, h4, h5⟩ := h2 j hjl
    have e : (ss ++ [s])[j] = ss[j] := List.getElem_append_left hjl
    rw [e]
    refine ⟨Aj, cj, by rw [List.getElem?_append_left (by omega)]; exact h3, rd_grownS hg (h4.next hal) (fun hx => h5 (fun e => hx (by rw [e]; rfl))), fun hx ad hA => ?_⟩
    rw [hob]
    intro e2
    injection e2 with e2
    rcases hat with h6 | h6
    · exact h5 hx ad hA (by rw [h6, e2])
    · have := rd_lt h4 (fun e => hx (by simpa using e)) hA
      omega
  · have hje : j = ss.length := by rw [List.length_append] at hj; simp at hj; omega
    subst hje
    have e : (ss ++ [s])[ss.length] = s := by simp
    rw [e]
    refine ⟨A, c, by rw [List.getElem?_append_right (by omega), hvl, Nat.sub_self]; rfl, rd_grownS hg (hr.next hal) (fun hx => hne (fun e => hx (by rw [e]; rfl))), fun hx ad hA => ?_⟩
    rw [hob]
    intro e2
    injection e2 with e2
    rcases hat with h6 | h6
    · exact hne hx ad hA (by rw [h6, e2])
    · have := rd_lt hr (fun e => hx (by simpa using e)) hA
      omega
set_option maxRecDepth 100000 in
set_option maxHeartbeats 16000000 in
theorem rclass_some (g b : Nat) (C : Option Addr) (l : List Ps) (m : List (Int × Int)) (side : Int) (n c a d : Nat) (w : World) (hT : Tab w) (hp : Rd w (some ⟨g, b, none⟩) (psL l)) (hl : l.length = n) (hm : Rd w C (mzL m)) (ha : m.length = a) (hna : n = a + 1) (ha9 : a ≤ 1024) (had : a ≤ d) :
    Calls Tryz.prog 87 #[.slice (some ⟨g, b, none⟩) n c, .slice C a d, .int .i64 side] w (Gives w (.int .i64 (classR l m side))) := by
  unfold Gives
  obtain ⟨i1, hi1, hz0, hz1, hz2⟩ := info_parts info_ints
  obtain ⟨r, hr0⟩ : ∃ r, classR l m side = r := ⟨_, rfl⟩
  rw [hr0]
  have HR0 := Lib.hid hr0
  clear hr0
  have HP := Lib.hid hp
  have HM := Lib.hid hm
  have HL := Lib.hid hl
  have HA := Lib.hid ha
  have HT := Lib.hid hT
  have HNA := Lib.hid hna
  have na : IntKind.i64.wrap ((a : Int) + 1) = (n : Int) := by rw [IntWalk.i64_in _ (by omega)]; omega
  have nn : ((n : Int) != (n : Int)) = false := by simp
  clear hp hm hl ha hT hna
  go_enter Tryz.func87, Tryz.ntmps87
  go_wp2_with fail
  go_loopw [7, 8, 9, 10] (fun p q v i wr => ∃ j : Nat, j ≤ a ∧ i = .int .i64 (j : Int) ∧ p = .int .i64 ((pliesN l side j).length : Int) ∧ q = .int .i64 (((pliesN l side j).filter (ckAt l)).length : Int) ∧ SetsIn wr w.heap.size v (setsL l m side j) ∧ Below w.heap.size w wr) (fun _ _ _ i _ => a - (intOf i).toNat)
  case atStart => exact ⟨0, Nat.zero_le _, rfl, rfl, rfl, SetsIn.nil _ _, Below.refl _ _⟩
  case round =>
    obtain ⟨j, hj, rfl, rfl, rfl, hsets, hB⟩ := hrel
    have HS := Lib.hid hsets
    have HB := Lib.hid hB
    have hple := plies_le l side j
    have hcle : ((pliesN l side j).filter (ckAt l)).length ≤ (pliesN l side j).length := List.length_filter_le _ _
    have hpl := plies_len_succ l side j
    have hcl := checks_len_succ l side j
    have hsl := setsL_succ l m side j
    obtain ⟨P, hP⟩ : ∃ P, (pliesN l side j).length = P := ⟨_, rfl⟩
    obtain ⟨K, hK⟩ : ∃ K, ((pliesN l side j).filter (ckAt l)).length = K := ⟨_, rfl⟩
    obtain ⟨ss, hss⟩ : ∃ ss, setsL l m side j = ss := ⟨_, rfl⟩
    rw [hP] at hple hcle hpl ⊢
    rw [hK] at hcle hcl ⊢
    rw [hss] at hsl
    have HPP := Lib.hid hP
    have HKK := Lib.hid hK
    have HSS := Lib.hid hss
    rw [hss] at HS
    clear hP hK hss hsets
    by_cases hlt : j < a
    · have bj : (j : Int) < (a : Int) := by omega
      have hjl : j < l.length := by rw [HL.out, HNA.out]; omega
      have hjl1 : j + 1 < l.length := by rw [HL.out, HNA.out]; omega
      obtain ⟨g1, b1, hA1, d0, d1, d2, d3⟩ := HP.out.ps hjl
      injection hA1 with hA1
      injection hA1 with hA1 hA2
      subst hA1 hA2
      obtain ⟨g1, b1, hA1, f0, f1, f2, f3⟩ := HP.out.ps hjl1
      injection hA1 with hA1
      injection hA1 with hA1 hA2
      subst hA1 hA2
      have hof : ofAt l side j = (l[j].y == side) := by unfold ofAt; rw [List.getElem?_eq_getElem hjl]
      have hck : ckAt l j = plyC l[j + 1].s l[j + 1].y l[j + 1].z l[j + 1].u := by unfold ckAt; rw [List.getElem?_eq_getElem hjl1]
      have hor : oriAt l m j = (plyL l[j + 1].s l[j + 1].y l[j + 1].z l[j + 1].u).map (originI (m.take (j + 1))) := by unfold oriAt; rw [List.getElem?_eq_getElem hjl1]
      obtain ⟨⟨s1, y1, z1, u1⟩, hcur⟩ : ∃ x, l[j] = x := ⟨_, rfl⟩
      obtain ⟨⟨s2, y2, z2, u2⟩, hnx⟩ : ∃ x, l[j + 1] = x := ⟨_, rfl⟩
      rw [hcur] at d1 hof
      rw [hnx] at f0 f1 f2 f3 hck hor
      simp only at d1 hof f0 f1 f2 f3 hck hor
      have e1 := (hB.cell (p := ⟨g, b + j * 4 + 1, none⟩) (cell_lt d1)).trans d1
      obtain ⟨jn, hjn⟩ : ∃ jn, j + 1 = jn := ⟨_, rfl⟩
      rw [hjn] at f0 f1 f2 f3
      have k0 := (hB.cell (p := ⟨g, b + jn * 4, none⟩) (cell_lt f0)).trans f0
      have k1 := (hB.cell (p := ⟨g, b + jn * 4 + 1, none⟩) (cell_lt f1)).trans f1
      have k2 := (hB.cell (p := ⟨g, b + jn * 4 + 2, none⟩) (cell_lt f2)).trans f2
      have k3 := (hB.cell (p := ⟨g, b + jn * 4 + 3, none⟩) (cell_lt f3)).trans f3
      have wj : IntKind.i64.wrap ((j : Int) + 1) = (jn : Int) := by rw [IntWalk.i64_in _ (by omega)]; omega
      have wP : IntKind.i64.wrap ((P : Int) + 1) = ((P + 1 : Nat) : Int) := by rw [IntWalk.i64_in _ (by omega)]; rfl
      have wK : IntKind.i64.wrap ((K : Int) + 1) = ((K + 1 : Nat) : Int) := by rw [IntWalk.i64_in _ (by omega)]; rfl
      have jn0 : (0 : Int) ≤ (jn : Int) := by omega
      have jnn : (jn : Int) < (n : Int) := by have := HNA.out; omega
      have jln : (j : Int) < (n : Int) := by have := HNA.out; omega
      have j0 : (0 : Int) ≤ (j : Int) := by omega
      have HJN := Lib.hid hjn
      clear d0 d1 d2 d3 f0 f1 f2 f3 hcur hnx hB hjl hjl1
      by_cases hy : y1 = side
      · have hof2 : ofAt l side j = true := by rw [hof, hy]; simp
        rw [hof2] at hpl hcl hsl
        rw [if_pos rfl] at hpl
        rw [Bool.true_and] at hcl hsl
        have yn : (y1 != side) = false := by rw [hy]; simp
        obtain ⟨ck, hckk⟩ : ∃ ck, plyC s2 y2 z2 u2 = ck := ⟨_, rfl⟩
        obtain ⟨cl, hcll⟩ : ∃ cl, plyL s2 y2 z2 u2 = cl := ⟨_, rfl⟩
        rw [hck, hckk] at hcl hsl
        rw [hcll] at hor
        rw [hor] at hsl
        have hcl9 : cl.length ≤ 90 := by rw [← hcll]; exact plyL_le _ _ _ _
        obtain ⟨cn, hcn⟩ : ∃ cn, cl.length = cn := ⟨_, rfl⟩
        have HOF := Lib.hid (fun W hTW => rcof_is s2 y2 z2 u2 ck cl _ W hTW hckk hcll rfl)
        have HPL := Lib.hid hpl
        have HCL := Lib.hid hcl
        have HSL := Lib.hid hsl
        have HCN := Lib.hid hcn
        clear hpl hcl hsl hof hof2 hck hor hckk hcll hy
        obtain ⟨gC, bC, rfl, -, -⟩ := HM.out.mz (k := j) (by rw [HA.out]; exact hlt)
        have hmt : (m.take jn).length = jn := by rw [List.length_take, HA.out]; have := HJN.out; omega
        have HMT := Lib.hid hmt
        have HRT := Lib.hid (rd_take HM.out jn)
        have jd : (jn : Int) ≤ (d : Int) := by have := HJN.out; omega
        have jd2 : jn ≤ d := by have := HJN.out; omega
        clear hmt
        go_wp2_with fail
        refine (HOF.out _ (HT.out.next HB.out)).mono ?_
        rintro e w3 ⟨A3, cap3, rfl, hr3, hb3⟩
        rw [HCN.out]
        have hal : Below w3.heap.size w3 (w3.alloc (.cells #[.bool ck, .slice A3 cn cap3] 168)) := below_new _ _
        have hb4 := hb3.trans (hal.mono hb3.size)
        have bX : Blk (w3.alloc (.cells #[.bool ck, .slice A3 cn cap3] 168)) w3.heap.size 168 #[.bool ck, .slice A3 cn cap3] := Blk.new _ _ _ rfl
        have HS4 := Lib.hid (HS.out.next hb4)
        have HB4 := Lib.hid (HB.out.trans (hb4.mono HB.out.size))
        have HR4 := Lib.hid (hr3.next hal)
        have HX4 := Lib.hid bX
        obtain ⟨x0, x1⟩ := two_cellsZ bX
        have HNR : Hid (u9.ownBlock ≠ some w3.heap.size) := by
          show _ ≠ _
          obtain ⟨vs0, h0, -⟩ := HS.out
          intro e
          have h1 := (own_geZ h0 e).2
          have h2 := hb3.size
          exact absurd (Nat.lt_of_lt_of_le h1 h2) (Nat.lt_irrefl _)
        clear hr3 hb3 hal hb4 bX k0 k1 k2 k3
        cases ck with
        | true =>
          go_wp2_with fail
          go_roundw
          case rel =>
            refine ⟨j + 1, by omega, by first | go_num | (rw [HJN.out]), by rw [HPL.out]; first | done | rfl | go_num, by rw [HCL.out]; first | done | rfl | go_num, ?_, HB4.out⟩
            have h := HSL.out
            rw [if_neg (by simp)] at h
            rw [h]
            exact HS4.out
          case measure => have := HJN.out; simp [intOf]; omega
        | false =>
          obtain ⟨vs, hrow, hel⟩ := HS4.out
          have hvl : vs.length = ss.length := by have := hrow.1; omega
          obtain ⟨sl, hsl⟩ : ∃ sl, ss.length = sl := ⟨_, rfl⟩
          have hsl9 : sl ≤ j := by rw [← hsl, ← HSS.out]; exact setsL_le _ _ _ _
          rw [hsl] at hrow
          have HROW := Lib.hid hrow
          have HSLL := Lib.hid hsl
          have HEL := Lib.hid hel
          obtain ⟨W4, hW4⟩ : ∃ W4, w3.alloc (.cells #[.bool false, .slice A3 cn cap3] 168) = W4 := ⟨_, rfl⟩
          rw [hW4] at HS4 HB4 HR4 HX4 x0 x1 HROW HEL
          have HW4 := Lib.hid hW4
          have HLM : Hid (sl + 1 ≤ maxLen) := by show _ ≤ _; unfold maxLen; omega
          have HBY : Hid ((sl + 1) * 24 ≤ 140737488355328) := by show _ ≤ _; omega
          have HJ9 : Hid (jn ≤ 1000000) := by show _ ≤ _; have := HJN.out; omega
          have HCN9 : Hid (cn ≤ 1000000) := by show _ ≤ _; have := HCN.out; omega
          have HBS4 : Hid (w.heap.size ≤ W4.heap.size) := HB4.out.size
          have HBW : Hid (Below w.heap.size w W4.drew) := HB4.out.drew
          have hS : W4.drew.cell? ⟨w3.heap.size, 1, none⟩ = some (.slice A3 cn cap3) := x1
          have hsz4 : W4.drew.heap.size = W4.heap.size := rfl
          have HRW : Hid (Rd W4.drew (some ⟨gC, bC, none⟩) (mzL (m.take jn))) := HRT.out.next HBW.out
          have HRX : Hid (Rd W4.drew A3 (cl.map iv)) := HR4.out.next (Below.refl _ _).drew
          have HRO : Hid (W4.drew.ownsRow w.heap.size 152 1 u9 sl vs) := own_next HROW.out (Below.refl _ _).drew
          have HSZ4 := Lib.hid hsz4
          have HCALL := Lib.hid (rorigins_own (some ⟨gC, bC, none⟩) A3 (m.take jn) cl jn cn d cap3 W4.drew HRW.out HMT.out HJ9.out HRX.out HCN.out HCN9.out)
          clear hrow hel hvl hsl hW4 x0 x1 hsz4
          go_wp2_with fail
          (try rw [HW4.out])
          refine wp_region_held_drew (S := fun W => W.cell? ⟨w3.heap.size, 1, none⟩ = some (.slice A3 cn cap3)) (by kernel_rfl) (hS) (fun hHeld => ?_)
          refine wpAnyH_take (i := 0) (oi := { dst := some 47, op := Op.move (Operand.tmp 9), type := 167, pos := "ref.go:82", after := #[], guard := none }) (v := ?_) rfl (by kernel_rfl) (by kernel_rfl) (by kernel_rfl) (fun _ _ _ h => h) (Or.inl ⟨by rfl, ?_⟩) (by assumption) ?_
          case refine_2 =>
            intro w hSw
            (try dsimp only at hSw)
            (try go_simp)
            all_goals (with_reducible rfl)
          (try dsimp only [Act.put]); (try simp only [List.setIfInBounds_toArray, List.set_cons_zero, List.set_cons_succ])
          refine wpAnyH_take (i := 1) (oi := { dst := some 48, op := Op.move (Operand.tmp 1), type := 24, pos := "ref.go:82", after := #[], guard := none }) (v := ?_) rfl (by kernel_rfl) (by kernel_rfl) (by kernel_rfl) (fun _ _ _ h => h) (Or.inl ⟨by rfl, ?_⟩) (by assumption) ?_
          case refine_2 =>
            intro w hSw
            (try dsimp only at hSw)
            (try go_simp)
            all_goals (with_reducible rfl)
          (try dsimp only [Act.put]); (try simp only [List.setIfInBounds_toArray, List.set_cons_zero, List.set_cons_succ])
          refine wpAnyH_take (i := 2) (oi := { dst := some 49, op := Op.move (Operand.tmp 10), type := 3, pos := "ref.go:82", after := #[], guard := none }) (v := ?_) rfl (by kernel_rfl) (by kernel_rfl) (by kernel_rfl) (fun _ _ _ h => h) (Or.inl ⟨by rfl, ?_⟩) (by assumption) ?_
          case refine_2 =>
            intro w hSw
            (try dsimp only at hSw)
            (try go_simp)
            all_goals (with_reducible rfl)
          (try dsimp only [Act.put]); (try simp only [List.setIfInBounds_toArray, List.set_cons_zero, List.set_cons_succ])
          refine wpAnyH_take (i := 3) (oi := { dst := some 50, op := Op.binOp BinOp.add 3 (Operand.tmp 49) (Operand.const (Value.int IntKind.i64 1)) 3, type := 3, pos := "ref.go:82", after := #[{ on := 2, ground := Ground.data }], guard := none }) (v := ?_) rfl (by kernel_rfl) (by kernel_rfl) (by kernel_rfl) (fun _ _ _ h => h) (Or.inl ⟨by rfl, ?_⟩) (by assumption) ?_
          case refine_2 =>
            intro w hSw
            (try dsimp only at hSw)
            (try go_simp)
            all_goals (with_reducible rfl)
          (try dsimp only [Act.put]); (try simp only [List.setIfInBounds_toArray, List.set_cons_zero, List.set_cons_succ])
          refine wpAnyH_take (i := 4) (oi := { dst := some 51, op := Op.slice 24 (Operand.tmp 48) none (some (Operand.tmp 50)) none, type := 24, pos := "ref.go:82", after := #[{ on := 1, ground := Ground.data }, { on := 3, ground := Ground.data }], guard := none }) (v := ?_) rfl (by kernel_rfl) (by kernel_rfl) (by kernel_rfl) (fun _ _ _ h => h) (Or.inl ⟨by rfl, ?_⟩) (by assumption) ?_
          case refine_2 =>
            intro w hSw
            (try dsimp only at hSw)
            (try go_simp)
            all_goals (with_reducible rfl)
          (try dsimp only [Act.put]); (try simp only [List.setIfInBounds_toArray, List.set_cons_zero, List.set_cons_succ])
          refine wpAnyH_take (i := 5) (oi := { dst := some 52, op := Op.fieldAddr 168 (Operand.tmp 11) 1, type := 0, pos := "ref.go:82", after := #[], guard := none }) (v := ?_) rfl (by kernel_rfl) (by kernel_rfl) (by kernel_rfl) (fun _ _ _ h => h) (Or.inl ⟨by rfl, ?_⟩) (by assumption) ?_
          case refine_2 =>
            intro w hSw
            (try dsimp only at hSw)
            (try go_simp)
            all_goals (with_reducible rfl)
          (try dsimp only [Act.put]); (try simp only [List.setIfInBounds_toArray, List.set_cons_zero, List.set_cons_succ])
          refine wpAnyH_take (i := 6) (oi := { dst := some 53, op := Op.load 152 (Operand.tmp 52), type := 152, pos := "ref.go:82", after := #[{ on := 5, ground := Ground.data }], guard := none }) (v := ?_) rfl (by kernel_rfl) (by kernel_rfl) (by kernel_rfl) (fun _ _ _ h => h) (Or.inl ⟨by rfl, ?_⟩) (by assumption) ?_
          case refine_2 =>
            intro w hSw
            (try dsimp only at hSw)
            (try go_simp)
            all_goals (with_reducible rfl)
          (try dsimp only [Act.put]); (try simp only [List.setIfInBounds_toArray, List.set_cons_zero, List.set_cons_succ])
          refine wpAnyH_ready (rs := [7]) (by kernel_rfl) (by simp) (AllReadyH.cons (o := { dst := some 54, op := Op.call { callee := Callee.value (Operand.func 144), args := #[Operand.tmp 51, Operand.tmp 53], argTypes := #[24, 152] }, type := 152, pos := "ref.go:82", after := #[{ on := 4, ground := Ground.data }, { on := 6, ground := Ground.data }], guard := none }) rfl (fun K hK => ?_) AllReadyH.nil)
          go_simp
          refine HCALL.out.mono ?_; rintro e w5 ⟨v5, rfl, ho5, hb5⟩; obtain ⟨A5, c5, rfl, hr5, -⟩ := own_any ho5; have hrow5 := own_next HRO.out hb5; have hw5 : w.heap.size ≤ (w5.alloc (.cells #[.slice A5 cn c5] 152)).heap.size := Nat.le_trans (Nat.le_trans HBS4.out hb5.size) (by rw [World.size_alloc]; exact Nat.le_succ _)
          refine hK.out _ _ ?_ (fun hHeld => ?_)
          · exact (hb5.cell (cell_lt hHeld)).trans hHeld
          clear hK K
          refine wpAnyH_ready (rs := [8]) (by kernel_rfl) (by simp) (AllReadyH.cons (o := { dst := some 55, op := Op.buildSlice 167 1 #[(0, Operand.tmp 54)], type := 167, pos := "ref.go:82", after := #[{ on := 7, ground := Ground.data }], guard := none }) rfl (fun K hK => ?_) AllReadyH.nil)
          go_simp
          refine hK.out _ _ ?_ (fun hHeld => ?_)
          · exact ((below_new w5 _).cell (cell_lt hHeld)).trans hHeld
          clear hK K
          (try dsimp only [Act.put]); (try simp only [List.setIfInBounds_toArray, List.set_cons_zero, List.set_cons_succ])
          refine wpAnyH_ready (rs := [9]) (by kernel_rfl) (by simp) (AllReadyH.cons (o := { dst := some 56, op := Op.call { callee := Callee.builtin Builtin.append, args := #[Operand.tmp 47, Operand.tmp 55], argTypes := #[167, 167] }, type := 167, pos := "ref.go:82", after := #[{ on := 0, ground := Ground.data }, { on := 8, ground := Ground.data }, { on := 7, ground := Ground.chain }], guard := none }) rfl (fun K hK => ?_) AllReadyH.nil)
          refine step_append_lies _ rfl (.tmp 47) (.tmp 55) 167 rfl w.heap.size 152 i1 _ 1 24 Tryz.underlying167 hi1 hz0 hz1 hz2 rfl (by decide) _ sl vs rfl (hrow5.alloc _) ⟨w5.heap.size, 0, none⟩ 1 1 [.slice A5 cn c5] rfl rfl (cell_one_new _ _ _) (by simp [Value.oneCell']) (by decide) HLM.out HBY.out hw5 _ rfl ?_; intro g9 cap9 w6 hown6 hgrow6 hat6 hlt6
          refine hK.out _ _ ?_ (fun hHeld => ?_)
          · exact cell_grown hgrow6 hHeld HNR.out
          clear hK K
          (try dsimp only [Act.put]); (try simp only [List.setIfInBounds_toArray, List.set_cons_zero, List.set_cons_succ])
          refine wpAnyH_take (i := 10) (oi := { dst := some 9, op := Op.assign (Operand.tmp 56), type := 167, pos := "ref.go:82", after := #[{ on := 9, ground := Ground.data }, { on := 9, ground := Ground.chain }, { on := 0, ground := Ground.phase }, { on := 1, ground := Ground.phase }, { on := 2, ground := Ground.phase }, { on := 3, ground := Ground.phase }, { on := 4, ground := Ground.phase }, { on := 5, ground := Ground.phase }, { on := 6, ground := Ground.phase }, { on := 7, ground := Ground.phase }, { on := 8, ground := Ground.phase }, { on := 9, ground := Ground.phase }], guard := none }) (v := ?_) rfl (by kernel_rfl) (by kernel_rfl) (by kernel_rfl) (fun _ _ _ h => h) (Or.inl ⟨by rfl, ?_⟩) (by assumption) ?_
          case refine_2 =>
            intro w hSw
            (try dsimp only at hSw)
            (try go_simp)
            all_goals (with_reducible rfl)
          (try dsimp only [Act.put]); (try simp only [List.setIfInBounds_toArray, List.set_cons_zero, List.set_cons_succ])
          refine wpAnyH_done (by kernel_rfl) ?_ _
          obtain rfl : ss.length = sl := HSLL.out
          have hW5 : Below w.heap.size w w5 := HBW.out.trans (hb5.mono HBS4.out)
          have hW5a : Below w.heap.size w (w5.alloc (.cells #[.slice A5 cn c5] 152)) := hW5.alloc hW5.size _
          have hB6 : Below w.heap.size w w6 := hW5a.grown (row := u9.ownBlock) hgrow6 hW5a.size fun k e => (own_geZ hrow5 e).1
          have hSI : SetsIn w6 w.heap.size (.slice (some ⟨g9, 0, none⟩) (ss.length + 1) cap9) (ss ++ [cl.map (originI (m.take jn))]) := by
            have hln : (cl.map (originI (m.take jn))).length = cn := by rw [List.length_map]; exact HCN.out
            refine sets_app2 (W := w5) (o := .cells #[.slice A5 cn c5] 152) (A := A5) (c := c5) (v := u9) (vs := vs) hrow5 (fun j hj => ?_) rfl hr5 (fun _ ad hA e => ?_) (by rw [hln]; exact hown6) hgrow6 hat6
            · obtain ⟨Aj, cj, h3, h4, h5⟩ := HEL.out j hj
              exact ⟨Aj, cj, h3, h4.next ((Below.refl _ _).drew.trans hb5), h5⟩
            · have h1 := (own_geZ (k := ad.block) ho5 (by rw [hA]; rfl)).1
              have h2 := (own_geZ HRO.out e).2
              exact absurd (Nat.lt_of_lt_of_le h2 h1) (Nat.lt_irrefl _)
          have HSI := Lib.hid hSI
          have HB6 := Lib.hid hB6
          clear hSI hB6 hW5 hW5a hgrow6 hat6 hown6 hrow5 ho5 hr5 hb5 hHeld
          go_wp2_with fail
          go_roundw
          case rel =>
            refine ⟨j + 1, by omega, by first | go_num | (rw [HJN.out]), by rw [HPL.out]; first | done | rfl | go_num, by rw [HCL.out]; first | done | rfl | go_num, ?_, HB6.out⟩
            have h := HSL.out
            rw [if_pos (show (!false) = true from rfl), HJN.out] at h
            rw [HJN.out, h]
            exact HSI.out
          case measure => have := HJN.out; simp [intOf]; omega
      · have hof2 : ofAt l side j = false := by rw [hof, beq_eq_false_iff_ne]; exact hy
        rw [hof2] at hpl hcl hsl
        have yn : (y1 != side) = true := by rw [bne_iff_ne]; exact hy
        have HPL : Hid ((pliesN l side (j + 1)).length = P) := hpl
        have HCL : Hid (((pliesN l side (j + 1)).filter (ckAt l)).length = K) := hcl
        have HSL : Hid (setsL l m side (j + 1) = ss) := hsl
        clear hpl hcl hsl hof hof2 hck hor hy k0 k1 k2 k3
        go_wp2_with fail
        go_roundw
        case rel => exact ⟨j + 1, by omega, by first | go_num | (rw [HJN.out]), by rw [HPL.out], by rw [HCL.out], by rw [HSL.out]; exact HS.out, HB.out⟩
        case measure => have := HJN.out; simp [intOf]; omega
    · obtain rfl : j = a := by omega
      have bj : ¬ (j : Int) < (j : Int) := by omega
      have hr := HR0.out
      unfold classR at hr
      rw [HA.out, HPP.out, HKK.out, HSS.out] at hr
      have HRR := Lib.hid hr
      clear hr hpl hcl hsl
      by_cases hp0 : P = 0
      · have p0 : ((P : Int) == 0) = true := by rw [hp0]; rfl
        have hr0 : r = 0 := by rw [← HRR.out, if_pos hp0]
        subst hr0
        clear hp0
        go_wp2_with fail
        go_ret
        exact ⟨rfl, HB.out⟩
      · have p0 : ((P : Int) == 0) = false := by rw [beq_eq_false_iff_ne]; omega
        by_cases hkp : K = P
        · have kp : ((K : Int) == (P : Int)) = true := by rw [hkp]; simp
          have hr0 : r = 2 := by rw [← HRR.out, if_neg hp0, if_pos hkp]
          subst hr0
          clear hp0 hkp
          go_wp2_with fail
          go_ret
          exact ⟨rfl, HB.out⟩
        · have kp : ((K : Int) == (P : Int)) = false := by rw [beq_eq_false_iff_ne]; omega
          have hr0 : r = if commonB ss then 1 else 0 := by rw [← HRR.out, if_neg hp0, if_neg hkp]
          have hne : ss ≠ [] := fun e => by
            have h1 : ((pliesN l side j).filter fun i => !ckAt l i) = [] := by
              have h2 := HSS.out
              unfold setsL at h2
              rw [e] at h2
              exact List.map_eq_nil_iff.1 h2
            have h3 : ((pliesN l side j).filter (ckAt l)) = pliesN l side j := by
              rw [List.filter_eq_self]
              intro x hx
              cases hc : ckAt l x with
              | true => rfl
              | false =>
                have h4 : x ∈ ((pliesN l side j).filter fun i => !ckAt l i) := List.mem_filter.2 ⟨hx, by rw [hc]; rfl⟩
                rw [h1] at h4
                cases h4
            exact hkp (by rw [← HKK.out, h3, HPP.out])
          obtain ⟨g9, c9, rfl, hat⟩ := HS.out.at hne
          have hl9 : ss.length ≤ j := by rw [← HSS.out]; exact setsL_le _ _ _ _
          have hl0 : 0 < ss.length := by
            cases ss with
            | nil => exact absurd rfl hne
            | cons _ _ => exact Nat.succ_pos _
          have h8 : ∀ x ∈ ss, x.length ≤ 1000 := fun x hx => by
            rw [← HSS.out] at hx
            obtain ⟨i, _, rfl⟩ := List.mem_map.1 hx
            have := oriAt_le l m i
            omega
          obtain ⟨sl, hsl⟩ : ∃ sl, ss.length = sl := ⟨_, rfl⟩
          have HC := Lib.hid (rcommon_some g9 0 sl c9 ss wr hat hsl (by omega) (by omega) h8)
          (try rw [hsl])
          obtain ⟨cb, hcb⟩ : ∃ cb, commonB ss = cb := ⟨_, rfl⟩
          rw [hcb] at HC hr0
          clear hp0 hkp hne hat hl9 hl0 h8 hsl hcb
          cases cb with
          | true =>
            have hr1 : r = 1 := by rw [hr0]; rfl
            subst hr1
            clear hr0
            go_wp2_with fail
            refine HC.out.mono ?_
            rintro e w8 ⟨rfl, hb⟩
            have hb2 := HB.out.trans (hb.mono HB.out.size)
            go_wp2_with fail
            go_ret
            exact ⟨rfl, hb2⟩
          | false =>
            have hr1 : r = 0 := by rw [hr0]; rfl
            subst hr1
            clear hr0
            go_wp2_with fail
            refine HC.out.mono ?_
            rintro e w8 ⟨rfl, hb⟩
            have hb2 := HB.out.trans (hb.mono HB.out.size)
            go_wp2_with fail
            go_ret
            exact ⟨rfl, hb2⟩
end Go.Proofs.YtpogpjebhnoncaaGreatDoor
namespace Go.Proofs.YtpogpjebhnoncaaGreatDoor
open Go.RowKit Go.Shelf
open M (S)
theorem plyL_sq {s : ByteArray} {y z u x : Int} (h : x ∈ plyL s y z u) : 0 ≤ x ∧ x < 90 := by
  unfold plyL at h
  split at h
  · rw [chasedL_map] at h
    obtain ⟨n, hn, rfl⟩ := List.mem_map.1 h
    have := List.mem_range.1 (List.mem_filter.1 hn).1
    omega
  · cases h
theorem oriAt_sq {l : List Ps} {m : List (Int × Int)} (hm : SqM m) {j : Nat} {x : Int} (h : x ∈ oriAt l m j) : 0 ≤ x ∧ x < 90 := by
  unfold oriAt at h
  split at h
  · obtain ⟨n, hn, rfl⟩ := List.mem_map.1 h
    exact origin_in (fun y hy => hm y (List.mem_of_mem_take hy)) (plyL_sq hn)
  · cases h
theorem class_eq {l : List Ps} {m : List (Int × Int)} (hl : l.length = m.length + 1) (hm : SqM m) (side : Int) : classR l m side = classI l m side := by
  by_cases h0 : pliesN l side m.length = []
  · have e1 : classR l m side = 0 := by unfold classR; rw [if_pos (by rw [h0]; rfl)]
    have e2 : classI l m side = 0 := by unfold classI; rw [if_pos (Or.inr h0)]
    rw [e1, e2]
  · have e1 : classR l m side = if ((pliesN l side m.length).filter (ckAt l)).length = (pliesN l side m.length).length then 2 else if commonB (setsL l m side m.length) then 1 else 0 := by
      unfold classR; rw [if_neg (fun e => h0 (List.length_eq_zero_iff.1 e))]
    have e2 : classI l m side = if (pliesN l side m.length).all (ckAt l) then 2 else if keptN l m side m.length ≠ [] then 1 else 0 := by
      unfold classI; rw [if_neg (fun e => e.elim (fun e => e hl) h0)]
    rw [e1, e2]
    clear e1 e2
    by_cases hc : (pliesN l side m.length).all (ckAt l) = true
    · have h1 : (pliesN l side m.length).filter (ckAt l) = pliesN l side m.length := List.filter_eq_self.2 (List.all_eq_true.1 hc)
      rw [if_pos (by rw [h1]), if_pos hc]
    · have hlen : ¬ ((pliesN l side m.length).filter (ckAt l)).length = (pliesN l side m.length).length := fun e =>
        hc (List.all_eq_true.2 (List.filter_eq_self.1 (List.filter_sublist.eq_of_length e)))
      rw [if_neg hlen, if_neg hc]
      have hj : ∃ j, j ∈ pliesN l side m.length ∧ ckAt l j = false := by
        by_cases h : ∃ j, j ∈ pliesN l side m.length ∧ ckAt l j = false
        · exact h
        · exact absurd (List.all_eq_true.2 fun x hx => by
            cases e : ckAt l x with
            | true => rfl
            | false => exact absurd ⟨x, hx, e⟩ h) hc
      have hin : ∀ j, j ∈ pliesN l side m.length → ckAt l j = false → oriAt l m j ∈ setsL l m side m.length := fun j h1 h2 =>
        List.mem_map.2 ⟨j, List.mem_filter.2 ⟨h1, by rw [h2]; rfl⟩, rfl⟩
      have hout : ∀ s, s ∈ setsL l m side m.length → ∃ j, j ∈ pliesN l side m.length ∧ ckAt l j = false ∧ s = oriAt l m j := fun s hs => by
        obtain ⟨j, h1, rfl⟩ := List.mem_map.1 hs
        have h2 := List.mem_filter.1 h1
        exact ⟨j, h2.1, by simpa using h2.2, rfl⟩
      have hpos : 0 < (setsL l m side m.length).length := by
        obtain ⟨j, h1, h2⟩ := hj
        exact List.length_pos_of_mem (hin j h1 h2)
      have hi : commonB (setsL l m side m.length) = true ↔ keptN l m side m.length ≠ [] := by
        rw [common_at hpos, List.any_eq_true]
        constructor
        · rintro ⟨x, hx, hall⟩
          have hall := List.all_eq_true.1 hall
          obtain ⟨j, h1, h2, h3⟩ := hout _ (List.getElem_mem hpos)
          rw [h3] at hx
          have hsq := oriAt_sq hm hx
          have hxn : ((x.toNat : Nat) : Int) = x := Int.toNat_of_nonneg hsq.1
          refine List.ne_nil_of_mem (a := x.toNat) (List.mem_filter.2 ⟨List.mem_range.2 (by omega), List.all_eq_true.2 fun k hk => ?_⟩)
          unfold hasAt
          cases hck : ckAt l k with
          | true => rfl
          | false =>
            rw [hxn]
            exact hall _ (hin k hk hck)
        · intro hk
          obtain ⟨n, hn⟩ := List.exists_mem_of_ne_nil _ hk
          have h5 := List.all_eq_true.1 (List.mem_filter.1 hn).2
          have hc2 : ∀ s, s ∈ setsL l m side m.length → s.contains ((n : Nat) : Int) = true := fun s hs => by
            obtain ⟨j, h1, h2, rfl⟩ := hout s hs
            have h6 := h5 j h1
            unfold hasAt at h6
            rw [h2] at h6
            exact h6
          exact ⟨(n : Int), by simpa using hc2 _ (List.getElem_mem hpos), List.all_eq_true.2 hc2⟩
      by_cases hk : keptN l m side m.length ≠ []
      · rw [if_pos (hi.2 hk), if_pos hk]
      · rw [if_neg (fun e => hk (hi.1 e)), if_neg hk]
theorem SqM.drop {m : List (Int × Int)} (h : SqM m) (k : Nat) : SqM (m.drop k) := fun x hx => h x (List.mem_of_mem_drop hx)
end Go.Proofs.YtpogpjebhnoncaaGreatDoor
namespace Go.Proofs.YtpogpjebhnoncaaGreatDoor
open Go.RowKit Go.Shelf
open M (S)
set_option maxRecDepth 100000 in
theorem rclass_is (c v : Int) (w : World) (h : clampI c = v) : Calls Tryz.prog 142 #[.int .i64 c] w (Gives w (.int .i64 v)) := by
  unfold Gives
  have e : max (min c 2) 0 = v := by
    rw [← h]
    unfold clampI
    omega
  have HE := Lib.hid e
  clear e h
  go_enter Tryz.func142, Tryz.ntmps142
  go_wp2
  go_ret
  exact ⟨by rw [← HE.out]; rfl, Below.refl _ _⟩
set_option maxRecDepth 100000 in
theorem rloses_is (y v k : Int) (w : World) (hy : y = 0 ∨ y = 1) (hk : 2 + y = k) : Calls Tryz.prog 84 #[.int .i64 y, .int .i64 v] w (Gives w (.agg #[.int .i64 k, .int .i64 v])) := by
  unfold Gives
  subst hk
  rcases hy with rfl | rfl
  · go_enter Tryz.func84, Tryz.ntmps84
    go_wp2
    have b1 : Blk (w.alloc (.cells #[.int .i64 2, .int .i64 v] 27)) w.heap.size 27 #[.int .i64 2, .int .i64 v] := Blk.new _ _ _ rfl
    exact bodyPost_ret (v := .agg #[.int .i64 2, .int .i64 v]) (by simp [results, Tryz.results84, go_sem, b1.cell 0, b1.cell 1]) rfl ⟨rfl, (by repeat (first | exact Below.refl _ _ | (refine Below.setCell ?_ (by first | omega | (simp; done) | (simp; omega) | (simp at *; omega)) _) | (refine Below.alloc ?_ (by first | omega | (simp; done) | (simp; omega) | (simp at *; omega)) _) | refine Below.drew ?_ | (refine below_drewN ?_ _) | (refine Below.trans ?_ (Below.mono (by assumption) (by first | omega | (simp; done) | (simp; omega) | (simp at *; omega))))))⟩
  · go_enter Tryz.func84, Tryz.ntmps84
    go_wp2
    have b1 : Blk (w.alloc (.cells #[.int .i64 3, .int .i64 v] 27)) w.heap.size 27 #[.int .i64 3, .int .i64 v] := Blk.new _ _ _ rfl
    exact bodyPost_ret (v := .agg #[.int .i64 3, .int .i64 v]) (by simp [results, Tryz.results84, go_sem, b1.cell 0, b1.cell 1]) rfl ⟨rfl, (by repeat (first | exact Below.refl _ _ | (refine Below.setCell ?_ (by first | omega | (simp; done) | (simp; omega) | (simp at *; omega)) _) | (refine Below.alloc ?_ (by first | omega | (simp; done) | (simp; omega) | (simp at *; omega)) _) | refine Below.drew ?_ | (refine below_drewN ?_ _) | (refine Below.trans ?_ (Below.mono (by assumption) (by first | omega | (simp; done) | (simp; omega) | (simp at *; omega))))))⟩
theorem table_clamp (r b : Int) : tableI r b = tableI (clampI r) (clampI b) := by
  have h : ∀ c, clampI (clampI c) = clampI c := fun c => by unfold clampI; omega
  unfold tableI
  rw [h, h]
set_option maxRecDepth 100000 in
set_option maxHeartbeats 2000000 in
theorem rtable_any (r b : Int) (w : World) : Calls Tryz.prog 86 #[.int .i64 r, .int .i64 b] w (Gives w (.agg #[.int .i64 (tableI r b).1, .int .i64 (tableI r b).2])) := by
  unfold Gives
  rw [table_clamp]
  have b0 : Blk (w.alloc (.cells #[.int .i64 0, .int .i64 0] 27)) w.heap.size 27 #[.int .i64 0, .int .i64 0] := Blk.new _ _ _ rfl
  have hB0 : Below w.heap.size w (w.alloc (.cells #[.int .i64 0, .int .i64 0] 27)) := (Below.refl _ _).alloc (Nat.le_refl _) _
  obtain ⟨cr, hr⟩ : ∃ c, clampI r = c := ⟨_, rfl⟩
  obtain ⟨cb, hb⟩ : ∃ c, clampI b = c := ⟨_, rfl⟩
  have hcr := clamp_range r
  have hcb := clamp_range b
  rw [hr] at hcr
  rw [hb] at hcb
  rw [hr, hb]
  have HR := Lib.hid hr
  have HB := Lib.hid hb
  clear hr hb
  go_enter Tryz.func86, Tryz.ntmps86
  go_wp2_with fail
  refine (rclass_is r cr _ HR.out).mono ?_
  rintro e w1 ⟨rfl, hb1⟩
  go_wp2_with fail
  refine (rclass_is b cb _ HB.out).mono ?_
  rintro e w2 ⟨rfl, hb2⟩
  have hB2 := (hB0.trans (hb1.mono hB0.size)).trans (hb2.mono (hB0.trans (hb1.mono hB0.size)).size)
  have b2 := (b0.next hb1).next hb2
  clear b0 hB0 hb1 hb2 HR HB
  rcases hcr with rfl | rfl | rfl <;> rcases hcb with rfl | rfl | rfl
  · obtain ⟨q0, q1⟩ := two_cells b2
    have f0 := b2.frozen 0
    have f1 := b2.frozen 1
    go_wp2
    have b5 := (b2.set_ 0 (.int .i64 1)).set_ 1 (.int .i64 5)
    exact bodyPost_ret (v := .agg #[.int .i64 1, .int .i64 5]) (by simp [results, Tryz.results86, go_sem, b5.cell 0, b5.cell 1]) rfl ⟨by rfl, (hB2.setCell (p := ⟨w.heap.size, 0, none⟩) (Nat.le_refl _) _).setCell (p := ⟨w.heap.size, 1, none⟩) (Nat.le_refl _) _⟩
  · go_wp2_with fail
    refine (rloses_is 1 4 3 _ (by decide) rfl).mono ?_
    rintro e w4 ⟨rfl, hb4⟩
    have hB4 := hB2.trans (hb4.mono hB2.size)
    have b4 := b2.next hb4
    obtain ⟨q0, q1⟩ := two_cells b4
    have f0 := b4.frozen 0
    have f1 := b4.frozen 1
    go_wp2
    have b5 := (b4.set_ 0 (.int .i64 3)).set_ 1 (.int .i64 4)
    exact bodyPost_ret (v := .agg #[.int .i64 3, .int .i64 4]) (by simp [results, Tryz.results86, go_sem, b5.cell 0, b5.cell 1]) rfl ⟨by rfl, (hB4.setCell (p := ⟨w.heap.size, 0, none⟩) (Nat.le_refl _) _).setCell (p := ⟨w.heap.size, 1, none⟩) (Nat.le_refl _) _⟩
  · go_wp2_with fail
    refine (rloses_is 1 3 3 _ (by decide) rfl).mono ?_
    rintro e w4 ⟨rfl, hb4⟩
    have hB4 := hB2.trans (hb4.mono hB2.size)
    have b4 := b2.next hb4
    obtain ⟨q0, q1⟩ := two_cells b4
    have f0 := b4.frozen 0
    have f1 := b4.frozen 1
    go_wp2
    have b5 := (b4.set_ 0 (.int .i64 3)).set_ 1 (.int .i64 3)
    exact bodyPost_ret (v := .agg #[.int .i64 3, .int .i64 3]) (by simp [results, Tryz.results86, go_sem, b5.cell 0, b5.cell 1]) rfl ⟨by rfl, (hB4.setCell (p := ⟨w.heap.size, 0, none⟩) (Nat.le_refl _) _).setCell (p := ⟨w.heap.size, 1, none⟩) (Nat.le_refl _) _⟩
  · go_wp2_with fail
    refine (rloses_is 0 4 2 _ (by decide) rfl).mono ?_
    rintro e w4 ⟨rfl, hb4⟩
    have hB4 := hB2.trans (hb4.mono hB2.size)
    have b4 := b2.next hb4
    obtain ⟨q0, q1⟩ := two_cells b4
    have f0 := b4.frozen 0
    have f1 := b4.frozen 1
    go_wp2
    have b5 := (b4.set_ 0 (.int .i64 2)).set_ 1 (.int .i64 4)
    exact bodyPost_ret (v := .agg #[.int .i64 2, .int .i64 4]) (by simp [results, Tryz.results86, go_sem, b5.cell 0, b5.cell 1]) rfl ⟨by rfl, (hB4.setCell (p := ⟨w.heap.size, 0, none⟩) (Nat.le_refl _) _).setCell (p := ⟨w.heap.size, 1, none⟩) (Nat.le_refl _) _⟩
  · obtain ⟨q0, q1⟩ := two_cells b2
    have f0 := b2.frozen 0
    have f1 := b2.frozen 1
    go_wp2
    have b5 := (b2.set_ 0 (.int .i64 1)).set_ 1 (.int .i64 5)
    exact bodyPost_ret (v := .agg #[.int .i64 1, .int .i64 5]) (by simp [results, Tryz.results86, go_sem, b5.cell 0, b5.cell 1]) rfl ⟨by rfl, (hB2.setCell (p := ⟨w.heap.size, 0, none⟩) (Nat.le_refl _) _).setCell (p := ⟨w.heap.size, 1, none⟩) (Nat.le_refl _) _⟩
  · go_wp2_with fail
    refine (rloses_is 1 3 3 _ (by decide) rfl).mono ?_
    rintro e w4 ⟨rfl, hb4⟩
    have hB4 := hB2.trans (hb4.mono hB2.size)
    have b4 := b2.next hb4
    obtain ⟨q0, q1⟩ := two_cells b4
    have f0 := b4.frozen 0
    have f1 := b4.frozen 1
    go_wp2
    have b5 := (b4.set_ 0 (.int .i64 3)).set_ 1 (.int .i64 3)
    exact bodyPost_ret (v := .agg #[.int .i64 3, .int .i64 3]) (by simp [results, Tryz.results86, go_sem, b5.cell 0, b5.cell 1]) rfl ⟨by rfl, (hB4.setCell (p := ⟨w.heap.size, 0, none⟩) (Nat.le_refl _) _).setCell (p := ⟨w.heap.size, 1, none⟩) (Nat.le_refl _) _⟩
  · go_wp2_with fail
    refine (rloses_is 0 3 2 _ (by decide) rfl).mono ?_
    rintro e w4 ⟨rfl, hb4⟩
    have hB4 := hB2.trans (hb4.mono hB2.size)
    have b4 := b2.next hb4
    obtain ⟨q0, q1⟩ := two_cells b4
    have f0 := b4.frozen 0
    have f1 := b4.frozen 1
    go_wp2
    have b5 := (b4.set_ 0 (.int .i64 2)).set_ 1 (.int .i64 3)
    exact bodyPost_ret (v := .agg #[.int .i64 2, .int .i64 3]) (by simp [results, Tryz.results86, go_sem, b5.cell 0, b5.cell 1]) rfl ⟨by rfl, (hB4.setCell (p := ⟨w.heap.size, 0, none⟩) (Nat.le_refl _) _).setCell (p := ⟨w.heap.size, 1, none⟩) (Nat.le_refl _) _⟩
  · go_wp2_with fail
    refine (rloses_is 0 3 2 _ (by decide) rfl).mono ?_
    rintro e w4 ⟨rfl, hb4⟩
    have hB4 := hB2.trans (hb4.mono hB2.size)
    have b4 := b2.next hb4
    obtain ⟨q0, q1⟩ := two_cells b4
    have f0 := b4.frozen 0
    have f1 := b4.frozen 1
    go_wp2
    have b5 := (b4.set_ 0 (.int .i64 2)).set_ 1 (.int .i64 3)
    exact bodyPost_ret (v := .agg #[.int .i64 2, .int .i64 3]) (by simp [results, Tryz.results86, go_sem, b5.cell 0, b5.cell 1]) rfl ⟨by rfl, (hB4.setCell (p := ⟨w.heap.size, 0, none⟩) (Nat.le_refl _) _).setCell (p := ⟨w.heap.size, 1, none⟩) (Nat.le_refl _) _⟩
  · obtain ⟨q0, q1⟩ := two_cells b2
    have f0 := b2.frozen 0
    have f1 := b2.frozen 1
    go_wp2
    have b5 := (b2.set_ 0 (.int .i64 1)).set_ 1 (.int .i64 5)
    exact bodyPost_ret (v := .agg #[.int .i64 1, .int .i64 5]) (by simp [results, Tryz.results86, go_sem, b5.cell 0, b5.cell 1]) rfl ⟨by rfl, (hB2.setCell (p := ⟨w.heap.size, 0, none⟩) (Nat.le_refl _) _).setCell (p := ⟨w.heap.size, 1, none⟩) (Nat.le_refl _) _⟩
end Go.Proofs.YtpogpjebhnoncaaGreatDoor
namespace Go.Proofs.YtpogpjebhnoncaaGreatDoor
open Go.RowKit Go.Shelf
open M (S)
theorem rclassI (g b : Nat) (C : Option Addr) (l : List Ps) (m : List (Int × Int)) (side v : Int) (n c a d : Nat) (w : World) (hT : Tab w) (hp : Rd w (some ⟨g, b, none⟩) (psL l)) (hl : l.length = n) (hm : Rd w C (mzL m)) (ha : m.length = a) (hna : n = a + 1) (ha9 : a ≤ 1024) (had : a ≤ d) (hsq : SqM m) (hv : classI l m side = v) :
    Calls Tryz.prog 87 #[.slice (some ⟨g, b, none⟩) n c, .slice C a d, .int .i64 side] w (Gives w (.int .i64 v)) := by
  have h := rclass_some g b C l m side n c a d w hT hp hl hm ha hna ha9 had
  rw [class_eq (by omega) hsq side, hv] at h
  exact h
set_option maxRecDepth 100000 in
set_option maxHeartbeats 2000000 in
theorem rlast_no (A C : Option Addr) (n c a d : Nat) (w : World) (h : n ≠ a + 1) (ha : a ≤ 1000000) : Calls Tryz.prog 39 #[.slice A n c, .slice C a d] w (Gives w (.agg #[.int .i64 0, .int .i64 0])) := by
  unfold Gives
  have e : ((n : Int) != (a : Int) + 1) = true := by rw [bne_iff_ne]; omega
  have wa : IntKind.i64.wrap ((a : Int) + 1) = (a : Int) + 1 := by rw [IntKind.wrap_i64]; omega
  clear h
  go_enter Tryz.func39, Tryz.ntmps39
  go_wp2
  have b1 : Blk (w.alloc (.cells #[.int .i64 0, .int .i64 0] 27)) w.heap.size 27 #[.int .i64 0, .int .i64 0] := Blk.new _ _ _ rfl
  exact bodyPost_ret (v := .agg #[.int .i64 0, .int .i64 0]) (by simp [results, Tryz.results39, go_sem, b1.cell 0, b1.cell 1]) rfl ⟨rfl, (by repeat (first | exact Below.refl _ _ | (refine Below.setCell ?_ (by first | omega | (simp; done) | (simp; omega) | (simp at *; omega)) _) | (refine Below.alloc ?_ (by first | omega | (simp; done) | (simp; omega) | (simp at *; omega)) _) | refine Below.drew ?_ | (refine below_drewN ?_ _) | (refine Below.trans ?_ (Below.mono (by assumption) (by first | omega | (simp; done) | (simp; omega) | (simp at *; omega))))))⟩
set_option maxRecDepth 100000 in
set_option maxHeartbeats 2000000 in
theorem rlast_go (g b : Nat) (C : Option Addr) (l : List Ps) (m : List (Int × Int)) (n c a d : Nat) (w : World) (hT : Tab w) (hp : Rd w (some ⟨g, b, none⟩) (psL l)) (hl : l.length = n) (hm : Rd w C (mzL m)) (ha : m.length = a) (hn : n = a + 1) (ha9 : a ≤ 1024) (hsq : SqM m) (hnc : n ≤ c) (had : a ≤ d) :
    Calls Tryz.prog 39 #[.slice (some ⟨g, b, none⟩) n c, .slice C a d] w (Gives w (.agg #[.int .i64 (lastI l m).1, .int .i64 (lastI l m).2])) := by
  unfold Gives
  have e : ((n : Int) != (a : Int) + 1) = false := by rw [bne_eq_false_iff_eq]; omega
  have wn : IntKind.i64.wrap ((n : Int) - 1) = (a : Int) := by rw [IntWalk.i64_in _ (by omega)]; omega
  have wa : IntKind.i64.wrap ((a : Int) + 1) = (a : Int) + 1 := by rw [IntKind.wrap_i64]; omega
  have bn : (a : Int) < (n : Int) := by omega
  have HN := Lib.hid hn
  have HQ := Lib.hid hsq
  clear hsq
  have hal : a < l.length := by omega
  obtain ⟨_, _, eA, d0, d1, d2, d3⟩ := hp.ps hal
  cases eA
  obtain ⟨p, hpp⟩ : ∃ p, l[a]'hal = p := ⟨_, rfl⟩
  rw [hpp] at d0 d1 d2 d3
  have HV : Hid (lastI l m = lastOf l m p) := last_of (by omega) (by rw [ha, ← hpp]; exact List.getElem?_eq_getElem _)
  obtain ⟨s, y, z, u⟩ := p
  obtain ⟨en, hen⟩ : ∃ k, endV s y z u = k := ⟨_, rfl⟩
  have HEN := Lib.hid hen
  have HP := Lib.hid hp
  have HM := Lib.hid hm
  have HL := Lib.hid hl
  have HA := Lib.hid ha
  have hbn := below_new w (.cells #[.int .i64 0, .int .i64 0] 27)
  have c0 := (hbn.cell (p := ⟨g, b + a * 4, none⟩) (cell_lt d0)).trans d0
  have c1 := (hbn.cell (p := ⟨g, b + a * 4 + 1, none⟩) (cell_lt d1)).trans d1
  have c2 := (hbn.cell (p := ⟨g, b + a * 4 + 2, none⟩) (cell_lt d2)).trans d2
  have c3 := (hbn.cell (p := ⟨g, b + a * 4 + 3, none⟩) (cell_lt d3)).trans d3
  obtain ⟨W0, hW0⟩ : ∃ W0, (w.alloc (.cells #[.int .i64 0, .int .i64 0] 27)).alloc (.cells #[.string s, .int .i64 y, .int .i64 z, .int .i64 u] 23) = W0 := ⟨_, rfl⟩
  have hB0 : Below w.heap.size w W0 := by rw [← hW0]; exact (by repeat (first | exact Below.refl _ _ | (refine Below.setCell ?_ (by first | omega | (simp; done) | (simp; omega) | (simp at *; omega)) _) | (refine Below.alloc ?_ (by first | omega | (simp; done) | (simp; omega) | (simp at *; omega)) _) | refine Below.drew ?_ | (refine below_drewN ?_ _) | (refine Below.trans ?_ (Below.mono (by assumption) (by first | omega | (simp; done) | (simp; omega) | (simp at *; omega))))))
  have bV : Blk W0 w.heap.size 27 #[.int .i64 0, .int .i64 0] := by rw [← hW0]; exact (Blk.new _ _ _ rfl).alloc _
  have bP : Blk W0 (w.heap.size + 1) 23 #[.string s, .int .i64 y, .int .i64 z, .int .i64 u] := by rw [← hW0]; exact Blk.new _ _ _ (by simp)
  obtain ⟨p0, p1, p2, p3⟩ := four_cells bP
  have HW := Lib.hid hW0
  clear hp hm hl ha hn hpp hen d0 d1 d2 d3 hbn hW0
  go_enter Tryz.func39, Tryz.ntmps39
  go_wp2_with fail
  rw [HW.out]
  clear c0 c1 c2 c3
  refine (rend_is s y z u en _ HEN.out).mono ?_
  rintro e w1 ⟨rfl, hb1⟩
  have hB1 := hB0.trans (hb1.mono hB0.size)
  have hT1 := hT.below hB1 hT.lt
  have bV1 := bV.next hb1
  have bP1 := bP.next hb1
  clear p0 p1 p2 p3 bV bP hB0 hb1
  obtain ⟨p0, p1, p2, p3⟩ := four_cells bP1
  by_cases h0 : en = 0
  · subst h0
    have HR0 : Hid (lastI l m = if 0 ≤ earlierI l then tableI (classI (l.drop (earlierI l).toNat) (m.drop (earlierI l).toNat) 0) (classI (l.drop (earlierI l).toNat) (m.drop (earlierI l).toNat) 1) else if z = 120 then (1, 6) else (0, 0)) := by
      show _ = _
      rw [HV.out]
      unfold lastOf
      show (if endV s y z u ≠ 0 then _ else _) = _
      rw [HEN.out, if_neg (by simp)]
    have hEc : (∃ i : Nat, i < a ∧ earlierI l = (i : Int)) ∨ earlierI l = -1 := by
      rcases first_cases (fun i => sameAt l i (l.length - 1)) (l.length - 1) with ⟨i, hi, _, _, e⟩ | ⟨_, e⟩
      · exact .inl ⟨i, by have := HL.out; have := HN.out; omega, e⟩
      · exact .inr e
    clear HV HEN
    rcases hEc with ⟨i, hi, he⟩ | he
    · have HE := Lib.hid he
      obtain ⟨gC, bC, rfl, -, -⟩ := HM.out.mz (k := 0) (by have := HA.out; omega)
      obtain ⟨v0, hv0⟩ : ∃ v, classI (l.drop i) (m.drop i) 0 = v := ⟨_, rfl⟩
      obtain ⟨v1, hv1⟩ : ∃ v, classI (l.drop i) (m.drop i) 1 = v := ⟨_, rfl⟩
      have HC0 := Lib.hid hv0
      have HC1 := Lib.hid hv1
      have HR : Hid (lastI l m = tableI v0 v1) := by
        show _ = _
        rw [HR0.out, he, if_pos (by omega), Int.toNat_natCast, hv0, hv1]
      have hld : (l.drop i).length = n - i := by rw [List.length_drop, HL.out]
      have hmd : (m.drop i).length = a - i := by rw [List.length_drop, HA.out]
      have HLD := Lib.hid hld
      have HMD := Lib.hid hmd
      have HPD : Hid (Rd w (some ⟨g, b + i * 4, none⟩) (psL (l.drop i))) := by show Rd _ _ _; rw [psL_drop]; exact rd_drop HP.out
      have HMM : Hid (Rd w (some ⟨gC, bC + i * 2, none⟩) (mzL (m.drop i))) := by show Rd _ _ _; rw [mzL_drop]; exact rd_drop HM.out
      have hi0 : (0 : Int) ≤ (i : Int) := by omega
      have hi1 : (i : Int) ≤ (n : Int) := by have := HN.out; omega
      have hi2 : (i : Int) ≤ (a : Int) := by omega
      have hi3 : (i : Int) ≤ (a : Int) + 1 := by omega
      have hi5 : i ≤ n := by have := HN.out; omega
      have hi4 : i ≤ a := by omega
      have nci : ¬ c = i := by have := HN.out; omega
      have ndi : ¬ d = i := by omega
      have HSL : Hid (n - i = a - i + 1 ∧ a - i ≤ 1024 ∧ a - i ≤ d - i) := ⟨by have := HN.out; omega, by omega, by omega⟩
      have HQD := Lib.hid (HQ.out.drop i)
      clear hv0 hv1 HR0 hld hmd
      go_wp2_with fail
      refine (rearlier_any _ l n c _ (HP.out.next hB1) HL.out (by have := HN.out; omega)).mono ?_
      rintro e w2 ⟨rfl, hb2⟩
      rw [HE.out]
      have hB2 := hB1.trans (hb2.mono hB1.size)
      have hT2 := hT.below hB2 hT.lt
      have bV2 := bV1.next hb2
      have bP2 := bP1.next hb2
      clear p0 p1 p2 p3 bV1 bP1 hB1 hb2
      have hb0 : Below w2.heap.size w2 w2.drew := (Below.refl _ _).drew
      have HB2 := Lib.hid hB2
      have HT2 := Lib.hid hT2
      have HBV := Lib.hid bV2
      clear hB2 hT2 bV2 bP2
      go_wp2_with fail
      have HB0 := Lib.hid hb0
      clear hb0
      go_region_with ((first
        | (go_at_call 87; first
          | (refine (rclassI _ _ _ _ _ 1 v1 _ _ _ _ w3 (HT2.out.next HB3.out) ((HPD.out.next HB2.out).next HB3.out) HLD.out ((HMM.out.next HB2.out).next HB3.out) HMD.out HSL.out.1 HSL.out.2.1 HSL.out.2.2 HQD.out HC1.out).mono ?_; rintro e w4 ⟨rfl, hb4⟩; have HB4 := Lib.hid (HB3.out.trans (hb4.mono HB3.out.size)); clear hb4)
          | (refine (rclassI _ _ _ _ _ 0 v0 _ _ _ _ w2.drew (HT2.out.next HB0.out) ((HPD.out.next HB2.out).next HB0.out) HLD.out ((HMM.out.next HB2.out).next HB0.out) HMD.out HSL.out.1 HSL.out.2.1 HSL.out.2.2 HQD.out HC0.out).mono ?_; rintro e w3 ⟨rfl, hb3⟩; have HB3 := Lib.hid (HB0.out.trans (hb3.mono HB0.out.size)); clear hb3))
        | (go_at_call 86; refine (rtable_any v0 v1 w4).mono ?_; rintro e w5 ⟨rfl, hb5⟩; have HB5 := Lib.hid (HB4.out.trans (hb5.mono HB4.out.size)); have HBV5 := Lib.hid (HBV.out.next HB5.out); obtain ⟨q0, q1⟩ := two_cells HBV5.out; have f0 := HBV5.out.frozen 0; have f1 := HBV5.out.frozen 1; clear hb5)))
      go_wp2
      obtain ⟨bE, hE⟩ := verdict_end HBV5.out (HB2.out.trans (HB5.out.mono HB2.out.size)) (tableI v0 v1).1 (tableI v0 v1).2
      exact bodyPost_ret (v := .agg #[.int .i64 (tableI v0 v1).1, .int .i64 (tableI v0 v1).2]) (by simp [results, Tryz.results39, go_sem, bE.cell 0, bE.cell 1]) rfl ⟨by rw [HR.out], hE⟩
    · have HE := Lib.hid he
      have HR : Hid (lastI l m = if z = 120 then (1, 6) else (0, 0)) := by
        show _ = _
        rw [HR0.out, he, if_neg (by decide)]
      clear HR0 he
      go_wp2_with fail
      refine (rearlier_any _ l n c _ (HP.out.next hB1) HL.out (by have := HN.out; omega)).mono ?_
      rintro e w2 ⟨rfl, hb2⟩
      rw [HE.out]
      have hB2 := hB1.trans (hb2.mono hB1.size)
      have bV2 := bV1.next hb2
      have bP2 := bP1.next hb2
      clear p0 p1 p2 p3 bV1 bP1 hB1 hb2
      obtain ⟨p0, p1, p2, p3⟩ := four_cells bP2
      obtain ⟨q0, q1⟩ := two_cells bV2
      have f0 := bV2.frozen 0
      have f1 := bV2.frozen 1
      by_cases hz : z = 120
      · have ez : (z == 120) = true := by rw [hz]; rfl
        rw [if_pos hz] at HR
        clear hz
        go_wp2
        obtain ⟨bE, hE⟩ := verdict_end bV2 hB2 1 6
        exact bodyPost_ret (v := .agg #[.int .i64 1, .int .i64 6]) (by simp [results, Tryz.results39, go_sem, bE.cell 0, bE.cell 1]) rfl ⟨by rw [HR.out], hE⟩
      · have ez : (z == 120) = false := by rw [beq_eq_false_iff_ne]; exact hz
        rw [if_neg hz] at HR
        clear hz
        go_wp2
        obtain ⟨bE, hE⟩ := verdict_end bV2 hB2 0 0
        exact bodyPost_ret (v := .agg #[.int .i64 0, .int .i64 0]) (by simp [results, Tryz.results39, go_sem, bE.cell 0, bE.cell 1]) rfl ⟨by rw [HR.out], hE⟩
  · have ne : (en != 0) = true := by rw [bne_iff_ne]; exact h0
    have hw0 : wellN s y z u = 0 := endV_well (by rw [HEN.out]; exact h0)
    have hys : y = 0 ∨ y = 1 := Ps.side (a := ⟨s, y, z, u⟩) hw0
    have HR : Hid (lastI l m = (2 + y, en)) := by
      show _ = _
      rw [HV.out]
      unfold lastOf
      show (if endV s y z u ≠ 0 then _ else _) = _
      rw [HEN.out, if_pos h0]
    clear h0 hw0
    go_wp2_with fail
    refine (rloses_is y en (2 + y) _ hys rfl).mono ?_
    rintro e w2 ⟨rfl, hb2⟩
    have hB2 := hB1.trans (hb2.mono hB1.size)
    have bV2 := bV1.next hb2
    clear p0 p1 p2 p3 bV1 bP1 hB1 hb2
    obtain ⟨q0, q1⟩ := two_cells bV2
    have f0 := bV2.frozen 0
    have f1 := bV2.frozen 1
    go_wp2
    obtain ⟨bE, hE⟩ := verdict_end bV2 hB2 (2 + y) en
    exact bodyPost_ret (v := .agg #[.int .i64 (2 + y), .int .i64 en]) (by simp [results, Tryz.results39, go_sem, bE.cell 0, bE.cell 1]) rfl ⟨by rw [HR.out], hE⟩
theorem rlast_any (A C : Option Addr) (l : List Ps) (m : List (Int × Int)) (n c a d : Nat) (w : World) (hT : Tab w) (hp : Rd w A (psL l)) (hl : l.length = n) (hm : Rd w C (mzL m)) (ha : m.length = a) (ha9 : a ≤ 1024) (hsq : SqM m) (hnc : n ≤ c) (had : a ≤ d) :
    Calls Tryz.prog 39 #[.slice A n c, .slice C a d] w (Gives w (.agg #[.int .i64 (lastI l m).1, .int .i64 (lastI l m).2])) := by
  by_cases h : n = a + 1
  · obtain ⟨g, b, rfl, _⟩ := hp.ps (k := 0) (by omega)
    exact rlast_go g b C l m n c a d w hT hp hl hm ha h ha9 hsq hnc had
  · rw [last_not (by omega)]
    exact rlast_no A C n c a d w h (by omega)
theorem rlast_is (A C : Option Addr) (l : List Ps) (m : List (Int × Int)) (n c a d : Nat) (k r : Int) (w : World) (hT : Tab w) (hp : Rd w A (psL l)) (hl : l.length = n) (hm : Rd w C (mzL m)) (ha : m.length = a) (ha9 : a ≤ 1024) (hsq : SqM m) (hnc : n ≤ c) (had : a ≤ d) (hv : lastI l m = (k, r)) :
    Calls Tryz.prog 39 #[.slice A n c, .slice C a d] w (Gives w (.agg #[.int .i64 k, .int .i64 r])) := by
  have := rlast_any A C l m n c a d w hT hp hl hm ha ha9 hsq hnc had
  rw [hv] at this
  exact this
end Go.Proofs.YtpogpjebhnoncaaGreatDoor
