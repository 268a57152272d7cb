/- What CardJudgePlays needs, part 6: taken together by a program (tools/prune.py). -/
import Derived.Lib.TrailingZeros
import Derived.Test.YtpogpjebhnoncaaGreatDoorRows
import Derived.WalkKit
import Derived.WalkSpells
import Derived.WalkLawsBesides
import Derived.Outline
import Derived.Laws.BitsAllLaws
import Derived.Laws.OwnMore
import Derived.Deep.RegionWith
import Derived.Deep.RegionHeld3
import Derived.Deep.QuietTactic
import Derived.BigQuiet
import Derived.RangeFuncBox
import Derived.RangeFuncCalls
import Derived.RangeFuncLeaves
import Derived.RangeFuncNested
import Derived.Shelf.Abstract
import Derived.OwnWalkIn
import Derived.TacticsInMore
import Derived.LoopNIn
import Derived.LoopIn
import Derived.Maps.AppendAt
import Derived.Lib.Hide
import Derived.Laws.IdiomStrings
import Derived.Laws.EntriesVeiled
import Derived.Lib.Strings
import Derived.Lib.Walk
import Derived.Lib.Bytealg
import Derived.Shelf.Strings.Search1
import Derived.Ground.SlgfProg
import Derived.Shelf.SlicesE.IndexFunc
import Derived.Shelf.SlicesE.DeleteFunc
import Derived.Test.YtpogpjebhnoncaaGreatDoorProg
import Derived.Lib.OwnBridge
import Derived.Lib.SliceRun
import Derived.Deep.LoopGhost
import Derived.Shelf.Small.Strs
import Derived.Shelf.Slices.Turned
import Derived.Deep.AppendLies
import Derived.Deep.RegionHeldLaw
import Derived.Deep.RegionHeld
import Derived.Deep.RegionLaw
import Derived.Test.YtpogpjebhnoncaaGreatDoorCards
import Derived.Test.YtpogpjebhnoncaaGreatDoorTie
import Derived.ProofKit
import Derived.OpenShut
import Derived.Deep.DeepHandedRow
import Derived.Lib.LaidTab
import Derived.Lib.SmallJoins
import Derived.Deep.SlicePairs
import Derived.Test.YtpogpjebhnoncaaGreatDoorJp5
namespace Go.Proofs.YtpogpjebhnoncaaGreatDoor
open Go.RowKit Go.Shelf
open M (S)
theorem asA {α : Type _} (l : List α) (i : Nat) (a : α) : l.toArray.setIfInBounds i a = (l.set i a).toArray := List.setIfInBounds_toArray l i a
theorem asB {α : Type _} {x : α} {xs : List α} {a : α} : (x :: xs).set 0 a = a :: xs := List.set_cons_zero
theorem asC {α : Type _} {x : α} {xs : List α} {i : Nat} {a : α} : (x :: xs).set (i + 1) a = x :: xs.set i a := List.set_cons_succ
theorem tkA {P : Program} {ops : Array Oper} {Q : Exit → Act → World → Prop} {md : Region.Mode} {S : World → Prop} (i : Nat) (oi : Oper) {v : Value} {fuel : Nat} {listed : Array Bool} {a : Act} {w : World} (h : wpAnyH P md ops Q S fuel (listed.setIfInBounds i true) (a.put oi.dst v) w) (hi : ops[i]? = some oi := by rfl) (hy : YieldsIf P ops S oi v a := by
    refine Or.inl ⟨by rfl, ?_⟩
    intro w hSw
    (try dsimp only at hSw)
    (try go_simp)
    all_goals (with_reducible rfl)) (hQ : ∀ c a w, Q (.panic c) (a.put oi.dst v) w → Q (.panic c) a w := by exact fun _ _ _ h => h) (hS : S w := by assumption) (hs : Region.noSelect ops = true := by kernel_rfl) (hf : Region.free md ops listed i = true := by kernel_rfl) (hr : (Region.ready md ops listed).contains i = true := by kernel_rfl) : wpAnyH P md ops Q S (fuel + 1) listed a w := wpAnyH_take hi hs hf hr hQ hy hS h
theorem tkO {P : Program} {ops : Array Oper} {Q : Exit → Act → World → Prop} {md : Region.Mode} {S : World → Prop} (i : Nat) (oi : Oper) {fuel : Nat} {listed : Array Bool} {a : Act} {w : World} (h : wpAnyH P md ops Q S fuel (listed.setIfInBounds i true) (a.put oi.dst undef) w) (hi : ops[i]? = some oi := by rfl) (hy : YieldsIf P ops S oi undef a := by exact Or.inr ⟨by rfl, rfl⟩) (hQ : ∀ c a w, Q (.panic c) (a.put oi.dst undef) w → Q (.panic c) a w := by exact fun _ _ _ h => h) (hS : S w := by assumption) (hs : Region.noSelect ops = true := by kernel_rfl) (hf : Region.free md ops listed i = true := by kernel_rfl) (hr : (Region.ready md ops listed).contains i = true := by kernel_rfl) : wpAnyH P md ops Q S (fuel + 1) listed a w := wpAnyH_take hi hs hf hr hQ hy hS h
set_option maxRecDepth 100000 in
set_option maxHeartbeats 4000000 in
theorem rapply_bad (s : ByteArray) (side clock full a b k : Int) (w : World) (hc : (checkN s side clock full : Int) = k) (h0 : (k != 0) = true) :
    Calls Tryz.prog 66 #[.agg #[.string s, .int .i64 side, .int .i64 clock, .int .i64 full], .agg #[.int .i64 a, .int .i64 b]] w (Gives w (.tuple #[.agg #[.string ⟨#[]⟩, .int .i64 0, .int .i64 0, .int .i64 0], .int .u8 0, .int .i64 k])) := by
  unfold Gives
  obtain ⟨W1, hW1⟩ : ∃ W1, ((w.alloc (.cells #[.string s, .int .i64 side, .int .i64 clock, .int .i64 full] 23)).alloc (.cells #[.int .i64 a, .int .i64 b] 54)).alloc (.cells #[.string ⟨#[]⟩, .int .i64 0, .int .i64 0, .int .i64 0] 23) = W1 := ⟨_, rfl⟩
  obtain ⟨hB, bP, bM, bR⟩ := ap_start hW1
  obtain ⟨p0, p1, p2, p3⟩ := ppos_cells bP
  have HC := Lib.hid hc
  have HW := Lib.hid hW1
  clear hc hW1
  go_enter Tryz.func66, Tryz.ntmps66
  go_wp2_with fail
  rw [HW.out]
  have f0 := ppos_frozen bR
  go_wp2_with fail
  refine (rcheck_is s side clock full k _ HC.out).mono ?_
  rintro e w1 ⟨rfl, hb⟩
  have bR1 := bR.next hb
  obtain ⟨g0, g1, g2, g3⟩ := ppos_cells bR1
  obtain ⟨f0, f1, f2, f3⟩ := ppos_frozen bR1
  go_wp2_with fail
  refine bodyPost_ret (res_pos3 rfl _ _ rfl (mvEnd (bR1) (by omega) (hB.trans (hb.mono hB.size))).1) rfl ⟨rfl, (mvEnd (bR1) (by omega) (hB.trans (hb.mono hB.size))).2⟩
set_option maxRecDepth 100000 in
set_option maxHeartbeats 8000000 in
theorem rapply_a0 (s : ByteArray) (side clock full : Int) (a b : Int) (w : World) (hc : (checkN s side clock full : Int) = 0) (h : a < 0) :
    Calls Tryz.prog 66 #[.agg #[.string s, .int .i64 side, .int .i64 clock, .int .i64 full], .agg #[.int .i64 a, .int .i64 b]] w (Gives w (.tuple #[.agg #[.string ⟨#[]⟩, .int .i64 0, .int .i64 0, .int .i64 0], .int .u8 0, .int .i64 7])) := by
  unfold Gives
  have e0 : decide (a < 0) = true := by simp; omega
  clear h
  obtain ⟨W1, hW1⟩ : ∃ W1, ((w.alloc (.cells #[.string s, .int .i64 side, .int .i64 clock, .int .i64 full] 23)).alloc (.cells #[.int .i64 a, .int .i64 b] 54)).alloc (.cells #[.string ⟨#[]⟩, .int .i64 0, .int .i64 0, .int .i64 0] 23) = W1 := ⟨_, rfl⟩
  obtain ⟨hB, bP, bM, bR⟩ := ap_start hW1
  obtain ⟨p0, p1, p2, p3⟩ := ppos_cells bP
  have HC := Lib.hid hc
  have HW := Lib.hid hW1
  clear hc hW1
  go_enter Tryz.func66, Tryz.ntmps66
  go_wp2_with fail
  rw [HW.out]
  have f0 := ppos_frozen bR
  go_wp2_with fail
  refine (rcheck_is s side clock full 0 _ HC.out).mono ?_
  rintro e w1 ⟨rfl, hb⟩
  have bR1 := bR.next hb
  have bM1 := bM.next hb
  have bP1 := bP.next hb
  have hB1 := hB.trans (hb.mono hB.size)
  obtain ⟨t0, t1, t2, t3⟩ := ppos_cells bP1
  have m0 : w1.cell? ⟨w.heap.size + 1, 0, none⟩ = some (.int .i64 a) := bM1.cell 0
  have m1 : w1.cell? ⟨w.heap.size + 1, 1, none⟩ = some (.int .i64 b) := bM1.cell 1
  obtain ⟨g0, g1, g2, g3⟩ := ppos_cells bR1
  obtain ⟨f0, f1, f2, f3⟩ := ppos_frozen bR1
  go_wp2_with fail
  go_quiet (fail)
  go_wp2_with fail
  refine bodyPost_ret (res_pos3 rfl _ _ rfl (mvEnd (bR1.next (below_drewN (Below.refl _ _) _)) (by omega) (below_drewN hB1 _)).1) rfl ⟨rfl, (mvEnd (bR1.next (below_drewN (Below.refl _ _) _)) (by omega) (below_drewN hB1 _)).2⟩
set_option maxRecDepth 100000 in
set_option maxHeartbeats 8000000 in
theorem rapply_a9 (s : ByteArray) (side clock full : Int) (a b : Int) (w : World) (hc : (checkN s side clock full : Int) = 0) (h0 : 0 ≤ a) (h : 89 < a) :
    Calls Tryz.prog 66 #[.agg #[.string s, .int .i64 side, .int .i64 clock, .int .i64 full], .agg #[.int .i64 a, .int .i64 b]] w (Gives w (.tuple #[.agg #[.string ⟨#[]⟩, .int .i64 0, .int .i64 0, .int .i64 0], .int .u8 0, .int .i64 7])) := by
  unfold Gives
  have e0 : decide (a < 0) = false := by simp; omega
  have e1 : decide (89 < a) = true := by simp; omega
  clear h h0
  obtain ⟨W1, hW1⟩ : ∃ W1, ((w.alloc (.cells #[.string s, .int .i64 side, .int .i64 clock, .int .i64 full] 23)).alloc (.cells #[.int .i64 a, .int .i64 b] 54)).alloc (.cells #[.string ⟨#[]⟩, .int .i64 0, .int .i64 0, .int .i64 0] 23) = W1 := ⟨_, rfl⟩
  obtain ⟨hB, bP, bM, bR⟩ := ap_start hW1
  obtain ⟨p0, p1, p2, p3⟩ := ppos_cells bP
  have HC := Lib.hid hc
  have HW := Lib.hid hW1
  clear hc hW1
  go_enter Tryz.func66, Tryz.ntmps66
  go_wp2_with fail
  rw [HW.out]
  have f0 := ppos_frozen bR
  go_wp2_with fail
  refine (rcheck_is s side clock full 0 _ HC.out).mono ?_
  rintro e w1 ⟨rfl, hb⟩
  have bR1 := bR.next hb
  have bM1 := bM.next hb
  have bP1 := bP.next hb
  have hB1 := hB.trans (hb.mono hB.size)
  obtain ⟨t0, t1, t2, t3⟩ := ppos_cells bP1
  have m0 : w1.cell? ⟨w.heap.size + 1, 0, none⟩ = some (.int .i64 a) := bM1.cell 0
  have m1 : w1.cell? ⟨w.heap.size + 1, 1, none⟩ = some (.int .i64 b) := bM1.cell 1
  obtain ⟨g0, g1, g2, g3⟩ := ppos_cells bR1
  obtain ⟨f0, f1, f2, f3⟩ := ppos_frozen bR1
  go_wp2_with fail
  go_quiet (fail)
  go_wp2_with fail
  refine bodyPost_ret (res_pos3 rfl _ _ rfl (mvEnd (bR1.next (below_drewN (Below.refl _ _) _)) (by omega) (below_drewN hB1 _)).1) rfl ⟨rfl, (mvEnd (bR1.next (below_drewN (Below.refl _ _) _)) (by omega) (below_drewN hB1 _)).2⟩
set_option maxRecDepth 100000 in
set_option maxHeartbeats 8000000 in
theorem rapply_b0 (s : ByteArray) (side clock full : Int) (a b : Int) (w : World) (hc : (checkN s side clock full : Int) = 0) (h0 : 0 ≤ a) (h1 : a ≤ 89) (h : b < 0) :
    Calls Tryz.prog 66 #[.agg #[.string s, .int .i64 side, .int .i64 clock, .int .i64 full], .agg #[.int .i64 a, .int .i64 b]] w (Gives w (.tuple #[.agg #[.string ⟨#[]⟩, .int .i64 0, .int .i64 0, .int .i64 0], .int .u8 0, .int .i64 7])) := by
  unfold Gives
  have e0 : decide (a < 0) = false := by simp; omega
  have e1 : decide (89 < a) = false := by simp; omega
  have e2 : decide (b < 0) = true := by simp; omega
  clear h h0 h1
  obtain ⟨W1, hW1⟩ : ∃ W1, ((w.alloc (.cells #[.string s, .int .i64 side, .int .i64 clock, .int .i64 full] 23)).alloc (.cells #[.int .i64 a, .int .i64 b] 54)).alloc (.cells #[.string ⟨#[]⟩, .int .i64 0, .int .i64 0, .int .i64 0] 23) = W1 := ⟨_, rfl⟩
  obtain ⟨hB, bP, bM, bR⟩ := ap_start hW1
  obtain ⟨p0, p1, p2, p3⟩ := ppos_cells bP
  have HC := Lib.hid hc
  have HW := Lib.hid hW1
  clear hc hW1
  go_enter Tryz.func66, Tryz.ntmps66
  go_wp2_with fail
  rw [HW.out]
  have f0 := ppos_frozen bR
  go_wp2_with fail
  refine (rcheck_is s side clock full 0 _ HC.out).mono ?_
  rintro e w1 ⟨rfl, hb⟩
  have bR1 := bR.next hb
  have bM1 := bM.next hb
  have bP1 := bP.next hb
  have hB1 := hB.trans (hb.mono hB.size)
  obtain ⟨t0, t1, t2, t3⟩ := ppos_cells bP1
  have m0 : w1.cell? ⟨w.heap.size + 1, 0, none⟩ = some (.int .i64 a) := bM1.cell 0
  have m1 : w1.cell? ⟨w.heap.size + 1, 1, none⟩ = some (.int .i64 b) := bM1.cell 1
  obtain ⟨g0, g1, g2, g3⟩ := ppos_cells bR1
  obtain ⟨f0, f1, f2, f3⟩ := ppos_frozen bR1
  go_wp2_with fail
  go_quiet (fail)
  go_wp2_with fail
  refine bodyPost_ret (res_pos3 rfl _ _ rfl (mvEnd (bR1.next (below_drewN (Below.refl _ _) _)) (by omega) (below_drewN hB1 _)).1) rfl ⟨rfl, (mvEnd (bR1.next (below_drewN (Below.refl _ _) _)) (by omega) (below_drewN hB1 _)).2⟩
set_option maxRecDepth 100000 in
set_option maxHeartbeats 8000000 in
theorem rapply_b9 (s : ByteArray) (side clock full : Int) (a b : Int) (w : World) (hc : (checkN s side clock full : Int) = 0) (h0 : 0 ≤ a) (h1 : a ≤ 89) (h2 : 0 ≤ b) (h : 89 < b) :
    Calls Tryz.prog 66 #[.agg #[.string s, .int .i64 side, .int .i64 clock, .int .i64 full], .agg #[.int .i64 a, .int .i64 b]] w (Gives w (.tuple #[.agg #[.string ⟨#[]⟩, .int .i64 0, .int .i64 0, .int .i64 0], .int .u8 0, .int .i64 7])) := by
  unfold Gives
  have e0 : decide (a < 0) = false := by simp; omega
  have e1 : decide (89 < a) = false := by simp; omega
  have e2 : decide (b < 0) = false := by simp; omega
  have e3 : decide (89 < b) = true := by simp; omega
  clear h h0 h1 h2
  obtain ⟨W1, hW1⟩ : ∃ W1, ((w.alloc (.cells #[.string s, .int .i64 side, .int .i64 clock, .int .i64 full] 23)).alloc (.cells #[.int .i64 a, .int .i64 b] 54)).alloc (.cells #[.string ⟨#[]⟩, .int .i64 0, .int .i64 0, .int .i64 0] 23) = W1 := ⟨_, rfl⟩
  obtain ⟨hB, bP, bM, bR⟩ := ap_start hW1
  obtain ⟨p0, p1, p2, p3⟩ := ppos_cells bP
  have HC := Lib.hid hc
  have HW := Lib.hid hW1
  clear hc hW1
  go_enter Tryz.func66, Tryz.ntmps66
  go_wp2_with fail
  rw [HW.out]
  have f0 := ppos_frozen bR
  go_wp2_with fail
  refine (rcheck_is s side clock full 0 _ HC.out).mono ?_
  rintro e w1 ⟨rfl, hb⟩
  have bR1 := bR.next hb
  have bM1 := bM.next hb
  have bP1 := bP.next hb
  have hB1 := hB.trans (hb.mono hB.size)
  obtain ⟨t0, t1, t2, t3⟩ := ppos_cells bP1
  have m0 : w1.cell? ⟨w.heap.size + 1, 0, none⟩ = some (.int .i64 a) := bM1.cell 0
  have m1 : w1.cell? ⟨w.heap.size + 1, 1, none⟩ = some (.int .i64 b) := bM1.cell 1
  obtain ⟨g0, g1, g2, g3⟩ := ppos_cells bR1
  obtain ⟨f0, f1, f2, f3⟩ := ppos_frozen bR1
  go_wp2_with fail
  go_quiet (fail)
  go_wp2_with fail
  refine bodyPost_ret (res_pos3 rfl _ _ rfl (mvEnd (bR1.next (below_drewN (Below.refl _ _) _)) (by omega) (below_drewN hB1 _)).1) rfl ⟨rfl, (mvEnd (bR1.next (below_drewN (Below.refl _ _) _)) (by omega) (below_drewN hB1 _)).2⟩
set_option maxRecDepth 100000 in
set_option maxHeartbeats 8000000 in
theorem rapply_side (s : ByteArray) (side clock full : Int) (a b c x k : Nat) (d : Int) (r : Bool) (w : World) (hc : (checkN s side clock full : Int) = 0) (hs : 90 ≤ s.size) (ha : a < 90) (hb : b < 90) (hca : bAt s a = c) (hxb : bAt s b = x) (hd : sideN c = d) (hr : canB s a b = r) (hk : kindN x = k) (h : (d != side) = true) :
    Calls Tryz.prog 66 #[.agg #[.string s, .int .i64 side, .int .i64 clock, .int .i64 full], .agg #[.int .i64 (a : Int), .int .i64 (b : Int)]] w (Gives w (.tuple #[.agg #[.string ⟨#[]⟩, .int .i64 0, .int .i64 0, .int .i64 0], .int .u8 0, .int .i64 7])) := by
  unfold Gives
  have a0 : (0 : Int) ≤ (a : Int) := by omega
  have b0 : (0 : Int) ≤ (b : Int) := by omega
  have a9 : (a : Int) ≤ 89 := by omega
  have b9 : (b : Int) ≤ 89 := by omega
  have hak : s[a].toNat = c := (bAt_eq s a (by omega)).trans hca
  have hbk : s[b].toNat = x := (bAt_eq s b (by omega)).trans hxb
  have e0 : decide ((a : Int) < 0) = false := by simp
  have e1 : decide (89 < (a : Int)) = false := by simp; omega
  have e2 : decide ((b : Int) < 0) = false := by simp
  have e3 : decide (89 < (b : Int)) = false := by simp; omega
  have a90 : (a : Int) < 90 := by omega
  have b90 : (b : Int) < 90 := by omega
  have asz : (a : Int) < (s.size : Int) := by omega
  have bsz : (b : Int) < (s.size : Int) := by omega
  have HD := Lib.hid hd
  have HR := Lib.hid hr
  have HK := Lib.hid hk
  clear hca hxb hd hr hk
  obtain ⟨W1, hW1⟩ : ∃ W1, ((w.alloc (.cells #[.string s, .int .i64 side, .int .i64 clock, .int .i64 full] 23)).alloc (.cells #[.int .i64 (a : Int), .int .i64 (b : Int)] 54)).alloc (.cells #[.string ⟨#[]⟩, .int .i64 0, .int .i64 0, .int .i64 0] 23) = W1 := ⟨_, rfl⟩
  obtain ⟨hB, bP, bM, bR⟩ := ap_start hW1
  obtain ⟨p0, p1, p2, p3⟩ := ppos_cells bP
  have HC := Lib.hid hc
  have HW := Lib.hid hW1
  clear hc hW1
  go_enter Tryz.func66, Tryz.ntmps66
  go_wp2_with fail
  rw [HW.out]
  have f0 := ppos_frozen bR
  go_wp2_with fail
  refine (rcheck_is s side clock full 0 _ HC.out).mono ?_
  rintro e w1 ⟨rfl, hbw⟩
  have bR1 := bR.next hbw
  have bM1 := bM.next hbw
  have bP1 := bP.next hbw
  have hB1 := hB.trans (hbw.mono hB.size)
  obtain ⟨t0, t1, t2, t3⟩ := ppos_cells bP1
  have m0 : w1.cell? ⟨w.heap.size + 1, 0, none⟩ = some (.int .i64 (a : Int)) := bM1.cell 0
  have m1 : w1.cell? ⟨w.heap.size + 1, 1, none⟩ = some (.int .i64 (b : Int)) := bM1.cell 1
  obtain ⟨g0, g1, g2, g3⟩ := ppos_cells bR1
  obtain ⟨f0, f1, f2, f3⟩ := ppos_frozen bR1
  go_wp2_with fail
  go_quiet ((go_at_call 111; exact Calls.quiet_of_same ((rside_is c d _ HD.out).mono fun e w' (h : Says _ _ e w') => (⟨h.1, h.2.symm⟩ : e = .returned (.int .i64 d) ∧ w' = _))))
  go_wp2_with fail
  refine bodyPost_ret (res_pos3 rfl _ _ rfl (mvEnd (bR1.next (below_drewN (Below.refl _ _) _)) (by omega) (below_drewN hB1 _)).1) rfl ⟨rfl, (mvEnd (bR1.next (below_drewN (Below.refl _ _) _)) (by omega) (below_drewN hB1 _)).2⟩
set_option maxRecDepth 100000 in
set_option maxHeartbeats 8000000 in
theorem rapply_fast (s : ByteArray) (side clock full : Int) (a b c x k : Nat) (d : Int) (r : Bool) (w : World) (hc : (checkN s side clock full : Int) = 0) (hs : 90 ≤ s.size) (ha : a < 90) (hb : b < 90) (hca : bAt s a = c) (hxb : bAt s b = x) (hd : sideN c = d) (hr : canB s a b = r) (hk : kindN x = k) (h : (d != side) = false) (hf : r = false) :
    Calls Tryz.prog 66 #[.agg #[.string s, .int .i64 side, .int .i64 clock, .int .i64 full], .agg #[.int .i64 (a : Int), .int .i64 (b : Int)]] w (Gives w (.tuple #[.agg #[.string ⟨#[]⟩, .int .i64 0, .int .i64 0, .int .i64 0], .int .u8 0, .int .i64 7])) := by
  unfold Gives
  subst hf
  have a0 : (0 : Int) ≤ (a : Int) := by omega
  have b0 : (0 : Int) ≤ (b : Int) := by omega
  have a9 : (a : Int) ≤ 89 := by omega
  have b9 : (b : Int) ≤ 89 := by omega
  have hak : s[a].toNat = c := (bAt_eq s a (by omega)).trans hca
  have hbk : s[b].toNat = x := (bAt_eq s b (by omega)).trans hxb
  have e0 : decide ((a : Int) < 0) = false := by simp
  have e1 : decide (89 < (a : Int)) = false := by simp; omega
  have e2 : decide ((b : Int) < 0) = false := by simp
  have e3 : decide (89 < (b : Int)) = false := by simp; omega
  have a90 : (a : Int) < 90 := by omega
  have b90 : (b : Int) < 90 := by omega
  have asz : (a : Int) < (s.size : Int) := by omega
  have bsz : (b : Int) < (s.size : Int) := by omega
  have HD := Lib.hid hd
  have HR := Lib.hid hr
  have HK := Lib.hid hk
  clear hca hxb hd hr hk
  obtain ⟨W1, hW1⟩ : ∃ W1, ((w.alloc (.cells #[.string s, .int .i64 side, .int .i64 clock, .int .i64 full] 23)).alloc (.cells #[.int .i64 (a : Int), .int .i64 (b : Int)] 54)).alloc (.cells #[.string ⟨#[]⟩, .int .i64 0, .int .i64 0, .int .i64 0] 23) = W1 := ⟨_, rfl⟩
  obtain ⟨hB, bP, bM, bR⟩ := ap_start hW1
  obtain ⟨p0, p1, p2, p3⟩ := ppos_cells bP
  have HC := Lib.hid hc
  have HW := Lib.hid hW1
  clear hc hW1
  go_enter Tryz.func66, Tryz.ntmps66
  go_wp2_with fail
  rw [HW.out]
  have f0 := ppos_frozen bR
  go_wp2_with fail
  refine (rcheck_is s side clock full 0 _ HC.out).mono ?_
  rintro e w1 ⟨rfl, hbw⟩
  have bR1 := bR.next hbw
  have bM1 := bM.next hbw
  have bP1 := bP.next hbw
  have hB1 := hB.trans (hbw.mono hB.size)
  obtain ⟨t0, t1, t2, t3⟩ := ppos_cells bP1
  have m0 : w1.cell? ⟨w.heap.size + 1, 0, none⟩ = some (.int .i64 (a : Int)) := bM1.cell 0
  have m1 : w1.cell? ⟨w.heap.size + 1, 1, none⟩ = some (.int .i64 (b : Int)) := bM1.cell 1
  obtain ⟨g0, g1, g2, g3⟩ := ppos_cells bR1
  obtain ⟨f0, f1, f2, f3⟩ := ppos_frozen bR1
  go_wp2_with fail
  have hS : w1.drew.cell? ⟨w.heap.size, 0, none⟩ = some (.string s) ∧ w1.drew.cell? ⟨w.heap.size, 1, none⟩ = some (.int .i64 side) ∧ w1.drew.cell? ⟨w.heap.size + 1, 0, none⟩ = some (.int .i64 (a : Int)) ∧ w1.drew.cell? ⟨w.heap.size + 1, 1, none⟩ = some (.int .i64 (b : Int)) ∧ Below w.heap.size w w1.drew := ⟨t0, t1, m0, m1, hB1.drew⟩
  have bR2 := bR1.next (Below.refl _ _).drew
  refine wp_region_held_drew (S := fun W => W.cell? ⟨w.heap.size, 0, none⟩ = some (.string s) ∧ W.cell? ⟨w.heap.size, 1, none⟩ = some (.int .i64 side) ∧ W.cell? ⟨w.heap.size + 1, 0, none⟩ = some (.int .i64 (a : Int)) ∧ W.cell? ⟨w.heap.size + 1, 1, none⟩ = some (.int .i64 (b : Int)) ∧ Below w.heap.size w W) (by kernel_rfl) (hS) (fun hHeld => ?_)
  refine tkA 0 ⟨some 16, .fieldAddr 54 (.tmp 3) 0, 0, "ref.go:61", #[], none⟩ ?_
  try simp only [Act.put, asA, asB, asC]
  refine tkA 1 ⟨some 17, .load 3 (.tmp 16), 3, "ref.go:61", #[⟨0, .data⟩], none⟩ ?_
  try simp only [Act.put, asA, asB, asC]
  refine tkA 2 ⟨some 18, .binOp .lss 3 (.tmp 17) (.const (.int .i64 0)) 3, 4, "ref.go:61", #[⟨1, .data⟩], none⟩ ?_
  try simp only [Act.put, asA, asB, asC]
  refine tkA 3 ⟨some 19, .move (.tmp 18), 4, "ref.go:61", #[⟨2, .data⟩], none⟩ ?_
  try simp only [Act.put, asA, asB, asC]
  refine tkA 4 ⟨some 20, .fieldAddr 54 (.tmp 3) 0, 0, "ref.go:61", #[⟨3, .guard⟩], some (3, false)⟩ ?_
  try simp only [Act.put, asA, asB, asC]
  refine tkA 5 ⟨some 21, .load 3 (.tmp 20), 3, "ref.go:61", #[⟨4, .data⟩, ⟨3, .guard⟩], some (3, false)⟩ ?_
  try simp only [Act.put, asA, asB, asC]
  refine tkA 6 ⟨some 22, .binOp .gtr 3 (.tmp 21) (.const (.int .i64 89)) 3, 4, "ref.go:61", #[⟨5, .data⟩, ⟨3, .guard⟩], some (3, false)⟩ ?_
  try simp only [Act.put, asA, asB, asC]
  refine tkA 7 ⟨some 23, .pick (.tmp 19) (.const (.bool true)) (.tmp 22), 4, "ref.go:61", #[⟨3, .data⟩, ⟨6, .data⟩], none⟩ ?_
  try simp only [Act.put, asA, asB, asC]
  refine tkA 8 ⟨some 24, .move (.tmp 23), 4, "ref.go:61", #[⟨7, .data⟩, ⟨3, .chain⟩], none⟩ ?_
  try simp only [Act.put, asA, asB, asC]
  refine tkA 9 ⟨some 25, .fieldAddr 54 (.tmp 3) 1, 0, "ref.go:61", #[⟨8, .guard⟩], some (8, false)⟩ ?_
  try simp only [Act.put, asA, asB, asC]
  refine tkA 10 ⟨some 26, .load 3 (.tmp 25), 3, "ref.go:61", #[⟨9, .data⟩, ⟨8, .guard⟩], some (8, false)⟩ ?_
  try simp only [Act.put, asA, asB, asC]
  refine tkA 11 ⟨some 27, .binOp .lss 3 (.tmp 26) (.const (.int .i64 0)) 3, 4, "ref.go:61", #[⟨10, .data⟩, ⟨8, .guard⟩], some (8, false)⟩ ?_
  try simp only [Act.put, asA, asB, asC]
  refine tkA 12 ⟨some 28, .pick (.tmp 24) (.const (.bool true)) (.tmp 27), 4, "ref.go:61", #[⟨8, .data⟩, ⟨11, .data⟩], none⟩ ?_
  try simp only [Act.put, asA, asB, asC]
  refine tkA 13 ⟨some 29, .move (.tmp 28), 4, "ref.go:61", #[⟨12, .data⟩, ⟨8, .chain⟩], none⟩ ?_
  try simp only [Act.put, asA, asB, asC]
  refine tkA 14 ⟨some 30, .fieldAddr 54 (.tmp 3) 1, 0, "ref.go:61", #[⟨13, .guard⟩], some (13, false)⟩ ?_
  try simp only [Act.put, asA, asB, asC]
  refine tkA 15 ⟨some 31, .load 3 (.tmp 30), 3, "ref.go:61", #[⟨14, .data⟩, ⟨13, .guard⟩], some (13, false)⟩ ?_
  try simp only [Act.put, asA, asB, asC]
  refine tkA 16 ⟨some 32, .binOp .gtr 3 (.tmp 31) (.const (.int .i64 89)) 3, 4, "ref.go:61", #[⟨15, .data⟩, ⟨13, .guard⟩], some (13, false)⟩ ?_
  try simp only [Act.put, asA, asB, asC]
  refine tkA 17 ⟨some 33, .pick (.tmp 29) (.const (.bool true)) (.tmp 32), 4, "ref.go:61", #[⟨13, .data⟩, ⟨16, .data⟩], none⟩ ?_
  try simp only [Act.put, asA, asB, asC]
  refine tkA 18 ⟨some 34, .move (.tmp 33), 4, "ref.go:61", #[⟨17, .data⟩, ⟨13, .chain⟩], none⟩ ?_
  try simp only [Act.put, asA, asB, asC]
  refine tkA 19 ⟨some 35, .fieldAddr 23 (.tmp 2) 0, 0, "ref.go:61", #[⟨18, .guard⟩], some (18, false)⟩ ?_
  try simp only [Act.put, asA, asB, asC]
  refine tkA 20 ⟨some 36, .load 9 (.tmp 35), 9, "ref.go:61", #[⟨19, .data⟩, ⟨18, .guard⟩], some (18, false)⟩ ?_
  try simp only [Act.put, asA, asB, asC]
  refine tkA 21 ⟨some 37, .fieldAddr 54 (.tmp 3) 0, 0, "ref.go:61", #[⟨18, .guard⟩], some (18, false)⟩ ?_
  try simp only [Act.put, asA, asB, asC]
  refine tkA 22 ⟨some 38, .load 3 (.tmp 37), 3, "ref.go:61", #[⟨21, .data⟩, ⟨18, .guard⟩], some (18, false)⟩ ?_
  try simp only [Act.put, asA, asB, asC]
  refine tkA 23 ⟨some 39, .index 9 (.tmp 36) (.tmp 38), 5, "ref.go:61", #[⟨20, .data⟩, ⟨22, .data⟩, ⟨18, .guard⟩], some (18, false)⟩ ?_
  try simp only [Act.put, asA, asB, asC]
  refine tkA 25 ⟨some 41, .fieldAddr 23 (.tmp 2) 1, 0, "ref.go:61", #[⟨18, .guard⟩], some (18, false)⟩ ?_
  try simp only [Act.put, asA, asB, asC]
  refine tkA 26 ⟨some 42, .load 3 (.tmp 41), 3, "ref.go:61", #[⟨25, .data⟩, ⟨18, .guard⟩], some (18, false)⟩ ?_
  try simp only [Act.put, asA, asB, asC]
  refine wpAnyH_ready (rs := [24]) (by kernel_rfl) (by simp) (AllReadyH.cons (o := { dst := some 40, op := Op.call { callee := Callee.value (Operand.func 111), args := #[Operand.tmp 39], argTypes := #[5] }, type := 3, pos := "ref.go:61", after := #[{ on := 23, ground := Ground.data }, { on := 18, ground := Ground.chain }, { on := 18, ground := Ground.guard }], guard := some (18, false) }) rfl (fun K hK => ?_) AllReadyH.nil)
  go_simp
  refine (rside_is c d _ HD.out).mono ?_; rintro e w2 ⟨rfl, rfl⟩
  refine hK.out _ _ ?_ (fun hHeld => ?_)
  · exact hHeld
  clear hK K
  refine tkA 27 ⟨some 43, .binOp .neq 3 (.tmp 40) (.tmp 42) 3, 4, "ref.go:61", #[⟨24, .data⟩, ⟨26, .data⟩, ⟨18, .guard⟩], some (18, false)⟩ ?_
  try simp only [Act.put, asA, asB, asC]
  refine tkA 28 ⟨some 44, .pick (.tmp 34) (.const (.bool true)) (.tmp 43), 4, "ref.go:61", #[⟨18, .data⟩, ⟨27, .data⟩], none⟩ ?_
  try simp only [Act.put, asA, asB, asC]
  refine tkA 29 ⟨some 45, .move (.tmp 44), 4, "ref.go:61", #[⟨28, .data⟩, ⟨24, .chain⟩], none⟩ ?_
  try simp only [Act.put, asA, asB, asC]
  refine tkA 30 ⟨some 46, .fieldAddr 23 (.tmp 2) 0, 0, "ref.go:61", #[⟨29, .guard⟩], some (29, false)⟩ ?_
  try simp only [Act.put, asA, asB, asC]
  refine tkA 31 ⟨some 47, .load 9 (.tmp 46), 9, "ref.go:61", #[⟨30, .data⟩, ⟨29, .guard⟩], some (29, false)⟩ ?_
  try simp only [Act.put, asA, asB, asC]
  refine tkA 32 ⟨some 48, .fieldAddr 54 (.tmp 3) 0, 0, "ref.go:61", #[⟨29, .guard⟩], some (29, false)⟩ ?_
  try simp only [Act.put, asA, asB, asC]
  refine tkA 33 ⟨some 49, .load 3 (.tmp 48), 3, "ref.go:61", #[⟨32, .data⟩, ⟨29, .guard⟩], some (29, false)⟩ ?_
  try simp only [Act.put, asA, asB, asC]
  refine tkA 34 ⟨some 50, .fieldAddr 54 (.tmp 3) 1, 0, "ref.go:61", #[⟨29, .guard⟩], some (29, false)⟩ ?_
  try simp only [Act.put, asA, asB, asC]
  refine tkA 35 ⟨some 51, .load 3 (.tmp 50), 3, "ref.go:61", #[⟨34, .data⟩, ⟨29, .guard⟩], some (29, false)⟩ ?_
  try simp only [Act.put, asA, asB, asC]
  refine wpAnyH_ready (rs := [36]) (by kernel_rfl) (by simp) (AllReadyH.cons (o := { dst := some 52, op := Op.call { callee := Callee.value (Operand.func 112), args := #[Operand.tmp 47, Operand.tmp 49, Operand.tmp 51], argTypes := #[9, 3, 3] }, type := 4, pos := "ref.go:61", after := #[{ on := 31, ground := Ground.data }, { on := 33, ground := Ground.data }, { on := 35, ground := Ground.data }, { on := 29, ground := Ground.chain }, { on := 29, ground := Ground.guard }], guard := some (29, false) }) rfl (fun K hK => ?_) AllReadyH.nil)
  go_simp
  refine (fast_is s a b _ _ hs ha hb HR.out).mono ?_; rintro e w2 ⟨rfl, rfl⟩
  refine hK.out _ _ ?_ (fun hHeld => ?_)
  · exact hHeld
  clear hK K
  refine tkA 37 ⟨some 53, .unOp .not 4 (.tmp 52), 4, "ref.go:61", #[⟨36, .data⟩, ⟨29, .guard⟩], some (29, false)⟩ ?_
  try simp only [Act.put, asA, asB, asC]
  refine tkA 38 ⟨some 54, .pick (.tmp 45) (.const (.bool true)) (.tmp 53), 4, "ref.go:61", #[⟨29, .data⟩, ⟨37, .data⟩], none⟩ ?_
  try simp only [Act.put, asA, asB, asC]
  refine tkA 39 ⟨some 55, .move (.tmp 54), 4, "ref.go:61", #[⟨38, .data⟩, ⟨36, .chain⟩], none⟩ ?_
  try simp only [Act.put, asA, asB, asC]
  refine tkO 40 ⟨some 56, .fieldAddr 23 (.tmp 2) 0, 0, "ref.go:61", #[⟨39, .guard⟩], some (39, false)⟩ ?_
  try simp only [Act.put, asA, asB, asC]
  refine tkO 41 ⟨some 57, .load 9 (.tmp 56), 9, "ref.go:61", #[⟨40, .data⟩, ⟨39, .guard⟩], some (39, false)⟩ ?_
  try simp only [Act.put, asA, asB, asC]
  refine tkO 42 ⟨some 58, .fieldAddr 54 (.tmp 3) 1, 0, "ref.go:61", #[⟨39, .guard⟩], some (39, false)⟩ ?_
  try simp only [Act.put, asA, asB, asC]
  refine tkO 43 ⟨some 59, .load 3 (.tmp 58), 3, "ref.go:61", #[⟨42, .data⟩, ⟨39, .guard⟩], some (39, false)⟩ ?_
  try simp only [Act.put, asA, asB, asC]
  refine tkO 44 ⟨some 60, .index 9 (.tmp 57) (.tmp 59), 5, "ref.go:61", #[⟨41, .data⟩, ⟨43, .data⟩, ⟨39, .guard⟩], some (39, false)⟩ ?_
  try simp only [Act.put, asA, asB, asC]
  refine wpAnyH_ready (rs := [45]) (by kernel_rfl) (by simp) (AllReadyH.cons (o := { dst := some 61, op := Op.call { callee := Callee.value (Operand.func 113), args := #[Operand.tmp 60], argTypes := #[5] }, type := 5, pos := "ref.go:61", after := #[{ on := 44, ground := Ground.data }, { on := 39, ground := Ground.chain }, { on := 39, ground := Ground.guard }], guard := some (39, false) }) rfl (fun K hK => ?_) AllReadyH.nil)
  split
  · rename_i hw
    exact Bool.noConfusion (show false = true from hw)
  refine hK.out _ _ ?_ (fun hHeld => ?_)
  · assumption
  clear hK K
  try simp only [Act.put, asA, asB, asC]
  refine tkO 46 ⟨some 62, .binOp .eql 5 (.tmp 61) (.const (.int .u8 75)) 5, 4, "ref.go:61", #[⟨45, .data⟩, ⟨39, .guard⟩], some (39, false)⟩ ?_
  try simp only [Act.put, asA, asB, asC]
  refine tkA 47 ⟨some 63, .pick (.tmp 55) (.const (.bool true)) (.tmp 62), 4, "ref.go:61", #[⟨39, .data⟩, ⟨46, .data⟩], none⟩ ?_
  try simp only [Act.put, asA, asB, asC]
  refine wpAnyH_done (by kernel_rfl) ?_ _
  go_wp2_with fail
  refine bodyPost_ret (res_pos3 rfl _ _ rfl (mvEnd bR2 (by omega) hB1.drew).1) rfl ⟨rfl, (mvEnd bR2 (by omega) hB1.drew).2⟩
set_option maxRecDepth 100000 in
set_option maxHeartbeats 8000000 in
theorem rapply_king (s : ByteArray) (side clock full : Int) (a b c x k : Nat) (d : Int) (r : Bool) (w : World) (hc : (checkN s side clock full : Int) = 0) (hs : 90 ≤ s.size) (ha : a < 90) (hb : b < 90) (hca : bAt s a = c) (hxb : bAt s b = x) (hd : sideN c = d) (hr : canB s a b = r) (hk : kindN x = k) (h : (d != side) = false) (hf : r = true) (hn : ((k : Int) == 75) = true) :
    Calls Tryz.prog 66 #[.agg #[.string s, .int .i64 side, .int .i64 clock, .int .i64 full], .agg #[.int .i64 (a : Int), .int .i64 (b : Int)]] w (Gives w (.tuple #[.agg #[.string ⟨#[]⟩, .int .i64 0, .int .i64 0, .int .i64 0], .int .u8 0, .int .i64 7])) := by
  unfold Gives
  subst hf
  have a0 : (0 : Int) ≤ (a : Int) := by omega
  have b0 : (0 : Int) ≤ (b : Int) := by omega
  have a9 : (a : Int) ≤ 89 := by omega
  have b9 : (b : Int) ≤ 89 := by omega
  have hak : s[a].toNat = c := (bAt_eq s a (by omega)).trans hca
  have hbk : s[b].toNat = x := (bAt_eq s b (by omega)).trans hxb
  have e0 : decide ((a : Int) < 0) = false := by simp
  have e1 : decide (89 < (a : Int)) = false := by simp; omega
  have e2 : decide ((b : Int) < 0) = false := by simp
  have e3 : decide (89 < (b : Int)) = false := by simp; omega
  have a90 : (a : Int) < 90 := by omega
  have b90 : (b : Int) < 90 := by omega
  have asz : (a : Int) < (s.size : Int) := by omega
  have bsz : (b : Int) < (s.size : Int) := by omega
  have HD := Lib.hid hd
  have HR := Lib.hid hr
  have HK := Lib.hid hk
  clear hca hxb hd hr hk
  obtain ⟨W1, hW1⟩ : ∃ W1, ((w.alloc (.cells #[.string s, .int .i64 side, .int .i64 clock, .int .i64 full] 23)).alloc (.cells #[.int .i64 (a : Int), .int .i64 (b : Int)] 54)).alloc (.cells #[.string ⟨#[]⟩, .int .i64 0, .int .i64 0, .int .i64 0] 23) = W1 := ⟨_, rfl⟩
  obtain ⟨hB, bP, bM, bR⟩ := ap_start hW1
  obtain ⟨p0, p1, p2, p3⟩ := ppos_cells bP
  have HC := Lib.hid hc
  have HW := Lib.hid hW1
  clear hc hW1
  go_enter Tryz.func66, Tryz.ntmps66
  go_wp2_with fail
  rw [HW.out]
  have f0 := ppos_frozen bR
  go_wp2_with fail
  refine (rcheck_is s side clock full 0 _ HC.out).mono ?_
  rintro e w1 ⟨rfl, hbw⟩
  have bR1 := bR.next hbw
  have bM1 := bM.next hbw
  have bP1 := bP.next hbw
  have hB1 := hB.trans (hbw.mono hB.size)
  obtain ⟨t0, t1, t2, t3⟩ := ppos_cells bP1
  have m0 : w1.cell? ⟨w.heap.size + 1, 0, none⟩ = some (.int .i64 (a : Int)) := bM1.cell 0
  have m1 : w1.cell? ⟨w.heap.size + 1, 1, none⟩ = some (.int .i64 (b : Int)) := bM1.cell 1
  obtain ⟨g0, g1, g2, g3⟩ := ppos_cells bR1
  obtain ⟨f0, f1, f2, f3⟩ := ppos_frozen bR1
  go_wp2_with fail
  have hS : w1.drew.cell? ⟨w.heap.size, 0, none⟩ = some (.string s) ∧ w1.drew.cell? ⟨w.heap.size, 1, none⟩ = some (.int .i64 side) ∧ w1.drew.cell? ⟨w.heap.size + 1, 0, none⟩ = some (.int .i64 (a : Int)) ∧ w1.drew.cell? ⟨w.heap.size + 1, 1, none⟩ = some (.int .i64 (b : Int)) ∧ Below w.heap.size w w1.drew := ⟨t0, t1, m0, m1, hB1.drew⟩
  have bR2 := bR1.next (Below.refl _ _).drew
  refine wp_region_held_drew (S := fun W => W.cell? ⟨w.heap.size, 0, none⟩ = some (.string s) ∧ W.cell? ⟨w.heap.size, 1, none⟩ = some (.int .i64 side) ∧ W.cell? ⟨w.heap.size + 1, 0, none⟩ = some (.int .i64 (a : Int)) ∧ W.cell? ⟨w.heap.size + 1, 1, none⟩ = some (.int .i64 (b : Int)) ∧ Below w.heap.size w W) (by kernel_rfl) (hS) (fun hHeld => ?_)
  refine tkA 0 ⟨some 16, .fieldAddr 54 (.tmp 3) 0, 0, "ref.go:61", #[], none⟩ ?_
  try simp only [Act.put, asA, asB, asC]
  refine tkA 1 ⟨some 17, .load 3 (.tmp 16), 3, "ref.go:61", #[⟨0, .data⟩], none⟩ ?_
  try simp only [Act.put, asA, asB, asC]
  refine tkA 2 ⟨some 18, .binOp .lss 3 (.tmp 17) (.const (.int .i64 0)) 3, 4, "ref.go:61", #[⟨1, .data⟩], none⟩ ?_
  try simp only [Act.put, asA, asB, asC]
  refine tkA 3 ⟨some 19, .move (.tmp 18), 4, "ref.go:61", #[⟨2, .data⟩], none⟩ ?_
  try simp only [Act.put, asA, asB, asC]
  refine tkA 4 ⟨some 20, .fieldAddr 54 (.tmp 3) 0, 0, "ref.go:61", #[⟨3, .guard⟩], some (3, false)⟩ ?_
  try simp only [Act.put, asA, asB, asC]
  refine tkA 5 ⟨some 21, .load 3 (.tmp 20), 3, "ref.go:61", #[⟨4, .data⟩, ⟨3, .guard⟩], some (3, false)⟩ ?_
  try simp only [Act.put, asA, asB, asC]
  refine tkA 6 ⟨some 22, .binOp .gtr 3 (.tmp 21) (.const (.int .i64 89)) 3, 4, "ref.go:61", #[⟨5, .data⟩, ⟨3, .guard⟩], some (3, false)⟩ ?_
  try simp only [Act.put, asA, asB, asC]
  refine tkA 7 ⟨some 23, .pick (.tmp 19) (.const (.bool true)) (.tmp 22), 4, "ref.go:61", #[⟨3, .data⟩, ⟨6, .data⟩], none⟩ ?_
  try simp only [Act.put, asA, asB, asC]
  refine tkA 8 ⟨some 24, .move (.tmp 23), 4, "ref.go:61", #[⟨7, .data⟩, ⟨3, .chain⟩], none⟩ ?_
  try simp only [Act.put, asA, asB, asC]
  refine tkA 9 ⟨some 25, .fieldAddr 54 (.tmp 3) 1, 0, "ref.go:61", #[⟨8, .guard⟩], some (8, false)⟩ ?_
  try simp only [Act.put, asA, asB, asC]
  refine tkA 10 ⟨some 26, .load 3 (.tmp 25), 3, "ref.go:61", #[⟨9, .data⟩, ⟨8, .guard⟩], some (8, false)⟩ ?_
  try simp only [Act.put, asA, asB, asC]
  refine tkA 11 ⟨some 27, .binOp .lss 3 (.tmp 26) (.const (.int .i64 0)) 3, 4, "ref.go:61", #[⟨10, .data⟩, ⟨8, .guard⟩], some (8, false)⟩ ?_
  try simp only [Act.put, asA, asB, asC]
  refine tkA 12 ⟨some 28, .pick (.tmp 24) (.const (.bool true)) (.tmp 27), 4, "ref.go:61", #[⟨8, .data⟩, ⟨11, .data⟩], none⟩ ?_
  try simp only [Act.put, asA, asB, asC]
  refine tkA 13 ⟨some 29, .move (.tmp 28), 4, "ref.go:61", #[⟨12, .data⟩, ⟨8, .chain⟩], none⟩ ?_
  try simp only [Act.put, asA, asB, asC]
  refine tkA 14 ⟨some 30, .fieldAddr 54 (.tmp 3) 1, 0, "ref.go:61", #[⟨13, .guard⟩], some (13, false)⟩ ?_
  try simp only [Act.put, asA, asB, asC]
  refine tkA 15 ⟨some 31, .load 3 (.tmp 30), 3, "ref.go:61", #[⟨14, .data⟩, ⟨13, .guard⟩], some (13, false)⟩ ?_
  try simp only [Act.put, asA, asB, asC]
  refine tkA 16 ⟨some 32, .binOp .gtr 3 (.tmp 31) (.const (.int .i64 89)) 3, 4, "ref.go:61", #[⟨15, .data⟩, ⟨13, .guard⟩], some (13, false)⟩ ?_
  try simp only [Act.put, asA, asB, asC]
  refine tkA 17 ⟨some 33, .pick (.tmp 29) (.const (.bool true)) (.tmp 32), 4, "ref.go:61", #[⟨13, .data⟩, ⟨16, .data⟩], none⟩ ?_
  try simp only [Act.put, asA, asB, asC]
  refine tkA 18 ⟨some 34, .move (.tmp 33), 4, "ref.go:61", #[⟨17, .data⟩, ⟨13, .chain⟩], none⟩ ?_
  try simp only [Act.put, asA, asB, asC]
  refine tkA 19 ⟨some 35, .fieldAddr 23 (.tmp 2) 0, 0, "ref.go:61", #[⟨18, .guard⟩], some (18, false)⟩ ?_
  try simp only [Act.put, asA, asB, asC]
  refine tkA 20 ⟨some 36, .load 9 (.tmp 35), 9, "ref.go:61", #[⟨19, .data⟩, ⟨18, .guard⟩], some (18, false)⟩ ?_
  try simp only [Act.put, asA, asB, asC]
  refine tkA 21 ⟨some 37, .fieldAddr 54 (.tmp 3) 0, 0, "ref.go:61", #[⟨18, .guard⟩], some (18, false)⟩ ?_
  try simp only [Act.put, asA, asB, asC]
  refine tkA 22 ⟨some 38, .load 3 (.tmp 37), 3, "ref.go:61", #[⟨21, .data⟩, ⟨18, .guard⟩], some (18, false)⟩ ?_
  try simp only [Act.put, asA, asB, asC]
  refine tkA 23 ⟨some 39, .index 9 (.tmp 36) (.tmp 38), 5, "ref.go:61", #[⟨20, .data⟩, ⟨22, .data⟩, ⟨18, .guard⟩], some (18, false)⟩ ?_
  try simp only [Act.put, asA, asB, asC]
  refine tkA 25 ⟨some 41, .fieldAddr 23 (.tmp 2) 1, 0, "ref.go:61", #[⟨18, .guard⟩], some (18, false)⟩ ?_
  try simp only [Act.put, asA, asB, asC]
  refine tkA 26 ⟨some 42, .load 3 (.tmp 41), 3, "ref.go:61", #[⟨25, .data⟩, ⟨18, .guard⟩], some (18, false)⟩ ?_
  try simp only [Act.put, asA, asB, asC]
  refine wpAnyH_ready (rs := [24]) (by kernel_rfl) (by simp) (AllReadyH.cons (o := { dst := some 40, op := Op.call { callee := Callee.value (Operand.func 111), args := #[Operand.tmp 39], argTypes := #[5] }, type := 3, pos := "ref.go:61", after := #[{ on := 23, ground := Ground.data }, { on := 18, ground := Ground.chain }, { on := 18, ground := Ground.guard }], guard := some (18, false) }) rfl (fun K hK => ?_) AllReadyH.nil)
  go_simp
  refine (rside_is c d _ HD.out).mono ?_; rintro e w2 ⟨rfl, rfl⟩
  refine hK.out _ _ ?_ (fun hHeld => ?_)
  · exact hHeld
  clear hK K
  refine tkA 27 ⟨some 43, .binOp .neq 3 (.tmp 40) (.tmp 42) 3, 4, "ref.go:61", #[⟨24, .data⟩, ⟨26, .data⟩, ⟨18, .guard⟩], some (18, false)⟩ ?_
  try simp only [Act.put, asA, asB, asC]
  refine tkA 28 ⟨some 44, .pick (.tmp 34) (.const (.bool true)) (.tmp 43), 4, "ref.go:61", #[⟨18, .data⟩, ⟨27, .data⟩], none⟩ ?_
  try simp only [Act.put, asA, asB, asC]
  refine tkA 29 ⟨some 45, .move (.tmp 44), 4, "ref.go:61", #[⟨28, .data⟩, ⟨24, .chain⟩], none⟩ ?_
  try simp only [Act.put, asA, asB, asC]
  refine tkA 30 ⟨some 46, .fieldAddr 23 (.tmp 2) 0, 0, "ref.go:61", #[⟨29, .guard⟩], some (29, false)⟩ ?_
  try simp only [Act.put, asA, asB, asC]
  refine tkA 31 ⟨some 47, .load 9 (.tmp 46), 9, "ref.go:61", #[⟨30, .data⟩, ⟨29, .guard⟩], some (29, false)⟩ ?_
  try simp only [Act.put, asA, asB, asC]
  refine tkA 32 ⟨some 48, .fieldAddr 54 (.tmp 3) 0, 0, "ref.go:61", #[⟨29, .guard⟩], some (29, false)⟩ ?_
  try simp only [Act.put, asA, asB, asC]
  refine tkA 33 ⟨some 49, .load 3 (.tmp 48), 3, "ref.go:61", #[⟨32, .data⟩, ⟨29, .guard⟩], some (29, false)⟩ ?_
  try simp only [Act.put, asA, asB, asC]
  refine tkA 34 ⟨some 50, .fieldAddr 54 (.tmp 3) 1, 0, "ref.go:61", #[⟨29, .guard⟩], some (29, false)⟩ ?_
  try simp only [Act.put, asA, asB, asC]
  refine tkA 35 ⟨some 51, .load 3 (.tmp 50), 3, "ref.go:61", #[⟨34, .data⟩, ⟨29, .guard⟩], some (29, false)⟩ ?_
  try simp only [Act.put, asA, asB, asC]
  refine wpAnyH_ready (rs := [36]) (by kernel_rfl) (by simp) (AllReadyH.cons (o := { dst := some 52, op := Op.call { callee := Callee.value (Operand.func 112), args := #[Operand.tmp 47, Operand.tmp 49, Operand.tmp 51], argTypes := #[9, 3, 3] }, type := 4, pos := "ref.go:61", after := #[{ on := 31, ground := Ground.data }, { on := 33, ground := Ground.data }, { on := 35, ground := Ground.data }, { on := 29, ground := Ground.chain }, { on := 29, ground := Ground.guard }], guard := some (29, false) }) rfl (fun K hK => ?_) AllReadyH.nil)
  go_simp
  refine (fast_is s a b _ _ hs ha hb HR.out).mono ?_; rintro e w2 ⟨rfl, rfl⟩
  refine hK.out _ _ ?_ (fun hHeld => ?_)
  · exact hHeld
  clear hK K
  refine tkA 37 ⟨some 53, .unOp .not 4 (.tmp 52), 4, "ref.go:61", #[⟨36, .data⟩, ⟨29, .guard⟩], some (29, false)⟩ ?_
  try simp only [Act.put, asA, asB, asC]
  refine tkA 38 ⟨some 54, .pick (.tmp 45) (.const (.bool true)) (.tmp 53), 4, "ref.go:61", #[⟨29, .data⟩, ⟨37, .data⟩], none⟩ ?_
  try simp only [Act.put, asA, asB, asC]
  refine tkA 39 ⟨some 55, .move (.tmp 54), 4, "ref.go:61", #[⟨38, .data⟩, ⟨36, .chain⟩], none⟩ ?_
  try simp only [Act.put, asA, asB, asC]
  refine tkA 40 ⟨some 56, .fieldAddr 23 (.tmp 2) 0, 0, "ref.go:61", #[⟨39, .guard⟩], some (39, false)⟩ ?_
  try simp only [Act.put, asA, asB, asC]
  refine tkA 41 ⟨some 57, .load 9 (.tmp 56), 9, "ref.go:61", #[⟨40, .data⟩, ⟨39, .guard⟩], some (39, false)⟩ ?_
  try simp only [Act.put, asA, asB, asC]
  refine tkA 42 ⟨some 58, .fieldAddr 54 (.tmp 3) 1, 0, "ref.go:61", #[⟨39, .guard⟩], some (39, false)⟩ ?_
  try simp only [Act.put, asA, asB, asC]
  refine tkA 43 ⟨some 59, .load 3 (.tmp 58), 3, "ref.go:61", #[⟨42, .data⟩, ⟨39, .guard⟩], some (39, false)⟩ ?_
  try simp only [Act.put, asA, asB, asC]
  refine tkA 44 ⟨some 60, .index 9 (.tmp 57) (.tmp 59), 5, "ref.go:61", #[⟨41, .data⟩, ⟨43, .data⟩, ⟨39, .guard⟩], some (39, false)⟩ ?_
  try simp only [Act.put, asA, asB, asC]
  refine wpAnyH_ready (rs := [45]) (by kernel_rfl) (by simp) (AllReadyH.cons (o := { dst := some 61, op := Op.call { callee := Callee.value (Operand.func 113), args := #[Operand.tmp 60], argTypes := #[5] }, type := 5, pos := "ref.go:61", after := #[{ on := 44, ground := Ground.data }, { on := 39, ground := Ground.chain }, { on := 39, ground := Ground.guard }], guard := some (39, false) }) rfl (fun K hK => ?_) AllReadyH.nil)
  go_simp
  refine (rkind_is x k _ HK.out).mono ?_; rintro e w2 ⟨rfl, rfl⟩
  refine hK.out _ _ ?_ (fun hHeld => ?_)
  · exact hHeld
  clear hK K
  refine tkA 46 ⟨some 62, .binOp .eql 5 (.tmp 61) (.const (.int .u8 75)) 5, 4, "ref.go:61", #[⟨45, .data⟩, ⟨39, .guard⟩], some (39, false)⟩ ?_
  try simp only [Act.put, asA, asB, asC]
  refine tkA 47 ⟨some 63, .pick (.tmp 55) (.const (.bool true)) (.tmp 62), 4, "ref.go:61", #[⟨39, .data⟩, ⟨46, .data⟩], none⟩ ?_
  try simp only [Act.put, asA, asB, asC]
  refine wpAnyH_done (by kernel_rfl) ?_ _
  go_wp2_with fail
  refine bodyPost_ret (res_pos3 rfl _ _ rfl (mvEnd bR2 (by omega) hB1.drew).1) rfl ⟨rfl, (mvEnd bR2 (by omega) hB1.drew).2⟩
end Go.Proofs.YtpogpjebhnoncaaGreatDoor
namespace Go.Proofs.YtpogpjebhnoncaaGreatDoor
open Go.RowKit Go.Shelf
open M (S)
abbrev ApS (w : World) (s : ByteArray) (side clock full : Int) (a b : Nat) (W : World) : Prop := W.cell? ⟨w.heap.size, 0, none⟩ = some (.string s) ∧ W.cell? ⟨w.heap.size, 1, none⟩ = some (.int .i64 side) ∧ W.cell? ⟨w.heap.size, 2, none⟩ = some (.int .i64 clock) ∧ W.cell? ⟨w.heap.size, 3, none⟩ = some (.int .i64 full) ∧ W.cell? ⟨w.heap.size + 1, 0, none⟩ = some (.int .i64 (a : Int)) ∧ W.cell? ⟨w.heap.size + 1, 1, none⟩ = some (.int .i64 (b : Int)) ∧ Blk W (w.heap.size + 2) 23 #[.string ⟨#[]⟩, .int .i64 0, .int .i64 0, .int .i64 0] ∧ Below w.heap.size w W
theorem apS_keep {w : World} {s : ByteArray} {side clock full : Int} {a b : Nat} {W W' : World} (h : ApS w s side clock full a b W) (hb : Below W.heap.size W W') : ApS w s side clock full a b W' := by
  obtain ⟨h0, h1, h2, h3, h4, h5, h6, h7⟩ := h
  exact ⟨(hb.cell (p := ⟨w.heap.size, 0, none⟩) (World.block_lt_of_cell? _ _ h0)).trans h0, (hb.cell (p := ⟨w.heap.size, 1, none⟩) (World.block_lt_of_cell? _ _ h1)).trans h1, (hb.cell (p := ⟨w.heap.size, 2, none⟩) (World.block_lt_of_cell? _ _ h2)).trans h2, (hb.cell (p := ⟨w.heap.size, 3, none⟩) (World.block_lt_of_cell? _ _ h3)).trans h3, (hb.cell (p := ⟨w.heap.size + 1, 0, none⟩) (World.block_lt_of_cell? _ _ h4)).trans h4, (hb.cell (p := ⟨w.heap.size + 1, 1, none⟩) (World.block_lt_of_cell? _ _ h5)).trans h5, h6.next hb, h7.trans (hb.mono h7.size)⟩
theorem apS_set {w : World} {s : ByteArray} {side clock full : Int} {a b : Nat} {W X : World} (h : ApS w s side clock full a b W) (hx : ApS w s side clock full a b X) (k : Nat) (u : Value) : ApS w s side clock full a b (W.setCell ⟨X.heap.size, k, none⟩ u) := by
  obtain ⟨h0, h1, h2, h3, h4, h5, h6, h7⟩ := h
  have hlt : w.heap.size + 2 < X.heap.size := hx.2.2.2.2.2.2.1.lt
  have far : ∀ (q i : Nat), q < X.heap.size → (W.setCell ⟨X.heap.size, k, none⟩ u).cell? ⟨q, i, none⟩ = W.cell? ⟨q, i, none⟩ := fun q i hq => World.cell?_setCell_other _ _ _ _ (by intro e; injection e with e1; omega)
  exact ⟨(far _ 0 (by omega)).trans h0, (far _ 1 (by omega)).trans h1, (far _ 2 (by omega)).trans h2, (far _ 3 (by omega)).trans h3, (far _ 0 (by omega)).trans h4, (far _ 1 (by omega)).trans h5, h6.far (p := ⟨X.heap.size, k, none⟩) (by simp only; omega) u, h7.setCell (p := ⟨X.heap.size, k, none⟩) (by simp only; omega) u⟩
theorem with_one {P R : Prop} (h : P) (k : P → R) : R := k h
theorem blk4_drew {W w2 : World} {x : ByteArray} {y z u : Int} {t : TypeId} (hb : Below ((W.alloc (.cells #[.string x, .int .i64 y, .int .i64 z, .int .i64 u] t)).drew).heap.size ((W.alloc (.cells #[.string x, .int .i64 y, .int .i64 z, .int .i64 u] t)).drew) w2) :
    Blk w2 W.heap.size t #[.string x, .int .i64 y, .int .i64 z, .int .i64 u] ∧ (w2.cell? ⟨W.heap.size, 0, none⟩ = some (.string x) ∧ w2.cell? ⟨W.heap.size, 1, none⟩ = some (.int .i64 y) ∧ w2.cell? ⟨W.heap.size, 2, none⟩ = some (.int .i64 z) ∧ w2.cell? ⟨W.heap.size, 3, none⟩ = some (.int .i64 u)) ∧ w2.frozen? ⟨W.heap.size, 0, none⟩ = false ∧ w2.frozen? ⟨W.heap.size, 1, none⟩ = false ∧ w2.frozen? ⟨W.heap.size, 2, none⟩ = false ∧ w2.frozen? ⟨W.heap.size, 3, none⟩ = false := by
  have h1 : Blk w2 W.heap.size t #[.string x, .int .i64 y, .int .i64 z, .int .i64 u] := ((Blk.new W t _ rfl).next (Below.refl _ _).drew).next hb
  exact ⟨h1, ppos_cells h1, ppos_frozen h1⟩
set_option maxRecDepth 100000 in
set_option maxHeartbeats 8000000 in
theorem rapply_good (s : ByteArray) (side clock full : Int) (a b c x k : Nat) (d : Int) (r : Bool) (w : World) (hc : (checkN s side clock full : Int) = 0) (hs : 90 ≤ s.size) (ha : a < 90) (hb : b < 90) (hca : bAt s a = c) (hxb : bAt s b = x) (hd : sideN c = d) (hr : canB s a b = r) (hk : kindN x = k) (h : (d != side) = false) (hf : r = true) (hn : ((k : Int) == 75) = false) (hz : s.size = 90) (hab : a ≠ b) (hside : side = 0 ∨ side = 1) (c0 : 0 ≤ clock) (c1 : clock ≤ 120) (l0 : 1 ≤ full) (l1 : full ≤ 9999) :
    Calls Tryz.prog 66 #[.agg #[.string s, .int .i64 side, .int .i64 clock, .int .i64 full], .agg #[.int .i64 (a : Int), .int .i64 (b : Int)]] w (Gives w (.tuple #[.agg #[.string (movedS s a b c), .int .i64 (1 - side), .int .i64 (clockA s clock b), .int .i64 (fullA side full)], .int .u8 (takenN s b : Nat), .int .i64 0])) := by
  unfold Gives
  subst hf
  have HMV := Lib.hid fun W => rmoved_is s a b c W hz ha hb hab hca
  have a0 : (0 : Int) ≤ (a : Int) := by omega
  have b0 : (0 : Int) ≤ (b : Int) := by omega
  have a9 : (a : Int) ≤ 89 := by omega
  have b9 : (b : Int) ≤ 89 := by omega
  have hak : s[a].toNat = c := (bAt_eq s a (by omega)).trans hca
  have hbk : s[b].toNat = x := (bAt_eq s b (by omega)).trans hxb
  have e0 : decide ((a : Int) < 0) = false := by simp
  have e1 : decide (89 < (a : Int)) = false := by simp; omega
  have e2 : decide ((b : Int) < 0) = false := by simp
  have e3 : decide (89 < (b : Int)) = false := by simp; omega
  have a90 : (a : Int) < 90 := by omega
  have b90 : (b : Int) < 90 := by omega
  have asz : (a : Int) < (s.size : Int) := by omega
  have bsz : (b : Int) < (s.size : Int) := by omega
  have HD := Lib.hid hd
  have HR := Lib.hid hr
  have HK := Lib.hid hk
  have HX := Lib.hid hxb
  clear hca hxb hd hr hk
  obtain ⟨W1, hW1⟩ : ∃ W1, ((w.alloc (.cells #[.string s, .int .i64 side, .int .i64 clock, .int .i64 full] 23)).alloc (.cells #[.int .i64 (a : Int), .int .i64 (b : Int)] 54)).alloc (.cells #[.string ⟨#[]⟩, .int .i64 0, .int .i64 0, .int .i64 0] 23) = W1 := ⟨_, rfl⟩
  obtain ⟨hB, bP, bM, bR⟩ := ap_start hW1
  obtain ⟨p0, p1, p2, p3⟩ := ppos_cells bP
  have HC := Lib.hid hc
  have HW := Lib.hid hW1
  clear hc hW1
  go_enter Tryz.func66, Tryz.ntmps66
  go_wp2_with fail
  rw [HW.out]
  have f0 := ppos_frozen bR
  go_wp2_with fail
  refine (rcheck_is s side clock full 0 _ HC.out).mono ?_
  rintro e w1 ⟨rfl, hbw⟩
  have bR1 := bR.next hbw
  have bM1 := bM.next hbw
  have bP1 := bP.next hbw
  have hB1 := hB.trans (hbw.mono hB.size)
  obtain ⟨t0, t1, t2, t3⟩ := ppos_cells bP1
  have m0 : w1.cell? ⟨w.heap.size + 1, 0, none⟩ = some (.int .i64 (a : Int)) := bM1.cell 0
  have m1 : w1.cell? ⟨w.heap.size + 1, 1, none⟩ = some (.int .i64 (b : Int)) := bM1.cell 1
  obtain ⟨g0, g1, g2, g3⟩ := ppos_cells bR1
  obtain ⟨f0, f1, f2, f3⟩ := ppos_frozen bR1
  go_wp2_with fail
  have hS : w1.drew.cell? ⟨w.heap.size, 0, none⟩ = some (.string s) ∧ w1.drew.cell? ⟨w.heap.size, 1, none⟩ = some (.int .i64 side) ∧ w1.drew.cell? ⟨w.heap.size + 1, 0, none⟩ = some (.int .i64 (a : Int)) ∧ w1.drew.cell? ⟨w.heap.size + 1, 1, none⟩ = some (.int .i64 (b : Int)) ∧ Below w.heap.size w w1.drew := ⟨t0, t1, m0, m1, hB1.drew⟩
  have bR2 := bR1.next (Below.refl _ _).drew
  refine wp_region_held_drew (S := fun W => W.cell? ⟨w.heap.size, 0, none⟩ = some (.string s) ∧ W.cell? ⟨w.heap.size, 1, none⟩ = some (.int .i64 side) ∧ W.cell? ⟨w.heap.size + 1, 0, none⟩ = some (.int .i64 (a : Int)) ∧ W.cell? ⟨w.heap.size + 1, 1, none⟩ = some (.int .i64 (b : Int)) ∧ Below w.heap.size w W) (by kernel_rfl) (hS) (fun hHeld => ?_)
  refine tkA 0 ⟨some 16, .fieldAddr 54 (.tmp 3) 0, 0, "ref.go:61", #[], none⟩ ?_
  try simp only [Act.put, asA, asB, asC]
  refine tkA 1 ⟨some 17, .load 3 (.tmp 16), 3, "ref.go:61", #[⟨0, .data⟩], none⟩ ?_
  try simp only [Act.put, asA, asB, asC]
  refine tkA 2 ⟨some 18, .binOp .lss 3 (.tmp 17) (.const (.int .i64 0)) 3, 4, "ref.go:61", #[⟨1, .data⟩], none⟩ ?_
  try simp only [Act.put, asA, asB, asC]
  refine tkA 3 ⟨some 19, .move (.tmp 18), 4, "ref.go:61", #[⟨2, .data⟩], none⟩ ?_
  try simp only [Act.put, asA, asB, asC]
  refine tkA 4 ⟨some 20, .fieldAddr 54 (.tmp 3) 0, 0, "ref.go:61", #[⟨3, .guard⟩], some (3, false)⟩ ?_
  try simp only [Act.put, asA, asB, asC]
  refine tkA 5 ⟨some 21, .load 3 (.tmp 20), 3, "ref.go:61", #[⟨4, .data⟩, ⟨3, .guard⟩], some (3, false)⟩ ?_
  try simp only [Act.put, asA, asB, asC]
  refine tkA 6 ⟨some 22, .binOp .gtr 3 (.tmp 21) (.const (.int .i64 89)) 3, 4, "ref.go:61", #[⟨5, .data⟩, ⟨3, .guard⟩], some (3, false)⟩ ?_
  try simp only [Act.put, asA, asB, asC]
  refine tkA 7 ⟨some 23, .pick (.tmp 19) (.const (.bool true)) (.tmp 22), 4, "ref.go:61", #[⟨3, .data⟩, ⟨6, .data⟩], none⟩ ?_
  try simp only [Act.put, asA, asB, asC]
  refine tkA 8 ⟨some 24, .move (.tmp 23), 4, "ref.go:61", #[⟨7, .data⟩, ⟨3, .chain⟩], none⟩ ?_
  try simp only [Act.put, asA, asB, asC]
  refine tkA 9 ⟨some 25, .fieldAddr 54 (.tmp 3) 1, 0, "ref.go:61", #[⟨8, .guard⟩], some (8, false)⟩ ?_
  try simp only [Act.put, asA, asB, asC]
  refine tkA 10 ⟨some 26, .load 3 (.tmp 25), 3, "ref.go:61", #[⟨9, .data⟩, ⟨8, .guard⟩], some (8, false)⟩ ?_
  try simp only [Act.put, asA, asB, asC]
  refine tkA 11 ⟨some 27, .binOp .lss 3 (.tmp 26) (.const (.int .i64 0)) 3, 4, "ref.go:61", #[⟨10, .data⟩, ⟨8, .guard⟩], some (8, false)⟩ ?_
  try simp only [Act.put, asA, asB, asC]
  refine tkA 12 ⟨some 28, .pick (.tmp 24) (.const (.bool true)) (.tmp 27), 4, "ref.go:61", #[⟨8, .data⟩, ⟨11, .data⟩], none⟩ ?_
  try simp only [Act.put, asA, asB, asC]
  refine tkA 13 ⟨some 29, .move (.tmp 28), 4, "ref.go:61", #[⟨12, .data⟩, ⟨8, .chain⟩], none⟩ ?_
  try simp only [Act.put, asA, asB, asC]
  refine tkA 14 ⟨some 30, .fieldAddr 54 (.tmp 3) 1, 0, "ref.go:61", #[⟨13, .guard⟩], some (13, false)⟩ ?_
  try simp only [Act.put, asA, asB, asC]
  refine tkA 15 ⟨some 31, .load 3 (.tmp 30), 3, "ref.go:61", #[⟨14, .data⟩, ⟨13, .guard⟩], some (13, false)⟩ ?_
  try simp only [Act.put, asA, asB, asC]
  refine tkA 16 ⟨some 32, .binOp .gtr 3 (.tmp 31) (.const (.int .i64 89)) 3, 4, "ref.go:61", #[⟨15, .data⟩, ⟨13, .guard⟩], some (13, false)⟩ ?_
  try simp only [Act.put, asA, asB, asC]
  refine tkA 17 ⟨some 33, .pick (.tmp 29) (.const (.bool true)) (.tmp 32), 4, "ref.go:61", #[⟨13, .data⟩, ⟨16, .data⟩], none⟩ ?_
  try simp only [Act.put, asA, asB, asC]
  refine tkA 18 ⟨some 34, .move (.tmp 33), 4, "ref.go:61", #[⟨17, .data⟩, ⟨13, .chain⟩], none⟩ ?_
  try simp only [Act.put, asA, asB, asC]
  refine tkA 19 ⟨some 35, .fieldAddr 23 (.tmp 2) 0, 0, "ref.go:61", #[⟨18, .guard⟩], some (18, false)⟩ ?_
  try simp only [Act.put, asA, asB, asC]
  refine tkA 20 ⟨some 36, .load 9 (.tmp 35), 9, "ref.go:61", #[⟨19, .data⟩, ⟨18, .guard⟩], some (18, false)⟩ ?_
  try simp only [Act.put, asA, asB, asC]
  refine tkA 21 ⟨some 37, .fieldAddr 54 (.tmp 3) 0, 0, "ref.go:61", #[⟨18, .guard⟩], some (18, false)⟩ ?_
  try simp only [Act.put, asA, asB, asC]
  refine tkA 22 ⟨some 38, .load 3 (.tmp 37), 3, "ref.go:61", #[⟨21, .data⟩, ⟨18, .guard⟩], some (18, false)⟩ ?_
  try simp only [Act.put, asA, asB, asC]
  refine tkA 23 ⟨some 39, .index 9 (.tmp 36) (.tmp 38), 5, "ref.go:61", #[⟨20, .data⟩, ⟨22, .data⟩, ⟨18, .guard⟩], some (18, false)⟩ ?_
  try simp only [Act.put, asA, asB, asC]
  refine tkA 25 ⟨some 41, .fieldAddr 23 (.tmp 2) 1, 0, "ref.go:61", #[⟨18, .guard⟩], some (18, false)⟩ ?_
  try simp only [Act.put, asA, asB, asC]
  refine tkA 26 ⟨some 42, .load 3 (.tmp 41), 3, "ref.go:61", #[⟨25, .data⟩, ⟨18, .guard⟩], some (18, false)⟩ ?_
  try simp only [Act.put, asA, asB, asC]
  refine wpAnyH_ready (rs := [24]) (by kernel_rfl) (by simp) (AllReadyH.cons (o := { dst := some 40, op := Op.call { callee := Callee.value (Operand.func 111), args := #[Operand.tmp 39], argTypes := #[5] }, type := 3, pos := "ref.go:61", after := #[{ on := 23, ground := Ground.data }, { on := 18, ground := Ground.chain }, { on := 18, ground := Ground.guard }], guard := some (18, false) }) rfl (fun K hK => ?_) AllReadyH.nil)
  go_simp
  refine (rside_is c d _ HD.out).mono ?_; rintro e w2 ⟨rfl, rfl⟩
  refine hK.out _ _ ?_ (fun hHeld => ?_)
  · exact hHeld
  clear hK K
  refine tkA 27 ⟨some 43, .binOp .neq 3 (.tmp 40) (.tmp 42) 3, 4, "ref.go:61", #[⟨24, .data⟩, ⟨26, .data⟩, ⟨18, .guard⟩], some (18, false)⟩ ?_
  try simp only [Act.put, asA, asB, asC]
  refine tkA 28 ⟨some 44, .pick (.tmp 34) (.const (.bool true)) (.tmp 43), 4, "ref.go:61", #[⟨18, .data⟩, ⟨27, .data⟩], none⟩ ?_
  try simp only [Act.put, asA, asB, asC]
  refine tkA 29 ⟨some 45, .move (.tmp 44), 4, "ref.go:61", #[⟨28, .data⟩, ⟨24, .chain⟩], none⟩ ?_
  try simp only [Act.put, asA, asB, asC]
  refine tkA 30 ⟨some 46, .fieldAddr 23 (.tmp 2) 0, 0, "ref.go:61", #[⟨29, .guard⟩], some (29, false)⟩ ?_
  try simp only [Act.put, asA, asB, asC]
  refine tkA 31 ⟨some 47, .load 9 (.tmp 46), 9, "ref.go:61", #[⟨30, .data⟩, ⟨29, .guard⟩], some (29, false)⟩ ?_
  try simp only [Act.put, asA, asB, asC]
  refine tkA 32 ⟨some 48, .fieldAddr 54 (.tmp 3) 0, 0, "ref.go:61", #[⟨29, .guard⟩], some (29, false)⟩ ?_
  try simp only [Act.put, asA, asB, asC]
  refine tkA 33 ⟨some 49, .load 3 (.tmp 48), 3, "ref.go:61", #[⟨32, .data⟩, ⟨29, .guard⟩], some (29, false)⟩ ?_
  try simp only [Act.put, asA, asB, asC]
  refine tkA 34 ⟨some 50, .fieldAddr 54 (.tmp 3) 1, 0, "ref.go:61", #[⟨29, .guard⟩], some (29, false)⟩ ?_
  try simp only [Act.put, asA, asB, asC]
  refine tkA 35 ⟨some 51, .load 3 (.tmp 50), 3, "ref.go:61", #[⟨34, .data⟩, ⟨29, .guard⟩], some (29, false)⟩ ?_
  try simp only [Act.put, asA, asB, asC]
  refine wpAnyH_ready (rs := [36]) (by kernel_rfl) (by simp) (AllReadyH.cons (o := { dst := some 52, op := Op.call { callee := Callee.value (Operand.func 112), args := #[Operand.tmp 47, Operand.tmp 49, Operand.tmp 51], argTypes := #[9, 3, 3] }, type := 4, pos := "ref.go:61", after := #[{ on := 31, ground := Ground.data }, { on := 33, ground := Ground.data }, { on := 35, ground := Ground.data }, { on := 29, ground := Ground.chain }, { on := 29, ground := Ground.guard }], guard := some (29, false) }) rfl (fun K hK => ?_) AllReadyH.nil)
  go_simp
  refine (fast_is s a b _ _ hs ha hb HR.out).mono ?_; rintro e w2 ⟨rfl, rfl⟩
  refine hK.out _ _ ?_ (fun hHeld => ?_)
  · exact hHeld
  clear hK K
  refine tkA 37 ⟨some 53, .unOp .not 4 (.tmp 52), 4, "ref.go:61", #[⟨36, .data⟩, ⟨29, .guard⟩], some (29, false)⟩ ?_
  try simp only [Act.put, asA, asB, asC]
  refine tkA 38 ⟨some 54, .pick (.tmp 45) (.const (.bool true)) (.tmp 53), 4, "ref.go:61", #[⟨29, .data⟩, ⟨37, .data⟩], none⟩ ?_
  try simp only [Act.put, asA, asB, asC]
  refine tkA 39 ⟨some 55, .move (.tmp 54), 4, "ref.go:61", #[⟨38, .data⟩, ⟨36, .chain⟩], none⟩ ?_
  try simp only [Act.put, asA, asB, asC]
  refine tkA 40 ⟨some 56, .fieldAddr 23 (.tmp 2) 0, 0, "ref.go:61", #[⟨39, .guard⟩], some (39, false)⟩ ?_
  try simp only [Act.put, asA, asB, asC]
  refine tkA 41 ⟨some 57, .load 9 (.tmp 56), 9, "ref.go:61", #[⟨40, .data⟩, ⟨39, .guard⟩], some (39, false)⟩ ?_
  try simp only [Act.put, asA, asB, asC]
  refine tkA 42 ⟨some 58, .fieldAddr 54 (.tmp 3) 1, 0, "ref.go:61", #[⟨39, .guard⟩], some (39, false)⟩ ?_
  try simp only [Act.put, asA, asB, asC]
  refine tkA 43 ⟨some 59, .load 3 (.tmp 58), 3, "ref.go:61", #[⟨42, .data⟩, ⟨39, .guard⟩], some (39, false)⟩ ?_
  try simp only [Act.put, asA, asB, asC]
  refine tkA 44 ⟨some 60, .index 9 (.tmp 57) (.tmp 59), 5, "ref.go:61", #[⟨41, .data⟩, ⟨43, .data⟩, ⟨39, .guard⟩], some (39, false)⟩ ?_
  try simp only [Act.put, asA, asB, asC]
  refine wpAnyH_ready (rs := [45]) (by kernel_rfl) (by simp) (AllReadyH.cons (o := { dst := some 61, op := Op.call { callee := Callee.value (Operand.func 113), args := #[Operand.tmp 60], argTypes := #[5] }, type := 5, pos := "ref.go:61", after := #[{ on := 44, ground := Ground.data }, { on := 39, ground := Ground.chain }, { on := 39, ground := Ground.guard }], guard := some (39, false) }) rfl (fun K hK => ?_) AllReadyH.nil)
  go_simp
  refine (rkind_is x k _ HK.out).mono ?_; rintro e w2 ⟨rfl, rfl⟩
  refine hK.out _ _ ?_ (fun hHeld => ?_)
  · exact hHeld
  clear hK K
  refine tkA 46 ⟨some 62, .binOp .eql 5 (.tmp 61) (.const (.int .u8 75)) 5, 4, "ref.go:61", #[⟨45, .data⟩, ⟨39, .guard⟩], some (39, false)⟩ ?_
  try simp only [Act.put, asA, asB, asC]
  refine tkA 47 ⟨some 63, .pick (.tmp 55) (.const (.bool true)) (.tmp 62), 4, "ref.go:61", #[⟨39, .data⟩, ⟨46, .data⟩], none⟩ ?_
  try simp only [Act.put, asA, asB, asC]
  refine wpAnyH_done (by kernel_rfl) ?_ _
  have bM2 := bM1.next (Below.refl _ _).drew
  have bP2 := bP1.next (Below.refl _ _).drew
  have hB2 := hB1.drew
  obtain ⟨w2, hw2⟩ : ∃ w2, w1.drew = w2 := ⟨_, rfl⟩
  rw [hw2] at bM2 bP2 bR2 hB2 ⊢
  clear hS hHeld hw2 bR1 bM1 bP1 hB1 t0 t1 t2 t3 m0 m1 g0 g1 g2 g3 f0 f1 f2 f3 e0 e1 e2 e3
  obtain ⟨q0, q1, q2, q3⟩ := ppos_cells bP2
  have n0 : w2.cell? ⟨w.heap.size + 1, 0, none⟩ = some (.int .i64 (a : Int)) := bM2.cell 0
  have n1 : w2.cell? ⟨w.heap.size + 1, 1, none⟩ = some (.int .i64 (b : Int)) := bM2.cell 1
  go_wp2_with fail
  obtain ⟨t, ht⟩ : ∃ t, movedS s a b c = t := ⟨_, rfl⟩
  obtain ⟨o, ho⟩ : ∃ o : Int, 1 - side = o := ⟨_, rfl⟩
  obtain ⟨l, hl⟩ : ∃ l : Int, min (clock + 1) 120 = l := ⟨_, rfl⟩
  have i0 : IntKind.i64.wrap o = o := IntWalk.i64_in _ (by omega)
  have i1 : IntKind.i64.wrap (clock + 1) = clock + 1 := IntWalk.i64_in _ (by omega)
  have i2 : IntKind.i64.wrap (full + 1) = full + 1 := IntWalk.i64_in _ (by omega)
  have HMT : Hid (∀ W, Calls Tryz.prog 114 #[.string s, .agg #[.int .i64 (a : Int), .int .i64 (b : Int)]] W (Gives W (.string t))) := by
    show ∀ W, _
    rw [← ht]
    exact HMV.out
  have hS0 : ApS w s side clock full a b w2 := ⟨q0, q1, q2, q3, n0, n1, bR2, hB2⟩
  have hS : ApS w s side clock full a b w2.drew := apS_keep hS0 (Below.refl _ _).drew
  go_region_held3 (fun W => W.cell? ⟨w.heap.size, 0, none⟩ = some (.string s) ∧ W.cell? ⟨w.heap.size, 1, none⟩ = some (.int .i64 side) ∧ W.cell? ⟨w.heap.size, 2, none⟩ = some (.int .i64 clock) ∧ W.cell? ⟨w.heap.size, 3, none⟩ = some (.int .i64 full) ∧ W.cell? ⟨w.heap.size + 1, 0, none⟩ = some (.int .i64 (a : Int)) ∧ W.cell? ⟨w.heap.size + 1, 1, none⟩ = some (.int .i64 (b : Int)) ∧ Blk W (w.heap.size + 2) 23 #[.string ⟨#[]⟩, .int .i64 0, .int .i64 0, .int .i64 0] ∧ Below w.heap.size w W)
    (first | with_reducible exact hS | with_reducible assumption | with_reducible exact apS_keep (by assumption) hb | with_reducible exact apS_keep (by assumption) ((Below.refl _ _).alloc (Nat.le_refl _) _) | with_reducible exact apS_set (apS_set (apS_set (apS_set (by assumption) hS0 _ _) hS0 _ _) hS0 _ _) hS0 _ _)
    (first
      | (go_at_call 114; refine (HMT.out _).mono ?_; rintro e w4 ⟨rfl, hb⟩; have h4 : ApS w s side clock full a b w4 := apS_keep (by assumption) hb; (first | (refine with_one (blk4_drew hb) ?_; rintro ⟨bz, ⟨z0, z1, z2, z3⟩, y0, y1, y2, y3⟩) | skip)))
  iterate 3
    rename_i hh
    clear hh
    obtain ⟨W4, hW4⟩ : ∃ W4, w4.alloc (.cells #[.string t, .int .i64 o, .int .i64 l, .int .i64 full] 23) = W4 := ⟨_, rfl⟩
    have hS4 : ApS w s side clock full a b W4 := by rw [← hW4]; exact apS_keep h4 ((Below.refl _ _).alloc (Nat.le_refl _) _)
    have hql : w.heap.size + 2 < w4.heap.size := h4.2.2.2.2.2.2.1.lt
    have bQ : Blk W4 w4.heap.size 23 #[.string t, .int .i64 o, .int .i64 l, .int .i64 full] := by rw [← hW4]; exact Blk.new _ _ _ rfl
    rw [hW4]
    obtain ⟨qb, hqb⟩ : ∃ qb, w4.heap.size = qb := ⟨_, rfl⟩
    rw [hqb] at bQ hql ⊢
    clear hqb
    have hS4b := hS4
    obtain ⟨c4, c5, c6, c7, c8, c9, bR4, hB4⟩ := hS4
    obtain ⟨u0, u1, u2, u3⟩ := ppos_cells bQ
    obtain ⟨v0, v1, v2, v3⟩ := ppos_frozen bQ
    obtain ⟨r0, r1, r2, r3⟩ := ppos_cells bR4
    obtain ⟨s0, s1, s2, s3⟩ := ppos_frozen bR4
    have nq : w.heap.size + 2 ≠ qb := by omega
    have nq' : qb ≠ w.heap.size + 2 := by omega
    have nq1 : w.heap.size + 1 + 1 ≠ qb := by omega
    have nq2 : qb ≠ w.heap.size + 1 + 1 := by omega
    have nq3 : qb ≠ w.heap.size := by omega
    have nq4 : w.heap.size ≠ qb := by omega
    have nq5 : qb ≠ w.heap.size + 1 := by omega
    have hqw : w.heap.size ≤ qb := by omega
    clear hS hS0 hb h4 hB2 bR2 bP2 bM2 hS4b n0 n1 q0 q1 q2 q3 HMT HMV hW4 HC HW bP bM bR hB hbw f0 p0 p1 p2 p3
    have HQ := Lib.hid bQ
    have HR4 := Lib.hid bR4
    have HB4 := Lib.hid hB4
    clear bQ bR4 hB4
    rcases hside with rfl | rfl
    · by_cases h46 : x = 46
      · subst h46
        go_wp2_with fail
        refine bodyPost_ret (res_pos3 rfl _ _ rfl (mvEnd (HR4.out) (by omega) (HB4.out)).1) rfl ⟨?_, (mvEnd (HR4.out) (by omega) (HB4.out)).2⟩
        subst ht ho hl
        simp [clockA, fullA, takenN, HX.out]
      · have hxn : ¬ (x : Int) = 46 := by omega
        go_wp2_with fail
        refine bodyPost_ret (res_pos3 rfl _ _ rfl (mvEnd (HR4.out.far (p := ⟨qb, 2, none⟩) nq _) (by omega) (HB4.out.setCell (p := ⟨qb, 2, none⟩) hqw _)).1) rfl ⟨?_, (mvEnd (HR4.out.far (p := ⟨qb, 2, none⟩) nq _) (by omega) (HB4.out.setCell (p := ⟨qb, 2, none⟩) hqw _)).2⟩
        subst ht ho hl
        simp [clockA, fullA, takenN, HX.out, h46]
    · by_cases h46 : x = 46
      · subst h46
        go_wp2_with fail
        refine bodyPost_ret (res_pos3 rfl _ _ rfl (mvEnd (HR4.out.far (p := ⟨qb, 3, none⟩) nq _) (by omega) (HB4.out.setCell (p := ⟨qb, 3, none⟩) hqw _)).1) rfl ⟨?_, (mvEnd (HR4.out.far (p := ⟨qb, 3, none⟩) nq _) (by omega) (HB4.out.setCell (p := ⟨qb, 3, none⟩) hqw _)).2⟩
        subst ht ho hl
        simp [clockA, fullA, takenN, HX.out]
      · have hxn : ¬ (x : Int) = 46 := by omega
        go_wp2_with fail
        refine bodyPost_ret (res_pos3 rfl _ _ rfl (mvEnd ((HR4.out.far (p := ⟨qb, 2, none⟩) nq _).far (p := ⟨qb, 3, none⟩) nq _) (by omega) ((HB4.out.setCell (p := ⟨qb, 2, none⟩) hqw _).setCell (p := ⟨qb, 3, none⟩) hqw _)).1) rfl ⟨?_, (mvEnd ((HR4.out.far (p := ⟨qb, 2, none⟩) nq _).far (p := ⟨qb, 3, none⟩) nq _) (by omega) ((HB4.out.setCell (p := ⟨qb, 2, none⟩) hqw _).setCell (p := ⟨qb, 3, none⟩) hqw _)).2⟩
        subst ht ho hl
        simp [clockA, fullA, takenN, HX.out, h46]
  iterate 3
    rename_i hh
    clear hh
    obtain ⟨W4, hW4⟩ : ∃ W4, (((w4.setCell ⟨w2.heap.size, 0, none⟩ (.string t)).setCell ⟨w2.heap.size, 1, none⟩ (.int .i64 o)).setCell ⟨w2.heap.size, 2, none⟩ (.int .i64 l)).setCell ⟨w2.heap.size, 3, none⟩ (.int .i64 full) = W4 := ⟨_, rfl⟩
    have hS4 : ApS w s side clock full a b W4 := by rw [← hW4]; exact apS_set (apS_set (apS_set (apS_set h4 hS0 _ _) hS0 _ _) hS0 _ _) hS0 _ _
    have hql : w.heap.size + 2 < w2.heap.size := hS0.2.2.2.2.2.2.1.lt
    have bQ : Blk W4 w2.heap.size 23 #[.string t, .int .i64 o, .int .i64 l, .int .i64 full] := by rw [← hW4]; exact pblk_four bz
    rw [hW4]
    obtain ⟨qb, hqb⟩ : ∃ qb, w2.heap.size = qb := ⟨_, rfl⟩
    rw [hqb] at bQ hql ⊢
    clear hqb z0 z1 z2 z3 y0 y1 y2 y3
    have hS4b := hS4
    obtain ⟨c4, c5, c6, c7, c8, c9, bR4, hB4⟩ := hS4
    obtain ⟨u0, u1, u2, u3⟩ := ppos_cells bQ
    obtain ⟨v0, v1, v2, v3⟩ := ppos_frozen bQ
    obtain ⟨r0, r1, r2, r3⟩ := ppos_cells bR4
    obtain ⟨s0, s1, s2, s3⟩ := ppos_frozen bR4
    have nq : w.heap.size + 2 ≠ qb := by omega
    have nq' : qb ≠ w.heap.size + 2 := by omega
    have nq1 : w.heap.size + 1 + 1 ≠ qb := by omega
    have nq2 : qb ≠ w.heap.size + 1 + 1 := by omega
    have nq3 : qb ≠ w.heap.size := by omega
    have nq4 : w.heap.size ≠ qb := by omega
    have nq5 : qb ≠ w.heap.size + 1 := by omega
    have hqw : w.heap.size ≤ qb := by omega
    clear hS hS0 hb bz h4 hB2 bR2 bP2 bM2 hS4b n0 n1 q0 q1 q2 q3 HMT HMV hW4 HC HW bP bM bR hB hbw f0 p0 p1 p2 p3
    have HQ := Lib.hid bQ
    have HR4 := Lib.hid bR4
    have HB4 := Lib.hid hB4
    clear bQ bR4 hB4
    rcases hside with rfl | rfl
    · by_cases h46 : x = 46
      · subst h46
        go_wp2_with fail
        refine bodyPost_ret (res_pos3 rfl _ _ rfl (mvEnd (HR4.out) (by omega) (HB4.out)).1) rfl ⟨?_, (mvEnd (HR4.out) (by omega) (HB4.out)).2⟩
        subst ht ho hl
        simp [clockA, fullA, takenN, HX.out]
      · have hxn : ¬ (x : Int) = 46 := by omega
        go_wp2_with fail
        refine bodyPost_ret (res_pos3 rfl _ _ rfl (mvEnd (HR4.out.far (p := ⟨qb, 2, none⟩) nq _) (by omega) (HB4.out.setCell (p := ⟨qb, 2, none⟩) hqw _)).1) rfl ⟨?_, (mvEnd (HR4.out.far (p := ⟨qb, 2, none⟩) nq _) (by omega) (HB4.out.setCell (p := ⟨qb, 2, none⟩) hqw _)).2⟩
        subst ht ho hl
        simp [clockA, fullA, takenN, HX.out, h46]
    · by_cases h46 : x = 46
      · subst h46
        go_wp2_with fail
        refine bodyPost_ret (res_pos3 rfl _ _ rfl (mvEnd (HR4.out.far (p := ⟨qb, 3, none⟩) nq _) (by omega) (HB4.out.setCell (p := ⟨qb, 3, none⟩) hqw _)).1) rfl ⟨?_, (mvEnd (HR4.out.far (p := ⟨qb, 3, none⟩) nq _) (by omega) (HB4.out.setCell (p := ⟨qb, 3, none⟩) hqw _)).2⟩
        subst ht ho hl
        simp [clockA, fullA, takenN, HX.out]
      · have hxn : ¬ (x : Int) = 46 := by omega
        go_wp2_with fail
        refine bodyPost_ret (res_pos3 rfl _ _ rfl (mvEnd ((HR4.out.far (p := ⟨qb, 2, none⟩) nq _).far (p := ⟨qb, 3, none⟩) nq _) (by omega) ((HB4.out.setCell (p := ⟨qb, 2, none⟩) hqw _).setCell (p := ⟨qb, 3, none⟩) hqw _)).1) rfl ⟨?_, (mvEnd ((HR4.out.far (p := ⟨qb, 2, none⟩) nq _).far (p := ⟨qb, 3, none⟩) nq _) (by omega) ((HB4.out.setCell (p := ⟨qb, 2, none⟩) hqw _).setCell (p := ⟨qb, 3, none⟩) hqw _)).2⟩
        subst ht ho hl
        simp [clockA, fullA, takenN, HX.out, h46]
theorem isM_in {s : ByteArray} {side : Int} (hB : isB s = true) {a b : Nat} (ha : a < 90) (hb : b < 90) : isM s side (a : Int) (b : Int) = (canB s a b && (sideN (bAt s a) == side)) := by
  unfold isM canI
  rw [hB, sqI_true (n := (a : Int)) (by omega), sqI_true (n := (b : Int)) (by omega), Int.toNat_natCast, Int.toNat_natCast]
  rfl
theorem rapply_is (s : ByteArray) (side clock full a b : Int) (v : Value) (w : World) (h : applyV s side clock full a b = v) :
    Calls Tryz.prog 66 #[.agg #[.string s, .int .i64 side, .int .i64 clock, .int .i64 full], .agg #[.int .i64 a, .int .i64 b]] w (Gives w v) := by
  subst h
  unfold applyV
  by_cases hc : checkN s side clock full = 0
  · rw [if_neg (fun e => e hc)]
    have hc' : (checkN s side clock full : Int) = 0 := by rw [hc]; rfl
    have hp := (check_zero hc').1
    have hB := parts_board hp
    have hz := isB_size hB
    by_cases A0 : a < 0
    · rw [if_neg (fun e => absurd (isM_parts e.1).2.1 (by omega))]
      exact rapply_a0 s side clock full a b w hc' A0
    by_cases A9 : 89 < a
    · rw [if_neg (fun e => absurd (isM_parts e.1).2.1 (by omega))]
      exact rapply_a9 s side clock full a b w hc' (by omega) A9
    by_cases B0 : b < 0
    · rw [if_neg (fun e => absurd (isM_parts e.1).2.2.1 (by omega))]
      exact rapply_b0 s side clock full a b w hc' (by omega) (by omega) B0
    by_cases B9 : 89 < b
    · rw [if_neg (fun e => absurd (isM_parts e.1).2.2.1 (by omega))]
      exact rapply_b9 s side clock full a b w hc' (by omega) (by omega) (by omega) B9
    obtain ⟨m, rfl⟩ : ∃ m : Nat, a = m := ⟨a.toNat, by omega⟩
    obtain ⟨n, rfl⟩ : ∃ n : Nat, b = n := ⟨b.toNat, by omega⟩
    have hm : m < 90 := by omega
    have hn : n < 90 := by omega
    rw [Int.toNat_natCast, Int.toNat_natCast, isM_in hB hm hn]
    cases hd : sideN (bAt s m) != side
    · have hd2 : (sideN (bAt s m) == side) = true := by simpa [bne] using hd
      rw [hd2, Bool.and_true]
      cases hr : canB s m n
      · rw [if_neg (by simp)]
        exact rapply_fast s side clock full m n (bAt s m) (bAt s n) (kindN (bAt s n)) (sideN (bAt s m)) false w hc' (by omega) hm hn rfl rfl rfl hr rfl hd rfl
      · by_cases hk : kindN (bAt s n) = 75
        · rw [if_neg (fun e => e.2 hk)]
          exact rapply_king s side clock full m n (bAt s m) (bAt s n) (kindN (bAt s n)) (sideN (bAt s m)) true w hc' (by omega) hm hn rfl rfl rfl hr rfl hd rfl (by rw [hk]; rfl)
        · rw [if_pos ⟨rfl, hk⟩]
          simp only [partsB, Bool.and_eq_true, Bool.or_eq_true, beq_iff_eq, decide_eq_true_eq] at hp
          exact rapply_good s side clock full m n (bAt s m) (bAt s n) (kindN (bAt s n)) (sideN (bAt s m)) true w hc' (by omega) hm hn rfl rfl rfl hr rfl hd rfl (by rw [beq_eq_false_iff_ne]; omega) hz (can_self hr) hp.1.1.1.1.2 hp.1.1.1.2 hp.1.1.2 hp.1.2 hp.2
    · have hd2 : (sideN (bAt s m) == side) = false := by simpa [bne] using hd
      rw [hd2, Bool.and_false, if_neg (by simp)]
      exact rapply_side s side clock full m n (bAt s m) (bAt s n) (kindN (bAt s n)) (sideN (bAt s m)) (canB s m n) w hc' (by omega) hm hn rfl rfl rfl rfl rfl hd
  · rw [if_pos hc]
    exact rapply_bad s side clock full a b _ w rfl (by simp; omega)
end Go.Proofs.YtpogpjebhnoncaaGreatDoor
namespace Go.Proofs.YtpogpjebhnoncaaGreatDoor
open Go.RowKit Go.Shelf
open M (S)
theorem rmake_isJ (s : ByteArray) (side clock full a b : Int) (v : Value) (w : World) (h : makeV s side clock full a b = v) : Calls Tryz.prog 40 #[.agg #[.string s, .int .i64 side, .int .i64 clock, .int .i64 full], .agg #[.int .i64 a, .int .i64 b]] w (Gives w v) := by
  subst h
  exact rmake_any s side clock full a b w (Lib.hid fun W => rapply_is s side clock full a b _ W rfl)
end Go.Proofs.YtpogpjebhnoncaaGreatDoor
namespace Go.Proofs.YtpogpjebhnoncaaGreatDoor
open Go.RowKit Go.Shelf
open M (S)
set_option maxRecDepth 100000 in
set_option maxHeartbeats 2000000 in
theorem rplay_bad (p : Ps) (C : Option Addr) (a d : Nat) (w : World) (_ : Tab w) (k : Int) (hk : p.well = k) (h : k ≠ 0) : Calls Tryz.prog 11 #[.agg #[.string p.s, .int .i64 p.y, .int .i64 p.z, .int .i64 p.u], .slice C a d] w (GivesJ w (0, 0) [] k) := by
  unfold GivesJ
  obtain ⟨s, y, z, u⟩ := p
  have hk : wellN s y z u = k := hk
  have HK := Lib.hid hk
  have k0 : (k != 0) = true := by rw [bne_iff_ne]; exact h
  obtain ⟨W0, hW0⟩ : ∃ W0, (w.alloc (.cells #[.string s, .int .i64 y, .int .i64 z, .int .i64 u] 23)).alloc (.cells #[.int .i64 0, .int .i64 0] 27) = W0 := ⟨_, rfl⟩
  obtain ⟨hB0, bP, bV⟩ := play_start w s y z u hW0
  have HW := Lib.hid hW0
  clear hk h hW0
  go_enter Tryz.func11, Tryz.ntmps11
  go_wp2_with fail
  rw [HW.out]
  refine (rwell_is s y z u k _ HK.out).mono ?_
  rintro e w1 ⟨rfl, hb1⟩
  have hB1 := hB0.trans (hb1.mono hB0.size)
  have bV1 := bV.next hb1
  obtain ⟨q0, q1⟩ := two_cells bV1
  have f0 := bV1.frozen 0
  have f1 := bV1.frozen 1
  clear bP bV hB0 hb1
  go_wp2
  obtain ⟨bE, hE⟩ := verdict_end1 bV1 hB1 0 0
  exact bodyPost_ret (v := .tuple #[.agg #[.int .i64 0, .int .i64 0], .slice none 0 0, .int .i64 k]) (by simp [results, Tryz.results11, go_sem, bE.cell 0, bE.cell 1]) rfl ⟨none, 0, rfl, fun j u hu => by simp [psL] at hu, Nat.le_refl _, hE⟩
set_option maxRecDepth 100000 in
set_option maxHeartbeats 2000000 in
theorem rplay_full (p : Ps) (C : Option Addr) (a d : Nat) (w : World) (_ : Tab w) (hk : p.well = 0) (h : 1024 < a) : Calls Tryz.prog 11 #[.agg #[.string p.s, .int .i64 p.y, .int .i64 p.z, .int .i64 p.u], .slice C a d] w (GivesJ w (0, 0) [] 8) := by
  unfold GivesJ
  obtain ⟨s, y, z, u⟩ := p
  have hk : wellN s y z u = 0 := hk
  have HK := Lib.hid hk
  have hd : (1024 : Int) < (a : Int) := by omega
  obtain ⟨W0, hW0⟩ : ∃ W0, (w.alloc (.cells #[.string s, .int .i64 y, .int .i64 z, .int .i64 u] 23)).alloc (.cells #[.int .i64 0, .int .i64 0] 27) = W0 := ⟨_, rfl⟩
  obtain ⟨hB0, bP, bV⟩ := play_start w s y z u hW0
  have HW := Lib.hid hW0
  clear hk h hW0
  go_enter Tryz.func11, Tryz.ntmps11
  go_wp2_with fail
  rw [HW.out]
  refine (rwell_is s y z u 0 _ HK.out).mono ?_
  rintro e w1 ⟨rfl, hb1⟩
  have hB1 := hB0.trans (hb1.mono hB0.size)
  have bV1 := bV.next hb1
  obtain ⟨q0, q1⟩ := two_cells bV1
  have f0 := bV1.frozen 0
  have f1 := bV1.frozen 1
  clear bP bV hB0 hb1
  go_wp2
  obtain ⟨bE, hE⟩ := verdict_end1 bV1 hB1 0 0
  exact bodyPost_ret (v := .tuple #[.agg #[.int .i64 0, .int .i64 0], .slice none 0 0, .int .i64 8]) (by simp [results, Tryz.results11, go_sem, bE.cell 0, bE.cell 1]) rfl ⟨none, 0, rfl, fun j u hu => by simp [psL] at hu, Nat.le_refl _, hE⟩
set_option maxRecDepth 100000 in
set_option maxHeartbeats 8000000 in
theorem rplay_go (p : Ps) (C : Option Addr) (l : List (Int × Int)) (a d : Nat) (w : World) (hT : Tab w) (hm : Rd w C (mzL l)) (ha : l.length = a) (had : a ≤ d) (hk : p.well = 0) (ha9 : a ≤ 1024) : Calls Tryz.prog 11 #[.agg #[.string p.s, .int .i64 p.y, .int .i64 p.z, .int .i64 p.u], .slice C a d] w (GivesJ w (playV p l) (playL p l) (playE p l)) := by
  unfold GivesJ
  obtain ⟨i0, hi, hz0, hz1, hz2⟩ := info_partsY info_pos4
  have HWL : Hid (p.well = 0) := hk
  have HM := Lib.hid hm
  have HA := Lib.hid ha
  obtain ⟨s, y, z, u⟩ := p
  have hk : wellN s y z u = 0 := hk
  have HK := Lib.hid hk
  have hd : ¬ (1024 : Int) < (a : Int) := by omega
  clear hk hm ha
  obtain ⟨W0, hW0⟩ : ∃ W0, (w.alloc (.cells #[.string s, .int .i64 y, .int .i64 z, .int .i64 u] 23)).alloc (.cells #[.int .i64 0, .int .i64 0] 27) = W0 := ⟨_, rfl⟩
  obtain ⟨hB0, bP, bV⟩ := play_start w s y z u hW0
  have HW := Lib.hid hW0
  clear hW0
  go_enter Tryz.func11, Tryz.ntmps11
  go_wp2_with fail
  rw [HW.out]
  refine (rwell_is s y z u 0 _ HK.out).mono ?_
  rintro e w1 ⟨rfl, hb1⟩
  have hB1 := hB0.trans (hb1.mono hB0.size)
  have hT1 := hT.below hB1 hT.lt
  have bV1 := bV.next hb1
  have bP1 := bP.next hb1
  obtain ⟨p0, p1, p2, p3⟩ := four_cells bP1
  clear bP bV hB0 hb1
  obtain ⟨W2, hW2⟩ : ∃ W2, w1.alloc (.cells #[.string s, .int .i64 y, .int .i64 z, .int .i64 u] 23) = W2 := ⟨_, rfl⟩
  have HW2 := Lib.hid hW2
  obtain ⟨⟨vk, vr⟩, hvv⟩ : ∃ v, lastI [⟨s, y, z, u⟩] [] = v := ⟨_, rfl⟩
  have HVV := Lib.hid hvv
  have hB2 : Below w.heap.size w W2 := by rw [← hW2]; exact hB1.alloc hB1.size _
  have bL : Blk W2 w1.heap.size 23 #[.string s, .int .i64 y, .int .i64 z, .int .i64 u] := by rw [← hW2]; exact Blk.new _ _ _ rfl
  have HBL : Hid (Blk W2 w1.heap.size 23 #[.string s, .int .i64 y, .int .i64 z, .int .i64 u]) := bL
  have HRL : Hid (Rd W2 (some ⟨w1.heap.size, 0, none⟩) (psL [⟨s, y, z, u⟩])) := fun j v hv => by
    have hadd : Addr.add ⟨w1.heap.size, 0, none⟩ j = ⟨w1.heap.size, j, none⟩ := by
      simp only [Addr.add]
      split <;> simp_all
    refine ⟨_, rfl, ?_⟩
    rw [hadd, bL.cell j]
    rw [← hv, List.getElem?_toArray]
    rfl
  have bV2 : Blk W2 (w.heap.size + 1) 27 #[.int .i64 0, .int .i64 0] := by rw [← hW2]; exact bV1.alloc _
  have hT2 := hT.below hB2 hT.lt
  have HSW : Hid (w1.heap.size < W2.heap.size ∧ w.heap.size + 1 < w1.heap.size) := ⟨bL.lt, bV1.lt⟩
  clear hW2 hvv bV1 bL
  go_wp2_with fail
  rw [HW2.out]
  clear p0 p1 p2 p3
  refine (rlast_is _ none [⟨s, y, z, u⟩] [] 1 1 0 0 vk vr _ hT2 HRL.out rfl (rd_nil _ _) rfl (by decide) (fun x hx => by cases hx) (by decide) (by decide) HVV.out).mono ?_
  rintro e w3 ⟨rfl, hb3⟩
  have HSH : Hid (w.heap.size + 1 < w1.heap.size ∧ w1.heap.size ≤ w3.heap.size) := ⟨HSW.out.2, Nat.le_trans (Nat.le_of_lt HSW.out.1) hb3.size⟩
  obtain ⟨W4, hW4⟩ : ∃ W4, w3.alloc (.cells #[.int .i64 vk, .int .i64 vr] 27) = W4 := ⟨_, rfl⟩
  have hJ0 : JudgeAt W4 (w.heap.size + 1) w1.heap.size w3.heap.size (.slice (some ⟨w1.heap.size, 0, none⟩) 1 1) [⟨s, y, z, u⟩] (vk, vr) := by
    have h1 : JudgeAt w3 (w.heap.size + 1) w1.heap.size w3.heap.size (.slice (some ⟨w1.heap.size, 0, none⟩) 1 1) [⟨s, y, z, u⟩] (vk, vr) → JudgeAt W4 (w.heap.size + 1) w1.heap.size w3.heap.size (.slice (some ⟨w1.heap.size, 0, none⟩) 1 1) [⟨s, y, z, u⟩] (vk, vr) := fun h => by rw [← hW4]; exact h.next (below_new _ _)
    have hrow : w3.ownsRow w1.heap.size 23 4 (.slice (some ⟨w1.heap.size, 0, none⟩) 1 1) 1 (psL [⟨s, y, z, u⟩]) := own_next ⟨rfl, .inr ⟨w1.heap.size, 1, _, rfl, Nat.le_refl _, HBL.out, Nat.le_refl _, by unfold maxLen; omega, rfl, rfl⟩⟩ hb3
    refine ⟨by rw [← hW4]; exact own_next hrow (below_new _ _), by rw [← hW4]; exact Blk.new _ _ _ rfl, by rw [← hW4]; exact (bV2.next hb3).alloc _, fun k hk => ?_⟩
    have hk : some w1.heap.size = some k := hk
    injection hk with hk
    have := Nat.lt_of_lt_of_le HSW.out.1 hb3.size
    omega
  have hB4 : Below w.heap.size w W4 := by rw [← hW4]; exact (hB2.trans (hb3.mono hB2.size)).alloc (hB2.trans (hb3.mono hB2.size)).size _
  obtain ⟨H, hH⟩ : ∃ H, w3.heap.size = H := ⟨_, rfl⟩
  obtain ⟨B, hBB⟩ : ∃ B, w1.heap.size = B := ⟨_, rfl⟩
  have HW4 := Lib.hid hW4
  rw [hH, hBB] at hJ0 HSH
  clear hW4 hB2 hT2 hb3 bV2 HRL HBL HSW HW2
  go_wp2_with fail
  rw [HW4.out]
  (try rw [hH])
  (try rw [hBB])
  clear HW4 hH hBB
  go_loopw [8, 10] (fun v i wr => ∃ k : Nat, k ≤ a ∧ i = .int .i64 (k : Int) ∧ (runJ ⟨s, y, z, u⟩ l k).1 = 0 ∧ JudgeAt wr (w.heap.size + 1) B H v (runJ ⟨s, y, z, u⟩ l k).2 (lastI (runJ ⟨s, y, z, u⟩ l k).2 (l.take k)) ∧ Below w.heap.size w wr) (fun _ i _ => a - (intOf i).toNat)
  case atStart => exact ⟨0, Nat.zero_le _, rfl, rfl, by rw [List.take_zero]; show JudgeAt _ _ _ _ _ [_] _; rw [show lastI (runJ ⟨s, y, z, u⟩ l 0).2 [] = (vk, vr) from HVV.out]; exact hJ0, hB4⟩
  case round =>
    clear hJ0 hB4
    obtain ⟨k, hk, rfl, hrun, hJ, hB⟩ := hrel
    have hTr := hT.below hB hT.lt
    have hrl : (runJ ⟨s, y, z, u⟩ l k).2.length = k + 1 := by rw [(run_chain (by rw [HA.out]; exact hk) hrun).len, List.length_take, HA.out]; omega
    obtain ⟨ls, hls⟩ : ∃ x, (runJ ⟨s, y, z, u⟩ l k).2 = x := ⟨_, rfl⟩
    obtain ⟨⟨xk, xr⟩, hx⟩ : ∃ x, lastI (runJ ⟨s, y, z, u⟩ l k).2 (l.take k) = x := ⟨_, rfl⟩
    have HX := Lib.hid hx
    have HLS := Lib.hid hls
    have HRUN := Lib.hid hrun
    rw [hx, hls] at hJ
    rw [hls] at hrl
    have HRL := Lib.hid hrl
    clear hx hls hrun hrl
    have hrow : wr.ownsRow B 23 4 u8 (k + 1) (psL ls) := by have := hJ.row; rw [HRL.out] at this; exact this
    obtain ⟨A1, c1, rfl, hr1, hc1⟩ := own_any hrow
    by_cases hlt : k < a
    · have hkl : k < l.length := by rw [HA.out]; exact hlt
      have bk : (k : Int) < (a : Int) := by omega
      obtain ⟨gC, bC, rfl, m0, m1⟩ := HM.out.mz hkl
      obtain ⟨⟨x1, x2⟩, hxy⟩ : ∃ x, l[k]'hkl = x := ⟨_, rfl⟩
      rw [hxy] at m0 m1
      have HMV : Hid (l[k]? = some (x1, x2)) := by show _ = _; rw [← hxy]; exact List.getElem?_eq_getElem _
      have HTK : Hid (l.take (k + 1) = l.take k ++ [(x1, x2)]) := by show _ = _; rw [List.take_succ_eq_append_getElem hkl, hxy]
      have c0 := (hB.cell (p := ⟨gC, bC + k * 2, none⟩) (cell_lt m0)).trans m0
      have c1' := (hB.cell (p := ⟨gC, bC + k * 2 + 1, none⟩) (cell_lt m1)).trans m1
      have hJ5 := hJ
      have hB5 := hB
      obtain ⟨v0, v1⟩ := two_cells hJ5.vb
      obtain ⟨r0, r1⟩ := two_cells hJ5.rb
      have f0 := hJ5.rb.frozen 0
      have f1 := hJ5.rb.frozen 1
      clear m0 m1 hxy
      by_cases hx0 : xk = 0
      · subst hx0
        obtain ⟨W5, hW5⟩ : ∃ W5, wr = W5 := ⟨_, rfl⟩
        have HW5 := Lib.hid hW5
        have hr5 : Rd W5 A1 (psL ls) := by rw [← hW5]; exact hr1
        obtain ⟨g, b, rfl, e0, e1, e2, e3⟩ := hr5.ps (k := k) (by rw [HRL.out]; exact Nat.lt_succ_self k)
        have HJ5 : Hid (JudgeAt W5 (w.heap.size + 1) B H (.slice (some ⟨g, b, none⟩) (k + 1) c1) ls (0, xr)) := by show JudgeAt _ _ _ _ _ _ _; rw [← hW5]; exact hJ5
        have HB5 : Hid (Below w.heap.size w W5) := by show Below _ _ _; rw [← hW5]; exact hB5
        obtain ⟨⟨cs, cy, cz, cu⟩, hcur⟩ : ∃ x, ls[k]'(by rw [HRL.out]; exact Nat.lt_succ_self k) = x := ⟨_, rfl⟩
        rw [hcur] at e0 e1 e2 e3
        have HCUR : Hid (ls[k]? = some ⟨cs, cy, cz, cu⟩) := by show _ = _; rw [← hcur]; exact List.getElem?_eq_getElem _
        obtain ⟨q, qy, qz, qu, tk, er, hV, hcase⟩ := step_value ⟨cs, cy, cz, cu⟩ (x1, x2)
        have hV : makeV cs cy cz cu x1 x2 = .tuple #[.agg #[.string q, .int .i64 qy, .int .i64 qz, .int .i64 qu], .int .u8 tk, .int .i64 er] := hV
        have HV := Lib.hid hV
        have HCASE := Lib.hid hcase
        have HT5 := Lib.hid (hT.below HB5.out hT.lt)
        have d0 : W5.cell? ⟨gC, bC + k * 2, none⟩ = some (.int .i64 x1) := by rw [← hW5]; exact c0
        have d1 : W5.cell? ⟨gC, bC + k * 2 + 1, none⟩ = some (.int .i64 x2) := by rw [← hW5]; exact c1'
        have HM2 : Hid (∀ W, Tab W → Calls Tryz.prog 40 #[.agg #[.string cs, .int .i64 cy, .int .i64 cz, .int .i64 cu], .agg #[.int .i64 x1, .int .i64 x2]] W (Gives W (.tuple #[.agg #[.string q, .int .i64 qy, .int .i64 qz, .int .i64 qu], .int .u8 tk, .int .i64 er]))) := fun W _ => rmake_isJ cs cy cz cu x1 x2 _ W HV.out
        have hba : Below W5.heap.size W5 (W5.alloc (.cells #[.string ⟨#[]⟩, .int .i64 0, .int .i64 0, .int .i64 0] 23)) := (Below.refl _ _).alloc (Nat.le_refl _) _
        have HBZ : Hid (Blk (W5.alloc (.cells #[.string ⟨#[]⟩, .int .i64 0, .int .i64 0, .int .i64 0] 23)).drew W5.heap.size 23 #[.string ⟨#[]⟩, .int .i64 0, .int .i64 0, .int .i64 0]) := (Blk.new W5 23 #[.string ⟨#[]⟩, .int .i64 0, .int .i64 0, .int .i64 0] rfl).next (Below.refl _ _).drew
        have HBA := Lib.hid hba
        have hal : ∀ (o : Obj) (pl : Addr) (x : Value), W5.cell? pl = some x → (W5.alloc o).cell? pl = some x := fun o pl x h => (((Below.refl W5.heap.size W5).alloc (Nat.le_refl _) o).cell (cell_lt h)).trans h
        have pa0 := fun o => hal o _ _ e0
        have pa1 := fun o => hal o _ _ e1
        have pa2 := fun o => hal o _ _ e2
        have pa3 := fun o => hal o _ _ e3
        have ma0 := fun o => hal o _ _ d0
        have ma1 := fun o => hal o _ _ d1
        have bk2 : (k : Int) < (k : Int) + 1 := by omega
        have bk3 : (k : Int) < ((k + 1 : Nat) : Int) := by omega
        have HR1 := Lib.hid hr1
        have HROW := Lib.hid hrow
        have HJ := Lib.hid hJ
        have HGL : Hid (B ≤ g) := by
          show _ ≤ _
          exact row_baseY hrow rfl
        clear hba hal hV hcase hcur hW5 hr1 hrow hJ hJ5 hB5 hr5 hc1
        go_wp2_with fail
        (try rw [HW5.out])
        clear c0 c1' v0 v1 r0 r1 f0 f1
        go_region_with ((go_at_call 40; first
          | (refine (HM2.out W5.drew (HT5.out.next (Below.refl _ _).drew)).mono ?_; rintro e w3 ⟨rfl, hb⟩; obtain ⟨W6, hW6⟩ : ∃ x, w3.alloc (.cells #[.string q, .int .i64 qy, .int .i64 qz, .int .i64 qu] 23) = x := ⟨_, rfl⟩)
          | (refine (HM2.out (W5.alloc (.cells #[.string ⟨#[]⟩, .int .i64 0, .int .i64 0, .int .i64 0] 23)).drew (HT5.out.next HBA.out.drew)).mono ?_; rintro e w3 ⟨rfl, hb⟩; obtain ⟨z0, z1, z2, z3⟩ := four_cells (HBZ.out.next hb); obtain ⟨f0, f1, f2, f3⟩ := four_frozen (HBZ.out.next hb); obtain ⟨W6, hW6⟩ : ∃ x, ((((w3.setCell ⟨W5.heap.size, 0, none⟩ (.string q)).setCell ⟨W5.heap.size, 1, none⟩ (.int .i64 qy)).setCell ⟨W5.heap.size, 2, none⟩ (.int .i64 qz)).setCell ⟨W5.heap.size, 3, none⟩ (.int .i64 qu)) = x := ⟨_, rfl⟩)))
        all_goals
          first
          | (have hb3 : Below W5.heap.size W5 w3 := ((Below.refl W5.heap.size W5).drew).trans hb
             have hgq : W5.heap.size ≤ w3.heap.size := hb3.size
             have hb4 : Below W5.heap.size W5 W6 := by rw [← hW6]; exact hb3.alloc hb3.size _
             have bQ : Blk W6 w3.heap.size 23 #[.string q, .int .i64 qy, .int .i64 qz, .int .i64 qu] := by rw [← hW6]; exact Blk.new _ _ _ rfl
             clear hW6 hb3 hb
             generalize w3.heap.size = gq at bQ hgq ⊢)
          | (have hb3 : Below W5.heap.size W5 w3 := (HBA.out.drew).trans (hb.mono (HBA.out.drew).size)
             have bz := HBZ.out.next hb
             have hb4 : Below W5.heap.size W5 W6 := by rw [← hW6]; exact ((((hb3.setCell (p := ⟨W5.heap.size, 0, none⟩) (Nat.le_refl _) _).setCell (p := ⟨W5.heap.size, 1, none⟩) (Nat.le_refl _) _).setCell (p := ⟨W5.heap.size, 2, none⟩) (Nat.le_refl _) _).setCell (p := ⟨W5.heap.size, 3, none⟩) (Nat.le_refl _) _)
             have bQ : Blk W6 W5.heap.size 23 #[.string q, .int .i64 qy, .int .i64 qz, .int .i64 qu] := by rw [← hW6]; exact ((((bz.set_ 0 (.string q)).set_ 1 (.int .i64 qy)).set_ 2 (.int .i64 qz)).set_ 3 (.int .i64 qu))
             obtain ⟨gq, hgqe⟩ : ∃ gq, W5.heap.size = gq := ⟨_, rfl⟩
             have hgq : W5.heap.size ≤ gq := Nat.le_of_eq hgqe
             clear hW6 hb3 hb bz
             (try clear z0 z1 z2 z3 f0 f1 f2 f3)
             rw [hgqe] at bQ ⊢
             clear hgqe)
          have HJ6 := Lib.hid (HJ5.out.next hb4)
          have HB6 := Lib.hid (HB5.out.trans (hb4.mono HB5.out.size))
          clear pa0 pa1 pa2 pa3 ma0 ma1 e0 e1 e2 e3 d0 d1 hb4 hgq
          rcases HCASE.out with ⟨he, hst⟩ | ⟨he, hst⟩
          · subst he
            have HST := Lib.hid hst
            have hrow6 : W6.ownsRow B 23 4 (.slice (some ⟨g, b, none⟩) (k + 1) c1) (k + 1) (psL ls) := by have := HJ6.out.row; rw [HRL.out] at this; exact this
            have HROW6 := Lib.hid hrow6
            have HSZ : Hid (B ≤ W6.heap.size) := by
              show _ ≤ _
              have := HJ6.out.vb.lt
              have := HSH.out.2
              omega
            obtain ⟨q0, q1, q2, q3⟩ := four_cells bQ
            have w1k : IntKind.i64.wrap ((k : Int) + 1) = (k : Int) + 1 := by rw [IntKind.wrap_i64]; omega
            have w2k : IntKind.i64.wrap ((k : Int) + 2) = (k : Int) + 2 := by rw [IntKind.wrap_i64]; omega
            obtain ⟨⟨nk, nr⟩, hnx⟩ : ∃ x, lastI (ls ++ [⟨q, qy, qz, qu⟩]) (l.take (k + 1)) = x := ⟨_, rfl⟩
            have HNX := Lib.hid hnx
            have HSUC : Hid (runJ ⟨s, y, z, u⟩ l (k + 1) = (0, ls ++ [⟨q, qy, qz, qu⟩])) := by
              show _ = _
              rw [run_go HRUN.out (by rw [HLS.out, ← HLS.out, HX.out]) (by rw [HLS.out]; exact HCUR.out) HMV.out, hst, HLS.out]
            have HLN : Hid ((ls ++ [⟨q, qy, qz, qu⟩] : List Ps).length = k + 2) := by show _ = _; rw [List.length_append, HRL.out]; rfl
            have HTL : Hid ((l.take (k + 1)).length = k + 1) := by show _ = _; rw [List.length_take, HA.out]; omega
            have HTAKE : Hid (Rd w (some ⟨gC, bC, none⟩) (mzL (l.take (k + 1)))) := rd_take HM.out _
            clear hst HCASE hnx hrow6
            go_wp2_with (first
              | (at_builtin; refine wpList_append_own_at _ rfl _ _ 28 rfl B 23 i0 (.agg #[.string ⟨#[]⟩, .int .i64 0, .int .i64 0, .int .i64 0]) 4 40 Tryz.underlying28 hi hz0 hz1 hz2 rfl (by decide) _ _ _ rfl (own_next HROW6.out (below_new _ _)) ⟨W6.heap.size, 0, none⟩ 1 1 [.string q, .int .i64 qy, .int .i64 qz, .int .i64 qu] rfl rfl (cells_four_new _ _ _ _ _ _) (by simp [Value.oneCell']) (by unfold maxLen; omega) (by omega) (by have := HSZ.out; simp; omega) ?_; intro v1' w7 hown' hgrow _ hat; obtain ⟨A9, c9, rfl, hr9, hc9⟩ := own_any hown'))
            have hown9 : w7.ownsRow B 23 4 (.slice A9 (k + 1 + 1) c9) (ls.length + 1) (psL ls ++ [.string q, .int .i64 qy, .int .i64 qz, .int .i64 qu]) := by rw [HRL.out]; exact hown'
            have HJ7 := Lib.hid (HJ6.out.app (q := ⟨q, qy, qz, qu⟩) HSH.out.1 hgrow hown9 hat)
            have HB7 : Hid (Below w.heap.size w w7) := below_app HB6.out (HB6.out.size) (by
              have := HROW6.out
              exact ⟨this.1, by
                rcases this.2 with h | ⟨g', cap, cur, hv, hg, hc⟩
                · exact .inl h
                · exact .inr ⟨g', cap, cur, hv, by have := HSH.out.1; omega, hc⟩⟩) hgrow
            have HR9 : Hid (Rd w7 A9 (psL (ls ++ [⟨q, qy, qz, qu⟩]))) := by show Rd _ _ _; rw [psL_snoc]; exact hr9
            have HT7 := Lib.hid (hT.below HB7.out hT.lt)
            obtain ⟨g9, b9, rfl, -, -⟩ := HR9.out.ps (k := 0) (by rw [HLN.out]; omega)
            clear hown' hgrow hat hr9 hown9 q0 q1 q2 q3 bQ HROW6
            go_wp2_with fail
            have HTK7 : Hid (Rd w7 (some ⟨gC, bC, none⟩) (mzL (l.take (k + 1)))) := HTAKE.out.next HB7.out
            have HRH : Hid (w.heap.size + 1 ≠ H ∧ w.heap.size ≤ H) := ⟨by have := HSH.out; omega, by have := HSH.out; omega⟩
            have HSQ : Hid (SqM (l.take (k + 1))) := by
              show SqM _
              exact (run_chain (p := ⟨s, y, z, u⟩) (ms := l) (j := k + 1) (by rw [HA.out]; exact hlt) (by rw [HSUC.out])).sq
            refine (rlast_is _ _ (ls ++ [⟨q, qy, qz, qu⟩]) (l.take (k + 1)) (k + 2) c9 (k + 1) d nk nr w7 HT7.out HR9.out HLN.out HTK7.out HTL.out (by omega) HSQ.out (by omega) (by omega) HNX.out).mono ?_
            rintro e w8 ⟨rfl, hb8⟩
            have HB8 : Hid (Below w7.heap.size w7 w8) := hb8
            have HJ8 := Lib.hid (HJ7.out.next HB8.out)
            obtain ⟨v0, v1⟩ := two_cells HJ8.out.vb
            have f0 := HJ8.out.vb.frozen 0
            have f1 := HJ8.out.vb.frozen 1
            clear hb8
            have HJ9 := Lib.hid (HJ8.out.set HRH.out.1 nk nr)
            have HB9 : Hid (Below w.heap.size w ((w8.setCell ⟨H, 0, none⟩ (.int .i64 nk)).setCell ⟨H, 1, none⟩ (.int .i64 nr))) := ((HB7.out.trans (HB8.out.mono HB7.out.size)).setCell (p := ⟨H, 0, none⟩) HRH.out.2 _).setCell (p := ⟨H, 1, none⟩) HRH.out.2 _
            go_wp2
            go_roundw
            case rel => exact ⟨k + 1, by omega, by go_num, by rw [HSUC.out], by rw [HSUC.out]; show JudgeAt _ _ _ _ _ (ls ++ [⟨q, qy, qz, qu⟩]) (lastI (ls ++ [⟨q, qy, qz, qu⟩]) (l.take (k + 1))); rw [HNX.out]; exact HJ9.out, HB9.out⟩
            case measure => simp [intOf]; omega
            all_goals exact ⟨⟨k + 1, by omega, by go_num, by rw [HSUC.out], by rw [HSUC.out]; show JudgeAt _ _ _ _ _ (ls ++ [⟨q, qy, qz, qu⟩]) (lastI (ls ++ [⟨q, qy, qz, qu⟩]) (l.take (k + 1))); rw [HNX.out]; exact HJ8.out.set HRH.out.1 nk nr, ((HB7.out.trans (HB8.out.mono HB7.out.size)).setCell (p := ⟨H, 0, none⟩) HRH.out.2 _).setCell (p := ⟨H, 1, none⟩) HRH.out.2 _⟩, by simp [intOf]; omega⟩
          · have e0 : (er != 0) = true := by rw [bne_iff_ne]; exact he
            obtain ⟨r0, r1⟩ := two_cells HJ6.out.rb
            have f0 := HJ6.out.rb.frozen 0
            have f1 := HJ6.out.rb.frozen 1
            obtain ⟨q1, q2, q3⟩ := play_err (p := ⟨s, y, z, u⟩) (ms := l) (k := k + 1) (e := 7) HWL.out (by rw [HA.out]; exact ha9) (by rw [HA.out]; exact hlt) (by rw [run_go HRUN.out (by rw [HLS.out, ← HLS.out, HX.out]) (by rw [HLS.out]; exact HCUR.out) HMV.out, hst]) (by decide)
            have Q1 := Lib.hid q1
            have Q2 := Lib.hid q2
            have Q3 := Lib.hid q3
            clear q1 q2 q3 he hst HCASE
            go_wp2
            rw [Q1.out, Q2.out, Q3.out]
            obtain ⟨bE, hE⟩ := verdict_end1 HJ6.out.rb HB6.out 0 0
            exact bodyPost_ret (v := .tuple #[.agg #[.int .i64 0, .int .i64 0], .slice none 0 0, .int .i64 7]) (by simp [results, Tryz.results11, go_sem, bE.cell 0, bE.cell 1]) rfl ⟨none, 0, rfl, fun j u hu => by simp [psL] at hu, Nat.le_refl _, hE⟩
      · have ex : (xk != 0) = true := by rw [bne_iff_ne]; exact hx0
        obtain ⟨q1, q2, q3⟩ := play_err (p := ⟨s, y, z, u⟩) (ms := l) (k := k + 1) (e := 10) HWL.out (by rw [HA.out]; exact ha9) (by rw [HA.out]; exact hlt) (by rw [run_end HRUN.out (by rw [HLS.out, ← HLS.out, HX.out]; exact hx0)]) (by decide)
        have Q1 := Lib.hid q1
        have Q2 := Lib.hid q2
        have Q3 := Lib.hid q3
        clear q1 q2 q3 hx0
        go_wp2
        rw [Q1.out, Q2.out, Q3.out]
        obtain ⟨bE, hE⟩ := verdict_end1 hJ5.rb hB5 0 0
        exact bodyPost_ret (v := .tuple #[.agg #[.int .i64 0, .int .i64 0], .slice none 0 0, .int .i64 10]) (by simp [results, Tryz.results11, go_sem, bE.cell 0, bE.cell 1]) rfl ⟨none, 0, rfl, fun j u hu => by simp [psL] at hu, Nat.le_refl _, hE⟩
    · obtain rfl : k = a := by omega
      have bk : ¬ (k : Int) < (k : Int) := by omega
      have hl9 : l.take k = l := List.take_of_length_le (by rw [HA.out]; exact Nat.le_refl _)
      obtain ⟨q1, q2, q3⟩ := play_ok (p := ⟨s, y, z, u⟩) (ms := l) HWL.out (by rw [HA.out]; exact ha9) (by rw [HA.out]; exact HRUN.out)
      have Q1 := Lib.hid q1
      have Q2 : Hid (playV ⟨s, y, z, u⟩ l = (xk, xr)) := by
        show _ = _
        rw [q2, HA.out]
        have := HX.out
        rw [hl9] at this
        exact this
      have Q3 : Hid (playL ⟨s, y, z, u⟩ l = ls) := by
        show _ = _
        rw [q3, HA.out]
        exact HLS.out
      obtain ⟨v0, v1⟩ := two_cells hJ.vb
      obtain ⟨r0, r1⟩ := two_cells hJ.rb
      have f0 := hJ.rb.frozen 0
      have f1 := hJ.rb.frozen 1
      clear q1 q2 q3 hl9 hlt hk
      go_wp2
      rw [Q1.out, Q2.out, Q3.out]
      obtain ⟨bE, hE⟩ := verdict_end1 hJ.rb hB xk xr
      have n1 : ∀ k', (Value.slice A1 (k + 1) c1).ownBlock = some k' → w.heap.size + 1 ≠ k' := fun k' hk' => by
        have := row_baseY hrow hk'
        have := HSH.out.1
        omega
      obtain ⟨A9, c9, e9, hr9, hc9⟩ := own_any (row_set2 (u := .int .i64 xr) (i := 1) (row_set2 (u := .int .i64 xk) (i := 0) hrow n1) n1)
      cases e9
      exact bodyPost_ret (v := .tuple #[.agg #[.int .i64 xk, .int .i64 xr], .slice A1 (k + 1) c1, .int .i64 0]) (by simp [results, Tryz.results11, go_sem, bE.cell 0, bE.cell 1]) rfl ⟨A1, c1, by rw [HRL.out], hr9, by rw [HRL.out]; exact hc9, hE⟩
theorem rplay_any (p : Ps) (C : Option Addr) (l : List (Int × Int)) (a d : Nat) (w : World) (hT : Tab w) (hm : Rd w C (mzL l)) (ha : l.length = a) (had : a ≤ d) : Calls Tryz.prog 11 #[.agg #[.string p.s, .int .i64 p.y, .int .i64 p.z, .int .i64 p.u], .slice C a d] w (GivesJ w (playV p l) (playL p l) (playE p l)) := by
  by_cases hk : p.well = 0
  · by_cases h9 : a ≤ 1024
    · exact rplay_go p C l a d w hT hm ha had hk h9
    · have he : playE p l = 8 := by
        unfold playE
        rw [if_neg (by rw [hk]; simp), if_pos (by omega)]
      have hv : playV p l = (0, 0) := by unfold playV; rw [if_neg (by rw [he]; decide)]
      have hl : playL p l = [] := by unfold playL; rw [if_neg (by rw [he]; decide)]
      rw [he, hv, hl]
      exact rplay_full p C a d w hT hk (by omega)
  · have he : playE p l = p.well := by unfold playE; rw [if_pos hk]
    have hv : playV p l = (0, 0) := by unfold playV; rw [if_neg (by rw [he]; exact hk)]
    have hl : playL p l = [] := by unfold playL; rw [if_neg (by rw [he]; exact hk)]
    rw [he, hv, hl]
    exact rplay_bad p C a d w hT _ rfl hk
end Go.Proofs.YtpogpjebhnoncaaGreatDoor
namespace Go.Proofs.YtpogpjebhnoncaaGreatDoor.jplays
open Go.RowKit Go.Shelf
open M (S)
theorem playL_le (p : Ps) (l : List (Int × Int)) (h9 : l.length ≤ 1024) : (playL p l).length ≤ 1000000 := by
  by_cases he : playE p l = 0
  · have hw : p.well = 0 := by
      by_cases hk : p.well = 0
      · exact hk
      · unfold playE at he
        rw [if_pos hk] at he
        exact absurd he hk
    rw [playE_run hw h9] at he
    rw [(play_ok hw h9 he).2.2, (run_chain (Nat.le_refl _) he).len, List.take_of_length_le (Nat.le_refl _)]
    omega
  · unfold playL
    rw [if_neg he]
    exact Nat.zero_le _
structure LP (w W : World) (gv gq : Nat) (kv rv : Int) (A1 A3 : Option Addr) (ls : List Ps) : Prop where
  b : Below w.heap.size w W
  t : Tab W
  v : Blk W gv 27 #[.int .i64 kv, .int .i64 rv]
  q : Blk W gq 27 #[.int .i64 kv, .int .i64 rv]
  r1 : Rd W A1 (psL ls)
  r3 : Rd W A3 (psL ls)
theorem LP.next {w W W' : World} {gv gq : Nat} {kv rv : Int} {A1 A3 : Option Addr} {ls : List Ps} (h : LP w W gv gq kv rv A1 A3 ls) (hb : Below W.heap.size W W') : LP w W' gv gq kv rv A1 A3 ls := ⟨h.b.trans (hb.mono h.b.size), h.t.next hb, h.v.next hb, h.q.next hb, h.r1.next hb, h.r3.next hb⟩
set_option maxRecDepth 100000 in
set_option maxHeartbeats 4000000 in
theorem large (p : Ps) (C : Option Addr) (a d : Nat) (w : World) (hT : Tab w) (h : 200 < p.s.size ∨ 30 < a) : Calls Tryz.prog 3 #[.agg #[.string p.s, .int .i64 p.y, .int .i64 p.z, .int .i64 p.u], .slice C a d] w (Gives w (.bool true)) := by
  unfold Gives
  obtain ⟨s, y, z, u⟩ := p
  obtain ⟨W0, hW0⟩ : ∃ W0, w.alloc (.cells #[.string s, .int .i64 y, .int .i64 z, .int .i64 u] 23) = W0 := ⟨_, rfl⟩
  have hB : Below w.heap.size w W0 := by rw [← hW0]; exact below_new _ _
  have bP : Blk W0 w.heap.size 23 #[.string s, .int .i64 y, .int .i64 z, .int .i64 u] := by rw [← hW0]; exact Blk.new _ _ _ rfl
  obtain ⟨p0, p1, p2, p3⟩ := four_cells bP
  replace hT := hT.below hB hT.lt
  have h : 200 < s.size ∨ 30 < a := h
  have h : ((200 : Int) < (s.size : Int)) ∨ (¬ ((200 : Int) < (s.size : Int)) ∧ (30 : Int) < (a : Int)) := by omega
  rcases h with hd | ⟨hd, hd2⟩
  all_goals
    go_enter Tryz.func3, Tryz.ntmps3
    go_wp2_with fail
    (try rw [hW0])
    refine (live18_any _ hT).mono ?_
    rintro e w9 ⟨rfl, hb⟩
    go_wp2
    go_ret
    exact ⟨rfl, hB.trans (hb.mono hB.size)⟩
set_option maxRecDepth 100000 in
set_option maxHeartbeats 20000000 in
theorem small (p : Ps) (C : Option Addr) (l : List (Int × Int)) (a d : Nat) (w : World) (hT : Tab w) (hm : Rd w C (mzL l)) (ha : l.length = a) (had : a ≤ d) (h1 : p.s.size ≤ 200) (h2 : a ≤ 30) : Calls Tryz.prog 3 #[.agg #[.string p.s, .int .i64 p.y, .int .i64 p.z, .int .i64 p.u], .slice C a d] w (Gives w (.bool true)) := by
  unfold Gives
  have hj : ∀ W (_ : Tab W) (_ : Rd W C (mzL l)), Calls Tryz.prog 10 #[.agg #[.string p.s, .int .i64 p.y, .int .i64 p.z, .int .i64 p.u], .slice C a d] W (fun e w' => ∃ A c, e = .returned (.tuple #[.agg #[.int .i64 (playV p l).1, .int .i64 (playV p l).2], .slice A (playL p l).length c, .int .i64 (playE p l)]) ∧ Rd w' A (psL (playL p l)) ∧ (playL p l).length ≤ c ∧ Below W.heap.size W w') := fun W hTW hr => jplay_any p C l a d W hTW hr ha had
  have hj2 : ∀ W (_ : Tab W) (_ : Rd W C (mzL l)), Calls Tryz.prog 11 #[.agg #[.string p.s, .int .i64 p.y, .int .i64 p.z, .int .i64 p.u], .slice C a d] W (fun e w' => ∃ A c, e = .returned (.tuple #[.agg #[.int .i64 (playV p l).1, .int .i64 (playV p l).2], .slice A (playL p l).length c, .int .i64 (playE p l)]) ∧ Rd w' A (psL (playL p l)) ∧ (playL p l).length ≤ c ∧ Below W.heap.size W w') := fun W hTW hr => rplay_any p C l a d W hTW hr ha had
  have hlen : (playL p l).length ≤ 1000000 := playL_le p l (by omega)
  obtain ⟨kv, hV1⟩ : ∃ x, (playV p l).1 = x := ⟨_, rfl⟩
  obtain ⟨rv, hV2⟩ : ∃ x, (playV p l).2 = x := ⟨_, rfl⟩
  obtain ⟨ls, hL⟩ : ∃ x, playL p l = x := ⟨_, rfl⟩
  obtain ⟨er, hE⟩ : ∃ x, playE p l = x := ⟨_, rfl⟩
  rw [hV1, hV2, hL, hE] at hj hj2
  rw [hL] at hlen
  obtain ⟨n, hn⟩ : ∃ n, ls.length = n := ⟨_, rfl⟩
  rw [hn] at hj hj2 hlen
  have HN := Lib.hid hn
  have HLEN := Lib.hid hlen
  have HJ := Lib.hid hj
  have HJ2 := Lib.hid hj2
  have HA := Lib.hid ha
  obtain ⟨s, y, z, u⟩ := p
  have hd : ¬ (200 : Int) < (s.size : Int) := by have : s.size ≤ 200 := h1; omega
  have hd2 : ¬ (30 : Int) < (a : Int) := by omega
  obtain ⟨W0, hW0⟩ : ∃ W0, w.alloc (.cells #[.string s, .int .i64 y, .int .i64 z, .int .i64 u] 23) = W0 := ⟨_, rfl⟩
  have hB : Below w.heap.size w W0 := by rw [← hW0]; exact below_new _ _
  have bP : Blk W0 w.heap.size 23 #[.string s, .int .i64 y, .int .i64 z, .int .i64 u] := by rw [← hW0]; exact Blk.new _ _ _ rfl
  replace hT := hT.below hB hT.lt
  have HMM := Lib.hid (hm.next hB)
  have HP := Lib.hid bP
  have HB := Lib.hid hB
  have HW := Lib.hid hW0
  have HT := Lib.hid hT
  obtain ⟨p0, p1, p2, p3⟩ := four_cells bP
  clear hV1 hV2 hL hE hj hj2 ha h1 h2 hm hB hW0 hT bP hn hlen
  go_enter Tryz.func3, Tryz.ntmps3
  go_wp2_with fail
  (try rw [HW.out])
  refine (HJ.out _ HT.out HMM.out).mono ?_
  rintro e w1 ⟨A1, c1, rfl, hr1, hc1, hb1⟩
  have HB1 := Lib.hid (HB.out.trans (hb1.mono HB.out.size))
  have HT1 := Lib.hid (HT.out.next hb1)
  have HM1 := Lib.hid (HMM.out.next hb1)
  have HP1 := Lib.hid (HP.out.next hb1)
  have HR1 := Lib.hid hr1
  clear hr1 hc1 hb1 p0 p1 p2 p3
  obtain ⟨p0, p1, p2, p3⟩ := four_cells (HP1.out.next (below_new w1 (.cells #[.int .i64 kv, .int .i64 rv] 27)))
  obtain ⟨W2, hW2⟩ : ∃ W2, w1.alloc (.cells #[.int .i64 kv, .int .i64 rv] 27) = W2 := ⟨_, rfl⟩
  have hb2 : Below w1.heap.size w1 W2 := by rw [← hW2]; exact below_new _ _
  have HB2 := Lib.hid (HB1.out.trans (hb2.mono HB1.out.size))
  have HT2 := Lib.hid (HT1.out.next hb2)
  have HM2 := Lib.hid (HM1.out.next hb2)
  have HR2 := Lib.hid (HR1.out.next hb2)
  have HV2 : Hid (Blk W2 w1.heap.size 27 #[.int .i64 kv, .int .i64 rv]) := by show Blk _ _ _ _; rw [← hW2]; exact Blk.new _ _ _ rfl
  have HW2 := Lib.hid hW2
  clear hb2 hW2
  go_wp2_with fail
  (try rw [HW2.out])
  clear p0 p1 p2 p3
  refine (HJ2.out _ HT2.out HM2.out).mono ?_
  rintro e w3 ⟨A3, c3, rfl, hr3, hc3, hb⟩
  have hal : Below w3.heap.size w3 (w3.alloc (.cells #[.int .i64 kv, .int .i64 rv] 27)) := below_new _ _
  have hb4 := hb.trans (hal.mono hb.size)
  have HL4 : Hid (LP w (w3.alloc (.cells #[.int .i64 kv, .int .i64 rv] 27)) w1.heap.size w3.heap.size kv rv A1 A3 ls) := ⟨HB2.out.trans (hb4.mono HB2.out.size), HT2.out.next hb4, HV2.out.next hb4, Blk.new _ _ _ rfl, HR2.out.next hb4, hr3.next hal⟩
  obtain ⟨v0, v1⟩ := two_cells HL4.out.v
  obtain ⟨q0, q1⟩ := two_cells HL4.out.q
  have ek : (kv == kv) = true := by simp
  have er1 : (rv == rv) = true := by simp
  have ee : (er == er) = true := by simp
  clear hr3 hc3 hb hal hb4
  go_wp2_with fail
  refine (rsame_is _ _ ls n _ _ _ HL4.out.r1 HL4.out.r3 HN.out HLEN.out).mono ?_
  rintro e w5 ⟨rfl, hb⟩
  have HL5 := Lib.hid (HL4.out.next hb)
  clear hb q0 q1 v0 v1
  go_wp2_with fail
  refine (live18_any _ HL5.out.t).mono ?_
  rintro e w6 ⟨rfl, hb⟩
  have HL6 := Lib.hid (HL5.out.next hb)
  clear hb
  go_wp2_with fail
  go_ret
  exact ⟨rfl, HL6.out.b⟩
theorem walk (p : Ps) (C : Option Addr) (l : List (Int × Int)) (d : Nat) (w : World) (hT : Tab w) (hm : Rd w C (mzL l)) (hd : l.length ≤ d) : Calls Tryz.prog 3 #[.agg #[.string p.s, .int .i64 p.y, .int .i64 p.z, .int .i64 p.u], .slice C l.length d] w (Gives w (.bool true)) := by
  by_cases h1 : p.s.size ≤ 200
  · by_cases h2 : l.length ≤ 30
    · exact small p C l _ d w hT hm rfl hd h1 h2
    · exact large p C _ d w hT (.inr (by omega))
  · exact large p C _ d w hT (.inl (by omega))
end Go.Proofs.YtpogpjebhnoncaaGreatDoor.jplays
namespace Go.Proofs.YtpogpjebhnoncaaGreatDoor
open Go.ChangeShapes Go.WideShapes Go.ChangeAt Go.RowKit Go.Joins
open M (S)
theorem own : ownKnob Tryz.prog.godebug = none := by kernel_rfl
theorem laidOut : laidOutB Tryz.prog = true := by kernel_rfl
theorem gTab : Tryz.prog.globalNamed "math/bits.deBruijn64tab" = some 1 := by kernel_rfl
theorem gTabType : (Tryz.prog.globals[1]?).map (·.type) = some 249 := by kernel_rfl
theorem cellsTab : Tryz.prog.cellsOf 249 = 64 := by kernel_rfl
theorem cellsByte : Tryz.prog.cellsOf 5 = 1 := by kernel_rfl
theorem tab_of {W : World} (h : laidMet Tryz.prog [("math/bits.deBruijn64tab", Rows.laid_math_bits_deBruijn64tab)] W) : Tab W := fun j hj => by
  have h1 : Lib.TabIs Tryz.prog W "math/bits.deBruijn64tab" .u8 (Lib.deBruijn64tab.map fun n : Nat => (n : Int)) :=
    Lib.tabIs_of_head (rest := []) gTab gTabType Tryz.underlying249 Tryz.underlying5 cellsByte cellsTab h
  have h2 := h1.cell gTab j (by rw [List.length_map]; exact hj)
  rw [h2]
  congr 2
  cases hq : Lib.deBruijn64tab[j]? <;> simp [hq]
def typesRowed (P : Program) (ts : List TypeId) : Bool := ts.all fun t => P.readableRec t && decide (t < P.types.size)
section
variable {H : Type} {enc : TypeId × Value → H} {P : Program}
theorem trodAll_stays (hl : laidOutB P = true) {W W' : World} (hb : Below W.heap.size W W') (sp : Nat → Bool) : ∀ {ts : List TypeId} {vs : List Value} {ds : List (DataW H)} {ps : List MemPlace},
    typesRowed P ts = true → DataW.TrodAll enc P W 0 (fun _ => true) true ts vs ds ps → (∀ x ∈ ps, x.block < W.heap.size) → (∀ x ∈ ps, sp x.block = true) → DataW.TrodAll enc P W' 0 sp true ts vs ds ps
  | [], vs, ds, ps, _, h, _, _ => by
    obtain ⟨rfl, rfl, rfl⟩ := trodAll_nil h
    exact trodAll_mk0
  | t :: ts, vs, ds, ps, ht, h, hlt, hsp => by
    obtain ⟨v, vs', d, ds', p, q, rfl, rfl, rfl, h1, h2⟩ := trodAll_cons h
    simp only [typesRowed, List.all_cons, Bool.and_eq_true, decide_eq_true_eq] at ht
    refine trodAll_cons_mk (WideElems.Trod_stays hl ht.1.1 ht.1.2 h1 (fun x hx => hb.same (hlt x (by simp [hx]))) (fun x hx => hsp x (by simp [hx]))) (trodAll_stays hl hb sp ?_ h2 (fun x hx => hlt x (by simp [hx])) (fun x hx => hsp x (by simp [hx])))
    simpa [typesRowed] using ht.2
theorem law_post {f : Func} {s : ChangeSpec} {tb : TypeId} {W W' : World} {args : Array Value} {ds gs : List (DataW H)} {before : List MemPlace} (hl : laidOutB P = true) (ht : typesRowed P f.params.toList = true)
    (htb : P.underlying tb = some .bool) (hrt : f.resultTypes = #[tb]) (hv : s.vars = [])
    (hW : DataW.Whole enc P f.params.toList s.vars false W args.toList ds gs before) (hsr : (s.fn H ds).results = [.lit (.bool true)]) (hsa : (s.fn H ds).args = ds) (hsv : (s.fn H ds).vars = [])
    (hb : Below W.heap.size W W') : s.post enc P f false true false false W args (.bool true) W' := by
  have hW0 := hW
  have hlt : ∀ p ∈ before, p.block < W.heap.size := fun p hp => hW.lt p hp
  obtain ⟨p, q, hA, hV, hpq, hz, hn⟩ := hW
  rw [hv] at hV
  obtain ⟨hgs, hq⟩ := trodVars_none hV
  subst hgs hq
  rw [List.append_nil] at hpq
  subst hpq
  have hargs : ∀ sp : Nat → Bool, (∀ x ∈ before, sp x.block = true) → DataW.TrodAll enc P W' 0 sp true f.params.toList args.toList ds before := fun sp hsp => trodAll_stays hl hb sp ht hA hlt hsp
  have hold : ∀ x ∈ before, (fun b => decide (b < W.heap.size)) x.block = true := fun x hx => by simpa using hlt x hx
  have hres : ∀ (b : Nat) (sp : Nat → Bool) (hd : Bool), DataW.TrodAll enc P W' b sp hd f.resultTypes.toList ((Value.bool true).resultList f.resultTypes.size) [.lit (.bool true)] [] := fun b sp hd => by
    rw [hrt]
    exact trodAll_mk1 (shut_bool htb true)
  refine ⟨ds, [], before, [], before, [], hW0, ?_, ?_, ?_, World.keptBut_mono (fun x hx => ⟨hx, ?_⟩) (hb.frame (· ∈ before)), fun h => by cases h⟩
  · rw [List.append_nil, hsr]; exact hres _ _ _
  · rw [List.append_nil, hsa]; exact hargs _ hold
  · rw [List.append_nil, hsv, hv]; rfl
  · exact Or.inr (by simpa using hx)
end
noncomputable def laidWorld (os : Os) : World :=
  { World.holding Tryz.prog os ⟨#[], #[], []⟩ with heap := (World.holding Tryz.prog os ⟨#[], #[], []⟩).heap.modify 1 fun
      | .cells _ t frozen => .cells (Lib.deBruijn64tab.map fun n : Nat => Value.int .u8 (n : Int)).toArray t frozen
      | o => o }
end Go.Proofs.YtpogpjebhnoncaaGreatDoor
namespace Go.Proofs.YtpogpjebhnoncaaGreatDoor
open Go.ChangeShapes Go.WideShapes Go.ChangeAt Go.RowKit Go.Joins Go.Deep
set_option maxRecDepth 100000
def iOfC : Value → Int
  | .int _ n => n
  | _ => 0
theorem mz_cases {l : List (Int × Int)} {j : Nat} {u : Value} (h : (mzL l)[j]? = some u) : ∃ k, ∃ hk : k < l.length, (j = k * 2 ∧ u = iv l[k].1) ∨ (j = k * 2 + 1 ∧ u = iv l[k].2) := by
  have hj : j < l.length * 2 := by
    rcases Nat.lt_or_ge j (mzL l).length with h' | h'
    · rw [mzL_len] at h'
      exact h'
    · rw [List.getElem?_eq_none h'] at h
      cases h
  have hk : j / 2 < l.length := by omega
  obtain ⟨h0, h1⟩ := mzL_at l hk
  rcases Nat.mod_two_eq_zero_or_one j with e | e
  · have e : j = j / 2 * 2 := by omega
    rw [← e, h] at h0
    injection h0 with h0
    exact ⟨j / 2, hk, .inl ⟨e, h0⟩⟩
  · have e : j = j / 2 * 2 + 1 := by omega
    rw [← e, h] at h1
    injection h1 with h1
    exact ⟨j / 2, hk, .inr ⟨e, h1⟩⟩
theorem open_mz {H : Type} {enc : TypeId × Value → H} {w : World} {b0 : Nat} {r : Reach} {v : Value} {d : DataW H} {p : List MemPlace}
    (hv : Value.okWide Tryz.prog w r b0 24 v) (h : DataW.Trod enc Tryz.prog w 0 (fun _ => true) true 24 v d p) : ∃ (A : Option Addr) (l : List (Int × Int)) (c : Nat), v = .slice A l.length c ∧ Rd w A (mzL l) ∧ l.length ≤ c := by
  obtain ⟨a0, len, cap, rfl⟩ := okWide_slice Tryz.underlying24 hv
  obtain ⟨fuel, hf⟩ := h
  rcases Go.Deep.open_slice_pairs Tryz.underlying24 Tryz.underlying54 (by kernel_rfl) rfl rfl (by kernel_rfl) (by kernel_rfl) hf with ⟨hcs, _⟩ | ⟨a, len', cap', m, n, V0, V1, D0, D1, P0, P1, hcs, _, hl, _, hm, _, hx⟩
  · simp only [Value.cells, List.cons.injEq, Value.slice.injEq, and_true] at hcs
    obtain ⟨rfl, rfl, rfl⟩ := hcs
    exact ⟨none, [], 0, rfl, fun j u hu => by simp [mzL] at hu, Nat.le_refl _⟩
  · simp only [Value.cells, List.cons.injEq, Value.slice.injEq, and_true] at hcs
    obtain ⟨rfl, rfl, rfl⟩ := hcs
    simp only [if_true] at hm
    refine ⟨some a, (List.range len).map fun i => (iOfC (V0 i), iOfC (V1 i)), cap, by simp, fun j u hu => ⟨a, rfl, ?_⟩, by simpa using hl⟩
    obtain ⟨k, hk, hc⟩ := mz_cases hu
    have hk' : k < len := by simpa using hk
    obtain ⟨h0, h1, t0, t1⟩ := hx k (by omega)
    obtain ⟨n0, e0, _, _⟩ := DataW.trod_int Tryz.underlying3 t0
    obtain ⟨n1, e1, _, _⟩ := DataW.trod_int Tryz.underlying3 t1
    simp only [List.cons.injEq, and_true] at e0 e1
    rcases hc with ⟨rfl, rfl⟩ | ⟨rfl, rfl⟩
    · rw [h0, e0]
      simp [iOfC, e0]
    · rw [h1, e1]
      simp [iOfC, e1]
end Go.Proofs.YtpogpjebhnoncaaGreatDoor
