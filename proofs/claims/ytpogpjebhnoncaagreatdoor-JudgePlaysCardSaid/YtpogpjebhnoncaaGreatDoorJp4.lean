/- What CardJudgePlays needs, part 4: taken together by a program (tools/prune.py). -/
import Derived.Lib.TrailingZeros
import Derived.Test.YtpogpjebhnoncaaGreatDoorRows
import Derived.WalkKit
import Derived.WalkSpells
import Derived.WalkLawsBesides
import Derived.Outline
import Derived.Laws.BitsAllLaws
import Derived.Laws.OwnMore
import Derived.Deep.RegionWith
import Derived.Deep.RegionHeld3
import Derived.Deep.QuietTactic
import Derived.BigQuiet
import Derived.RangeFuncBox
import Derived.RangeFuncCalls
import Derived.RangeFuncLeaves
import Derived.RangeFuncNested
import Derived.Shelf.Abstract
import Derived.OwnWalkIn
import Derived.TacticsInMore
import Derived.LoopNIn
import Derived.LoopIn
import Derived.Maps.AppendAt
import Derived.Lib.Hide
import Derived.Laws.IdiomStrings
import Derived.Laws.EntriesVeiled
import Derived.Lib.Strings
import Derived.Lib.Walk
import Derived.Lib.Bytealg
import Derived.Shelf.Strings.Search1
import Derived.Ground.SlgfProg
import Derived.Shelf.SlicesE.IndexFunc
import Derived.Shelf.SlicesE.DeleteFunc
import Derived.Test.YtpogpjebhnoncaaGreatDoorProg
import Derived.Lib.OwnBridge
import Derived.Lib.SliceRun
import Derived.Deep.LoopGhost
import Derived.Shelf.Small.Strs
import Derived.Shelf.Slices.Turned
import Derived.Deep.AppendLies
import Derived.Deep.RegionHeldLaw
import Derived.Deep.RegionHeld
import Derived.Deep.RegionLaw
import Derived.Test.YtpogpjebhnoncaaGreatDoorCards
import Derived.Test.YtpogpjebhnoncaaGreatDoorTie
import Derived.ProofKit
import Derived.OpenShut
import Derived.Deep.DeepHandedRow
import Derived.Lib.LaidTab
import Derived.Lib.SmallJoins
import Derived.Deep.SlicePairs
import Derived.Test.YtpogpjebhnoncaaGreatDoorJp3
namespace Go.Proofs.YtpogpjebhnoncaaGreatDoor
def momentB (s : ByteArray) (a b : Nat) : Bool := (kindN (bAt s a) != 75 && kindN (bAt s a) != 80) && (kindN (bAt s b) != 80 || overB (b : Int) (sideN (bAt s b)))
def worthB (s : ByteArray) (a b : Nat) : Bool := ((kindN (bAt s a) == 78 || kindN (bAt s a) == 67) && kindN (bAt s b) == 82) || !guardB s a b
def fairB (s : ByteArray) (a b : Nat) : Bool := kindN (bAt s a) != kindN (bAt s b) || !couldB s (sideN (bAt s b)) b a
def threatB (s : ByteArray) (a b : Nat) : Bool := ((bAt s b != 46) && couldB s (sideN (bAt s a)) a b) && momentB s a b && worthB s a b && fairB s a b
def threatI (s : ByteArray) (a b : Int) : Bool := isB s && sqI a && sqI b && threatB s a.toNat b.toNat
def chasedB (s : ByteArray) (side : Int) (n : Nat) : Bool := (takesG s side).any fun m => m.2 == n && threatB s m.1 m.2
def chasedL (s : ByteArray) (side : Int) : List Int := trues (chasedB s side) 90
theorem threatI_nat {s : ByteArray} (hs : isB s = true) {a b : Nat} (ha : a < 90) (hb : b < 90) : threatI s (a : Int) (b : Int) = threatB s a b := by
  unfold threatI
  rw [hs, sqI_true (by omega), sqI_true (by omega), Int.toNat_natCast, Int.toNat_natCast]
  rfl
theorem threat_parts {s : ByteArray} {a b : Nat} : threatB s a b = true ↔ bAt s b ≠ 46 ∧ couldB s (sideN (bAt s a)) a b = true ∧ momentB s a b = true ∧ worthB s a b = true ∧ fairB s a b = true := by
  unfold threatB
  simp only [Bool.and_eq_true, bne_iff_ne, ne_eq]
  constructor
  · rintro ⟨⟨⟨⟨h1, h2⟩, h3⟩, h4⟩, h5⟩
    exact ⟨h1, h2, h3, h4, h5⟩
  · rintro ⟨h1, h2, h3, h4, h5⟩
    exact ⟨⟨⟨⟨h1, h2⟩, h3⟩, h4⟩, h5⟩
end Go.Proofs.YtpogpjebhnoncaaGreatDoor
namespace Go.Proofs.YtpogpjebhnoncaaGreatDoor
def chasedN (s : ByteArray) (side : Int) : List Nat := (List.range 90).filter (chasedB s side)
theorem chasedL_map (s : ByteArray) (side : Int) : chasedL s side = (chasedN s side).map fun n : Nat => (n : Int) := rfl
theorem chasedN_len (s : ByteArray) (side : Int) : (chasedN s side).length ≤ 90 := Nat.le_trans (List.length_filter_le _ _) (by simp)
end Go.Proofs.YtpogpjebhnoncaaGreatDoor
namespace Go.Proofs.YtpogpjebhnoncaaGreatDoor
open Go.RowKit Go.Shelf
open M (S)
def plyC (s : ByteArray) (side clock full : Int) : Bool := decide (wellN s side clock full = 0) && inB s side
def plyL (s : ByteArray) (side clock full : Int) : List Int := if wellN s side clock full = 0 ∧ inB s side = false then chasedL s (1 - side) else []
def GivesP (w : World) (c : Bool) (l : List Int) (k : Int) (e : Ending) (w' : World) : Prop := ∃ A cap, e = .returned (.tuple #[.agg #[.bool c, .slice A l.length cap], .int .i64 k]) ∧ Rd w' A (l.map iv) ∧ Below w.heap.size w w'
theorem ply_bad {s : ByteArray} {side clock full : Int} (h : wellN s side clock full ≠ 0) : plyC s side clock full = false ∧ plyL s side clock full = [] := by
  unfold plyC plyL
  rw [decide_eq_false h, if_neg fun e => h e.1]
  exact ⟨rfl, rfl⟩
theorem ply_check {s : ByteArray} {side clock full : Int} (h : wellN s side clock full = 0) (hi : inB s side = true) : plyC s side clock full = true ∧ plyL s side clock full = [] := by
  unfold plyC plyL
  rw [decide_eq_true h, hi, if_neg fun e => by cases e.2]
  exact ⟨rfl, rfl⟩
theorem ply_quiet {s : ByteArray} {side clock full : Int} (h : wellN s side clock full = 0) (hi : inB s side = false) : plyC s side clock full = false ∧ plyL s side clock full = chasedL s (1 - side) := by
  unfold plyC plyL
  rw [decide_eq_true h, hi, if_pos ⟨h, rfl⟩]
  exact ⟨rfl, rfl⟩
theorem rd_none (W : World) (A : Option Addr) : Rd W A (([] : List Int).map iv) := fun j u hu => by simp at hu
theorem rd_far {W : World} {A : Option Addr} {b : Nat} {xs : List Value} (h : Rd W A xs) (i : Nat) (u : Value) (hne : ∀ ad, A = some ad → b < ad.block) : Rd (W.setCell ⟨b, i, none⟩ u) A xs := fun j x hx => by
  obtain ⟨ad, ha, hc⟩ := h j x hx
  refine ⟨ad, ha, ?_⟩
  have hb := hne ad ha
  rw [World.cell?_setCell_other (h := fun e => by
    have e1 := congrArg Addr.block e
    have e2 : (ad.add j).block = ad.block := by
      unfold Addr.add
      split <;> rfl
    rw [e2] at e1
    have : b = ad.block := by first | exact e1 | exact e1.symm
    omega)]
  exact hc
theorem ply_cells {W : World} {g : Nat} {t : TypeId} {b x : Value} (h : Blk W g t #[b, x]) : W.cell? ⟨g, 0, none⟩ = some b ∧ W.cell? ⟨g, 1, none⟩ = some x := ⟨h.cell 0, h.cell 1⟩
theorem ply_frozen {W : World} {g : Nat} {t : TypeId} {cs : Array Value} (h : Blk W g t cs) : W.frozen? ⟨g, 0, none⟩ = false ∧ W.frozen? ⟨g, 1, none⟩ = false := ⟨h.frozen 0, h.frozen 1⟩
end Go.Proofs.YtpogpjebhnoncaaGreatDoor
namespace Go.Proofs.YtpogpjebhnoncaaGreatDoor
open Go.RowKit Go.Shelf
open M (S)
def must1 (s : ByteArray) (a b : Int) (x y : Nat) : Bool := (y != 46) && couldI s (sideN x) a b
def must2 (b : Int) (x y : Nat) : Bool := (kindN x != 75 && kindN x != 80) && (kindN y != 80 || overB b (sideN y))
def must3 (s : ByteArray) (a b : Int) (x y : Nat) : Bool := ((kindN x == 78 || kindN x == 67) && kindN y == 82) || !guardI s a b
def must4 (s : ByteArray) (a b : Int) (x y : Nat) : Bool := kindN x != kindN y || !couldI s (sideN y) b a
abbrev capV (s : ByteArray) (a b : Int) (x y : Nat) : Value := .agg #[.string s, .int .i64 a, .int .i64 b, .int .u8 (x : Int), .int .u8 (y : Int)]
abbrev CapS (w : World) (s : ByteArray) (a b : Int) (x y : Nat) (W : World) : Prop := W.cell? ⟨w.heap.size, 0, none⟩ = some (.string s) ∧ W.cell? ⟨w.heap.size, 1, none⟩ = some (.int .i64 a) ∧ W.cell? ⟨w.heap.size, 2, none⟩ = some (.int .i64 b) ∧ W.cell? ⟨w.heap.size, 3, none⟩ = some (.int .u8 (x : Int)) ∧ W.cell? ⟨w.heap.size, 4, none⟩ = some (.int .u8 (y : Int)) ∧ Tab W ∧ Below w.heap.size w W
theorem cap_keep {w : World} {s : ByteArray} {a b : Int} {x y : Nat} {W W' : World} (h : CapS w s a b x y W) (hb : Below W.heap.size W W') : CapS w s a b x y W' := by
  obtain ⟨h0, h1, h2, h3, h4, h5, h6⟩ := h
  exact ⟨(hb.cell (p := ⟨w.heap.size, 0, none⟩) (cell_lt h0)).trans h0, (hb.cell (p := ⟨w.heap.size, 1, none⟩) (cell_lt h1)).trans h1, (hb.cell (p := ⟨w.heap.size, 2, none⟩) (cell_lt h2)).trans h2, (hb.cell (p := ⟨w.heap.size, 3, none⟩) (cell_lt h3)).trans h3, (hb.cell (p := ⟨w.heap.size, 4, none⟩) (cell_lt h4)).trans h4, h5.next hb, h6.trans (hb.mono h6.size)⟩
theorem cap_tab {w : World} {s : ByteArray} {a b : Int} {x y : Nat} {W : World} (h : CapS w s a b x y W) : Tab W := h.2.2.2.2.2.1
theorem cap_below {w : World} {s : ByteArray} {a b : Int} {x y : Nat} {W : World} (h : CapS w s a b x y W) : Below w.heap.size w W := h.2.2.2.2.2.2
theorem cap_start (w : World) (s : ByteArray) (a b : Int) (x y : Nat) (hT : Tab w) : CapS w s a b x y (w.alloc (.cells #[.string s, .int .i64 a, .int .i64 b, .int .u8 (x : Int), .int .u8 (y : Int)] 236)) := by
  have bC : Blk (w.alloc (.cells #[.string s, .int .i64 a, .int .i64 b, .int .u8 (x : Int), .int .u8 (y : Int)] 236)) w.heap.size 236 #[.string s, .int .i64 a, .int .i64 b, .int .u8 (x : Int), .int .u8 (y : Int)] := Blk.new _ _ _ rfl
  exact ⟨bC.cell 0, bC.cell 1, bC.cell 2, bC.cell 3, bC.cell 4, hT.next (below_new _ _), below_new _ _⟩
theorem kind_g (c k : Nat) (w : World) (h : kindN c = k) : Calls Tryz.prog 133 #[.int .u8 (c : Int)] w (Gives w (.int .u8 (k : Int))) := (kind_is c k w h).mono fun _ _ ⟨a, b⟩ => ⟨a, b ▸ Below.refl _ _⟩
theorem kind_h (c k : Nat) (w : World) (h : Hid (kindN c = k)) : Calls Tryz.prog 133 #[.int .u8 (c : Int)] w (Gives w (.int .u8 (k : Int))) := kind_g c k w h.out
set_option maxRecDepth 100000 in
set_option maxHeartbeats 8000000 in
theorem could_be (s : ByteArray) (a b : Int) (x y : Nat) (v : Bool) (w : World) (hT : Tab w) (h : must1 s a b x y = v) : Calls Tryz.prog 273 #[capV s a b x y] w (Gives w (.bool v)) := by
  unfold Gives
  obtain ⟨W0, hW0⟩ : ∃ W0, w.alloc (.cells #[.string s, .int .i64 a, .int .i64 b, .int .u8 (x : Int), .int .u8 (y : Int)] 236) = W0 := ⟨_, rfl⟩
  have hS0 := cap_start w s a b x y hT
  rw [hW0] at hS0
  have HW := Lib.hid hW0
  unfold must1 at h
  obtain ⟨p0, p1, p2, p3, p4, hT0, hB⟩ := hS0
  by_cases h46 : y = 46
  · have e46 : ((y : Int) != 46) = false := by rw [h46]; rfl
    have hv : v = false := by rw [← h, h46]; rfl
    subst hv
    clear h h46 hW0
    go_enter Tryz.func273, Tryz.ntmps273
    go_wp2_with fail
    rw [HW.out]
    go_quiet (fail)
    go_wp2
    go_ret
    exact ⟨rfl, below_drewN hB _⟩
  · have e46 : ((y : Int) != 46) = true := by rw [bne_iff_ne]; omega
    obtain ⟨k, hk⟩ : ∃ k, sideN x = k := ⟨_, rfl⟩
    have hy : (y != 46) = true := by rw [bne_iff_ne]; exact h46
    rw [hy, Bool.true_and, hk] at h
    have HK := Lib.hid hk
    have HV := Lib.hid h
    have hS : CapS w s a b x y W0.drew := cap_keep ⟨p0, p1, p2, p3, p4, hT0, hB⟩ (Below.refl _ _).drew
    clear h h46 hW0 hk hy p0 p1 p2 p3 p4 hT0 hB
    go_enter Tryz.func273, Tryz.ntmps273
    go_wp2_with fail
    rw [HW.out]
    go_region_held3 (fun W => W.cell? ⟨w.heap.size, 0, none⟩ = some (.string s) ∧ W.cell? ⟨w.heap.size, 1, none⟩ = some (.int .i64 a) ∧ W.cell? ⟨w.heap.size, 2, none⟩ = some (.int .i64 b) ∧ W.cell? ⟨w.heap.size, 3, none⟩ = some (.int .u8 (x : Int)) ∧ W.cell? ⟨w.heap.size, 4, none⟩ = some (.int .u8 (y : Int)) ∧ Tab W ∧ Below w.heap.size w W)
      (first | exact hS | exact cap_keep (by assumption) hb)
      (first
        | (go_at_call 185; refine (gside_g x k _ HK.out).mono ?_; rintro e w1 ⟨rfl, hb⟩)
        | (go_at_call 272; refine (gcan_is s k a b v _ ?_ HV.out).mono ?_; (exact cap_tab (by assumption)); rintro e w2 ⟨rfl, hb⟩))
    all_goals
      go_wp2
      go_ret
      exact ⟨rfl, cap_below (by assumption)⟩
set_option maxRecDepth 100000 in
set_option maxHeartbeats 8000000 in
theorem moment_no (s : ByteArray) (a b : Int) (x y k : Nat) (w : World) (hT : Tab w) (hk : kindN x = k) (h : k = 75 ∨ k = 80) : Calls Tryz.prog 274 #[capV s a b x y] w (Gives w (.bool false)) := by
  unfold Gives
  obtain ⟨W0, hW0⟩ : ∃ W0, w.alloc (.cells #[.string s, .int .i64 a, .int .i64 b, .int .u8 (x : Int), .int .u8 (y : Int)] 236) = W0 := ⟨_, rfl⟩
  have hS0 := cap_start w s a b x y hT
  rw [hW0] at hS0
  have HW := Lib.hid hW0
  obtain ⟨p0, p1, p2, p3, p4, hT0, hB⟩ := hS0
  have HK := Lib.hid hk
  clear hk hW0
  by_cases h75 : k = 75
  · have e1 : ((k : Int) == 75) = true := by rw [beq_iff_eq]; omega
    clear h h75
    go_enter Tryz.func274, Tryz.ntmps274
    go_wp2_with fail
    rw [HW.out]
    refine (kind_g x k _ HK.out).mono ?_
    rintro e w1 ⟨rfl, hb⟩
    go_wp2
    go_ret
    exact ⟨rfl, hB.trans (hb.mono hB.size)⟩
  · have h80 : k = 80 := by omega
    have e1 : ((k : Int) == 75) = false := by rw [beq_eq_false_iff_ne]; omega
    have e2 : ((k : Int) == 80) = true := by rw [beq_iff_eq]; omega
    clear h h75 h80
    go_enter Tryz.func274, Tryz.ntmps274
    go_wp2_with fail
    rw [HW.out]
    refine (kind_g x k _ HK.out).mono ?_
    rintro e w1 ⟨rfl, hb⟩
    go_wp2
    go_ret
    exact ⟨rfl, hB.trans (hb.mono hB.size)⟩
set_option maxRecDepth 100000 in
set_option maxHeartbeats 8000000 in
theorem moment_far (s : ByteArray) (a b : Int) (x y k l : Nat) (w : World) (hT : Tab w) (hk : kindN x = k) (h1 : k ≠ 75) (h2 : k ≠ 80) (hl : kindN y = l) (h3 : l ≠ 80) : Calls Tryz.prog 274 #[capV s a b x y] w (Gives w (.bool true)) := by
  unfold Gives
  obtain ⟨W0, hW0⟩ : ∃ W0, w.alloc (.cells #[.string s, .int .i64 a, .int .i64 b, .int .u8 (x : Int), .int .u8 (y : Int)] 236) = W0 := ⟨_, rfl⟩
  have hS0 := cap_start w s a b x y hT
  rw [hW0] at hS0
  have HW := Lib.hid hW0
  have HS0 := Lib.hid hS0
  obtain ⟨_, _, _, p3, _, _, _⟩ := hS0
  have HK := Lib.hid hk
  have HL := Lib.hid hl
  have e1 : ((k : Int) == 75) = false := by rw [beq_eq_false_iff_ne]; omega
  have e2 : ((k : Int) == 80) = false := by rw [beq_eq_false_iff_ne]; omega
  have e3 : ((l : Int) != 80) = true := by rw [bne_iff_ne]; omega
  clear hk hl h1 h2 h3 hW0
  go_enter Tryz.func274, Tryz.ntmps274
  go_wp2_with fail
  rw [HW.out]
  refine (kind_g x k _ HK.out).mono ?_
  rintro e w1 ⟨rfl, hb0⟩
  have hS := cap_keep (cap_keep HS0.out hb0) (Below.refl _ _).drew
  clear p3
  go_wp2_with fail
  refine wp_region_held_drew (S := fun W => W.cell? ⟨w.heap.size, 0, none⟩ = some (.string s) ∧ W.cell? ⟨w.heap.size, 1, none⟩ = some (.int .i64 a) ∧ W.cell? ⟨w.heap.size, 2, none⟩ = some (.int .i64 b) ∧ W.cell? ⟨w.heap.size, 3, none⟩ = some (.int .u8 (x : Int)) ∧ W.cell? ⟨w.heap.size, 4, none⟩ = some (.int .u8 (y : Int)) ∧ Tab W ∧ Below w.heap.size w W) (by kernel_rfl) (hS) (fun hHeld => ?_)
  refine wpAnyH_take (i := 0) (oi := { dst := some 9, op := Op.fieldAddr 236 (Operand.tmp 1) 3, type := 0, pos := "chase.go:82", after := #[], guard := none }) (v := ?_) rfl (by kernel_rfl) (by kernel_rfl) (by kernel_rfl) (fun _ _ _ h => h) (Or.inl ⟨by rfl, ?_⟩) (by assumption) ?_
  case refine_2 =>
    intro w hSw
    (try dsimp only at hSw)
    (try go_simp)
    all_goals (with_reducible rfl)
  (try dsimp only [Act.put]); (try simp only [List.setIfInBounds_toArray, List.set_cons_zero, List.set_cons_succ])
  refine wpAnyH_take (i := 1) (oi := { dst := some 10, op := Op.load 5 (Operand.tmp 9), type := 5, pos := "chase.go:82", after := #[{ on := 0, ground := Ground.data }], guard := none }) (v := ?_) rfl (by kernel_rfl) (by kernel_rfl) (by kernel_rfl) (fun _ _ _ h => h) (Or.inl ⟨by rfl, ?_⟩) (by assumption) ?_
  case refine_2 =>
    intro w hSw
    (try dsimp only at hSw)
    (try go_simp)
    all_goals (with_reducible rfl)
  (try dsimp only [Act.put]); (try simp only [List.setIfInBounds_toArray, List.set_cons_zero, List.set_cons_succ])
  refine wpAnyH_ready (rs := [2]) (by kernel_rfl) (by simp) (AllReadyH.cons (o := { dst := some 11, op := Op.call { callee := Callee.value (Operand.func 133), args := #[Operand.tmp 10], argTypes := #[5] }, type := 5, pos := "chase.go:82", after := #[{ on := 1, ground := Ground.data }], guard := none }) rfl (fun K hK => ?_) AllReadyH.nil)
  go_simp
  refine (kind_g y l _ HL.out).mono ?_; rintro e w2 ⟨rfl, hb⟩
  refine hK.out _ _ ?_ (fun hHeld => ?_)
  · exact cap_keep hHeld hb
  clear hK K
  refine wpAnyH_take (i := 3) (oi := { dst := some 12, op := Op.binOp BinOp.neq 5 (Operand.tmp 11) (Operand.const (Value.int IntKind.u8 80)) 5, type := 4, pos := "chase.go:82", after := #[{ on := 2, ground := Ground.data }], guard := none }) (v := ?_) rfl (by kernel_rfl) (by kernel_rfl) (by kernel_rfl) (fun _ _ _ h => h) (Or.inl ⟨by rfl, ?_⟩) (by assumption) ?_
  case refine_2 =>
    intro w hSw
    (try dsimp only at hSw)
    (try go_simp)
    all_goals (with_reducible rfl)
  (try dsimp only [Act.put]); (try simp only [List.setIfInBounds_toArray, List.set_cons_zero, List.set_cons_succ])
  refine wpAnyH_take (i := 4) (oi := { dst := some 13, op := Op.move (Operand.tmp 12), type := 4, pos := "chase.go:82", after := #[{ on := 3, ground := Ground.data }, { on := 2, ground := Ground.chain }], guard := none }) (v := ?_) rfl (by kernel_rfl) (by kernel_rfl) (by kernel_rfl) (fun _ _ _ h => h) (Or.inl ⟨by rfl, ?_⟩) (by assumption) ?_
  case refine_2 =>
    intro w hSw
    (try dsimp only at hSw)
    (try go_simp)
    all_goals (with_reducible rfl)
  (try dsimp only [Act.put]); (try simp only [List.setIfInBounds_toArray, List.set_cons_zero, List.set_cons_succ])
  refine wpAnyH_take (i := 5) (oi := { dst := some 14, op := Op.fieldAddr 236 (Operand.tmp 1) 1, type := 0, pos := "chase.go:82", after := #[{ on := 4, ground := Ground.guard }], guard := some (4, false) }) (v := undef) rfl (by kernel_rfl) (by kernel_rfl) (by kernel_rfl) (fun _ _ _ h => h) (Or.inr ⟨by rfl, rfl⟩) (by assumption) ?_
  (try dsimp only [Act.put]); (try simp only [List.setIfInBounds_toArray, List.set_cons_zero, List.set_cons_succ])
  refine wpAnyH_take (i := 6) (oi := { dst := some 15, op := Op.fieldAddr 54 (Operand.tmp 14) 1, type := 0, pos := "chase.go:82", after := #[{ on := 5, ground := Ground.data }, { on := 4, ground := Ground.guard }], guard := some (4, false) }) (v := undef) rfl (by kernel_rfl) (by kernel_rfl) (by kernel_rfl) (fun _ _ _ h => h) (Or.inr ⟨by rfl, rfl⟩) (by assumption) ?_
  (try dsimp only [Act.put]); (try simp only [List.setIfInBounds_toArray, List.set_cons_zero, List.set_cons_succ])
  refine wpAnyH_take (i := 7) (oi := { dst := some 16, op := Op.load 3 (Operand.tmp 15), type := 3, pos := "chase.go:82", after := #[{ on := 6, ground := Ground.data }, { on := 4, ground := Ground.guard }], guard := some (4, false) }) (v := undef) rfl (by kernel_rfl) (by kernel_rfl) (by kernel_rfl) (fun _ _ _ h => h) (Or.inr ⟨by rfl, rfl⟩) (by assumption) ?_
  (try dsimp only [Act.put]); (try simp only [List.setIfInBounds_toArray, List.set_cons_zero, List.set_cons_succ])
  refine wpAnyH_take (i := 8) (oi := { dst := some 17, op := Op.fieldAddr 236 (Operand.tmp 1) 3, type := 0, pos := "chase.go:82", after := #[{ on := 4, ground := Ground.guard }], guard := some (4, false) }) (v := undef) rfl (by kernel_rfl) (by kernel_rfl) (by kernel_rfl) (fun _ _ _ h => h) (Or.inr ⟨by rfl, rfl⟩) (by assumption) ?_
  (try dsimp only [Act.put]); (try simp only [List.setIfInBounds_toArray, List.set_cons_zero, List.set_cons_succ])
  refine wpAnyH_take (i := 9) (oi := { dst := some 18, op := Op.load 5 (Operand.tmp 17), type := 5, pos := "chase.go:82", after := #[{ on := 8, ground := Ground.data }, { on := 4, ground := Ground.guard }], guard := some (4, false) }) (v := undef) rfl (by kernel_rfl) (by kernel_rfl) (by kernel_rfl) (fun _ _ _ h => h) (Or.inr ⟨by rfl, rfl⟩) (by assumption) ?_
  (try dsimp only [Act.put]); (try simp only [List.setIfInBounds_toArray, List.set_cons_zero, List.set_cons_succ])
  refine wpAnyH_ready (rs := [10]) (by kernel_rfl) (by simp) (AllReadyH.cons (o := { dst := some 19, op := Op.call { callee := Callee.value (Operand.func 185), args := #[Operand.tmp 18], argTypes := #[5] }, type := 3, pos := "chase.go:82", after := #[{ on := 9, ground := Ground.data }, { on := 4, ground := Ground.chain }, { on := 4, ground := Ground.guard }], guard := some (4, false) }) rfl (fun K hK => ?_) AllReadyH.nil)
  split
  · rename_i hw
    exact Bool.noConfusion (show false = true from hw)
  refine hK.out _ _ ?_ (fun hHeld => ?_)
  · assumption
  clear hK K
  refine wpAnyH_ready (rs := [11]) (by kernel_rfl) (by simp) (AllReadyH.cons (o := { dst := some 20, op := Op.call { callee := Callee.value (Operand.func 238), args := #[Operand.tmp 16, Operand.tmp 19], argTypes := #[3, 3] }, type := 4, pos := "chase.go:82", after := #[{ on := 7, ground := Ground.data }, { on := 10, ground := Ground.data }, { on := 10, ground := Ground.chain }, { on := 4, ground := Ground.guard }], guard := some (4, false) }) rfl (fun K hK => ?_) AllReadyH.nil)
  split
  · rename_i hw
    exact Bool.noConfusion (show false = true from hw)
  refine hK.out _ _ ?_ (fun hHeld => ?_)
  · assumption
  clear hK K
  refine wpAnyH_take (i := 12) (oi := { dst := some 21, op := Op.pick (Operand.tmp 13) (Operand.const (Value.bool true)) (Operand.tmp 20), type := 4, pos := "chase.go:82", after := #[{ on := 4, ground := Ground.data }, { on := 11, ground := Ground.data }], guard := none }) (v := ?_) rfl (by kernel_rfl) (by kernel_rfl) (by kernel_rfl) (fun _ _ _ h => h) (Or.inl ⟨by rfl, ?_⟩) (by assumption) ?_
  case refine_2 =>
    intro w hSw
    (try dsimp only at hSw)
    (try go_simp)
    all_goals (with_reducible rfl)
  (try dsimp only [Act.put]); (try simp only [List.setIfInBounds_toArray, List.set_cons_zero, List.set_cons_succ])
  refine wpAnyH_take (i := 13) (oi := { dst := some 2, op := Op.assign (Operand.tmp 21), type := 4, pos := "chase.go:82", after := #[{ on := 12, ground := Ground.data }, { on := 11, ground := Ground.chain }, { on := 0, ground := Ground.phase }, { on := 1, ground := Ground.phase }, { on := 2, ground := Ground.phase }, { on := 3, ground := Ground.phase }, { on := 4, ground := Ground.phase }, { on := 5, ground := Ground.phase }, { on := 6, ground := Ground.phase }, { on := 7, ground := Ground.phase }, { on := 8, ground := Ground.phase }, { on := 9, ground := Ground.phase }, { on := 10, ground := Ground.phase }, { on := 11, ground := Ground.phase }, { on := 12, ground := Ground.phase }], guard := none }) (v := ?_) rfl (by kernel_rfl) (by kernel_rfl) (by kernel_rfl) (fun _ _ _ h => h) (Or.inl ⟨by rfl, ?_⟩) (by assumption) ?_
  case refine_2 =>
    intro w hSw
    (try dsimp only at hSw)
    (try go_simp)
    all_goals (with_reducible rfl)
  (try dsimp only [Act.put]); (try simp only [List.setIfInBounds_toArray, List.set_cons_zero, List.set_cons_succ])
  refine wpAnyH_done (by kernel_rfl) ?_ _
  go_wp2
  go_ret
  exact ⟨rfl, cap_below (by assumption)⟩
set_option maxRecDepth 100000 in
set_option maxHeartbeats 8000000 in
theorem moment_pawn (s : ByteArray) (a b : Int) (x y k l : Nat) (o : Int) (v : Bool) (w : World) (hT : Tab w) (hk : kindN x = k) (h1 : k ≠ 75) (h2 : k ≠ 80) (hl : kindN y = l) (h3 : l = 80) (ho : sideN y = o) (hv : overB b o = v) : Calls Tryz.prog 274 #[capV s a b x y] w (Gives w (.bool v)) := by
  unfold Gives
  obtain ⟨W0, hW0⟩ : ∃ W0, w.alloc (.cells #[.string s, .int .i64 a, .int .i64 b, .int .u8 (x : Int), .int .u8 (y : Int)] 236) = W0 := ⟨_, rfl⟩
  have hS0 := cap_start w s a b x y hT
  rw [hW0] at hS0
  have HW := Lib.hid hW0
  have HS0 := Lib.hid hS0
  obtain ⟨_, _, _, p3, _, _, _⟩ := hS0
  have HK := Lib.hid hk
  have HL := Lib.hid hl
  have HO := Lib.hid ho
  have HV := Lib.hid hv
  have e1 : ((k : Int) == 75) = false := by rw [beq_eq_false_iff_ne]; omega
  have e2 : ((k : Int) == 80) = false := by rw [beq_eq_false_iff_ne]; omega
  have e3 : ((l : Int) != 80) = false := by rw [h3]; rfl
  clear hk hl h1 h2 h3 hW0 ho hv
  go_enter Tryz.func274, Tryz.ntmps274
  go_wp2_with fail
  rw [HW.out]
  refine (kind_g x k _ HK.out).mono ?_
  rintro e w1 ⟨rfl, hb0⟩
  have hS := cap_keep (cap_keep HS0.out hb0) (Below.refl _ _).drew
  clear p3
  go_wp2_with fail
  refine wp_region_held_drew (S := fun W => W.cell? ⟨w.heap.size, 0, none⟩ = some (.string s) ∧ W.cell? ⟨w.heap.size, 1, none⟩ = some (.int .i64 a) ∧ W.cell? ⟨w.heap.size, 2, none⟩ = some (.int .i64 b) ∧ W.cell? ⟨w.heap.size, 3, none⟩ = some (.int .u8 (x : Int)) ∧ W.cell? ⟨w.heap.size, 4, none⟩ = some (.int .u8 (y : Int)) ∧ Tab W ∧ Below w.heap.size w W) (by kernel_rfl) (hS) (fun hHeld => ?_)
  refine wpAnyH_take (i := 0) (oi := { dst := some 9, op := Op.fieldAddr 236 (Operand.tmp 1) 3, type := 0, pos := "chase.go:82", after := #[], guard := none }) (v := ?_) rfl (by kernel_rfl) (by kernel_rfl) (by kernel_rfl) (fun _ _ _ h => h) (Or.inl ⟨by rfl, ?_⟩) (by assumption) ?_
  case refine_2 =>
    intro w hSw
    (try dsimp only at hSw)
    (try go_simp)
    all_goals (with_reducible rfl)
  (try dsimp only [Act.put]); (try simp only [List.setIfInBounds_toArray, List.set_cons_zero, List.set_cons_succ])
  refine wpAnyH_take (i := 1) (oi := { dst := some 10, op := Op.load 5 (Operand.tmp 9), type := 5, pos := "chase.go:82", after := #[{ on := 0, ground := Ground.data }], guard := none }) (v := ?_) rfl (by kernel_rfl) (by kernel_rfl) (by kernel_rfl) (fun _ _ _ h => h) (Or.inl ⟨by rfl, ?_⟩) (by assumption) ?_
  case refine_2 =>
    intro w hSw
    (try dsimp only at hSw)
    (try go_simp)
    all_goals (with_reducible rfl)
  (try dsimp only [Act.put]); (try simp only [List.setIfInBounds_toArray, List.set_cons_zero, List.set_cons_succ])
  refine wpAnyH_ready (rs := [2]) (by kernel_rfl) (by simp) (AllReadyH.cons (o := { dst := some 11, op := Op.call { callee := Callee.value (Operand.func 133), args := #[Operand.tmp 10], argTypes := #[5] }, type := 5, pos := "chase.go:82", after := #[{ on := 1, ground := Ground.data }], guard := none }) rfl (fun K hK => ?_) AllReadyH.nil)
  go_simp
  refine (kind_g y l _ HL.out).mono ?_; rintro e w2 ⟨rfl, hb⟩
  refine hK.out _ _ ?_ (fun hHeld => ?_)
  · exact cap_keep hHeld hb
  clear hK K
  refine wpAnyH_take (i := 3) (oi := { dst := some 12, op := Op.binOp BinOp.neq 5 (Operand.tmp 11) (Operand.const (Value.int IntKind.u8 80)) 5, type := 4, pos := "chase.go:82", after := #[{ on := 2, ground := Ground.data }], guard := none }) (v := ?_) rfl (by kernel_rfl) (by kernel_rfl) (by kernel_rfl) (fun _ _ _ h => h) (Or.inl ⟨by rfl, ?_⟩) (by assumption) ?_
  case refine_2 =>
    intro w hSw
    (try dsimp only at hSw)
    (try go_simp)
    all_goals (with_reducible rfl)
  (try dsimp only [Act.put]); (try simp only [List.setIfInBounds_toArray, List.set_cons_zero, List.set_cons_succ])
  refine wpAnyH_take (i := 4) (oi := { dst := some 13, op := Op.move (Operand.tmp 12), type := 4, pos := "chase.go:82", after := #[{ on := 3, ground := Ground.data }, { on := 2, ground := Ground.chain }], guard := none }) (v := ?_) rfl (by kernel_rfl) (by kernel_rfl) (by kernel_rfl) (fun _ _ _ h => h) (Or.inl ⟨by rfl, ?_⟩) (by assumption) ?_
  case refine_2 =>
    intro w hSw
    (try dsimp only at hSw)
    (try go_simp)
    all_goals (with_reducible rfl)
  (try dsimp only [Act.put]); (try simp only [List.setIfInBounds_toArray, List.set_cons_zero, List.set_cons_succ])
  refine wpAnyH_take (i := 5) (oi := { dst := some 14, op := Op.fieldAddr 236 (Operand.tmp 1) 1, type := 0, pos := "chase.go:82", after := #[{ on := 4, ground := Ground.guard }], guard := some (4, false) }) (v := ?_) rfl (by kernel_rfl) (by kernel_rfl) (by kernel_rfl) (fun _ _ _ h => h) (Or.inl ⟨by rfl, ?_⟩) (by assumption) ?_
  case refine_2 =>
    intro w hSw
    (try dsimp only at hSw)
    (try go_simp)
    all_goals (with_reducible rfl)
  (try dsimp only [Act.put]); (try simp only [List.setIfInBounds_toArray, List.set_cons_zero, List.set_cons_succ])
  refine wpAnyH_take (i := 6) (oi := { dst := some 15, op := Op.fieldAddr 54 (Operand.tmp 14) 1, type := 0, pos := "chase.go:82", after := #[{ on := 5, ground := Ground.data }, { on := 4, ground := Ground.guard }], guard := some (4, false) }) (v := ?_) rfl (by kernel_rfl) (by kernel_rfl) (by kernel_rfl) (fun _ _ _ h => h) (Or.inl ⟨by rfl, ?_⟩) (by assumption) ?_
  case refine_2 =>
    intro w hSw
    (try dsimp only at hSw)
    (try go_simp)
    all_goals (with_reducible rfl)
  (try dsimp only [Act.put]); (try simp only [List.setIfInBounds_toArray, List.set_cons_zero, List.set_cons_succ])
  refine wpAnyH_take (i := 7) (oi := { dst := some 16, op := Op.load 3 (Operand.tmp 15), type := 3, pos := "chase.go:82", after := #[{ on := 6, ground := Ground.data }, { on := 4, ground := Ground.guard }], guard := some (4, false) }) (v := ?_) rfl (by kernel_rfl) (by kernel_rfl) (by kernel_rfl) (fun _ _ _ h => h) (Or.inl ⟨by rfl, ?_⟩) (by assumption) ?_
  case refine_2 =>
    intro w hSw
    (try dsimp only at hSw)
    (try go_simp)
    all_goals (with_reducible rfl)
  (try dsimp only [Act.put]); (try simp only [List.setIfInBounds_toArray, List.set_cons_zero, List.set_cons_succ])
  refine wpAnyH_take (i := 8) (oi := { dst := some 17, op := Op.fieldAddr 236 (Operand.tmp 1) 3, type := 0, pos := "chase.go:82", after := #[{ on := 4, ground := Ground.guard }], guard := some (4, false) }) (v := ?_) rfl (by kernel_rfl) (by kernel_rfl) (by kernel_rfl) (fun _ _ _ h => h) (Or.inl ⟨by rfl, ?_⟩) (by assumption) ?_
  case refine_2 =>
    intro w hSw
    (try dsimp only at hSw)
    (try go_simp)
    all_goals (with_reducible rfl)
  (try dsimp only [Act.put]); (try simp only [List.setIfInBounds_toArray, List.set_cons_zero, List.set_cons_succ])
  refine wpAnyH_take (i := 9) (oi := { dst := some 18, op := Op.load 5 (Operand.tmp 17), type := 5, pos := "chase.go:82", after := #[{ on := 8, ground := Ground.data }, { on := 4, ground := Ground.guard }], guard := some (4, false) }) (v := ?_) rfl (by kernel_rfl) (by kernel_rfl) (by kernel_rfl) (fun _ _ _ h => h) (Or.inl ⟨by rfl, ?_⟩) (by assumption) ?_
  case refine_2 =>
    intro w hSw
    (try dsimp only at hSw)
    (try go_simp)
    all_goals (with_reducible rfl)
  (try dsimp only [Act.put]); (try simp only [List.setIfInBounds_toArray, List.set_cons_zero, List.set_cons_succ])
  refine wpAnyH_ready (rs := [10]) (by kernel_rfl) (by simp) (AllReadyH.cons (o := { dst := some 19, op := Op.call { callee := Callee.value (Operand.func 185), args := #[Operand.tmp 18], argTypes := #[5] }, type := 3, pos := "chase.go:82", after := #[{ on := 9, ground := Ground.data }, { on := 4, ground := Ground.chain }, { on := 4, ground := Ground.guard }], guard := some (4, false) }) rfl (fun K hK => ?_) AllReadyH.nil)
  go_simp
  refine (gside_g y o _ HO.out).mono ?_; rintro e w3 ⟨rfl, hb⟩
  refine hK.out _ _ ?_ (fun hHeld => ?_)
  · exact cap_keep hHeld hb
  clear hK K
  refine wpAnyH_ready (rs := [11]) (by kernel_rfl) (by simp) (AllReadyH.cons (o := { dst := some 20, op := Op.call { callee := Callee.value (Operand.func 238), args := #[Operand.tmp 16, Operand.tmp 19], argTypes := #[3, 3] }, type := 4, pos := "chase.go:82", after := #[{ on := 7, ground := Ground.data }, { on := 10, ground := Ground.data }, { on := 10, ground := Ground.chain }, { on := 4, ground := Ground.guard }], guard := some (4, false) }) rfl (fun K hK => ?_) AllReadyH.nil)
  go_simp
  refine (over_is b o v _ HV.out).mono ?_; rintro e w4 ⟨rfl, hb⟩
  refine hK.out _ _ ?_ (fun hHeld => ?_)
  · exact cap_keep hHeld hb
  clear hK K
  refine wpAnyH_take (i := 12) (oi := { dst := some 21, op := Op.pick (Operand.tmp 13) (Operand.const (Value.bool true)) (Operand.tmp 20), type := 4, pos := "chase.go:82", after := #[{ on := 4, ground := Ground.data }, { on := 11, ground := Ground.data }], guard := none }) (v := ?_) rfl (by kernel_rfl) (by kernel_rfl) (by kernel_rfl) (fun _ _ _ h => h) (Or.inl ⟨by rfl, ?_⟩) (by assumption) ?_
  case refine_2 =>
    intro w hSw
    (try dsimp only at hSw)
    (try go_simp)
    all_goals (with_reducible rfl)
  (try dsimp only [Act.put]); (try simp only [List.setIfInBounds_toArray, List.set_cons_zero, List.set_cons_succ])
  refine wpAnyH_take (i := 13) (oi := { dst := some 2, op := Op.assign (Operand.tmp 21), type := 4, pos := "chase.go:82", after := #[{ on := 12, ground := Ground.data }, { on := 11, ground := Ground.chain }, { on := 0, ground := Ground.phase }, { on := 1, ground := Ground.phase }, { on := 2, ground := Ground.phase }, { on := 3, ground := Ground.phase }, { on := 4, ground := Ground.phase }, { on := 5, ground := Ground.phase }, { on := 6, ground := Ground.phase }, { on := 7, ground := Ground.phase }, { on := 8, ground := Ground.phase }, { on := 9, ground := Ground.phase }, { on := 10, ground := Ground.phase }, { on := 11, ground := Ground.phase }, { on := 12, ground := Ground.phase }], guard := none }) (v := ?_) rfl (by kernel_rfl) (by kernel_rfl) (by kernel_rfl) (fun _ _ _ h => h) (Or.inl ⟨by rfl, ?_⟩) (by assumption) ?_
  case refine_2 =>
    intro w hSw
    (try dsimp only at hSw)
    (try go_simp)
    all_goals (with_reducible rfl)
  (try dsimp only [Act.put]); (try simp only [List.setIfInBounds_toArray, List.set_cons_zero, List.set_cons_succ])
  refine wpAnyH_done (by kernel_rfl) ?_ _
  go_wp2
  go_ret
  exact ⟨rfl, cap_below (by assumption)⟩
theorem of_moment (s : ByteArray) (a b : Int) (x y : Nat) (v : Bool) (w : World) (hT : Tab w) (h : must2 b x y = v) : Calls Tryz.prog 274 #[capV s a b x y] w (Gives w (.bool v)) := by
  subst h
  by_cases h75 : kindN x = 75
  · have e : must2 b x y = false := by
      unfold must2
      rw [h75]
      rfl
    rw [e]
    exact moment_no s a b x y _ w hT rfl (.inl h75)
  · by_cases h80 : kindN x = 80
    · have e : must2 b x y = false := by
        unfold must2
        rw [h80]
        rfl
      rw [e]
      exact moment_no s a b x y _ w hT rfl (.inr h80)
    · have e0 : (kindN x != 75 && kindN x != 80) = true := by
        rw [Bool.and_eq_true, bne_iff_ne, bne_iff_ne]
        exact ⟨h75, h80⟩
      by_cases hy : kindN y = 80
      · have e : must2 b x y = overB b (sideN y) := by
          unfold must2
          rw [e0, hy]
          rfl
        rw [e]
        exact moment_pawn s a b x y _ _ _ _ w hT rfl h75 h80 rfl hy rfl rfl
      · have e : must2 b x y = true := by
          unfold must2
          rw [e0, show (kindN y != 80) = true by rw [bne_iff_ne]; exact hy]
          rfl
        rw [e]
        exact moment_far s a b x y _ _ w hT rfl h75 h80 rfl hy
end Go.Proofs.YtpogpjebhnoncaaGreatDoor
namespace Go.Proofs.YtpogpjebhnoncaaGreatDoor
open Go.RowKit Go.Shelf
open M (S)
set_option maxRecDepth 100000 in
set_option maxHeartbeats 8000000 in
theorem worth_yes (s : ByteArray) (a b : Int) (x y k l : Nat) (w : World) (hT : Tab w) (hk : kindN x = k) (h1 : k = 78 ∨ k = 67) (hl : kindN y = l) (h2 : l = 82) : Calls Tryz.prog 275 #[capV s a b x y] w (Gives w (.bool true)) := by
  unfold Gives
  obtain ⟨W0, hW0⟩ : ∃ W0, w.alloc (.cells #[.string s, .int .i64 a, .int .i64 b, .int .u8 (x : Int), .int .u8 (y : Int)] 236) = W0 := ⟨_, rfl⟩
  have hS0 := cap_start w s a b x y hT
  rw [hW0] at hS0
  have HW := Lib.hid hW0
  have HS0 := Lib.hid hS0
  obtain ⟨_, _, _, p3, _, _, _⟩ := hS0
  have HK := Lib.hid hk
  have HL := Lib.hid hl
  have e3 : ((l : Int) == 82) = true := by rw [beq_iff_eq]; omega
  clear hk hl h2 hW0
  by_cases h78 : k = 78
  · have e1 : ((k : Int) == 78) = true := by rw [beq_iff_eq]; omega
    clear h1 h78
    go_enter Tryz.func275, Tryz.ntmps275
    go_wp2_with fail
    rw [HW.out]
    refine (kind_g x k _ HK.out).mono ?_
    rintro e w1 ⟨rfl, hb⟩
    obtain ⟨_, _, _, q3, q4, _, hB⟩ := cap_keep HS0.out hb
    clear p3 hb
    go_wp2_with fail
    refine (kind_g y l _ HL.out).mono ?_
    rintro e w2 ⟨rfl, hb⟩
    go_wp2
    go_ret
    exact ⟨rfl, hB.trans (hb.mono hB.size)⟩
  · have e1 : ((k : Int) == 78) = false := by rw [beq_eq_false_iff_ne]; omega
    have e2 : ((k : Int) == 67) = true := by rw [beq_iff_eq]; omega
    clear h1 h78
    go_enter Tryz.func275, Tryz.ntmps275
    go_wp2_with fail
    rw [HW.out]
    refine (kind_g x k _ HK.out).mono ?_
    rintro e w1 ⟨rfl, hb⟩
    obtain ⟨_, _, _, q3, q4, _, hB⟩ := cap_keep HS0.out hb
    clear p3 hb
    go_wp2_with fail
    refine (kind_g y l _ HL.out).mono ?_
    rintro e w2 ⟨rfl, hb⟩
    go_wp2
    go_ret
    exact ⟨rfl, hB.trans (hb.mono hB.size)⟩
set_option maxRecDepth 100000 in
set_option maxHeartbeats 8000000 in
theorem worth_not (s : ByteArray) (a b : Int) (x y k l : Nat) (g : Bool) (w : World) (hT : Tab w) (hk : kindN x = k) (hl : kindN y = l) (h : ¬ ((k = 78 ∨ k = 67) ∧ l = 82)) (hg : guardI s a b = g) : Calls Tryz.prog 275 #[capV s a b x y] w (Gives w (.bool (!g))) := by
  unfold Gives
  obtain ⟨W0, hW0⟩ : ∃ W0, w.alloc (.cells #[.string s, .int .i64 a, .int .i64 b, .int .u8 (x : Int), .int .u8 (y : Int)] 236) = W0 := ⟨_, rfl⟩
  have hS0 := cap_start w s a b x y hT
  rw [hW0] at hS0
  have HW := Lib.hid hW0
  have HS0 := Lib.hid hS0
  obtain ⟨_, _, _, p3, _, _, _⟩ := hS0
  have HK := Lib.hid hk
  have HL := Lib.hid hl
  have HG := Lib.hid hg
  clear hk hl hg hW0
  by_cases h1 : k = 78
  · have e1 : ((k : Int) == 78) = true := by rw [beq_iff_eq]; omega
    have e3 : ((l : Int) == 82) = false := by rw [beq_eq_false_iff_ne]; omega
    clear h h1
    go_enter Tryz.func275, Tryz.ntmps275
    go_wp2_with fail
    rw [HW.out]
    refine (kind_g x k _ HK.out).mono ?_
    rintro e w1 ⟨rfl, hb⟩
    have HS1 := Lib.hid (cap_keep HS0.out hb)
    obtain ⟨_, _, _, q3, q4, _, hB⟩ := HS1.out
    clear p3 hb
    go_wp2_with fail
    refine (kind_g y l _ HL.out).mono ?_
    rintro e w2 ⟨rfl, hb⟩
    obtain ⟨r0, r1, r2, _, _, hT2, hB2⟩ := cap_keep HS1.out hb
    clear q3 q4 hb hB
    go_wp2_with fail
    refine (gguard_is s a b g _ hT2 HG.out).mono ?_
    rintro e w3 ⟨rfl, hb⟩
    go_wp2
    go_ret
    exact ⟨rfl, hB2.trans (hb.mono hB2.size)⟩
  · by_cases h2 : k = 67
    · have e1 : ((k : Int) == 78) = false := by rw [beq_eq_false_iff_ne]; omega
      have e2 : ((k : Int) == 67) = true := by rw [beq_iff_eq]; omega
      have e3 : ((l : Int) == 82) = false := by rw [beq_eq_false_iff_ne]; omega
      clear h h1 h2
      go_enter Tryz.func275, Tryz.ntmps275
      go_wp2_with fail
      rw [HW.out]
      refine (kind_g x k _ HK.out).mono ?_
      rintro e w1 ⟨rfl, hb⟩
      have HS1 := Lib.hid (cap_keep HS0.out hb)
      obtain ⟨_, _, _, q3, q4, _, hB⟩ := HS1.out
      clear p3 hb
      go_wp2_with fail
      refine (kind_g y l _ HL.out).mono ?_
      rintro e w2 ⟨rfl, hb⟩
      obtain ⟨r0, r1, r2, _, _, hT2, hB2⟩ := cap_keep HS1.out hb
      clear q3 q4 hb hB
      go_wp2_with fail
      refine (gguard_is s a b g _ hT2 HG.out).mono ?_
      rintro e w3 ⟨rfl, hb⟩
      go_wp2
      go_ret
      exact ⟨rfl, hB2.trans (hb.mono hB2.size)⟩
    · have e1 : ((k : Int) == 78) = false := by rw [beq_eq_false_iff_ne]; omega
      have e2 : ((k : Int) == 67) = false := by rw [beq_eq_false_iff_ne]; omega
      clear h h1 h2
      go_enter Tryz.func275, Tryz.ntmps275
      go_wp2_with fail
      rw [HW.out]
      refine (kind_g x k _ HK.out).mono ?_
      rintro e w1 ⟨rfl, hb⟩
      obtain ⟨r0, r1, r2, _, _, hT2, hB2⟩ := cap_keep HS0.out hb
      clear p3 hb
      go_wp2_with fail
      refine (gguard_is s a b g _ hT2 HG.out).mono ?_
      rintro e w3 ⟨rfl, hb⟩
      go_wp2
      go_ret
      exact ⟨rfl, hB2.trans (hb.mono hB2.size)⟩
theorem of_worth (s : ByteArray) (a b : Int) (x y : Nat) (v : Bool) (w : World) (hT : Tab w) (h : must3 s a b x y = v) : Calls Tryz.prog 275 #[capV s a b x y] w (Gives w (.bool v)) := by
  subst h
  by_cases hc : (kindN x = 78 ∨ kindN x = 67) ∧ kindN y = 82
  · have e : must3 s a b x y = true := by
      unfold must3
      rw [hc.2]
      rcases hc.1 with h | h <;> rw [h] <;> rfl
    rw [e]
    exact worth_yes s a b x y _ _ w hT rfl hc.1 rfl hc.2
  · have e : must3 s a b x y = !guardI s a b := by
      unfold must3
      have : ((kindN x == 78 || kindN x == 67) && kindN y == 82) = false := by
        rw [Bool.eq_false_iff]
        intro h
        simp only [Bool.and_eq_true, Bool.or_eq_true, beq_iff_eq] at h
        exact hc h
      rw [this, Bool.false_or]
    rw [e]
    exact worth_not s a b x y _ _ _ w hT rfl rfl hc rfl
abbrev FairS (w : World) (s : ByteArray) (a b : Int) (x y : Nat) (W : World) : Prop := CapS w s a b x y W ∧ W.cell? ⟨w.heap.size + 1, 0, none⟩ = some (.int .i64 b) ∧ W.cell? ⟨w.heap.size + 1, 1, none⟩ = some (.int .i64 a)
theorem fair_keep {w : World} {s : ByteArray} {a b : Int} {x y : Nat} {W W' : World} (h : (W.cell? ⟨w.heap.size, 0, none⟩ = some (.string s) ∧ W.cell? ⟨w.heap.size, 1, none⟩ = some (.int .i64 a) ∧ W.cell? ⟨w.heap.size, 2, none⟩ = some (.int .i64 b) ∧ W.cell? ⟨w.heap.size, 3, none⟩ = some (.int .u8 (x : Int)) ∧ W.cell? ⟨w.heap.size, 4, none⟩ = some (.int .u8 (y : Int)) ∧ Tab W ∧ Below w.heap.size w W) ∧ W.cell? ⟨w.heap.size + 1, 0, none⟩ = some (.int .i64 b) ∧ W.cell? ⟨w.heap.size + 1, 1, none⟩ = some (.int .i64 a)) (hb : Below W.heap.size W W') : FairS w s a b x y W' :=
  ⟨cap_keep h.1 hb, (hb.cell (p := ⟨w.heap.size + 1, 0, none⟩) (cell_lt h.2.1)).trans h.2.1, (hb.cell (p := ⟨w.heap.size + 1, 1, none⟩) (cell_lt h.2.2)).trans h.2.2⟩
theorem fair_start (w : World) (s : ByteArray) (a b : Int) (x y : Nat) (hT : Tab w) : FairS w s a b x y ((w.alloc (.cells #[.string s, .int .i64 a, .int .i64 b, .int .u8 (x : Int), .int .u8 (y : Int)] 236)).alloc (.cells #[.int .i64 b, .int .i64 a] 54)) := by
  have bC : Blk ((w.alloc (.cells #[.string s, .int .i64 a, .int .i64 b, .int .u8 (x : Int), .int .u8 (y : Int)] 236)).alloc (.cells #[.int .i64 b, .int .i64 a] 54)) (w.heap.size + 1) 54 #[.int .i64 b, .int .i64 a] := Blk.new _ _ _ (by simp)
  exact ⟨cap_keep (cap_start w s a b x y hT) (below_new _ _), bC.cell 0, bC.cell 1⟩
set_option maxRecDepth 100000 in
set_option maxHeartbeats 8000000 in
theorem fair_yes (s : ByteArray) (a b : Int) (x y k l : Nat) (w : World) (hT : Tab w) (hk : kindN x = k) (hl : kindN y = l) (h : k ≠ l) : Calls Tryz.prog 276 #[capV s a b x y] w (Gives w (.bool true)) := by
  unfold Gives
  obtain ⟨W0, hW0⟩ : ∃ W0, (w.alloc (.cells #[.string s, .int .i64 a, .int .i64 b, .int .u8 (x : Int), .int .u8 (y : Int)] 236)).alloc (.cells #[.int .i64 b, .int .i64 a] 54) = W0 := ⟨_, rfl⟩
  have hS0 := fair_start w s a b x y hT
  rw [hW0] at hS0
  have hS := fair_keep hS0 (Below.refl _ _).drew
  have HW := Lib.hid hW0
  have HK := Lib.hid hk
  have HL := Lib.hid hl
  have e1 : ((k : Int) != (l : Int)) = true := by rw [bne_iff_ne]; omega
  clear hk hl h hW0 hS0
  go_enter Tryz.func276, Tryz.ntmps276
  go_wp2_with fail
  rw [HW.out]
  refine wp_region_held_drew (S := fun W => (W.cell? ⟨w.heap.size, 0, none⟩ = some (.string s) ∧ W.cell? ⟨w.heap.size, 1, none⟩ = some (.int .i64 a) ∧ W.cell? ⟨w.heap.size, 2, none⟩ = some (.int .i64 b) ∧ W.cell? ⟨w.heap.size, 3, none⟩ = some (.int .u8 (x : Int)) ∧ W.cell? ⟨w.heap.size, 4, none⟩ = some (.int .u8 (y : Int)) ∧ Tab W ∧ Below w.heap.size w W) ∧ W.cell? ⟨w.heap.size + 1, 0, none⟩ = some (.int .i64 b) ∧ W.cell? ⟨w.heap.size + 1, 1, none⟩ = some (.int .i64 a)) (by kernel_rfl) (hS) (fun hHeld => ?_)
  refine wpAnyH_take (i := 0) (oi := { dst := some 11, op := Op.fieldAddr 236 (Operand.tmp 1) 2, type := 0, pos := "chase.go:99", after := #[], guard := none }) (v := ?_) rfl (by kernel_rfl) (by kernel_rfl) (by kernel_rfl) (fun _ _ _ h => h) (Or.inl ⟨by rfl, ?_⟩) (by assumption) ?_
  case refine_2 =>
    intro w hSw
    (try dsimp only at hSw)
    (try go_simp)
    all_goals (with_reducible rfl)
  (try dsimp only [Act.put]); (try simp only [List.setIfInBounds_toArray, List.set_cons_zero, List.set_cons_succ])
  refine wpAnyH_take (i := 1) (oi := { dst := some 12, op := Op.load 5 (Operand.tmp 11), type := 5, pos := "chase.go:99", after := #[{ on := 0, ground := Ground.data }], guard := none }) (v := ?_) rfl (by kernel_rfl) (by kernel_rfl) (by kernel_rfl) (fun _ _ _ h => h) (Or.inl ⟨by rfl, ?_⟩) (by assumption) ?_
  case refine_2 =>
    intro w hSw
    (try dsimp only at hSw)
    (try go_simp)
    all_goals (with_reducible rfl)
  (try dsimp only [Act.put]); (try simp only [List.setIfInBounds_toArray, List.set_cons_zero, List.set_cons_succ])
  refine wpAnyH_take (i := 3) (oi := { dst := some 14, op := Op.fieldAddr 236 (Operand.tmp 1) 3, type := 0, pos := "chase.go:99", after := #[], guard := none }) (v := ?_) rfl (by kernel_rfl) (by kernel_rfl) (by kernel_rfl) (fun _ _ _ h => h) (Or.inl ⟨by rfl, ?_⟩) (by assumption) ?_
  case refine_2 =>
    intro w hSw
    (try dsimp only at hSw)
    (try go_simp)
    all_goals (with_reducible rfl)
  (try dsimp only [Act.put]); (try simp only [List.setIfInBounds_toArray, List.set_cons_zero, List.set_cons_succ])
  refine wpAnyH_take (i := 4) (oi := { dst := some 15, op := Op.load 5 (Operand.tmp 14), type := 5, pos := "chase.go:99", after := #[{ on := 3, ground := Ground.data }], guard := none }) (v := ?_) rfl (by kernel_rfl) (by kernel_rfl) (by kernel_rfl) (fun _ _ _ h => h) (Or.inl ⟨by rfl, ?_⟩) (by assumption) ?_
  case refine_2 =>
    intro w hSw
    (try dsimp only at hSw)
    (try go_simp)
    all_goals (with_reducible rfl)
  (try dsimp only [Act.put]); (try simp only [List.setIfInBounds_toArray, List.set_cons_zero, List.set_cons_succ])
  refine wpAnyH_ready (rs := [2]) (by kernel_rfl) (by simp) (AllReadyH.cons (o := { dst := some 13, op := Op.call { callee := Callee.value (Operand.func 133), args := #[Operand.tmp 12], argTypes := #[5] }, type := 5, pos := "chase.go:99", after := #[{ on := 1, ground := Ground.data }], guard := none }) rfl (fun K hK => ?_) AllReadyH.nil)
  go_simp
  refine (kind_h _ _ _ (by first | with_reducible exact HK | with_reducible exact HL)).mono ?_; rintro e w2 ⟨rfl, hb⟩
  refine hK.out _ _ ?_ (fun hHeld => ?_)
  · exact fair_keep hHeld hb
  clear hK K
  refine wpAnyH_ready (rs := [5]) (by kernel_rfl) (by simp) (AllReadyH.cons (o := { dst := some 16, op := Op.call { callee := Callee.value (Operand.func 133), args := #[Operand.tmp 15], argTypes := #[5] }, type := 5, pos := "chase.go:99", after := #[{ on := 4, ground := Ground.data }, { on := 2, ground := Ground.chain }], guard := none }) rfl (fun K hK => ?_) AllReadyH.nil)
  go_simp
  refine (kind_h _ _ _ (by first | with_reducible exact HK | with_reducible exact HL)).mono ?_; rintro e w2 ⟨rfl, hb⟩
  refine hK.out _ _ ?_ (fun hHeld => ?_)
  · exact fair_keep hHeld hb
  clear hK K
  refine wpAnyH_take (i := 6) (oi := { dst := some 17, op := Op.binOp BinOp.neq 5 (Operand.tmp 13) (Operand.tmp 16) 5, type := 4, pos := "chase.go:99", after := #[{ on := 2, ground := Ground.data }, { on := 5, ground := Ground.data }], guard := none }) (v := ?_) rfl (by kernel_rfl) (by kernel_rfl) (by kernel_rfl) (fun _ _ _ h => h) (Or.inl ⟨by rfl, ?_⟩) (by assumption) ?_
  case refine_2 =>
    intro w hSw
    (try dsimp only at hSw)
    (try go_simp)
    all_goals (with_reducible rfl)
  (try dsimp only [Act.put]); (try simp only [List.setIfInBounds_toArray, List.set_cons_zero, List.set_cons_succ])
  refine wpAnyH_take (i := 7) (oi := { dst := some 18, op := Op.move (Operand.tmp 17), type := 4, pos := "chase.go:99", after := #[{ on := 6, ground := Ground.data }, { on := 5, ground := Ground.chain }], guard := none }) (v := ?_) rfl (by kernel_rfl) (by kernel_rfl) (by kernel_rfl) (fun _ _ _ h => h) (Or.inl ⟨by rfl, ?_⟩) (by assumption) ?_
  case refine_2 =>
    intro w hSw
    (try dsimp only at hSw)
    (try go_simp)
    all_goals (with_reducible rfl)
  (try dsimp only [Act.put]); (try simp only [List.setIfInBounds_toArray, List.set_cons_zero, List.set_cons_succ])
  refine wpAnyH_take (i := 8) (oi := { dst := some 19, op := Op.fieldAddr 236 (Operand.tmp 1) 0, type := 0, pos := "chase.go:99", after := #[{ on := 7, ground := Ground.guard }], guard := some (7, false) }) (v := undef) rfl (by kernel_rfl) (by kernel_rfl) (by kernel_rfl) (fun _ _ _ h => h) (Or.inr ⟨by rfl, rfl⟩) (by assumption) ?_
  (try dsimp only [Act.put]); (try simp only [List.setIfInBounds_toArray, List.set_cons_zero, List.set_cons_succ])
  refine wpAnyH_take (i := 9) (oi := { dst := some 20, op := Op.load 9 (Operand.tmp 19), type := 9, pos := "chase.go:99", after := #[{ on := 8, ground := Ground.data }, { on := 7, ground := Ground.guard }], guard := some (7, false) }) (v := undef) rfl (by kernel_rfl) (by kernel_rfl) (by kernel_rfl) (fun _ _ _ h => h) (Or.inr ⟨by rfl, rfl⟩) (by assumption) ?_
  (try dsimp only [Act.put]); (try simp only [List.setIfInBounds_toArray, List.set_cons_zero, List.set_cons_succ])
  refine wpAnyH_take (i := 10) (oi := { dst := some 21, op := Op.fieldAddr 236 (Operand.tmp 1) 3, type := 0, pos := "chase.go:99", after := #[{ on := 7, ground := Ground.guard }], guard := some (7, false) }) (v := undef) rfl (by kernel_rfl) (by kernel_rfl) (by kernel_rfl) (fun _ _ _ h => h) (Or.inr ⟨by rfl, rfl⟩) (by assumption) ?_
  (try dsimp only [Act.put]); (try simp only [List.setIfInBounds_toArray, List.set_cons_zero, List.set_cons_succ])
  refine wpAnyH_take (i := 11) (oi := { dst := some 22, op := Op.load 5 (Operand.tmp 21), type := 5, pos := "chase.go:99", after := #[{ on := 10, ground := Ground.data }, { on := 7, ground := Ground.guard }], guard := some (7, false) }) (v := undef) rfl (by kernel_rfl) (by kernel_rfl) (by kernel_rfl) (fun _ _ _ h => h) (Or.inr ⟨by rfl, rfl⟩) (by assumption) ?_
  (try dsimp only [Act.put]); (try simp only [List.setIfInBounds_toArray, List.set_cons_zero, List.set_cons_succ])
  refine wpAnyH_take (i := 13) (oi := { dst := some 24, op := Op.load 54 (Operand.tmp 3), type := 54, pos := "chase.go:99", after := #[{ on := 7, ground := Ground.guard }], guard := some (7, false) }) (v := undef) rfl (by kernel_rfl) (by kernel_rfl) (by kernel_rfl) (fun _ _ _ h => h) (Or.inr ⟨by rfl, rfl⟩) (by assumption) ?_
  (try dsimp only [Act.put]); (try simp only [List.setIfInBounds_toArray, List.set_cons_zero, List.set_cons_succ])
  refine wpAnyH_ready (rs := [12]) (by kernel_rfl) (by simp) (AllReadyH.cons (o := { dst := some 23, op := Op.call { callee := Callee.value (Operand.func 185), args := #[Operand.tmp 22], argTypes := #[5] }, type := 3, pos := "chase.go:99", after := #[{ on := 11, ground := Ground.data }, { on := 7, ground := Ground.chain }, { on := 7, ground := Ground.guard }], guard := some (7, false) }) rfl (fun K hK => ?_) AllReadyH.nil)
  split
  · rename_i hw
    exact Bool.noConfusion (show false = true from hw)
  refine hK.out _ _ ?_ (fun hHeld => ?_)
  · assumption
  clear hK K
  refine wpAnyH_ready (rs := [14]) (by kernel_rfl) (by simp) (AllReadyH.cons (o := { dst := some 25, op := Op.call { callee := Callee.value (Operand.func 272), args := #[Operand.tmp 20, Operand.tmp 23, Operand.tmp 24], argTypes := #[9, 3, 54] }, type := 4, pos := "chase.go:99", after := #[{ on := 9, ground := Ground.data }, { on := 12, ground := Ground.data }, { on := 13, ground := Ground.data }, { on := 12, ground := Ground.chain }, { on := 7, ground := Ground.guard }], guard := some (7, false) }) rfl (fun K hK => ?_) AllReadyH.nil)
  split
  · rename_i hw
    exact Bool.noConfusion (show false = true from hw)
  refine hK.out _ _ ?_ (fun hHeld => ?_)
  · assumption
  clear hK K
  refine wpAnyH_take (i := 15) (oi := { dst := some 26, op := Op.unOp UnOp.not 4 (Operand.tmp 25), type := 4, pos := "chase.go:99", after := #[{ on := 14, ground := Ground.data }, { on := 7, ground := Ground.guard }], guard := some (7, false) }) (v := undef) rfl (by kernel_rfl) (by kernel_rfl) (by kernel_rfl) (fun _ _ _ h => h) (Or.inr ⟨by rfl, rfl⟩) (by assumption) ?_
  (try dsimp only [Act.put]); (try simp only [List.setIfInBounds_toArray, List.set_cons_zero, List.set_cons_succ])
  refine wpAnyH_take (i := 16) (oi := { dst := some 27, op := Op.pick (Operand.tmp 18) (Operand.const (Value.bool true)) (Operand.tmp 26), type := 4, pos := "chase.go:99", after := #[{ on := 7, ground := Ground.data }, { on := 15, ground := Ground.data }], guard := none }) (v := ?_) rfl (by kernel_rfl) (by kernel_rfl) (by kernel_rfl) (fun _ _ _ h => h) (Or.inl ⟨by rfl, ?_⟩) (by assumption) ?_
  case refine_2 =>
    intro w hSw
    (try dsimp only at hSw)
    (try go_simp)
    all_goals (with_reducible rfl)
  (try dsimp only [Act.put]); (try simp only [List.setIfInBounds_toArray, List.set_cons_zero, List.set_cons_succ])
  refine wpAnyH_take (i := 17) (oi := { dst := some 2, op := Op.assign (Operand.tmp 27), type := 4, pos := "chase.go:99", after := #[{ on := 16, ground := Ground.data }, { on := 14, ground := Ground.chain }, { on := 0, ground := Ground.phase }, { on := 1, ground := Ground.phase }, { on := 2, ground := Ground.phase }, { on := 3, ground := Ground.phase }, { on := 4, ground := Ground.phase }, { on := 5, ground := Ground.phase }, { on := 6, ground := Ground.phase }, { on := 7, ground := Ground.phase }, { on := 8, ground := Ground.phase }, { on := 9, ground := Ground.phase }, { on := 10, ground := Ground.phase }, { on := 11, ground := Ground.phase }, { on := 12, ground := Ground.phase }, { on := 13, ground := Ground.phase }, { on := 14, ground := Ground.phase }, { on := 15, ground := Ground.phase }, { on := 16, ground := Ground.phase }], guard := none }) (v := ?_) rfl (by kernel_rfl) (by kernel_rfl) (by kernel_rfl) (fun _ _ _ h => h) (Or.inl ⟨by rfl, ?_⟩) (by assumption) ?_
  case refine_2 =>
    intro w hSw
    (try dsimp only at hSw)
    (try go_simp)
    all_goals (with_reducible rfl)
  (try dsimp only [Act.put]); (try simp only [List.setIfInBounds_toArray, List.set_cons_zero, List.set_cons_succ])
  refine wpAnyH_done (by kernel_rfl) ?_ _
  all_goals
    go_wp2
    go_ret
    exact ⟨rfl, cap_below hHeld.1⟩
set_option maxRecDepth 100000 in
set_option maxHeartbeats 8000000 in
theorem fair_same (s : ByteArray) (a b : Int) (x y k : Nat) (o : Int) (v : Bool) (w : World) (hT : Tab w) (hk : kindN x = k) (hl : kindN y = k) (ho : sideN y = o) (hv : couldI s o b a = v) : Calls Tryz.prog 276 #[capV s a b x y] w (Gives w (.bool (!v))) := by
  unfold Gives
  obtain ⟨W0, hW0⟩ : ∃ W0, (w.alloc (.cells #[.string s, .int .i64 a, .int .i64 b, .int .u8 (x : Int), .int .u8 (y : Int)] 236)).alloc (.cells #[.int .i64 b, .int .i64 a] 54) = W0 := ⟨_, rfl⟩
  have hS0 := fair_start w s a b x y hT
  rw [hW0] at hS0
  have hS := fair_keep hS0 (Below.refl _ _).drew
  have HW := Lib.hid hW0
  have HK := Lib.hid hk
  have HL := Lib.hid hl
  have HO := Lib.hid ho
  have HV := Lib.hid hv
  have e1 : ((k : Int) != (k : Int)) = false := by simp
  clear hk hl ho hv hW0 hS0
  go_enter Tryz.func276, Tryz.ntmps276
  go_wp2_with fail
  rw [HW.out]
  refine wp_region_held_drew (S := fun W => (W.cell? ⟨w.heap.size, 0, none⟩ = some (.string s) ∧ W.cell? ⟨w.heap.size, 1, none⟩ = some (.int .i64 a) ∧ W.cell? ⟨w.heap.size, 2, none⟩ = some (.int .i64 b) ∧ W.cell? ⟨w.heap.size, 3, none⟩ = some (.int .u8 (x : Int)) ∧ W.cell? ⟨w.heap.size, 4, none⟩ = some (.int .u8 (y : Int)) ∧ Tab W ∧ Below w.heap.size w W) ∧ W.cell? ⟨w.heap.size + 1, 0, none⟩ = some (.int .i64 b) ∧ W.cell? ⟨w.heap.size + 1, 1, none⟩ = some (.int .i64 a)) (by kernel_rfl) (hS) (fun hHeld => ?_)
  refine wpAnyH_take (i := 0) (oi := { dst := some 11, op := Op.fieldAddr 236 (Operand.tmp 1) 2, type := 0, pos := "chase.go:99", after := #[], guard := none }) (v := ?_) rfl (by kernel_rfl) (by kernel_rfl) (by kernel_rfl) (fun _ _ _ h => h) (Or.inl ⟨by rfl, ?_⟩) (by assumption) ?_
  case refine_2 =>
    intro w hSw
    (try dsimp only at hSw)
    (try go_simp)
    all_goals (with_reducible rfl)
  (try dsimp only [Act.put]); (try simp only [List.setIfInBounds_toArray, List.set_cons_zero, List.set_cons_succ])
  refine wpAnyH_take (i := 1) (oi := { dst := some 12, op := Op.load 5 (Operand.tmp 11), type := 5, pos := "chase.go:99", after := #[{ on := 0, ground := Ground.data }], guard := none }) (v := ?_) rfl (by kernel_rfl) (by kernel_rfl) (by kernel_rfl) (fun _ _ _ h => h) (Or.inl ⟨by rfl, ?_⟩) (by assumption) ?_
  case refine_2 =>
    intro w hSw
    (try dsimp only at hSw)
    (try go_simp)
    all_goals (with_reducible rfl)
  (try dsimp only [Act.put]); (try simp only [List.setIfInBounds_toArray, List.set_cons_zero, List.set_cons_succ])
  refine wpAnyH_take (i := 3) (oi := { dst := some 14, op := Op.fieldAddr 236 (Operand.tmp 1) 3, type := 0, pos := "chase.go:99", after := #[], guard := none }) (v := ?_) rfl (by kernel_rfl) (by kernel_rfl) (by kernel_rfl) (fun _ _ _ h => h) (Or.inl ⟨by rfl, ?_⟩) (by assumption) ?_
  case refine_2 =>
    intro w hSw
    (try dsimp only at hSw)
    (try go_simp)
    all_goals (with_reducible rfl)
  (try dsimp only [Act.put]); (try simp only [List.setIfInBounds_toArray, List.set_cons_zero, List.set_cons_succ])
  refine wpAnyH_take (i := 4) (oi := { dst := some 15, op := Op.load 5 (Operand.tmp 14), type := 5, pos := "chase.go:99", after := #[{ on := 3, ground := Ground.data }], guard := none }) (v := ?_) rfl (by kernel_rfl) (by kernel_rfl) (by kernel_rfl) (fun _ _ _ h => h) (Or.inl ⟨by rfl, ?_⟩) (by assumption) ?_
  case refine_2 =>
    intro w hSw
    (try dsimp only at hSw)
    (try go_simp)
    all_goals (with_reducible rfl)
  (try dsimp only [Act.put]); (try simp only [List.setIfInBounds_toArray, List.set_cons_zero, List.set_cons_succ])
  refine wpAnyH_ready (rs := [2]) (by kernel_rfl) (by simp) (AllReadyH.cons (o := { dst := some 13, op := Op.call { callee := Callee.value (Operand.func 133), args := #[Operand.tmp 12], argTypes := #[5] }, type := 5, pos := "chase.go:99", after := #[{ on := 1, ground := Ground.data }], guard := none }) rfl (fun K hK => ?_) AllReadyH.nil)
  go_simp
  refine (kind_h _ _ _ (by first | with_reducible exact HK | with_reducible exact HL)).mono ?_; rintro e w2 ⟨rfl, hb⟩
  refine hK.out _ _ ?_ (fun hHeld => ?_)
  · exact fair_keep hHeld hb
  clear hK K
  refine wpAnyH_ready (rs := [5]) (by kernel_rfl) (by simp) (AllReadyH.cons (o := { dst := some 16, op := Op.call { callee := Callee.value (Operand.func 133), args := #[Operand.tmp 15], argTypes := #[5] }, type := 5, pos := "chase.go:99", after := #[{ on := 4, ground := Ground.data }, { on := 2, ground := Ground.chain }], guard := none }) rfl (fun K hK => ?_) AllReadyH.nil)
  go_simp
  refine (kind_h _ _ _ (by first | with_reducible exact HK | with_reducible exact HL)).mono ?_; rintro e w2 ⟨rfl, hb⟩
  refine hK.out _ _ ?_ (fun hHeld => ?_)
  · exact fair_keep hHeld hb
  clear hK K
  refine wpAnyH_take (i := 6) (oi := { dst := some 17, op := Op.binOp BinOp.neq 5 (Operand.tmp 13) (Operand.tmp 16) 5, type := 4, pos := "chase.go:99", after := #[{ on := 2, ground := Ground.data }, { on := 5, ground := Ground.data }], guard := none }) (v := ?_) rfl (by kernel_rfl) (by kernel_rfl) (by kernel_rfl) (fun _ _ _ h => h) (Or.inl ⟨by rfl, ?_⟩) (by assumption) ?_
  case refine_2 =>
    intro w hSw
    (try dsimp only at hSw)
    (try go_simp)
    all_goals (with_reducible rfl)
  (try dsimp only [Act.put]); (try simp only [List.setIfInBounds_toArray, List.set_cons_zero, List.set_cons_succ])
  refine wpAnyH_take (i := 7) (oi := { dst := some 18, op := Op.move (Operand.tmp 17), type := 4, pos := "chase.go:99", after := #[{ on := 6, ground := Ground.data }, { on := 5, ground := Ground.chain }], guard := none }) (v := ?_) rfl (by kernel_rfl) (by kernel_rfl) (by kernel_rfl) (fun _ _ _ h => h) (Or.inl ⟨by rfl, ?_⟩) (by assumption) ?_
  case refine_2 =>
    intro w hSw
    (try dsimp only at hSw)
    (try go_simp)
    all_goals (with_reducible rfl)
  (try dsimp only [Act.put]); (try simp only [List.setIfInBounds_toArray, List.set_cons_zero, List.set_cons_succ])
  refine wpAnyH_take (i := 8) (oi := { dst := some 19, op := Op.fieldAddr 236 (Operand.tmp 1) 0, type := 0, pos := "chase.go:99", after := #[{ on := 7, ground := Ground.guard }], guard := some (7, false) }) (v := ?_) rfl (by kernel_rfl) (by kernel_rfl) (by kernel_rfl) (fun _ _ _ h => h) (Or.inl ⟨by rfl, ?_⟩) (by assumption) ?_
  case refine_2 =>
    intro w hSw
    (try dsimp only at hSw)
    (try go_simp)
    all_goals (with_reducible rfl)
  (try dsimp only [Act.put]); (try simp only [List.setIfInBounds_toArray, List.set_cons_zero, List.set_cons_succ])
  refine wpAnyH_take (i := 9) (oi := { dst := some 20, op := Op.load 9 (Operand.tmp 19), type := 9, pos := "chase.go:99", after := #[{ on := 8, ground := Ground.data }, { on := 7, ground := Ground.guard }], guard := some (7, false) }) (v := ?_) rfl (by kernel_rfl) (by kernel_rfl) (by kernel_rfl) (fun _ _ _ h => h) (Or.inl ⟨by rfl, ?_⟩) (by assumption) ?_
  case refine_2 =>
    intro w hSw
    (try dsimp only at hSw)
    (try go_simp)
    all_goals (with_reducible rfl)
  (try dsimp only [Act.put]); (try simp only [List.setIfInBounds_toArray, List.set_cons_zero, List.set_cons_succ])
  refine wpAnyH_take (i := 10) (oi := { dst := some 21, op := Op.fieldAddr 236 (Operand.tmp 1) 3, type := 0, pos := "chase.go:99", after := #[{ on := 7, ground := Ground.guard }], guard := some (7, false) }) (v := ?_) rfl (by kernel_rfl) (by kernel_rfl) (by kernel_rfl) (fun _ _ _ h => h) (Or.inl ⟨by rfl, ?_⟩) (by assumption) ?_
  case refine_2 =>
    intro w hSw
    (try dsimp only at hSw)
    (try go_simp)
    all_goals (with_reducible rfl)
  (try dsimp only [Act.put]); (try simp only [List.setIfInBounds_toArray, List.set_cons_zero, List.set_cons_succ])
  refine wpAnyH_take (i := 11) (oi := { dst := some 22, op := Op.load 5 (Operand.tmp 21), type := 5, pos := "chase.go:99", after := #[{ on := 10, ground := Ground.data }, { on := 7, ground := Ground.guard }], guard := some (7, false) }) (v := ?_) rfl (by kernel_rfl) (by kernel_rfl) (by kernel_rfl) (fun _ _ _ h => h) (Or.inl ⟨by rfl, ?_⟩) (by assumption) ?_
  case refine_2 =>
    intro w hSw
    (try dsimp only at hSw)
    (try go_simp)
    all_goals (with_reducible rfl)
  (try dsimp only [Act.put]); (try simp only [List.setIfInBounds_toArray, List.set_cons_zero, List.set_cons_succ])
  refine wpAnyH_take (i := 13) (oi := { dst := some 24, op := Op.load 54 (Operand.tmp 3), type := 54, pos := "chase.go:99", after := #[{ on := 7, ground := Ground.guard }], guard := some (7, false) }) (v := ?_) rfl (by kernel_rfl) (by kernel_rfl) (by kernel_rfl) (fun _ _ _ h => h) (Or.inl ⟨by rfl, ?_⟩) (by assumption) ?_
  case refine_2 =>
    intro w hSw
    (try dsimp only at hSw)
    (try go_simp)
    all_goals (with_reducible rfl)
  (try dsimp only [Act.put]); (try simp only [List.setIfInBounds_toArray, List.set_cons_zero, List.set_cons_succ])
  refine wpAnyH_ready (rs := [12]) (by kernel_rfl) (by simp) (AllReadyH.cons (o := { dst := some 23, op := Op.call { callee := Callee.value (Operand.func 185), args := #[Operand.tmp 22], argTypes := #[5] }, type := 3, pos := "chase.go:99", after := #[{ on := 11, ground := Ground.data }, { on := 7, ground := Ground.chain }, { on := 7, ground := Ground.guard }], guard := some (7, false) }) rfl (fun K hK => ?_) AllReadyH.nil)
  go_simp
  refine (gside_g y o _ HO.out).mono ?_; rintro e w3 ⟨rfl, hb⟩
  refine hK.out _ _ ?_ (fun hHeld => ?_)
  · exact fair_keep hHeld hb
  clear hK K
  refine wpAnyH_ready (rs := [14]) (by kernel_rfl) (by simp) (AllReadyH.cons (o := { dst := some 25, op := Op.call { callee := Callee.value (Operand.func 272), args := #[Operand.tmp 20, Operand.tmp 23, Operand.tmp 24], argTypes := #[9, 3, 54] }, type := 4, pos := "chase.go:99", after := #[{ on := 9, ground := Ground.data }, { on := 12, ground := Ground.data }, { on := 13, ground := Ground.data }, { on := 12, ground := Ground.chain }, { on := 7, ground := Ground.guard }], guard := some (7, false) }) rfl (fun K hK => ?_) AllReadyH.nil)
  go_simp
  refine (gcan_is s o b a v _ (cap_tab hHeld.1) HV.out).mono ?_; rintro e w4 ⟨rfl, hb⟩
  refine hK.out _ _ ?_ (fun hHeld => ?_)
  · exact fair_keep hHeld hb
  clear hK K
  refine wpAnyH_take (i := 15) (oi := { dst := some 26, op := Op.unOp UnOp.not 4 (Operand.tmp 25), type := 4, pos := "chase.go:99", after := #[{ on := 14, ground := Ground.data }, { on := 7, ground := Ground.guard }], guard := some (7, false) }) (v := ?_) rfl (by kernel_rfl) (by kernel_rfl) (by kernel_rfl) (fun _ _ _ h => h) (Or.inl ⟨by rfl, ?_⟩) (by assumption) ?_
  case refine_2 =>
    intro w hSw
    (try dsimp only at hSw)
    (try go_simp)
    all_goals (with_reducible rfl)
  (try dsimp only [Act.put]); (try simp only [List.setIfInBounds_toArray, List.set_cons_zero, List.set_cons_succ])
  refine wpAnyH_take (i := 16) (oi := { dst := some 27, op := Op.pick (Operand.tmp 18) (Operand.const (Value.bool true)) (Operand.tmp 26), type := 4, pos := "chase.go:99", after := #[{ on := 7, ground := Ground.data }, { on := 15, ground := Ground.data }], guard := none }) (v := ?_) rfl (by kernel_rfl) (by kernel_rfl) (by kernel_rfl) (fun _ _ _ h => h) (Or.inl ⟨by rfl, ?_⟩) (by assumption) ?_
  case refine_2 =>
    intro w hSw
    (try dsimp only at hSw)
    (try go_simp)
    all_goals (with_reducible rfl)
  (try dsimp only [Act.put]); (try simp only [List.setIfInBounds_toArray, List.set_cons_zero, List.set_cons_succ])
  refine wpAnyH_take (i := 17) (oi := { dst := some 2, op := Op.assign (Operand.tmp 27), type := 4, pos := "chase.go:99", after := #[{ on := 16, ground := Ground.data }, { on := 14, ground := Ground.chain }, { on := 0, ground := Ground.phase }, { on := 1, ground := Ground.phase }, { on := 2, ground := Ground.phase }, { on := 3, ground := Ground.phase }, { on := 4, ground := Ground.phase }, { on := 5, ground := Ground.phase }, { on := 6, ground := Ground.phase }, { on := 7, ground := Ground.phase }, { on := 8, ground := Ground.phase }, { on := 9, ground := Ground.phase }, { on := 10, ground := Ground.phase }, { on := 11, ground := Ground.phase }, { on := 12, ground := Ground.phase }, { on := 13, ground := Ground.phase }, { on := 14, ground := Ground.phase }, { on := 15, ground := Ground.phase }, { on := 16, ground := Ground.phase }], guard := none }) (v := ?_) rfl (by kernel_rfl) (by kernel_rfl) (by kernel_rfl) (fun _ _ _ h => h) (Or.inl ⟨by rfl, ?_⟩) (by assumption) ?_
  case refine_2 =>
    intro w hSw
    (try dsimp only at hSw)
    (try go_simp)
    all_goals (with_reducible rfl)
  (try dsimp only [Act.put]); (try simp only [List.setIfInBounds_toArray, List.set_cons_zero, List.set_cons_succ])
  refine wpAnyH_done (by kernel_rfl) ?_ _
  all_goals
    go_wp2
    go_ret
    exact ⟨rfl, cap_below hHeld.1⟩
theorem of_fair (s : ByteArray) (a b : Int) (x y : Nat) (v : Bool) (w : World) (hT : Tab w) (h : must4 s a b x y = v) : Calls Tryz.prog 276 #[capV s a b x y] w (Gives w (.bool v)) := by
  subst h
  by_cases hc : kindN x = kindN y
  · have e : must4 s a b x y = !couldI s (sideN y) b a := by
      unfold must4
      rw [hc]
      simp
    rw [e]
    exact fair_same s a b x y _ _ _ w hT hc rfl rfl rfl
  · have e : must4 s a b x y = true := by
      unfold must4
      rw [show (kindN x != kindN y) = true by rw [bne_iff_ne]; exact hc]
      rfl
    rw [e]
    exact fair_yes s a b x y _ _ w hT rfl rfl hc
end Go.Proofs.YtpogpjebhnoncaaGreatDoor
namespace Go.Proofs.YtpogpjebhnoncaaGreatDoor
open Go.RowKit Go.Shelf
open M (S)
abbrev condsV : Value := .agg #[.func (.func 273) #[] #[], .func (.func 274) #[] #[], .func (.func 275) #[] #[], .func (.func 276) #[] #[]]
theorem musts_is (w : World) : Calls Tryz.prog 248 #[] w (Gives w condsV) := by
  unfold Gives
  go_enter Tryz.func248, Tryz.ntmps248
  go_wp2
  have bA : Blk (w.alloc (.cells #[.func (.func 273) #[] #[], .func (.func 274) #[] #[], .func (.func 275) #[] #[], .func (.func 276) #[] #[]] 238)) w.heap.size 238 #[.func (.func 273) #[] #[], .func (.func 274) #[] #[], .func (.func 275) #[] #[], .func (.func 276) #[] #[]] := Blk.new _ _ _ rfl
  exact bodyPost_ret (v := condsV) (by simp [results, Tryz.results248, go_sem, bA.cell 0, bA.cell 1, bA.cell 2, bA.cell 3]) rfl ⟨rfl, below_new _ _⟩
theorem conds_0 (W : World) : (Instr.index 238 condsV (.int .i64 0)).run Tryz.prog W = .ok (.func (.func 273) #[] #[]) W := by kernel_rfl
theorem conds_1 (W : World) : (Instr.index 238 condsV (.int .i64 1)).run Tryz.prog W = .ok (.func (.func 274) #[] #[]) W := by kernel_rfl
theorem conds_2 (W : World) : (Instr.index 238 condsV (.int .i64 2)).run Tryz.prog W = .ok (.func (.func 275) #[] #[]) W := by kernel_rfl
theorem conds_3 (W : World) : (Instr.index 238 condsV (.int .i64 3)).run Tryz.prog W = .ok (.func (.func 276) #[] #[]) W := by kernel_rfl
def threatV (s : ByteArray) (a b : Int) (x y : Nat) : Bool := must1 s a b x y && must2 b x y && must3 s a b x y && must4 s a b x y
def mustK (s : ByteArray) (a b : Int) (x y : Nat) : Nat → Bool
  | 0 => must1 s a b x y
  | 1 => must2 b x y
  | 2 => must3 s a b x y
  | _ => must4 s a b x y
theorem threat_no {s : ByteArray} {a b : Int} {x y : Nat} {k : Nat} (h : mustK s a b x y k = false) : threatV s a b x y = false := by
  unfold threatV
  rcases k with _ | _ | _ | k
  · rw [show must1 s a b x y = false from h]; rfl
  · rw [show must2 b x y = false from h]; simp
  · rw [show must3 s a b x y = false from h]; simp
  · rw [show must4 s a b x y = false from h]; simp
theorem threat_all {s : ByteArray} {a b : Int} {x y : Nat} (h : ∀ j, j < 4 → mustK s a b x y j = true) : threatV s a b x y = true := by
  unfold threatV
  rw [show must1 s a b x y = true from h 0 (by omega), show must2 b x y = true from h 1 (by omega), show must3 s a b x y = true from h 2 (by omega), show must4 s a b x y = true from h 3 (by omega)]
  rfl
theorem at_h (s : ByteArray) (n : Int) (c : Nat) (w : World) (h : Hid (atB s n = c)) : Calls Tryz.prog 247 #[.string s, .int .i64 n] w (Says w (.int .u8 (c : Int))) := at_is s n c w h.out
theorem conds_at (k : Nat) (h : k < 4) : ∃ f, ((k = 0 ∧ f = 273) ∨ (k = 1 ∧ f = 274) ∨ (k = 2 ∧ f = 275) ∨ (k = 3 ∧ f = 276)) ∧ (∀ W : World, (Instr.index 238 condsV (.int .i64 (k : Int))).run Tryz.prog W = .ok (.func (.func f) #[] #[]) W) ∧ ∀ (args : Array Value) (W : World), (callFunc f args).run Tryz.prog W = .ok (.enter f args) W := by
  rcases (show k = 0 ∨ k = 1 ∨ k = 2 ∨ k = 3 by omega) with rfl | rfl | rfl | rfl
  · exact ⟨_, .inl ⟨rfl, rfl⟩, conds_0, enters_of Tryz.func273 (by kernel_rfl) rfl⟩
  · exact ⟨_, .inr (.inl ⟨rfl, rfl⟩), conds_1, enters_of Tryz.func274 (by kernel_rfl) rfl⟩
  · exact ⟨_, .inr (.inr (.inl ⟨rfl, rfl⟩)), conds_2, enters_of Tryz.func275 (by kernel_rfl) rfl⟩
  · exact ⟨_, .inr (.inr (.inr ⟨rfl, rfl⟩)), conds_3, enters_of Tryz.func276 (by kernel_rfl) rfl⟩
theorem must_at (s : ByteArray) (a b : Int) (x y k f : Nat) (hf : (k = 0 ∧ f = 273) ∨ (k = 1 ∧ f = 274) ∨ (k = 2 ∧ f = 275) ∨ (k = 3 ∧ f = 276)) (v : Bool) (w : World) (hT : Tab w) (h : mustK s a b x y k = v) : Calls Tryz.prog f #[capV s a b x y] w (Gives w (.bool v)) := by
  rcases hf with ⟨rfl, rfl⟩ | ⟨rfl, rfl⟩ | ⟨rfl, rfl⟩ | ⟨rfl, rfl⟩
  · exact could_be s a b x y v w hT h
  · exact of_moment s a b x y v w hT h
  · exact of_worth s a b x y v w hT h
  · exact of_fair s a b x y v w hT h
set_option maxRecDepth 100000 in
set_option maxHeartbeats 8000000 in
theorem threat_any (s : ByteArray) (a b : Int) (x y : Nat) (v : Bool) (w : World) (hT : Tab w) (hx : atB s a = x) (hy : atB s b = y) (hv : threatV s a b x y = v) : Calls Tryz.prog 218 #[.string s, .agg #[.int .i64 a, .int .i64 b]] w (Gives w (.bool v)) := by
  unfold Gives
  obtain ⟨W0, hW0⟩ : ∃ W0, w.alloc (.cells #[.int .i64 a, .int .i64 b] 54) = W0 := ⟨_, rfl⟩
  have hS : W0.drew.cell? ⟨w.heap.size, 0, none⟩ = some (.int .i64 a) ∧ W0.drew.cell? ⟨w.heap.size, 1, none⟩ = some (.int .i64 b) ∧ Below w.heap.size w W0.drew := by
    have bM : Blk W0 w.heap.size 54 #[.int .i64 a, .int .i64 b] := by rw [← hW0]; exact Blk.new _ _ _ rfl
    exact ⟨(bM.next (Below.refl _ _).drew).cell 0, (bM.next (Below.refl _ _).drew).cell 1, by rw [← hW0]; exact (below_new _ _).drew⟩
  have HW := Lib.hid hW0
  have HX := Lib.hid hx
  have HY := Lib.hid hy
  have HV := Lib.hid hv
  have hB0 : Below w.heap.size w W0 := by rw [← hW0]; exact below_new _ _
  have hT0 := hT.below hB0 hT.lt
  clear hW0 hx hy hv
  go_enter Tryz.func218, Tryz.ntmps218
  go_wp2_with fail
  rw [HW.out]
  refine wp_region_held_drew (S := fun W => W.cell? ⟨w.heap.size, 0, none⟩ = some (.int .i64 a) ∧ W.cell? ⟨w.heap.size, 1, none⟩ = some (.int .i64 b) ∧ Below w.heap.size w W) (by kernel_rfl) (hS) (fun hHeld => ?_)
  refine wpAnyH_take (i := 0) (oi := { dst := some 8, op := Op.move (Operand.tmp 0), type := 9, pos := "chase.go:23", after := #[], guard := none }) (v := ?_) rfl (by kernel_rfl) (by kernel_rfl) (by kernel_rfl) (fun _ _ _ h => h) (Or.inl ⟨by rfl, ?_⟩) (by assumption) ?_
  case refine_2 =>
    intro w hSw
    (try dsimp only at hSw)
    (try go_simp)
    all_goals (with_reducible rfl)
  (try dsimp only [Act.put]); (try simp only [List.setIfInBounds_toArray, List.set_cons_zero, List.set_cons_succ])
  refine wpAnyH_take (i := 1) (oi := { dst := some 9, op := Op.load 54 (Operand.tmp 3), type := 54, pos := "chase.go:23", after := #[], guard := none }) (v := ?_) rfl (by kernel_rfl) (by kernel_rfl) (by kernel_rfl) (fun _ _ _ h => h) (Or.inl ⟨by rfl, ?_⟩) (by assumption) ?_
  case refine_2 =>
    intro w hSw
    (try dsimp only at hSw)
    (try go_simp)
    all_goals (with_reducible rfl)
  (try dsimp only [Act.put]); (try simp only [List.setIfInBounds_toArray, List.set_cons_zero, List.set_cons_succ])
  refine wpAnyH_take (i := 2) (oi := { dst := some 10, op := Op.move (Operand.tmp 0), type := 9, pos := "chase.go:23", after := #[], guard := none }) (v := ?_) rfl (by kernel_rfl) (by kernel_rfl) (by kernel_rfl) (fun _ _ _ h => h) (Or.inl ⟨by rfl, ?_⟩) (by assumption) ?_
  case refine_2 =>
    intro w hSw
    (try dsimp only at hSw)
    (try go_simp)
    all_goals (with_reducible rfl)
  (try dsimp only [Act.put]); (try simp only [List.setIfInBounds_toArray, List.set_cons_zero, List.set_cons_succ])
  refine wpAnyH_take (i := 3) (oi := { dst := some 11, op := Op.fieldAddr 54 (Operand.tmp 3) 0, type := 0, pos := "chase.go:23", after := #[], guard := none }) (v := ?_) rfl (by kernel_rfl) (by kernel_rfl) (by kernel_rfl) (fun _ _ _ h => h) (Or.inl ⟨by rfl, ?_⟩) (by assumption) ?_
  case refine_2 =>
    intro w hSw
    (try dsimp only at hSw)
    (try go_simp)
    all_goals (with_reducible rfl)
  (try dsimp only [Act.put]); (try simp only [List.setIfInBounds_toArray, List.set_cons_zero, List.set_cons_succ])
  refine wpAnyH_take (i := 4) (oi := { dst := some 12, op := Op.load 3 (Operand.tmp 11), type := 3, pos := "chase.go:23", after := #[{ on := 3, ground := Ground.data }], guard := none }) (v := ?_) rfl (by kernel_rfl) (by kernel_rfl) (by kernel_rfl) (fun _ _ _ h => h) (Or.inl ⟨by rfl, ?_⟩) (by assumption) ?_
  case refine_2 =>
    intro w hSw
    (try dsimp only at hSw)
    (try go_simp)
    all_goals (with_reducible rfl)
  (try dsimp only [Act.put]); (try simp only [List.setIfInBounds_toArray, List.set_cons_zero, List.set_cons_succ])
  refine wpAnyH_take (i := 6) (oi := { dst := some 14, op := Op.move (Operand.tmp 0), type := 9, pos := "chase.go:23", after := #[], guard := none }) (v := ?_) rfl (by kernel_rfl) (by kernel_rfl) (by kernel_rfl) (fun _ _ _ h => h) (Or.inl ⟨by rfl, ?_⟩) (by assumption) ?_
  case refine_2 =>
    intro w hSw
    (try dsimp only at hSw)
    (try go_simp)
    all_goals (with_reducible rfl)
  (try dsimp only [Act.put]); (try simp only [List.setIfInBounds_toArray, List.set_cons_zero, List.set_cons_succ])
  refine wpAnyH_take (i := 7) (oi := { dst := some 15, op := Op.fieldAddr 54 (Operand.tmp 3) 1, type := 0, pos := "chase.go:23", after := #[], guard := none }) (v := ?_) rfl (by kernel_rfl) (by kernel_rfl) (by kernel_rfl) (fun _ _ _ h => h) (Or.inl ⟨by rfl, ?_⟩) (by assumption) ?_
  case refine_2 =>
    intro w hSw
    (try dsimp only at hSw)
    (try go_simp)
    all_goals (with_reducible rfl)
  (try dsimp only [Act.put]); (try simp only [List.setIfInBounds_toArray, List.set_cons_zero, List.set_cons_succ])
  refine wpAnyH_take (i := 8) (oi := { dst := some 16, op := Op.load 3 (Operand.tmp 15), type := 3, pos := "chase.go:23", after := #[{ on := 7, ground := Ground.data }], guard := none }) (v := ?_) rfl (by kernel_rfl) (by kernel_rfl) (by kernel_rfl) (fun _ _ _ h => h) (Or.inl ⟨by rfl, ?_⟩) (by assumption) ?_
  case refine_2 =>
    intro w hSw
    (try dsimp only at hSw)
    (try go_simp)
    all_goals (with_reducible rfl)
  (try dsimp only [Act.put]); (try simp only [List.setIfInBounds_toArray, List.set_cons_zero, List.set_cons_succ])
  refine wpAnyH_ready (rs := [5, 11]) (by kernel_rfl) (by simp) (AllReadyH.cons (o := { dst := some 13, op := Op.call { callee := Callee.value (Operand.func 247), args := #[Operand.tmp 10, Operand.tmp 12], argTypes := #[9, 3] }, type := 5, pos := "chase.go:23", after := #[{ on := 2, ground := Ground.data }, { on := 4, ground := Ground.data }], guard := none }) rfl (fun K hK => ?rd1) (AllReadyH.cons (o := { dst := some 5, op := Op.alloc 236, type := 0, pos := "chase.go:23", after := #[], guard := none }) rfl (fun K hK => ?rd2) AllReadyH.nil))
  case' rd1 =>
    go_simp
    refine (at_h s _ _ _ (by first | with_reducible exact HX | with_reducible exact HY)).mono ?_; rintro e w1 ⟨rfl, rfl⟩
    refine hK.out _ _ ?_ (fun hHeld => ?_)
    · exact hHeld
    clear hK K
    refine wpAnyH_ready (rs := [9, 11]) (by kernel_rfl) (by simp) (AllReadyH.cons (o := { dst := some 17, op := Op.call { callee := Callee.value (Operand.func 247), args := #[Operand.tmp 14, Operand.tmp 16], argTypes := #[9, 3] }, type := 5, pos := "chase.go:23", after := #[{ on := 6, ground := Ground.data }, { on := 8, ground := Ground.data }, { on := 5, ground := Ground.chain }], guard := none }) rfl (fun K hK => ?rd3) (AllReadyH.cons (o := { dst := some 5, op := Op.alloc 236, type := 0, pos := "chase.go:23", after := #[], guard := none }) rfl (fun K hK => ?rd4) AllReadyH.nil))
    case' rd3 =>
      go_simp
      refine (at_h s _ _ _ (by first | with_reducible exact HX | with_reducible exact HY)).mono ?_; rintro e w1 ⟨rfl, rfl⟩
      refine hK.out _ _ ?_ (fun hHeld => ?_)
      · exact hHeld
      clear hK K
      refine wpAnyH_take (i := 10) (oi := { dst := some 18, op := Op.build 236 #[(0, Operand.tmp 8), (1, Operand.tmp 9), (2, Operand.tmp 13), (3, Operand.tmp 17)], type := 236, pos := "chase.go:23", after := #[{ on := 0, ground := Ground.data }, { on := 1, ground := Ground.data }, { on := 5, ground := Ground.data }, { on := 9, ground := Ground.data }], guard := none }) (v := ?_) rfl (by kernel_rfl) (by kernel_rfl) (by kernel_rfl) (fun _ _ _ h => h) (Or.inl ⟨by rfl, ?_⟩) (by assumption) ?_
      case refine_2 =>
        intro w hSw
        (try dsimp only at hSw)
        (try go_simp)
        all_goals (with_reducible rfl)
      (try dsimp only [Act.put]); (try simp only [List.setIfInBounds_toArray, List.set_cons_zero, List.set_cons_succ])
      refine wpAnyH_ready (rs := [11]) (by kernel_rfl) (by simp) (AllReadyH.cons (o := { dst := some 5, op := Op.alloc 236, type := 0, pos := "chase.go:23", after := #[], guard := none }) rfl (fun K hK => ?_) AllReadyH.nil)
      go_simp
      refine hK.out _ _ ?_ (fun hHeld => ?_)
      · exact mv2_keep hHeld (below_new _ _)
      clear hK K
      (try dsimp only [Act.put]); (try simp only [List.setIfInBounds_toArray, List.set_cons_zero, List.set_cons_succ])
      refine wpAnyH_ready (rs := [12]) (by kernel_rfl) (by simp) (AllReadyH.cons (o := { dst := none, op := Op.store 236 (Operand.tmp 5) (Operand.tmp 18), type := 0, pos := "chase.go:23", after := #[{ on := 11, ground := Ground.data }, { on := 10, ground := Ground.data }, { on := 9, ground := Ground.chain }, { on := 0, ground := Ground.phase }, { on := 1, ground := Ground.phase }, { on := 2, ground := Ground.phase }, { on := 3, ground := Ground.phase }, { on := 4, ground := Ground.phase }, { on := 5, ground := Ground.phase }, { on := 6, ground := Ground.phase }, { on := 7, ground := Ground.phase }, { on := 8, ground := Ground.phase }, { on := 9, ground := Ground.phase }, { on := 10, ground := Ground.phase }, { on := 11, ground := Ground.phase }], guard := none }) rfl (fun K hK => ?_) AllReadyH.nil)
      go_simp
      refine hK.out _ _ ?_ (fun hHeld => ?_)
      · exact mv2_keep hS (below_new _ _)
      clear hK K
      (try dsimp only [Act.put]); (try simp only [List.setIfInBounds_toArray, List.set_cons_zero, List.set_cons_succ])
      refine wpAnyH_done (by kernel_rfl) ?_ _
    case' rd4 =>
      go_simp
      refine hK.out _ _ ?_ (fun hHeld => ?_)
      · exact mv2_keep hHeld (below_new _ _)
      clear hK K
      (try dsimp only [Act.put]); (try simp only [List.setIfInBounds_toArray, List.set_cons_zero, List.set_cons_succ])
      refine wpAnyH_ready (rs := [9]) (by kernel_rfl) (by simp) (AllReadyH.cons (o := { dst := some 17, op := Op.call { callee := Callee.value (Operand.func 247), args := #[Operand.tmp 14, Operand.tmp 16], argTypes := #[9, 3] }, type := 5, pos := "chase.go:23", after := #[{ on := 6, ground := Ground.data }, { on := 8, ground := Ground.data }, { on := 5, ground := Ground.chain }], guard := none }) rfl (fun K hK => ?_) AllReadyH.nil)
      go_simp
      refine (at_h s _ _ _ (by first | with_reducible exact HX | with_reducible exact HY)).mono ?_; rintro e w1 ⟨rfl, rfl⟩
      refine hK.out _ _ ?_ (fun hHeld => ?_)
      · exact hHeld
      clear hK K
      refine wpAnyH_take (i := 10) (oi := { dst := some 18, op := Op.build 236 #[(0, Operand.tmp 8), (1, Operand.tmp 9), (2, Operand.tmp 13), (3, Operand.tmp 17)], type := 236, pos := "chase.go:23", after := #[{ on := 0, ground := Ground.data }, { on := 1, ground := Ground.data }, { on := 5, ground := Ground.data }, { on := 9, ground := Ground.data }], guard := none }) (v := ?_) rfl (by kernel_rfl) (by kernel_rfl) (by kernel_rfl) (fun _ _ _ h => h) (Or.inl ⟨by rfl, ?_⟩) (by assumption) ?_
      case refine_2 =>
        intro w hSw
        (try dsimp only at hSw)
        (try go_simp)
        all_goals (with_reducible rfl)
      (try dsimp only [Act.put]); (try simp only [List.setIfInBounds_toArray, List.set_cons_zero, List.set_cons_succ])
      refine wpAnyH_ready (rs := [12]) (by kernel_rfl) (by simp) (AllReadyH.cons (o := { dst := none, op := Op.store 236 (Operand.tmp 5) (Operand.tmp 18), type := 0, pos := "chase.go:23", after := #[{ on := 11, ground := Ground.data }, { on := 10, ground := Ground.data }, { on := 9, ground := Ground.chain }, { on := 0, ground := Ground.phase }, { on := 1, ground := Ground.phase }, { on := 2, ground := Ground.phase }, { on := 3, ground := Ground.phase }, { on := 4, ground := Ground.phase }, { on := 5, ground := Ground.phase }, { on := 6, ground := Ground.phase }, { on := 7, ground := Ground.phase }, { on := 8, ground := Ground.phase }, { on := 9, ground := Ground.phase }, { on := 10, ground := Ground.phase }, { on := 11, ground := Ground.phase }], guard := none }) rfl (fun K hK => ?_) AllReadyH.nil)
      go_simp
      refine hK.out _ _ ?_ (fun hHeld => ?_)
      · exact mv2_keep hS (below_new _ _)
      clear hK K
      (try dsimp only [Act.put]); (try simp only [List.setIfInBounds_toArray, List.set_cons_zero, List.set_cons_succ])
      refine wpAnyH_done (by kernel_rfl) ?_ _
  case' rd2 =>
    go_simp
    refine hK.out _ _ ?_ (fun hHeld => ?_)
    · exact mv2_keep hHeld (below_new _ _)
    clear hK K
    (try dsimp only [Act.put]); (try simp only [List.setIfInBounds_toArray, List.set_cons_zero, List.set_cons_succ])
    refine wpAnyH_ready (rs := [5]) (by kernel_rfl) (by simp) (AllReadyH.cons (o := { dst := some 13, op := Op.call { callee := Callee.value (Operand.func 247), args := #[Operand.tmp 10, Operand.tmp 12], argTypes := #[9, 3] }, type := 5, pos := "chase.go:23", after := #[{ on := 2, ground := Ground.data }, { on := 4, ground := Ground.data }], guard := none }) rfl (fun K hK => ?_) AllReadyH.nil)
    go_simp
    refine (at_h s _ _ _ (by first | with_reducible exact HX | with_reducible exact HY)).mono ?_; rintro e w1 ⟨rfl, rfl⟩
    refine hK.out _ _ ?_ (fun hHeld => ?_)
    · exact hHeld
    clear hK K
    refine wpAnyH_ready (rs := [9]) (by kernel_rfl) (by simp) (AllReadyH.cons (o := { dst := some 17, op := Op.call { callee := Callee.value (Operand.func 247), args := #[Operand.tmp 14, Operand.tmp 16], argTypes := #[9, 3] }, type := 5, pos := "chase.go:23", after := #[{ on := 6, ground := Ground.data }, { on := 8, ground := Ground.data }, { on := 5, ground := Ground.chain }], guard := none }) rfl (fun K hK => ?_) AllReadyH.nil)
    go_simp
    refine (at_h s _ _ _ (by first | with_reducible exact HX | with_reducible exact HY)).mono ?_; rintro e w1 ⟨rfl, rfl⟩
    refine hK.out _ _ ?_ (fun hHeld => ?_)
    · exact hHeld
    clear hK K
    refine wpAnyH_take (i := 10) (oi := { dst := some 18, op := Op.build 236 #[(0, Operand.tmp 8), (1, Operand.tmp 9), (2, Operand.tmp 13), (3, Operand.tmp 17)], type := 236, pos := "chase.go:23", after := #[{ on := 0, ground := Ground.data }, { on := 1, ground := Ground.data }, { on := 5, ground := Ground.data }, { on := 9, ground := Ground.data }], guard := none }) (v := ?_) rfl (by kernel_rfl) (by kernel_rfl) (by kernel_rfl) (fun _ _ _ h => h) (Or.inl ⟨by rfl, ?_⟩) (by assumption) ?_
    case refine_2 =>
      intro w hSw
      (try dsimp only at hSw)
      (try go_simp)
      all_goals (with_reducible rfl)
    (try dsimp only [Act.put]); (try simp only [List.setIfInBounds_toArray, List.set_cons_zero, List.set_cons_succ])
    refine wpAnyH_ready (rs := [12]) (by kernel_rfl) (by simp) (AllReadyH.cons (o := { dst := none, op := Op.store 236 (Operand.tmp 5) (Operand.tmp 18), type := 0, pos := "chase.go:23", after := #[{ on := 11, ground := Ground.data }, { on := 10, ground := Ground.data }, { on := 9, ground := Ground.chain }, { on := 0, ground := Ground.phase }, { on := 1, ground := Ground.phase }, { on := 2, ground := Ground.phase }, { on := 3, ground := Ground.phase }, { on := 4, ground := Ground.phase }, { on := 5, ground := Ground.phase }, { on := 6, ground := Ground.phase }, { on := 7, ground := Ground.phase }, { on := 8, ground := Ground.phase }, { on := 9, ground := Ground.phase }, { on := 10, ground := Ground.phase }, { on := 11, ground := Ground.phase }], guard := none }) rfl (fun K hK => ?_) AllReadyH.nil)
    go_simp
    refine hK.out _ _ ?_ (fun hHeld => ?_)
    · exact mv2_keep hS (below_new _ _)
    clear hK K
    (try dsimp only [Act.put]); (try simp only [List.setIfInBounds_toArray, List.set_cons_zero, List.set_cons_succ])
    refine wpAnyH_done (by kernel_rfl) ?_ _
  all_goals
    have hC := cap_keep (cap_start W0 s a b x y hT0) (Below.refl _ _).drew
    obtain ⟨W1, hW1⟩ : ∃ W1, (W0.alloc (.cells #[.string s, .int .i64 a, .int .i64 b, .int .u8 (x : Int), .int .u8 (y : Int)] 236)).drew = W1 := ⟨_, rfl⟩
    rw [hW1] at hC ⊢
    clear hHeld hS hW1
    go_wp2_with fail
    refine (musts_is _).mono ?_
    rintro e w2 ⟨rfl, hb⟩
    have hC2 := cap_keep hC hb
    clear hC hb
    go_wp2_with fail
    go_loopw [7, 20] (fun _ i wr => ∃ k : Nat, k ≤ 4 ∧ i = .int .i64 k ∧ CapS W0 s a b x y wr ∧ Hid (∀ j, j < k → mustK s a b x y j = true)) (fun _ i _ => 4 - (intOf i).toNat)
    case atStart => exact ⟨0, by omega, rfl, hC2, fun j h => absurd h (Nat.not_lt_zero _)⟩
    case round =>
      obtain ⟨k, hk, rfl, hC, hno⟩ := hrel
      have HS := Lib.hid hC
      by_cases hlt : k < 4
      · obtain ⟨c0, c1, c2, c3, c4, hTw, hBw⟩ := hC
        have b1 : (k : Int) < 4 := by omega
        obtain ⟨u, hu⟩ : ∃ u, mustK s a b x y k = u := ⟨_, rfl⟩
        have HU := Lib.hid hu
        clear hu hk hC2
        obtain ⟨f, hf, hix, hen⟩ := conds_at k hlt
        have HF := Lib.hid hf
        clear hf
        go_wp2_with fail
        refine (must_at s a b x y k f HF.out u _ hTw HU.out).mono ?_
        rintro e w3 ⟨rfl, hb⟩
        have hC3 := cap_keep HS.out hb
        clear c0 c1 c2 c3 c4 hTw hBw hb
        cases u
        · have hr : v = false := by rw [← HV.out, threat_no HU.out]
          subst hr
          go_wp2
          go_ret
          exact ⟨rfl, hB0.trans ((cap_below hC3).mono hB0.size)⟩
        · go_wp2_with fail
          go_roundw
          case rel =>
            refine ⟨k + 1, by omega, by go_num, hC3, ?_⟩
            show ∀ j, j < k + 1 → _
            intro j hj
            by_cases e : j = k
            · subst e
              exact HU.out
            · exact hno.out j (by omega)
          case measure => simp [intOf]; omega
      · have hk4 : k = 4 := by omega
        subst hk4
        have hr : v = true := by rw [← HV.out, threat_all hno.out]
        subst hr
        clear hlt hk hno
        go_wp2
        go_ret
        exact ⟨rfl, hB0.trans ((cap_below HS.out).mono hB0.size)⟩
end Go.Proofs.YtpogpjebhnoncaaGreatDoor
namespace Go.Proofs.YtpogpjebhnoncaaGreatDoor
open Go.RowKit Go.Shelf
open M (S)
theorem threatV_none {s : ByteArray} {a b : Int} {x y : Nat} (h : couldI s (sideN x) a b = false) : threatV s a b x y = false := by
  unfold threatV must1
  rw [h, Bool.and_false, Bool.false_and, Bool.false_and, Bool.false_and]
theorem threatV_is (s : ByteArray) (a b : Int) : threatV s a b (atB s a) (atB s b) = threatI s a b := by
  by_cases hin : isB s = true ∧ sqI a = true ∧ sqI b = true
  · obtain ⟨hs, ha, hb⟩ := hin
    have e1 : atB s a = bAt s a.toNat := by unfold atB; rw [if_pos ⟨hs, ha⟩]
    have e2 : atB s b = bAt s b.toNat := by unfold atB; rw [if_pos ⟨hs, hb⟩]
    obtain ⟨a0, a1⟩ := sqI_iff.1 ha
    obtain ⟨b0, b1⟩ := sqI_iff.1 hb
    obtain ⟨m, rfl⟩ : ∃ m : Nat, a = m := ⟨a.toNat, by omega⟩
    obtain ⟨n, rfl⟩ : ∃ n : Nat, b = n := ⟨b.toNat, by omega⟩
    have hm : m < 90 := by omega
    have hn : n < 90 := by omega
    rw [threatI_nat hs hm hn, e1, e2, Int.toNat_natCast, Int.toNat_natCast]
    unfold threatV must1 must2 must3 must4 threatB momentB worthB fairB
    rw [couldI_nat hs hm hn, couldI_nat hs hn hm, guardI_nat hs hm hn]
  · have e : (isB s && sqI a && sqI b) = false := by
      rw [Bool.eq_false_iff]
      intro h
      rw [Bool.and_eq_true, Bool.and_eq_true] at h
      exact hin ⟨h.1.1, h.1.2, h.2⟩
    rw [threatV_none (by unfold couldI; rw [e, Bool.false_and])]
    unfold threatI
    rw [e, Bool.false_and]
def chS (s : ByteArray) (L : List (Nat × Nat)) (k : Nat) : S := (L.take k).foldl (fun t m => if threatB s m.1 m.2 then t.put (m.2 : Int) else t) S.empty
theorem chS_succ (s : ByteArray) (L : List (Nat × Nat)) {k : Nat} (h : k < L.length) : chS s L (k + 1) = if threatB s L[k].1 L[k].2 then (chS s L k).put (L[k].2 : Int) else chS s L k := by
  unfold chS
  rw [List.take_succ_eq_append_getElem h, List.foldl_append]
  rfl
theorem has_chS (s : ByteArray) {i : Nat} (hi : i < 90) : ∀ (l : List (Nat × Nat)) (t : S), (l.foldl (fun t m => if threatB s m.1 m.2 then t.put (m.2 : Int) else t) t).has i = (t.has i || l.any fun m => m.2 == i && threatB s m.1 m.2)
  | [], t => by simp
  | m :: l, t => by
    rw [List.foldl_cons, has_chS s hi l, List.any_cons]
    cases ht : threatB s m.1 m.2
    · simp
    · rw [if_pos rfl, S.has_put, Bool.and_true, Bool.or_assoc]
      congr 2
      rw [Bool.eq_iff_iff, decide_eq_true_iff, beq_iff_eq]
      omega
theorem sqs_chS (s : ByteArray) (side : Int) : (chS s (takesG s side) (takesG s side).length).sqs.map (fun i => (i.val : Int)) = chasedL s side := by
  have h : (chS s (takesG s side) (takesG s side).length).sqs.map Fin.val = (List.range 90).filter (chasedB s side) := by
    rw [S.sqs_val]
    apply List.filter_congr
    intro i hi
    unfold chS
    rw [List.take_length, has_chS s (List.mem_range.1 hi), S.has_empty, Bool.false_or]
    rfl
  unfold chasedL trues
  rw [← h, List.map_map]
  rfl
theorem list_chS (s : ByteArray) (side : Int) (w : World) (hT : Tab w) : Calls Tryz.prog 220 #[.agg #[.int .u64 (chS s (takesG s side) (takesG s side).length).lo, .int .u64 (chS s (takesG s side) (takesG s side).length).hi]] w (OwnL w (chasedL s side)) :=
  (callsIn_wide.1 (list_in (chS s (takesG s side) (takesG s side).length) w hT)).mono fun _ _ ⟨v, he, ho, hb⟩ => by
    have hl : (chasedL s side).length = (chS s (takesG s side) (takesG s side).length).sqs.length := by rw [← sqs_chS, List.length_map]
    refine ⟨v, he, ?_, hb⟩
    rw [hl, ← sqs_chS, List.map_map]
    exact ho
theorem threat_is (s : ByteArray) (a b : Int) (v : Bool) (w : World) (hT : Tab w) (h : threatI s a b = v) : Calls Tryz.prog 218 #[.string s, .agg #[.int .i64 a, .int .i64 b]] w (Gives w (.bool v)) :=
  threat_any s a b _ _ v w hT rfl rfl (by rw [threatV_is]; exact h)
end Go.Proofs.YtpogpjebhnoncaaGreatDoor
namespace Go.Proofs.YtpogpjebhnoncaaGreatDoor
open Go.RowKit Go.Shelf
open M (S)
set_option maxRecDepth 100000 in
set_option maxHeartbeats 8000000 in
theorem all_go (s : ByteArray) (side : Int) (L : List (Nat × Nat)) (n : Nat) (w : World) (hT : Tab w) (hL : takesG s side = L) (hn : L.length = n) (hm : n ≤ 8100)
    (hlist : ∀ W, Tab W → Calls Tryz.prog 220 #[.agg #[.int .u64 (chS s L n).lo, .int .u64 (chS s L n).hi]] W (OwnL W (chasedL s side))) : Calls Tryz.prog 171 #[.string s, .int .i64 side] w (OwnL w (chasedL s side)) := by
  unfold OwnL
  obtain ⟨W0, hW0⟩ : ∃ W0, w.alloc (.cells #[.int .u64 0, .int .u64 0] 206) = W0 := ⟨_, rfl⟩
  have hB0 : Below w.heap.size w W0 := by rw [← hW0]; exact below_new _ _
  have hT0 := hT.below hB0 hT.lt
  have bT0 : Blk W0 w.heap.size 206 (svc (chS s L 0)) := by rw [← hW0]; exact Blk.new _ _ _ rfl
  have hz0 : W0.heap.size = w.heap.size + 1 := by rw [← hW0]; simp
  have HW := Lib.hid hW0
  have HL := Lib.hid hL
  have HN := Lib.hid hn
  have HC : Hid (∀ k (hk : k < L.length), threatI s (L[k].1 : Int) (L[k].2 : Int) = threatB s L[k].1 L[k].2) := fun k hk => by
    have hmem : L[k] ∈ takesG s side := by rw [hL]; exact List.getElem_mem hk
    obtain ⟨hs, h1, h2, _⟩ := takes_mem.1 (show (L[k].1, L[k].2) ∈ takesG s side from hmem)
    exact threatI_nat hs h1 h2
  have HLI := Lib.hid hlist
  clear hW0 hL hn hlist
  go_enter Tryz.func171, Tryz.ntmps171
  go_wp2_with fail
  rw [HW.out]
  refine (gtakes_is s side L n _ hT0 HL.out HN.out).mono ?_
  rintro e w1 ⟨v, rfl, ho, hb1⟩
  obtain ⟨A, c, rfl⟩ := owns_slice ho
  have hrd0 := Rd.owns ho
  have hA : ∀ ad, A = some ad → w.heap.size < ad.block := fun ad e => by
    subst e
    rcases ho.2 with ⟨h1, _⟩ | ⟨g', cap', cur, h1, hb, _⟩
    · simp at h1
    · simp only [Value.slice.injEq, Option.some.injEq] at h1
      rw [h1.1]
      show w.heap.size < g'
      omega
  have bT1 := bT0.next hb1
  have hT1 := hT0.next hb1
  have hB1 := hB0.trans (hb1.mono hB0.size)
  have hTl := hT.lt
  clear bT0 hT0 ho
  go_wp2_with fail
  go_loopw [7, 12] (fun _ i wr => ∃ k : Nat, k ≤ n ∧ i = .int .i64 k ∧ Blk wr w.heap.size 206 (svc (chS s L k)) ∧ Rd wr A (mvs L) ∧ Tab wr ∧ Below w.heap.size w wr) (fun _ i _ => n - (intOf i).toNat)
  case atStart => exact ⟨0, Nat.zero_le _, rfl, bT1, hrd0, hT1, hB1⟩
  case round =>
    obtain ⟨k, hk, rfl, bT, hrd, hTr, hB⟩ := hrel
    by_cases hlt : k < n
    · have hkl : k < L.length := by rw [HN.out]; exact hlt
      have hst := chS_succ s L hkl
      have hth := HC.out k hkl
      obtain ⟨g1, o1, rfl, c0, c1⟩ := hrd.move hkl
      obtain ⟨⟨a, b⟩, hab⟩ : ∃ x, L[k] = x := ⟨_, rfl⟩
      rw [hab] at c0 c1 hst hth
      obtain ⟨u, hu⟩ : ∃ u, threatB s a b = u := ⟨_, rfl⟩
      rw [hu] at hst hth
      have HTH := Lib.hid hth
      have HST := Lib.hid hst
      have b1 : (k : Int) < (n : Int) := by omega
      have HR := Lib.hid hrd
      have hgw : w.heap.size < g1 := hA _ rfl
      obtain ⟨W4, hW4⟩ : ∃ W4, wr.alloc (.cells #[.int .i64 (a : Int), .int .i64 (b : Int)] 54) = W4 := ⟨_, rfl⟩
      have hb4 : Below wr.heap.size wr W4 := by rw [← hW4]; exact below_new _ _
      have bM : Blk W4 wr.heap.size 54 #[.int .i64 (a : Int), .int .i64 (b : Int)] := by rw [← hW4]; exact Blk.new _ _ _ rfl
      have hT4 := hTr.next hb4
      have HW4 := Lib.hid hW4
      clear hu hab hst hth hW4
      go_wp2_with fail
      rw [HW4.out]
      have m0 : W4.cell? ⟨wr.heap.size, 0, none⟩ = some (.int .i64 (a : Int)) := bM.cell 0
      have m1 : W4.cell? ⟨wr.heap.size, 1, none⟩ = some (.int .i64 (b : Int)) := bM.cell 1
      clear c0 c1
      go_wp2_with fail
      refine (threat_is s a b u _ hT4 HTH.out).mono ?_
      rintro e w5 ⟨rfl, hb5⟩
      have hb45 := hb4.trans (hb5.mono hb4.size)
      have bT5 := bT.next hb45
      have hrd5 := HR.out.next hb45
      have hT5 := hTr.next hb45
      have hB5 := hB.trans (hb45.mono hB.size)
      have bM5 := bM.next hb5
      have q0 := bM5.cell 0
      have q1 := bM5.cell 1
      clear m0 m1 bM bT hrd hT4 hb4 hb5 hTr
      cases u
      · go_wp2_with fail
        go_roundw
        case rel => exact ⟨k + 1, by omega, by go_num, by rw [HST.out]; exact bT5, hrd5, hT5, hB5⟩
        case measure => simp [intOf]; omega
      · have t0 := bT5.cell 0
        have t1 := bT5.cell 1
        simp only [List.getElem?_toArray, List.getElem?_cons_zero, List.getElem?_cons_succ] at t0 t1
        go_wp2_with fail
        refine (with_any (chS s L k) (b : Int) _).mono ?_
        rintro e w6 ⟨rfl, hb6⟩
        have bT6 := bT5.next hb6
        have q0 := bT6.cell 0
        have q1 := bT6.cell 1
        have f0 := bT6.frozen 0
        have f1 := bT6.frozen 1
        simp only [List.getElem?_toArray, List.getElem?_cons_zero, List.getElem?_cons_succ] at q0 q1
        have hrd6 := hrd5.next hb6
        have hT6 := hT5.next hb6
        have hB6 := hB5.trans (hb6.mono hB5.size)
        clear t0 t1
        go_wp2
        go_roundw
        case rel =>
          exact ⟨k + 1, by omega, by go_num, by rw [HST.out]; exact blk_two bT6 _ _, rd_far (rd_far hrd6 _ _ hA) _ _ hA, hT6.below (((Below.refl w.heap.size w6).setCell (p := ⟨w.heap.size, 0, none⟩) (Nat.le_refl _) _).setCell (p := ⟨w.heap.size, 1, none⟩) (Nat.le_refl _) _) hTl, (hB6.setCell (p := ⟨w.heap.size, 0, none⟩) (Nat.le_refl _) _).setCell (p := ⟨w.heap.size, 1, none⟩) (Nat.le_refl _) _⟩
        case measure => simp [intOf]; omega
    · obtain rfl : k = n := by omega
      have t0 := bT.cell 0
      have t1 := bT.cell 1
      simp only [List.getElem?_toArray, List.getElem?_cons_zero, List.getElem?_cons_succ] at t0 t1
      have b1 : ¬ (k : Int) < (k : Int) := by omega
      clear hlt hk
      go_wp2_with fail
      refine (HLI.out _ hTr).mono ?_
      rintro e w6 ⟨v6, rfl, ho6, hb6⟩
      go_wp2
      go_ret
      exact ⟨v6, rfl, own_mono ho6 hB.size, hB.trans (hb6.mono hB.size)⟩
theorem chall_is (s : ByteArray) (side : Int) (w : World) (hT : Tab w) : Calls Tryz.prog 171 #[.string s, .int .i64 side] w (OwnL w (chasedL s side)) :=
  all_go s side _ _ w hT rfl rfl (takes_len s side) fun W h => list_chS s side W h
end Go.Proofs.YtpogpjebhnoncaaGreatDoor
namespace Go.Proofs.YtpogpjebhnoncaaGreatDoor
open Go.RowKit Go.Shelf
open M (S)
theorem ply_start (w : World) (s : ByteArray) (y z u : Int) (hT : Tab w) {W0 : World} (hW0 : (w.alloc (.cells #[.string s, .int .i64 y, .int .i64 z, .int .i64 u] 23)).alloc (.cells #[.bool false, .slice none 0 0] 154) = W0) :
    Below w.heap.size w W0 ∧ Tab W0 ∧ Blk W0 w.heap.size 23 #[.string s, .int .i64 y, .int .i64 z, .int .i64 u] ∧ Blk W0 (w.heap.size + 1) 154 #[.bool false, .slice none 0 0] := by
  have hB : Below w.heap.size w W0 := by rw [← hW0]; exact (by repeat (first | exact Below.refl _ _ | (refine Below.setCell ?_ (by first | omega | (simp; done) | (simp; omega) | (simp at *; omega)) _) | (refine Below.alloc ?_ (by first | omega | (simp; done) | (simp; omega) | (simp at *; omega)) _) | refine Below.drew ?_ | (refine below_drewN ?_ _) | (refine Below.trans ?_ (Below.mono (by assumption) (by first | omega | (simp; done) | (simp; omega) | (simp at *; omega))))))
  refine ⟨hB, hT.below hB hT.lt, ?_, ?_⟩
  · rw [← hW0]; exact (Blk.new _ _ _ rfl).alloc _
  · rw [← hW0]; exact Blk.new _ _ _ (by simp)
set_option maxRecDepth 100000 in
set_option maxHeartbeats 8000000 in
theorem of_bad (s : ByteArray) (y z u k : Int) (w : World) (hT : Tab w) (hk : wellN s y z u = k) (h : k ≠ 0) : Calls Tryz.prog 121 #[.agg #[.string s, .int .i64 y, .int .i64 z, .int .i64 u]] w (GivesP w false [] k) := by
  unfold GivesP
  obtain ⟨W0, hW0⟩ : ∃ W0, (w.alloc (.cells #[.string s, .int .i64 y, .int .i64 z, .int .i64 u] 23)).alloc (.cells #[.bool false, .slice none 0 0] 154) = W0 := ⟨_, rfl⟩
  obtain ⟨hB, hT0, bP, bQ⟩ := ply_start w s y z u hT hW0
  have HW := Lib.hid hW0
  have HK := Lib.hid hk
  have k0 : (k != 0) = true := by rw [bne_iff_ne]; exact h
  obtain ⟨p0, p1, p2, p3⟩ := ppos_cells bP
  clear hW0 hk h
  go_enter Tryz.func121, Tryz.ntmps121
  go_wp2_with fail
  rw [HW.out]
  refine (well_is s y z u k _ hT0 HK.out).mono ?_
  rintro e w1 ⟨rfl, hb⟩
  have bQ1 := bQ.next hb
  obtain ⟨f0, f1⟩ := ply_frozen bQ1
  obtain ⟨q0, q1⟩ := ply_cells bQ1
  have hB1 := hB.trans (hb.mono hB.size)
  clear p0 p1 p2 p3
  go_wp2
  have bQ2 := (bQ1.set_ 0 (.bool false)).set_ 1 (.slice none 0 0)
  exact bodyPost_ret (v := .tuple #[.agg #[.bool false, .slice none 0 0], .int .i64 k]) (by simp [results, Tryz.results121, go_sem, bQ2.cell 0, bQ2.cell 1]) rfl ⟨none, 0, rfl, rd_none _ _, (hB1.setCell (p := ⟨w.heap.size + 1, 0, none⟩) (by simp) _).setCell (p := ⟨w.heap.size + 1, 1, none⟩) (by simp) _⟩
set_option maxRecDepth 100000 in
set_option maxHeartbeats 8000000 in
theorem of_check (s : ByteArray) (y z u : Int) (w : World) (hT : Tab w) (hk : wellN s y z u = 0) (h : inB s y = true) : Calls Tryz.prog 121 #[.agg #[.string s, .int .i64 y, .int .i64 z, .int .i64 u]] w (GivesP w true [] 0) := by
  unfold GivesP
  obtain ⟨W0, hW0⟩ : ∃ W0, (w.alloc (.cells #[.string s, .int .i64 y, .int .i64 z, .int .i64 u] 23)).alloc (.cells #[.bool false, .slice none 0 0] 154) = W0 := ⟨_, rfl⟩
  obtain ⟨hB, hT0, bP, bQ⟩ := ply_start w s y z u hT hW0
  have HW := Lib.hid hW0
  have HK := Lib.hid hk
  have HI := Lib.hid h
  obtain ⟨p0, p1, p2, p3⟩ := ppos_cells bP
  clear hW0 hk h
  go_enter Tryz.func121, Tryz.ntmps121
  go_wp2_with fail
  rw [HW.out]
  refine (well_is s y z u 0 _ hT0 HK.out).mono ?_
  rintro e w1 ⟨rfl, hb⟩
  have bP1 := bP.next hb
  have bQ1 := bQ.next hb
  have hT1 := hT0.next hb
  have hB1 := hB.trans (hb.mono hB.size)
  clear p0 p1 p2 p3 hb
  obtain ⟨p0, p1, p2, p3⟩ := ppos_cells bP1
  go_wp2_with fail
  refine (in_is s y true _ hT1 HI.out).mono ?_
  rintro e w2 ⟨rfl, hb⟩
  have bQ2 := bQ1.next hb
  have hB2 := hB1.trans (hb.mono hB1.size)
  obtain ⟨f0, f1⟩ := ply_frozen bQ2
  obtain ⟨q0, q1⟩ := ply_cells bQ2
  clear p0 p1 p2 p3 hb
  go_wp2
  have bQ3 := (bQ2.set_ 0 (.bool true)).set_ 1 (.slice none 0 0)
  exact bodyPost_ret (v := .tuple #[.agg #[.bool true, .slice none 0 0], .int .i64 0]) (by simp [results, Tryz.results121, go_sem, bQ3.cell 0, bQ3.cell 1]) rfl ⟨none, 0, rfl, rd_none _ _, (hB2.setCell (p := ⟨w.heap.size + 1, 0, none⟩) (by simp) _).setCell (p := ⟨w.heap.size + 1, 1, none⟩) (by simp) _⟩
set_option maxRecDepth 100000 in
set_option maxHeartbeats 8000000 in
theorem of_quiet (s : ByteArray) (y z u o : Int) (l : List Int) (w : World) (hT : Tab w) (hk : wellN s y z u = 0) (h : inB s y = false) (hy0 : 0 ≤ y) (hy1 : y ≤ 1) (ho : 1 - y = o) (hl : chasedL s o = l) : Calls Tryz.prog 121 #[.agg #[.string s, .int .i64 y, .int .i64 z, .int .i64 u]] w (GivesP w false l 0) := by
  unfold GivesP
  obtain ⟨W0, hW0⟩ : ∃ W0, (w.alloc (.cells #[.string s, .int .i64 y, .int .i64 z, .int .i64 u] 23)).alloc (.cells #[.bool false, .slice none 0 0] 154) = W0 := ⟨_, rfl⟩
  obtain ⟨hB, hT0, bP, bQ⟩ := ply_start w s y z u hT hW0
  have HW := Lib.hid hW0
  have HK := Lib.hid hk
  have HI := Lib.hid h
  have HL := Lib.hid hl
  obtain ⟨p0, p1, p2, p3⟩ := ppos_cells bP
  clear hW0 hk h hl
  go_enter Tryz.func121, Tryz.ntmps121
  go_wp2_with fail
  rw [HW.out]
  refine (well_is s y z u 0 _ hT0 HK.out).mono ?_
  rintro e w1 ⟨rfl, hb⟩
  have bP1 := bP.next hb
  have bQ1 := bQ.next hb
  have hT1 := hT0.next hb
  have hB1 := hB.trans (hb.mono hB.size)
  clear p0 p1 p2 p3 hb
  obtain ⟨p0, p1, p2, p3⟩ := ppos_cells bP1
  go_wp2_with fail
  refine (in_is s y false _ hT1 HI.out).mono ?_
  rintro e w2 ⟨rfl, hb⟩
  have bP2 := bP1.next hb
  have bQ2 := bQ1.next hb
  have hT2 := hT1.next hb
  have hB2 := hB1.trans (hb.mono hB1.size)
  clear p0 p1 p2 p3 hb
  obtain ⟨p0, p1, p2, p3⟩ := ppos_cells bP2
  have hA := chall_is s o w2 hT2
  rw [HL.out] at hA
  go_wp2_with fail
  (try rw [ho])
  refine hA.mono ?_
  rintro e w3 ⟨v3, rfl, ho3, hb⟩
  obtain ⟨A, c, rfl⟩ := own_slice ho3
  have hr := Rd.own ho3
  have hqs : w.heap.size + 1 < w2.heap.size := bQ2.lt
  have hA2 : ∀ ad, A = some ad → w.heap.size + 1 < ad.block := fun ad e => by
    subst e
    rcases ho3.2 with ⟨h1, _⟩ | ⟨g', cap', cur, h1, hb, _⟩
    · simp at h1
    · simp only [Value.slice.injEq, Option.some.injEq] at h1
      rw [h1.1]
      show w.heap.size + 1 < g'
      omega
  clear ho3
  have bQ3 := bQ2.next hb
  have hB3 := hB2.trans (hb.mono hB2.size)
  obtain ⟨f0, f1⟩ := ply_frozen bQ3
  obtain ⟨q0, q1⟩ := ply_cells bQ3
  clear p0 p1 p2 p3 hA
  go_wp2
  have bQ4 := (bQ3.set_ 0 (.bool false)).set_ 1 (.slice A l.length c)
  exact bodyPost_ret (v := .tuple #[.agg #[.bool false, .slice A l.length c], .int .i64 0]) (by simp [results, Tryz.results121, go_sem, bQ4.cell 0, bQ4.cell 1]) rfl ⟨A, c, rfl, rd_far (rd_far hr _ _ hA2) _ _ hA2, (hB3.setCell (p := ⟨w.heap.size + 1, 0, none⟩) (by simp) _).setCell (p := ⟨w.heap.size + 1, 1, none⟩) (by simp) _⟩
theorem cof_any (s : ByteArray) (y z u : Int) (w : World) (hT : Tab w) : Calls Tryz.prog 121 #[.agg #[.string s, .int .i64 y, .int .i64 z, .int .i64 u]] w (GivesP w (plyC s y z u) (plyL s y z u) (wellN s y z u)) := by
  by_cases hk : wellN s y z u = 0
  · have hsd := (check_other (well_zero hk).1).1
    cases hi : inB s y
    · obtain ⟨e1, e2⟩ := ply_quiet hk hi
      rw [e1, e2, hk]
      exact of_quiet s y z u _ _ w hT hk hi (by omega) (by omega) rfl rfl
    · obtain ⟨e1, e2⟩ := ply_check hk hi
      rw [e1, e2, hk]
      exact of_check s y z u w hT hk hi
  · obtain ⟨e1, e2⟩ := ply_bad hk
    rw [e1, e2]
    exact of_bad s y z u _ w hT rfl hk
theorem cof_is (s : ByteArray) (y z u : Int) (c : Bool) (l : List Int) (k : Int) (w : World) (hT : Tab w) (hc : plyC s y z u = c) (hl : plyL s y z u = l) (hk : wellN s y z u = k) : Calls Tryz.prog 121 #[.agg #[.string s, .int .i64 y, .int .i64 z, .int .i64 u]] w (GivesP w c l k) := by
  subst hc hl hk
  exact cof_any s y z u w hT
end Go.Proofs.YtpogpjebhnoncaaGreatDoor
namespace Go.Proofs
open Go.Shelf
def Tryz.lays107_ren : Go.Shelf.Ren := ⟨fun | 107 => 170 | 108 => 216 | n => n, fun | 28 => 152 | 3 => 3 | 4 => 4 | 0 => 0 | n => n, fun | n => n⟩
theorem Tryz.lays107 : Go.Proofs.Lays.n107 Tryz.prog Tryz.lays107_ren := {
  mixed := by kernel_rfl
  f107 := Tryz.func170.trans (congrArg some (by kernel_rfl))
  f108 := Tryz.func216.trans (congrArg some (by kernel_rfl))
  t0 := Tryz.underlying0
  a0 := Tryz.isAgg0
  z0 := Tryz.sizeOf0
  v0 := Tryz.zeroValue0
  t3 := Tryz.underlying3
  a3 := Tryz.isAgg3
  z3 := Tryz.sizeOf3
  v3 := Tryz.zeroValue3
  t4 := Tryz.underlying4
  a4 := Tryz.isAgg4
  z4 := Tryz.sizeOf4
  v4 := Tryz.zeroValue4
  t28 := Tryz.underlying152
  a28 := Tryz.isAgg152
  z28 := Tryz.sizeOf152
  v28 := Tryz.zeroValue152 }
open Go.Lib in
theorem Tryz.slices_Contains_int (b off n c : Nat) (zs : List Int) (x : Int) (w : World) (hz : n ≤ zs.length) (hbig : n ≤ 9223372036854775807) (hc : ∀ j, j < zs.length → w.cell? ⟨b, off + j, none⟩ = some (.int .i64 (zs.getD j 0))) :
    Calls Tryz.prog 170 #[.slice (some ⟨b, off, none⟩) n c, .int .i64 x] w fun e w' => e = .returned (.bool ((zs.take n).contains x)) ∧ w' = w := Any.slices_Contains_int Tryz.lays107 b off n c zs x w hz hbig hc
open Go.Lib in
theorem Tryz.slices_Contains_int_empty (a : Option Addr) (c : Nat) (x : Int) (w : World) :
    Calls Tryz.prog 170 #[.slice a 0 c, .int .i64 x] w fun e w' => e = .returned (.bool false) ∧ w' = w := Any.slices_Contains_int_empty Tryz.lays107 a c x w
end Go.Proofs
namespace Go.Proofs.YtpogpjebhnoncaaGreatDoor
open Go.RowKit Go.Shelf
open M (S)
structure Ps where
  s : ByteArray
  y : Int
  z : Int
  u : Int
def Ps.cs (p : Ps) : List Value := [.string p.s, .int .i64 p.y, .int .i64 p.z, .int .i64 p.u]
def psL (l : List Ps) : List Value := l.flatMap Ps.cs
theorem psL_len (l : List Ps) : (psL l).length = l.length * 4 := by
  induction l with
  | nil => rfl
  | cons x l ih =>
    show (x.cs ++ psL l).length = _
    rw [List.length_append, ih, List.length_cons]
    show 4 + l.length * 4 = _
    omega
theorem psL_app (l r : List Ps) : psL (l ++ r) = psL l ++ psL r := by unfold psL; rw [List.flatMap_append]
theorem psL_snoc (l : List Ps) (x : Ps) : psL (l ++ [x]) = psL l ++ x.cs := by rw [psL_app]; simp [psL]
theorem psL_at (l : List Ps) {k : Nat} (hk : k < l.length) {i : Nat} (hi : i < 4) : (psL l)[k * 4 + i]? = l[k].cs[i]? := by
  induction l generalizing k with
  | nil => exact absurd hk (by simp)
  | cons x r ih =>
    show (x.cs ++ psL r)[k * 4 + i]? = _
    have hx : x.cs.length = 4 := rfl
    cases k with
    | zero => rw [List.getElem?_append_left (by rw [hx]; omega), Nat.zero_mul, Nat.zero_add]; rfl
    | succ k =>
      rw [List.getElem?_append_right (by rw [hx]; omega), hx, show (k + 1) * 4 + i - 4 = k * 4 + i by omega]
      exact ih (by simpa using hk)
def mzL (l : List (Int × Int)) : List Value := l.flatMap fun m => [iv m.1, iv m.2]
theorem mzL_len (l : List (Int × Int)) : (mzL l).length = l.length * 2 := by
  induction l with
  | nil => rfl
  | cons x l ih =>
    show ([iv x.1, iv x.2] ++ mzL l).length = _
    rw [List.length_append, ih, show (x :: l).length = l.length + 1 from rfl]
    show 2 + l.length * 2 = _
    omega
theorem mzL_app (l r : List (Int × Int)) : mzL (l ++ r) = mzL l ++ mzL r := by unfold mzL; rw [List.flatMap_append]
theorem mzL_at (l : List (Int × Int)) {k : Nat} (hk : k < l.length) : (mzL l)[k * 2]? = some (iv l[k].1) ∧ (mzL l)[k * 2 + 1]? = some (iv l[k].2) := by
  induction l generalizing k with
  | nil => exact absurd hk (by simp)
  | cons x r ih =>
    show ([iv x.1, iv x.2] ++ mzL r)[k * 2]? = _ ∧ ([iv x.1, iv x.2] ++ mzL r)[k * 2 + 1]? = _
    cases k with
    | zero => exact ⟨rfl, rfl⟩
    | succ k =>
      rw [List.getElem?_append_right (by simp; omega), List.getElem?_append_right (by simp; omega), show (k + 1) * 2 - [iv x.1, iv x.2].length = k * 2 by simp; omega, show (k + 1) * 2 + 1 - [iv x.1, iv x.2].length = k * 2 + 1 by simp; omega]
      exact ih (by simpa using hk)
def firstI (p : Nat → Bool) (n : Nat) : Int := match (List.range n).find? p with
  | some i => (i : Int)
  | none => -1
theorem first_hit {p : Nat → Bool} {n i : Nat} (hn : i < n) (hp : p i = true) (h : ∀ k, k < i → p k = false) : firstI p n = (i : Int) := by
  have e : (List.range n).find? p = some i := List.find?_range_eq_some.2 ⟨hp, List.mem_range.2 hn, fun j hj => by rw [h j hj]; rfl⟩
  unfold firstI
  rw [e]
theorem first_none {p : Nat → Bool} {n : Nat} (h : ∀ k, k < n → p k = false) : firstI p n = -1 := by
  have e : (List.range n).find? p = none := List.find?_range_eq_none.2 fun j hj => by rw [h j hj]; rfl
  unfold firstI
  rw [e]
theorem first_cases (p : Nat → Bool) (n : Nat) : (∃ i, i < n ∧ p i = true ∧ (∀ k, k < i → p k = false) ∧ firstI p n = (i : Int)) ∨ ((∀ k, k < n → p k = false) ∧ firstI p n = -1) := by
  cases e : (List.range n).find? p with
  | none =>
    have h := List.find?_range_eq_none.1 e
    have h2 : ∀ k, k < n → p k = false := fun k hk => by
      have := h k hk
      revert this
      cases p k <;> simp
    exact .inr ⟨h2, first_none h2⟩
  | some i =>
    obtain ⟨h1, h2, h3⟩ := List.find?_range_eq_some.1 e
    have h4 : ∀ k, k < i → p k = false := fun k hk => by
      have := h3 k hk
      revert this
      cases p k <;> simp
    exact .inl ⟨i, List.mem_range.1 h2, h1, h4, first_hit (List.mem_range.1 h2) h1 h4⟩
def sameB (a b : Ps) : Bool := (a.s.toList == b.s.toList) && (a.y == b.y)
theorem text_inj {s t : ByteArray} (h : s.toList = t.toList) : s = t := by
  rw [ByteArray.toList_eq, ByteArray.toList_eq] at h
  obtain ⟨a⟩ := s
  obtain ⟨b⟩ := t
  have h : a.toList = b.toList := h
  rw [Array.toList_inj.1 h]
def sameAt (l : List Ps) (i j : Nat) : Bool := match l[i]?, l[j]? with
  | some a, some b => sameB a b
  | _, _ => false
def earlierI (l : List Ps) : Int := firstI (fun i => sameAt l i (l.length - 1)) (l.length - 1)
def originI (m : List (Int × Int)) (n : Int) : Int := m.foldr (fun x k => if x.2 = k then x.1 else k) n
theorem origin_cons (x : Int × Int) (m : List (Int × Int)) (n : Int) : originI (x :: m) n = if x.2 = originI m n then x.1 else originI m n := rfl
theorem origin_snoc (x : Int × Int) (m : List (Int × Int)) (n : Int) : originI (m ++ [x]) n = originI m (if x.2 = n then x.1 else n) := by
  unfold originI
  rw [List.foldr_append]
  rfl
theorem origin_drop {m : List (Int × Int)} {i : Nat} (hi : i < m.length) (n : Int) : originI (m.drop i) n = if m[i].2 = originI (m.drop (i + 1)) n then m[i].1 else originI (m.drop (i + 1)) n := by
  rw [List.drop_eq_getElem_cons hi, origin_cons]
def SqM (m : List (Int × Int)) : Prop := ∀ x ∈ m, 0 ≤ x.1 ∧ x.1 < 90 ∧ 0 ≤ x.2 ∧ x.2 < 90
theorem origin_in {m : List (Int × Int)} (h : SqM m) {n : Int} (hn : 0 ≤ n ∧ n < 90) : 0 ≤ originI m n ∧ originI m n < 90 := by
  induction m with
  | nil => exact hn
  | cons x r ih =>
    have ih := ih fun y hy => h y (List.mem_cons_of_mem _ hy)
    obtain ⟨h1, h2, _⟩ := h x (by simp)
    rw [origin_cons]
    split
    · exact ⟨h1, h2⟩
    · exact ih
def ofAt (l : List Ps) (side : Int) (j : Nat) : Bool := match l[j]? with
  | some p => p.y == side
  | none => false
def ckAt (l : List Ps) (j : Nat) : Bool := match l[j + 1]? with
  | some p => plyC p.s p.y p.z p.u
  | none => false
def oriAt (l : List Ps) (m : List (Int × Int)) (j : Nat) : List Int := match l[j + 1]? with
  | some p => (plyL p.s p.y p.z p.u).map (originI (m.take (j + 1)))
  | none => []
def hasAt (l : List Ps) (m : List (Int × Int)) (j : Nat) (n : Nat) : Bool := ckAt l j || (oriAt l m j).contains (n : Int)
def pliesN (l : List Ps) (side : Int) (k : Nat) : List Nat := (List.range k).filter (ofAt l side)
def keptN (l : List Ps) (m : List (Int × Int)) (side : Int) (k : Nat) : List Nat := (List.range 90).filter fun n => (pliesN l side k).all fun j => hasAt l m j n
def classI (l : List Ps) (m : List (Int × Int)) (side : Int) : Int :=
  if l.length ≠ m.length + 1 ∨ pliesN l side m.length = [] then 0
  else if (pliesN l side m.length).all (ckAt l) then 2
  else if keptN l m side m.length ≠ [] then 1 else 0
theorem plies_succ (l : List Ps) (side : Int) (k : Nat) : pliesN l side (k + 1) = if ofAt l side k then pliesN l side k ++ [k] else pliesN l side k := by
  unfold pliesN
  rw [List.range_succ, List.filter_append, List.filter_cons]
  cases ofAt l side k <;> simp
theorem kept_zero (l : List Ps) (m : List (Int × Int)) (side : Int) : keptN l m side 0 = List.range 90 := by
  unfold keptN pliesN
  rw [List.range_zero, List.filter_nil]
  simp
theorem kept_succ (l : List Ps) (m : List (Int × Int)) (side : Int) (k : Nat) : keptN l m side (k + 1) = if ofAt l side k then (keptN l m side k).filter (hasAt l m k) else keptN l m side k := by
  unfold keptN
  rw [plies_succ]
  cases ofAt l side k
  · simp
  · rw [if_pos rfl, if_pos rfl, List.filter_filter]
    refine List.filter_congr fun n _ => ?_
    rw [List.all_append, Bool.and_comm]
    simp
theorem kept_ck {l : List Ps} {m : List (Int × Int)} {side : Int} {k : Nat} (h : ckAt l k = true) : keptN l m side (k + 1) = keptN l m side k := by
  rw [kept_succ]
  split
  · rw [List.filter_eq_self]
    intro n _
    unfold hasAt
    rw [h, Bool.true_or]
  · rfl
theorem kept_mono {l : List Ps} {m : List (Int × Int)} {side : Int} {k : Nat} (h : keptN l m side k = []) : ∀ d, keptN l m side (k + d) = []
  | 0 => h
  | d + 1 => by
    rw [show k + (d + 1) = (k + d) + 1 from rfl, kept_succ, kept_mono h d]
    split <;> rfl
theorem plies_pre (l : List Ps) (side : Int) (k d : Nat) : ∃ r, pliesN l side (k + d) = pliesN l side k ++ r := by
  induction d with
  | zero => exact ⟨[], by simp⟩
  | succ d ih =>
    obtain ⟨r, hr⟩ := ih
    rw [show k + (d + 1) = (k + d) + 1 from rfl, plies_succ, hr]
    split
    · exact ⟨r ++ [k + d], by rw [List.append_assoc]⟩
    · exact ⟨r, rfl⟩
theorem class_out {l : List Ps} {m : List (Int × Int)} {side : Int} {j : Nat} (hj : j < m.length) (hof : ofAt l side j = true) (hck : ckAt l j = false) (hk : keptN l m side (j + 1) = []) : classI l m side = 0 := by
  unfold classI
  obtain ⟨r, hr⟩ := plies_pre l side (j + 1) (m.length - (j + 1))
  rw [show j + 1 + (m.length - (j + 1)) = m.length by omega] at hr
  have hk2 := kept_mono hk (m.length - (j + 1))
  rw [show j + 1 + (m.length - (j + 1)) = m.length by omega] at hk2
  have hall : (pliesN l side m.length).all (ckAt l) = false := by
    rw [hr, plies_succ, hof, if_pos rfl, List.all_append, List.all_append]
    simp [hck]
  rw [hall, hk2]
  split
  · rfl
  · simp
theorem class_end {l : List Ps} {m : List (Int × Int)} {side : Int} (hl : l.length = m.length + 1) {checked chased : Bool} (h1 : checked = (pliesN l side m.length).any (ckAt l)) (h2 : chased = (pliesN l side m.length).any fun j => !ckAt l j) (h3 : chased = true → keptN l m side m.length ≠ []) : classI l m side = if chased then 1 else if checked then 2 else 0 := by
  unfold classI
  cases hp : pliesN l side m.length with
  | nil =>
    rw [hp] at h1 h2
    rw [h1, h2]
    simp
  | cons a r =>
    rw [if_neg (by rw [hl]; simp)]
    cases hc : chased with
    | true =>
      rw [hc, hp] at h2
      have : (a :: r).all (ckAt l) = false := by
        rw [List.all_eq_not_any_not, ← h2]
        rfl
      rw [this, if_pos (h3 hc)]
      rfl
    | false =>
      rw [hc, hp] at h2
      have : (a :: r).all (ckAt l) = true := by
        rw [List.all_eq_not_any_not, ← h2]
        rfl
      rw [this]
      have hc1 : checked = true := by
        rw [h1, hp, List.any_cons]
        rw [List.all_cons, Bool.and_eq_true] at this
        rw [this.1]
        rfl
      rw [hc1]
      rfl
theorem class_len {l : List Ps} {m : List (Int × Int)} {side : Int} (h : l.length ≠ m.length + 1) : classI l m side = 0 := by
  unfold classI
  rw [if_pos (.inl h)]
end Go.Proofs.YtpogpjebhnoncaaGreatDoor
namespace Go.Proofs.YtpogpjebhnoncaaGreatDoor
open Go.RowKit Go.Shelf
open M (S)
abbrev Ps.well (p : Ps) : Int := wellN p.s p.y p.z p.u
def stepP (p : Ps) (m : Int × Int) : Option Ps := if isV p.s p.y p.z p.u m.1 m.2 then some ⟨movedS p.s m.1.toNat m.2.toNat (bAt p.s m.1.toNat), 1 - p.y, clockA p.s p.z m.2.toNat, fullA p.y p.u⟩ else none
theorem isV_parts {s : ByteArray} {y z u a b : Int} (h : isV s y z u a b = true) : wellN s y z u = 0 ∧ (isM s y a b = true ∧ kindN (bAt s b.toNat) ≠ 75) ∧ wellN (movedS s a.toNat b.toNat (bAt s a.toNat)) (1 - y) (clockA s z b.toNat) (fullA y u) = 0 := by
  unfold isV at h
  rw [Bool.and_eq_true, beq_iff_eq] at h
  obtain ⟨h1, h2⟩ := h
  by_cases h3 : isM s y a b = true ∧ kindN (bAt s b.toNat) ≠ 75
  · refine ⟨h1, h3, ?_⟩
    rw [leaves_good h3, beq_iff_eq] at h2
    exact h2
  · rw [leaves_bad h3] at h2
    cases h2
theorem make_step {p q : Ps} {m : Int × Int} (h : stepP p m = some q) : ∃ t : Nat, makeV p.s p.y p.z p.u m.1 m.2 = .tuple #[.agg #[.string q.s, .int .i64 q.y, .int .i64 q.z, .int .i64 q.u], .int .u8 t, .int .i64 0] := by
  unfold stepP at h
  split at h
  · rename_i hv
    injection h with h
    subst h
    obtain ⟨h1, h2, _⟩ := isV_parts hv
    have h3 : leavesI p.s p.y p.z p.u m.1 m.2 = true := by
      unfold isV at hv
      rw [Bool.and_eq_true] at hv
      exact hv.2
    unfold makeV
    rw [if_pos h1, if_pos h3, apply_good_value (well_check h1) h2]
    exact ⟨_, rfl⟩
  · cases h
theorem make_stop {p : Ps} {m : Int × Int} (h : stepP p m = none) : ∃ k, k ≠ 0 ∧ makeV p.s p.y p.z p.u m.1 m.2 = noneV k := by
  unfold stepP at h
  split at h
  · cases h
  · rename_i hv
    unfold makeV
    by_cases h1 : wellN p.s p.y p.z p.u = 0
    · rw [if_pos h1]
      have h3 : leavesI p.s p.y p.z p.u m.1 m.2 = false := by
        unfold isV at hv
        rw [h1] at hv
        cases e : leavesI p.s p.y p.z p.u m.1 m.2
        · rfl
        · rw [e] at hv
          exact absurd rfl hv
      rw [h3, if_neg (by simp)]
      exact ⟨7, by decide, rfl⟩
    · rw [if_neg h1]
      exact ⟨_, h1, rfl⟩
theorem step_parts {p q : Ps} {m : Int × Int} (h : stepP p m = some q) : p.well = 0 ∧ q.well = 0 ∧ (isB p.s = true ∧ (p.y = 0 ∨ p.y = 1)) ∧ ∃ a b : Nat, m = ((a : Int), (b : Int)) ∧ a < 90 ∧ b < 90 ∧ canB p.s a b = true ∧ sideN (bAt p.s a) = p.y ∧ kindN (bAt p.s b) ≠ 75 ∧ q = ⟨behindS p.s (a, b), 1 - p.y, clockA p.s p.z b, fullA p.y p.u⟩ := by
  unfold stepP at h
  split at h
  · rename_i hv
    injection h with h
    subst h
    obtain ⟨h1, ⟨h2, h3⟩, h4⟩ := isV_parts hv
    obtain ⟨hs, ha, hb, hc⟩ := isM_parts h2
    have hsd : sideN (bAt p.s m.1.toNat) = p.y := by
      unfold isM at h2
      rw [Bool.and_eq_true, beq_iff_eq] at h2
      exact h2.2
    have hy := (check_other (well_zero h1).1).1
    obtain ⟨a, b⟩ := m
    refine ⟨h1, h4, ⟨hs, hy⟩, a.toNat, b.toNat, ?_, by omega, by omega, hc, hsd, h3, rfl⟩
    rw [Int.toNat_of_nonneg ha.1, Int.toNat_of_nonneg hb.1]
  · cases h
theorem step_safe {p q : Ps} {a b : Nat} (h : stepP p ((a : Int), (b : Int)) = some q) : safeB (behindS p.s (a, b)) p.y = true := by
  obtain ⟨h1, h2, _, a', b', e, ha, hb, hc, _, hk, rfl⟩ := step_parts h
  simp only [Prod.mk.injEq, Int.natCast_inj] at e
  obtain ⟨rfl, rfl⟩ := e
  exact (well_behind (well_zero h1).1 ha hb hc hk).1 h2
structure Chain (p : Ps) (ls : List Ps) (ms : List (Int × Int)) : Prop where
  len : ls.length = ms.length + 1
  first : ls[0]? = some p
  step : ∀ j, j < ms.length → ∃ a b m, ls[j]? = some a ∧ ms[j]? = some m ∧ ls[j + 1]? = some b ∧ stepP a m = some b
theorem chain_start (p : Ps) : Chain p [p] [] := ⟨rfl, rfl, fun j hj => absurd hj (by simp)⟩
theorem Chain.snoc {p c q : Ps} {ls : List Ps} {ms : List (Int × Int)} {m : Int × Int} (h : Chain p ls ms) (hc : ls[ms.length]? = some c) (hs : stepP c m = some q) : Chain p (ls ++ [q]) (ms ++ [m]) where
  len := by rw [List.length_append, List.length_append, h.len]; rfl
  first := by rw [List.getElem?_append_left (by rw [h.len]; omega)]; exact h.first
  step := fun j hj => by
    rw [List.length_append] at hj
    have hj : j < ms.length + 1 := hj
    by_cases e : j < ms.length
    · obtain ⟨a, b, x, h1, h2, h3, h4⟩ := h.step j e
      exact ⟨a, b, x, by rw [List.getElem?_append_left (by rw [h.len]; omega)]; exact h1, by rw [List.getElem?_append_left e]; exact h2, by rw [List.getElem?_append_left (by rw [h.len]; omega)]; exact h3, h4⟩
    · obtain rfl : j = ms.length := by omega
      refine ⟨c, q, m, ?_, ?_, ?_, hs⟩
      · rw [List.getElem?_append_left (by rw [h.len]; omega)]
        exact hc
      · rw [List.getElem?_append_right (Nat.le_refl _), Nat.sub_self]
        rfl
      · rw [List.getElem?_append_right (by rw [h.len]; omega), h.len, Nat.sub_self]
        rfl
theorem Chain.get {p : Ps} {ls : List Ps} {ms : List (Int × Int)} (h : Chain p ls ms) {j : Nat} (hj : j ≤ ms.length) : ∃ a, ls[j]? = some a := ⟨_, List.getElem?_eq_getElem (by rw [h.len]; omega)⟩
theorem Chain.well {p : Ps} {ls : List Ps} {ms : List (Int × Int)} (h : Chain p ls ms) (h0 : p.well = 0 ∨ 0 < ms.length) {j : Nat} {a : Ps} (ha : ls[j]? = some a) : a.well = 0 := by
  have hj : j < ls.length := by
    rcases Nat.lt_or_ge j ls.length with h | h
    · exact h
    · rw [List.getElem?_eq_none h] at ha
      cases ha
  rw [h.len] at hj
  by_cases e : j < ms.length
  · obtain ⟨x, b, m, h1, _, _, h4⟩ := h.step j e
    rw [ha] at h1
    injection h1 with h1
    subst h1
    exact (step_parts h4).1
  · obtain rfl : j = ms.length := by omega
    rcases Nat.eq_zero_or_pos ms.length with e0 | e0
    · rw [e0, h.first] at ha
      injection ha with ha
      subst ha
      rcases h0 with h0 | h0
      · exact h0
      · omega
    · obtain ⟨x, b, m, h1, _, h3, h4⟩ := h.step (ms.length - 1) (by omega)
      rw [show ms.length - 1 + 1 = ms.length by omega, ha] at h3
      injection h3 with h3
      subst h3
      exact (step_parts h4).2.1
theorem Chain.sq {p : Ps} {ls : List Ps} {ms : List (Int × Int)} (h : Chain p ls ms) : SqM ms := fun x hx => by
  obtain ⟨j, hj, rfl⟩ := List.mem_iff_getElem.1 hx
  obtain ⟨a, b, m, h1, h2, h3, h4⟩ := h.step j hj
  rw [List.getElem?_eq_getElem hj] at h2
  injection h2 with h2
  rw [h2]
  obtain ⟨_, _, _, c, d, rfl, hc, hd, _⟩ := step_parts h4
  show 0 ≤ (c : Int) ∧ (c : Int) < 90 ∧ 0 ≤ (d : Int) ∧ (d : Int) < 90
  omega
theorem Chain.back {p : Ps} {ls : List Ps} {ms : List (Int × Int)} (h : Chain p ls ms) : ∀ (k : Nat) (_ : k ≤ ms.length) (q : Ps) (_ : ls[k]? = some q) (n : Nat) (_ : n < 90) (_ : bAt q.s n ≠ 46), ∃ o : Nat, o < 90 ∧ originI (ms.take k) (n : Int) = (o : Int) ∧ bAt p.s o = bAt q.s n
  | 0, _, q, hq, n, hn, _ => by
    rw [h.first] at hq
    injection hq with hq
    subst hq
    exact ⟨n, hn, by rw [List.take_zero]; rfl, rfl⟩
  | k + 1, hk, q, hq, n, hn, hne => by
    obtain ⟨a, b, m, h1, h2, h3, h4⟩ := h.step k (by omega)
    rw [hq] at h3
    injection h3 with h3
    subst h3
    obtain ⟨_, _, ⟨hB, _⟩, x, y, rfl, hx, hy, hc, _, _, e⟩ := step_parts h4
    have hk' : k < ms.length := by omega
    rw [List.getElem?_eq_getElem hk'] at h2
    injection h2 with h2
    rw [List.take_succ_eq_append_getElem hk', h2, origin_snoc]
    have hat : bAt q.s n = if n = y then bAt a.s x else if n = x then 46 else bAt a.s n := by
      rw [e]
      exact moved_at (isB_size hB) (bAt_lt a.s x) hn
    by_cases e1 : n = y
    · subst e1
      rw [if_pos rfl] at hat ⊢
      rw [hat]
      exact h.back k (by omega) a h1 x hx (by rw [← hat]; exact hne)
    · rw [if_neg e1] at hat
      by_cases e2 : n = x
      · rw [if_pos e2] at hat
        exact absurd hat hne
      · rw [if_neg e2] at hat
        rw [if_neg (show ¬ ((y : Int) = (n : Int)) by omega), hat]
        exact h.back k (by omega) a h1 n hn (by rw [← hat]; exact hne)
structure TurnP (a b : Ps) : Prop where
  wa : a.well = 0
  wb : b.well = 0
  s : b.s = turnB a.s
  y : b.y = 1 - a.y
  z : b.z = a.z
theorem Ps.board {a : Ps} (h : a.well = 0) : isB a.s = true := parts_board (check_zero (well_zero h).1).1
theorem Ps.side {a : Ps} (h : a.well = 0) : a.y = 0 ∨ a.y = 1 := (check_other (well_zero h).1).1
theorem well_full {s : ByteArray} {y z u v : Int} (h : wellN s y z u = 0) (h1 : 1 ≤ v) (h2 : v ≤ 9999) : wellN s y z v = 0 := by
  obtain ⟨hck, hf, hi⟩ := well_zero h
  obtain ⟨hp, hc, hpl⟩ := check_zero hck
  have hp2 : partsB s y z v = true := by
    unfold partsB at hp ⊢
    simp only [Bool.and_eq_true, decide_eq_true_eq] at hp ⊢
    exact ⟨⟨hp.1.1, h1⟩, h2⟩
  have hck2 : (checkN s y z v : Int) = 0 := by
    unfold checkN
    rw [hp2, hc, hpl]
    rfl
  unfold wellN
  rw [if_pos hck2, hf, hi]
  rfl
theorem TurnP.symm {a b : Ps} (h : TurnP a b) : TurnP b a := ⟨h.wb, h.wa, by rw [h.s, turn_turn (Ps.board h.wa)], by rw [h.y]; omega, h.z.symm⟩
end Go.Proofs.YtpogpjebhnoncaaGreatDoor
namespace Go.Proofs.YtpogpjebhnoncaaGreatDoor
open Go.RowKit Go.Shelf
open M (S)
theorem sameB_iff {a b : Ps} : sameB a b = true ↔ a.s = b.s ∧ a.y = b.y := by
  unfold sameB
  rw [Bool.and_eq_true, beq_iff_eq, beq_iff_eq]
  exact ⟨fun h => ⟨text_inj h.1, h.2⟩, fun h => ⟨by rw [h.1], h.2⟩⟩
theorem ck_of {l : List Ps} {j : Nat} {p : Ps} (h : l[j + 1]? = some p) : ckAt l j = plyC p.s p.y p.z p.u := by
  unfold ckAt
  rw [h]
theorem of_of {l : List Ps} {j : Nat} {p : Ps} (h : l[j]? = some p) (side : Int) : ofAt l side j = (p.y == side) := by
  unfold ofAt
  rw [h]
theorem ori_of {l : List Ps} {m : List (Int × Int)} {j : Nat} {p : Ps} (h : l[j + 1]? = some p) : oriAt l m j = (plyL p.s p.y p.z p.u).map (originI (m.take (j + 1))) := by
  unfold oriAt
  rw [h]
end Go.Proofs.YtpogpjebhnoncaaGreatDoor
namespace Go.Proofs.YtpogpjebhnoncaaGreatDoor
open Go.RowKit Go.Shelf
open M (S)
attribute [local go_sem] Oper.semAt_some
def downL (n : Nat) : List Nat := (List.range n).reverse
theorem downL_len (n : Nat) : (downL n).length = n := by unfold downL; rw [List.length_reverse, List.length_range]
theorem downL_at (n k : Nat) (h : k < n) : (downL n)[k]'(by rw [downL_len]; exact h) = n - 1 - k := by
  unfold downL
  rw [List.getElem_reverse, List.getElem_range, List.length_range]
theorem downL_take (n j : Nat) (h : j + 1 ≤ n) : (downL n).take (n - j) = (downL n).take (n - (j + 1)) ++ [j] := by
  rw [show n - j = n - (j + 1) + 1 by omega, List.take_succ_eq_append_getElem (by rw [downL_len]; omega), downL_at n _ (by omega), show n - 1 - (n - (j + 1)) = j by omega]
def mzAt (m : List (Int × Int)) (i : Nat) : Int × Int := m.getD i (0, 0)
theorem mzAt_get {m : List (Int × Int)} {i : Nat} (h : i < m.length) : mzAt m i = m[i] := by
  unfold mzAt
  rw [List.getD_eq_getElem?_getD, List.getElem?_eq_getElem h]
  rfl
abbrev encB (m : List (Int × Int)) (i : Nat) : Array Value := #[.int .i64 (i : Int), .agg #[.int .i64 (mzAt m i).1, .int .i64 (mzAt m i).2]]
def orgS (m : List (Int × Int)) (k : Int) (i : Nat) : Int := if (mzAt m i).2 = k then (mzAt m i).1 else k
def orgF (m : List (Int × Int)) (n0 : Int) (pre : List Nat) : Int := pre.foldl (orgS m) n0
theorem orgF_snoc (m : List (Int × Int)) (n0 : Int) (pre : List Nat) (i : Nat) : orgF m n0 (pre ++ [i]) = orgS m (orgF m n0 pre) i := by
  unfold orgF
  rw [List.foldl_append]
  rfl
theorem orgF_down (m : List (Int × Int)) (n0 : Int) : orgF m n0 (downL m.length) = originI m n0 := by
  unfold orgF downL
  rw [List.foldl_reverse]
  unfold originI
  have h : m = (List.range m.length).map (mzAt m) := by
    refine List.ext_getElem (by simp) fun i h1 h2 => ?_
    rw [List.getElem_map, List.getElem_range, mzAt_get h1]
  conv => rhs; rw [h, List.foldr_map]
  rfl
theorem Rd.mz {w : World} {A : Option Addr} {l : List (Int × Int)} (h : Rd w A (mzL l)) {k : Nat} (hk : k < l.length) : ∃ g b, A = some ⟨g, b, none⟩ ∧ w.cell? ⟨g, b + k * 2, none⟩ = some (iv l[k].1) ∧ w.cell? ⟨g, b + k * 2 + 1, none⟩ = some (iv l[k].2) := by
  obtain ⟨h0, h1⟩ := mzL_at l hk
  obtain ⟨⟨g, b, sp⟩, rfl, hc⟩ := h _ _ h0
  obtain ⟨a1, e1, hc1⟩ := h _ _ h1
  cases e1
  have h00 : 0 < l.length := by omega
  obtain ⟨a2, e2, hc2⟩ := h _ _ (mzL_at l h00).1
  cases e2
  have hsp : sp = none := by simpa [Addr.add] using World.cell?_spot hc2
  subst hsp
  have hadd : ∀ j, (Addr.add ⟨g, b, none⟩ j) = ⟨g, b + j, none⟩ := fun j => by
    simp only [Addr.add]
    split <;> simp_all
  rw [hadd] at hc hc1
  exact ⟨g, b, rfl, hc, hc1⟩
structure BackAt (W : World) (H T B : Nat) (A : Option Addr) (m : List (Int × Int)) (c : Nat) : Prop where
  bg : Blk W H 24 #[.slice A m.length c]
  rd : Rd W A (mzL m)
  at_ : m ≠ [] → ∀ ad, A = some ad → ad.block < T
  hT : T < H
  hB : H < B
theorem BackAt.kept {W W' : World} {H T B : Nat} {A : Option Addr} {m : List (Int × Int)} {c : Nat} (h : BackAt W H T B A m c) (k : KeptT T B W W') : BackAt W' H T B A m c := by
  have h1 := h.hT
  have h2 := h.hB
  refine ⟨(k.low H (by omega) (by omega)).trans h.bg, fun j u hu => ?_, h.at_, h.hT, h.hB⟩
  obtain ⟨ad, e, hc⟩ := h.rd j u hu
  have a1 := h.at_ (fun e0 => by rw [e0] at hu; simp [mzL] at hu) ad e
  refine ⟨ad, e, ?_⟩
  have e2 := k.low ad.block (by omega) (by omega)
  have hb : (ad.add j).block = ad.block := by
    unfold Addr.add
    split <;> rfl
  unfold World.cell? at hc ⊢
  rw [hb] at hc ⊢
  rw [e2]
  exact hc
set_option maxRecDepth 100000 in
set_option maxHeartbeats 4000000 in
theorem back1_in (n : Nat) (hn : 1 ≤ n) (l H T B : Nat) (A : Option Addr) (m : List (Int × Int)) (c : Nat) (J Jx : List Nat → World → Prop) (W : World)
    (hY : ∀ pre x W1, J pre W1 → pre.length < m.length → YieldAt Fence.wide (n - 1) Tryz.prog l (encB m x) W1 fun e W' =>
      (e = .returned (.bool true) ∧ J (pre ++ [x]) W' ∧ KeptT T B W1 W') ∨ (e = .returned (.bool false) ∧ Jx (pre ++ [x]) W'))
    (hM : BackAt W H T B A m c) (hl : m.length ≤ 1000000) (h0 : J [] W) :
    CallsIn Fence.wide n Tryz.prog 252 #[.func (.yield l) #[] #[], .pointer (some ⟨H, 0, none⟩)] W fun e W' => (∃ v, e = .returned v) ∧
      ((∃ ys, ys = downL m.length ∧ J ys W') ∨ (∃ pre, pre <+: downL m.length ∧ Jx pre W')) := by
  obtain ⟨q, hq⟩ : ∃ q, m.length = q := ⟨_, rfl⟩
  have HQ := Lib.hid hq
  have HG := Lib.hid hM
  have c0 := hM.bg.cell 0
  simp only [List.getElem?_toArray, List.getElem?_cons_zero] at c0
  rw [hq] at c0
  have hz : (downL q).take (q - q) = [] := by rw [Nat.sub_self, List.take_zero]
  have h00 : J ((downL q).take (q - q)) W := by rw [hz]; exact h0
  rw [hq] at hl
  clear hM h0 hz hq
  refine callsIn_of_wp Tryz.func252 rfl trivial ?_ rfl
  simp only [Tryz.ntmps252, List.size_toArray, List.length_cons, List.length_nil, Nat.reduceAdd, Nat.reduceSub, Array.replicate_succ, Array.replicate_zero, List.push_toArray, List.append_toArray, List.nil_append, List.cons_append]
  gi_wp2
  gi_loopw [3] (fun i wr => ∃ k : Nat, k ≤ q ∧ i = .int .i64 ((k : Int) - 1) ∧ BackAt wr H T B A m c ∧ J ((downL q).take (q - k)) wr)
    (fun i _ => ((intOf i) + 1).toNat)
  case atStart => exact ⟨q, Nat.le_refl _, by go_num, HG.out, h00⟩
  case round =>
    obtain ⟨k, hk, rfl, hM, hJr⟩ := hrel
    cases k with
    | zero =>
      have hJd : J (downL q) wr := by rw [Nat.sub_zero, List.take_of_length_le (by rw [downL_len]; exact Nat.le_refl _)] at hJr; exact hJr
      gi_wp2
      go_end0
      exact ⟨⟨_, rfl⟩, .inl ⟨_, by rw [HQ.out], hJd⟩⟩
    | succ j =>
      have hjm : j < m.length := by rw [HQ.out]; omega
      obtain ⟨g, b, rfl, d0, d1⟩ := hM.rd.mz hjm
      have c1 := hM.bg.cell 0
      simp only [List.getElem?_toArray, List.getElem?_cons_zero] at c1
      rw [HQ.out] at c1
      obtain ⟨fn, tmps, assign, body, hy, hR⟩ := hY ((downL q).take (q - (j + 1))) j wr hJr (by rw [List.length_take, downL_len, HQ.out]; omega)
      rw [← downL_take q j hk] at hR
      simp only [encB, mzAt_get hjm] at hy
      rw [show ((j + 1 : Nat) : Int) - 1 = (j : Int) by omega]
      have bj : (j : Int) < (q : Int) := by omega
      have HM := Lib.hid hM
      clear hM hY hJr
      gi_wp2
      refine hR.mono ?_
      rintro e W3 (⟨rfl, hJ3, hk3⟩ | ⟨rfl, hJx3⟩)
      · gi_wp2
        go_roundw
        case rel => exact ⟨j, by omega, by go_num, HM.out.kept hk3, hJ3⟩
        case measure => simp [intOf]
      · gi_wp2
        refine bodyPost_ret (results_none rfl _ _ _) rfl ?_
        exact ⟨⟨_, rfl⟩, .inr ⟨_, by rw [HQ.out]; exact List.take_prefix _ _, hJx3⟩⟩
theorem back_any (A : Option Addr) (n c : Nat) (w : World) :
    Calls Tryz.prog 221 #[.slice A n c] w fun e w' => e = .returned (.func (.func 252) #[] #[.pointer (some ⟨w.heap.size, 0, none⟩)]) ∧ w.alloc (.cells #[.slice A n c] 24) = w' := by
  go_enter Tryz.func221, Tryz.ntmps221
  go_wp2
  go_ret
  exact ⟨rfl, rfl⟩
theorem back_stops (n : Nat) (hn : 1 ≤ n) (H T B : Nat) (A : Option Addr) (m : List (Int × Int)) (c : Nat) (w : World) (hM : BackAt w H T B A m c) (hl : m.length ≤ 1000000) (hB : B ≤ w.heap.size) :
    SeqStopsK Fence.wide n Tryz.prog 252 #[.pointer (some ⟨H, 0, none⟩)] (encB m) (KeptT T B) (fun ys => ys = downL m.length) (fun pre => pre <+: downL m.length) m.length w := fun l J Jx W hW _ _ hY h0 =>
  back1_in n hn l H T B A m c J Jx W hY (hM.kept (KeptT.next hB hW)) hl h0
set_option maxRecDepth 100000 in
set_option maxHeartbeats 4000000 in
theorem origin_in1 (A : Option Addr) (m : List (Int × Int)) (c : Nat) (n0 : Int) (w : World) (hr : Rd w A (mzL m)) (hl : m.length ≤ 1000000) :
    CallsIn Fence.wide 5 Tryz.prog 172 #[.slice A m.length c, .int .i64 n0] w fun e W' => e = .returned (.int .i64 (originI m n0)) ∧ Below w.heap.size w W' := by
  have hro : Fence.wide.round = none := rfl
  refine callsIn_of_wp_marks Tryz.func172 rfl trivial ?_ hro
  simp only [Tryz.ntmps172, List.size_toArray, List.length_cons, List.length_nil, Nat.reduceAdd, Nat.reduceSub, Array.replicate_succ, Array.replicate_zero, List.push_toArray, List.append_toArray, List.nil_append, List.cons_append]
  gi_wp2_with (refine ⟨trivial, ?_⟩; gi_at_call 221; refine (callsIn_wide.2 (back_any A _ c _)).mono ?_; rintro e w1 ⟨rfl, rfl⟩)
  obtain ⟨W0, hW0⟩ : ∃ W0, (w.alloc (.cells #[.int .i64 n0] 3)).alloc (.cells #[.slice A m.length c] 24) = W0 := ⟨_, rfl⟩
  have hB0 : Below w.heap.size w W0 := by rw [← hW0]; exact (by repeat (first | exact Below.refl _ _ | (refine Below.setCell ?_ (by first | omega | (simp; done) | (simp; omega) | (simp at *; omega)) _) | (refine Below.alloc ?_ (by first | omega | (simp; done) | (simp; omega) | (simp at *; omega)) _) | refine Below.drew ?_ | (refine below_drewN ?_ _) | (refine Below.trans ?_ (Below.mono (by assumption) (by first | omega | (simp; done) | (simp; omega) | (simp at *; omega))))))
  have hsz0 : W0.heap.size = w.heap.size + 2 := by rw [← hW0]; simp
  have bT : Blk W0 w.heap.size 3 #[.int .i64 n0] := by rw [← hW0]; exact (Blk.new _ _ _ rfl).alloc _
  have bg : Blk W0 (w.heap.size + 1) 24 #[.slice A m.length c] := by rw [← hW0]; exact Blk.new _ _ _ (by simp)
  have hM : BackAt W0 (w.heap.size + 1) w.heap.size W0.heap.size A m c := by
    refine ⟨bg, hr.next hB0, fun hne ad e => ?_, by omega, by omega⟩
    obtain ⟨x, r, rfl⟩ := List.exists_cons_of_ne_nil hne
    obtain ⟨g, b, e2, d0, _⟩ := hr.mz (k := 0) (by simp)
    rw [e] at e2
    injection e2 with e2
    rw [e2]
    exact cell_lt d0
  rw [hW0]
  refine wpIn_rangeFunc_ownH hro (by decide) (gf := 252) (lb := #[.pointer (some ⟨w.heap.size + 1, 0, none⟩)]) rfl trivial (enters_of Tryz.func252 (by kernel_rfl) rfl)
    (back_stops 4 (by decide) (w.heap.size + 1) w.heap.size W0.heap.size A m c W0 hM hl (Nat.le_refl _)) KeptT.trans KeptT.put (Below.refl _ _) (fun _ => rfl)
    (fun pre W => Blk W w.heap.size 3 #[.int .i64 (orgF m n0 pre)] ∧ (Below w.heap.size w W ∧ W0.heap.size ≤ W.heap.size))
    (fun _ _ _ => False)
    (OwnFrom.and (Own.from (blk_own w.heap.size 3 (fun pre => #[.int .i64 (orgF m n0 pre)])) _) (OwnFrom.and (ownFrom_below (Nat.le_refl _) (by omega)) (fun _ _ _ _ hs hgr _ => Nat.le_trans hs hgr.size)))
    (fun _ _ _ _ _ hs _ _ => hs)
    ⟨bT, hB0, Nat.le_refl _⟩
    (fun x a' W => ∃ g, Blk W g 54 #[.int .i64 (mzAt m x).1, .int .i64 (mzAt m x).2] ∧ w.heap.size ≠ g ∧ a' = { tmps := #[.slice A m.length c, .int .i64 n0, undef, .pointer (some ⟨w.heap.size, 0, none⟩), .int .i64 0, undef, .pointer (some ⟨g, 0, none⟩), .slice A m.length c, .func (.func 252) #[] #[.pointer (some ⟨w.heap.size + 1, 0, none⟩)], .int .i64 (x : Int), .agg #[.int .i64 (mzAt m x).1, .int .i64 (mzAt m x).2], undef, undef, undef, undef, undef, undef, undef], defers := [] })
    (fun x a' _ W W' row ⟨g, hb, hne, e⟩ hgr hr => ⟨g, (hgr.block g hb.lt fun e' => by
      obtain ⟨_, o, ho, hc⟩ := hr g e'.symm
      rw [show W.heap[g]? = _ from hb] at ho
      cases ho
      cases hc).trans hb, hne, e⟩) ?assign ?body ?done ?stop
  case assign =>
    rintro l' pre x W K ⟨hv, hB, hBW⟩ hK
    have hbm := below_new W (.cells #[.int .i64 (mzAt m x).1, .int .i64 (mzAt m x).2] 54)
    have hne := Lib.hid (show w.heap.size ≠ W.heap.size by omega)
    gi_wp2
    exact hK _ _ ((KeepsOthers.alloc _ _).from _) (KeptT.next hBW hbm) ⟨hv.alloc _, hB.trans (hbm.mono hB.size), Nat.le_trans hBW hbm.size⟩ ⟨W.heap.size, Blk.new _ _ _ rfl, hne.out, rfl⟩
  case body =>
    rintro l' pre x a' W hl' hr' ⟨hv, hB, hBW⟩ ⟨g, bM, hne, rfl⟩ hlt
    have hc := hv.cell 0
    have hf := hv.frozen 0
    have e0 : W.cell? ⟨g, 0, none⟩ = some (.int .i64 (mzAt m x).1) := bM.cell 0
    have e1 : W.cell? ⟨g, 1, none⟩ = some (.int .i64 (mzAt m x).2) := bM.cell 1
    simp only [List.getElem?_toArray, List.getElem?_cons_zero] at hc
    obtain ⟨k, hk⟩ : ∃ k, orgF m n0 pre = k := ⟨_, rfl⟩
    have hs := orgF_snoc m n0 pre x
    unfold orgS at hs
    rw [hk] at hs hc
    obtain ⟨⟨a, b⟩, hab⟩ : ∃ y, mzAt m x = y := ⟨_, rfl⟩
    rw [hab] at e0 e1 hs ⊢
    have hs : orgF m n0 (pre ++ [x]) = if b = k then a else k := hs
    have hTW := Lib.hid (show w.heap.size < W0.heap.size by omega)
    have HBW := Lib.hid hBW
    have HSZ := Lib.hid hsz0
    clear hne hsz0 hBW
    by_cases hbk : b = k
    · have hbk2 : (b == k) = true := by rw [hbk]; simp
      rw [if_pos hbk] at hs
      have HS := Lib.hid hs
      clear hs hbk hab hk hM bT bg bM hr'
      gi_wp2
      exact ⟨(KeepsOthers.setCell _ _ _).from _, KeptT.set hTW.out _ _, by rw [HS.out]; exact hv.set_ 0 (.int .i64 a), hB.setCell (p := ⟨w.heap.size, 0, none⟩) (Nat.le_refl _) _, by have := HBW.out; simp; omega⟩
    · have hbk2 : (b == k) = false := by rw [beq_eq_false_iff_ne]; exact hbk
      rw [if_neg hbk, ← hk] at hs
      have HS := Lib.hid hs
      clear hs hbk hab hk hM bT bg bM hr'
      gi_wp2
      exact ⟨KeepsFrom.refl _ _, KeptT.refl _ _ _, by rw [HS.out]; exact hv, hB, HBW.out⟩
  case done =>
    rintro D ys W hD rfl ⟨hv, hB, hBW⟩ hK
    have hc := hv.cell 0
    simp only [List.getElem?_toArray, List.getElem?_cons_zero] at hc
    rw [orgF_down] at hc
    gi_wp2
    refine ⟨by simp, .inl ⟨_, _, rfl, run_takeDeferred hK, ?_⟩⟩
    exact ⟨_, results_tmp rfl _ _ _, rfl, hB.trans (belowK_b (w := w) (Nat.le_refl _) W D _ _ (by omega) hK rfl rfl)⟩
  case stop =>
    rintro D c' pre W _ _ h _
    exact h.elim
theorem origin_any (A : Option Addr) (m : List (Int × Int)) (n c : Nat) (n0 : Int) (w : World) (hr : Rd w A (mzL m)) (hn : m.length = n) (hl : n ≤ 1000000) :
    Calls Tryz.prog 172 #[.slice A n c, .int .i64 n0] w (Gives w (.int .i64 (originI m n0))) := by
  subst hn
  exact callsIn_wide.1 (origin_in1 A m c n0 w hr hl)
end Go.Proofs.YtpogpjebhnoncaaGreatDoor
namespace Go.Proofs.YtpogpjebhnoncaaGreatDoor
open Go.RowKit Go.Shelf
open M (S)
abbrev Ps.val (p : Ps) : Value := .agg #[.string p.s, .int .i64 p.y, .int .i64 p.z, .int .i64 p.u]
theorem Rd.ps {w : World} {A : Option Addr} {l : List Ps} (h : Rd w A (psL l)) {k : Nat} (hk : k < l.length) : ∃ g b, A = some ⟨g, b, none⟩ ∧ w.cell? ⟨g, b + k * 4, none⟩ = some (.string l[k].s) ∧ w.cell? ⟨g, b + k * 4 + 1, none⟩ = some (.int .i64 l[k].y) ∧ w.cell? ⟨g, b + k * 4 + 2, none⟩ = some (.int .i64 l[k].z) ∧ w.cell? ⟨g, b + k * 4 + 3, none⟩ = some (.int .i64 l[k].u) := by
  have e0 : (psL l)[k * 4 + 0]? = some (.string l[k].s) := psL_at l hk (by decide)
  have e1 : (psL l)[k * 4 + 1]? = some (.int .i64 l[k].y) := psL_at l hk (by decide)
  have e2 : (psL l)[k * 4 + 2]? = some (.int .i64 l[k].z) := psL_at l hk (by decide)
  have e3 : (psL l)[k * 4 + 3]? = some (.int .i64 l[k].u) := psL_at l hk (by decide)
  have e9 : (psL l)[0 * 4 + 0]? = some (.string (l[0]'(by omega)).s) := psL_at l (by omega) (by decide)
  obtain ⟨⟨g, b, sp⟩, rfl, hc0⟩ := h _ _ e0
  obtain ⟨a1, x1, hc1⟩ := h _ _ e1
  cases x1
  obtain ⟨a2, x2, hc2⟩ := h _ _ e2
  cases x2
  obtain ⟨a3, x3, hc3⟩ := h _ _ e3
  cases x3
  obtain ⟨a9, x9, hc9⟩ := h _ _ e9
  cases x9
  have hsp : sp = none := by simpa [Addr.add] using World.cell?_spot hc9
  subst hsp
  have hadd : ∀ j, (Addr.add ⟨g, b, none⟩ j) = ⟨g, b + j, none⟩ := fun j => by
    simp only [Addr.add]
    split <;> simp_all
  rw [hadd] at hc0 hc1 hc2 hc3
  exact ⟨g, b, rfl, hc0, hc1, hc2, hc3⟩
theorem two_start (w : World) (a b : Array Value) (t : TypeId) {W0 : World} (hW0 : (w.alloc (.cells a t)).alloc (.cells b t) = W0) : Below w.heap.size w W0 ∧ Blk W0 w.heap.size t a ∧ Blk W0 (w.heap.size + 1) t b := by
  refine ⟨by rw [← hW0]; exact (by repeat (first | exact Below.refl _ _ | (refine Below.setCell ?_ (by first | omega | (simp; done) | (simp; omega) | (simp at *; omega)) _) | (refine Below.alloc ?_ (by first | omega | (simp; done) | (simp; omega) | (simp at *; omega)) _) | refine Below.drew ?_ | (refine below_drewN ?_ _) | (refine Below.trans ?_ (Below.mono (by assumption) (by first | omega | (simp; done) | (simp; omega) | (simp at *; omega)))))), ?_, ?_⟩
  · rw [← hW0]; exact (Blk.new _ _ _ rfl).alloc _
  · rw [← hW0]; exact Blk.new _ _ _ (by simp)
theorem four_cells {W : World} {g : Nat} {t : TypeId} {a b c d : Value} (h : Blk W g t #[a, b, c, d]) : W.cell? ⟨g, 0, none⟩ = some a ∧ W.cell? ⟨g, 1, none⟩ = some b ∧ W.cell? ⟨g, 2, none⟩ = some c ∧ W.cell? ⟨g, 3, none⟩ = some d := ⟨h.cell 0, h.cell 1, h.cell 2, h.cell 3⟩
abbrev Eight (w W : World) (g i j : Nat) (s1 : ByteArray) (y1 z1 u1 : Int) (s2 : ByteArray) (y2 z2 u2 : Int) : Prop := W.cell? ⟨g, i, none⟩ = some (.string s1) ∧ W.cell? ⟨g, i + 1, none⟩ = some (.int .i64 y1) ∧ W.cell? ⟨g, i + 2, none⟩ = some (.int .i64 z1) ∧ W.cell? ⟨g, i + 3, none⟩ = some (.int .i64 u1) ∧ W.cell? ⟨g, j, none⟩ = some (.string s2) ∧ W.cell? ⟨g, j + 1, none⟩ = some (.int .i64 y2) ∧ W.cell? ⟨g, j + 2, none⟩ = some (.int .i64 z2) ∧ W.cell? ⟨g, j + 3, none⟩ = some (.int .i64 u2) ∧ Below w.heap.size w W
theorem eight_keep {w W W' : World} {g i j : Nat} {s1 : ByteArray} {y1 z1 u1 : Int} {s2 : ByteArray} {y2 z2 u2 : Int} (h : Eight w W g i j s1 y1 z1 u1 s2 y2 z2 u2) (hb : Below W.heap.size W W') : Eight w W' g i j s1 y1 z1 u1 s2 y2 z2 u2 := by
  obtain ⟨h0, h1, h2, h3, h4, h5, h6, h7, h8⟩ := h
  exact ⟨(hb.cell (p := ⟨g, i, none⟩) (cell_lt h0)).trans h0, (hb.cell (p := ⟨g, i + 1, none⟩) (cell_lt h1)).trans h1, (hb.cell (p := ⟨g, i + 2, none⟩) (cell_lt h2)).trans h2, (hb.cell (p := ⟨g, i + 3, none⟩) (cell_lt h3)).trans h3, (hb.cell (p := ⟨g, j, none⟩) (cell_lt h4)).trans h4, (hb.cell (p := ⟨g, j + 1, none⟩) (cell_lt h5)).trans h5, (hb.cell (p := ⟨g, j + 2, none⟩) (cell_lt h6)).trans h6, (hb.cell (p := ⟨g, j + 3, none⟩) (cell_lt h7)).trans h7, h8.trans (hb.mono h8.size)⟩
theorem eight_below {w W : World} {g i j : Nat} {s1 : ByteArray} {y1 z1 u1 : Int} {s2 : ByteArray} {y2 z2 u2 : Int} (h : Eight w W g i j s1 y1 z1 u1 s2 y2 z2 u2) : Below w.heap.size w W := h.2.2.2.2.2.2.2.2
set_option maxRecDepth 100000 in
set_option maxHeartbeats 2000000 in
theorem csame_two (s s2 : ByteArray) (y z u y2 z2 u2 : Int) (w : World) (v : Bool) (hv : ((s.toList == s2.toList) && (y == y2)) = v) : Calls Tryz.prog 119 #[.agg #[.string s, .int .i64 y, .int .i64 z, .int .i64 u], .agg #[.string s2, .int .i64 y2, .int .i64 z2, .int .i64 u2]] w (Gives w (.bool v)) := by
  unfold Gives
  obtain ⟨W0, hW0⟩ : ∃ W0, (w.alloc (.cells #[.string s, .int .i64 y, .int .i64 z, .int .i64 u] 23)).alloc (.cells #[.string s2, .int .i64 y2, .int .i64 z2, .int .i64 u2] 23) = W0 := ⟨_, rfl⟩
  obtain ⟨hB, b1, b2⟩ := two_start w _ _ _ hW0
  obtain ⟨p0, p1, p2, p3⟩ := four_cells b1
  obtain ⟨q0, q1, q2, q3⟩ := four_cells b2
  obtain ⟨e, he⟩ : ∃ e, (s.toList == s2.toList) = e := ⟨_, rfl⟩
  obtain ⟨f, hf⟩ : ∃ f, (y == y2) = f := ⟨_, rfl⟩
  rw [he, hf] at hv
  have HV := Lib.hid hv
  have HW := Lib.hid hW0
  clear hW0 hv
  cases e
  · go_enter Tryz.func119, Tryz.ntmps119
    go_wp2
    go_ret
    rw [HW.out]
    exact ⟨by rw [← HV.out]; rfl, hB⟩
  · go_enter Tryz.func119, Tryz.ntmps119
    go_wp2
    go_ret
    rw [HW.out]
    exact ⟨by rw [← HV.out]; rfl, hB⟩
set_option maxRecDepth 100000 in
set_option maxHeartbeats 2000000 in
theorem cearlier_some (g b : Nat) (l : List Ps) (n m c : Nat) (w : World) (hr : Rd w (some ⟨g, b, none⟩) (psL l)) (hn : l.length = n) (hm : n = m + 1) (hl : n ≤ 1000000) :
    Calls Tryz.prog 73 #[.slice (some ⟨g, b, none⟩) n c] w (Gives w (.int .i64 (earlierI l))) := by
  unfold Gives
  have HN := Lib.hid hn
  have HM := Lib.hid hm
  have bm : (m : Int) < (n : Int) := by omega
  have hm1 : (n : Int) - 1 = (m : Int) := by omega
  have hmw : IntKind.i64.wrap (m : Int) = (m : Int) := by rw [IntKind.wrap_i64]; omega
  obtain ⟨_, _, e, q0, q1, q2, q3⟩ := hr.ps (k := m) (by omega)
  cases e
  have hml : m < l.length := by omega
  obtain ⟨pm, hpm⟩ : ∃ p, l[m]'hml = p := ⟨_, rfl⟩
  rw [hpm] at q0 q1 q2 q3
  have HPM : Hid (l[m]? = some pm) := by show _ = _; rw [← hpm]; exact List.getElem?_eq_getElem _
  clear hn hm hml hpm
  go_enter Tryz.func73, Tryz.ntmps73
  go_wp2_with fail
  go_loopw [4, 9] (fun _ i wr => ∃ k : Nat, k ≤ m ∧ i = .int .i64 (k : Int) ∧ (∀ j, j < k → sameAt l j (l.length - 1) = false) ∧ Below w.heap.size w wr) (fun _ i _ => m - (intOf i).toNat)
  case atStart => exact ⟨0, Nat.zero_le _, rfl, fun j hj => absurd hj (by omega), Below.refl _ _⟩
  case round =>
    obtain ⟨k, hk, rfl, hno, hB⟩ := hrel
    by_cases hlt : k < m
    · have bk : (k : Int) < (m : Int) := by omega
      have bkn : (k : Int) < (n : Int) := by omega
      have hkl : k < l.length := by rw [HN.out, HM.out]; omega
      obtain ⟨_, _, e, p0, p1, p2, p3⟩ := hr.ps hkl
      cases e
      obtain ⟨pk, hpk⟩ : ∃ p, l[k]'hkl = p := ⟨_, rfl⟩
      rw [hpk] at p0 p1 p2 p3
      have c0 := (hB.cell (p := ⟨g, b + k * 4, none⟩) (cell_lt p0)).trans p0
      have c1 := (hB.cell (p := ⟨g, b + k * 4 + 1, none⟩) (cell_lt p1)).trans p1
      have c2 := (hB.cell (p := ⟨g, b + k * 4 + 2, none⟩) (cell_lt p2)).trans p2
      have c3 := (hB.cell (p := ⟨g, b + k * 4 + 3, none⟩) (cell_lt p3)).trans p3
      have d0 := (hB.cell (p := ⟨g, b + m * 4, none⟩) (cell_lt q0)).trans q0
      have d1 := (hB.cell (p := ⟨g, b + m * 4 + 1, none⟩) (cell_lt q1)).trans q1
      have d2 := (hB.cell (p := ⟨g, b + m * 4 + 2, none⟩) (cell_lt q2)).trans q2
      have d3 := (hB.cell (p := ⟨g, b + m * 4 + 3, none⟩) (cell_lt q3)).trans q3
      obtain ⟨v, hv⟩ : ∃ v, sameB pk pm = v := ⟨_, rfl⟩
      have hsv : sameAt l k (l.length - 1) = v := by
        unfold sameAt
        rw [List.getElem?_eq_getElem hkl, hpk, show l.length - 1 = m by rw [HN.out, HM.out]; omega, HPM.out]
        exact hv
      have HV := Lib.hid hv
      have HSV := Lib.hid hsv
      have HNO := Lib.hid hno
      clear hv hsv hpk p0 p1 p2 p3 hkl hno
      obtain ⟨s1, y1, z1, u1⟩ := pk
      obtain ⟨s2, y2, z2, u2⟩ := pm
      have hS : Eight w wr.drew g (b + k * 4) (b + m * 4) s1 y1 z1 u1 s2 y2 z2 u2 := eight_keep ⟨c0, c1, c2, c3, d0, d1, d2, d3, hB⟩ (Below.refl _ _).drew
      clear c0 c1 c2 c3 d0 d1 d2 d3 q0 q1 q2 q3
      go_wp2_with fail
      go_region_held3 (fun W => W.cell? ⟨g, b + k * 4, none⟩ = some (.string s1) ∧ W.cell? ⟨g, b + k * 4 + 1, none⟩ = some (.int .i64 y1) ∧ W.cell? ⟨g, b + k * 4 + 2, none⟩ = some (.int .i64 z1) ∧ W.cell? ⟨g, b + k * 4 + 3, none⟩ = some (.int .i64 u1) ∧ W.cell? ⟨g, b + m * 4, none⟩ = some (.string s2) ∧ W.cell? ⟨g, b + m * 4 + 1, none⟩ = some (.int .i64 y2) ∧ W.cell? ⟨g, b + m * 4 + 2, none⟩ = some (.int .i64 z2) ∧ W.cell? ⟨g, b + m * 4 + 3, none⟩ = some (.int .i64 u2) ∧ Below w.heap.size w W)
        (first | exact hS | exact eight_keep (by assumption) hb)
        (first | (go_at_call 119; refine (csame_two s1 s2 y1 z1 u1 y2 z2 u2 _ v HV.out).mono ?_; rintro e w3 ⟨rfl, hb⟩))
      all_goals
        have hBb := eight_below (by assumption)
        cases v
        · go_wp2
          go_roundw
          case rel => exact ⟨k + 1, by omega, by go_num, fun j hj => by
            rcases Nat.lt_succ_iff_lt_or_eq.1 hj with h | h
            · exact HNO.out j h
            · rw [h]; exact HSV.out, hBb⟩
          case measure => simp [intOf]; omega
        · go_wp2
          go_ret
          refine ⟨?_, hBb⟩
          rw [show earlierI l = (k : Int) from first_hit (by rw [HN.out, HM.out]; omega) HSV.out fun j hj => HNO.out j hj]
          rfl
    · obtain rfl : k = m := by omega
      have bk : ¬ (k : Int) < (k : Int) := by omega
      have HNO := Lib.hid hno
      clear hno hlt hk
      go_wp2
      go_ret
      refine ⟨?_, hB⟩
      rw [show earlierI l = -1 from first_none fun j hj => HNO.out j (by rw [HN.out, HM.out] at hj; omega)]
      rfl
set_option maxRecDepth 100000 in
theorem cearlier_none (A : Option Addr) (c : Nat) (w : World) : Calls Tryz.prog 73 #[.slice A 0 c] w (Gives w (.int .i64 (-1))) := by
  unfold Gives
  go_enter Tryz.func73, Tryz.ntmps73
  go_wp2_with fail
  go_loopw [4, 9] (fun _ i wr => i = .int .i64 0 ∧ w = wr) (fun _ _ _ => 0)
  case atStart => exact ⟨rfl, rfl⟩
  case round =>
    obtain ⟨rfl, rfl⟩ := hrel
    go_wp2
    go_ret
    exact ⟨rfl, Below.refl _ _⟩
theorem cearlier_any (A : Option Addr) (l : List Ps) (n c : Nat) (w : World) (hr : Rd w A (psL l)) (hn : l.length = n) (hl : n ≤ 1000000) :
    Calls Tryz.prog 73 #[.slice A n c] w (Gives w (.int .i64 (earlierI l))) := by
  cases n with
  | zero =>
    rw [List.eq_nil_of_length_eq_zero hn]
    exact cearlier_none A c w
  | succ m =>
    obtain ⟨g, b, rfl, _⟩ := hr.ps (k := 0) (by omega)
    exact cearlier_some g b l (m + 1) m c w hr hn rfl hl
end Go.Proofs.YtpogpjebhnoncaaGreatDoor
namespace Go.Proofs.YtpogpjebhnoncaaGreatDoor
open Go.RowKit Go.Shelf
open M (S)
theorem Rd.int {w : World} {A : Option Addr} {l : List Int} (h : Rd w A (l.map iv)) {k : Nat} (hk : k < l.length) : ∃ g b, A = some ⟨g, b, none⟩ ∧ w.cell? ⟨g, b + k, none⟩ = some (iv l[k]) := by
  obtain ⟨⟨g, b, sp⟩, rfl, hc⟩ := h k (iv l[k]) (by simp [hk])
  have h00 : 0 < l.length := by omega
  obtain ⟨a0, e0, hc0⟩ := h 0 (iv l[0]) (by simp [h00])
  cases e0
  have hsp : sp = none := by simpa [Addr.add] using World.cell?_spot hc0
  subst hsp
  have hadd : (Addr.add ⟨g, b, none⟩ k) = ⟨g, b + k, none⟩ := by
    simp only [Addr.add]
    split <;> simp_all
  rw [hadd] at hc
  exact ⟨g, b, rfl, hc⟩
theorem own_next2 {w w1 : World} {base : Nat} {e : TypeId} {size : Nat} {v : Value} {n : Nat} {xs : List Value} (h : w.ownsRow base e size v n xs) (hb : Below w.heap.size w w1) : w1.ownsRow base e size v n xs := by
  refine ⟨h.1, ?_⟩
  rcases h.2 with h2 | ⟨g, cap, cur, hv, hg, hc, hr⟩
  · exact .inl h2
  · exact .inr ⟨g, cap, cur, hv, hg, (hb.block g (Array.getElem?_eq_some_iff.1 hc).1).trans hc, hr⟩
def orV (m : List (Int × Int)) (l : List Int) : List Value := (l.map (originI m)).map iv
set_option maxRecDepth 100000 in
set_option maxHeartbeats 4000000 in
theorem origins_own (A C : Option Addr) (m : List (Int × Int)) (l : List Int) (n a c d : Nat) (w : World) (hm : Rd w A (mzL m)) (hn : m.length = n) (hl : n ≤ 1000000) (hr : Rd w C (l.map iv)) (ha : l.length = a) (ha9 : a ≤ 1000000) :
    Calls Tryz.prog 122 #[.slice A n c, .slice C a d] w fun e w' => ∃ v, e = .returned v ∧ w'.ownsRow w.heap.size 3 1 v a (orV m l) ∧ Below w.heap.size w w' := by
  obtain ⟨i0, hi, hz0, hz1, hz2⟩ := info_parts info_int
  have HN := Lib.hid hn
  have HA := Lib.hid ha
  have HM := Lib.hid hm
  clear hn ha hm
  go_enter Tryz.func122, Tryz.ntmps122
  go_wp2_with fail
  go_loopw [5, 7, 10] (fun v _ i wr => ∃ k : Nat, k ≤ a ∧ i = .int .i64 (k : Int) ∧ wr.ownsRow w.heap.size 3 1 v k (orV m (l.take k)) ∧ Below w.heap.size w wr) (fun _ _ i _ => a - (intOf i).toNat)
  case atStart => exact ⟨0, Nat.zero_le _, rfl, by simpa [orV] using World.ownsRow_nil w w.heap.size 3 1, Below.refl _ _⟩
  case round =>
    obtain ⟨k, hk, rfl, hown, hB⟩ := hrel
    by_cases hlt : k < a
    · have hkl : k < l.length := by rw [HA.out]; exact hlt
      have bk : (k : Int) < (a : Int) := by omega
      obtain ⟨g, b, rfl, d0⟩ := hr.int hkl
      have hst : orV m (l.take (k + 1)) = orV m (l.take k) ++ [iv (originI m (l[k]'hkl))] := by
        unfold orV
        rw [List.take_succ_eq_append_getElem hkl, List.map_append, List.map_append]
        rfl
      obtain ⟨x, hx⟩ : ∃ x, l[k]'hkl = x := ⟨_, rfl⟩
      rw [hx] at d0 hst
      have c0 := (hB.cell (p := ⟨g, b + k, none⟩) (cell_lt d0)).trans d0
      have hmr : Rd wr A (mzL m) := (HM.out.next hB)
      obtain ⟨y, hy⟩ : ∃ y, originI m x = y := ⟨_, rfl⟩
      rw [hy] at hst
      have HST := Lib.hid hst
      have HY := Lib.hid hy
      have HMR := Lib.hid hmr
      have HOW := Lib.hid hown
      have hbs := Lib.hid hB.size
      clear hst hx hy hkl d0 hmr hown
      go_wp2_with fail
      refine (origin_any A m n c x _ HMR.out HN.out hl).mono ?_
      rintro e w3 ⟨rfl, hb⟩
      rw [HY.out]
      have hown := own_next2 HOW.out hb
      have hB3 := hB.trans (hb.mono hbs.out)
      have hs3 := hB3.size
      clear hb hbs hB
      go_wp2_with (at_builtin; refine wpList_append_own _ rfl _ _ 152 rfl w.heap.size 3 i0 (.int .i64 0) 1 8 Tryz.underlying152 hi hz0 hz1 hz2 rfl (by decide) _ _ _ rfl (hown.alloc _) ⟨w3.heap.size, 0, none⟩ 1 1 [iv y] rfl rfl (cell_one_new _ _ _) (by simp [Value.oneCell']) (by unfold maxLen; omega) (by omega) (by simp; omega) ?_; intro v' w4 hown' hgrow _)
      go_roundw
      case rel => exact ⟨k + 1, by omega, by go_num, by rw [HST.out]; exact hown', below_app hB3 hs3 hown hgrow⟩
      case measure => simp [intOf]; omega
    · obtain rfl : k = a := by omega
      have bk : ¬ (k : Int) < (k : Int) := by omega
      have HOW := Lib.hid hown
      clear hown hlt hk
      go_wp2
      go_ret
      refine ⟨_, rfl, ?_, hB⟩
      have h := HOW.out
      rw [List.take_of_length_le (by rw [HA.out]; exact Nat.le_refl _)] at h
      exact h
def idC (k : Nat) : Array Value := ((List.range 90).map fun i => Value.int .i64 (if i < k then (i : Int) else 0)).toArray
theorem idC_set (k : Nat) : (idC k).setIfInBounds k (.int .i64 (k : Int)) = idC (k + 1) := by
  apply Array.ext
  · simp [idC]
  · intro i h1 h2
    simp only [idC, Array.size_setIfInBounds, List.size_toArray, List.length_map, List.length_range] at h1
    rw [Array.getElem_setIfInBounds (by simpa [idC] using h1)]
    simp only [idC, List.getElem_toArray, List.getElem_map, List.getElem_range]
    by_cases e : k = i
    · subst e
      rw [if_pos rfl, if_pos (by omega)]
    · rw [if_neg e]
      by_cases e2 : i < k
      · rw [if_pos e2, if_pos (by omega)]
      · rw [if_neg e2, if_neg (by omega)]
theorem row_own2 {w : World} {base : Nat} {e : TypeId} {size : Nat} {v : Value} {n : Nat} {xs : List Value} (h : w.ownsRow base e size v n xs) {k : Nat} (hk : v.ownBlock = some k) : k < w.heap.size := by
  rcases h.2 with ⟨rfl, _⟩ | ⟨g, cap, cur, rfl, _, hc, _⟩
  · cases hk
  · have : g = k := by simpa [Value.ownBlock] using hk
    rw [← this]
    exact (Array.getElem?_eq_some_iff.1 hc).1
theorem row_set2 {w : World} {base : Nat} {e : TypeId} {size : Nat} {v : Value} {n g i : Nat} {xs : List Value} {u : Value} (h : w.ownsRow base e size v n xs) (hne : ∀ k, v.ownBlock = some k → g ≠ k) : (w.setCell ⟨g, i, none⟩ u).ownsRow base e size v n xs := by
  refine ⟨h.1, ?_⟩
  rcases h.2 with h2 | ⟨k, cap, cur, hv, hg, hc, hr⟩
  · exact .inl h2
  · exact .inr ⟨k, cap, cur, hv, hg, (Below.heap_setCell w ⟨g, i, none⟩ u k (fun e => hne k (by rw [hv]; rfl) e.symm)).trans hc, hr⟩
structure KeepAt (base : Nat) (W : World) (g : Nat) (K : List Int) : Prop where
  row : ∃ v, Blk W g 152 #[v] ∧ W.ownsRow base 3 1 v K.length (K.map iv) ∧ ∀ k, v.ownBlock = some k → k ≠ g
  hg : base ≤ g
theorem KeepAt.lt {base : Nat} {W : World} {g : Nat} {K : List Int} (h : KeepAt base W g K) : g < W.heap.size := by
  obtain ⟨v, hb, _⟩ := h.row
  exact hb.lt
theorem KeepAt.next {base : Nat} {W W' : World} {g : Nat} {K : List Int} (h : KeepAt base W g K) (hb : Below W.heap.size W W') : KeepAt base W' g K := by
  obtain ⟨v, h1, h2, h3⟩ := h.row
  exact ⟨⟨v, h1.next hb, own_next2 h2 hb, h3⟩, h.hg⟩
def idL : List Int := (List.range 90).map fun i : Nat => (i : Int)
theorem idL_len : idL.length = 90 := by unfold idL; rw [List.length_map, List.length_range]
theorem idC_list : (idC 90).toList = idL.map iv := by
  unfold idC idL
  rw [List.map_map]
  refine List.map_congr_left fun i hi => ?_
  rw [if_pos (List.mem_range.1 hi)]
  rfl
theorem make90i (w : World) : (Instr.makeSlice 152 (.int .i64 90) (.int .i64 90)).run Tryz.prog w = .ok (.slice (some ⟨w.heap.size, 0, none⟩) 90 90) (w.alloc (.cells (idC 0) 3)) := by kernel_rfl
attribute [local go_sem ↓] make90i in
set_option maxRecDepth 100000 in
set_option maxHeartbeats 4000000 in
theorem keeper_new (w : World) :
    Calls Tryz.prog 120 #[] w fun e w' => ∃ g, e = .returned (.func (.func 167) #[] #[.pointer (some ⟨g, 0, none⟩)]) ∧ KeepAt w.heap.size w' g idL ∧ Below w.heap.size w w' := by
  go_enter Tryz.func120, Tryz.ntmps120
  go_wp2_with fail
  obtain ⟨W0, hW0⟩ : ∃ W0, (w.alloc (.cells (idC 0) 3)).alloc (.cells #[.slice (some ⟨w.heap.size, 0, none⟩) 90 90] 152) = W0 := ⟨_, rfl⟩
  have hB0 : Below w.heap.size w W0 := by rw [← hW0]; exact (by repeat (first | exact Below.refl _ _ | (refine Below.setCell ?_ (by first | omega | (simp; done) | (simp; omega) | (simp at *; omega)) _) | (refine Below.alloc ?_ (by first | omega | (simp; done) | (simp; omega) | (simp at *; omega)) _) | refine Below.drew ?_ | (refine below_drewN ?_ _) | (refine Below.trans ?_ (Below.mono (by assumption) (by first | omega | (simp; done) | (simp; omega) | (simp at *; omega))))))
  have bR : Blk W0 w.heap.size 3 (idC 0) := by rw [← hW0]; exact (Blk.new _ _ _ rfl).alloc _
  have bK : Blk W0 (w.heap.size + 1) 152 #[.slice (some ⟨w.heap.size, 0, none⟩) 90 90] := by rw [← hW0]; exact Blk.new _ _ _ (by simp)
  rw [hW0]
  clear hW0
  go_loopw [2, 6] (fun _ i wr => ∃ k : Nat, k ≤ 90 ∧ i = .int .i64 (k : Int) ∧ Blk wr w.heap.size 3 (idC k) ∧ Blk wr (w.heap.size + 1) 152 #[.slice (some ⟨w.heap.size, 0, none⟩) 90 90] ∧ Below w.heap.size w wr) (fun _ i _ => 90 - (intOf i).toNat)
  case atStart => exact ⟨0, by omega, rfl, bR, bK, hB0⟩
  case round =>
    obtain ⟨k, hk, rfl, bR, bK, hB⟩ := hrel
    by_cases hlt : k < 90
    · have bk : (k : Int) < 90 := by omega
      have hc := bK.cell 0
      simp only [List.getElem?_toArray, List.getElem?_cons_zero] at hc
      have hcc : wr.cell? ⟨w.heap.size, k, none⟩ = some (.int .i64 0) := by
        rw [bR.cell k]
        simp [idC, hlt]
      have hf := bR.frozen k
      have hset := bR.set_ k (.int .i64 (k : Int))
      rw [idC_set] at hset
      have hK2 := bK.far (p := ⟨w.heap.size, k, none⟩) (by simp) (.int .i64 (k : Int))
      go_wp2
      go_roundw
      case rel => exact ⟨k + 1, by omega, by go_num, hset, hK2, hB.setCell (p := ⟨w.heap.size, k, none⟩) (Nat.le_refl _) _⟩
      case measure => simp [intOf]; omega
    · obtain rfl : k = 90 := by omega
      have HB := Lib.hid bR
      have HK := Lib.hid bK
      clear bR bK hlt hk
      go_wp2
      go_ret
      refine ⟨w.heap.size + 1, rfl, ⟨⟨_, HK.out, ⟨by simp [idL_len], .inr ⟨w.heap.size, 90, idC 90, by rw [idL_len], Nat.le_refl _, HB.out, by rw [idL_len]; exact Nat.le_refl _, by unfold maxLen; omega, by simp [idC], ?_⟩⟩, fun k e => ?_⟩, Nat.le_succ _⟩, hB⟩
      · rw [idC_list, List.take_of_length_le (by simp)]
      · have : w.heap.size = k := by simpa [Value.ownBlock] using e
        omega
set_option maxRecDepth 100000 in
set_option maxHeartbeats 4000000 in
theorem keep1_any (l : List Int) (x : Int) (C : Option Addr) (a d g0 : Nat) (W : World) (ha : l.length = a) (ha9 : a ≤ 1000000) (hr : Rd W C (l.map iv)) (c0 : W.cell? ⟨g0, 0, none⟩ = some (.slice C a d)) :
    Calls Tryz.prog 169 #[.int .i64 x, .pointer (some ⟨g0, 0, none⟩)] W fun e w' => e = .returned (.bool (!l.contains x)) ∧ ∃ q, w' = W.drewN q := by
  have HC : Hid (∀ W, Rd W C (l.map iv) → Calls Tryz.prog 170 #[.slice C a d, .int .i64 x] W fun e w' => e = .returned (.bool (l.contains x)) ∧ w' = W) := fun W hr => by
    cases l with
    | nil =>
      obtain rfl : 0 = a := ha
      exact Tryz.slices_Contains_int_empty C d x W
    | cons y r =>
      obtain ⟨g, b, rfl, _⟩ := hr.int (k := 0) (by simp)
      have h := Tryz.slices_Contains_int g b a d (y :: r) x W (by omega) (by omega) (fun j hj => by
        obtain ⟨_, _, e, hc⟩ := hr.int hj
        cases e
        rw [hc, List.getD_eq_getElem?_getD, List.getElem?_eq_getElem hj]
        rfl)
      rw [List.take_of_length_le (by omega)] at h
      exact h
  obtain ⟨v, hv⟩ : ∃ v, l.contains x = v := ⟨_, rfl⟩
  rw [hv] at HC ⊢
  clear ha ha9 hv
  go_enter Tryz.func169, Tryz.ntmps169
  go_wp2_with fail
  refine (HC.out W hr).mono ?_
  rintro e w' ⟨rfl, rfl⟩
  go_wp2
  go_ret
  exact ⟨rfl, 0, rfl⟩
open Go.Lib Go.Sort in
theorem sorted_cell2 (w : World) (blk off m B i : Nat) (dk : Array Int) (os : Array Obj) (hB : B < w.heap.size) (hne : B ≠ blk) : (sortWorld iv w blk off m dk os).cell? ⟨B, i, none⟩ = w.cell? ⟨B, i, none⟩ := by
  unfold sortWorld
  rw [cell?_grow _ _ _ (by show B < (putRow _ _ _ _ _).heap.size; rw [size_putRow]; exact hB), cell?_putRow_other _ _ blk off _ _ (Or.inl hne)]
  rfl
open Go.Lib Go.Sort in
set_option maxRecDepth 100000 in
set_option maxHeartbeats 4000000 in
theorem del_keep (l K : List Int) (C : Option Addr) (a d g0 base n : Nat) (v : Value) (W : World) (ha : l.length = a) (ha9 : a ≤ 1000000) (hr : Rd W C (l.map iv)) (b0 : Blk W g0 152 #[.slice C a d]) (hown : W.ownsRow base 3 1 v n (K.map iv)) (hn : K.length = n) (hn9 : n ≤ 1000000)
    (hne : ∀ k, v.ownBlock = some k → g0 ≠ k ∧ (l ≠ [] → ∀ ad, C = some ad → ad.block ≠ k)) :
    Calls Tryz.prog 168 #[v, .func (.func 169) #[] #[.pointer (some ⟨g0, 0, none⟩)]] W fun e w' => ∃ v', e = .returned v' ∧ w'.ownsRow base 3 1 v' (K.filter fun x => l.contains x).length ((K.filter fun x => l.contains x).map iv) ∧ (∀ k, v'.ownBlock = some k → v.ownBlock = some k) ∧ (∀ k, k < W.heap.size → v.ownBlock ≠ some k → w'.heap[k]? = W.heap[k]?) ∧ Below base W w' := by
  have hp : ∀ W', Rd W' C (l.map iv) → W'.cell? ⟨g0, 0, none⟩ = some (.slice C a d) → ∀ x : Int, Calls Tryz.prog 169 #[.int .i64 x, .pointer (some ⟨g0, 0, none⟩)] W' fun e w' => e = .returned (.bool (!l.contains x)) ∧ ∃ q, w' = W'.drewN q := fun W' h1 h2 x => keep1_any l x C a d g0 W' ha ha9 h1 h2
  by_cases hv : v = .slice none 0 0
  · subst hv
    have hn0 : n = 0 := by
      rcases hown.2 with ⟨_, h⟩ | ⟨g, cap, cur, h, _⟩
      · exact h
      · injection h with h1
        cases h1
    have hK : K = [] := List.eq_nil_of_length_eq_zero (by omega)
    subst hK
    clear hown hn hne b0 hp
    go_enter Tryz.func168, Tryz.ntmps168
    go_wp2_with fail
    refine (Tryz.slices_IndexFunc_empty (α := Int) none 0 _ _).mono ?_
    rintro e w1 ⟨rfl, rfl⟩
    go_wp2
    go_ret
    exact ⟨.slice none 0 0, rfl, World.ownsRow_nil _ _ _ _, fun _ h => h, fun _ _ _ => rfl, Below.refl _ _⟩
  · obtain ⟨g, cap, rfl, hg, hgl, hcap, hmax, hlen, hH⟩ := Lib.holds_of_ownsRow (enc := iv) hown hv
    obtain ⟨hne0, hneC⟩ := hne g rfl
    have eg : ∀ args w, (callFunc 169 args).run Tryz.prog w = .ok (.enter 169 args) w := enters_of Tryz.func169 (by kernel_rfl) rfl
    have c0 : W.cell? ⟨g0, 0, none⟩ = some (.slice C a d) := b0.cell 0
    have hcon := Tryz.slices_DeleteFunc iv (fun _ => rfl) (fun x : Int => !l.contains x) 169 #[.pointer (some ⟨g0, 0, none⟩)] eg 0 Tryz.zeroValue3 g 0 cap K.toArray W
      (fun W' k hb => hp W' (hr.next hb) ((hb.cell (p := ⟨g0, 0, none⟩) b0.lt).trans c0) k)
      (fun m os dk k _ => hp _ (fun j u hu => by
          obtain ⟨ad, e, hc⟩ := hr j u hu
          refine ⟨ad, e, ?_⟩
          have hbk : (ad.add j).block = ad.block := by
            unfold Addr.add
            split <;> rfl
          have h1 := hneC (fun e0 => by rw [e0] at hu; simp at hu) ad e
          have h2 := cell_lt hc
          unfold sortWorld
          rw [cell?_grow _ _ _ (by show (ad.add j).block < (putRow _ _ _ _ _).heap.size; rw [size_putRow]; exact h2), cell?_putRow_other _ _ g 0 _ _ (Or.inl (by rw [hbk]; exact h1))]
          exact hc)
        ((sorted_cell2 W g 0 m g0 0 dk os b0.lt hne0).trans c0) k)
      hH (by simp; unfold maxLen at hmax; omega) (by simp; omega)
    have hf : (K.toArray.toList.filter fun x : Int => !(!l.contains x)) = K.filter fun x => l.contains x := by
      refine List.filter_congr fun x _ => ?_
      rw [Bool.not_not]
    rw [hf, show K.toArray.size = n by simpa using hn] at hcon
    have hle : (K.filter fun x => l.contains x).length ≤ n := by
      rw [← hn]
      exact List.length_filter_le _ _
    generalize (K.filter fun x => l.contains x) = r at hcon hle ⊢
    refine hcon.mono ?_
    rintro e w' ⟨rfl, m, rfl⟩
    refine ⟨_, rfl, ?_, fun k h => h, fun k hk hne2 => ?_, Lib.below_putRow (Below.refl _ _) hg⟩
    · have h1 := Lib.ownsRow_putRow (q := m) (k := r.length) (ys := r ++ List.replicate (n - r.length) (0 : Int)) hown (by simp; omega) hle
      rw [List.take_left' rfl] at h1
      exact h1
    · have hgk : g ≠ k := fun e => hne2 (by rw [← e]; rfl)
      simp [putRow, mapBlock, Sort.ahead, Array.getElem?_modify, hgk]
set_option maxRecDepth 100000 in
set_option maxHeartbeats 4000000 in
theorem keep_any (g base : Nat) (K : List Int) (C : Option Addr) (l : List Int) (a d : Nat) (w : World) (hK : KeepAt base w g K) (hK9 : K.length ≤ 1000000) (ha : l.length = a) (ha9 : a ≤ 1000000) (hr : Rd w C (l.map iv))
    (hC : l ≠ [] → ∀ ad, C = some ad → ∀ v, w.cell? ⟨g, 0, none⟩ = some v → v.ownBlock ≠ some ad.block) (r : List Int) (hrr : (K.filter fun x => l.contains x) = r) :
    Calls Tryz.prog 167 #[.slice C a d, .pointer (some ⟨g, 0, none⟩)] w fun e w' => e = .returned (.bool (decide (0 < r.length))) ∧ KeepAt base w' g r ∧ Below base w w' := by
  obtain ⟨v, bv, hv, hvg⟩ := hK.row
  have hbase := hK.hg
  have hglt := bv.lt
  have hr0 : w.cell? ⟨g, 0, none⟩ = some v := bv.cell 0
  have hC := fun h ad e => hC h ad e v hr0
  obtain ⟨W0, hW0⟩ : ∃ W0, w.alloc (.cells #[.slice C a d] 152) = W0 := ⟨_, rfl⟩
  have hB0 : Below w.heap.size w W0 := by rw [← hW0]; exact below_new _ _
  have b0 : Blk W0 w.heap.size 152 #[.slice C a d] := by rw [← hW0]; exact Blk.new _ _ _ rfl
  have bv0 := bv.next hB0
  have hv0 := own_next2 hv hB0
  have c0 : W0.cell? ⟨g, 0, none⟩ = some v := bv0.cell 0
  have f0 : W0.frozen? ⟨g, 0, none⟩ = false := bv0.frozen 0
  have hdel := del_keep l K C a d w.heap.size base K.length v W0 ha ha9 (hr.next hB0) b0 hv0 rfl hK9 (fun k hk => by
    have hlt := row_own2 hv hk
    exact ⟨by omega, fun h ad e e2 => hC h ad e (by rw [hk, e2])⟩)
  rw [hrr] at hdel
  have HD := Lib.hid hdel
  have HV := Lib.hid hv
  clear hdel b0 hv0 hv hr hrr hr0 hK hC ha ha9 hK9
  go_enter Tryz.func167, Tryz.ntmps167
  go_wp2_with fail
  refine HD.out.mono ?_
  rintro e w1 ⟨v1, rfl, hown, hsub, hsame, hb1⟩
  have bg1 : Blk w1 g 152 #[v] := (hsame g bv0.lt (fun e => hvg g e rfl)).trans bv0
  have f1 : w1.frozen? ⟨g, 0, none⟩ = false := bg1.frozen 0
  have d1 : w1.cell? ⟨g, 0, none⟩ = some v := bg1.cell 0
  have hset := bg1.set_ 0 v1
  have hset0 : (w1.setCell ⟨g, 0, none⟩ v1).cell? ⟨g, 0, none⟩ = some v1 := hset.cell 0
  have hown2 : (w1.setCell ⟨g, 0, none⟩ v1).ownsRow base 3 1 v1 r.length (r.map iv) := row_set2 hown fun k hk e => hvg k (hsub k hk) e.symm
  have hBB : Below base w (w1.setCell ⟨g, 0, none⟩ v1) := ((hB0.mono (by omega)).trans hb1).setCell (p := ⟨g, 0, none⟩) hbase _
  obtain ⟨A1, c1, rfl⟩ := own_slice hown
  clear bv0 c0 f0 hW0 hsame hb1 bg1
  go_wp2
  go_ret
  exact ⟨by simp, ⟨⟨_, hset, hown2, fun k hk => hvg k (hsub k hk)⟩, hbase⟩, hBB⟩
end Go.Proofs.YtpogpjebhnoncaaGreatDoor
namespace Go.Proofs.YtpogpjebhnoncaaGreatDoor
open Go.RowKit Go.Shelf
open M (S)
theorem rd_take {w : World} {A : Option Addr} {m : List (Int × Int)} (h : Rd w A (mzL m)) (k : Nat) : Rd w A (mzL (m.take k)) := fun j u hu => by
  refine h j u ?_
  have e : mzL m = mzL (m.take k) ++ mzL (m.drop k) := by rw [← mzL_app, List.take_append_drop]
  have hj : j < (mzL (m.take k)).length := by
    rcases Nat.lt_or_ge j (mzL (m.take k)).length with h | h
    · exact h
    · rw [List.getElem?_eq_none h] at hu
      cases hu
  rw [e, List.getElem?_append_left hj]
  exact hu
theorem plyL_le (s : ByteArray) (y z u : Int) : (plyL s y z u).length ≤ 90 := by
  unfold plyL
  split
  · rw [chasedL_map, List.length_map]
    exact chasedN_len _ _
  · simp
def keptI (l : List Ps) (m : List (Int × Int)) (side : Int) (k : Nat) : List Int := (keptN l m side k).map fun i : Nat => (i : Int)
theorem keptI_zero (l : List Ps) (m : List (Int × Int)) (side : Int) : keptI l m side 0 = idL := by
  unfold keptI idL
  rw [kept_zero]
theorem keptI_len (l : List Ps) (m : List (Int × Int)) (side : Int) (k : Nat) : (keptI l m side k).length ≤ 90 := by
  unfold keptI keptN
  rw [List.length_map]
  exact Nat.le_trans (List.length_filter_le _ _) (by simp)
theorem keptI_other {l : List Ps} {m : List (Int × Int)} {side : Int} {k : Nat} (h : ofAt l side k = false) : keptI l m side (k + 1) = keptI l m side k := by
  unfold keptI
  rw [kept_succ, h]
  rfl
theorem keptI_check {l : List Ps} {m : List (Int × Int)} {side : Int} {k : Nat} (h : ckAt l k = true) : keptI l m side (k + 1) = keptI l m side k := by
  unfold keptI
  rw [kept_ck h]
theorem keptI_chase {l : List Ps} {m : List (Int × Int)} {side : Int} {k : Nat} (h : ofAt l side k = true) (hc : ckAt l k = false) : (keptI l m side k).filter (fun x => (oriAt l m k).contains x) = keptI l m side (k + 1) := by
  unfold keptI
  rw [kept_succ, h, if_pos rfl, List.filter_map]
  congr 1
  refine List.filter_congr fun n _ => ?_
  unfold hasAt
  rw [hc, Bool.false_or]
  rfl
theorem keptI_nil {l : List Ps} {m : List (Int × Int)} {side : Int} {k : Nat} : keptI l m side k = [] ↔ keptN l m side k = [] := by
  unfold keptI
  rw [List.map_eq_nil_iff]
def anyCk (l : List Ps) (side : Int) (k : Nat) : Bool := (pliesN l side k).any (ckAt l)
def anyCh (l : List Ps) (side : Int) (k : Nat) : Bool := (pliesN l side k).any fun j => !ckAt l j
theorem any_zero (l : List Ps) (side : Int) : anyCk l side 0 = false ∧ anyCh l side 0 = false := by
  unfold anyCk anyCh pliesN
  simp
theorem any_other {l : List Ps} {side : Int} {k : Nat} (h : ofAt l side k = false) : anyCk l side (k + 1) = anyCk l side k ∧ anyCh l side (k + 1) = anyCh l side k := by
  unfold anyCk anyCh
  rw [plies_succ, h]
  exact ⟨rfl, rfl⟩
theorem any_check {l : List Ps} {side : Int} {k : Nat} (h : ofAt l side k = true) (hc : ckAt l k = true) : anyCk l side (k + 1) = true ∧ anyCh l side (k + 1) = anyCh l side k := by
  unfold anyCk anyCh
  rw [plies_succ, h, if_pos rfl, List.any_append, List.any_append]
  simp [hc]
theorem any_chase {l : List Ps} {side : Int} {k : Nat} (h : ofAt l side k = true) (hc : ckAt l k = false) : anyCk l side (k + 1) = anyCk l side k ∧ anyCh l side (k + 1) = true := by
  unfold anyCk anyCh
  rw [plies_succ, h, if_pos rfl, List.any_append, List.any_append]
  simp [hc]
def clsI (a b : Bool) : Int := if b then 1 else if a then 2 else 0
set_option maxRecDepth 100000 in
theorem cls_any (a b : Bool) (w : World) : Calls Tryz.prog 123 #[.bool a, .bool b] w (Gives w (.int .i64 (clsI a b))) := by
  unfold Gives
  cases a <;> cases b
  all_goals
    go_enter Tryz.func123, Tryz.ntmps123
    go_wp2
    go_ret
    exact ⟨rfl, Below.refl _ _⟩
theorem keep_apart {base g n c a : Nat} {W w3 : World} {K : List Int} {xs : List Value} {A : Option Addr} {ad : Addr} {v : Value} (hK : KeepAt base W g K) (hb : Below W.heap.size W w3) (ho : w3.ownsRow W.heap.size 3 1 (.slice A a c) n xs) (e : A = some ad) (hv : w3.cell? ⟨g, 0, none⟩ = some v) : v.ownBlock ≠ some ad.block := by
  obtain ⟨v', h1, h2, _⟩ := hK.row
  have h3 : w3.cell? ⟨g, 0, none⟩ = some v' := (h1.next hb).cell 0
  rw [hv] at h3
  injection h3 with h3
  subst h3
  intro he
  have hlt := row_own2 h2 he
  rcases ho.2 with ⟨h, _⟩ | ⟨g', cap, cur, h, hg, _⟩
  · injection h with h
    rw [e] at h
    cases h
  · injection h with h
    rw [e] at h
    injection h with h
    rw [h] at hlt
    have : g' < W.heap.size := hlt
    omega
set_option maxRecDepth 100000 in
set_option maxHeartbeats 4000000 in
theorem class_not (A C : Option Addr) (side : Int) (n a c d : Nat) (w : World) (hne : n ≠ a + 1) (ha : a ≤ 1000000) :
    Calls Tryz.prog 74 #[.slice A n c, .slice C a d, .int .i64 side] w (Gives w (.int .i64 0)) := by
  unfold Gives
  have h1 : ((n : Int) != (a : Int) + 1) = true := by rw [bne_iff_ne]; omega
  have hw : IntKind.i64.wrap ((a : Int) + 1) = (a : Int) + 1 := by rw [IntKind.wrap_i64]; omega
  clear hne
  go_enter Tryz.func74, Tryz.ntmps74
  go_wp2
  go_ret
  exact ⟨rfl, Below.refl _ _⟩
set_option maxRecDepth 100000 in
set_option maxHeartbeats 4000000 in
theorem class_go (A C : Option Addr) (l : List Ps) (m : List (Int × Int)) (side : Int) (n a c d : Nat) (w : World) (hT : Tab w) (hp : Rd w A (psL l)) (hl : l.length = n) (hm : Rd w C (mzL m)) (ha : m.length = a) (hne : n = a + 1) (hn : n ≤ 1000000) (had : a ≤ d) :
    Calls Tryz.prog 74 #[.slice A n c, .slice C a d, .int .i64 side] w (Gives w (.int .i64 (classI l m side))) := by
  unfold Gives
  have h1 : ((n : Int) != (a : Int) + 1) = false := by rw [bne_eq_false_iff_eq]; omega
  have hw : IntKind.i64.wrap ((a : Int) + 1) = (a : Int) + 1 := by rw [IntKind.wrap_i64]; omega
  have HL := Lib.hid hl
  have HA := Lib.hid ha
  have HNA := Lib.hid hne
  have HP := Lib.hid hp
  have HM := Lib.hid hm
  have HD := Lib.hid had
  have ha9 : a ≤ 1000000 := by omega
  clear hl ha hne hp hm had
  go_enter Tryz.func74, Tryz.ntmps74
  go_wp2_with fail
  refine (keeper_new _).mono ?_
  rintro e V ⟨g, rfl, hK, hB⟩
  rw [← keptI_zero l m side] at hK
  have hTV := hT.next hB
  have h0 := any_zero l side
  go_wp2_with fail
  go_loopw [7, 8, 22] (fun ck ch i wr => ∃ k : Nat, k ≤ a ∧ i = .int .i64 (k : Int) ∧ ck = .bool (anyCk l side k) ∧ ch = .bool (anyCh l side k) ∧ (anyCh l side k = true → keptN l m side k ≠ []) ∧ KeepAt w.heap.size wr g (keptI l m side k) ∧ Tab wr ∧ Below w.heap.size w wr) (fun _ _ i _ => a - (intOf i).toNat)
  case atStart => exact ⟨0, Nat.zero_le _, rfl, by rw [h0.1], by rw [h0.2], (fun h => absurd h (by rw [h0.2]; simp)), hK, hTV, hB⟩
  case round =>
    clear h0 hK hTV hB
    obtain ⟨k, hk, rfl, rfl, rfl, hch, hK, hTr, hB⟩ := hrel
    by_cases hlt : k < a
    · have hkl : k < l.length := by rw [HL.out, HNA.out]; omega
      have hkl1 : k + 1 < l.length := by rw [HL.out, HNA.out]; omega
      have bk : (k : Int) < (a : Int) := by omega
      have bk1 : (k : Int) < (n : Int) := by rw [HNA.out]; omega
      have bk2 : (k : Int) + 1 < (n : Int) := by rw [HNA.out]; omega
      have bk0 : (0 : Int) ≤ (k : Int) + 1 := by omega
      have bkd : (k : Int) + 1 ≤ (d : Int) := by have := HD.out; omega
      have wk : IntKind.i64.wrap ((k : Int) + 1) = (k : Int) + 1 := by rw [IntKind.wrap_i64]; omega
      obtain ⟨gA, bA, rfl, p0, p1, p2, p3⟩ := HP.out.ps hkl
      obtain ⟨_, _, eA, q0, q1, q2, q3⟩ := HP.out.ps hkl1
      cases eA
      obtain ⟨pk, hpk⟩ : ∃ p, l[k]'hkl = p := ⟨_, rfl⟩
      obtain ⟨pq, hpq⟩ : ∃ p, l[k + 1]'hkl1 = p := ⟨_, rfl⟩
      rw [hpk] at p0 p1 p2 p3
      rw [hpq] at q0 q1 q2 q3
      have hof : ofAt l side k = (pk.y == side) := by rw [of_of (p := pk)]; rw [List.getElem?_eq_getElem hkl, hpk]
      have hckv : ckAt l k = plyC pq.s pq.y pq.z pq.u := by rw [ck_of (p := pq)]; rw [List.getElem?_eq_getElem hkl1, hpq]
      have hori : oriAt l m k = (plyL pq.s pq.y pq.z pq.u).map (originI (m.take (k + 1))) := by rw [ori_of (p := pq)]; rw [List.getElem?_eq_getElem hkl1, hpq]
      have r1 := (hB.cell (p := ⟨gA, bA + k * 4 + 1, none⟩) (cell_lt p1)).trans p1
      have s0 := (hB.cell (p := ⟨gA, bA + (k + 1) * 4, none⟩) (cell_lt q0)).trans q0
      have s1 := (hB.cell (p := ⟨gA, bA + (k + 1) * 4 + 1, none⟩) (cell_lt q1)).trans q1
      have s2 := (hB.cell (p := ⟨gA, bA + (k + 1) * 4 + 2, none⟩) (cell_lt q2)).trans q2
      have s3 := (hB.cell (p := ⟨gA, bA + (k + 1) * 4 + 3, none⟩) (cell_lt q3)).trans q3
      obtain ⟨ps, py, pz, pu⟩ := pk
      obtain ⟨s, y, z, u⟩ := pq
      clear p0 p1 p2 p3 q0 q1 q2 q3 hpk hpq
      by_cases hsd : py = side
      · have e1 : (py != side) = false := by rw [hsd]; simp
        have hof : ofAt l side k = true := by rw [hof]; simp [hsd]
        obtain ⟨c0, hc0⟩ : ∃ c0, plyC s y z u = c0 := ⟨_, rfl⟩
        obtain ⟨L, hL⟩ : ∃ L, plyL s y z u = L := ⟨_, rfl⟩
        obtain ⟨e0, he0⟩ : ∃ e0, wellN s y z u = e0 := ⟨_, rfl⟩
        obtain ⟨h, hh⟩ : ∃ h, L.length = h := ⟨_, rfl⟩
        have hL9 : h ≤ 90 := by rw [← hh, ← hL]; exact plyL_le s y z u
        have hckv : ckAt l k = c0 := hckv.trans hc0
        have hori : oriAt l m k = L.map (originI (m.take (k + 1))) := by rw [hori, ← hL]
        have HC0 := Lib.hid hc0
        have HLL := Lib.hid hL
        have HE0 := Lib.hid he0
        have HH := Lib.hid hh
        have HCK := Lib.hid hckv
        have HORI := Lib.hid hori
        have HOF := Lib.hid hof
        have HCH := Lib.hid hch
        have hbs := hB.size
        clear hc0 hL he0 hh hckv hori hof hch hsd hkl hkl1
        go_wp2_with fail
        refine (cof_is s y z u c0 L e0 _ hTr HC0.out HLL.out HE0.out).mono ?_
        rintro e w1 ⟨A1, cap1, rfl, hr1, hb1⟩
        rw [HH.out]
        have hK1 := hK.next hb1
        have hT1 := hTr.next hb1
        have hB1 := hB.trans (hb1.mono hbs)
        obtain ⟨U, hU⟩ : ∃ U, w1.alloc (.cells #[.bool c0, .slice A1 h cap1] 154) = U := ⟨_, rfl⟩
        have bX : Blk U w1.heap.size 154 #[.bool c0, .slice A1 h cap1] := by rw [← hU]; exact Blk.new _ _ _ rfl
        have hbU : Below w1.heap.size w1 U := by rw [← hU]; exact below_new _ _
        have hKU := hK1.next hbU
        have hTU := hT1.next hbU
        have hBU := hB1.trans (hbU.mono hB1.size)
        have hrU := hr1.next hbU
        obtain ⟨x0, x1⟩ := ply_cells bX
        clear hK hTr hB hK1 hT1 hB1 hr1 hb1 r1 s0 s1 s2 s3
        cases c0
        · go_wp2_with fail
          have hBD : Below w.heap.size w U.drew := hBU.drew
          have hrD := hrU.next (Below.refl _ _).drew
          have hKD := hKU.next (Below.refl _ _).drew
          have hTD := hTU.next (Below.refl _ _).drew
          have hmD : Rd U.drew C (mzL (m.take (k + 1))) := rd_take (HM.out.next hBD) _
          have hmL : (m.take (k + 1)).length = k + 1 := by rw [List.length_take, HA.out]; omega
          have hOR := Lib.hid (origins_own C A1 (m.take (k + 1)) L (k + 1) h d cap1 _ hmD hmL (by omega) hrD HH.out (by omega))
          have hOL : (oriAt l m k).length = h := by rw [HORI.out, List.length_map, HH.out]
          have hrr := keptI_chase (m := m) HOF.out HCK.out
          have hKL := keptI_len l m side k
          have HRR := Lib.hid hrr
          have HOL := Lib.hid hOL
          clear hmD hmL hOL hrr hTU hKU hBU hrU bX hU
          go_region_with (first
            | (go_at_call 122; refine hOR.out.mono ?_; rintro e w3 ⟨v3, rfl, ho3, hb3⟩; obtain ⟨A3, c3, rfl⟩ := own_slice ho3; have hK3 := hKD.next hb3)
            | (go_at_call 167; refine (keep_any g w.heap.size (keptI l m side k) A3 (oriAt l m k) h c3 _ hK3 (by omega) HOL.out (by omega) (by rw [HORI.out]; exact Rd.own ho3) (fun _ ad e v hv => keep_apart hKD hb3 ho3 e hv) _ HRR.out).mono ?_; rintro e w4 ⟨rfl, hK4, hb4⟩))
          all_goals
            have hB4 := (hBD.trans (hb3.mono hBD.size)).trans hb4
            have hT4 := hT.next hB4
            obtain ⟨r, hr⟩ : ∃ r, keptI l m side (k + 1) = r := ⟨_, rfl⟩
            have HR := Lib.hid hr
            rw [hr] at hK4 ⊢
            cases r with
            | nil =>
              have hout := Lib.hid (class_out (m := m) (by rw [HA.out]; exact hlt) HOF.out HCK.out (keptI_nil.1 HR.out))
              go_wp2
              go_ret
              exact ⟨by rw [hout.out]; rfl, hB4⟩
            | cons r0 rs =>
              have h2 := Lib.hid (any_chase HOF.out HCK.out)
              have hne := Lib.hid (show keptN l m side (k + 1) ≠ [] from fun e => by
                have := keptI_nil.2 e
                rw [HR.out] at this
                cases this)
              have h9 : decide (0 < (r0 :: rs).length) = true := by simp
              rw [h9]
              go_wp2
              go_roundw
              case rel => exact ⟨k + 1, by omega, by go_num, by rw [h2.out.1], by rw [h2.out.2], fun _ => hne.out, by rw [HR.out]; exact hK4, hT4, hB4⟩
              case measure => simp [intOf]; omega
        · have h2 := Lib.hid (any_check HOF.out HCK.out)
          have h3 := Lib.hid (keptI_check (m := m) (side := side) HCK.out)
          have h4 := Lib.hid (kept_ck (m := m) (side := side) HCK.out)
          go_wp2
          go_roundw
          case rel => exact ⟨k + 1, by omega, by go_num, by rw [h2.out.1], by rw [h2.out.2], fun h => by rw [h4.out]; rw [h2.out.2] at h; exact HCH.out h, by rw [h3.out]; exact hKU, hTU, hBU⟩
          case measure => simp [intOf]; omega
      · have e1 : (py != side) = true := by rw [bne_iff_ne]; exact hsd
        have hof : ofAt l side k = false := by rw [hof, beq_eq_false_iff_ne]; exact hsd
        have h2 := Lib.hid (any_other hof)
        have h3 := Lib.hid (keptI_other (m := m) hof)
        have h4 := Lib.hid (show keptN l m side (k + 1) = keptN l m side k by rw [kept_succ, hof]; rfl)
        have HCH := Lib.hid hch
        clear hof hch hsd hckv hori hkl hkl1
        go_wp2
        go_roundw
        case rel => exact ⟨k + 1, by omega, by go_num, by rw [h2.out.1], by rw [h2.out.2], fun h => by rw [h4.out]; rw [h2.out.2] at h; exact HCH.out h, by rw [h3.out]; exact hK, hTr, hB⟩
        case measure => simp [intOf]; omega
    · obtain rfl : k = a := by omega
      have bk : ¬ (k : Int) < (k : Int) := by omega
      have he := class_end (side := side) (by rw [HL.out, HA.out, HNA.out]) (show anyCk l side k = (pliesN l side m.length).any (ckAt l) by rw [HA.out]; rfl) (show anyCh l side k = (pliesN l side m.length).any (fun j => !ckAt l j) by rw [HA.out]; rfl) (by rw [HA.out]; exact hch)
      have HE : Hid (classI l m side = clsI (anyCk l side k) (anyCh l side k)) := he
      clear he hch hlt hk hK
      go_wp2_with fail
      refine (cls_any _ _ _).mono ?_
      rintro e w9 ⟨rfl, hb⟩
      go_wp2
      go_ret
      exact ⟨by rw [HE.out]; rfl, hB.trans (hb.mono hB.size)⟩
theorem class_any (A C : Option Addr) (l : List Ps) (m : List (Int × Int)) (side : Int) (n a c d : Nat) (w : World) (hT : Tab w) (hp : Rd w A (psL l)) (hl : l.length = n) (hm : Rd w C (mzL m)) (ha : m.length = a) (hn : n ≤ 1000000) (ha9 : a ≤ 1000000) (had : a ≤ d) :
    Calls Tryz.prog 74 #[.slice A n c, .slice C a d, .int .i64 side] w (Gives w (.int .i64 (classI l m side))) := by
  by_cases h : n = a + 1
  · exact class_go A C l m side n a c d w hT hp hl hm ha h hn had
  · rw [class_len (by rw [hl, ha]; exact h)]
    exact class_not A C side n a c d w h ha9
theorem class_is (A C : Option Addr) (l : List Ps) (m : List (Int × Int)) (side v : Int) (n a c d : Nat) (w : World) (hT : Tab w) (hp : Rd w A (psL l)) (hl : l.length = n) (hm : Rd w C (mzL m)) (ha : m.length = a) (hn : n ≤ 1000000) (ha9 : a ≤ 1000000) (had : a ≤ d) (hv : classI l m side = v) :
    Calls Tryz.prog 74 #[.slice A n c, .slice C a d, .int .i64 side] w (Gives w (.int .i64 v)) := by
  subst hv
  exact class_any A C l m side n a c d w hT hp hl hm ha hn ha9 had
end Go.Proofs.YtpogpjebhnoncaaGreatDoor
namespace Go.Proofs.YtpogpjebhnoncaaGreatDoor
open Go.RowKit Go.Shelf
def fro1 : ByteArray := movedS startS 0 9 82
def fro2 : ByteArray := movedS fro1 81 72 114
def fro3 : ByteArray := movedS fro2 9 0 82
def fro4 : ByteArray := movedS fro3 72 81 114
def froP0 : Ps := ⟨startS, 0, 0, 1⟩
def froP1 : Ps := ⟨fro1, 1, 1, 1⟩
def froP2 : Ps := ⟨fro2, 0, 2, 2⟩
def froP3 : Ps := ⟨fro3, 1, 3, 2⟩
def froP4 : Ps := ⟨fro4, 0, 4, 3⟩
def froL : List Ps := [froP0, froP1, froP2, froP3, froP4]
def froM : List (Int × Int) := [(0, 9), (81, 72), (9, 0), (72, 81)]
theorem fro_back : fro4 = startS := by decide +kernel
theorem fro_is0 : isV startS 0 0 1 0 9 = true := by decide +kernel
theorem fro_is1 : isV fro1 1 1 1 81 72 = true := by decide +kernel
theorem fro_is2 : isV fro2 0 2 2 9 0 = true := by decide +kernel
theorem fro_is3 : isV fro3 1 3 2 72 81 = true := by decide +kernel
theorem step_isV {p q : Ps} {a b : Nat} (h : isV p.s p.y p.z p.u (a : Int) (b : Int) = true) (hs : movedS p.s a b (bAt p.s a) = q.s) (hy : 1 - p.y = q.y) (hz : clockA p.s p.z b = q.z) (hu : fullA p.y p.u = q.u) : stepP p ((a : Int), (b : Int)) = some q := by
  unfold stepP
  rw [if_pos h]
  show some (Ps.mk (movedS p.s a b (bAt p.s a)) (1 - p.y) (clockA p.s p.z b) (fullA p.y p.u)) = _
  rw [hs, hy, hz, hu]
theorem fro_step0 : stepP froP0 (0, 9) = some froP1 := step_isV (a := 0) (b := 9) fro_is0 (by rw [show bAt froP0.s 0 = 82 by decide +kernel]; rfl) rfl (by decide +kernel) (by decide +kernel)
theorem fro_step1 : stepP froP1 (81, 72) = some froP2 := step_isV (a := 81) (b := 72) fro_is1 (by rw [show bAt froP1.s 81 = 114 by decide +kernel]; rfl) rfl (by decide +kernel) (by decide +kernel)
theorem fro_step2 : stepP froP2 (9, 0) = some froP3 := step_isV (a := 9) (b := 0) fro_is2 (by rw [show bAt froP2.s 9 = 82 by decide +kernel]; rfl) rfl (by decide +kernel) (by decide +kernel)
theorem fro_step3 : stepP froP3 (72, 81) = some froP4 := step_isV (a := 72) (b := 81) fro_is3 (by rw [show bAt froP3.s 72 = 114 by decide +kernel]; rfl) rfl (by decide +kernel) (by decide +kernel)
theorem chased_nil {s : ByteArray} {side : Int} {m : List (Nat × Nat)} (h1 : (isB s && ((side == 0) || (side == 1))) = true) (h : (movesN s side).filter (fun x => bAt s x.2 != 46) = m) (hm : ∀ x ∈ m, threatB s x.1 x.2 = false) : chasedL s side = [] := by
  unfold chasedL trues
  rw [List.map_eq_nil_iff, List.filter_eq_nil_iff]
  intro n _
  unfold chasedB
  rw [Bool.not_eq_true, List.any_eq_false]
  intro x hx
  unfold takesG at hx
  rw [if_pos h1] at hx
  unfold legalN at hx
  obtain ⟨hx1, hx2⟩ := List.mem_filter.1 hx
  obtain ⟨hx3, _⟩ := List.mem_filter.1 hx1
  have : x ∈ m := by
    rw [← h]
    exact List.mem_filter.2 ⟨hx3, hx2⟩
  rw [hm x this, Bool.and_false]
  simp
theorem fro_takes1 : (movesN fro1 0).filter (fun x => bAt fro1 x.2 != 46) = [(19, 82), (25, 88)] := by decide +kernel
theorem fro_takes4 : (movesN startS 1).filter (fun x => bAt startS x.2 != 46) = [(64, 1), (70, 7)] := by decide +kernel
theorem fro_threat1 : threatB fro1 19 82 = false := by decide +kernel
theorem fro_threat1' : threatB fro1 25 88 = false := by decide +kernel
theorem fro_threat4 : threatB startS 64 1 = false := by decide +kernel
theorem fro_threat4' : threatB startS 70 7 = false := by decide +kernel
theorem fro_chased1 : chasedL fro1 0 = [] := chased_nil (by decide +kernel) fro_takes1 fun x hx => by
  simp only [List.mem_cons, List.not_mem_nil, or_false] at hx
  rcases hx with rfl | rfl
  · exact fro_threat1
  · exact fro_threat1'
theorem fro_chased4 : chasedL startS 1 = [] := chased_nil (by decide +kernel) fro_takes4 fun x hx => by
  simp only [List.mem_cons, List.not_mem_nil, or_false] at hx
  rcases hx with rfl | rfl
  · exact fro_threat4
  · exact fro_threat4'
theorem fro_well0 : wellN startS 0 0 1 = 0 := (isV_parts fro_is0).1
theorem fro_well1 : wellN fro1 1 1 1 = 0 := (isV_parts fro_is1).1
theorem fro_well2 : wellN fro2 0 2 2 = 0 := (isV_parts fro_is2).1
theorem fro_well3 : wellN fro3 1 3 2 = 0 := (isV_parts fro_is3).1
theorem fro_well4 : wellN fro4 0 4 3 = 0 := by
  rw [fro_back]
  exact well_full (v := 3) (show wellN startS 0 4 1 = 0 by decide +kernel) (by decide) (by decide)
theorem fro_ply1 : plyC fro1 1 1 1 = false ∧ plyL fro1 1 1 1 = [] := by
  obtain ⟨h1, h2⟩ := ply_quiet fro_well1 (by decide +kernel)
  exact ⟨h1, h2.trans fro_chased1⟩
theorem fro_ply4 : plyC fro4 0 4 3 = false ∧ plyL fro4 0 4 3 = [] := by
  obtain ⟨h1, h2⟩ := ply_quiet fro_well4 (by rw [fro_back]; decide +kernel)
  refine ⟨h1, h2.trans ?_⟩
  rw [fro_back]
  exact fro_chased4
theorem class_idle {l : List Ps} {m : List (Int × Int)} {side : Int} {j : Nat} {p q : Ps} (hj : j < m.length) (hp : l[j]? = some p) (hy : p.y = side) (hq : l[j + 1]? = some q) (hc : plyC q.s q.y q.z q.u = false) (hl : plyL q.s q.y q.z q.u = []) : classI l m side = 0 := by
  have h1 : ofAt l side j = true := by rw [of_of hp, hy]; simp
  have h2 : ckAt l j = false := by rw [ck_of hq]; exact hc
  refine class_out hj h1 h2 ?_
  rw [kept_succ, h1, if_pos rfl, List.filter_eq_nil_iff]
  intro n _
  unfold hasAt
  rw [h2, ori_of hq, hl]
  simp
theorem fro_class0 : classI froL froM 0 = 0 := class_idle (j := 0) (p := froP0) (q := froP1) (by decide) rfl rfl rfl fro_ply1.1 fro_ply1.2
theorem fro_class1 : classI froL froM 1 = 0 := class_idle (j := 3) (p := froP3) (q := froP4) (by decide) rfl rfl rfl fro_ply4.1 fro_ply4.2
theorem same_not_side {a b : Ps} (h : a.y ≠ b.y) : sameB a b = false := by
  unfold sameB
  rw [show (a.y == b.y) = false by rw [beq_eq_false_iff_ne]; exact h, Bool.and_false]
theorem fro_same04 : sameB froP0 froP4 = true := sameB_iff.2 ⟨fro_back.symm, rfl⟩
theorem fro_same13 : sameB froP1 froP3 = false := by
  cases h : sameB froP1 froP3
  · rfl
  · exact absurd (congrArg (fun s => bAt s 0) (sameB_iff.1 h).1) (by decide +kernel)
theorem fro_earlier5 : earlierI froL = 0 := first_hit (i := 0) (by decide) (by show sameAt froL 0 4 = true; exact fro_same04) (fun k hk => absurd hk (by omega))
theorem fro_earlier4 : earlierI (froL.take 4) = -1 := first_none fun k hk => by
  have hk : k < 3 := hk
  show sameAt [froP0, froP1, froP2, froP3] k 3 = false
  rcases k with _ | _ | _ | k
  · exact same_not_side (by decide)
  · exact fro_same13
  · exact same_not_side (by decide)
  · omega
end Go.Proofs.YtpogpjebhnoncaaGreatDoor
namespace Go.Proofs.YtpogpjebhnoncaaGreatDoor
open Go.RowKit Go.Shelf
open M (S)
theorem step_value (p : Ps) (m : Int × Int) : ∃ (q : ByteArray) (y z u : Int) (t : Nat) (k : Int), makeV p.s p.y p.z p.u m.1 m.2 = .tuple #[.agg #[.string q, .int .i64 y, .int .i64 z, .int .i64 u], .int .u8 t, .int .i64 k] ∧ ((k = 0 ∧ stepP p m = some ⟨q, y, z, u⟩) ∨ (k ≠ 0 ∧ stepP p m = none)) := by
  cases h : stepP p m with
  | none =>
    obtain ⟨k, hk, e⟩ := make_stop h
    exact ⟨_, _, _, _, 0, k, e, .inr ⟨hk, rfl⟩⟩
  | some q =>
    obtain ⟨t, e⟩ := make_step h
    exact ⟨_, _, _, _, t, 0, e, .inl ⟨rfl, rfl⟩⟩
theorem blk_farY {w w' : World} {r : Option Nat} (h : w.grownBy w' r) {g : Nat} {t : TypeId} {cs : Array Value} (b : Blk w g t cs) (hne : some g ≠ r) : Blk w' g t cs := (h.block g b.lt hne).trans b
theorem row_baseY {w : World} {base : Nat} {e : TypeId} {size : Nat} {v : Value} {n : Nat} {xs : List Value} (h : w.ownsRow base e size v n xs) {k : Nat} (hk : v.ownBlock = some k) : base ≤ k := by
  rcases h.2 with ⟨rfl, _⟩ | ⟨g, cap, cur, rfl, hg, _⟩
  · cases hk
  · have : g = k := by simpa [Value.ownBlock] using hk
    omega
structure PlayAt (W : World) (g : Nat) (p : Ps) (v1 : Value) (ls : List Ps) (v2 : Value) (ms : List (Int × Int)) : Prop where
  bp : Blk W g 23 #[.string p.s, .int .i64 p.y, .int .i64 p.z, .int .i64 p.u]
  r1 : W.ownsRow (g + 1) 23 4 v1 ls.length (psL ls)
  r2 : W.ownsRow (g + 1) 54 2 v2 ms.length (mzL ms)
  ne : ∀ k, v1.ownBlock = some k → v2.ownBlock ≠ some k
theorem PlayAt.next {W W' : World} {g : Nat} {p : Ps} {v1 v2 : Value} {ls : List Ps} {ms : List (Int × Int)} (h : PlayAt W g p v1 ls v2 ms) (hb : Below W.heap.size W W') : PlayAt W' g p v1 ls v2 ms :=
  ⟨h.bp.next hb, own_next h.r1 hb, own_next h.r2 hb, h.ne⟩
theorem four_frozen {W : World} {g : Nat} {t : TypeId} {cs : Array Value} (h : Blk W g t cs) : W.frozen? ⟨g, 0, none⟩ = false ∧ W.frozen? ⟨g, 1, none⟩ = false ∧ W.frozen? ⟨g, 2, none⟩ = false ∧ W.frozen? ⟨g, 3, none⟩ = false := ⟨h.frozen 0, h.frozen 1, h.frozen 2, h.frozen 3⟩
theorem info_pos4 : (Tryz.prog.info? 23).map (fun i => (i.zero, i.size, i.bytes)) = some (some (.agg #[.string ⟨#[]⟩, .int .i64 0, .int .i64 0, .int .i64 0]), 4, 40) := by kernel_rfl
theorem info_partsY {P : Program} {t : TypeId} {z : Value} {n m : Nat} (h : (P.info? t).map (fun i => (i.zero, i.size, i.bytes)) = some (some z, n, m)) : ∃ i, P.info? t = some i ∧ i.zero = some z ∧ i.size = n ∧ i.bytes = m := by
  cases e : P.info? t with
  | none => rw [e] at h; cases h
  | some i =>
    rw [e] at h
    simp only [Option.map_some, Option.some.injEq, Prod.mk.injEq] at h
    exact ⟨i, rfl, h.1, h.2.1, h.2.2⟩
theorem cells_four_new (w : World) (a b c d : Value) (t : TypeId) : ∀ j u, [a, b, c, d][j]? = some u → (w.alloc (.cells #[a, b, c, d] t)).cell? ((⟨w.heap.size, 0, none⟩ : Addr).add j) = some u := fun j u hu => by
  have hb : Blk (w.alloc (.cells #[a, b, c, d] t)) w.heap.size t #[a, b, c, d] := Blk.new _ _ _ rfl
  have e : (⟨w.heap.size, 0, none⟩ : Addr).add j = ⟨w.heap.size, j, none⟩ := by
    simp only [Addr.add]
    split <;> simp_all
  rw [e, hb.cell j]
  rw [← hu]
  rw [List.getElem?_toArray]
theorem psL_four (ls : List Ps) (q : Ps) : psL ls ++ [.string q.s, .int .i64 q.y, .int .i64 q.z, .int .i64 q.u] = psL (ls ++ [q]) := (psL_snoc ls q).symm
end Go.Proofs.YtpogpjebhnoncaaGreatDoor
namespace Go.Proofs.YtpogpjebhnoncaaGreatDoor
open Go.RowKit Go.Shelf
open M (S)
theorem own_any {w : World} {base : Nat} {e : TypeId} {size n : Nat} {v : Value} {xs : List Value} (h : w.ownsRow base e size v n xs) : ∃ A c, v = .slice A n c ∧ Rd w A xs ∧ n ≤ c := by
  have hlen := h.1
  rcases h.2 with ⟨rfl, rfl⟩ | ⟨g, cap, cur, rfl, _, hc, hn, _, hs, ht⟩
  · refine ⟨none, 0, rfl, fun j u hu => ?_, Nat.le_refl _⟩
    rw [List.getElem?_eq_none (by omega)] at hu
    cases hu
  · refine ⟨_, _, rfl, fun j u hu => ⟨_, rfl, ?_⟩, hn⟩
    have hj : j < xs.length := by
      rcases Nat.lt_or_ge j xs.length with h | h
      · exact h
      · rw [List.getElem?_eq_none h] at hu
        cases hu
    have e1 : (⟨g, 0, none⟩ : Addr).add j = ⟨g, j, none⟩ := by
      simp only [Addr.add]
      split <;> simp_all
    rw [e1]
    have hb : Blk w g e cur := hc
    rw [hb.cell j, ← hu, ← ht, List.getElem?_take, if_pos (by omega)]
    simp
theorem rd_nil (w : World) (A : Option Addr) : Rd w A (mzL []) := fun j u hu => by simp [mzL] at hu
end Go.Proofs.YtpogpjebhnoncaaGreatDoor
namespace Go.Proofs.YtpogpjebhnoncaaGreatDoor
open Go.RowKit Go.Shelf
open M (S)
def clampI (c : Int) : Int := min (max c 0) 2
def tableI (r b : Int) : Int × Int := if clampI b < clampI r then (2, if clampI r = 2 then 3 else 4) else if clampI r < clampI b then (3, if clampI b = 2 then 3 else 4) else (1, 5)
def lastOf (l : List Ps) (m : List (Int × Int)) (p : Ps) : Int × Int :=
  if endV p.s p.y p.z p.u ≠ 0 then (2 + p.y, endV p.s p.y p.z p.u)
  else if 0 ≤ earlierI l then tableI (classI (l.drop (earlierI l).toNat) (m.drop (earlierI l).toNat) 0) (classI (l.drop (earlierI l).toNat) (m.drop (earlierI l).toNat) 1)
  else if p.z = 120 then (1, 6) else (0, 0)
def lastI (l : List Ps) (m : List (Int × Int)) : Int × Int := if l.length = m.length + 1 then (match l[m.length]? with
  | some p => lastOf l m p
  | none => (0, 0)) else (0, 0)
theorem last_of {l : List Ps} {m : List (Int × Int)} {p : Ps} (hl : l.length = m.length + 1) (hp : l[m.length]? = some p) : lastI l m = lastOf l m p := by
  unfold lastI
  rw [if_pos hl, hp]
theorem last_not {l : List Ps} {m : List (Int × Int)} (hl : l.length ≠ m.length + 1) : lastI l m = (0, 0) := by
  unfold lastI
  rw [if_neg hl]
theorem endV_well {s : ByteArray} {y z u : Int} (h : endV s y z u ≠ 0) : wellN s y z u = 0 := by
  unfold endV at h
  split at h
  · assumption
  · exact absurd rfl h
def runJ (p : Ps) (ms : List (Int × Int)) : Nat → Int × List Ps
  | 0 => (0, [p])
  | j + 1 => if (runJ p ms j).1 ≠ 0 then runJ p ms j else if (lastI (runJ p ms j).2 (ms.take j)).1 ≠ 0 then (10, []) else match (runJ p ms j).2[j]?, ms[j]? with
    | some c, some m => (match stepP c m with
      | some q => (0, (runJ p ms j).2 ++ [q])
      | none => (7, []))
    | _, _ => (7, [])
theorem run_err {p : Ps} {ms : List (Int × Int)} {j : Nat} (h : (runJ p ms j).1 ≠ 0) : ∀ d, runJ p ms (j + d) = runJ p ms j
  | 0 => rfl
  | d + 1 => by
    have ih := run_err h d
    rw [show j + (d + 1) = (j + d) + 1 from rfl, runJ, if_pos (by rw [ih]; exact h), ih]
theorem run_end {p : Ps} {ms : List (Int × Int)} {j : Nat} (h : (runJ p ms j).1 = 0) (hl : (lastI (runJ p ms j).2 (ms.take j)).1 ≠ 0) : runJ p ms (j + 1) = (10, []) := by
  rw [runJ, if_neg (by rw [h]; simp), if_pos hl]
theorem run_go {p : Ps} {ms : List (Int × Int)} {j : Nat} {c : Ps} {m : Int × Int} (h : (runJ p ms j).1 = 0) (hl : (lastI (runJ p ms j).2 (ms.take j)).1 = 0) (hc : (runJ p ms j).2[j]? = some c) (hm : ms[j]? = some m) : runJ p ms (j + 1) = match stepP c m with
      | some q => (0, (runJ p ms j).2 ++ [q])
      | none => (7, []) := by
  rw [runJ, if_neg (by rw [h]; simp), if_neg (by rw [hl]; simp), hc, hm]
theorem run_lt {p : Ps} {ms : List (Int × Int)} {j : Nat} (h : (runJ p ms (j + 1)).1 = 0) : (runJ p ms j).1 = 0 := by
  by_cases e : (runJ p ms j).1 = 0
  · exact e
  · rw [run_err e 1] at h
    exact h
theorem run_chain {p : Ps} {ms : List (Int × Int)} : ∀ {j : Nat} (_ : j ≤ ms.length) (_ : (runJ p ms j).1 = 0), Chain p (runJ p ms j).2 (ms.take j)
  | 0, _, _ => by rw [List.take_zero]; exact chain_start p
  | j + 1, hj, h => by
    have h0 := run_lt h
    have ih := run_chain (j := j) (by omega) h0
    have hlen : (ms.take j).length = j := by rw [List.length_take]; omega
    have hm : ms[j]? = some (ms[j]'(by omega)) := List.getElem?_eq_getElem _
    obtain ⟨c, hc⟩ := ih.get (j := j) (by rw [hlen]; exact Nat.le_refl _)
    by_cases hl : (lastI (runJ p ms j).2 (ms.take j)).1 = 0
    · rw [run_go h0 hl hc hm] at h ⊢
      cases hs : stepP c (ms[j]'(by omega)) with
      | none =>
        rw [hs] at h
        exact absurd (show (7 : Int) = 0 from h) (by decide)
      | some q =>
        rw [List.take_succ_eq_append_getElem (by omega)]
        exact ih.snoc (by rw [hlen]; exact hc) hs
    · rw [run_end h0 hl] at h
      exact absurd h (by decide)
theorem run_same {p : Ps} {ms ns : List (Int × Int)} : ∀ {j : Nat} (_ : ms.take j = ns.take j), runJ p ms j = runJ p ns j
  | 0, _ => rfl
  | j + 1, h => by
    have h1 : ms.take j = ns.take j := by
      have := congrArg (List.take j) h
      rw [List.take_take, List.take_take, Nat.min_eq_left (by omega)] at this
      exact this
    have h2 : ms[j]? = ns[j]? := by
      have := congrArg (fun l => l[j]?) h
      simp only [List.getElem?_take] at this
      rw [if_pos (by omega), if_pos (by omega)] at this
      exact this
    have ih := run_same (p := p) h1
    rw [runJ, runJ, ih, h1, h2]
def playE (p : Ps) (ms : List (Int × Int)) : Int := if p.well ≠ 0 then p.well else if 1024 < ms.length then 8 else (runJ p ms ms.length).1
def playV (p : Ps) (ms : List (Int × Int)) : Int × Int := if playE p ms = 0 then lastI (runJ p ms ms.length).2 ms else (0, 0)
def playL (p : Ps) (ms : List (Int × Int)) : List Ps := if playE p ms = 0 then (runJ p ms ms.length).2 else []
theorem playE_run {p : Ps} {ms : List (Int × Int)} (h1 : p.well = 0) (h2 : ms.length ≤ 1024) : playE p ms = (runJ p ms ms.length).1 := by
  unfold playE
  rw [if_neg (by rw [h1]; simp), if_neg (by omega)]
end Go.Proofs.YtpogpjebhnoncaaGreatDoor
namespace Go.Proofs.YtpogpjebhnoncaaGreatDoor
open Go.RowKit Go.Shelf
open M (S)
theorem clamp_range (c : Int) : clampI c = 0 ∨ clampI c = 1 ∨ clampI c = 2 := by
  unfold clampI
  omega
theorem two_cells {W : World} {g : Nat} {t : TypeId} {a b : Value} (h : Blk W g t #[a, b]) : W.cell? ⟨g, 0, none⟩ = some a ∧ W.cell? ⟨g, 1, none⟩ = some b := ⟨h.cell 0, h.cell 1⟩
set_option maxRecDepth 100000 in
theorem bounded_any (c : Int) (w : World) : Calls Tryz.prog 69 #[.int .i64 c] w (Gives w (.int .i64 (clampI c))) := by
  unfold Gives clampI
  go_enter Tryz.func69, Tryz.ntmps69
  go_wp2
  go_ret
  exact ⟨rfl, Below.refl _ _⟩
theorem bounded_is (c v : Int) (w : World) (h : clampI c = v) : Calls Tryz.prog 69 #[.int .i64 c] w (Gives w (.int .i64 v)) := by
  subst h
  exact bounded_any c w
set_option maxRecDepth 100000 in
theorem reason_any (c : Int) (w : World) : Calls Tryz.prog 71 #[.int .i64 c] w (Gives w (.int .i64 (if c = 2 then 3 else 4))) := by
  unfold Gives
  by_cases h : c = 2
  · have e : (c == 2) = true := by rw [h]; rfl
    rw [if_pos h]
    clear h
    go_enter Tryz.func71, Tryz.ntmps71
    go_wp2
    go_ret
    exact ⟨rfl, Below.refl _ _⟩
  · have e : (c == 2) = false := by rw [beq_eq_false_iff_ne]; exact h
    rw [if_neg h]
    clear h
    go_enter Tryz.func71, Tryz.ntmps71
    go_wp2
    go_ret
    exact ⟨rfl, Below.refl _ _⟩
set_option maxRecDepth 100000 in
theorem loses_any (y v : Int) (w : World) (hy : y = 0 ∨ y = 1) : Calls Tryz.prog 70 #[.int .i64 y, .int .i64 v] w (Gives w (.agg #[.int .i64 (2 + y), .int .i64 v])) := by
  unfold Gives
  rcases hy with rfl | rfl
  · go_enter Tryz.func70, Tryz.ntmps70
    go_wp2
    have b1 : Blk ((w.alloc (.cells #[.int .i64 2, .int .i64 v] 27)).alloc (.cells #[.int .i64 2, .int .i64 3] 147)) w.heap.size 27 #[.int .i64 2, .int .i64 v] := (Blk.new _ _ _ rfl).alloc _
    exact bodyPost_ret (v := .agg #[.int .i64 2, .int .i64 v]) (by simp [results, Tryz.results70, go_sem, b1.cell 0, b1.cell 1]) rfl ⟨rfl, (by repeat (first | exact Below.refl _ _ | (refine Below.setCell ?_ (by first | omega | (simp; done) | (simp; omega) | (simp at *; omega)) _) | (refine Below.alloc ?_ (by first | omega | (simp; done) | (simp; omega) | (simp at *; omega)) _) | refine Below.drew ?_ | (refine below_drewN ?_ _) | (refine Below.trans ?_ (Below.mono (by assumption) (by first | omega | (simp; done) | (simp; omega) | (simp at *; omega))))))⟩
  · go_enter Tryz.func70, Tryz.ntmps70
    go_wp2
    have b1 : Blk ((w.alloc (.cells #[.int .i64 3, .int .i64 v] 27)).alloc (.cells #[.int .i64 2, .int .i64 3] 147)) w.heap.size 27 #[.int .i64 3, .int .i64 v] := (Blk.new _ _ _ rfl).alloc _
    exact bodyPost_ret (v := .agg #[.int .i64 3, .int .i64 v]) (by simp [results, Tryz.results70, go_sem, b1.cell 0, b1.cell 1]) rfl ⟨rfl, (by repeat (first | exact Below.refl _ _ | (refine Below.setCell ?_ (by first | omega | (simp; done) | (simp; omega) | (simp at *; omega)) _) | (refine Below.alloc ?_ (by first | omega | (simp; done) | (simp; omega) | (simp at *; omega)) _) | refine Below.drew ?_ | (refine below_drewN ?_ _) | (refine Below.trans ?_ (Below.mono (by assumption) (by first | omega | (simp; done) | (simp; omega) | (simp at *; omega))))))⟩
theorem loses_is (y v k r : Int) (w : World) (hy : y = 0 ∨ y = 1) (hk : 2 + y = k) (hv : v = r) : Calls Tryz.prog 70 #[.int .i64 y, .int .i64 v] w (Gives w (.agg #[.int .i64 k, .int .i64 r])) := by
  subst hk hv
  exact loses_any y v w hy
set_option maxRecDepth 100000 in
theorem table_any (r b : Int) (w : World) : Calls Tryz.prog 34 #[.int .i64 r, .int .i64 b] w (Gives w (.agg #[.int .i64 (tableI r b).1, .int .i64 (tableI r b).2])) := by
  unfold Gives
  have b0 : Blk (w.alloc (.cells #[.int .i64 0, .int .i64 0] 27)) w.heap.size 27 #[.int .i64 0, .int .i64 0] := Blk.new _ _ _ rfl
  have hB0 : Below w.heap.size w (w.alloc (.cells #[.int .i64 0, .int .i64 0] 27)) := (Below.refl _ _).alloc (Nat.le_refl _) _
  obtain ⟨cr, hr⟩ : ∃ c, clampI r = c := ⟨_, rfl⟩
  obtain ⟨cb, hb⟩ : ∃ c, clampI b = c := ⟨_, rfl⟩
  have HR := Lib.hid hr
  have HB := Lib.hid hb
  have HT : Hid (tableI r b = if cb < cr then (2, if cr = 2 then 3 else 4) else if cr < cb then (3, if cb = 2 then 3 else 4) else (1, 5)) := by
    show _ = _
    unfold tableI
    rw [hr, hb]
  clear hr hb
  go_enter Tryz.func34, Tryz.ntmps34
  go_wp2_with fail
  refine (bounded_is r cr _ HR.out).mono ?_
  rintro e w1 ⟨rfl, hb1⟩
  go_wp2_with fail
  refine (bounded_is b cb _ HB.out).mono ?_
  rintro e w2 ⟨rfl, hb2⟩
  have hB2 := (hB0.trans (hb1.mono hB0.size)).trans (hb2.mono (hB0.trans (hb1.mono hB0.size)).size)
  have b2 := (b0.next hb1).next hb2
  clear b0 hB0 hb1 hb2
  rcases Int.lt_trichotomy cb cr with h | h | h
  · have HV : Hid (tableI r b = (2, if cr = 2 then 3 else 4)) := by
      show _ = _
      rw [HT.out, if_pos h]
    obtain ⟨v, hv⟩ : ∃ v : Int, (if cr = 2 then (3 : Int) else 4) = v := ⟨_, rfl⟩
    rw [hv] at HV
    have HW := Lib.hid hv
    clear hv HT
    go_wp2_with fail
    refine (reason_any cr _).mono ?_
    rintro e w3 ⟨rfl, hb3⟩
    rw [HW.out]
    go_wp2_with fail
    refine (loses_is 0 v 2 v _ (.inl rfl) rfl rfl).mono ?_
    rintro e w4 ⟨rfl, hb4⟩
    have hB4 := (hB2.trans (hb3.mono hB2.size)).trans (hb4.mono (hB2.trans (hb3.mono hB2.size)).size)
    have b4 := (b2.next hb3).next hb4
    clear b2 hB2 hb3 hb4
    obtain ⟨q0, q1⟩ := two_cells b4
    have f0 := b4.frozen 0
    have f1 := b4.frozen 1
    go_wp2
    have b5 := (b4.set_ 0 (.int .i64 2)).set_ 1 (.int .i64 v)
    exact bodyPost_ret (v := .agg #[.int .i64 2, .int .i64 v]) (by simp [results, Tryz.results34, go_sem, b5.cell 0, b5.cell 1]) rfl ⟨by rw [HV.out], (hB4.setCell (p := ⟨w.heap.size, 0, none⟩) (by simp) _).setCell (p := ⟨w.heap.size, 1, none⟩) (by simp) _⟩
  · have HV : Hid (tableI r b = (1, 5)) := by
      show _ = _
      rw [HT.out, if_neg (by omega), if_neg (by omega)]
    obtain rfl := h
    have n1 : ¬ cb < cb := by omega
    clear HT
    obtain ⟨q0, q1⟩ := two_cells b2
    have f0 := b2.frozen 0
    have f1 := b2.frozen 1
    go_wp2
    have b5 := (b2.set_ 0 (.int .i64 1)).set_ 1 (.int .i64 5)
    exact bodyPost_ret (v := .agg #[.int .i64 1, .int .i64 5]) (by simp [results, Tryz.results34, go_sem, b5.cell 0, b5.cell 1]) rfl ⟨by rw [HV.out], (hB2.setCell (p := ⟨w.heap.size, 0, none⟩) (by simp) _).setCell (p := ⟨w.heap.size, 1, none⟩) (by simp) _⟩
  · have n1 : ¬ cb < cr := by omega
    have HV : Hid (tableI r b = (3, if cb = 2 then 3 else 4)) := by
      show _ = _
      rw [HT.out, if_neg n1, if_pos h]
    obtain ⟨v, hv⟩ : ∃ v : Int, (if cb = 2 then (3 : Int) else 4) = v := ⟨_, rfl⟩
    rw [hv] at HV
    have HW := Lib.hid hv
    clear hv HT
    go_wp2_with fail
    refine (reason_any cb _).mono ?_
    rintro e w3 ⟨rfl, hb3⟩
    rw [HW.out]
    go_wp2_with fail
    refine (loses_is 1 v 3 v _ (.inr rfl) rfl rfl).mono ?_
    rintro e w4 ⟨rfl, hb4⟩
    have hB4 := (hB2.trans (hb3.mono hB2.size)).trans (hb4.mono (hB2.trans (hb3.mono hB2.size)).size)
    have b4 := (b2.next hb3).next hb4
    clear b2 hB2 hb3 hb4
    obtain ⟨q0, q1⟩ := two_cells b4
    have f0 := b4.frozen 0
    have f1 := b4.frozen 1
    go_wp2
    have b5 := (b4.set_ 0 (.int .i64 3)).set_ 1 (.int .i64 v)
    exact bodyPost_ret (v := .agg #[.int .i64 3, .int .i64 v]) (by simp [results, Tryz.results34, go_sem, b5.cell 0, b5.cell 1]) rfl ⟨by rw [HV.out], (hB4.setCell (p := ⟨w.heap.size, 0, none⟩) (by simp) _).setCell (p := ⟨w.heap.size, 1, none⟩) (by simp) _⟩
end Go.Proofs.YtpogpjebhnoncaaGreatDoor
namespace Go.Proofs.YtpogpjebhnoncaaGreatDoor
open Go.RowKit Go.Shelf
open M (S)
set_option maxRecDepth 100000 in
set_option maxHeartbeats 2000000 in
theorem last_no (A C : Option Addr) (n c a d : Nat) (w : World) (h : n ≠ a + 1) (ha : a ≤ 1000000) : Calls Tryz.prog 35 #[.slice A n c, .slice C a d] w (Gives w (.agg #[.int .i64 0, .int .i64 0])) := by
  unfold Gives
  have e : ((n : Int) != (a : Int) + 1) = true := by rw [bne_iff_ne]; omega
  have wa : IntKind.i64.wrap ((a : Int) + 1) = (a : Int) + 1 := by rw [IntKind.wrap_i64]; omega
  clear h
  go_enter Tryz.func35, Tryz.ntmps35
  go_wp2
  have b1 : Blk (w.alloc (.cells #[.int .i64 0, .int .i64 0] 27)) w.heap.size 27 #[.int .i64 0, .int .i64 0] := Blk.new _ _ _ rfl
  exact bodyPost_ret (v := .agg #[.int .i64 0, .int .i64 0]) (by simp [results, Tryz.results35, go_sem, b1.cell 0, b1.cell 1]) rfl ⟨rfl, (by repeat (first | exact Below.refl _ _ | (refine Below.setCell ?_ (by first | omega | (simp; done) | (simp; omega) | (simp at *; omega)) _) | (refine Below.alloc ?_ (by first | omega | (simp; done) | (simp; omega) | (simp at *; omega)) _) | refine Below.drew ?_ | (refine below_drewN ?_ _) | (refine Below.trans ?_ (Below.mono (by assumption) (by first | omega | (simp; done) | (simp; omega) | (simp at *; omega))))))⟩
theorem verdict_end {W : World} {w : World} {x y : Int} (h : Blk W w.heap.size 27 #[.int .i64 x, .int .i64 y]) (hB : Below w.heap.size w W) (k r : Int) : Blk ((W.setCell ⟨w.heap.size, 0, none⟩ (.int .i64 k)).setCell ⟨w.heap.size, 1, none⟩ (.int .i64 r)) w.heap.size 27 #[.int .i64 k, .int .i64 r] ∧ Below w.heap.size w ((W.setCell ⟨w.heap.size, 0, none⟩ (.int .i64 k)).setCell ⟨w.heap.size, 1, none⟩ (.int .i64 r)) :=
  ⟨(h.set_ 0 (.int .i64 k)).set_ 1 (.int .i64 r), (hB.setCell (p := ⟨w.heap.size, 0, none⟩) (Nat.le_refl _) _).setCell (p := ⟨w.heap.size, 1, none⟩) (Nat.le_refl _) _⟩
theorem psL_drop (l : List Ps) (k : Nat) : psL (l.drop k) = (psL l).drop (k * 4) := by
  by_cases hk : k ≤ l.length
  · have e : psL l = psL (l.take k) ++ psL (l.drop k) := by rw [← psL_app, List.take_append_drop]
    rw [e, List.drop_left' (by rw [psL_len, List.length_take]; omega)]
  · rw [List.drop_of_length_le (by omega), List.drop_of_length_le (by rw [psL_len]; omega)]
    rfl
theorem mzL_drop (l : List (Int × Int)) (k : Nat) : mzL (l.drop k) = (mzL l).drop (k * 2) := by
  by_cases hk : k ≤ l.length
  · have e : mzL l = mzL (l.take k) ++ mzL (l.drop k) := by rw [← mzL_app, List.take_append_drop]
    rw [e, List.drop_left' (by rw [mzL_len, List.length_take]; omega)]
  · rw [List.drop_of_length_le (by omega), List.drop_of_length_le (by rw [mzL_len]; omega)]
    rfl
theorem rd_drop {w : World} {g b i : Nat} {xs : List Value} (h : Rd w (some ⟨g, b, none⟩) xs) : Rd w (some ⟨g, b + i, none⟩) (xs.drop i) := fun j u hu => by
  rw [List.getElem?_drop] at hu
  obtain ⟨ad, e, hc⟩ := h _ _ hu
  cases e
  refine ⟨_, rfl, ?_⟩
  have hadd : ∀ c j, (Addr.add ⟨g, c, none⟩ j) = ⟨g, c + j, none⟩ := fun c j => by
    simp only [Addr.add]
    split <;> simp_all
  rw [hadd] at hc ⊢
  rw [Nat.add_assoc]
  exact hc
set_option maxRecDepth 100000 in
set_option maxHeartbeats 2000000 in
theorem last_go (g b : Nat) (C : Option Addr) (l : List Ps) (m : List (Int × Int)) (n c a d : Nat) (w : World) (hT : Tab w) (hp : Rd w (some ⟨g, b, none⟩) (psL l)) (hl : l.length = n) (hm : Rd w C (mzL m)) (ha : m.length = a) (hn : n = a + 1) (ha9 : a ≤ 100000) (hnc : n ≤ c) (had : a ≤ d) :
    Calls Tryz.prog 35 #[.slice (some ⟨g, b, none⟩) n c, .slice C a d] w (Gives w (.agg #[.int .i64 (lastI l m).1, .int .i64 (lastI l m).2])) := by
  unfold Gives
  subst hn
  have e : (((a + 1 : Nat) : Int) != (a : Int) + 1) = false := by rw [bne_eq_false_iff_eq]; omega
  have wa : IntKind.i64.wrap ((a : Int) + 1) = (a : Int) + 1 := by rw [IntKind.wrap_i64]; omega
  have bn : (a : Int) < ((a + 1 : Nat) : Int) := by omega
  have hal : a < l.length := by omega
  obtain ⟨_, _, eA, d0, d1, d2, d3⟩ := hp.ps hal
  cases eA
  obtain ⟨p, hpp⟩ : ∃ p, l[a]'hal = p := ⟨_, rfl⟩
  rw [hpp] at d0 d1 d2 d3
  have HV : Hid (lastI l m = lastOf l m p) := last_of (by omega) (by rw [ha, ← hpp]; exact List.getElem?_eq_getElem _)
  obtain ⟨s, y, z, u⟩ := p
  obtain ⟨en, hen⟩ : ∃ k, endV s y z u = k := ⟨_, rfl⟩
  have HEN := Lib.hid hen
  have HP := Lib.hid hp
  have HM := Lib.hid hm
  have HL := Lib.hid hl
  have HA := Lib.hid ha
  have hbn := below_new w (.cells #[.int .i64 0, .int .i64 0] 27)
  have c0 := (hbn.cell (p := ⟨g, b + a * 4, none⟩) (cell_lt d0)).trans d0
  have c1 := (hbn.cell (p := ⟨g, b + a * 4 + 1, none⟩) (cell_lt d1)).trans d1
  have c2 := (hbn.cell (p := ⟨g, b + a * 4 + 2, none⟩) (cell_lt d2)).trans d2
  have c3 := (hbn.cell (p := ⟨g, b + a * 4 + 3, none⟩) (cell_lt d3)).trans d3
  obtain ⟨W0, hW0⟩ : ∃ W0, (w.alloc (.cells #[.int .i64 0, .int .i64 0] 27)).alloc (.cells #[.string s, .int .i64 y, .int .i64 z, .int .i64 u] 23) = W0 := ⟨_, rfl⟩
  have hB0 : Below w.heap.size w W0 := by rw [← hW0]; exact (by repeat (first | exact Below.refl _ _ | (refine Below.setCell ?_ (by first | omega | (simp; done) | (simp; omega) | (simp at *; omega)) _) | (refine Below.alloc ?_ (by first | omega | (simp; done) | (simp; omega) | (simp at *; omega)) _) | refine Below.drew ?_ | (refine below_drewN ?_ _) | (refine Below.trans ?_ (Below.mono (by assumption) (by first | omega | (simp; done) | (simp; omega) | (simp at *; omega))))))
  have bV : Blk W0 w.heap.size 27 #[.int .i64 0, .int .i64 0] := by rw [← hW0]; exact (Blk.new _ _ _ rfl).alloc _
  have bP : Blk W0 (w.heap.size + 1) 23 #[.string s, .int .i64 y, .int .i64 z, .int .i64 u] := by rw [← hW0]; exact Blk.new _ _ _ (by simp)
  obtain ⟨p0, p1, p2, p3⟩ := four_cells bP
  have HW := Lib.hid hW0
  clear hp hm hl ha hpp hen d0 d1 d2 d3 hbn hW0
  go_enter Tryz.func35, Tryz.ntmps35
  go_wp2_with fail
  rw [HW.out]
  clear c0 c1 c2 c3
  refine (end_is s y z u en _ (hT.below hB0 hT.lt) HEN.out).mono ?_
  rintro e w1 ⟨rfl, hb1⟩
  have hB1 := hB0.trans (hb1.mono hB0.size)
  have hT1 := hT.below hB1 hT.lt
  have bV1 := bV.next hb1
  have bP1 := bP.next hb1
  clear p0 p1 p2 p3 bV bP hB0 hb1
  obtain ⟨p0, p1, p2, p3⟩ := four_cells bP1
  by_cases h0 : en = 0
  · subst h0
    have HR0 : Hid (lastI l m = if 0 ≤ earlierI l then tableI (classI (l.drop (earlierI l).toNat) (m.drop (earlierI l).toNat) 0) (classI (l.drop (earlierI l).toNat) (m.drop (earlierI l).toNat) 1) else if z = 120 then (1, 6) else (0, 0)) := by
      show _ = _
      rw [HV.out]
      unfold lastOf
      show (if endV s y z u ≠ 0 then _ else _) = _
      rw [HEN.out, if_neg (by simp)]
    have hEc : (∃ i : Nat, i < a ∧ earlierI l = (i : Int)) ∨ earlierI l = -1 := by
      rcases first_cases (fun i => sameAt l i (l.length - 1)) (l.length - 1) with ⟨i, hi, _, _, e⟩ | ⟨_, e⟩
      · exact .inl ⟨i, by have := HL.out; omega, e⟩
      · exact .inr e
    clear HV HEN
    rcases hEc with ⟨i, hi, he⟩ | he
    · have HE := Lib.hid he
      obtain ⟨gC, bC, rfl, -, -⟩ := HM.out.mz (k := 0) (by have := HA.out; omega)
      obtain ⟨v0, hv0⟩ : ∃ v, classI (l.drop i) (m.drop i) 0 = v := ⟨_, rfl⟩
      obtain ⟨v1, hv1⟩ : ∃ v, classI (l.drop i) (m.drop i) 1 = v := ⟨_, rfl⟩
      have HC0 := Lib.hid hv0
      have HC1 := Lib.hid hv1
      have HR : Hid (lastI l m = tableI v0 v1) := by
        show _ = _
        rw [HR0.out, he, if_pos (by omega), Int.toNat_natCast, hv0, hv1]
      have hld : (l.drop i).length = a + 1 - i := by rw [List.length_drop, HL.out]
      have hmd : (m.drop i).length = a - i := by rw [List.length_drop, HA.out]
      have HLD := Lib.hid hld
      have HMD := Lib.hid hmd
      have HPD : Hid (Rd w (some ⟨g, b + i * 4, none⟩) (psL (l.drop i))) := by show Rd _ _ _; rw [psL_drop]; exact rd_drop HP.out
      have HMM : Hid (Rd w (some ⟨gC, bC + i * 2, none⟩) (mzL (m.drop i))) := by show Rd _ _ _; rw [mzL_drop]; exact rd_drop HM.out
      have hi0 : (0 : Int) ≤ (i : Int) := by omega
      have hi1 : (i : Int) ≤ ((a + 1 : Nat) : Int) := by omega
      have hi2 : (i : Int) ≤ (a : Int) := by omega
      have hi3 : (i : Int) ≤ (a : Int) + 1 := by omega
      have hi5 : i ≤ a + 1 := by omega
      have hi4 : i ≤ a := by omega
      have nci : ¬ c = i := by omega
      have ndi : ¬ d = i := by omega
      have HSL : Hid (a + 1 - i ≤ 1000000 ∧ a - i ≤ 1000000 ∧ a - i ≤ d - i) := ⟨by omega, by omega, by omega⟩
      clear hv0 hv1 HR0 hld hmd
      go_wp2_with fail
      refine (cearlier_any _ l (a + 1) c _ (HP.out.next hB1) HL.out (by omega)).mono ?_
      rintro e w2 ⟨rfl, hb2⟩
      rw [HE.out]
      have hB2 := hB1.trans (hb2.mono hB1.size)
      have hT2 := hT.below hB2 hT.lt
      have bV2 := bV1.next hb2
      have bP2 := bP1.next hb2
      clear p0 p1 p2 p3 bV1 bP1 hB1 hb2
      have hb0 : Below w2.heap.size w2 w2.drew := (Below.refl _ _).drew
      have HB2 := Lib.hid hB2
      have HT2 := Lib.hid hT2
      have HBV := Lib.hid bV2
      clear hB2 hT2 bV2 bP2
      go_wp2_with fail
      have HB0 := Lib.hid hb0
      clear hb0
      go_region_with ((first
        | (go_at_call 74; first
          | (refine (class_is _ _ _ _ 1 v1 _ _ _ _ w3 (HT2.out.next HB3.out) ((HPD.out.next HB2.out).next HB3.out) HLD.out ((HMM.out.next HB2.out).next HB3.out) HMD.out HSL.out.1 HSL.out.2.1 HSL.out.2.2 HC1.out).mono ?_; rintro e w4 ⟨rfl, hb4⟩; have HB4 := Lib.hid (HB3.out.trans (hb4.mono HB3.out.size)); clear hb4)
          | (refine (class_is _ _ _ _ 0 v0 _ _ _ _ w2.drew (HT2.out.next HB0.out) ((HPD.out.next HB2.out).next HB0.out) HLD.out ((HMM.out.next HB2.out).next HB0.out) HMD.out HSL.out.1 HSL.out.2.1 HSL.out.2.2 HC0.out).mono ?_; rintro e w3 ⟨rfl, hb3⟩; have HB3 := Lib.hid (HB0.out.trans (hb3.mono HB0.out.size)); clear hb3))
        | (go_at_call 34; refine (table_any v0 v1 w4).mono ?_; rintro e w5 ⟨rfl, hb5⟩; have HB5 := Lib.hid (HB4.out.trans (hb5.mono HB4.out.size)); have HBV5 := Lib.hid (HBV.out.next HB5.out); obtain ⟨q0, q1⟩ := two_cells HBV5.out; have f0 := HBV5.out.frozen 0; have f1 := HBV5.out.frozen 1; clear hb5)))
      go_wp2
      obtain ⟨bE, hE⟩ := verdict_end HBV5.out (HB2.out.trans (HB5.out.mono HB2.out.size)) (tableI v0 v1).1 (tableI v0 v1).2
      exact bodyPost_ret (v := .agg #[.int .i64 (tableI v0 v1).1, .int .i64 (tableI v0 v1).2]) (by simp [results, Tryz.results35, go_sem, bE.cell 0, bE.cell 1]) rfl ⟨by rw [HR.out], hE⟩
    · have HE := Lib.hid he
      have HR : Hid (lastI l m = if z = 120 then (1, 6) else (0, 0)) := by
        show _ = _
        rw [HR0.out, he, if_neg (by decide)]
      clear HR0 he
      go_wp2_with fail
      refine (cearlier_any _ l (a + 1) c _ (HP.out.next hB1) HL.out (by omega)).mono ?_
      rintro e w2 ⟨rfl, hb2⟩
      rw [HE.out]
      have hB2 := hB1.trans (hb2.mono hB1.size)
      have bV2 := bV1.next hb2
      have bP2 := bP1.next hb2
      clear p0 p1 p2 p3 bV1 bP1 hB1 hb2
      obtain ⟨p0, p1, p2, p3⟩ := four_cells bP2
      obtain ⟨q0, q1⟩ := two_cells bV2
      have f0 := bV2.frozen 0
      have f1 := bV2.frozen 1
      by_cases hz : z = 120
      · have ez : (z == 120) = true := by rw [hz]; rfl
        rw [if_pos hz] at HR
        clear hz
        go_wp2
        obtain ⟨bE, hE⟩ := verdict_end bV2 hB2 1 6
        exact bodyPost_ret (v := .agg #[.int .i64 1, .int .i64 6]) (by simp [results, Tryz.results35, go_sem, bE.cell 0, bE.cell 1]) rfl ⟨by rw [HR.out], hE⟩
      · have ez : (z == 120) = false := by rw [beq_eq_false_iff_ne]; exact hz
        rw [if_neg hz] at HR
        clear hz
        go_wp2
        obtain ⟨bE, hE⟩ := verdict_end bV2 hB2 0 0
        exact bodyPost_ret (v := .agg #[.int .i64 0, .int .i64 0]) (by simp [results, Tryz.results35, go_sem, bE.cell 0, bE.cell 1]) rfl ⟨by rw [HR.out], hE⟩
  · have ne : (en != 0) = true := by rw [bne_iff_ne]; exact h0
    have hw0 : wellN s y z u = 0 := endV_well (by rw [HEN.out]; exact h0)
    have hys : y = 0 ∨ y = 1 := Ps.side (a := ⟨s, y, z, u⟩) hw0
    have HR : Hid (lastI l m = (2 + y, en)) := by
      show _ = _
      rw [HV.out]
      unfold lastOf
      show (if endV s y z u ≠ 0 then _ else _) = _
      rw [HEN.out, if_pos h0]
    clear h0 hw0
    go_wp2_with fail
    refine (loses_is y en (2 + y) en _ hys rfl rfl).mono ?_
    rintro e w2 ⟨rfl, hb2⟩
    have hB2 := hB1.trans (hb2.mono hB1.size)
    have bV2 := bV1.next hb2
    clear p0 p1 p2 p3 bV1 bP1 hB1 hb2
    obtain ⟨q0, q1⟩ := two_cells bV2
    have f0 := bV2.frozen 0
    have f1 := bV2.frozen 1
    go_wp2
    obtain ⟨bE, hE⟩ := verdict_end bV2 hB2 (2 + y) en
    exact bodyPost_ret (v := .agg #[.int .i64 (2 + y), .int .i64 en]) (by simp [results, Tryz.results35, go_sem, bE.cell 0, bE.cell 1]) rfl ⟨by rw [HR.out], hE⟩
theorem jlast_any (A C : Option Addr) (l : List Ps) (m : List (Int × Int)) (n c a d : Nat) (w : World) (hT : Tab w) (hp : Rd w A (psL l)) (hl : l.length = n) (hm : Rd w C (mzL m)) (ha : m.length = a) (ha9 : a ≤ 100000) (hnc : n ≤ c) (had : a ≤ d) :
    Calls Tryz.prog 35 #[.slice A n c, .slice C a d] w (Gives w (.agg #[.int .i64 (lastI l m).1, .int .i64 (lastI l m).2])) := by
  by_cases h : n = a + 1
  · obtain ⟨g, b, rfl, _⟩ := hp.ps (k := 0) (by omega)
    exact last_go g b C l m n c a d w hT hp hl hm ha h ha9 hnc had
  · rw [last_not (by omega)]
    exact last_no A C n c a d w h (by omega)
theorem jlast_is (A C : Option Addr) (l : List Ps) (m : List (Int × Int)) (n c a d : Nat) (k r : Int) (w : World) (hT : Tab w) (hp : Rd w A (psL l)) (hl : l.length = n) (hm : Rd w C (mzL m)) (ha : m.length = a) (ha9 : a ≤ 100000) (hnc : n ≤ c) (had : a ≤ d) (hv : lastI l m = (k, r)) :
    Calls Tryz.prog 35 #[.slice A n c, .slice C a d] w (Gives w (.agg #[.int .i64 k, .int .i64 r])) := by
  have := jlast_any A C l m n c a d w hT hp hl hm ha ha9 hnc had
  rw [hv] at this
  exact this
end Go.Proofs.YtpogpjebhnoncaaGreatDoor
namespace Go.Proofs.YtpogpjebhnoncaaGreatDoor
open Go.RowKit Go.Shelf
open M (S)
theorem step_legal {p q : Ps} {m : Int × Int} (h : stepP p m = some q) : ∃ x, x ∈ legalN p.s p.y := by
  obtain ⟨_, _, _, a, b, hm, ha, hb, hc, hs, hk, _⟩ := step_parts h
  subst hm
  exact ⟨(a, b), legal_mem.2 ⟨ha, hb, hs, hc, hk, step_safe h⟩⟩
theorem end_of {s : ByteArray} {y z u : Int} (hw : wellN s y z u = 0) (h : ∃ x, x ∈ legalN s y) : endV s y z u = 0 := by
  obtain ⟨x, hx⟩ := h
  have hl : ((legalV s y z u).length != 0) = true := by
    rw [legal_same, if_pos hw, bne_iff_ne, ne_eq, List.length_eq_zero_iff]
    intro e
    rw [e] at hx
    cases hx
  unfold endV
  rw [if_pos hw, has_legal _ _ _ _ hw, hl]
  rfl
theorem fro_end0 : endV froP0.s froP0.y froP0.z froP0.u = 0 := end_of fro_well0 (step_legal fro_step0)
theorem fro_end1 : endV froP1.s froP1.y froP1.z froP1.u = 0 := end_of fro_well1 (step_legal fro_step1)
theorem fro_end2 : endV froP2.s froP2.y froP2.z froP2.u = 0 := end_of fro_well2 (step_legal fro_step2)
theorem fro_end3 : endV froP3.s froP3.y froP3.z froP3.u = 0 := end_of fro_well3 (step_legal fro_step3)
theorem fro_end4 : endV froP4.s froP4.y froP4.z froP4.u = 0 := end_of fro_well4 (by
  have h := step_legal fro_step0
  rw [show froP4.s = froP0.s from fro_back]
  exact h)
theorem fro_same02 : sameB froP0 froP2 = false := by
  cases h : sameB froP0 froP2
  · rfl
  · exact absurd (congrArg (fun s => bAt s 0) (sameB_iff.1 h).1) (by decide +kernel)
theorem fro_earlier1 : earlierI (froL.take 1) = -1 := first_none fun k hk => absurd (show k < 0 from hk) (Nat.not_lt_zero k)
theorem fro_earlier2 : earlierI (froL.take 2) = -1 := first_none fun k hk => by
  have hk : k < 1 := hk
  obtain rfl : k = 0 := by omega
  exact same_not_side (a := froP0) (b := froP1) (by decide)
theorem fro_earlier3 : earlierI (froL.take 3) = -1 := first_none fun k hk => by
  have hk : k < 2 := hk
  show sameAt [froP0, froP1, froP2] k 2 = false
  rcases k with _ | _ | k
  · exact fro_same02
  · exact same_not_side (by decide)
  · omega
theorem last_goes {l : List Ps} {m : List (Int × Int)} {p : Ps} (hl : l.length = m.length + 1) (hp : l[m.length]? = some p) (he : endV p.s p.y p.z p.u = 0) (h : earlierI l = -1) (hz : p.z ≠ 120) : lastI l m = (0, 0) := by
  rw [last_of hl hp]
  unfold lastOf
  rw [he, if_neg (by simp), h, if_neg (by decide), if_neg hz]
theorem fro_last1 : lastI (froL.take 1) (froM.take 0) = (0, 0) := last_goes (p := froP0) rfl rfl fro_end0 fro_earlier1 (by decide)
theorem fro_last2 : lastI (froL.take 2) (froM.take 1) = (0, 0) := last_goes (p := froP1) rfl rfl fro_end1 fro_earlier2 (by decide)
theorem fro_last3 : lastI (froL.take 3) (froM.take 2) = (0, 0) := last_goes (p := froP2) rfl rfl fro_end2 fro_earlier3 (by decide)
theorem fro_last4 : lastI (froL.take 4) (froM.take 3) = (0, 0) := last_goes (p := froP3) rfl rfl fro_end3 fro_earlier4 (by decide)
theorem fro_last5 : lastI froL froM = (1, 5) := by
  rw [last_of (p := froP4) rfl rfl]
  unfold lastOf
  rw [fro_end4, if_neg (by simp), fro_earlier5, if_pos (by decide)]
  show tableI (classI froL froM 0) (classI froL froM 1) = _
  rw [fro_class0, fro_class1]
  rfl
theorem fro_run0 : runJ froP0 froM 0 = (0, froL.take 1) := rfl
theorem fro_run1 : runJ froP0 froM 1 = (0, froL.take 2) := by
  rw [run_go (c := froP0) (m := (0, 9)) (by rw [fro_run0]) (by rw [fro_run0, fro_last1]) rfl rfl, fro_step0]
  rfl
theorem fro_run2 : runJ froP0 froM 2 = (0, froL.take 3) := by
  rw [run_go (c := froP1) (m := (81, 72)) (by rw [fro_run1]) (by rw [fro_run1, fro_last2]) (by rw [fro_run1]; rfl) rfl, fro_step1, fro_run1]
  rfl
theorem fro_run3 : runJ froP0 froM 3 = (0, froL.take 4) := by
  rw [run_go (c := froP2) (m := (9, 0)) (by rw [fro_run2]) (by rw [fro_run2, fro_last3]) (by rw [fro_run2]; rfl) rfl, fro_step2, fro_run2]
  rfl
theorem fro_run4 : runJ froP0 froM 4 = (0, froL) := by
  rw [run_go (c := froP3) (m := (72, 81)) (by rw [fro_run3]) (by rw [fro_run3, fro_last4]) (by rw [fro_run3]; rfl) rfl, fro_step3, fro_run3]
  rfl
def froM5 : List (Int × Int) := [(0, 9), (81, 72), (9, 0), (72, 81), (0, 9)]
theorem fro_run5 : runJ froP0 froM5 5 = (10, []) := by
  have h : runJ froP0 froM5 4 = runJ froP0 froM 4 := run_same rfl
  refine run_end (by rw [h, fro_run4]) ?_
  rw [h, fro_run4]
  show (lastI froL froM).1 ≠ 0
  rw [fro_last5]
  decide
theorem fro_no : isV startS 0 0 1 81 72 = false := by decide +kernel
theorem fro_run9 : runJ froP0 [(81, 72)] 1 = (7, []) := by
  have h0 : runJ froP0 [(81, 72)] 0 = (0, froL.take 1) := rfl
  rw [run_go (c := froP0) (m := (81, 72)) (by rw [h0]) (by rw [h0]; exact congrArg Prod.fst fro_last1) rfl rfl]
  rw [show stepP froP0 (81, 72) = none by
    unfold stepP
    exact if_neg (by rw [show isV froP0.s froP0.y froP0.z froP0.u (81 : Int) 72 = false from fro_no]; simp)]
theorem fro_game4 : playE froP0 froM = 0 ∧ playV froP0 froM = (1, 5) ∧ playL froP0 froM = froL := by
  have h : playE froP0 froM = 0 := by rw [playE_run fro_well0 (by decide)]; exact congrArg Prod.fst fro_run4
  refine ⟨h, ?_, ?_⟩
  · unfold playV
    rw [if_pos h]
    exact (congrArg (fun x => lastI x.2 froM) fro_run4).trans fro_last5
  · unfold playL
    rw [if_pos h]
    exact congrArg Prod.snd fro_run4
theorem fro_run3' : runJ froP0 (froM.take 3) 3 = (0, froL.take 4) := by
  have h : runJ froP0 (froM.take 3) 3 = runJ froP0 froM 3 := run_same rfl
  rw [h, fro_run3]
theorem fro_game3 : playE froP0 (froM.take 3) = 0 ∧ playV froP0 (froM.take 3) = (0, 0) := by
  have h : playE froP0 (froM.take 3) = 0 := by rw [playE_run fro_well0 (by decide)]; exact congrArg Prod.fst fro_run3'
  refine ⟨h, ?_⟩
  unfold playV
  rw [if_pos h]
  exact (congrArg (fun x => lastI x.2 (froM.take 3)) fro_run3').trans fro_last4
theorem fro_table21 : tableI 2 1 = (2, 3) := by decide
theorem fro_table01 : tableI 0 1 = (3, 4) := by decide
end Go.Proofs.YtpogpjebhnoncaaGreatDoor
namespace Go.Proofs.YtpogpjebhnoncaaGreatDoor
open Go.RowKit Go.Shelf
open M (S)
def GivesJ (w : World) (v : Int × Int) (ls : List Ps) (k : Int) : Ending → World → Prop := fun e w' => ∃ A c, e = .returned (.tuple #[.agg #[.int .i64 v.1, .int .i64 v.2], .slice A ls.length c, .int .i64 k]) ∧ Rd w' A (psL ls) ∧ ls.length ≤ c ∧ Below w.heap.size w w'
theorem play_start (w : World) (s : ByteArray) (y z u : Int) {W0 : World} (hW0 : (w.alloc (.cells #[.string s, .int .i64 y, .int .i64 z, .int .i64 u] 23)).alloc (.cells #[.int .i64 0, .int .i64 0] 27) = W0) :
    Below w.heap.size w W0 ∧ Blk W0 w.heap.size 23 #[.string s, .int .i64 y, .int .i64 z, .int .i64 u] ∧ Blk W0 (w.heap.size + 1) 27 #[.int .i64 0, .int .i64 0] := by
  refine ⟨by rw [← hW0]; exact (by repeat (first | exact Below.refl _ _ | (refine Below.setCell ?_ (by first | omega | (simp; done) | (simp; omega) | (simp at *; omega)) _) | (refine Below.alloc ?_ (by first | omega | (simp; done) | (simp; omega) | (simp at *; omega)) _) | refine Below.drew ?_ | (refine below_drewN ?_ _) | (refine Below.trans ?_ (Below.mono (by assumption) (by first | omega | (simp; done) | (simp; omega) | (simp at *; omega)))))), by rw [← hW0]; exact (Blk.new _ _ _ rfl).alloc _, by rw [← hW0]; exact Blk.new _ _ _ (by simp)⟩
theorem verdict_end1 {W : World} {w : World} {x y : Int} (h : Blk W (w.heap.size + 1) 27 #[.int .i64 x, .int .i64 y]) (hB : Below w.heap.size w W) (k r : Int) : Blk ((W.setCell ⟨w.heap.size + 1, 0, none⟩ (.int .i64 k)).setCell ⟨w.heap.size + 1, 1, none⟩ (.int .i64 r)) (w.heap.size + 1) 27 #[.int .i64 k, .int .i64 r] ∧ Below w.heap.size w ((W.setCell ⟨w.heap.size + 1, 0, none⟩ (.int .i64 k)).setCell ⟨w.heap.size + 1, 1, none⟩ (.int .i64 r)) :=
  ⟨(h.set_ 0 (.int .i64 k)).set_ 1 (.int .i64 r), (hB.setCell (p := ⟨w.heap.size + 1, 0, none⟩) (Nat.le_succ _) _).setCell (p := ⟨w.heap.size + 1, 1, none⟩) (Nat.le_succ _) _⟩
structure JudgeAt (W : World) (r base H : Nat) (v : Value) (ls : List Ps) (x : Int × Int) : Prop where
  row : W.ownsRow base 23 4 v ls.length (psL ls)
  vb : Blk W H 27 #[.int .i64 x.1, .int .i64 x.2]
  rb : Blk W r 27 #[.int .i64 0, .int .i64 0]
  ne : ∀ k, v.ownBlock = some k → k ≠ H
theorem JudgeAt.next {W W' : World} {r base H : Nat} {v : Value} {ls : List Ps} {x : Int × Int} (h : JudgeAt W r base H v ls x) (hb : Below W.heap.size W W') : JudgeAt W' r base H v ls x :=
  ⟨own_next h.row hb, h.vb.next hb, h.rb.next hb, h.ne⟩
theorem JudgeAt.app {W4 w5 : World} {r base H : Nat} {v v' : Value} {ls : List Ps} {x : Int × Int} {q : Ps} {o : Obj} (h : JudgeAt W4 r base H v ls x) (hr : r < base)
    (hgrow : (W4.alloc o).grownBy w5 v.ownBlock) (hown : w5.ownsRow base 23 4 v' (ls.length + 1) (psL ls ++ [.string q.s, .int .i64 q.y, .int .i64 q.z, .int .i64 q.u])) (hat : v'.ownBlock = v.ownBlock ∨ v'.ownBlock = some (W4.alloc o).heap.size) :
    JudgeAt w5 r base H v' (ls ++ [q]) x := by
  refine ⟨?_, blk_farY hgrow (h.vb.alloc o) fun e => h.ne H e.symm rfl, blk_farY hgrow (h.rb.alloc o) fun e => ?_, fun k hk e => ?_⟩
  · rw [psL_four] at hown
    rw [List.length_append]
    exact hown
  · have := row_baseY h.row e.symm
    omega
  · subst e
    rcases hat with e | e
    · exact h.ne k (by rw [← e]; exact hk) rfl
    · rw [hk] at e
      injection e with e
      have := h.vb.lt
      rw [World.size_alloc] at e
      omega
theorem JudgeAt.set {W : World} {r base H : Nat} {v : Value} {ls : List Ps} {x : Int × Int} (h : JudgeAt W r base H v ls x) (hr : r ≠ H) (k n : Int) :
    JudgeAt ((W.setCell ⟨H, 0, none⟩ (.int .i64 k)).setCell ⟨H, 1, none⟩ (.int .i64 n)) r base H v ls (k, n) := by
  have n1 : ∀ k, v.ownBlock = some k → H ≠ k := fun k hk e => h.ne k hk e.symm
  refine ⟨row_set2 (row_set2 h.row n1) n1, (h.vb.set_ 0 (.int .i64 k)).set_ 1 (.int .i64 n), ?_, h.ne⟩
  exact (h.rb.far (p := ⟨H, 0, none⟩) hr (.int .i64 k)).far (p := ⟨H, 1, none⟩) hr (.int .i64 n)
theorem play_err {p : Ps} {ms : List (Int × Int)} {k : Nat} {e : Int} (hw : p.well = 0) (h9 : ms.length ≤ 1024) (hk : k ≤ ms.length) (h : (runJ p ms k).1 = e) (he : e ≠ 0) : playE p ms = e ∧ playV p ms = (0, 0) ∧ playL p ms = [] := by
  have h1 : playE p ms = e := by
    rw [playE_run hw h9]
    obtain ⟨d, hd⟩ : ∃ d, ms.length = k + d := ⟨ms.length - k, by omega⟩
    rw [hd, run_err (by rw [h]; exact he) d, h]
  refine ⟨h1, ?_, ?_⟩
  · unfold playV
    rw [if_neg (by rw [h1]; exact he)]
  · unfold playL
    rw [if_neg (by rw [h1]; exact he)]
theorem play_ok {p : Ps} {ms : List (Int × Int)} (hw : p.well = 0) (h9 : ms.length ≤ 1024) (h : (runJ p ms ms.length).1 = 0) : playE p ms = 0 ∧ playV p ms = lastI (runJ p ms ms.length).2 ms ∧ playL p ms = (runJ p ms ms.length).2 := by
  have h1 : playE p ms = 0 := by rw [playE_run hw h9, h]
  refine ⟨h1, ?_, ?_⟩
  · unfold playV
    rw [if_pos h1]
  · unfold playL
    rw [if_pos h1]
set_option maxRecDepth 100000 in
set_option maxHeartbeats 2000000 in
theorem play_bad (p : Ps) (C : Option Addr) (a d : Nat) (w : World) (hT : Tab w) (k : Int) (hk : p.well = k) (h : k ≠ 0) : Calls Tryz.prog 10 #[.agg #[.string p.s, .int .i64 p.y, .int .i64 p.z, .int .i64 p.u], .slice C a d] w (GivesJ w (0, 0) [] k) := by
  unfold GivesJ
  obtain ⟨s, y, z, u⟩ := p
  have hk : wellN s y z u = k := hk
  have HK := Lib.hid hk
  have k0 : (k != 0) = true := by rw [bne_iff_ne]; exact h
  obtain ⟨W0, hW0⟩ : ∃ W0, (w.alloc (.cells #[.string s, .int .i64 y, .int .i64 z, .int .i64 u] 23)).alloc (.cells #[.int .i64 0, .int .i64 0] 27) = W0 := ⟨_, rfl⟩
  obtain ⟨hB0, bP, bV⟩ := play_start w s y z u hW0
  have HW := Lib.hid hW0
  clear hk h hW0
  go_enter Tryz.func10, Tryz.ntmps10
  go_wp2_with fail
  rw [HW.out]
  refine (well_is s y z u k _ (hT.below hB0 hT.lt) HK.out).mono ?_
  rintro e w1 ⟨rfl, hb1⟩
  have hB1 := hB0.trans (hb1.mono hB0.size)
  have bV1 := bV.next hb1
  obtain ⟨q0, q1⟩ := two_cells bV1
  have f0 := bV1.frozen 0
  have f1 := bV1.frozen 1
  clear bP bV hB0 hb1
  go_wp2
  obtain ⟨bE, hE⟩ := verdict_end1 bV1 hB1 0 0
  exact bodyPost_ret (v := .tuple #[.agg #[.int .i64 0, .int .i64 0], .slice none 0 0, .int .i64 k]) (by simp [results, Tryz.results10, go_sem, bE.cell 0, bE.cell 1]) rfl ⟨none, 0, rfl, fun j u hu => by simp [psL] at hu, Nat.le_refl _, hE⟩
set_option maxRecDepth 100000 in
set_option maxHeartbeats 2000000 in
theorem play_full (p : Ps) (C : Option Addr) (a d : Nat) (w : World) (hT : Tab w) (hk : p.well = 0) (h : 1024 < a) : Calls Tryz.prog 10 #[.agg #[.string p.s, .int .i64 p.y, .int .i64 p.z, .int .i64 p.u], .slice C a d] w (GivesJ w (0, 0) [] 8) := by
  unfold GivesJ
  obtain ⟨s, y, z, u⟩ := p
  have hk : wellN s y z u = 0 := hk
  have HK := Lib.hid hk
  have hd : (1024 : Int) < (a : Int) := by omega
  obtain ⟨W0, hW0⟩ : ∃ W0, (w.alloc (.cells #[.string s, .int .i64 y, .int .i64 z, .int .i64 u] 23)).alloc (.cells #[.int .i64 0, .int .i64 0] 27) = W0 := ⟨_, rfl⟩
  obtain ⟨hB0, bP, bV⟩ := play_start w s y z u hW0
  have HW := Lib.hid hW0
  clear hk h hW0
  go_enter Tryz.func10, Tryz.ntmps10
  go_wp2_with fail
  rw [HW.out]
  refine (well_is s y z u 0 _ (hT.below hB0 hT.lt) HK.out).mono ?_
  rintro e w1 ⟨rfl, hb1⟩
  have hB1 := hB0.trans (hb1.mono hB0.size)
  have bV1 := bV.next hb1
  obtain ⟨q0, q1⟩ := two_cells bV1
  have f0 := bV1.frozen 0
  have f1 := bV1.frozen 1
  clear bP bV hB0 hb1
  go_wp2
  obtain ⟨bE, hE⟩ := verdict_end1 bV1 hB1 0 0
  exact bodyPost_ret (v := .tuple #[.agg #[.int .i64 0, .int .i64 0], .slice none 0 0, .int .i64 8]) (by simp [results, Tryz.results10, go_sem, bE.cell 0, bE.cell 1]) rfl ⟨none, 0, rfl, fun j u hu => by simp [psL] at hu, Nat.le_refl _, hE⟩
set_option maxRecDepth 100000 in
set_option maxHeartbeats 8000000 in
theorem play_go (p : Ps) (C : Option Addr) (l : List (Int × Int)) (a d : Nat) (w : World) (hT : Tab w) (hm : Rd w C (mzL l)) (ha : l.length = a) (had : a ≤ d) (hk : p.well = 0) (ha9 : a ≤ 1024) : Calls Tryz.prog 10 #[.agg #[.string p.s, .int .i64 p.y, .int .i64 p.z, .int .i64 p.u], .slice C a d] w (GivesJ w (playV p l) (playL p l) (playE p l)) := by
  unfold GivesJ
  obtain ⟨i0, hi, hz0, hz1, hz2⟩ := info_partsY info_pos4
  have HWL : Hid (p.well = 0) := hk
  have HM := Lib.hid hm
  have HA := Lib.hid ha
  obtain ⟨s, y, z, u⟩ := p
  have hk : wellN s y z u = 0 := hk
  have HK := Lib.hid hk
  have hd : ¬ (1024 : Int) < (a : Int) := by omega
  clear hk hm ha
  obtain ⟨W0, hW0⟩ : ∃ W0, (w.alloc (.cells #[.string s, .int .i64 y, .int .i64 z, .int .i64 u] 23)).alloc (.cells #[.int .i64 0, .int .i64 0] 27) = W0 := ⟨_, rfl⟩
  obtain ⟨hB0, bP, bV⟩ := play_start w s y z u hW0
  have HW := Lib.hid hW0
  clear hW0
  go_enter Tryz.func10, Tryz.ntmps10
  go_wp2_with fail
  rw [HW.out]
  refine (well_is s y z u 0 _ (hT.below hB0 hT.lt) HK.out).mono ?_
  rintro e w1 ⟨rfl, hb1⟩
  have hB1 := hB0.trans (hb1.mono hB0.size)
  have hT1 := hT.below hB1 hT.lt
  have bV1 := bV.next hb1
  have bP1 := bP.next hb1
  obtain ⟨p0, p1, p2, p3⟩ := four_cells bP1
  clear bP bV hB0 hb1
  obtain ⟨W2, hW2⟩ : ∃ W2, w1.alloc (.cells #[.string s, .int .i64 y, .int .i64 z, .int .i64 u] 23) = W2 := ⟨_, rfl⟩
  have HW2 := Lib.hid hW2
  obtain ⟨⟨vk, vr⟩, hvv⟩ : ∃ v, lastI [⟨s, y, z, u⟩] [] = v := ⟨_, rfl⟩
  have HVV := Lib.hid hvv
  have hB2 : Below w.heap.size w W2 := by rw [← hW2]; exact hB1.alloc hB1.size _
  have bL : Blk W2 w1.heap.size 23 #[.string s, .int .i64 y, .int .i64 z, .int .i64 u] := by rw [← hW2]; exact Blk.new _ _ _ rfl
  have HBL : Hid (Blk W2 w1.heap.size 23 #[.string s, .int .i64 y, .int .i64 z, .int .i64 u]) := bL
  have HRL : Hid (Rd W2 (some ⟨w1.heap.size, 0, none⟩) (psL [⟨s, y, z, u⟩])) := fun j v hv => by
    have hadd : Addr.add ⟨w1.heap.size, 0, none⟩ j = ⟨w1.heap.size, j, none⟩ := by
      simp only [Addr.add]
      split <;> simp_all
    refine ⟨_, rfl, ?_⟩
    rw [hadd, bL.cell j]
    rw [← hv, List.getElem?_toArray]
    rfl
  have bV2 : Blk W2 (w.heap.size + 1) 27 #[.int .i64 0, .int .i64 0] := by rw [← hW2]; exact bV1.alloc _
  have hT2 := hT.below hB2 hT.lt
  have HSW : Hid (w1.heap.size < W2.heap.size ∧ w.heap.size + 1 < w1.heap.size) := ⟨bL.lt, bV1.lt⟩
  clear hW2 hvv bV1 bL
  go_wp2_with fail
  rw [HW2.out]
  clear p0 p1 p2 p3
  refine (jlast_is _ none [⟨s, y, z, u⟩] [] 1 1 0 0 vk vr _ hT2 HRL.out rfl (rd_nil _ _) rfl (by decide) (by decide) (by decide) HVV.out).mono ?_
  rintro e w3 ⟨rfl, hb3⟩
  have HSH : Hid (w.heap.size + 1 < w1.heap.size ∧ w1.heap.size ≤ w3.heap.size) := ⟨HSW.out.2, Nat.le_trans (Nat.le_of_lt HSW.out.1) hb3.size⟩
  obtain ⟨W4, hW4⟩ : ∃ W4, w3.alloc (.cells #[.int .i64 vk, .int .i64 vr] 27) = W4 := ⟨_, rfl⟩
  have hJ0 : JudgeAt W4 (w.heap.size + 1) w1.heap.size w3.heap.size (.slice (some ⟨w1.heap.size, 0, none⟩) 1 1) [⟨s, y, z, u⟩] (vk, vr) := by
    have h1 : JudgeAt w3 (w.heap.size + 1) w1.heap.size w3.heap.size (.slice (some ⟨w1.heap.size, 0, none⟩) 1 1) [⟨s, y, z, u⟩] (vk, vr) → JudgeAt W4 (w.heap.size + 1) w1.heap.size w3.heap.size (.slice (some ⟨w1.heap.size, 0, none⟩) 1 1) [⟨s, y, z, u⟩] (vk, vr) := fun h => by rw [← hW4]; exact h.next (below_new _ _)
    have hrow : w3.ownsRow w1.heap.size 23 4 (.slice (some ⟨w1.heap.size, 0, none⟩) 1 1) 1 (psL [⟨s, y, z, u⟩]) := own_next ⟨rfl, .inr ⟨w1.heap.size, 1, _, rfl, Nat.le_refl _, HBL.out, Nat.le_refl _, by unfold maxLen; omega, rfl, rfl⟩⟩ hb3
    refine ⟨by rw [← hW4]; exact own_next hrow (below_new _ _), by rw [← hW4]; exact Blk.new _ _ _ rfl, by rw [← hW4]; exact (bV2.next hb3).alloc _, fun k hk => ?_⟩
    have hk : some w1.heap.size = some k := hk
    injection hk with hk
    have := Nat.lt_of_lt_of_le HSW.out.1 hb3.size
    omega
  have hB4 : Below w.heap.size w W4 := by rw [← hW4]; exact (hB2.trans (hb3.mono hB2.size)).alloc (hB2.trans (hb3.mono hB2.size)).size _
  obtain ⟨H, hH⟩ : ∃ H, w3.heap.size = H := ⟨_, rfl⟩
  obtain ⟨B, hBB⟩ : ∃ B, w1.heap.size = B := ⟨_, rfl⟩
  have HW4 := Lib.hid hW4
  rw [hH, hBB] at hJ0 HSH
  clear hW4 hB2 hT2 hb3 bV2 HRL HBL HSW HW2
  go_wp2_with fail
  rw [HW4.out]
  (try rw [hH])
  (try rw [hBB])
  clear HW4 hH hBB
  go_loopw [8, 31] (fun v i wr => ∃ k : Nat, k ≤ a ∧ i = .int .i64 (k : Int) ∧ (runJ ⟨s, y, z, u⟩ l k).1 = 0 ∧ JudgeAt wr (w.heap.size + 1) B H v (runJ ⟨s, y, z, u⟩ l k).2 (lastI (runJ ⟨s, y, z, u⟩ l k).2 (l.take k)) ∧ Below w.heap.size w wr) (fun _ i _ => a - (intOf i).toNat)
  case atStart => exact ⟨0, Nat.zero_le _, rfl, rfl, by rw [List.take_zero]; show JudgeAt _ _ _ _ _ [_] _; rw [show lastI (runJ ⟨s, y, z, u⟩ l 0).2 [] = (vk, vr) from HVV.out]; exact hJ0, hB4⟩
  case round =>
    clear hJ0 hB4
    obtain ⟨k, hk, rfl, hrun, hJ, hB⟩ := hrel
    have hTr := hT.below hB hT.lt
    have hrl : (runJ ⟨s, y, z, u⟩ l k).2.length = k + 1 := by rw [(run_chain (by rw [HA.out]; exact hk) hrun).len, List.length_take, HA.out]; omega
    obtain ⟨ls, hls⟩ : ∃ x, (runJ ⟨s, y, z, u⟩ l k).2 = x := ⟨_, rfl⟩
    obtain ⟨⟨xk, xr⟩, hx⟩ : ∃ x, lastI (runJ ⟨s, y, z, u⟩ l k).2 (l.take k) = x := ⟨_, rfl⟩
    have HX := Lib.hid hx
    have HLS := Lib.hid hls
    have HRUN := Lib.hid hrun
    rw [hx, hls] at hJ
    rw [hls] at hrl
    have HRL := Lib.hid hrl
    clear hx hls hrun hrl
    have hrow : wr.ownsRow B 23 4 u8 (k + 1) (psL ls) := by have := hJ.row; rw [HRL.out] at this; exact this
    obtain ⟨A1, c1, rfl, hr1, hc1⟩ := own_any hrow
    by_cases hlt : k < a
    · have hkl : k < l.length := by rw [HA.out]; exact hlt
      have bk : (k : Int) < (a : Int) := by omega
      obtain ⟨gC, bC, rfl, m0, m1⟩ := HM.out.mz hkl
      obtain ⟨⟨x1, x2⟩, hxy⟩ : ∃ x, l[k]'hkl = x := ⟨_, rfl⟩
      rw [hxy] at m0 m1
      have HMV : Hid (l[k]? = some (x1, x2)) := by show _ = _; rw [← hxy]; exact List.getElem?_eq_getElem _
      have HTK : Hid (l.take (k + 1) = l.take k ++ [(x1, x2)]) := by show _ = _; rw [List.take_succ_eq_append_getElem hkl, hxy]
      have c0 := (hB.cell (p := ⟨gC, bC + k * 2, none⟩) (cell_lt m0)).trans m0
      have c1' := (hB.cell (p := ⟨gC, bC + k * 2 + 1, none⟩) (cell_lt m1)).trans m1
      have hJ5 := hJ.next (below_new wr (.cells #[iv x1, iv x2] 54))
      have hB5 : Below w.heap.size w (wr.alloc (.cells #[iv x1, iv x2] 54)) := hB.alloc hB.size _
      obtain ⟨v0, v1⟩ := two_cells hJ5.vb
      obtain ⟨r0, r1⟩ := two_cells hJ5.rb
      have f0 := hJ5.rb.frozen 0
      have f1 := hJ5.rb.frozen 1
      clear m0 m1 hxy
      by_cases hx0 : xk = 0
      · subst hx0
        obtain ⟨W5, hW5⟩ : ∃ W5, wr.alloc (.cells #[iv x1, iv x2] 54) = W5 := ⟨_, rfl⟩
        have HW5 := Lib.hid hW5
        have hr5 : Rd W5 A1 (psL ls) := by rw [← hW5]; exact hr1.next (below_new _ _)
        obtain ⟨g, b, rfl, e0, e1, e2, e3⟩ := hr5.ps (k := k) (by rw [HRL.out]; exact Nat.lt_succ_self k)
        have hg5 : wr.heap.size + 1 = W5.heap.size := by rw [← hW5, World.size_alloc]
        have bM : Blk W5 wr.heap.size 54 #[iv x1, iv x2] := by rw [← hW5]; exact Blk.new _ _ _ rfl
        have HJ5 : Hid (JudgeAt W5 (w.heap.size + 1) B H (.slice (some ⟨g, b, none⟩) (k + 1) c1) ls (0, xr)) := by show JudgeAt _ _ _ _ _ _ _; rw [← hW5]; exact hJ5
        have HB5 : Hid (Below w.heap.size w W5) := by show Below _ _ _; rw [← hW5]; exact hB5
        obtain ⟨⟨cs, cy, cz, cu⟩, hcur⟩ : ∃ x, ls[k]'(by rw [HRL.out]; exact Nat.lt_succ_self k) = x := ⟨_, rfl⟩
        rw [hcur] at e0 e1 e2 e3
        have HCUR : Hid (ls[k]? = some ⟨cs, cy, cz, cu⟩) := by show _ = _; rw [← hcur]; exact List.getElem?_eq_getElem _
        obtain ⟨q, qy, qz, qu, tk, er, hV, hcase⟩ := step_value ⟨cs, cy, cz, cu⟩ (x1, x2)
        have hV : makeV cs cy cz cu x1 x2 = .tuple #[.agg #[.string q, .int .i64 qy, .int .i64 qz, .int .i64 qu], .int .u8 tk, .int .i64 er] := hV
        have HV := Lib.hid hV
        have HCASE := Lib.hid hcase
        have HT5 := Lib.hid (hT.below HB5.out hT.lt)
        obtain ⟨d0, d1⟩ := two_cells bM
        have HM2 : Hid (∀ W, Tab W → Calls Tryz.prog 37 #[.agg #[.string cs, .int .i64 cy, .int .i64 cz, .int .i64 cu], .agg #[.int .i64 x1, .int .i64 x2]] W (Gives W (.tuple #[.agg #[.string q, .int .i64 qy, .int .i64 qz, .int .i64 qu], .int .u8 tk, .int .i64 er]))) := fun W h => make_is cs cy cz cu x1 x2 _ W h HV.out
        have hba : Below W5.heap.size W5 (W5.alloc (.cells #[.string ⟨#[]⟩, .int .i64 0, .int .i64 0, .int .i64 0] 23)) := (Below.refl _ _).alloc (Nat.le_refl _) _
        have HBZ : Hid (Blk (W5.alloc (.cells #[.string ⟨#[]⟩, .int .i64 0, .int .i64 0, .int .i64 0] 23)).drew W5.heap.size 23 #[.string ⟨#[]⟩, .int .i64 0, .int .i64 0, .int .i64 0]) := (Blk.new W5 23 #[.string ⟨#[]⟩, .int .i64 0, .int .i64 0, .int .i64 0] rfl).next (Below.refl _ _).drew
        have HBA := Lib.hid hba
        have hal : ∀ (o : Obj) (pl : Addr) (x : Value), W5.cell? pl = some x → (W5.alloc o).cell? pl = some x := fun o pl x h => (((Below.refl W5.heap.size W5).alloc (Nat.le_refl _) o).cell (cell_lt h)).trans h
        have pa0 := fun o => hal o _ _ e0
        have pa1 := fun o => hal o _ _ e1
        have pa2 := fun o => hal o _ _ e2
        have pa3 := fun o => hal o _ _ e3
        have ma0 := fun o => hal o _ _ d0
        have ma1 := fun o => hal o _ _ d1
        have bk2 : (k : Int) < (k : Int) + 1 := by omega
        have bk3 : (k : Int) < ((k + 1 : Nat) : Int) := by omega
        have HR1 := Lib.hid hr1
        have HROW := Lib.hid hrow
        have HJ := Lib.hid hJ
        have HGL : Hid (B ≤ g) := by
          show _ ≤ _
          exact row_baseY hrow rfl
        have HG5 := Lib.hid hg5
        clear hba hal hV hcase hcur hW5 hr1 hrow hJ hJ5 hB5 bM hr5 hc1 hg5
        go_wp2_with fail
        (try rw [HW5.out])
        clear c0 c1' v0 v1 r0 r1 f0 f1
        go_region_with ((go_at_call 37; first
          | (refine (HM2.out W5.drew (HT5.out.next (Below.refl _ _).drew)).mono ?_; rintro e w3 ⟨rfl, hb⟩; obtain ⟨W6, hW6⟩ : ∃ x, w3.alloc (.cells #[.string q, .int .i64 qy, .int .i64 qz, .int .i64 qu] 23) = x := ⟨_, rfl⟩)
          | (refine (HM2.out (W5.alloc (.cells #[.string ⟨#[]⟩, .int .i64 0, .int .i64 0, .int .i64 0] 23)).drew (HT5.out.next HBA.out.drew)).mono ?_; rintro e w3 ⟨rfl, hb⟩; obtain ⟨z0, z1, z2, z3⟩ := four_cells (HBZ.out.next hb); obtain ⟨f0, f1, f2, f3⟩ := four_frozen (HBZ.out.next hb); obtain ⟨W6, hW6⟩ : ∃ x, ((((w3.setCell ⟨W5.heap.size, 0, none⟩ (.string q)).setCell ⟨W5.heap.size, 1, none⟩ (.int .i64 qy)).setCell ⟨W5.heap.size, 2, none⟩ (.int .i64 qz)).setCell ⟨W5.heap.size, 3, none⟩ (.int .i64 qu)) = x := ⟨_, rfl⟩)))
        all_goals
          first
          | (have hb3 : Below W5.heap.size W5 w3 := ((Below.refl W5.heap.size W5).drew).trans hb
             have hgq : W5.heap.size ≤ w3.heap.size := hb3.size
             have hb4 : Below W5.heap.size W5 W6 := by rw [← hW6]; exact hb3.alloc hb3.size _
             have bQ : Blk W6 w3.heap.size 23 #[.string q, .int .i64 qy, .int .i64 qz, .int .i64 qu] := by rw [← hW6]; exact Blk.new _ _ _ rfl
             clear hW6 hb3 hb
             generalize w3.heap.size = gq at bQ hgq ⊢)
          | (have hb3 : Below W5.heap.size W5 w3 := (HBA.out.drew).trans (hb.mono (HBA.out.drew).size)
             have bz := HBZ.out.next hb
             have hb4 : Below W5.heap.size W5 W6 := by rw [← hW6]; exact ((((hb3.setCell (p := ⟨W5.heap.size, 0, none⟩) (Nat.le_refl _) _).setCell (p := ⟨W5.heap.size, 1, none⟩) (Nat.le_refl _) _).setCell (p := ⟨W5.heap.size, 2, none⟩) (Nat.le_refl _) _).setCell (p := ⟨W5.heap.size, 3, none⟩) (Nat.le_refl _) _)
             have bQ : Blk W6 W5.heap.size 23 #[.string q, .int .i64 qy, .int .i64 qz, .int .i64 qu] := by rw [← hW6]; exact ((((bz.set_ 0 (.string q)).set_ 1 (.int .i64 qy)).set_ 2 (.int .i64 qz)).set_ 3 (.int .i64 qu))
             obtain ⟨gq, hgqe⟩ : ∃ gq, W5.heap.size = gq := ⟨_, rfl⟩
             have hgq : W5.heap.size ≤ gq := Nat.le_of_eq hgqe
             clear hW6 hb3 hb bz
             (try clear z0 z1 z2 z3 f0 f1 f2 f3)
             rw [hgqe] at bQ ⊢
             clear hgqe)
          have HJ6 := Lib.hid (HJ5.out.next hb4)
          have HB6 := Lib.hid (HB5.out.trans (hb4.mono HB5.out.size))
          clear pa0 pa1 pa2 pa3 ma0 ma1 e0 e1 e2 e3 d0 d1 hb4 hgq
          rcases HCASE.out with ⟨he, hst⟩ | ⟨he, hst⟩
          · subst he
            have HST := Lib.hid hst
            have hrow6 : W6.ownsRow B 23 4 (.slice (some ⟨g, b, none⟩) (k + 1) c1) (k + 1) (psL ls) := by have := HJ6.out.row; rw [HRL.out] at this; exact this
            have HROW6 := Lib.hid hrow6
            have HSZ : Hid (B ≤ W6.heap.size) := by
              show _ ≤ _
              have := HJ6.out.vb.lt
              have := HSH.out.2
              omega
            obtain ⟨q0, q1, q2, q3⟩ := four_cells bQ
            have w1k : IntKind.i64.wrap ((k : Int) + 1) = (k : Int) + 1 := by rw [IntKind.wrap_i64]; omega
            have w2k : IntKind.i64.wrap ((k : Int) + 2) = (k : Int) + 2 := by rw [IntKind.wrap_i64]; omega
            obtain ⟨⟨nk, nr⟩, hnx⟩ : ∃ x, lastI (ls ++ [⟨q, qy, qz, qu⟩]) (l.take (k + 1)) = x := ⟨_, rfl⟩
            have HNX := Lib.hid hnx
            have HSUC : Hid (runJ ⟨s, y, z, u⟩ l (k + 1) = (0, ls ++ [⟨q, qy, qz, qu⟩])) := by
              show _ = _
              rw [run_go HRUN.out (by rw [HLS.out, ← HLS.out, HX.out]) (by rw [HLS.out]; exact HCUR.out) HMV.out, hst, HLS.out]
            have HLN : Hid ((ls ++ [⟨q, qy, qz, qu⟩] : List Ps).length = k + 2) := by show _ = _; rw [List.length_append, HRL.out]; rfl
            have HTL : Hid ((l.take (k + 1)).length = k + 1) := by show _ = _; rw [List.length_take, HA.out]; omega
            have HTAKE : Hid (Rd w (some ⟨gC, bC, none⟩) (mzL (l.take (k + 1)))) := rd_take HM.out _
            clear hst HCASE hnx hrow6
            go_wp2_with (first
              | (at_builtin; refine wpList_append_own_at _ rfl _ _ 28 rfl B 23 i0 (.agg #[.string ⟨#[]⟩, .int .i64 0, .int .i64 0, .int .i64 0]) 4 40 Tryz.underlying28 hi hz0 hz1 hz2 rfl (by decide) _ _ _ rfl (own_next HROW6.out (below_new _ _)) ⟨W6.heap.size, 0, none⟩ 1 1 [.string q, .int .i64 qy, .int .i64 qz, .int .i64 qu] rfl rfl (cells_four_new _ _ _ _ _ _) (by simp [Value.oneCell']) (by unfold maxLen; omega) (by omega) (by have := HSZ.out; simp; omega) ?_; intro v1' w7 hown' hgrow _ hat; obtain ⟨A9, c9, rfl, hr9, hc9⟩ := own_any hown'))
            have hown9 : w7.ownsRow B 23 4 (.slice A9 (k + 1 + 1) c9) (ls.length + 1) (psL ls ++ [.string q, .int .i64 qy, .int .i64 qz, .int .i64 qu]) := by rw [HRL.out]; exact hown'
            have HJ7 := Lib.hid (HJ6.out.app (q := ⟨q, qy, qz, qu⟩) HSH.out.1 hgrow hown9 hat)
            have HB7 : Hid (Below w.heap.size w w7) := below_app HB6.out (HB6.out.size) (by
              have := HROW6.out
              exact ⟨this.1, by
                rcases this.2 with h | ⟨g', cap, cur, hv, hg, hc⟩
                · exact .inl h
                · exact .inr ⟨g', cap, cur, hv, by have := HSH.out.1; omega, hc⟩⟩) hgrow
            have HR9 : Hid (Rd w7 A9 (psL (ls ++ [⟨q, qy, qz, qu⟩]))) := by show Rd _ _ _; rw [psL_snoc]; exact hr9
            have HT7 := Lib.hid (hT.below HB7.out hT.lt)
            obtain ⟨g9, b9, rfl, -, -⟩ := HR9.out.ps (k := 0) (by rw [HLN.out]; omega)
            clear hown' hgrow hat hr9 hown9 q0 q1 q2 q3 bQ HROW6
            go_wp2_with fail
            have HTK7 : Hid (Rd w7 (some ⟨gC, bC, none⟩) (mzL (l.take (k + 1)))) := HTAKE.out.next HB7.out
            have HRH : Hid (w.heap.size + 1 ≠ H ∧ w.heap.size ≤ H) := ⟨by have := HSH.out; omega, by have := HSH.out; omega⟩
            go_region_with ((go_at_call 35; refine (jlast_is _ _ (ls ++ [⟨q, qy, qz, qu⟩]) (l.take (k + 1)) (k + 2) (k + 2) (k + 1) (k + 1) nk nr w7.drew (HT7.out.next (Below.refl _ _).drew) (HR9.out.next (Below.refl _ _).drew) HLN.out (HTK7.out.next (Below.refl _ _).drew) HTL.out (by omega) (Nat.le_refl _) (Nat.le_refl _) HNX.out).mono ?_; rintro e w8 ⟨rfl, hb8⟩; have HB8 : Hid (Below w7.heap.size w7 w8) := (Below.refl w7.heap.size w7).drew.trans hb8; have HJ8 := Lib.hid (HJ7.out.next HB8.out); obtain ⟨v0, v1⟩ := two_cells HJ8.out.vb; have f0 := HJ8.out.vb.frozen 0; have f1 := HJ8.out.vb.frozen 1; clear hb8))
            have HJ9 := Lib.hid (HJ8.out.set HRH.out.1 nk nr)
            have HB9 : Hid (Below w.heap.size w ((w8.setCell ⟨H, 0, none⟩ (.int .i64 nk)).setCell ⟨H, 1, none⟩ (.int .i64 nr))) := ((HB7.out.trans (HB8.out.mono HB7.out.size)).setCell (p := ⟨H, 0, none⟩) HRH.out.2 _).setCell (p := ⟨H, 1, none⟩) HRH.out.2 _
            go_wp2
            go_roundw
            case rel => exact ⟨k + 1, by omega, by go_num, by rw [HSUC.out], by rw [HSUC.out]; show JudgeAt _ _ _ _ _ (ls ++ [⟨q, qy, qz, qu⟩]) (lastI (ls ++ [⟨q, qy, qz, qu⟩]) (l.take (k + 1))); rw [HNX.out]; exact HJ9.out, HB9.out⟩
            case measure => simp [intOf]; omega
            all_goals exact ⟨⟨k + 1, by omega, by go_num, by rw [HSUC.out], by rw [HSUC.out]; show JudgeAt _ _ _ _ _ (ls ++ [⟨q, qy, qz, qu⟩]) (lastI (ls ++ [⟨q, qy, qz, qu⟩]) (l.take (k + 1))); rw [HNX.out]; exact HJ8.out.set HRH.out.1 nk nr, ((HB7.out.trans (HB8.out.mono HB7.out.size)).setCell (p := ⟨H, 0, none⟩) HRH.out.2 _).setCell (p := ⟨H, 1, none⟩) HRH.out.2 _⟩, by simp [intOf]; omega⟩
          · have e0 : (er != 0) = true := by rw [bne_iff_ne]; exact he
            obtain ⟨r0, r1⟩ := two_cells HJ6.out.rb
            have f0 := HJ6.out.rb.frozen 0
            have f1 := HJ6.out.rb.frozen 1
            obtain ⟨q1, q2, q3⟩ := play_err (p := ⟨s, y, z, u⟩) (ms := l) (k := k + 1) (e := 7) HWL.out (by rw [HA.out]; exact ha9) (by rw [HA.out]; exact hlt) (by rw [run_go HRUN.out (by rw [HLS.out, ← HLS.out, HX.out]) (by rw [HLS.out]; exact HCUR.out) HMV.out, hst]) (by decide)
            have Q1 := Lib.hid q1
            have Q2 := Lib.hid q2
            have Q3 := Lib.hid q3
            clear q1 q2 q3 he hst HCASE
            go_wp2
            rw [Q1.out, Q2.out, Q3.out]
            obtain ⟨bE, hE⟩ := verdict_end1 HJ6.out.rb HB6.out 0 0
            exact bodyPost_ret (v := .tuple #[.agg #[.int .i64 0, .int .i64 0], .slice none 0 0, .int .i64 7]) (by simp [results, Tryz.results10, go_sem, bE.cell 0, bE.cell 1]) rfl ⟨none, 0, rfl, fun j u hu => by simp [psL] at hu, Nat.le_refl _, hE⟩
      · have ex : (xk != 0) = true := by rw [bne_iff_ne]; exact hx0
        obtain ⟨q1, q2, q3⟩ := play_err (p := ⟨s, y, z, u⟩) (ms := l) (k := k + 1) (e := 10) HWL.out (by rw [HA.out]; exact ha9) (by rw [HA.out]; exact hlt) (by rw [run_end HRUN.out (by rw [HLS.out, ← HLS.out, HX.out]; exact hx0)]) (by decide)
        have Q1 := Lib.hid q1
        have Q2 := Lib.hid q2
        have Q3 := Lib.hid q3
        clear q1 q2 q3 hx0
        go_wp2
        rw [Q1.out, Q2.out, Q3.out]
        obtain ⟨bE, hE⟩ := verdict_end1 hJ5.rb hB5 0 0
        exact bodyPost_ret (v := .tuple #[.agg #[.int .i64 0, .int .i64 0], .slice none 0 0, .int .i64 10]) (by simp [results, Tryz.results10, go_sem, bE.cell 0, bE.cell 1]) rfl ⟨none, 0, rfl, fun j u hu => by simp [psL] at hu, Nat.le_refl _, hE⟩
    · obtain rfl : k = a := by omega
      have bk : ¬ (k : Int) < (k : Int) := by omega
      have hl9 : l.take k = l := List.take_of_length_le (by rw [HA.out]; exact Nat.le_refl _)
      obtain ⟨q1, q2, q3⟩ := play_ok (p := ⟨s, y, z, u⟩) (ms := l) HWL.out (by rw [HA.out]; exact ha9) (by rw [HA.out]; exact HRUN.out)
      have Q1 := Lib.hid q1
      have Q2 : Hid (playV ⟨s, y, z, u⟩ l = (xk, xr)) := by
        show _ = _
        rw [q2, HA.out]
        have := HX.out
        rw [hl9] at this
        exact this
      have Q3 : Hid (playL ⟨s, y, z, u⟩ l = ls) := by
        show _ = _
        rw [q3, HA.out]
        exact HLS.out
      obtain ⟨v0, v1⟩ := two_cells hJ.vb
      obtain ⟨r0, r1⟩ := two_cells hJ.rb
      have f0 := hJ.rb.frozen 0
      have f1 := hJ.rb.frozen 1
      clear q1 q2 q3 hl9 hlt hk
      go_wp2
      rw [Q1.out, Q2.out, Q3.out]
      obtain ⟨bE, hE⟩ := verdict_end1 hJ.rb hB xk xr
      have n1 : ∀ k', (Value.slice A1 (k + 1) c1).ownBlock = some k' → w.heap.size + 1 ≠ k' := fun k' hk' => by
        have := row_baseY hrow hk'
        have := HSH.out.1
        omega
      obtain ⟨A9, c9, e9, hr9, hc9⟩ := own_any (row_set2 (u := .int .i64 xr) (i := 1) (row_set2 (u := .int .i64 xk) (i := 0) hrow n1) n1)
      cases e9
      exact bodyPost_ret (v := .tuple #[.agg #[.int .i64 xk, .int .i64 xr], .slice A1 (k + 1) c1, .int .i64 0]) (by simp [results, Tryz.results10, go_sem, bE.cell 0, bE.cell 1]) rfl ⟨A1, c1, by rw [HRL.out], hr9, by rw [HRL.out]; exact hc9, hE⟩
theorem jplay_any (p : Ps) (C : Option Addr) (l : List (Int × Int)) (a d : Nat) (w : World) (hT : Tab w) (hm : Rd w C (mzL l)) (ha : l.length = a) (had : a ≤ d) : Calls Tryz.prog 10 #[.agg #[.string p.s, .int .i64 p.y, .int .i64 p.z, .int .i64 p.u], .slice C a d] w (GivesJ w (playV p l) (playL p l) (playE p l)) := by
  by_cases hk : p.well = 0
  · by_cases h9 : a ≤ 1024
    · exact play_go p C l a d w hT hm ha had hk h9
    · have he : playE p l = 8 := by
        unfold playE
        rw [if_neg (by rw [hk]; simp), if_pos (by omega)]
      have hv : playV p l = (0, 0) := by unfold playV; rw [if_neg (by rw [he]; decide)]
      have hl : playL p l = [] := by unfold playL; rw [if_neg (by rw [he]; decide)]
      rw [he, hv, hl]
      exact play_full p C a d w hT hk (by omega)
  · have he : playE p l = p.well := by unfold playE; rw [if_pos hk]
    have hv : playV p l = (0, 0) := by unfold playV; rw [if_neg (by rw [he]; exact hk)]
    have hl : playL p l = [] := by unfold playL; rw [if_neg (by rw [he]; exact hk)]
    rw [he, hv, hl]
    exact play_bad p C a d w hT _ rfl hk
end Go.Proofs.YtpogpjebhnoncaaGreatDoor
