/- What is found on a board, for every text; a board from the other side. -/
import Derived.Test.YtbfkkedcjodceaaGreatDoorBoard2
import Derived.Deep.QuietTactic
import Derived.BigQuiet
namespace Go.Proofs.YtbfkkedcjodceaaGreatDoor
open Go.RowKit Go.Shelf
open M (S)
open M.S

/-- The squares at which something holds, as a set. -/
def setOf (p : Nat → Bool) (k : Nat) : S := (List.range k).foldl (fun t i => if p i then t.put (i : Int) else t) S.empty
theorem setOf_succ (p : Nat → Bool) (k : Nat) : setOf p (k + 1) = if p k then (setOf p k).put (k : Int) else setOf p k := by
  unfold setOf
  rw [List.range_succ, List.foldl_append]
  rfl
theorem setOf_clean (p : Nat → Bool) : ∀ k, (setOf p k).Clean
  | 0 => empty_clean
  | k + 1 => by
    rw [setOf_succ]
    split
    · exact put_clean _ _
    · exact setOf_clean p k
theorem has_setOf (p : Nat → Bool) (i : Nat) (hi : i < 90) : ∀ k, (setOf p k).has i = (decide (i < k) && p i)
  | 0 => by rw [show setOf p 0 = S.empty from rfl, has_empty]; simp
  | k + 1 => by
    rw [setOf_succ]
    by_cases e : i = k
    · subst e
      cases hp : p i
      · simp [has_setOf p i hi i]
      · simp [has_put, hi]
    · have h1 : decide (i < k + 1) = decide (i < k) := by rw [decide_eq_decide]; omega
      rw [h1]
      split
      · rw [has_put, has_setOf p i hi k, decide_eq_false (p := ((k : Nat) : Int) = (i : Int) ∧ i < 90) (by omega), Bool.or_false]
      · exact has_setOf p i hi k
/-- The numbers below k at which p holds. -/
def trues (p : Nat → Bool) (k : Nat) : List Int := ((List.range k).filter p).map fun i : Nat => (i : Int)
theorem sqs_setOf (p : Nat → Bool) : (setOf p 90).sqs.map (fun i => (i.val : Int)) = trues p 90 := by
  have h : (setOf p 90).sqs.map Fin.val = (List.range 90).filter p := by
    rw [S.sqs_val]
    apply List.filter_congr
    intro i hi
    have hi' := List.mem_range.1 hi
    rw [has_setOf p i hi' 90, decide_eq_true hi', Bool.true_and]
  rw [trues, ← h, List.map_map]
  rfl
/-- A call's answer is a slice of the numbers l. -/
def GivesL (w : World) (l : List Int) (e : Ending) (w' : World) : Prop := ∃ A c, e = .returned (.slice A l.length c) ∧ Rd w' A (l.map iv) ∧ Below w.heap.size w w'
theorem list_setOf (p : Nat → Bool) (w : World) (hT : Tab w) : Calls Tryz.prog 122 #[.agg #[.int .u64 (setOf p 90).lo, .int .u64 (setOf p 90).hi]] w (GivesL w (trues p 90)) :=
  (list_any (setOf p 90) w hT).mono fun _ _ ⟨A, c, he, hr, hb⟩ => by
    have hl : (trues p 90).length = (setOf p 90).sqs.length := by rw [← sqs_setOf, List.length_map]
    refine ⟨A, c, by rw [hl]; exact he, ?_, hb⟩
    rw [← sqs_setOf, List.map_map]
    exact hr

/-- A piece of a side? -/
def ofSide (x : Nat) (side : Int) : Bool := (x != 46) && (sideN x == side)
set_option maxHeartbeats 1000000 in
theorem pieces1_any (x : Nat) (side : Int) (g : Nat) (w : World) (hg : w.cell? ⟨g, 0, none⟩ = some (.int .i64 side)) :
    Calls Tryz.prog 110 #[.int .u8 (x : Int), .pointer (some ⟨g, 0, none⟩)] w fun e w' => e = .returned (.bool (ofSide x side)) ∧ Below w.heap.size w w' := by
  by_cases h : x = 46
  · have e0 : ((x : Int) != 46) = false := by subst h; rfl
    have K : Hid (ofSide x side = false) := by show _ = _; simp [ofSide, h]
    clear h
    go_enter Tryz.func110, Tryz.ntmps110
    go_wp2_with fail
    go_quiet (fail)
    go_wp2
    go_ret
    exact ⟨by rw [K.out]; rfl, (by repeat (first | exact Below.refl _ _ | (refine Below.setCell ?_ (by first | omega | (simp; done) | (simp; omega) | (simp at *; omega)) _) | (refine Below.alloc ?_ (by first | omega | (simp; done) | (simp; omega) | (simp at *; omega)) _) | refine Below.drew ?_ | (refine below_drewN ?_ _) | (refine Below.trans ?_ (Below.mono (by assumption) (by first | omega | (simp; done) | (simp; omega) | (simp at *; omega))))))⟩
  · have e0 : ((x : Int) != 46) = true := by rw [bne_iff_ne]; omega
    have K : Hid (ofSide x side = (sideN x == side)) := by show _ = _; simp [ofSide, h]
    have hside : ∀ W : World, Calls Tryz.prog 94 #[.int .u8 (x : Int)] W fun e w' => e = .returned (.int .i64 (sideN x)) ∧ w' = W := fun W => (side_any x W).mono fun _ _ ⟨a, b⟩ => ⟨a, b.symm⟩
    have Hs := Lib.hid hside
    clear h hside
    go_enter Tryz.func110, Tryz.ntmps110
    go_wp2_with fail
    go_quiet ((go_at_call 94; exact Calls.quiet_of_same (Hs.out _)))
    go_wp2
    go_ret
    exact ⟨by rw [K.out]; rfl, (by repeat (first | exact Below.refl _ _ | (refine Below.setCell ?_ (by first | omega | (simp; done) | (simp; omega) | (simp at *; omega)) _) | (refine Below.alloc ?_ (by first | omega | (simp; done) | (simp; omega) | (simp at *; omega)) _) | refine Below.drew ?_ | (refine below_drewN ?_ _) | (refine Below.trans ?_ (Below.mono (by assumption) (by first | omega | (simp; done) | (simp; omega) | (simp at *; omega))))))⟩

/-- The squares on which a byte stands. -/
def findL (s : ByteArray) (c : Nat) : List Int := if isB s then trues (fun k => bAt s k == c) 90 else []
/-- The squares on which a piece of a side stands. -/
def piecesL (s : ByteArray) (side : Int) : List Int := if isB s then trues (fun k => ofSide (bAt s k) side) 90 else []
theorem GivesL.back {w w0 : World} {l : List Int} {e : Ending} {w' : World} (h : GivesL w0 l e w') (hb : Below w.heap.size w w0) : GivesL w l e w' := by
  obtain ⟨A, c, he, hr, hb1⟩ := h
  exact ⟨A, c, he, hr, hb.trans (hb1.mono hb.size)⟩
set_option maxRecDepth 100000 in
set_option maxHeartbeats 2000000 in
theorem where_pieces (s : ByteArray) (side : Int) (g : Nat) (w : World) (hT : Tab w) (bC : Blk w g 3 #[.int .i64 side]) :
    Calls Tryz.prog 109 #[.string s, .func (.func 110) #[] #[.pointer (some ⟨g, 0, none⟩)]] w (GivesL w (piecesL s side)) := by
  unfold piecesL
  cases hb : isB s
  · have B := Lib.hid hb
    rw [if_neg (by simp)]
    clear hb
    go_enter Tryz.func109, Tryz.ntmps109
    go_wp2_with fail
    refine (is_any _ _).mono ?_
    rintro e w' ⟨rfl, rfl⟩
    rw [B.out]
    go_wp2
    go_ret
    exact ⟨none, 0, rfl, fun j u hu => by simp at hu, Below.refl _ _⟩
  · have hs := isB_size hb
    have hs1 : 90 ≤ s.size := by omega
    have B := Lib.hid hb
    rw [if_pos rfl]
    clear hb hs
    go_enter Tryz.func109, Tryz.ntmps109
    go_wp2_with fail
    refine (is_any _ _).mono ?_
    rintro e w' ⟨rfl, rfl⟩
    rw [B.out]
    go_wp2
    obtain ⟨W0, hW0⟩ : ∃ W0, w.alloc (.cells #[.int .u64 0, .int .u64 0] 99) = W0 := ⟨_, rfl⟩
    have hb0 : Below w.heap.size w W0 := by rw [← hW0]; exact (by repeat (first | exact Below.refl _ _ | (refine Below.setCell ?_ (by first | omega | (simp; done) | (simp; omega) | (simp at *; omega)) _) | (refine Below.alloc ?_ (by first | omega | (simp; done) | (simp; omega) | (simp at *; omega)) _) | refine Below.drew ?_ | (refine below_drewN ?_ _) | (refine Below.trans ?_ (Below.mono (by assumption) (by first | omega | (simp; done) | (simp; omega) | (simp at *; omega))))))
    have bT : Blk W0 w.heap.size 99 (svc (setOf (fun k => ofSide (bAt s k) side) 0)) := by rw [← hW0]; exact Blk.new _ _ _ rfl
    have bC0 : Blk W0 g 3 #[.int .i64 side] := bC.next hb0
    have hT0 := hT.next hb0
    have hT0g := hT.lt
    have hgl := bC.lt
    rw [hW0]
    clear hW0 bC hT
    go_loopw [6, 10] (fun _ i wr => ∃ k : Nat, k ≤ 90 ∧ i = .int .i64 k ∧ Blk wr w.heap.size 99 (svc (setOf (fun k => ofSide (bAt s k) side) k)) ∧ Blk wr g 3 #[.int .i64 side] ∧ Tab wr ∧ Below w.heap.size w wr) (fun _ i _ => 90 - (intOf i).toNat)
    case atStart => exact ⟨0, by omega, rfl, bT, bC0, hT0, hb0⟩
    case round =>
      obtain ⟨k, hk, rfl, bT, bC, hT, hB⟩ := hrel
      have t0 := bT.cell 0
      have t1 := bT.cell 1
      have cg := bC.cell 0
      simp only [List.getElem?_toArray, List.getElem?_cons_zero, List.getElem?_cons_succ] at t0 t1 cg
      by_cases hlt : k < 90
      · have hks : k < s.size := by omega
        have hbk := Lib.hid (bAt_eq s k hks)
        have hst := setOf_succ (fun k => ofSide (bAt s k) side) k
        go_wp2_with fail
        rw [hbk.out]
        refine (pieces1_any (bAt s k) side g _ cg).mono ?_
        rintro e w1 ⟨rfl, hb1⟩
        have bT1 := bT.next hb1
        have bC1 := bC.next hb1
        have hT1 := hT.next hb1
        have hB1 := hB.trans (hb1.mono hB.size)
        clear t0 t1 cg
        have t0 := bT1.cell 0
        have t1 := bT1.cell 1
        simp only [List.getElem?_toArray, List.getElem?_cons_zero, List.getElem?_cons_succ] at t0 t1
        cases hp : ofSide (bAt s k) side
        · rw [hp, if_neg (by simp)] at hst
          have Hst := Lib.hid hst
          clear hst hp
          go_wp2_with fail
          go_roundw
          case rel => exact ⟨k + 1, by omega, by go_num, by rw [Hst.out]; exact bT1, bC1, hT1, hB1⟩
          case measure => simp [intOf]; omega
        · rw [hp, if_pos rfl] at hst
          have Hst := Lib.hid hst
          clear hst hp
          go_wp2_with fail
          refine (with_any (setOf (fun k => ofSide (bAt s k) side) k) k _).mono ?_
          rintro e w2 ⟨rfl, hb2⟩
          have bT2 := bT1.next hb2
          have q0 := bT2.cell 0
          have q1 := bT2.cell 1
          have f0 := bT2.frozen 0
          have f1 := bT2.frozen 1
          simp only [List.getElem?_toArray, List.getElem?_cons_zero, List.getElem?_cons_succ] at q0 q1
          clear t0 t1
          go_wp2
          go_roundw
          case rel =>
            have hgw : g ≠ w.heap.size := by omega
            exact ⟨k + 1, by omega, by go_num, by rw [Hst.out]; exact blk_two bT2 _ _, ((bC1.next hb2).far hgw _).far hgw _, (hT1.next hb2).below (((Below.refl w.heap.size w2).setCell (p := ⟨w.heap.size, 0, none⟩) (Nat.le_refl _) _).setCell (p := ⟨w.heap.size, 1, none⟩) (Nat.le_refl _) _) (Nat.lt_of_lt_of_le hT0g (Nat.le_refl _)), ((hB1.trans (hb2.mono hB1.size)).setCell (p := ⟨w.heap.size, 0, none⟩) (Nat.le_refl _) _).setCell (p := ⟨w.heap.size, 1, none⟩) (Nat.le_refl _) _⟩
          case measure => simp [intOf]; omega
      · obtain rfl : k = 90 := by omega
        go_wp2_with fail
        refine (list_setOf _ _ hT).mono ?_
        rintro e w1 ⟨A, c1, rfl, hr, hb1⟩
        go_wp2
        go_ret
        exact ⟨A, c1, rfl, hr, hB.trans (hb1.mono hB.size)⟩
set_option maxHeartbeats 1000000 in
theorem pieces_any (s : ByteArray) (side : Int) (w : World) (hT : Tab w) : Calls Tryz.prog 82 #[.string s, .int .i64 side] w (GivesL w (piecesL s side)) := by
  have hb0 : Below w.heap.size w (w.alloc (.cells #[.int .i64 side] 3)) := (by repeat (first | exact Below.refl _ _ | (refine Below.setCell ?_ (by first | omega | (simp; done) | (simp; omega) | (simp at *; omega)) _) | (refine Below.alloc ?_ (by first | omega | (simp; done) | (simp; omega) | (simp at *; omega)) _) | refine Below.drew ?_ | (refine below_drewN ?_ _) | (refine Below.trans ?_ (Below.mono (by assumption) (by first | omega | (simp; done) | (simp; omega) | (simp at *; omega))))))
  have bC : Blk (w.alloc (.cells #[.int .i64 side] 3)) w.heap.size 3 #[.int .i64 side] := Blk.new _ _ _ rfl
  have hw := where_pieces s side w.heap.size (w.alloc (.cells #[.int .i64 side] 3)) (hT.next hb0) bC
  have Hw := Lib.hid (hw.mono fun e w' (k : GivesL _ _ e w') => (k.back hb0 : GivesL w (piecesL s side) e w'))
  clear hw hb0 bC
  go_enter Tryz.func82, Tryz.ntmps82
  go_wp2_with fail
  refine Hw.out.mono ?_
  rintro e w1 ⟨A, k, rfl, hr, hb⟩
  go_wp2
  go_ret
  exact ⟨A, k, rfl, hr, hb⟩

/-- A board from the other side: its first k bytes. -/
def turnL (s : ByteArray) (k : Nat) : List UInt8 := (List.range k).map fun i => UInt8.ofNat (swapN (bAt s (89 - i)))
/-- What Turn answers. -/
def turnB (s : ByteArray) : ByteArray := if isB s then ⟨(turnL s 90).toArray⟩ else ByteArray.empty
theorem swapN_lt (c : Nat) (h : c < 256) : swapN c < 256 := by
  unfold swapN
  split
  · rename_i h1
    simp only [isRed, List.contains_iff_mem, List.mem_cons, List.not_mem_nil, or_false] at h1
    omega
  · split <;> omega
end Go.Proofs.YtbfkkedcjodceaaGreatDoor
