/- The squares of a side's pieces, as a row in memory of the call's own. -/
import Derived.Test.YtbdgbihdhbjljaaGreatDoorBoardM
import Derived.Test.YtbdgbihdhbjljaaGreatDoorRowA
namespace Go.Proofs.YtbdgbihdhbjljaaGreatDoor
open Go.RowKit Go.Shelf
open M (S)

/-- A call's answer is a slice of the numbers l, in memory of its own. -/
def OwnL (w : World) (l : List Int) (e : Ending) (w' : World) : Prop := ∃ v, e = .returned v ∧ w'.ownsRow w.heap.size 3 1 v l.length (l.map iv) ∧ Below w.heap.size w w'
theorem OwnL.back {w w0 : World} {l : List Int} {e : Ending} {w' : World} (h : OwnL w0 l e w') (hb : Below w.heap.size w w0) : OwnL w l e w' := by
  obtain ⟨v, he, ho, hb1⟩ := h
  exact ⟨v, he, own_mono ho hb.size, hb.trans (hb1.mono hb.size)⟩
theorem list_own (p : Nat → Bool) (w : World) (hT : Tab w) : Calls Tryz.prog 198 #[.agg #[.int .u64 (setOf p 90).lo, .int .u64 (setOf p 90).hi]] w (OwnL w (trues p 90)) :=
  (callsIn_wide.1 (list_in (setOf p 90) w hT)).mono fun _ _ ⟨v, he, ho, hb⟩ => by
    have hl : (trues p 90).length = (setOf p 90).sqs.length := by rw [← sqs_setOf, List.length_map]
    refine ⟨v, he, ?_, hb⟩
    rw [hl, ← sqs_setOf, List.map_map]
    exact ho
set_option maxRecDepth 100000 in
set_option maxHeartbeats 2000000 in
theorem where_pieces_o (s : ByteArray) (side : Int) (g : Nat) (w : World) (hT : Tab w) (bC : Blk w g 3 #[.int .i64 side]) :
    Calls Tryz.prog 191 #[.string s, .func (.func 192) #[] #[.pointer (some ⟨g, 0, none⟩)]] w (OwnL w (piecesL s side)) := by
  unfold piecesL
  cases hb : isB s
  · have B := Lib.hid hb
    rw [if_neg (by simp)]
    clear hb
    go_enter Tryz.func191, Tryz.ntmps191
    go_wp2_with fail
    refine (is_any _ _).mono ?_
    rintro e w' ⟨rfl, rfl⟩
    rw [B.out]
    go_wp2
    go_ret
    exact ⟨_, rfl, by simpa using World.ownsRow_nil w w.heap.size 3 1, Below.refl _ _⟩
  · have hs := isB_size hb
    have hs1 : 90 ≤ s.size := by omega
    have B := Lib.hid hb
    rw [if_pos rfl]
    clear hb hs
    go_enter Tryz.func191, Tryz.ntmps191
    go_wp2_with fail
    refine (is_any _ _).mono ?_
    rintro e w' ⟨rfl, rfl⟩
    rw [B.out]
    go_wp2
    obtain ⟨W0, hW0⟩ : ∃ W0, w.alloc (.cells #[.int .u64 0, .int .u64 0] 155) = W0 := ⟨_, rfl⟩
    have hb0 : Below w.heap.size w W0 := by rw [← hW0]; exact (by repeat (first | exact Below.refl _ _ | (refine Below.setCell ?_ (by first | omega | (simp; done) | (simp; omega) | (simp at *; omega)) _) | (refine Below.alloc ?_ (by first | omega | (simp; done) | (simp; omega) | (simp at *; omega)) _) | refine Below.drew ?_ | (refine below_drewN ?_ _) | (refine Below.trans ?_ (Below.mono (by assumption) (by first | omega | (simp; done) | (simp; omega) | (simp at *; omega))))))
    have bT : Blk W0 w.heap.size 155 (svc (setOf (fun k => ofSide (bAt s k) side) 0)) := by rw [← hW0]; exact Blk.new _ _ _ rfl
    have bC0 : Blk W0 g 3 #[.int .i64 side] := bC.next hb0
    have hT0 := hT.next hb0
    have hT0g := hT.lt
    have hgl := bC.lt
    rw [hW0]
    clear hW0 bC hT
    go_loopw [6, 10] (fun _ i wr => ∃ k : Nat, k ≤ 90 ∧ i = .int .i64 k ∧ Blk wr w.heap.size 155 (svc (setOf (fun k => ofSide (bAt s k) side) k)) ∧ Blk wr g 3 #[.int .i64 side] ∧ Tab wr ∧ Below w.heap.size w wr) (fun _ i _ => 90 - (intOf i).toNat)
    case atStart => exact ⟨0, by omega, rfl, bT, bC0, hT0, hb0⟩
    case round =>
      obtain ⟨k, hk, rfl, bT, bC, hT, hB⟩ := hrel
      have t0 := bT.cell 0
      have t1 := bT.cell 1
      have cg := bC.cell 0
      simp only [List.getElem?_toArray, List.getElem?_cons_zero, List.getElem?_cons_succ] at t0 t1 cg
      by_cases hlt : k < 90
      · have hks : k < s.size := by omega
        have hbk := Lib.hid (bAt_eq s k hks)
        have hst := setOf_succ (fun k => ofSide (bAt s k) side) k
        go_wp2_with fail
        rw [hbk.out]
        refine (pieces1_any (bAt s k) side g _ cg).mono ?_
        rintro e w1 ⟨rfl, hb1⟩
        have bT1 := bT.next hb1
        have bC1 := bC.next hb1
        have hT1 := hT.next hb1
        have hB1 := hB.trans (hb1.mono hB.size)
        clear t0 t1 cg
        have t0 := bT1.cell 0
        have t1 := bT1.cell 1
        simp only [List.getElem?_toArray, List.getElem?_cons_zero, List.getElem?_cons_succ] at t0 t1
        cases hp : ofSide (bAt s k) side
        · rw [hp, if_neg (by simp)] at hst
          have Hst := Lib.hid hst
          clear hst hp
          go_wp2_with fail
          go_roundw
          case rel => exact ⟨k + 1, by omega, by go_num, by rw [Hst.out]; exact bT1, bC1, hT1, hB1⟩
          case measure => simp [intOf]; omega
        · rw [hp, if_pos rfl] at hst
          have Hst := Lib.hid hst
          clear hst hp
          go_wp2_with fail
          refine (with_any (setOf (fun k => ofSide (bAt s k) side) k) k _).mono ?_
          rintro e w2 ⟨rfl, hb2⟩
          have bT2 := bT1.next hb2
          have q0 := bT2.cell 0
          have q1 := bT2.cell 1
          have f0 := bT2.frozen 0
          have f1 := bT2.frozen 1
          simp only [List.getElem?_toArray, List.getElem?_cons_zero, List.getElem?_cons_succ] at q0 q1
          clear t0 t1
          go_wp2
          go_roundw
          case rel =>
            have hgw : g ≠ w.heap.size := by omega
            exact ⟨k + 1, by omega, by go_num, by rw [Hst.out]; exact blk_two bT2 _ _, ((bC1.next hb2).far hgw _).far hgw _, (hT1.next hb2).below (((Below.refl w.heap.size w2).setCell (p := ⟨w.heap.size, 0, none⟩) (Nat.le_refl _) _).setCell (p := ⟨w.heap.size, 1, none⟩) (Nat.le_refl _) _) (Nat.lt_of_lt_of_le hT0g (Nat.le_refl _)), ((hB1.trans (hb2.mono hB1.size)).setCell (p := ⟨w.heap.size, 0, none⟩) (Nat.le_refl _) _).setCell (p := ⟨w.heap.size, 1, none⟩) (Nat.le_refl _) _⟩
          case measure => simp [intOf]; omega
      · obtain rfl : k = 90 := by omega
        go_wp2_with fail
        refine (list_own _ _ hT).mono ?_
        rintro e w1 ⟨v, rfl, ho, hb1⟩
        go_wp2
        go_ret
        exact ⟨v, rfl, own_mono ho hB.size, hB.trans (hb1.mono hB.size)⟩
set_option maxHeartbeats 1000000 in
theorem pieces_own (s : ByteArray) (side : Int) (w : World) (hT : Tab w) : Calls Tryz.prog 150 #[.string s, .int .i64 side] w (OwnL w (piecesL s side)) := by
  have hb0 : Below w.heap.size w (w.alloc (.cells #[.int .i64 side] 3)) := (by repeat (first | exact Below.refl _ _ | (refine Below.setCell ?_ (by first | omega | (simp; done) | (simp; omega) | (simp at *; omega)) _) | (refine Below.alloc ?_ (by first | omega | (simp; done) | (simp; omega) | (simp at *; omega)) _) | refine Below.drew ?_ | (refine below_drewN ?_ _) | (refine Below.trans ?_ (Below.mono (by assumption) (by first | omega | (simp; done) | (simp; omega) | (simp at *; omega))))))
  have bC : Blk (w.alloc (.cells #[.int .i64 side] 3)) w.heap.size 3 #[.int .i64 side] := Blk.new _ _ _ rfl
  have hw := where_pieces_o s side w.heap.size (w.alloc (.cells #[.int .i64 side] 3)) (hT.next hb0) bC
  have Hw := Lib.hid (hw.mono fun e w' (k : OwnL _ _ e w') => (k.back hb0 : OwnL w (piecesL s side) e w'))
  clear hw hb0 bC
  go_enter Tryz.func150, Tryz.ntmps150
  go_wp2_with fail
  refine Hw.out.mono ?_
  rintro e w1 ⟨v, rfl, ho, hb⟩
  go_wp2
  go_ret
  exact ⟨v, rfl, ho, hb⟩
end Go.Proofs.YtbdgbihdhbjljaaGreatDoor
