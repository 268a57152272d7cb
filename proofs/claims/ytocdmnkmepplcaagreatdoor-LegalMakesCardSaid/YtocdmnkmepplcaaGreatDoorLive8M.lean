/- Merged: Live8 Live8B. -/
import Derived.Test.YtocdmnkmepplcaaGreatDoorLegalM
import Derived.Test.YtocdmnkmepplcaaGreatDoorFenN
import Derived.Test.YtocdmnkmepplcaaGreatDoorLive3

namespace Go.Proofs.YtocdmnkmepplcaaGreatDoor
open Go.RowKit Go.Shelf
open M (S)

def mateT : List UInt8 := [51, 107, 53, 47, 57, 47, 57, 47, 57, 47, 57, 47, 57, 47, 57, 47, 57, 47, 51, 114, 53, 47, 114, 51, 75, 52, 32, 119]
def staleT : List UInt8 := [53, 107, 51, 47, 57, 47, 57, 47, 57, 47, 57, 47, 57, 47, 57, 47, 57, 47, 51, 114, 53, 47, 52, 75, 52, 32, 119]
def mateS : ByteArray := ⟨#[114, 46, 46, 46, 75, 46, 46, 46, 46, 46, 46, 46, 114, 46, 46, 46, 46, 46, 46, 46, 46, 46, 46, 46, 46, 46, 46, 46, 46, 46, 46, 46, 46, 46, 46, 46, 46, 46, 46, 46, 46, 46, 46, 46, 46, 46, 46, 46, 46, 46, 46, 46, 46, 46, 46, 46, 46, 46, 46, 46, 46, 46, 46, 46, 46, 46, 46, 46, 46, 46, 46, 46, 46, 46, 46, 46, 46, 46, 46, 46, 46, 46, 46, 46, 107, 46, 46, 46, 46, 46]⟩
def staleS : ByteArray := ⟨#[46, 46, 46, 46, 75, 46, 46, 46, 46, 46, 46, 46, 114, 46, 46, 46, 46, 46, 46, 46, 46, 46, 46, 46, 46, 46, 46, 46, 46, 46, 46, 46, 46, 46, 46, 46, 46, 46, 46, 46, 46, 46, 46, 46, 46, 46, 46, 46, 46, 46, 46, 46, 46, 46, 46, 46, 46, 46, 46, 46, 46, 46, 46, 46, 46, 46, 46, 46, 46, 46, 46, 46, 46, 46, 46, 46, 46, 46, 46, 46, 46, 46, 46, 46, 46, 46, 107, 46, 46, 46]⟩
theorem mateF : F.formL mateT = some ⟨mateS.data.toList, 0, 0, 1⟩ := by kernel_rfl
theorem staleF : F.formL staleT = some ⟨staleS.data.toList, 0, 0, 1⟩ := by kernel_rfl
theorem mateC : (checkN (bs mateS.data.toList) 0 0 1 : Int) = 0 := by rw [bs_back]; decide +kernel
theorem staleC : (checkN (bs staleS.data.toList) 0 0 1 : Int) = 0 := by rw [bs_back]; decide +kernel
structure Live8 (s m t : ByteArray) : Prop where
  n : (legalV s 0 0 1).length = 44
  c : (legalC s 0 0 1).length = 2
  i : isV s 0 0 1 0 9 = true
  j : isV s 0 0 1 0 1 = false
  e : endV s 0 0 1 = 0
  f : endV m 0 0 1 = 1
  g : endV t 0 0 1 = 2
  l : leavesI s 0 0 1 19 82 = true
  w : wellN s 0 0 1 = 0
  z : leavesI s 0 0 1 0 0 = false
def sm0 : List (Nat × Nat) := [(0, 9), (0, 18), (1, 18), (1, 20)]
theorem sl0 : sm0.all (legalB startS 0) = true := by decide +kernel
def sm1 : List (Nat × Nat) := [(2, 18), (2, 22), (3, 13), (4, 13)]
theorem sl1 : sm1.all (legalB startS 0) = true := by decide +kernel
def sm2 : List (Nat × Nat) := [(5, 13), (6, 22), (6, 26), (7, 24)]
theorem sl2 : sm2.all (legalB startS 0) = true := by decide +kernel
def sm3 : List (Nat × Nat) := [(7, 26), (8, 17), (8, 26), (19, 10)]
theorem sl3 : sm3.all (legalB startS 0) = true := by decide +kernel
def sm4 : List (Nat × Nat) := [(19, 18), (19, 20), (19, 21), (19, 22)]
theorem sl4 : sm4.all (legalB startS 0) = true := by decide +kernel
def sm5 : List (Nat × Nat) := [(19, 23), (19, 24), (19, 28), (19, 37)]
theorem sl5 : sm5.all (legalB startS 0) = true := by decide +kernel
def sm6 : List (Nat × Nat) := [(19, 46), (19, 55), (19, 82), (25, 16)]
theorem sl6 : sm6.all (legalB startS 0) = true := by decide +kernel
def sm7 : List (Nat × Nat) := [(25, 20), (25, 21), (25, 22), (25, 23)]
theorem sl7 : sm7.all (legalB startS 0) = true := by decide +kernel
def sm8 : List (Nat × Nat) := [(25, 24), (25, 26), (25, 34), (25, 43)]
theorem sl8 : sm8.all (legalB startS 0) = true := by decide +kernel
def sm9 : List (Nat × Nat) := [(25, 52), (25, 61), (25, 88), (27, 36)]
theorem sl9 : sm9.all (legalB startS 0) = true := by decide +kernel
def sm10 : List (Nat × Nat) := [(29, 38), (31, 40), (33, 42), (35, 44)]
theorem sl10 : sm10.all (legalB startS 0) = true := by decide +kernel
def startM : List (Nat × Nat) := sm0 ++ sm1 ++ sm2 ++ sm3 ++ sm4 ++ sm5 ++ sm6 ++ sm7 ++ sm8 ++ sm9 ++ sm10
theorem start_moves : movesN startS 0 = startM := by decide +kernel
theorem start_all : startM.all (legalB startS 0) = true := by simp only [startM, List.all_append, sl0, sl1, sl2, sl3, sl4, sl5, sl6, sl7, sl8, sl9, sl10, Bool.and_self]
theorem start_well : wellN startS 0 0 1 = 0 := by decide +kernel
theorem start_legal : legalV startS 0 0 1 = startM := by
  rw [legal_same, if_pos start_well, legalN, start_moves, List.filter_eq_self]
  exact List.all_eq_true.1 start_all
theorem start_end : endV startS 0 0 1 = 0 := by
  unfold endV
  rw [if_pos start_well, has_legal _ _ _ _ start_well, start_legal]
  rfl
theorem live8_set : Live8 startS mateS staleS where
  n := by rw [start_legal]; rfl
  c := by rw [legalC, start_legal]; decide +kernel
  i := by decide +kernel
  j := by decide +kernel
  e := start_end
  f := by decide +kernel
  g := by decide +kernel
  l := by decide +kernel
  w := start_well
  z := by decide +kernel
theorem live8_make : makeV startS 0 0 1 19 82 = .tuple #[.agg #[.string (movedS startS 19 82 67), .int .i64 1, .int .i64 0, .int .i64 1], .int .u8 110, .int .i64 0] := by
  unfold makeV
  rw [if_pos live8_set.w, if_pos live8_set.l]
  have h : isM startS 0 19 82 = true ∧ kindN (bAt startS (82 : Int).toNat) ≠ 75 := by constructor <;> decide +kernel
  rw [apply_good_value (well_check live8_set.w) h]
  have e1 : bAt startS (19 : Int).toNat = 67 := by decide +kernel
  have e2 : clockA startS 0 (82 : Int).toNat = 0 := by decide +kernel
  have e3 : fullA 0 1 = 1 := by decide +kernel
  have e4 : takenN startS (82 : Int).toNat = 110 := by decide +kernel
  rw [e1, e2, e3, e4]
  rfl
theorem live8_none : makeV startS 0 0 1 0 0 = noneV 7 := by
  unfold makeV
  rw [if_pos live8_set.w, live8_set.z]
  rfl
end Go.Proofs.YtocdmnkmepplcaaGreatDoor

namespace Go.Proofs.YtocdmnkmepplcaaGreatDoor
open Go.RowKit Go.Shelf
open M (S)

structure Live8C (t1 t2 s m t q : ByteArray) : Prop where
  p1 : ∀ w, Calls Tryz.prog 35 #[.string t1] w (Gives w (.tuple #[.agg #[.string m, .int .i64 0, .int .i64 0, .int .i64 1], .int .i64 0]))
  p2 : ∀ w, Calls Tryz.prog 35 #[.string t2] w (Gives w (.tuple #[.agg #[.string t, .int .i64 0, .int .i64 0, .int .i64 1], .int .i64 0]))
  a : makeV s 0 0 1 19 82 = .tuple #[.agg #[.string q, .int .i64 1, .int .i64 0, .int .i64 1], .int .u8 110, .int .i64 0]
  b : makeV s 0 0 1 0 0 = .tuple #[.agg #[.string ⟨#[]⟩, .int .i64 0, .int .i64 0, .int .i64 0], .int .u8 0, .int .i64 7]
  l : Live8 s m t
theorem rparse_is8 (t : List UInt8) (v : Value) (w : World) (ht : t.length ≤ 1000) (h : parseV t = v) : Calls Tryz.prog 35 #[.string (bs t)] w (Gives w v) := by subst h; exact rparse_any t w ht
theorem live8_all : Live8C (bs mateT) (bs staleT) startS mateS staleS (movedS startS 19 82 67) where
  p1 w := rparse_is8 mateT _ w (by decide) (by rw [parse_yes mateF mateC, posVP]; simp only [bs_back])
  p2 w := rparse_is8 staleT _ w (by decide) (by rw [parse_yes staleF staleC, posVP]; simp only [bs_back])
  a := live8_make
  b := live8_none
  l := live8_set
set_option maxRecDepth 100000 in
set_option maxHeartbeats 4000000 in
theorem live8_any (w : World) (hT : Tab w) : Calls Tryz.prog 8 #[] w (Gives w (.bool true)) := by
  unfold Gives
  have hL := live8_all
  go_enter Tryz.func8, Tryz.ntmps8
  go_wp2_with fail
  have hlit : (⟨#[82, 78, 66, 65, 75, 65, 66, 78, 82, 46, 46, 46, 46, 46, 46, 46, 46, 46, 46, 67, 46, 46, 46, 46, 46, 67, 46, 80, 46, 80, 46, 80, 46, 80, 46, 80, 46, 46, 46, 46, 46, 46, 46, 46, 46, 46, 46, 46, 46, 46, 46, 46, 46, 46, 112, 46, 112, 46, 112, 46, 112, 46, 112, 46, 99, 46, 46, 46, 46, 46, 99, 46, 46, 46, 46, 46, 46, 46, 46, 46, 46, 114, 110, 98, 97, 107, 97, 98, 110, 114]⟩ : ByteArray) = startS := rfl
  simp only [hlit]
  clear hlit
  -- WALK
  rw [show (⟨#[51, 107, 53, 47, 57, 47, 57, 47, 57, 47, 57, 47, 57, 47, 57, 47, 57, 47, 51, 114, 53, 47, 114, 51, 75, 52, 32, 119]⟩ : ByteArray) = bs mateT from rfl]
  generalize startS = st at hL ⊢
  generalize mateS = mt at hL
  generalize staleS = se at hL
  generalize movedS st 19 82 67 = sq at hL
  generalize bs mateT = t1 at hL ⊢
  have HL := Lib.hid hL
  clear hL
  have hB := Below.refl w.heap.size w
  obtain ⟨V0, hV0⟩ : ∃ x, w.alloc (.cells #[.string st, .int .i64 0, .int .i64 0, .int .i64 1] 23) = x := ⟨_, rfl⟩
  replace hB : Below w.heap.size w V0 := by rw [← hV0]; exact (by repeat (first | exact Below.refl _ _ | (refine Below.setCell ?_ (by first | omega | (simp; done) | (simp; omega) | (simp at *; omega)) _) | (refine Below.alloc ?_ (by first | omega | (simp; done) | (simp; omega) | (simp at *; omega)) _) | refine Below.drew ?_ | (refine below_drewN ?_ _) | (refine Below.trans ?_ (Below.mono (by assumption) (by first | omega | (simp; done) | (simp; omega) | (simp at *; omega))))))
  have bp : Blk V0 w.heap.size 23 #[.string st, .int .i64 0, .int .i64 0, .int .i64 1] := by rw [← hV0]; exact Blk.new _ _ _ rfl
  replace hT := hT.next hB
  rw [hV0]
  clear hV0
  refine (HL.out.p1 _).mono ?_
  rintro e w1 ⟨rfl, hb⟩
  replace hT := hT.next hb
  replace bp := bp.next hb
  replace hB := hB.trans (hb.mono hB.size)
  clear hb
  obtain ⟨V2, hV2⟩ : ∃ x, w1.alloc (.cells #[.string mt, .int .i64 0, .int .i64 0, .int .i64 1] 23) = x := ⟨_, rfl⟩
  have hA : Below w1.heap.size w1 V2 := by rw [← hV2]; exact (by repeat (first | exact Below.refl _ _ | (refine Below.setCell ?_ (by first | omega | (simp; done) | (simp; omega) | (simp at *; omega)) _) | (refine Below.alloc ?_ (by first | omega | (simp; done) | (simp; omega) | (simp at *; omega)) _) | refine Below.drew ?_ | (refine below_drewN ?_ _) | (refine Below.trans ?_ (Below.mono (by assumption) (by first | omega | (simp; done) | (simp; omega) | (simp at *; omega))))))
  have bX : Blk V2 w1.heap.size 23 #[.string mt, .int .i64 0, .int .i64 0, .int .i64 1] := by rw [← hV2]; exact Blk.new _ _ _ rfl
  replace hT := hT.next hA
  replace bp := bp.next hA
  replace hB := hB.trans (hA.mono hB.size)
  clear hA
  have bm := bX
  clear bX
  go_wp2_with fail
  clear hV2
  rw [show (⟨#[53, 107, 51, 47, 57, 47, 57, 47, 57, 47, 57, 47, 57, 47, 57, 47, 57, 47, 51, 114, 53, 47, 52, 75, 52, 32, 119]⟩ : ByteArray) = bs staleT from rfl]
  generalize bs staleT = t2 at HL ⊢
  refine (HL.out.p2 _).mono ?_
  rintro e w3 ⟨rfl, hb⟩
  replace hT := hT.next hb
  replace bp := bp.next hb
  replace bm := bm.next hb
  replace hB := hB.trans (hb.mono hB.size)
  clear hb
  obtain ⟨V4, hV4⟩ : ∃ x, w3.alloc (.cells #[.string se, .int .i64 0, .int .i64 0, .int .i64 1] 23) = x := ⟨_, rfl⟩
  have hA : Below w3.heap.size w3 V4 := by rw [← hV4]; exact (by repeat (first | exact Below.refl _ _ | (refine Below.setCell ?_ (by first | omega | (simp; done) | (simp; omega) | (simp at *; omega)) _) | (refine Below.alloc ?_ (by first | omega | (simp; done) | (simp; omega) | (simp at *; omega)) _) | refine Below.drew ?_ | (refine below_drewN ?_ _) | (refine Below.trans ?_ (Below.mono (by assumption) (by first | omega | (simp; done) | (simp; omega) | (simp at *; omega))))))
  have bX : Blk V4 w3.heap.size 23 #[.string se, .int .i64 0, .int .i64 0, .int .i64 1] := by rw [← hV4]; exact Blk.new _ _ _ rfl
  replace hT := hT.next hA
  replace bp := bp.next hA
  replace bm := bm.next hA
  replace hB := hB.trans (hA.mono hB.size)
  clear hA
  have bn := bX
  clear bX
  obtain ⟨p0, p1, p2, p3⟩ := ppos_cells bp
  go_wp2_with fail
  clear hV4
  refine (make_is st 0 0 1 19 82 _ _ hT HL.out.a).mono ?_
  clear p0 p1 p2 p3
  rintro e w5 ⟨rfl, hb⟩
  replace hT := hT.next hb
  replace bp := bp.next hb
  replace bm := bm.next hb
  replace bn := bn.next hb
  replace hB := hB.trans (hb.mono hB.size)
  clear hb
  obtain ⟨V6, hV6⟩ : ∃ x, w5.alloc (.cells #[.string sq, .int .i64 1, .int .i64 0, .int .i64 1] 23) = x := ⟨_, rfl⟩
  have hA : Below w5.heap.size w5 V6 := by rw [← hV6]; exact (by repeat (first | exact Below.refl _ _ | (refine Below.setCell ?_ (by first | omega | (simp; done) | (simp; omega) | (simp at *; omega)) _) | (refine Below.alloc ?_ (by first | omega | (simp; done) | (simp; omega) | (simp at *; omega)) _) | refine Below.drew ?_ | (refine below_drewN ?_ _) | (refine Below.trans ?_ (Below.mono (by assumption) (by first | omega | (simp; done) | (simp; omega) | (simp at *; omega))))))
  have bX : Blk V6 w5.heap.size 23 #[.string sq, .int .i64 1, .int .i64 0, .int .i64 1] := by rw [← hV6]; exact Blk.new _ _ _ rfl
  replace hT := hT.next hA
  replace bp := bp.next hA
  replace bm := bm.next hA
  replace bn := bn.next hA
  replace hB := hB.trans (hA.mono hB.size)
  clear hA
  have bq := bX
  clear bX
  obtain ⟨p0, p1, p2, p3⟩ := ppos_cells bp
  go_wp2_with fail
  clear hV6
  refine (make_is st 0 0 1 0 0 _ _ hT HL.out.b).mono ?_
  clear p0 p1 p2 p3
  rintro e w7 ⟨rfl, hb⟩
  replace hT := hT.next hb
  replace bp := bp.next hb
  replace bm := bm.next hb
  replace bn := bn.next hb
  replace bq := bq.next hb
  replace hB := hB.trans (hb.mono hB.size)
  clear hb
  obtain ⟨U, hU⟩ : ∃ x, w7.alloc (.cells #[.string ⟨#[]⟩, .int .i64 0, .int .i64 0, .int .i64 0] 23) = x := ⟨_, rfl⟩
  have hA : Below w7.heap.size w7 U := by rw [← hU]; exact (by repeat (first | exact Below.refl _ _ | (refine Below.setCell ?_ (by first | omega | (simp; done) | (simp; omega) | (simp at *; omega)) _) | (refine Below.alloc ?_ (by first | omega | (simp; done) | (simp; omega) | (simp at *; omega)) _) | refine Below.drew ?_ | (refine below_drewN ?_ _) | (refine Below.trans ?_ (Below.mono (by assumption) (by first | omega | (simp; done) | (simp; omega) | (simp at *; omega))))))
  have bX : Blk U w7.heap.size 23 #[.string ⟨#[]⟩, .int .i64 0, .int .i64 0, .int .i64 0] := by rw [← hU]; exact Blk.new _ _ _ rfl
  obtain ⟨z0, z1, z2, z3⟩ := ppos_cells bX
  obtain ⟨f0, f1, f2, f3⟩ := ppos_frozen bX
  obtain ⟨X, hX⟩ : ∃ x, (((U.setCell ⟨w7.heap.size, 0, none⟩ (.string ⟨#[]⟩)).setCell ⟨w7.heap.size, 1, none⟩ (.int .i64 0)).setCell ⟨w7.heap.size, 2, none⟩ (.int .i64 0)).setCell ⟨w7.heap.size, 3, none⟩ (.int .i64 0) = x := ⟨_, rfl⟩
  replace hA : Below w7.heap.size w7 X := by rw [← hX]; exact (((hA.setCell (p := ⟨w7.heap.size, 0, none⟩) (Nat.le_refl _) _).setCell (p := ⟨w7.heap.size, 1, none⟩) (Nat.le_refl _) _).setCell (p := ⟨w7.heap.size, 2, none⟩) (Nat.le_refl _) _).setCell (p := ⟨w7.heap.size, 3, none⟩) (Nat.le_refl _) _
  replace hT := hT.next hA
  replace bp := bp.next hA
  replace bm := bm.next hA
  replace bn := bn.next hA
  replace bq := bq.next hA
  replace hB := hB.trans (hA.mono hB.size)
  clear hA bX
  obtain ⟨p0, p1, p2, p3⟩ := ppos_cells bp
  go_wp2_with fail
  clear hU hX z0 z1 z2 z3 f0 f1 f2 f3
  refine (lmoves_own st 0 0 1 _ 44 _ hT rfl HL.out.l.n).mono ?_
  clear p0 p1 p2 p3
  rintro e w8 ⟨v, rfl, ho, hb⟩
  obtain ⟨A1, k1, rfl⟩ := owns_slice ho
  clear ho
  replace hT := hT.next hb
  replace bp := bp.next hb
  replace bm := bm.next hb
  replace bn := bn.next hb
  replace bq := bq.next hb
  replace hB := hB.trans (hb.mono hB.size)
  clear hb
  obtain ⟨p0, p1, p2, p3⟩ := ppos_cells bp
  go_wp2_with fail
  refine (lcaps_own st 0 0 1 _ 2 _ hT rfl HL.out.l.c).mono ?_
  clear p0 p1 p2 p3
  rintro e w9 ⟨v, rfl, ho, hb⟩
  obtain ⟨A1, k1, rfl⟩ := owns_slice ho
  clear ho
  replace hT := hT.next hb
  replace bp := bp.next hb
  replace bm := bm.next hb
  replace bn := bn.next hb
  replace bq := bq.next hb
  replace hB := hB.trans (hb.mono hB.size)
  clear hb
  obtain ⟨p0, p1, p2, p3⟩ := ppos_cells bp
  go_wp2_with fail
  refine (lis_is st 0 0 1 0 9 true _ hT HL.out.l.i).mono ?_
  clear p0 p1 p2 p3
  rintro e w10 ⟨rfl, hb⟩
  replace hT := hT.next hb
  replace bp := bp.next hb
  replace bm := bm.next hb
  replace bn := bn.next hb
  replace bq := bq.next hb
  replace hB := hB.trans (hb.mono hB.size)
  clear hb
  obtain ⟨p0, p1, p2, p3⟩ := ppos_cells bp
  go_wp2_with fail
  refine (lis_is st 0 0 1 0 1 false _ hT HL.out.l.j).mono ?_
  clear p0 p1 p2 p3
  rintro e w11 ⟨rfl, hb⟩
  replace hT := hT.next hb
  replace bp := bp.next hb
  replace bm := bm.next hb
  replace bn := bn.next hb
  replace bq := bq.next hb
  replace hB := hB.trans (hb.mono hB.size)
  clear hb
  obtain ⟨p0, p1, p2, p3⟩ := ppos_cells bp
  go_wp2_with fail
  refine (end_is st 0 0 1 0 _ hT HL.out.l.e).mono ?_
  clear p0 p1 p2 p3
  rintro e w12 ⟨rfl, hb⟩
  replace hT := hT.next hb
  replace bp := bp.next hb
  replace bm := bm.next hb
  replace bn := bn.next hb
  replace bq := bq.next hb
  replace hB := hB.trans (hb.mono hB.size)
  clear hb
  obtain ⟨m0, m1, m2, m3⟩ := ppos_cells bm
  go_wp2_with fail
  refine (end_is mt 0 0 1 1 _ hT HL.out.l.f).mono ?_
  clear m0 m1 m2 m3
  rintro e w13 ⟨rfl, hb⟩
  replace hT := hT.next hb
  replace bp := bp.next hb
  replace bm := bm.next hb
  replace bn := bn.next hb
  replace bq := bq.next hb
  replace hB := hB.trans (hb.mono hB.size)
  clear hb
  obtain ⟨n0, n1, n2, n3⟩ := ppos_cells bn
  go_wp2_with fail
  refine (end_is se 0 0 1 2 _ hT HL.out.l.g).mono ?_
  clear n0 n1 n2 n3
  rintro e w14 ⟨rfl, hb⟩
  replace hT := hT.next hb
  replace bp := bp.next hb
  replace bm := bm.next hb
  replace bn := bn.next hb
  replace bq := bq.next hb
  replace hB := hB.trans (hb.mono hB.size)
  clear hb
  obtain ⟨q0, q1, q2, q3⟩ := ppos_cells bq
  go_wp2
  go_ret
  exact ⟨rfl, hB⟩
end Go.Proofs.YtocdmnkmepplcaaGreatDoor
