/- The document's own examples of layer 1 hold. -/
import Derived.Test.YtdfjmchkpoobdaaDoorBitsB
import Derived.Test.YtdfjmchkpoobdaaDoorBitsF
namespace Go.Proofs.YtdfjmchkpoobdaaDoor
open Go.RowKit Go.Shelf
open M (S)

theorem rd_lit {w : World} {g : Nat} {t : TypeId} {xs : List Int} (h : Blk w g t (xs.map iv).toArray) : Rd w (some ⟨g, 0, none⟩) (xs.map iv) := fun j u hu => by
  refine ⟨_, rfl, ?_⟩
  rw [show (Addr.add ⟨g, 0, none⟩ j) = ⟨g, j, none⟩ by simp [Addr.add]; omega, h.cell j]
  simpa using hu

theorem below_made {w w' : World} {o : Obj} (hb : Below (w.alloc o).heap.size (w.alloc o) w') : Below w.heap.size w w' := ((Below.refl _ _).alloc (Nat.le_refl _) _).trans (hb.mono (by simp))

/-- A call's answer is the value v; what there was stays as it was. -/
def Gives (w : World) (v : Value) (e : Ending) (w' : World) : Prop := e = .returned v ∧ Below w.heap.size w w'
/-- A call's answer is a slice of n numbers, those of l. -/
def GivesList (w : World) (l : List Int) (n : Nat) (e : Ending) (w' : World) : Prop := ∃ A c, e = .returned (.slice A n c) ∧ Rd w' A (l.map iv) ∧ Below w.heap.size w w'

theorem list_is (s : S) (l : List Int) (n : Nat) (w : World) (hT : Tab w) (h : s.sqs.map (fun i => (i.val : Int)) = l) (hn : l.length = n) : Calls Tryd.prog 21 #[.agg #[.int .u64 s.lo, .int .u64 s.hi]] w (GivesList w l n) :=
  (list_any s w hT).mono fun _ _ ⟨A, c, he, hr, hb⟩ => by
    subst h
    rw [List.length_map] at hn
    subst hn
    exact ⟨A, c, he, by rw [List.map_map]; exact hr, hb⟩
theorem ints_true (A B : Option Addr) (xs : List Int) (n c d : Nat) (w : World) (hx : Rd w A (xs.map iv)) (hy : Rd w B (xs.map iv)) (hn : xs.length = n) (hm : n ≤ 1000000) :
    Calls Tryd.prog 20 #[.slice A n c, .slice B n d] w (Gives w (.bool true)) := by
  subst hn
  exact (ints_any A B xs xs c d w hx hy hm).mono fun _ _ ⟨he, hb⟩ => ⟨by simpa using he, hb⟩
theorem count_is (s : S) (k : Int) (w : World) (h : (s.count : Int) = k) : Calls Tryd.prog 22 #[.agg #[.int .u64 s.lo, .int .u64 s.hi]] w (Gives w (.int .i64 k)) := by
  subst h; exact count_any s w
theorem first_is (s : S) (k : Int) (w : World) (hT : Tab w) (h : first s.sqs = k) : Calls Tryd.prog 23 #[.agg #[.int .u64 s.lo, .int .u64 s.hi]] w (Gives w (.int .i64 k)) := by
  subst h; exact first_any s w hT
theorem last_is (s : S) (k : Int) (w : World) (hT : Tab w) (h : last s.sqs = k) : Calls Tryd.prog 24 #[.agg #[.int .u64 s.lo, .int .u64 s.hi]] w (Gives w (.int .i64 k)) := by
  subst h; exact last_any s w hT
theorem has_is (s : S) (n : Int) (b : Bool) (w : World) (h : s.hasI n = b) : Calls Tryd.prog 25 #[.agg #[.int .u64 s.lo, .int .u64 s.hi], .int .i64 n] w (Gives w (.bool b)) := by
  subst h; exact has_any s n w

/-- What the examples ask of the set of 0, 44, 45, 89, 90, -1. -/
structure Live (s : S) : Prop where
  lo : ((s.lo : Int) == 17592186044417) = true
  hi : ((s.hi : Int) == 17592186044417) = true
  sq : s.sqs = [0, 44, 45, 89]
  cn : s.count = 4
  h45 : s.hasI 45 = true
  h90 : s.hasI 90 = false
  sh : (shiftS s 1).sqs = [1, 45, 46]
  bt : (inner (min 89 0) (max 89 0) s.sqs).sqs = [44, 45]
  em : S.empty.sqs = []
  nc : s.not.count = 86
theorem live_set : Live (ofL [0, 44, 45, 89, 90, -1]) := by
  constructor <;> decide +kernel

set_option maxRecDepth 100000 in
set_option maxHeartbeats 2000000 in
theorem live_any (w : World) (hT : Tab w) : Calls Tryd.prog 17 #[] w fun e w' => e = .returned (.bool true) ∧ Below w.heap.size w w' := by
  have hL := live_set
  obtain ⟨s, hs⟩ : ∃ s, ofL [0, 44, 45, 89, 90, -1] = s := ⟨_, rfl⟩
  have hof : Calls Tryd.prog 33 #[.slice (some ⟨w.heap.size, 0, none⟩) 6 6] (w.alloc (.cells #[.int .i64 0, .int .i64 44, .int .i64 45, .int .i64 89, .int .i64 90, .int .i64 (-1)] 3)) fun e w' => e = .returned (.agg (svc s)) ∧ Below w.heap.size w w' := by
    have h := of_any (some ⟨w.heap.size, 0, none⟩) [0, 44, 45, 89, 90, -1] 6 (w.alloc (.cells #[.int .i64 0, .int .i64 44, .int .i64 45, .int .i64 89, .int .i64 90, .int .i64 (-1)] 3)) (rd_lit (Blk.new _ _ _ rfl)) (by decide)
    rw [hs] at h
    exact h.mono fun _ _ ⟨he, hb⟩ => ⟨he, below_made hb⟩
  rw [hs] at hL
  clear hs
  obtain ⟨Lo, Hi, Sq, Cn, h45, h90, Sh, Bt, Em, Nc⟩ := hL
  have Hof := Lib.hid hof
  clear hof
  have SQ := Lib.hid Sq
  have CN := Lib.hid Cn
  have SH := Lib.hid Sh
  have BT := Lib.hid Bt
  have EM := Lib.hid Em
  have NC := Lib.hid Nc
  have H45 := Lib.hid h45
  have H90 := Lib.hid h90
  clear Sq Cn Sh Bt Em Nc h45 h90
  go_enter Tryd.func17, Tryd.ntmps17
  go_wp2_with fail
  refine Hof.out.mono ?_
  rintro e w1 ⟨rfl, hB⟩
  replace hT := hT.below hB hT.lt
  clear Hof
  go_wp2_with fail
  have bS := Blk.new w1 24 (svc s) rfl
  have hb1 : Below w1.heap.size w1 (w1.alloc (.cells (svc s) 24)) := (Below.refl _ _).alloc (Nat.le_refl _) _
  replace hT := hT.next hb1
  replace hB := hB.trans (hb1.mono hB.size)
  clear hb1
  obtain ⟨b, hb0⟩ : ∃ b, w1.heap.size = b := ⟨_, rfl⟩
  rw [hb0] at bS
  have HB := Lib.hid hb0
  clear hb0
  have c0 := bS.cell 0
  have c1 := bS.cell 1
  refine (list_is s [0, 44, 45, 89] 4 _ hT (by rw [SQ.out]; rfl) rfl).mono ?_
  rintro e w2 ⟨A, k, rfl, hr, hb⟩
  rw [HB.out]
  replace bS := bS.next hb
  replace hT := hT.next hb
  replace hB := hB.trans (hb.mono hB.size)
  clear hb c0 c1
  have c0 := bS.cell 0
  have c1 := bS.cell 1
  simp only [List.getElem?_toArray, List.getElem?_cons_zero, List.getElem?_cons_succ] at c0 c1
  go_wp2_with fail
  refine (ints_true _ _ [0, 44, 45, 89] _ _ _ _ (hr.next ((Below.refl _ _).alloc (Nat.le_refl _) _)) (rd_lit (Blk.new _ _ _ rfl)) rfl (by decide)).mono ?_
  rintro e w3 ⟨rfl, hb'⟩
  have hb := below_made hb'
  clear hb' hr
  replace bS := bS.next hb
  replace hT := hT.next hb
  replace hB := hB.trans (hb.mono hB.size)
  clear hb c0 c1
  have c0 := bS.cell 0
  have c1 := bS.cell 1
  simp only [List.getElem?_toArray, List.getElem?_cons_zero, List.getElem?_cons_succ] at c0 c1
  go_wp2_with fail
  refine (count_is s 4 _ (by rw [CN.out]; rfl)).mono ?_
  rintro e w4 ⟨rfl, hb⟩
  replace bS := bS.next hb
  replace hT := hT.next hb
  replace hB := hB.trans (hb.mono hB.size)
  clear hb c0 c1
  have c0 := bS.cell 0
  have c1 := bS.cell 1
  simp only [List.getElem?_toArray, List.getElem?_cons_zero, List.getElem?_cons_succ] at c0 c1
  go_wp2_with fail
  refine (first_is s 0 _ hT (by rw [SQ.out]; rfl)).mono ?_
  rintro e w5 ⟨rfl, hb⟩
  replace bS := bS.next hb
  replace hT := hT.next hb
  replace hB := hB.trans (hb.mono hB.size)
  clear hb c0 c1
  have c0 := bS.cell 0
  have c1 := bS.cell 1
  simp only [List.getElem?_toArray, List.getElem?_cons_zero, List.getElem?_cons_succ] at c0 c1
  go_wp2_with fail
  refine (last_is s 89 _ hT (by rw [SQ.out]; rfl)).mono ?_
  rintro e w6 ⟨rfl, hb⟩
  replace bS := bS.next hb
  replace hT := hT.next hb
  replace hB := hB.trans (hb.mono hB.size)
  clear hb c0 c1
  have c0 := bS.cell 0
  have c1 := bS.cell 1
  simp only [List.getElem?_toArray, List.getElem?_cons_zero, List.getElem?_cons_succ] at c0 c1
  go_wp2_with fail
  refine (has_is s 45 true _ H45.out).mono ?_
  rintro e w7 ⟨rfl, hb⟩
  replace bS := bS.next hb
  replace hT := hT.next hb
  replace hB := hB.trans (hb.mono hB.size)
  clear hb c0 c1
  have c0 := bS.cell 0
  have c1 := bS.cell 1
  simp only [List.getElem?_toArray, List.getElem?_cons_zero, List.getElem?_cons_succ] at c0 c1
  go_wp2_with fail
  refine (has_is s 90 false _ H90.out).mono ?_
  rintro e w8 ⟨rfl, hb⟩
  replace bS := bS.next hb
  replace hT := hT.next hb
  replace hB := hB.trans (hb.mono hB.size)
  clear hb c0 c1
  have c0 := bS.cell 0
  have c1 := bS.cell 1
  simp only [List.getElem?_toArray, List.getElem?_cons_zero, List.getElem?_cons_succ] at c0 c1
  go_wp2_with fail
  refine (shift_any s 1 _ hT).mono ?_
  rintro e w9 ⟨rfl, hb⟩
  replace bS := bS.next hb
  replace hT := hT.next hb
  replace hB := hB.trans (hb.mono hB.size)
  clear hb c0 c1
  have c0 := bS.cell 0
  have c1 := bS.cell 1
  simp only [List.getElem?_toArray, List.getElem?_cons_zero, List.getElem?_cons_succ] at c0 c1
  go_wp2_with fail
  refine (list_is (shiftS s 1) [1, 45, 46] 3 _ hT (by rw [SH.out]; rfl) rfl).mono ?_
  rintro e w10 ⟨A, k, rfl, hr, hb⟩
  replace bS := bS.next hb
  replace hT := hT.next hb
  replace hB := hB.trans (hb.mono hB.size)
  clear hb c0 c1
  have c0 := bS.cell 0
  have c1 := bS.cell 1
  simp only [List.getElem?_toArray, List.getElem?_cons_zero, List.getElem?_cons_succ] at c0 c1
  go_wp2_with fail
  refine (ints_true _ _ [1, 45, 46] _ _ _ _ (hr.next ((Below.refl _ _).alloc (Nat.le_refl _) _)) (rd_lit (Blk.new _ _ _ rfl)) rfl (by decide)).mono ?_
  rintro e w11 ⟨rfl, hb'⟩
  have hb := below_made hb'
  clear hb' hr
  replace bS := bS.next hb
  replace hT := hT.next hb
  replace hB := hB.trans (hb.mono hB.size)
  clear hb c0 c1
  have c0 := bS.cell 0
  have c1 := bS.cell 1
  simp only [List.getElem?_toArray, List.getElem?_cons_zero, List.getElem?_cons_succ] at c0 c1
  go_wp2_with fail
  refine (between_any s 89 0 _ hT).mono ?_
  rintro e w12 ⟨rfl, hb⟩
  replace bS := bS.next hb
  replace hT := hT.next hb
  replace hB := hB.trans (hb.mono hB.size)
  clear hb c0 c1
  have c0 := bS.cell 0
  have c1 := bS.cell 1
  simp only [List.getElem?_toArray, List.getElem?_cons_zero, List.getElem?_cons_succ] at c0 c1
  go_wp2_with fail
  refine (list_is (inner (min 89 0) (max 89 0) s.sqs) [44, 45] 2 _ hT (by rw [BT.out]; rfl) rfl).mono ?_
  rintro e w13 ⟨A, k, rfl, hr, hb⟩
  replace bS := bS.next hb
  replace hT := hT.next hb
  replace hB := hB.trans (hb.mono hB.size)
  clear hb c0 c1
  have c0 := bS.cell 0
  have c1 := bS.cell 1
  simp only [List.getElem?_toArray, List.getElem?_cons_zero, List.getElem?_cons_succ] at c0 c1
  go_wp2_with fail
  refine (ints_true _ _ [44, 45] _ _ _ _ (hr.next ((Below.refl _ _).alloc (Nat.le_refl _) _)) (rd_lit (Blk.new _ _ _ rfl)) rfl (by decide)).mono ?_
  rintro e w14 ⟨rfl, hb'⟩
  have hb := below_made hb'
  clear hb' hr
  replace bS := bS.next hb
  replace hT := hT.next hb
  replace hB := hB.trans (hb.mono hB.size)
  clear hb c0 c1
  have c0 := bS.cell 0
  have c1 := bS.cell 1
  simp only [List.getElem?_toArray, List.getElem?_cons_zero, List.getElem?_cons_succ] at c0 c1
  go_wp2_with fail
  refine (first_is S.empty (-1) _ hT (by rw [EM.out]; rfl)).mono ?_
  rintro e w15 ⟨rfl, hb⟩
  replace bS := bS.next hb
  replace hT := hT.next hb
  replace hB := hB.trans (hb.mono hB.size)
  clear hb c0 c1
  have c0 := bS.cell 0
  have c1 := bS.cell 1
  simp only [List.getElem?_toArray, List.getElem?_cons_zero, List.getElem?_cons_succ] at c0 c1
  go_wp2_with fail
  refine (not_any s _).mono ?_
  rintro e w16 ⟨rfl, hb⟩
  replace bS := bS.next hb
  replace hT := hT.next hb
  replace hB := hB.trans (hb.mono hB.size)
  clear hb c0 c1
  have c0 := bS.cell 0
  have c1 := bS.cell 1
  simp only [List.getElem?_toArray, List.getElem?_cons_zero, List.getElem?_cons_succ] at c0 c1
  go_wp2_with fail
  refine (count_is s.not 86 _ (by rw [NC.out]; rfl)).mono ?_
  rintro e w17 ⟨rfl, hb⟩
  replace bS := bS.next hb
  replace hT := hT.next hb
  replace hB := hB.trans (hb.mono hB.size)
  clear hb c0 c1
  have c0 := bS.cell 0
  have c1 := bS.cell 1
  simp only [List.getElem?_toArray, List.getElem?_cons_zero, List.getElem?_cons_succ] at c0 c1
  go_wp2
  go_ret
  exact ⟨rfl, hB⟩
end Go.Proofs.YtdfjmchkpoobdaaDoor
