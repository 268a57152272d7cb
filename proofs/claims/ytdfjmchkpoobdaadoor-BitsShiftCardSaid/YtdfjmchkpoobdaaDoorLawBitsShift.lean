/- Any set, some squares on, or back; what of it lies between two numbers: the call answers true. -/
import Derived.Test.YtdfjmchkpoobdaaDoorRef3
import Derived.Test.YtdfjmchkpoobdaaDoorRef4
namespace Go.Proofs.YtdfjmchkpoobdaaDoor.shift
open Go.RowKit Go.Shelf
open M (S)
open M.S

theorem shift_same (a : S) (n : Int) (i : Nat) (hi : i < 90) : (shiftS a n).has i = shf (M.has a.lo a.hi) n 90 i := by
  rw [has_shiftS a n i hi]
  unfold shf
  by_cases h0 : 0 ≤ (i : Int) - n
  · by_cases h1 : (i : Int) - n < 90
    · rw [decide_eq_true h0, decide_eq_true (p := -1000 < n ∧ n < 1000) (by omega), decide_eq_true (p := (i : Int) - n < ((90 : Nat) : Int)) h1]
      rfl
    · rw [decide_eq_false (p := (i : Int) - n < ((90 : Nat) : Int)) h1, has_ge a _ (by omega)]
      simp
  · rw [decide_eq_false h0]
    simp
theorem between_same (a : S) (n m : Int) (i : Nat) (hi : i < 90) : (inner (min n m) (max n m) a.sqs).has i = (M.has a.lo a.hi i && decide (min n m < (i : Int)) && decide ((i : Int) < max n m)) := by
  rw [has_inner _ _ _ i hi, Bool.decide_and, ← Bool.and_assoc]
  congr 2
  rw [Bool.eq_iff_iff, decide_eq_true_eq]
  exact mem_sqs a ⟨i, hi⟩

set_option maxRecDepth 100000 in
set_option maxHeartbeats 4000000 in
theorem walk (a : S) (n m : Int) (w : World) (hT : Tab w) : Calls Tryd.prog 5 #[.agg #[.int .u64 a.lo, .int .u64 a.hi], .int .i64 n, .int .i64 m] w fun e w' => e = .returned (.bool true) ∧ Below w.heap.size w w' := by
  go_enter Tryd.func5, Tryd.ntmps5
  go_wp2_with fail
  obtain ⟨W0, hW0⟩ : ∃ W0, (w.alloc (.cells (svc a) 24)) = W0 := ⟨_, rfl⟩
  have ba : Blk W0 (w.heap.size) 24 (svc a) := by rw [← hW0]; exact Blk.new _ _ _ (by simp)
  have hB : Below w.heap.size w W0 := by rw [← hW0]; exact (by repeat (first | exact Below.refl _ _ | (refine Below.setCell ?_ (by first | omega | (simp; done) | (simp; omega) | (simp at *; omega)) _) | (refine Below.alloc ?_ (by first | omega | (simp; done) | (simp; omega) | (simp at *; omega)) _) | refine Below.drew ?_ | (refine below_drewN ?_ _) | (refine Below.trans ?_ (Below.mono (by assumption) (by first | omega | (simp; done) | (simp; omega) | (simp at *; omega))))))
  replace hT := hT.below hB hT.lt
  rw [hW0]
  clear hW0
  have ba0 := ba.cell 0
  have ba1 := ba.cell 1
  simp only [List.getElem?_toArray, List.getElem?_cons_zero, List.getElem?_cons_succ] at ba0 ba1
  refine (truths_any a.lo a.hi _).mono ?_
  rintro e w1 ⟨A1, kA1, rfl, r1, hb⟩
  replace ba := ba.next hb
  replace hT := hT.next hb
  replace hB := hB.trans (hb.mono hB.size)
  clear hb ba0 ba1
  have ba0 := ba.cell 0
  have ba1 := ba.cell 1
  simp only [List.getElem?_toArray, List.getElem?_cons_zero, List.getElem?_cons_succ] at ba0 ba1
  go_wp2_with fail
  refine (shift_any a n _ hT).mono ?_
  rintro e w2 ⟨rfl, hb⟩
  replace ba := ba.next hb
  replace r1 := r1.next hb
  replace hT := hT.next hb
  replace hB := hB.trans (hb.mono hB.size)
  clear hb ba0 ba1
  have ba0 := ba.cell 0
  have ba1 := ba.cell 1
  simp only [List.getElem?_toArray, List.getElem?_cons_zero, List.getElem?_cons_succ] at ba0 ba1
  go_wp2_with fail
  refine (rshift_any A1 _ _ n _ r1).mono ?_
  rintro e w3 ⟨A2, kA2, rfl, r2, hb⟩
  replace ba := ba.next hb
  replace r1 := r1.next hb
  replace hT := hT.next hb
  replace hB := hB.trans (hb.mono hB.size)
  clear hb ba0 ba1
  have ba0 := ba.cell 0
  have ba1 := ba.cell 1
  simp only [List.getElem?_toArray, List.getElem?_cons_zero, List.getElem?_cons_succ] at ba0 ba1
  go_wp2_with fail
  refine (is_true (shiftS a n) (shiftS_clean a n) A2 _ _ _ r2 (shift_same a n)).mono ?_
  rintro e w4 ⟨rfl, hb⟩
  replace ba := ba.next hb
  replace r1 := r1.next hb
  replace r2 := r2.next hb
  replace hT := hT.next hb
  replace hB := hB.trans (hb.mono hB.size)
  clear hb ba0 ba1
  have ba0 := ba.cell 0
  have ba1 := ba.cell 1
  simp only [List.getElem?_toArray, List.getElem?_cons_zero, List.getElem?_cons_succ] at ba0 ba1
  clear r2
  go_wp2_with fail
  refine (between_any a n m _ hT).mono ?_
  rintro e w5 ⟨rfl, hb⟩
  replace ba := ba.next hb
  replace r1 := r1.next hb
  replace hT := hT.next hb
  replace hB := hB.trans (hb.mono hB.size)
  clear hb ba0 ba1
  have ba0 := ba.cell 0
  have ba1 := ba.cell 1
  simp only [List.getElem?_toArray, List.getElem?_cons_zero, List.getElem?_cons_succ] at ba0 ba1
  go_wp2_with fail
  refine (rbetween_any A1 _ _ n m _ r1).mono ?_
  rintro e w6 ⟨A3, kA3, rfl, r3, hb⟩
  replace ba := ba.next hb
  replace r1 := r1.next hb
  replace hT := hT.next hb
  replace hB := hB.trans (hb.mono hB.size)
  clear hb ba0 ba1
  have ba0 := ba.cell 0
  have ba1 := ba.cell 1
  simp only [List.getElem?_toArray, List.getElem?_cons_zero, List.getElem?_cons_succ] at ba0 ba1
  go_wp2_with fail
  refine (is_true (inner (min n m) (max n m) a.sqs) (inner_clean _ _ _) A3 _ _ _ r3 (between_same a n m)).mono ?_
  rintro e w7 ⟨rfl, hb⟩
  replace ba := ba.next hb
  replace r1 := r1.next hb
  replace r3 := r3.next hb
  replace hT := hT.next hb
  replace hB := hB.trans (hb.mono hB.size)
  clear hb ba0 ba1
  have ba0 := ba.cell 0
  have ba1 := ba.cell 1
  simp only [List.getElem?_toArray, List.getElem?_cons_zero, List.getElem?_cons_succ] at ba0 ba1
  clear r3
  go_wp2_with fail
  refine (live_any _ hT).mono ?_
  rintro e w8 ⟨rfl, hb⟩
  replace ba := ba.next hb
  replace r1 := r1.next hb
  replace hT := hT.next hb
  replace hB := hB.trans (hb.mono hB.size)
  clear hb ba0 ba1
  have ba0 := ba.cell 0
  have ba1 := ba.cell 1
  simp only [List.getElem?_toArray, List.getElem?_cons_zero, List.getElem?_cons_succ] at ba0 ba1
  go_wp2
  go_ret
  exact ⟨rfl, hB⟩
end Go.Proofs.YtdfjmchkpoobdaaDoor.shift
