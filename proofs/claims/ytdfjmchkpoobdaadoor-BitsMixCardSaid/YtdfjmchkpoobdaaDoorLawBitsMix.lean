/- What any two sets are together: the call answers true. -/
import Derived.Test.YtdfjmchkpoobdaaDoorRef3
import Derived.Test.YtdfjmchkpoobdaaDoorRef4
namespace Go.Proofs.YtdfjmchkpoobdaaDoor.mix
open Go.RowKit Go.Shelf
open M (S)
open M.S

theorem full_has (i : Nat) : M.has 35184372088831 35184372088831 i = decide (i < 90) := by
  by_cases h : i < 90
  · rw [decide_eq_true h]
    have : ∀ j, j < 90 → M.has 35184372088831 35184372088831 j = true := by decide +kernel
    exact this i h
  · have h1 : ¬ i < 45 := by omega
    simp [M.has, h, h1]
theorem truths_full (w : World) : Calls Tryd.prog 10 #[.int .u64 35184372088831, .int .u64 35184372088831] w (GivesBools w (M.has 35184372088831 35184372088831)) := truths_any 35184372088831 35184372088831 w

set_option maxRecDepth 100000 in
set_option maxHeartbeats 4000000 in
theorem walk (a b : S) (w : World) (hT : Tab w) : Calls Tryd.prog 3 #[.agg #[.int .u64 a.lo, .int .u64 a.hi], .agg #[.int .u64 b.lo, .int .u64 b.hi]] w fun e w' => e = .returned (.bool true) ∧ Below w.heap.size w w' := by
  go_enter Tryd.func3, Tryd.ntmps3
  go_wp2_with fail
  obtain ⟨W0, hW0⟩ : ∃ W0, ((w.alloc (.cells (svc a) 24)).alloc (.cells (svc b) 24)) = W0 := ⟨_, rfl⟩
  have ba : Blk W0 (w.heap.size) 24 (svc a) := by rw [← hW0]; exact (Blk.new _ _ _ (by simp)).alloc _
  have bb : Blk W0 (w.heap.size + 1) 24 (svc b) := by rw [← hW0]; exact Blk.new _ _ _ (by simp)
  have hB : Below w.heap.size w W0 := by rw [← hW0]; exact (by repeat (first | exact Below.refl _ _ | (refine Below.setCell ?_ (by first | omega | (simp; done) | (simp; omega) | (simp at *; omega)) _) | (refine Below.alloc ?_ (by first | omega | (simp; done) | (simp; omega) | (simp at *; omega)) _) | refine Below.drew ?_ | (refine below_drewN ?_ _) | (refine Below.trans ?_ (Below.mono (by assumption) (by first | omega | (simp; done) | (simp; omega) | (simp at *; omega))))))
  replace hT := hT.below hB hT.lt
  rw [hW0]
  clear hW0
  have ba0 := ba.cell 0
  have ba1 := ba.cell 1
  have bb0 := bb.cell 0
  have bb1 := bb.cell 1
  simp only [List.getElem?_toArray, List.getElem?_cons_zero, List.getElem?_cons_succ] at ba0 ba1 bb0 bb1
  refine (truths_any a.lo a.hi _).mono ?_
  rintro e w1 ⟨A1, kA1, rfl, r1, hb⟩
  replace ba := ba.next hb
  replace bb := bb.next hb
  replace hT := hT.next hb
  replace hB := hB.trans (hb.mono hB.size)
  clear hb ba0 ba1 bb0 bb1
  have ba0 := ba.cell 0
  have ba1 := ba.cell 1
  have bb0 := bb.cell 0
  have bb1 := bb.cell 1
  simp only [List.getElem?_toArray, List.getElem?_cons_zero, List.getElem?_cons_succ] at ba0 ba1 bb0 bb1
  go_wp2_with fail
  refine (truths_any b.lo b.hi _).mono ?_
  rintro e w2 ⟨A2, kA2, rfl, r2, hb⟩
  replace ba := ba.next hb
  replace bb := bb.next hb
  replace r1 := r1.next hb
  replace hT := hT.next hb
  replace hB := hB.trans (hb.mono hB.size)
  clear hb ba0 ba1 bb0 bb1
  have ba0 := ba.cell 0
  have ba1 := ba.cell 1
  have bb0 := bb.cell 0
  have bb1 := bb.cell 1
  simp only [List.getElem?_toArray, List.getElem?_cons_zero, List.getElem?_cons_succ] at ba0 ba1 bb0 bb1
  go_wp2_with fail
  refine (truths_full _).mono ?_
  rintro e w3 ⟨A3, kA3, rfl, r3, hb⟩
  replace ba := ba.next hb
  replace bb := bb.next hb
  replace r1 := r1.next hb
  replace r2 := r2.next hb
  replace hT := hT.next hb
  replace hB := hB.trans (hb.mono hB.size)
  clear hb ba0 ba1 bb0 bb1
  have ba0 := ba.cell 0
  have ba1 := ba.cell 1
  have bb0 := bb.cell 0
  have bb1 := bb.cell 1
  simp only [List.getElem?_toArray, List.getElem?_cons_zero, List.getElem?_cons_succ] at ba0 ba1 bb0 bb1
  go_wp2_with fail
  refine (or_any a b _).mono ?_
  rintro e w4 ⟨rfl, hb⟩
  replace ba := ba.next hb
  replace bb := bb.next hb
  replace r1 := r1.next hb
  replace r2 := r2.next hb
  replace r3 := r3.next hb
  replace hT := hT.next hb
  replace hB := hB.trans (hb.mono hB.size)
  clear hb ba0 ba1 bb0 bb1
  have ba0 := ba.cell 0
  have ba1 := ba.cell 1
  have bb0 := bb.cell 0
  have bb1 := bb.cell 1
  simp only [List.getElem?_toArray, List.getElem?_cons_zero, List.getElem?_cons_succ] at ba0 ba1 bb0 bb1
  go_wp2_with fail
  refine (mix_any A1 A2 _ _ _ _ 0 _ r1 r2 (.inl rfl)).mono ?_
  rintro e w5 ⟨A4, kA4, rfl, r4, hb⟩
  replace ba := ba.next hb
  replace bb := bb.next hb
  replace r1 := r1.next hb
  replace r2 := r2.next hb
  replace r3 := r3.next hb
  replace hT := hT.next hb
  replace hB := hB.trans (hb.mono hB.size)
  clear hb ba0 ba1 bb0 bb1
  have ba0 := ba.cell 0
  have ba1 := ba.cell 1
  have bb0 := bb.cell 0
  have bb1 := bb.cell 1
  simp only [List.getElem?_toArray, List.getElem?_cons_zero, List.getElem?_cons_succ] at ba0 ba1 bb0 bb1
  go_wp2_with fail
  refine (is_true (a.or b) (or_clean a b) A4 _ _ _ r4 (fun i _ => by rw [has_or]; rfl)).mono ?_
  rintro e w6 ⟨rfl, hb⟩
  replace ba := ba.next hb
  replace bb := bb.next hb
  replace r1 := r1.next hb
  replace r2 := r2.next hb
  replace r3 := r3.next hb
  replace r4 := r4.next hb
  replace hT := hT.next hb
  replace hB := hB.trans (hb.mono hB.size)
  clear hb ba0 ba1 bb0 bb1
  have ba0 := ba.cell 0
  have ba1 := ba.cell 1
  have bb0 := bb.cell 0
  have bb1 := bb.cell 1
  simp only [List.getElem?_toArray, List.getElem?_cons_zero, List.getElem?_cons_succ] at ba0 ba1 bb0 bb1
  clear r4
  go_wp2_with fail
  refine (and_any a b _).mono ?_
  rintro e w7 ⟨rfl, hb⟩
  replace ba := ba.next hb
  replace bb := bb.next hb
  replace r1 := r1.next hb
  replace r2 := r2.next hb
  replace r3 := r3.next hb
  replace hT := hT.next hb
  replace hB := hB.trans (hb.mono hB.size)
  clear hb ba0 ba1 bb0 bb1
  have ba0 := ba.cell 0
  have ba1 := ba.cell 1
  have bb0 := bb.cell 0
  have bb1 := bb.cell 1
  simp only [List.getElem?_toArray, List.getElem?_cons_zero, List.getElem?_cons_succ] at ba0 ba1 bb0 bb1
  go_wp2_with fail
  refine (mix_any A1 A2 _ _ _ _ 1 _ r1 r2 (.inr (.inl rfl))).mono ?_
  rintro e w8 ⟨A5, kA5, rfl, r5, hb⟩
  replace ba := ba.next hb
  replace bb := bb.next hb
  replace r1 := r1.next hb
  replace r2 := r2.next hb
  replace r3 := r3.next hb
  replace hT := hT.next hb
  replace hB := hB.trans (hb.mono hB.size)
  clear hb ba0 ba1 bb0 bb1
  have ba0 := ba.cell 0
  have ba1 := ba.cell 1
  have bb0 := bb.cell 0
  have bb1 := bb.cell 1
  simp only [List.getElem?_toArray, List.getElem?_cons_zero, List.getElem?_cons_succ] at ba0 ba1 bb0 bb1
  go_wp2_with fail
  refine (is_true (a.and b) (and_clean a b) A5 _ _ _ r5 (fun i _ => by rw [has_and]; rfl)).mono ?_
  rintro e w9 ⟨rfl, hb⟩
  replace ba := ba.next hb
  replace bb := bb.next hb
  replace r1 := r1.next hb
  replace r2 := r2.next hb
  replace r3 := r3.next hb
  replace r5 := r5.next hb
  replace hT := hT.next hb
  replace hB := hB.trans (hb.mono hB.size)
  clear hb ba0 ba1 bb0 bb1
  have ba0 := ba.cell 0
  have ba1 := ba.cell 1
  have bb0 := bb.cell 0
  have bb1 := bb.cell 1
  simp only [List.getElem?_toArray, List.getElem?_cons_zero, List.getElem?_cons_succ] at ba0 ba1 bb0 bb1
  clear r5
  go_wp2_with fail
  refine (minus_any a b _).mono ?_
  rintro e w10 ⟨rfl, hb⟩
  replace ba := ba.next hb
  replace bb := bb.next hb
  replace r1 := r1.next hb
  replace r2 := r2.next hb
  replace r3 := r3.next hb
  replace hT := hT.next hb
  replace hB := hB.trans (hb.mono hB.size)
  clear hb ba0 ba1 bb0 bb1
  have ba0 := ba.cell 0
  have ba1 := ba.cell 1
  have bb0 := bb.cell 0
  have bb1 := bb.cell 1
  simp only [List.getElem?_toArray, List.getElem?_cons_zero, List.getElem?_cons_succ] at ba0 ba1 bb0 bb1
  go_wp2_with fail
  refine (mix_any A1 A2 _ _ _ _ 2 _ r1 r2 (.inr (.inr rfl))).mono ?_
  rintro e w11 ⟨A6, kA6, rfl, r6, hb⟩
  replace ba := ba.next hb
  replace bb := bb.next hb
  replace r1 := r1.next hb
  replace r2 := r2.next hb
  replace r3 := r3.next hb
  replace hT := hT.next hb
  replace hB := hB.trans (hb.mono hB.size)
  clear hb ba0 ba1 bb0 bb1
  have ba0 := ba.cell 0
  have ba1 := ba.cell 1
  have bb0 := bb.cell 0
  have bb1 := bb.cell 1
  simp only [List.getElem?_toArray, List.getElem?_cons_zero, List.getElem?_cons_succ] at ba0 ba1 bb0 bb1
  go_wp2_with fail
  refine (is_true (a.minus b) (minus_clean a b) A6 _ _ _ r6 (fun i _ => by rw [has_minus]; rfl)).mono ?_
  rintro e w12 ⟨rfl, hb⟩
  replace ba := ba.next hb
  replace bb := bb.next hb
  replace r1 := r1.next hb
  replace r2 := r2.next hb
  replace r3 := r3.next hb
  replace r6 := r6.next hb
  replace hT := hT.next hb
  replace hB := hB.trans (hb.mono hB.size)
  clear hb ba0 ba1 bb0 bb1
  have ba0 := ba.cell 0
  have ba1 := ba.cell 1
  have bb0 := bb.cell 0
  have bb1 := bb.cell 1
  simp only [List.getElem?_toArray, List.getElem?_cons_zero, List.getElem?_cons_succ] at ba0 ba1 bb0 bb1
  clear r6
  go_wp2_with fail
  refine (not_any a _).mono ?_
  rintro e w13 ⟨rfl, hb⟩
  replace ba := ba.next hb
  replace bb := bb.next hb
  replace r1 := r1.next hb
  replace r2 := r2.next hb
  replace r3 := r3.next hb
  replace hT := hT.next hb
  replace hB := hB.trans (hb.mono hB.size)
  clear hb ba0 ba1 bb0 bb1
  have ba0 := ba.cell 0
  have ba1 := ba.cell 1
  have bb0 := bb.cell 0
  have bb1 := bb.cell 1
  simp only [List.getElem?_toArray, List.getElem?_cons_zero, List.getElem?_cons_succ] at ba0 ba1 bb0 bb1
  go_wp2_with fail
  refine (mix_any A3 A1 _ _ _ _ 2 _ r3 r1 (.inr (.inr rfl))).mono ?_
  rintro e w14 ⟨A7, kA7, rfl, r7, hb⟩
  replace ba := ba.next hb
  replace bb := bb.next hb
  replace r1 := r1.next hb
  replace r2 := r2.next hb
  replace r3 := r3.next hb
  replace hT := hT.next hb
  replace hB := hB.trans (hb.mono hB.size)
  clear hb ba0 ba1 bb0 bb1
  have ba0 := ba.cell 0
  have ba1 := ba.cell 1
  have bb0 := bb.cell 0
  have bb1 := bb.cell 1
  simp only [List.getElem?_toArray, List.getElem?_cons_zero, List.getElem?_cons_succ] at ba0 ba1 bb0 bb1
  go_wp2_with fail
  refine (is_true a.not (not_clean a) A7 _ _ _ r7 (fun i hi => by rw [has_not, ← full_has i]; rfl)).mono ?_
  rintro e w15 ⟨rfl, hb⟩
  replace ba := ba.next hb
  replace bb := bb.next hb
  replace r1 := r1.next hb
  replace r2 := r2.next hb
  replace r3 := r3.next hb
  replace r7 := r7.next hb
  replace hT := hT.next hb
  replace hB := hB.trans (hb.mono hB.size)
  clear hb ba0 ba1 bb0 bb1
  have ba0 := ba.cell 0
  have ba1 := ba.cell 1
  have bb0 := bb.cell 0
  have bb1 := bb.cell 1
  simp only [List.getElem?_toArray, List.getElem?_cons_zero, List.getElem?_cons_succ] at ba0 ba1 bb0 bb1
  clear r7
  go_wp2_with fail
  refine (live_any _ hT).mono ?_
  rintro e w16 ⟨rfl, hb⟩
  replace ba := ba.next hb
  replace bb := bb.next hb
  replace r1 := r1.next hb
  replace r2 := r2.next hb
  replace r3 := r3.next hb
  replace hT := hT.next hb
  replace hB := hB.trans (hb.mono hB.size)
  clear hb ba0 ba1 bb0 bb1
  have ba0 := ba.cell 0
  have ba1 := ba.cell 1
  have bb0 := bb.cell 0
  have bb1 := bb.cell 1
  simp only [List.getElem?_toArray, List.getElem?_cons_zero, List.getElem?_cons_succ] at ba0 ba1 bb0 bb1
  go_wp2
  go_ret
  exact ⟨rfl, hB⟩
end Go.Proofs.YtdfjmchkpoobdaaDoor.mix
