/- Without its first and its last square a set has what lies between them: the call answers true. -/
import Derived.Test.YtdfjmchkpoobdaaDoorLive1
import Derived.Test.YtdfjmchkpoobdaaDoorLawsN
namespace Go.Proofs.YtdfjmchkpoobdaaDoor.ends
open Go.RowKit Go.Shelf
open M (S)

/-- What the law's variables hold while it runs. -/
theorem keep1 {w W W' : World} {p q : Value} {g : Nat} (k : W.cell? ⟨g, 0, none⟩ = some p ∧ W.cell? ⟨g, 1, none⟩ = some q ∧ Tab W ∧ Below w.heap.size w W) (hb : Below W.heap.size W W') :
    W'.cell? ⟨g, 0, none⟩ = some p ∧ W'.cell? ⟨g, 1, none⟩ = some q ∧ Tab W' ∧ Below w.heap.size w W' :=
  ⟨(hb.cell (cell_lt k.1)).trans k.1, (hb.cell (cell_lt k.2.1)).trans k.2.1, k.2.2.1.next hb, k.2.2.2.trans (hb.mono k.2.2.2.size)⟩
theorem tab1 {w W : World} {p q : Value} {g : Nat} (k : W.cell? ⟨g, 0, none⟩ = some p ∧ W.cell? ⟨g, 1, none⟩ = some q ∧ Tab W ∧ Below w.heap.size w W) : Tab W := k.2.2.1
theorem below1 {w W : World} {p q : Value} {g : Nat} (k : W.cell? ⟨g, 0, none⟩ = some p ∧ W.cell? ⟨g, 1, none⟩ = some q ∧ Tab W ∧ Below w.heap.size w W) : Below w.heap.size w W := k.2.2.2
theorem eql_true {s t : S} (h : s = t) (W : World) : (binOp .eql 24 (.agg #[.int .u64 s.lo, .int .u64 s.hi]) (.agg #[.int .u64 t.lo, .int .u64 t.hi])).run Tryd.prog W = .ok (.bool true) W := by
  rw [eql_set, h]; simp

theorem eqE (s : S) (W : World) : (binOp .eql 24 (.agg #[.int .u64 (inner (min (first s.sqs) (last s.sqs)) (max (first s.sqs) (last s.sqs)) s.sqs).lo, .int .u64 (inner (min (first s.sqs) (last s.sqs)) (max (first s.sqs) (last s.sqs)) s.sqs).hi]) (.agg #[.int .u64 ((s.drop (first s.sqs)).drop (last s.sqs)).lo, .int .u64 ((s.drop (first s.sqs)).drop (last s.sqs)).hi])).run Tryd.prog W = .ok (.bool true) W := eql_true (ends_eq s) W

attribute [local go_sem ↓] eqE in
set_option maxRecDepth 100000 in
set_option maxHeartbeats 4000000 in
theorem walk (a : S) (w : World) (hT : Tab w) : Calls Tryd.prog 9 #[.agg #[.int .u64 a.lo, .int .u64 a.hi]] w fun e w' => e = .returned (.bool true) ∧ Below w.heap.size w w' := by
  have g1 := first_none a
  have g2 := last_none a
  have g3 : decide (first a.sqs ≤ last a.sqs) = true := by simpa using first_le_last a
  go_enter Tryd.func9, Tryd.ntmps9
  go_wp2_with fail
  obtain ⟨W0, hW0⟩ : ∃ W0, w.alloc (.cells (svc a) 24) = W0 := ⟨_, rfl⟩
  have bA : Blk W0 w.heap.size 24 (svc a) := by rw [← hW0]; exact Blk.new _ _ _ rfl
  have hB : Below w.heap.size w W0 := by rw [← hW0]; exact (by repeat (first | exact Below.refl _ _ | (refine Below.setCell ?_ (by first | omega | (simp; done) | (simp; omega) | (simp at *; omega)) _) | (refine Below.alloc ?_ (by first | omega | (simp; done) | (simp; omega) | (simp at *; omega)) _) | refine Below.drew ?_ | (refine below_drewN ?_ _) | (refine Below.trans ?_ (Below.mono (by assumption) (by first | omega | (simp; done) | (simp; omega) | (simp at *; omega))))))
  replace hT := hT.below hB hT.lt
  have a0 := bA.cell 0
  have a1 := bA.cell 1
  simp only [List.getElem?_toArray, List.getElem?_cons_zero, List.getElem?_cons_succ] at a0 a1
  rw [hW0]
  clear hW0
  refine (first_any a _ hT).mono ?_
  rintro e w1 ⟨rfl, hb⟩
  replace bA := bA.next hb
  replace hT := hT.next hb
  replace hB := hB.trans (hb.mono hB.size)
  clear hb a0 a1
  have a0 := bA.cell 0
  have a1 := bA.cell 1
  simp only [List.getElem?_toArray, List.getElem?_cons_zero, List.getElem?_cons_succ] at a0 a1
  go_wp2_with fail
  refine (last_any a _ hT).mono ?_
  rintro e w2 ⟨rfl, hb⟩
  replace bA := bA.next hb
  replace hT := hT.next hb
  replace hB := hB.trans (hb.mono hB.size)
  clear hb a0 a1
  have a0 := bA.cell 0
  have a1 := bA.cell 1
  simp only [List.getElem?_toArray, List.getElem?_cons_zero, List.getElem?_cons_succ] at a0 a1
  go_wp2_with fail
  have hS : w2.drew.cell? ⟨w.heap.size, 0, none⟩ = some (.int .u64 a.lo) ∧ w2.drew.cell? ⟨w.heap.size, 1, none⟩ = some (.int .u64 a.hi) ∧ Tab w2.drew ∧ Below w.heap.size w w2.drew := ⟨a0, a1, hT, hB.drew⟩
  clear bA hB hT a0 a1
  try simp only [List.append_eq, List.cons_append, List.nil_append]
  go_region_held3 (fun W => W.cell? ⟨w.heap.size, 0, none⟩ = some (.int .u64 a.lo) ∧ W.cell? ⟨w.heap.size, 1, none⟩ = some (.int .u64 a.hi) ∧ Tab W ∧ Below w.heap.size w W)
    (first | exact hS | exact keep1 (by assumption) hb)
    (first | (go_at_call 31; refine (between_any _ _ _ _ ?_).mono ?_; (exact tab1 (by assumption)); rintro e w1 ⟨rfl, hb⟩) | (go_at_call 28; refine (without_any _ _ _).mono ?_; rintro e w1 ⟨rfl, hb⟩) | (go_at_call 22; refine (count_any _ _).mono ?_; rintro e w1 ⟨rfl, hb⟩) | (go_at_call 17; refine (live_any _ ?_).mono ?_; (exact tab1 (by assumption)); rintro e w1 ⟨rfl, hb⟩))
  go_wp2
  go_ret
  exact ⟨rfl, below1 (by assumption)⟩
end Go.Proofs.YtdfjmchkpoobdaaDoor.ends
