/- What must be of any two sets: the call answers true. -/
import Derived.Test.YtdfjmchkpoobdaaDoorLive1
import Derived.Test.YtdfjmchkpoobdaaDoorLawsM
namespace Go.Proofs.YtdfjmchkpoobdaaDoor
open Go.RowKit Go.Shelf
open M (S)

/-- What the law's variables hold while it runs. -/
theorem keep2 {w W W' : World} {p q r u : Value} {g h : Nat} (k : W.cell? ⟨g, 0, none⟩ = some p ∧ W.cell? ⟨g, 1, none⟩ = some q ∧ W.cell? ⟨h, 0, none⟩ = some r ∧ W.cell? ⟨h, 1, none⟩ = some u ∧ Tab W ∧ Below w.heap.size w W) (hb : Below W.heap.size W W') :
    W'.cell? ⟨g, 0, none⟩ = some p ∧ W'.cell? ⟨g, 1, none⟩ = some q ∧ W'.cell? ⟨h, 0, none⟩ = some r ∧ W'.cell? ⟨h, 1, none⟩ = some u ∧ Tab W' ∧ Below w.heap.size w W' :=
  ⟨(hb.cell (cell_lt k.1)).trans k.1, (hb.cell (cell_lt k.2.1)).trans k.2.1, (hb.cell (cell_lt k.2.2.1)).trans k.2.2.1, (hb.cell (cell_lt k.2.2.2.1)).trans k.2.2.2.1, k.2.2.2.2.1.next hb, k.2.2.2.2.2.trans (hb.mono k.2.2.2.2.2.size)⟩
theorem tab2 {w W : World} {p q r u : Value} {g h : Nat} (k : W.cell? ⟨g, 0, none⟩ = some p ∧ W.cell? ⟨g, 1, none⟩ = some q ∧ W.cell? ⟨h, 0, none⟩ = some r ∧ W.cell? ⟨h, 1, none⟩ = some u ∧ Tab W ∧ Below w.heap.size w W) : Tab W := k.2.2.2.2.1
theorem below2 {w W : World} {p q r u : Value} {g h : Nat} (k : W.cell? ⟨g, 0, none⟩ = some p ∧ W.cell? ⟨g, 1, none⟩ = some q ∧ W.cell? ⟨h, 0, none⟩ = some r ∧ W.cell? ⟨h, 1, none⟩ = some u ∧ Tab W ∧ Below w.heap.size w W) : Below w.heap.size w W := k.2.2.2.2.2
theorem or_empty (s : S) (w : World) : Calls Tryd.prog 12 #[.agg #[.int .u64 s.lo, .int .u64 s.hi], .agg #[.int .u64 0, .int .u64 0]] w fun e w' => e = .returned (.agg #[.int .u64 (s.or S.empty).lo, .int .u64 (s.or S.empty).hi]) ∧ Below w.heap.size w w' := or_any s S.empty w

theorem eql_true {s t : S} (h : s = t) (W : World) : (binOp .eql 24 (.agg #[.int .u64 s.lo, .int .u64 s.hi]) (.agg #[.int .u64 t.lo, .int .u64 t.hi])).run Tryd.prog W = .ok (.bool true) W := by
  rw [eql_set, h]; simp
theorem eq1 (a b : S) (W : World) : (binOp .eql 24 (.agg #[.int .u64 (a.or b).not.lo, .int .u64 (a.or b).not.hi]) (.agg #[.int .u64 (a.not.and b.not).lo, .int .u64 (a.not.and b.not).hi])).run Tryd.prog W = .ok (.bool true) W := eql_true (S.or_not a b) W
theorem eq2 (a b : S) (W : World) : (binOp .eql 24 (.agg #[.int .u64 (a.or b).lo, .int .u64 (a.or b).hi]) (.agg #[.int .u64 (b.or a).lo, .int .u64 (b.or a).hi])).run Tryd.prog W = .ok (.bool true) W := eql_true (S.or_comm a b) W
theorem eq3 (a b : S) (W : World) : (binOp .eql 24 (.agg #[.int .u64 ((a.minus b).or (a.and b)).lo, .int .u64 ((a.minus b).or (a.and b)).hi]) (.agg #[.int .u64 (a.or S.empty).lo, .int .u64 (a.or S.empty).hi])).run Tryd.prog W = .ok (.bool true) W := eql_true (S.minus_or_and a b) W
theorem eq4 (a : S) (W : World) : (binOp .eql 24 (.agg #[.int .u64 (a.and a.not).lo, .int .u64 (a.and a.not).hi]) (.agg #[.int .u64 0, .int .u64 0])).run Tryd.prog W = .ok (.bool true) W := eql_true (t := S.empty) (S.and_not a) W

attribute [local go_sem ↓] eq1 eq2 eq3 eq4 in
set_option maxRecDepth 100000 in
set_option maxHeartbeats 4000000 in
theorem bitsLaws_any (a b : S) (w : World) (hT : Tab w) : Calls Tryd.prog 7 #[.agg #[.int .u64 a.lo, .int .u64 a.hi], .agg #[.int .u64 b.lo, .int .u64 b.hi]] w fun e w' => e = .returned (.bool true) ∧ Below w.heap.size w w' := by
  have g1 : (((a.count : Nat) : Int) + ((a.not.count : Nat) : Int) == 90) = true := by have := S.count_not a; simp; omega
  have g2 : ((((a.or b).count : Nat) : Int) + (((a.and b).count : Nat) : Int) == ((a.count : Nat) : Int) + ((b.count : Nat) : Int)) = true := by have := S.count_or_and a b; simp; omega
  have k1 := S.count_le a
  have k2 := S.count_le b
  have k3 := S.count_le a.not
  have k4 := S.count_le (a.or b)
  have k5 := S.count_le (a.and b)
  have i1 : IntKind.i64.wrap (((a.count : Nat) : Int) + ((a.not.count : Nat) : Int)) = ((a.count : Nat) : Int) + ((a.not.count : Nat) : Int) := IntWalk.i64_in _ (by omega)
  have i2 : IntKind.i64.wrap ((((a.or b).count : Nat) : Int) + (((a.and b).count : Nat) : Int)) = (((a.or b).count : Nat) : Int) + (((a.and b).count : Nat) : Int) := IntWalk.i64_in _ (by omega)
  have i3 : IntKind.i64.wrap (((a.count : Nat) : Int) + ((b.count : Nat) : Int)) = ((a.count : Nat) : Int) + ((b.count : Nat) : Int) := IntWalk.i64_in _ (by omega)
  clear k1 k2 k3 k4 k5
  go_enter Tryd.func7, Tryd.ntmps7
  go_wp2_with fail
  obtain ⟨W0, hW0⟩ : ∃ W0, (w.alloc (.cells (svc a) 24)).alloc (.cells (svc b) 24) = W0 := ⟨_, rfl⟩
  have bA : Blk W0 w.heap.size 24 (svc a) := by rw [← hW0]; exact (Blk.new _ _ _ rfl).alloc _
  have bB : Blk W0 (w.heap.size + 1) 24 (svc b) := by rw [← hW0]; exact Blk.new _ _ _ (by simp)
  have hB : Below w.heap.size w W0 := by rw [← hW0]; exact (by repeat (first | exact Below.refl _ _ | (refine Below.setCell ?_ (by first | omega | (simp; done) | (simp; omega) | (simp at *; omega)) _) | (refine Below.alloc ?_ (by first | omega | (simp; done) | (simp; omega) | (simp at *; omega)) _) | refine Below.drew ?_ | (refine below_drewN ?_ _) | (refine Below.trans ?_ (Below.mono (by assumption) (by first | omega | (simp; done) | (simp; omega) | (simp at *; omega))))))
  replace hT := hT.below hB hT.lt
  rw [hW0]
  clear hW0
  have a0 := bA.cell 0
  have a1 := bA.cell 1
  have b0 := bB.cell 0
  have b1 := bB.cell 1
  simp only [List.getElem?_toArray, List.getElem?_cons_zero, List.getElem?_cons_succ] at a0 a1 b0 b1
  have hS : W0.drew.cell? ⟨w.heap.size, 0, none⟩ = some (.int .u64 a.lo) ∧ W0.drew.cell? ⟨w.heap.size, 1, none⟩ = some (.int .u64 a.hi) ∧ W0.drew.cell? ⟨w.heap.size + 1, 0, none⟩ = some (.int .u64 b.lo) ∧ W0.drew.cell? ⟨w.heap.size + 1, 1, none⟩ = some (.int .u64 b.hi) ∧ Tab W0.drew ∧ Below w.heap.size w W0.drew := ⟨a0, a1, b0, b1, hT, hB.drew⟩
  clear bA bB hB hT a0 a1 b0 b1
  simp only [List.append_eq, List.cons_append, List.nil_append]
  go_region_held3 (fun W => W.cell? ⟨w.heap.size, 0, none⟩ = some (.int .u64 a.lo) ∧ W.cell? ⟨w.heap.size, 1, none⟩ = some (.int .u64 a.hi) ∧ W.cell? ⟨w.heap.size + 1, 0, none⟩ = some (.int .u64 b.lo) ∧ W.cell? ⟨w.heap.size + 1, 1, none⟩ = some (.int .u64 b.hi) ∧ Tab W ∧ Below w.heap.size w W)
    (first | exact hS | exact keep2 (by assumption) hb)
    (first | (go_at_call 12; first | ((with_reducible refine (or_any _ _ _).mono ?_); rintro e w1 ⟨rfl, hb⟩) | (refine (or_empty _ _).mono ?_; rintro e w1 ⟨rfl, hb⟩)) | (go_at_call 16; refine (not_any _ _).mono ?_; rintro e w1 ⟨rfl, hb⟩) | (go_at_call 14; refine (and_any _ _ _).mono ?_; rintro e w1 ⟨rfl, hb⟩) | (go_at_call 15; refine (minus_any _ _ _).mono ?_; rintro e w1 ⟨rfl, hb⟩) | (go_at_call 22; refine (count_any _ _).mono ?_; rintro e w1 ⟨rfl, hb⟩) | (go_at_call 17; refine (live_any _ ?_).mono ?_; (exact tab2 (by assumption)); rintro e w1 ⟨rfl, hb⟩))
  go_wp2
  go_ret
  exact ⟨rfl, below2 (by assumption)⟩
end Go.Proofs.YtdfjmchkpoobdaaDoor
