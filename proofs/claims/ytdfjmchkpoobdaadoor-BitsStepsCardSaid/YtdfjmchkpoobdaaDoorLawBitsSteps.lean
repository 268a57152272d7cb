/- Shifted by two numbers of one sign a set is what it is shifted by both together: the call answers true. -/
import Derived.Test.YtdfjmchkpoobdaaDoorLive1
import Derived.Test.YtdfjmchkpoobdaaDoorLawsN
namespace Go.Proofs.YtdfjmchkpoobdaaDoor.steps
open Go.RowKit Go.Shelf
open M (S)

/-- What the law's variables hold while it runs. -/
theorem keep1 {w W W' : World} {p q : Value} {g : Nat} (k : W.cell? ⟨g, 0, none⟩ = some p ∧ W.cell? ⟨g, 1, none⟩ = some q ∧ Tab W ∧ Below w.heap.size w W) (hb : Below W.heap.size W W') :
    W'.cell? ⟨g, 0, none⟩ = some p ∧ W'.cell? ⟨g, 1, none⟩ = some q ∧ Tab W' ∧ Below w.heap.size w W' :=
  ⟨(hb.cell (cell_lt k.1)).trans k.1, (hb.cell (cell_lt k.2.1)).trans k.2.1, k.2.2.1.next hb, k.2.2.2.trans (hb.mono k.2.2.2.size)⟩
theorem tab1 {w W : World} {p q : Value} {g : Nat} (k : W.cell? ⟨g, 0, none⟩ = some p ∧ W.cell? ⟨g, 1, none⟩ = some q ∧ Tab W ∧ Below w.heap.size w W) : Tab W := k.2.2.1
theorem below1 {w W : World} {p q : Value} {g : Nat} (k : W.cell? ⟨g, 0, none⟩ = some p ∧ W.cell? ⟨g, 1, none⟩ = some q ∧ Tab W ∧ Below w.heap.size w W) : Below w.heap.size w W := k.2.2.2
theorem eql_true {s t : S} (h : s = t) (W : World) : (binOp .eql 24 (.agg #[.int .u64 s.lo, .int .u64 s.hi]) (.agg #[.int .u64 t.lo, .int .u64 t.hi])).run Tryd.prog W = .ok (.bool true) W := by
  rw [eql_set, h]; simp

/-- What is compared: the same set. -/
theorem eqP (s : S) (n m : Int) (h0 : 0 ≤ n) (h1 : 0 ≤ m) (W : World) : (binOp .eql 24 (.agg #[.int .u64 (shiftS (shiftS s n) m).lo, .int .u64 (shiftS (shiftS s n) m).hi]) (.agg #[.int .u64 (shiftS s (n + m)).lo, .int .u64 (shiftS s (n + m)).hi])).run Tryd.prog W = .ok (.bool true) W := eql_true (shift_shift s n m (.inl ⟨h0, h1⟩)) W
theorem eqN (s : S) (n m : Int) (h0 : 0 ≤ n) (h1 : 0 ≤ m) (W : World) : (binOp .eql 24 (.agg #[.int .u64 (shiftS (shiftS s (-n)) (-m)).lo, .int .u64 (shiftS (shiftS s (-n)) (-m)).hi]) (.agg #[.int .u64 (shiftS s (-n - m)).lo, .int .u64 (shiftS s (-n - m)).hi])).run Tryd.prog W = .ok (.bool true) W :=
  eql_true (by rw [shift_shift s (-n) (-m) (.inr ⟨by omega, by omega⟩)]; rfl) W

set_option maxHeartbeats 1000000 in
theorem far (a : S) (n m : Int) (w : World) (hT : Tab w) (h : n < 0 ∨ m < 0 ∨ 1000 < n ∨ 1000 < m) : Calls Tryd.prog 8 #[.agg #[.int .u64 a.lo, .int .u64 a.hi], .int .i64 n, .int .i64 m] w fun e w' => e = .returned (.bool true) ∧ Below w.heap.size w w' := by
  have hT1 : Tab (w.alloc (.cells (svc a) 24)) := hT.next ((Below.refl _ _).alloc (Nat.le_refl _) _)
  have hl := (live_any _ hT1).mono fun e w' (k : e = .returned (.bool true) ∧ Below _ _ w') => (⟨k.1, below_made k.2⟩ : e = .returned (.bool true) ∧ Below w.heap.size w w')
  have Hl := Lib.hid hl
  clear hl hT1 hT
  by_cases h1 : n < 0
  · have e1 : decide (n < 0) = true := by simpa using h1
    clear h
    go_enter Tryd.func8, Tryd.ntmps8
    go_wp2_with fail
    refine Hl.out.mono ?_
    rintro e w1 ⟨rfl, hb⟩
    go_wp2
    go_ret
    exact ⟨rfl, hb⟩
  · have e1 : decide (n < 0) = false := by simpa using h1
    by_cases h2 : m < 0
    · have e2 : decide (m < 0) = true := by simpa using h2
      clear h
      go_enter Tryd.func8, Tryd.ntmps8
      go_wp2_with fail
      refine Hl.out.mono ?_
      rintro e w1 ⟨rfl, hb⟩
      go_wp2
      go_ret
      exact ⟨rfl, hb⟩
    · have e2 : decide (m < 0) = false := by simpa using h2
      by_cases h3 : 1000 < n
      · have e3 : decide (1000 < n) = true := by simpa using h3
        clear h
        go_enter Tryd.func8, Tryd.ntmps8
        go_wp2_with fail
        refine Hl.out.mono ?_
        rintro e w1 ⟨rfl, hb⟩
        go_wp2
        go_ret
        exact ⟨rfl, hb⟩
      · have e3 : decide (1000 < n) = false := by simpa using h3
        have h4 : 1000 < m := by omega
        have e4 : decide (1000 < m) = true := by simpa using h4
        clear h
        go_enter Tryd.func8, Tryd.ntmps8
        go_wp2_with fail
        refine Hl.out.mono ?_
        rintro e w1 ⟨rfl, hb⟩
        go_wp2
        go_ret
        exact ⟨rfl, hb⟩

attribute [local go_sem ↓] eqP eqN in
set_option maxRecDepth 100000 in
set_option maxHeartbeats 4000000 in
theorem near (a : S) (n m : Int) (w : World) (hT : Tab w) (h1 : 0 ≤ n) (h2 : 0 ≤ m) (h3 : n ≤ 1000) (h4 : m ≤ 1000) : Calls Tryd.prog 8 #[.agg #[.int .u64 a.lo, .int .u64 a.hi], .int .i64 n, .int .i64 m] w fun e w' => e = .returned (.bool true) ∧ Below w.heap.size w w' := by
  have e1 : decide (n < 0) = false := by simp; omega
  have e2 : decide (m < 0) = false := by simp; omega
  have e3 : decide (1000 < n) = false := by simp; omega
  have e4 : decide (1000 < m) = false := by simp; omega
  have i1 : IntKind.i64.wrap (n + m) = n + m := IntWalk.i64_in _ (by omega)
  have i2 : IntKind.i64.wrap (-n) = -n := IntWalk.i64_in _ (by omega)
  have i3 : IntKind.i64.wrap (-m) = -m := IntWalk.i64_in _ (by omega)
  have i4 : IntKind.i64.wrap (-n - m) = -n - m := IntWalk.i64_in _ (by omega)
  go_enter Tryd.func8, Tryd.ntmps8
  go_wp2_with fail
  obtain ⟨W0, hW0⟩ : ∃ W0, w.alloc (.cells (svc a) 24) = W0 := ⟨_, rfl⟩
  have bA : Blk W0 w.heap.size 24 (svc a) := by rw [← hW0]; exact Blk.new _ _ _ rfl
  have hB : Below w.heap.size w W0 := by rw [← hW0]; exact (by repeat (first | exact Below.refl _ _ | (refine Below.setCell ?_ (by first | omega | (simp; done) | (simp; omega) | (simp at *; omega)) _) | (refine Below.alloc ?_ (by first | omega | (simp; done) | (simp; omega) | (simp at *; omega)) _) | refine Below.drew ?_ | (refine below_drewN ?_ _) | (refine Below.trans ?_ (Below.mono (by assumption) (by first | omega | (simp; done) | (simp; omega) | (simp at *; omega))))))
  replace hT := hT.below hB hT.lt
  have a0 := bA.cell 0
  have a1 := bA.cell 1
  simp only [List.getElem?_toArray, List.getElem?_cons_zero, List.getElem?_cons_succ] at a0 a1
  rw [hW0]
  clear hW0
  have hS : W0.drew.cell? ⟨w.heap.size, 0, none⟩ = some (.int .u64 a.lo) ∧ W0.drew.cell? ⟨w.heap.size, 1, none⟩ = some (.int .u64 a.hi) ∧ Tab W0.drew ∧ Below w.heap.size w W0.drew := ⟨a0, a1, hT, hB.drew⟩
  clear bA hB hT a0 a1
  try simp only [List.append_eq, List.cons_append, List.nil_append]
  go_region_held3 (fun W => W.cell? ⟨w.heap.size, 0, none⟩ = some (.int .u64 a.lo) ∧ W.cell? ⟨w.heap.size, 1, none⟩ = some (.int .u64 a.hi) ∧ Tab W ∧ Below w.heap.size w W)
    (first | exact hS | exact keep1 (by assumption) hb)
    (first | (go_at_call 29; refine (shift_any _ _ _ ?_).mono ?_; (exact tab1 (by assumption)); rintro e w1 ⟨rfl, hb⟩) | (go_at_call 17; refine (live_any _ ?_).mono ?_; (exact tab1 (by assumption)); rintro e w1 ⟨rfl, hb⟩))
  go_wp2
  go_ret
  exact ⟨rfl, below1 (by assumption)⟩

theorem walk (a : S) (n m : Int) (w : World) (hT : Tab w) : Calls Tryd.prog 8 #[.agg #[.int .u64 a.lo, .int .u64 a.hi], .int .i64 n, .int .i64 m] w fun e w' => e = .returned (.bool true) ∧ Below w.heap.size w w' := by
  by_cases h : n < 0 ∨ m < 0 ∨ 1000 < n ∨ 1000 < m
  · exact far a n m w hT h
  · exact near a n m w hT (by omega) (by omega) (by omega) (by omega)
end Go.Proofs.YtdfjmchkpoobdaaDoor.steps
