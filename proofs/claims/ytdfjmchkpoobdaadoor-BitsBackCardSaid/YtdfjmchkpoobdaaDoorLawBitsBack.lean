/- A set that is made of a list has just the squares of that; made of its own list it is the same: the call answers true. -/
import Derived.Test.YtdfjmchkpoobdaaDoorRef4
namespace Go.Proofs.YtdfjmchkpoobdaaDoor.back
open Go.RowKit Go.Shelf
open M (S)
open M.S

theorem ofL_clean (xs : List Int) : (ofL xs).Clean := by
  have h : ∀ (xs : List Int) (t : S), t.Clean → (xs.foldl S.put t).Clean := by
    intro xs
    induction xs with
    | nil => exact fun _ h => h
    | cons x xs ih => exact fun t _ => ih _ (put_clean _ _)
  exact h _ _ empty_clean
theorem has_ofL (xs : List Int) (i : Nat) (hi : i < 90) : (ofL xs).has i = xs.any fun x => decide (x = (i : Int)) := by
  have h : ∀ (xs : List Int) (t : S), (xs.foldl S.put t).has i = (t.has i || xs.any fun x => decide (x = (i : Int))) := by
    intro xs
    induction xs with
    | nil => intro t; simp
    | cons x xs ih =>
      intro t
      rw [List.foldl_cons, ih, has_put, List.any_cons, Bool.or_assoc]
      simp [hi]
  rw [ofL, h, has_empty]
  simp
theorem of_same (xs : List Int) (i : Nat) (hi : i < 90) : (ofL xs).has i = ofp xs xs.length i := by
  rw [has_ofL xs i hi]
  unfold ofp
  rw [List.take_length]
theorem of_list (s : S) (hs : s.Clean) : ofL (s.sqs.map fun i => (i.val : Int)) = s := by
  apply ext_has (ofL_clean _) hs
  intro i hi
  rw [has_ofL _ i hi, Bool.eq_iff_iff, List.any_eq_true]
  constructor
  · rintro ⟨x, hx, e⟩
    obtain ⟨y, hy, rfl⟩ := List.mem_map.1 hx
    have e' : y.val = i := by have := of_decide_eq_true e; omega
    rw [← e']
    exact (mem_sqs s y).1 hy
  · intro h
    exact ⟨(i : Int), List.mem_map.2 ⟨⟨i, hi⟩, (mem_sqs s ⟨i, hi⟩).2 h, rfl⟩, by simp⟩
theorem of_back (s : S) (hs : s.Clean) (A : Option Addr) (m c : Nat) (w : World) (hm : s.sqs.length = m) (hr : Rd w A ((s.sqs.map fun i => (i.val : Int)).map iv)) :
    Calls Tryd.prog 33 #[.slice A m c] w fun e w' => e = .returned (.agg #[.int .u64 s.lo, .int .u64 s.hi]) ∧ Below w.heap.size w w' := by
  have hl : (s.sqs.map fun i => (i.val : Int)).length = m := by rw [List.length_map]; exact hm
  have h := of_any A (s.sqs.map fun i => (i.val : Int)) c w hr (by rw [hl, ← hm, S.sqs_length]; have := S.count_le s; omega)
  rw [of_list s hs, hl] at h
  exact h

theorem keep1 {w W W' : World} {p q : Value} {g : Nat} {A : Option Addr} {xs : List Value} (k : W.cell? ⟨g, 0, none⟩ = some p ∧ W.cell? ⟨g, 1, none⟩ = some q ∧ Tab W ∧ Rd W A xs ∧ Below w.heap.size w W) (hb : Below W.heap.size W W') :
    W'.cell? ⟨g, 0, none⟩ = some p ∧ W'.cell? ⟨g, 1, none⟩ = some q ∧ Tab W' ∧ Rd W' A xs ∧ Below w.heap.size w W' :=
  ⟨(hb.cell (cell_lt k.1)).trans k.1, (hb.cell (cell_lt k.2.1)).trans k.2.1, k.2.2.1.next hb, k.2.2.2.1.next hb, k.2.2.2.2.trans (hb.mono k.2.2.2.2.size)⟩
theorem tab1 {w W : World} {p q : Value} {g : Nat} {A : Option Addr} {xs : List Value} (k : W.cell? ⟨g, 0, none⟩ = some p ∧ W.cell? ⟨g, 1, none⟩ = some q ∧ Tab W ∧ Rd W A xs ∧ Below w.heap.size w W) : Tab W := k.2.2.1
theorem rd1 {w W : World} {p q : Value} {g : Nat} {A : Option Addr} {xs : List Value} (k : W.cell? ⟨g, 0, none⟩ = some p ∧ W.cell? ⟨g, 1, none⟩ = some q ∧ Tab W ∧ Rd W A xs ∧ Below w.heap.size w W) : Rd W A xs := k.2.2.2.1
theorem below1 {w W : World} {p q : Value} {g : Nat} {A : Option Addr} {xs : List Value} (k : W.cell? ⟨g, 0, none⟩ = some p ∧ W.cell? ⟨g, 1, none⟩ = some q ∧ Tab W ∧ Rd W A xs ∧ Below w.heap.size w W) : Below w.heap.size w W := k.2.2.2.2
theorem eqS (s : S) (W : World) : (binOp .eql 24 (.agg #[.int .u64 s.lo, .int .u64 s.hi]) (.agg #[.int .u64 s.lo, .int .u64 s.hi])).run Tryd.prog W = .ok (.bool true) W := by
  rw [eql_set]; simp

set_option maxRecDepth 100000 in
set_option maxHeartbeats 1000000 in
theorem long (A : Option Addr) (n c : Nat) (w : World) (hT : Tab w) (h : 1000 < n) : Calls Tryd.prog 6 #[.slice A n c] w fun e w' => e = .returned (.bool true) ∧ Below w.heap.size w w' := by
  have e1 : decide ((1000 : Int) < (n : Int)) = true := by simp; omega
  go_enter Tryd.func6, Tryd.ntmps6
  go_wp2_with fail
  refine (live_any _ hT).mono ?_
  rintro e w1 ⟨rfl, hb⟩
  go_wp2
  go_ret
  exact ⟨rfl, hb⟩

attribute [local go_sem ↓] eqS in
set_option maxRecDepth 100000 in
set_option maxHeartbeats 4000000 in
theorem short (A : Option Addr) (xs : List Int) (c : Nat) (w : World) (hT : Tab w) (hr : Rd w A (xs.map iv)) (h : xs.length ≤ 1000) : Calls Tryd.prog 6 #[.slice A xs.length c] w fun e w' => e = .returned (.bool true) ∧ Below w.heap.size w w' := by
  have e1 : decide ((1000 : Int) < (xs.length : Int)) = false := by simp; omega
  obtain ⟨s, hs⟩ : ∃ s, ofL xs = s := ⟨_, rfl⟩
  have hcl : s.Clean := by rw [← hs]; exact ofL_clean xs
  have hof := of_any A xs c w hr (by omega)
  have hsame : ∀ i, i < 90 → s.has i = ofp xs xs.length i := by rw [← hs]; exact of_same xs
  rw [hs] at hof
  obtain ⟨m, hm⟩ : ∃ m, s.sqs.length = m := ⟨_, rfl⟩
  have Hof := Lib.hid hof
  have Hsame := Lib.hid hsame
  have Hm := Lib.hid hm
  have Hcl := Lib.hid hcl
  clear hs hof hsame hm hcl
  go_enter Tryd.func6, Tryd.ntmps6
  go_wp2_with fail
  refine Hof.out.mono ?_
  rintro e w1 ⟨rfl, hb⟩
  have hT1 := hT.next hb
  have hr1 := hr.next hb
  go_wp2_with fail
  obtain ⟨W0, hW0⟩ : ∃ W0, w1.alloc (.cells (svc s) 24) = W0 := ⟨_, rfl⟩
  have hb1 : Below w1.heap.size w1 W0 := by rw [← hW0]; exact (by repeat (first | exact Below.refl _ _ | (refine Below.setCell ?_ (by first | omega | (simp; done) | (simp; omega) | (simp at *; omega)) _) | (refine Below.alloc ?_ (by first | omega | (simp; done) | (simp; omega) | (simp at *; omega)) _) | refine Below.drew ?_ | (refine below_drewN ?_ _) | (refine Below.trans ?_ (Below.mono (by assumption) (by first | omega | (simp; done) | (simp; omega) | (simp at *; omega))))))
  have bA : Blk W0 w1.heap.size 24 (svc s) := by rw [← hW0]; exact Blk.new _ _ _ rfl
  have hB : Below w.heap.size w W0 := hb.trans (hb1.mono hb.size)
  have a0 := bA.cell 0
  have a1 := bA.cell 1
  simp only [List.getElem?_toArray, List.getElem?_cons_zero, List.getElem?_cons_succ] at a0 a1
  have hS : W0.drew.cell? ⟨w1.heap.size, 0, none⟩ = some (.int .u64 s.lo) ∧ W0.drew.cell? ⟨w1.heap.size, 1, none⟩ = some (.int .u64 s.hi) ∧ Tab W0.drew ∧ Rd W0.drew A (xs.map iv) ∧ Below w.heap.size w W0.drew := ⟨a0, a1, hT1.next hb1.drew, hr1.next hb1.drew, hB.drew⟩
  rw [hW0]
  clear hW0 bA hB a0 a1 hT1 hr1 hT hr hb hb1 Hof
  obtain ⟨g, hg⟩ : ∃ g, w1.heap.size = g := ⟨_, rfl⟩
  rw [hg] at hS ⊢
  clear hg
  try simp only [List.append_eq, List.cons_append, List.nil_append]
  go_region_held3 (fun W => W.cell? ⟨g, 0, none⟩ = some (.int .u64 s.lo) ∧ W.cell? ⟨g, 1, none⟩ = some (.int .u64 s.hi) ∧ Tab W ∧ Rd W A (xs.map iv) ∧ Below w.heap.size w W)
    (first | exact hS | exact keep1 (by assumption) hb)
    (first | (go_at_call 34; refine (rof_any A xs _ _ ?_ ?_).mono ?_; (exact rd1 (by assumption)); (omega); rintro e w1 ⟨A1, k1, rfl, r1, hb⟩) | (go_at_call 11; refine (is_true _ Hcl.out _ _ _ _ r1 Hsame.out).mono ?_; rintro e w1 ⟨rfl, hb⟩) | (go_at_call 21; refine (list_is s (s.sqs.map fun i => (i.val : Int)) m _ ?_ rfl ?_).mono ?_; (exact tab1 (by assumption)); (rw [List.length_map]; exact Hm.out); rintro e w1 ⟨A2, k2, rfl, r2, hb⟩) | (go_at_call 33; refine (of_back s Hcl.out _ m _ _ Hm.out r2).mono ?_; rintro e w1 ⟨rfl, hb⟩) | (go_at_call 17; refine (live_any _ ?_).mono ?_; (exact tab1 (by assumption)); rintro e w1 ⟨rfl, hb⟩))
  go_wp2
  go_ret
  exact ⟨rfl, below1 (by assumption)⟩

theorem walk (A : Option Addr) (xs : List Int) (c : Nat) (w : World) (hT : Tab w) (hr : Rd w A (xs.map iv)) : Calls Tryd.prog 6 #[.slice A xs.length c] w fun e w' => e = .returned (.bool true) ∧ Below w.heap.size w w' := by
  by_cases h : xs.length ≤ 1000
  · exact short A xs c w hT hr h
  · exact long A _ c w hT (by omega)
end Go.Proofs.YtdfjmchkpoobdaaDoor.back
