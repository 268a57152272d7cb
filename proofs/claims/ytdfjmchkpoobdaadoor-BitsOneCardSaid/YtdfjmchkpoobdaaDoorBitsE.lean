/- What First, Last, Shift and Between answer, for all sets and numbers. -/
import Derived.Test.YtdfjmchkpoobdaaDoorBitsD
import Derived.RangeFuncNested
namespace Go.Proofs.YtdfjmchkpoobdaaDoor
open Go.RowKit Go.Shelf
open M (S)
attribute [local go_sem] Oper.semAt_some

/-- A block of cells, known whole. -/
def Blk (w : World) (g : Nat) (t : TypeId) (cs : Array Value) : Prop := w.heap[g]? = some (.cells cs t (0, 0))
section
variable {w w' : World} {g : Nat} {t : TypeId} {cs : Array Value}
theorem Blk.lt (h : Blk w g t cs) : g < w.heap.size := (Array.getElem?_eq_some_iff.1 h).1
theorem Blk.cell (h : Blk w g t cs) (i : Nat) : w.cell? ⟨g, i, none⟩ = cs[i]? := by
  have h' : w.heap[g]? = some (.cells cs t (0, 0)) := h
  simp [World.cell?, h']
theorem Blk.frozen (h : Blk w g t cs) (i : Nat) : w.frozen? ⟨g, i, none⟩ = false := by
  have h' : w.heap[g]? = some (.cells cs t (0, 0)) := h
  simp [World.frozen?, h']
theorem Blk.next (h : Blk w g t cs) (hb : Below w.heap.size w w') : Blk w' g t cs := (hb.block g h.lt).trans h
theorem Blk.new (w : World) (t : TypeId) (cs : Array Value) {g : Nat} (hg : g = w.heap.size) : Blk (w.alloc (.cells cs t)) g t cs := by subst hg; exact World.alloc_heap_new w _
theorem Blk.alloc (h : Blk w g t cs) (o : Obj) : Blk (w.alloc o) g t cs := (Below.heap_alloc w o g h.lt).trans h
theorem Blk.set_ (h : Blk w g t cs) (i : Nat) (u : Value) : Blk (w.setCell ⟨g, i, none⟩ u) g t (cs.setIfInBounds i u) := by
  have h' : w.heap[g]? = some (.cells cs t (0, 0)) := h
  show (w.setCell ⟨g, i, none⟩ u).heap[g]? = _
  simp [World.setCell, Array.getElem?_modify, h']
theorem Blk.far (h : Blk w g t cs) {p : Addr} (hp : g ≠ p.block) (u : Value) : Blk (w.setCell p u) g t cs := (Below.heap_setCell w p u g hp).trans h
theorem Blk.kept {row : Option Nat} (h : Blk w g t cs) (hg : w.grownBy w' row) (hr : ∀ r, row = some r → ∃ o : Obj, w.heap[r]? = some o ∧ o.isCells = false) : Blk w' g t cs := by
  refine (hg.block g h.lt fun e => ?_).trans h
  obtain ⟨o, ho, hc⟩ := hr g e.symm
  have h' : w.heap[g]? = some (.cells cs t (0, 0)) := h
  rw [h'] at ho
  cases ho
  cases hc
theorem Blk.put (h : Blk w g t cs) {l : Nat} {o : Obj} (o' : Obj) (hl : w.heap[l]? = some o) (ho : o.isCells = false) : Blk (w.putObj l o') g t cs :=
  h.kept (grownBy_putObj' w l o') (fun r e => by cases e; exact ⟨o, hl, ho⟩)
theorem keeps_next (hb : Below w.heap.size w w') : KeepsOthers w w' := ⟨hb.size, fun k _ hk _ => (hb.block k (Array.getElem?_eq_some_iff.1 hk).1).trans hk⟩
end
theorem blk_own {β : Type} (g : Nat) (t : TypeId) (f : β → Array Value) : Own (fun s W => Blk W g t (f s)) := fun _ _ _ _ hs hg hr => hs.kept hg hr

abbrev svc (s : S) : Array Value := #[.int .u64 s.lo, .int .u64 s.hi]

/-- The first of some squares, or -1. -/
def first (l : List (Fin 90)) : Int := match l with | [] => -1 | x :: _ => x.val

set_option maxRecDepth 100000 in
set_option maxHeartbeats 2000000 in
theorem first_in (s : S) (w : World) (hT : Tab w) :
    CallsIn Fence.wide 5 Tryd.prog 23 #[.agg #[.int .u64 s.lo, .int .u64 s.hi]] w fun e W' => e = .returned (.int .i64 (first s.sqs)) ∧ Below w.heap.size w W' := by
  have hro : Fence.wide.round = none := rfl
  have hg := hT.lt
  refine callsIn_of_wp_marks Tryd.func23 rfl trivial ?_ hro
  simp only [Tryd.ntmps23, List.size_toArray, List.length_cons, List.length_nil, Nat.reduceAdd, Nat.reduceSub, Array.replicate_succ, Array.replicate_zero, List.push_toArray, List.append_toArray, List.nil_append, List.cons_append]
  gi_wp2_with (refine ⟨trivial, ?_⟩; gi_at_call 37; refine (callsIn_wide.2 (squares_any s _)).mono ?_; rintro e w' ⟨rfl, rfl⟩)
  obtain ⟨W0, hW0⟩ : ∃ W0, ((w.alloc (.cells (svc s) 24)).alloc (.cells #[.int .i64 0] 3)).alloc (.cells (svc s) 24) = W0 := ⟨_, rfl⟩
  have bR : Blk W0 (w.heap.size + 1) 3 #[.int .i64 0] := by rw [← hW0]; exact (Blk.new _ _ _ (by simp)).alloc _
  have bS : Blk W0 (w.heap.size + 2) 24 (svc s) := by rw [← hW0]; exact Blk.new _ _ _ (by simp)
  have hB0 : Below w.heap.size w W0 := by rw [← hW0]; exact (((Below.refl _ w).alloc (Nat.le_refl _) _).alloc (by simp) _).alloc (by simp; omega) _
  have hsz : W0.heap.size = w.heap.size + 3 := by rw [← hW0]; simp
  rw [hW0]
  refine wpIn_rangeFunc_ownG hro (by decide) (gf := 40) (lb := #[.pointer (some ⟨w.heap.size + 2, 0, none⟩)]) rfl trivial (enters_of Tryd.func40 (by kernel_rfl) rfl)
    (squares_stops 4 (by decide) (w.heap.size + 2) w.heap.size W0.heap.size s W0 (by omega) (bS.cell 0) (bS.cell 1) (Nat.le_refl _) (hT.below hB0 hg) hg) Kept.trans (Kept.put (by omega)) (Below.refl _ _) (fun _ => rfl)
    (fun pre W => pre = [] ∧ Blk W (w.heap.size + 1) 3 #[.int .i64 0] ∧ Below w.heap.size w W)
    (fun c pre W => c = .ret ∧ Blk W (w.heap.size + 1) 3 #[.int .i64 (first pre)] ∧ pre ≠ [] ∧ Below w.heap.size w W)
    (OwnFrom.and (ownFrom_pure _ _) (OwnFrom.and (Own.from (blk_own _ _ _) _) (ownFrom_below (Nat.le_refl _) (by omega))))
    (fun c => OwnFrom.and (ownFrom_pure _ _) (OwnFrom.and (Own.from (blk_own _ _ _) _) (OwnFrom.and (ownFrom_pure _ _) (ownFrom_below (Nat.le_refl _) (by omega)))))
    ⟨rfl, bR, hB0⟩
    (fun x => { tmps := #[.agg (svc s), .pointer (some ⟨w.heap.size, 0, none⟩), .pointer (some ⟨w.heap.size + 1, 0, none⟩), sqv x, .agg (svc s), .func (.func 40) #[] #[.pointer (some ⟨w.heap.size + 2, 0, none⟩)], sqv x, undef], defers := [] }) ?assign ?body ?done ?stop
  case assign =>
    intro l x W K hK
    gi_wp2
    exact hK
  case body =>
    rintro l pre x W ⟨rfl, bR, hB⟩ hlt
    have hc := bR.cell 0
    have hf := bR.frozen 0
    simp only [List.getElem?_toArray, List.getElem?_cons_zero] at hc
    gi_wp2
    exact ⟨(KeepsOthers.setCell _ _ _).from _, rfl, bR.set_ 0 (sqv x), by simp, hB.setCell (p := ⟨w.heap.size + 1, 0, none⟩) (by simp) _⟩
  case done =>
    rintro D ys W hD hys ⟨hn, bR, hB⟩ hK
    have hc := bR.cell 0
    have hf := bR.frozen 0
    simp only [List.getElem?_toArray, List.getElem?_cons_zero] at hc
    have hfin : first s.sqs = -1 := by rw [← hys, hn]; rfl
    have Hf := Lib.hid hfin
    clear hfin hys hn
    gi_wp2
    have hK2 := (KeepsOthers.setCell W ⟨w.heap.size + 1, 0, none⟩ (.int .i64 (-1))).same D _ hK rfl
    have bR2 := (bR.set_ 0 (.int .i64 (-1))).put (.deferred none) hK2 rfl
    refine ⟨by simp, .inl ⟨_, _, rfl, run_takeDeferred hK2, ?_⟩⟩
    refine ⟨.int .i64 (-1), by simp [results, Tryd.results23, go_sem, bR2.cell 0], by rw [Hf.out], ?_⟩
    exact (hB.setCell (p := ⟨w.heap.size + 1, 0, none⟩) (by simp) _).trans (belowK_b (w := w) (Nat.le_refl _) _ D _ _ (by omega) hK2 rfl rfl)
  case stop =>
    rintro D c pre W hD hpre ⟨rfl, bR, hne, hB⟩ hK
    have hfin : first s.sqs = first pre := by
      obtain ⟨r, hr⟩ := hpre
      cases pre with
      | nil => exact absurd rfl hne
      | cons x p => rw [← hr]; rfl
    have hc := bR.cell 0
    simp only [List.getElem?_toArray, List.getElem?_cons_zero] at hc
    have Hf := Lib.hid hfin
    clear hfin hpre hne
    gi_wp2
    have bR2 := bR.put (.deferred none) hK rfl
    refine ⟨by simp, .inl ⟨_, _, rfl, run_takeDeferred hK, ?_⟩⟩
    refine ⟨.int .i64 (first pre), by simp [results, Tryd.results23, go_sem, bR2.cell 0], by rw [Hf.out], ?_⟩
    exact hB.trans (belowK_b (w := w) (Nat.le_refl _) _ D _ _ (by omega) hK rfl rfl)

/-- The last of some squares, or -1. -/
def last (l : List (Fin 90)) : Int := match l.getLast? with | none => -1 | some x => x.val
theorem last_snoc (l : List (Fin 90)) (x : Fin 90) : last (l ++ [x]) = x.val := by simp [last]

set_option maxRecDepth 100000 in
set_option maxHeartbeats 2000000 in
theorem last_in (s : S) (w : World) (hT : Tab w) :
    CallsIn Fence.wide 5 Tryd.prog 24 #[.agg #[.int .u64 s.lo, .int .u64 s.hi]] w fun e W' => e = .returned (.int .i64 (last s.sqs)) ∧ Below w.heap.size w W' := by
  have hro : Fence.wide.round = none := rfl
  have hg := hT.lt
  refine callsIn_of_wp_marks Tryd.func24 rfl trivial ?_ hro
  simp only [Tryd.ntmps24, List.size_toArray, List.length_cons, List.length_nil, Nat.reduceAdd, Nat.reduceSub, Array.replicate_succ, Array.replicate_zero, List.push_toArray, List.append_toArray, List.nil_append, List.cons_append]
  gi_wp2_with (refine ⟨trivial, ?_⟩; gi_at_call 37; refine (callsIn_wide.2 (squares_any s _)).mono ?_; rintro e w' ⟨rfl, rfl⟩)
  obtain ⟨W0, hW0⟩ : ∃ W0, ((w.alloc (.cells (svc s) 24)).alloc (.cells #[.int .i64 (-1)] 3)).alloc (.cells (svc s) 24) = W0 := ⟨_, rfl⟩
  have bR : Blk W0 (w.heap.size + 1) 3 #[.int .i64 (-1)] := by rw [← hW0]; exact (Blk.new _ _ _ (by simp)).alloc _
  have bS : Blk W0 (w.heap.size + 2) 24 (svc s) := by rw [← hW0]; exact Blk.new _ _ _ (by simp)
  have hB0 : Below w.heap.size w W0 := by rw [← hW0]; exact (((Below.refl _ w).alloc (Nat.le_refl _) _).alloc (by simp) _).alloc (by simp; omega) _
  have hsz : W0.heap.size = w.heap.size + 3 := by rw [← hW0]; simp
  rw [hW0]
  refine wpIn_rangeFunc_ownG hro (by decide) (gf := 40) (lb := #[.pointer (some ⟨w.heap.size + 2, 0, none⟩)]) rfl trivial (enters_of Tryd.func40 (by kernel_rfl) rfl)
    (squares_stops 4 (by decide) (w.heap.size + 2) w.heap.size W0.heap.size s W0 (by omega) (bS.cell 0) (bS.cell 1) (Nat.le_refl _) (hT.below hB0 hg) hg) Kept.trans (Kept.put (by omega)) (Below.refl _ _) (fun _ => rfl)
    (fun pre W => Blk W (w.heap.size + 1) 3 #[.int .i64 (last pre)] ∧ Below w.heap.size w W)
    (fun _ _ _ => False)
    (OwnFrom.and (Own.from (blk_own _ _ _) _) (ownFrom_below (Nat.le_refl _) (by omega)))
    (fun _ _ _ _ _ hs _ _ => hs)
    ⟨bR, hB0⟩
    (fun x => { tmps := #[.agg (svc s), .pointer (some ⟨w.heap.size, 0, none⟩), .int .i64 0, .pointer (some ⟨w.heap.size + 1, 0, none⟩), sqv x, .agg (svc s), .func (.func 40) #[] #[.pointer (some ⟨w.heap.size + 2, 0, none⟩)], sqv x, undef, undef], defers := [] }) ?assign ?body ?done ?stop
  case assign =>
    intro l x W K hK
    gi_wp2
    exact hK
  case body =>
    rintro l pre x W ⟨bR, hB⟩ hlt
    have hc := bR.cell 0
    have hf := bR.frozen 0
    simp only [List.getElem?_toArray, List.getElem?_cons_zero] at hc
    gi_wp2
    exact ⟨(KeepsOthers.setCell _ _ _).from _, Kept.set (by simp) (by simp; omega) _, by rw [last_snoc]; exact bR.set_ 0 (sqv x), hB.setCell (p := ⟨w.heap.size + 1, 0, none⟩) (by simp) _⟩
  case done =>
    rintro D ys W hD rfl ⟨bR, hB⟩ hK
    have hc := bR.cell 0
    simp only [List.getElem?_toArray, List.getElem?_cons_zero] at hc
    gi_wp2
    refine ⟨by simp, .inl ⟨_, _, rfl, run_takeDeferred hK, ?_⟩⟩
    exact ⟨_, results_tmp rfl _ _ _, rfl, hB.trans (belowK_b (w := w) (Nat.le_refl _) W D _ _ (by omega) hK rfl rfl)⟩
  case stop =>
    rintro D c pre W _ _ h _
    exact h.elim

theorem blk_two {w : World} {g : Nat} {t : TypeId} {a b : Value} (h : Blk w g t #[a, b]) (c d : Value) : Blk ((w.setCell ⟨g, 0, none⟩ c).setCell ⟨g, 1, none⟩ d) g t #[c, d] := by
  simpa using (h.set_ 0 c).set_ 1 d
theorem Kept.two {n₀ B g : Nat} {W w1 : World} (hn : n₀ ≤ W.heap.size) (hb : Below W.heap.size W w1) (h1 : n₀ ≤ g) (h2 : g < B) (c d : Value) : Kept n₀ B W ((w1.setCell ⟨g, 0, none⟩ c).setCell ⟨g, 1, none⟩ d) :=
  ((Kept.next hn hb).trans (Kept.set (p := ⟨g, 0, none⟩) h1 h2 c)).trans (Kept.set (p := ⟨g, 1, none⟩) h1 h2 d)
theorem keeps_two {W w1 : World} (hb : Below W.heap.size W w1) (p q : Addr) (c d : Value) : KeepsOthers W ((w1.setCell p c).setCell q d) :=
  ((keeps_next hb).trans (KeepsOthers.setCell _ _ _)).trans (KeepsOthers.setCell _ _ _)

/-- Some squares, n further on. -/
def shifted (n : Int) (l : List (Fin 90)) : S := l.foldl (fun t x => t.put (x.val + n)) S.empty
theorem shifted_snoc (n : Int) (l : List (Fin 90)) (x : Fin 90) : shifted n (l ++ [x]) = (shifted n l).put (x.val + n) := by simp [shifted]

set_option maxRecDepth 100000 in
set_option maxHeartbeats 2000000 in
theorem shift_in (s : S) (n : Int) (w : World) (hT : Tab w) (h1 : -90 < n) (h2 : n < 90) :
    CallsIn Fence.wide 5 Tryd.prog 29 #[.agg #[.int .u64 s.lo, .int .u64 s.hi], .int .i64 n] w fun e W' => e = .returned (.agg #[.int .u64 (shifted n s.sqs).lo, .int .u64 (shifted n s.sqs).hi]) ∧ Below w.heap.size w W' := by
  have hro : Fence.wide.round = none := rfl
  have hg := hT.lt
  have e1 : decide (n ≤ -90) = false := by simp; omega
  have e2 : decide (90 ≤ n) = false := by simp; omega
  refine callsIn_of_wp_marks Tryd.func29 rfl trivial ?_ hro
  simp only [Tryd.ntmps29, List.size_toArray, List.length_cons, List.length_nil, Nat.reduceAdd, Nat.reduceSub, Array.replicate_succ, Array.replicate_zero, List.push_toArray, List.append_toArray, List.nil_append, List.cons_append]
  gi_wp2_with (refine ⟨trivial, ?_⟩; gi_at_call 37; refine (callsIn_wide.2 (squares_any s _)).mono ?_; rintro e w' ⟨rfl, rfl⟩)
  obtain ⟨W0, hW0⟩ : ∃ W0, ((((w.alloc (.cells (svc s) 24)).alloc (.cells #[.int .i64 n] 3)).alloc (.cells #[.int .u64 0, .int .u64 0] 24)).alloc (.cells #[.int .u64 0, .int .u64 0] 24)).alloc (.cells (svc s) 24) = W0 := ⟨_, rfl⟩
  have bN : Blk W0 (w.heap.size + 1) 3 #[.int .i64 n] := by rw [← hW0]; exact (((Blk.new _ _ _ (by simp)).alloc _).alloc _).alloc _
  have bR : Blk W0 (w.heap.size + 2) 24 #[.int .u64 0, .int .u64 0] := by rw [← hW0]; exact ((Blk.new _ _ _ (by simp)).alloc _).alloc _
  have bT : Blk W0 (w.heap.size + 3) 24 (svc (shifted n [])) := by rw [← hW0]; exact (Blk.new _ _ _ (by simp)).alloc _
  have bS : Blk W0 (w.heap.size + 4) 24 (svc s) := by rw [← hW0]; exact Blk.new _ _ _ (by simp)
  have hB0 : Below w.heap.size w W0 := by rw [← hW0]; exact (by repeat (first | exact Below.refl _ _ | (refine Below.setCell ?_ (by first | omega | (simp; done) | (simp; omega) | (simp at *; omega)) _) | (refine Below.alloc ?_ (by first | omega | (simp; done) | (simp; omega) | (simp at *; omega)) _) | refine Below.drew ?_ | (refine below_drewN ?_ _) | (refine Below.trans ?_ (Below.mono (by assumption) (by first | omega | (simp; done) | (simp; omega) | (simp at *; omega))))))
  have hsz : W0.heap.size = w.heap.size + 5 := by rw [← hW0]; simp
  rw [hW0]
  refine wpIn_rangeFunc_ownG hro (by decide) (gf := 40) (lb := #[.pointer (some ⟨w.heap.size + 4, 0, none⟩)]) rfl trivial (enters_of Tryd.func40 (by kernel_rfl) rfl)
    (squares_stops 4 (by decide) (w.heap.size + 4) w.heap.size W0.heap.size s W0 (by omega) (bS.cell 0) (bS.cell 1) (Nat.le_refl _) (hT.below hB0 hg) hg) Kept.trans (Kept.put (by omega)) (Below.refl _ _) (fun _ => rfl)
    (fun pre W => Blk W (w.heap.size + 1) 3 #[.int .i64 n] ∧ Blk W (w.heap.size + 2) 24 #[.int .u64 0, .int .u64 0] ∧ Blk W (w.heap.size + 3) 24 (svc (shifted n pre)) ∧ Below w.heap.size w W)
    (fun _ _ _ => False)
    (OwnFrom.and (Own.from (blk_own _ _ _) _) (OwnFrom.and (Own.from (blk_own _ _ _) _) (OwnFrom.and (Own.from (blk_own _ _ (fun pre => svc (shifted n pre))) _) (ownFrom_below (Nat.le_refl _) (by omega)))))
    (fun _ _ _ _ _ hs _ _ => hs)
    ⟨bN, bR, bT, hB0⟩
    (fun x => { tmps := #[.agg (svc s), .int .i64 n, .pointer (some ⟨w.heap.size, 0, none⟩), .pointer (some ⟨w.heap.size + 1, 0, none⟩), .pointer (some ⟨w.heap.size + 2, 0, none⟩), .pointer (some ⟨w.heap.size + 3, 0, none⟩), sqv x, .int .i64 n, .bool false, .bool false, .int .i64 n, .bool false, .bool false, undef, .agg (svc s), .func (.func 40) #[] #[.pointer (some ⟨w.heap.size + 4, 0, none⟩)], sqv x, undef, undef, undef, undef, undef, undef], defers := [] }) ?assign ?body ?done ?stop
  case assign =>
    intro l x W K hK
    gi_wp2
    exact hK
  case body =>
    rintro l pre x W ⟨bN, bR, bT, hB⟩ hlt
    have hbs := hB.size
    have hx := x.isLt
    have cn := bN.cell 0
    have t0 := bT.cell 0
    have t1 := bT.cell 1
    simp only [List.getElem?_toArray, List.getElem?_cons_zero, List.getElem?_cons_succ] at cn t0 t1
    gi_wp2_with (refine ⟨trivial, ?_⟩; gi_at_call 26; refine (CallsIn.inRound l (callsIn_wide.2 (with_any (shifted n pre) (x.val + n) _))).mono ?_; rintro e w1 ⟨rfl, hb1⟩; have bT1 := bT.next hb1; have q0 := bT1.cell 0; have q1 := bT1.cell 1; have f0 := bT1.frozen 0; have f1 := bT1.frozen 1; simp only [List.getElem?_toArray, List.getElem?_cons_zero, List.getElem?_cons_succ] at q0 q1)
    have hz1 := hb1.size
    refine ⟨(keeps_two hb1 _ _ _ _).from _, Kept.two hbs hb1 (by omega) (by omega) _ _, ?_, ?_, ?_, ?_⟩
    · exact ((bN.next hb1).far (by simp) _).far (by simp) _
    · exact ((bR.next hb1).far (by simp) _).far (by simp) _
    · rw [shifted_snoc]
      exact blk_two bT1 _ _
    · exact hB.trans (Kept.two (B := w.heap.size + 4) hbs hb1 (by omega) (by omega) _ _).1
  case done =>
    rintro D ys W hD rfl ⟨bN, bR, bT, hB⟩ hK
    have t0 := bT.cell 0
    have t1 := bT.cell 1
    have r0 := bR.cell 0
    have r1 := bR.cell 1
    have f0 := bR.frozen 0
    have f1 := bR.frozen 1
    simp only [List.getElem?_toArray, List.getElem?_cons_zero, List.getElem?_cons_succ] at t0 t1 r0 r1
    gi_wp2
    have hK2 := (keeps_two (Below.refl W.heap.size W) ⟨w.heap.size + 2, 0, none⟩ ⟨w.heap.size + 2, 1, none⟩ (.int .u64 (shifted n s.sqs).lo) (.int .u64 (shifted n s.sqs).hi)).same D _ hK rfl
    have bR2 := (blk_two bR (.int .u64 (shifted n s.sqs).lo) (.int .u64 (shifted n s.sqs).hi)).put (.deferred none) hK2 rfl
    refine ⟨by simp, .inl ⟨_, _, rfl, run_takeDeferred hK2, ?_⟩⟩
    refine ⟨.agg #[.int .u64 (shifted n s.sqs).lo, .int .u64 (shifted n s.sqs).hi], by simp [results, Tryd.results29, go_sem, bR2.cell 0, bR2.cell 1], rfl, ?_⟩
    exact ((hB.setCell (p := ⟨w.heap.size + 2, 0, none⟩) (by simp) _).setCell (p := ⟨w.heap.size + 2, 1, none⟩) (by simp) _).trans (belowK_b (w := w) (Nat.le_refl _) _ D _ _ (by omega) hK2 rfl rfl)
  case stop =>
    rintro D c pre W _ _ h _
    exact h.elim

set_option maxHeartbeats 400000 in
theorem shift_far (s : S) (n : Int) (w : World) (h : n ≤ -90 ∨ 90 ≤ n) :
    Calls Tryd.prog 29 #[.agg #[.int .u64 s.lo, .int .u64 s.hi], .int .i64 n] w fun e W' => e = .returned (.agg #[.int .u64 S.empty.lo, .int .u64 S.empty.hi]) ∧ Below w.heap.size w W' := by
  rcases h with h | h
  · have e1 : decide (n ≤ -90) = true := by simp; omega
    go_enter Tryd.func29, Tryd.ntmps29
    go_wp2
    exact bodyPost_ret (v := .agg #[.int .u64 S.empty.lo, .int .u64 S.empty.hi]) (by simp [results, Tryd.results29, go_sem, S.empty]) rfl ⟨rfl, (by repeat (first | exact Below.refl _ _ | (refine Below.setCell ?_ (by first | omega | (simp; done) | (simp; omega) | (simp at *; omega)) _) | (refine Below.alloc ?_ (by first | omega | (simp; done) | (simp; omega) | (simp at *; omega)) _) | refine Below.drew ?_ | (refine below_drewN ?_ _) | (refine Below.trans ?_ (Below.mono (by assumption) (by first | omega | (simp; done) | (simp; omega) | (simp at *; omega))))))⟩
  · have e1 : decide (n ≤ -90) = false := by simp; omega
    have e2 : decide (90 ≤ n) = true := by simp; omega
    go_enter Tryd.func29, Tryd.ntmps29
    go_wp2
    exact bodyPost_ret (v := .agg #[.int .u64 S.empty.lo, .int .u64 S.empty.hi]) (by simp [results, Tryd.results29, go_sem, S.empty]) rfl ⟨rfl, (by repeat (first | exact Below.refl _ _ | (refine Below.setCell ?_ (by first | omega | (simp; done) | (simp; omega) | (simp at *; omega)) _) | (refine Below.alloc ?_ (by first | omega | (simp; done) | (simp; omega) | (simp at *; omega)) _) | refine Below.drew ?_ | (refine below_drewN ?_ _) | (refine Below.trans ?_ (Below.mono (by assumption) (by first | omega | (simp; done) | (simp; omega) | (simp at *; omega))))))⟩

/-- Those of some squares that lie between two bounds. -/
def inner (lo hi : Int) (l : List (Fin 90)) : S := l.foldl (fun t x => if lo < x.val ∧ (x.val : Int) < hi then t.put x.val else t) S.empty
theorem inner_in (lo hi : Int) (l : List (Fin 90)) (x : Fin 90) (h : lo < x.val ∧ (x.val : Int) < hi) : inner lo hi (l ++ [x]) = (inner lo hi l).put x.val := by simp [inner, h]
theorem inner_out (lo hi : Int) (l : List (Fin 90)) (x : Fin 90) (h : ¬ (lo < x.val ∧ (x.val : Int) < hi)) : inner lo hi (l ++ [x]) = inner lo hi l := by
  simp only [inner, List.foldl_append, List.foldl_cons, List.foldl_nil]
  rw [if_neg h]

set_option maxRecDepth 100000 in
set_option maxHeartbeats 2000000 in
theorem between_lt (s : S) (n m : Int) (w : World) (hT : Tab w) (hnm : n < m) :
    CallsIn Fence.wide 5 Tryd.prog 31 #[.agg #[.int .u64 s.lo, .int .u64 s.hi], .int .i64 n, .int .i64 m] w fun e W' => e = .returned (.agg #[.int .u64 (inner n m s.sqs).lo, .int .u64 (inner n m s.sqs).hi]) ∧ Below w.heap.size w W' := by
  have hro : Fence.wide.round = none := rfl
  have hg := hT.lt
  refine callsIn_of_wp_marks Tryd.func31 rfl trivial ?_ hro
  simp only [Tryd.ntmps31, List.size_toArray, List.length_cons, List.length_nil, Nat.reduceAdd, Nat.reduceSub, Array.replicate_succ, Array.replicate_zero, List.push_toArray, List.append_toArray, List.nil_append, List.cons_append]
  gi_wp2_with (refine ⟨trivial, ?_⟩; gi_at_call 37; refine (callsIn_wide.2 (squares_any s _)).mono ?_; rintro e w' ⟨rfl, rfl⟩)
  obtain ⟨W0, hW0⟩ : ∃ W0, (((((w.alloc (.cells (svc s) 24)).alloc (.cells #[.int .u64 0, .int .u64 0] 24)).alloc (.cells #[.int .i64 n] 3)).alloc (.cells #[.int .i64 m] 3)).alloc (.cells #[.int .u64 0, .int .u64 0] 24)).alloc (.cells (svc s) 24) = W0 := ⟨_, rfl⟩
  have bR : Blk W0 (w.heap.size + 1) 24 #[.int .u64 0, .int .u64 0] := by rw [← hW0]; exact ((((Blk.new _ _ _ (by simp)).alloc _).alloc _).alloc _).alloc _
  have bA : Blk W0 (w.heap.size + 2) 3 #[.int .i64 n] := by rw [← hW0]; exact (((Blk.new _ _ _ (by simp)).alloc _).alloc _).alloc _
  have bB : Blk W0 (w.heap.size + 3) 3 #[.int .i64 m] := by rw [← hW0]; exact ((Blk.new _ _ _ (by simp)).alloc _).alloc _
  have bT : Blk W0 (w.heap.size + 4) 24 (svc (inner n m [])) := by rw [← hW0]; exact (Blk.new _ _ _ (by simp)).alloc _
  have bS : Blk W0 (w.heap.size + 5) 24 (svc s) := by rw [← hW0]; exact Blk.new _ _ _ (by simp)
  have hB0 : Below w.heap.size w W0 := by rw [← hW0]; exact (by repeat (first | exact Below.refl _ _ | (refine Below.setCell ?_ (by first | omega | (simp; done) | (simp; omega) | (simp at *; omega)) _) | (refine Below.alloc ?_ (by first | omega | (simp; done) | (simp; omega) | (simp at *; omega)) _) | refine Below.drew ?_ | (refine below_drewN ?_ _) | (refine Below.trans ?_ (Below.mono (by assumption) (by first | omega | (simp; done) | (simp; omega) | (simp at *; omega))))))
  have hsz : W0.heap.size = w.heap.size + 6 := by rw [← hW0]; simp
  rw [hW0]
  refine wpIn_rangeFunc_ownG hro (by decide) (gf := 40) (lb := #[.pointer (some ⟨w.heap.size + 5, 0, none⟩)]) rfl trivial (enters_of Tryd.func40 (by kernel_rfl) rfl)
    (squares_stops 4 (by decide) (w.heap.size + 5) w.heap.size W0.heap.size s W0 (by omega) (bS.cell 0) (bS.cell 1) (Nat.le_refl _) (hT.below hB0 hg) hg) Kept.trans (Kept.put (by omega)) (Below.refl _ _) (fun _ => rfl)
    (fun pre W => Blk W (w.heap.size + 1) 24 #[.int .u64 0, .int .u64 0] ∧ Blk W (w.heap.size + 2) 3 #[.int .i64 n] ∧ Blk W (w.heap.size + 3) 3 #[.int .i64 m] ∧ Blk W (w.heap.size + 4) 24 (svc (inner n m pre)) ∧ Below w.heap.size w W)
    (fun _ _ _ => False)
    (OwnFrom.and (Own.from (blk_own _ _ _) _) (OwnFrom.and (Own.from (blk_own _ _ _) _) (OwnFrom.and (Own.from (blk_own _ _ _) _) (OwnFrom.and (Own.from (blk_own _ _ (fun pre => svc (inner n m pre))) _) (ownFrom_below (Nat.le_refl _) (by omega))))))
    (fun _ _ _ _ _ hs _ _ => hs)
    ⟨bR, bA, bB, bT, hB0⟩
    (fun x => { tmps := #[.agg (svc s), .int .i64 n, .int .i64 m, .pointer (some ⟨w.heap.size, 0, none⟩), undef, undef, .pointer (some ⟨w.heap.size + 1, 0, none⟩), .pointer (some ⟨w.heap.size + 2, 0, none⟩), .pointer (some ⟨w.heap.size + 3, 0, none⟩), .pointer (some ⟨w.heap.size + 4, 0, none⟩), sqv x, .int .i64 n, .int .i64 m, .int .i64 n, .int .i64 n, .int .i64 m, .int .i64 m, .agg (svc s), .func (.func 40) #[] #[.pointer (some ⟨w.heap.size + 5, 0, none⟩)], sqv x, undef, undef, undef, undef, undef, undef, undef, undef, undef, undef, undef, undef], defers := [] }) ?assign ?body ?done ?stop
  case assign =>
    intro l x W K hK
    gi_wp2
    exact hK
  case body =>
    rintro l pre x W ⟨bR, bA, bB, bT, hB⟩ hlt
    have hbs := hB.size
    have hx := x.isLt
    have ca := bA.cell 0
    have cb := bB.cell 0
    have t0 := bT.cell 0
    have t1 := bT.cell 1
    simp only [List.getElem?_toArray, List.getElem?_cons_zero, List.getElem?_cons_succ] at ca cb t0 t1
    by_cases h : n < x.val ∧ (x.val : Int) < m
    · have g1 : decide (n < (x.val : Int)) = true := by simpa using h.1
      have g2 : decide ((x.val : Int) < m) = true := by simpa using h.2
      gi_wp2_with (refine ⟨trivial, ?_⟩; gi_at_call 26; refine (CallsIn.inRound l (callsIn_wide.2 (with_any (inner n m pre) x.val _))).mono ?_; rintro e w1 ⟨rfl, hb1⟩; have bT1 := bT.next hb1; have q0 := bT1.cell 0; have q1 := bT1.cell 1; have f0 := bT1.frozen 0; have f1 := bT1.frozen 1; simp only [List.getElem?_toArray, List.getElem?_cons_zero, List.getElem?_cons_succ] at q0 q1)
      have hz1 := hb1.size
      refine ⟨(keeps_two hb1 _ _ _ _).from _, Kept.two hbs hb1 (by omega) (by omega) _ _, ?_, ?_, ?_, ?_, ?_⟩
      · exact ((bR.next hb1).far (by simp) _).far (by simp) _
      · exact ((bA.next hb1).far (by simp) _).far (by simp) _
      · exact ((bB.next hb1).far (by simp) _).far (by simp) _
      · rw [inner_in _ _ _ _ h]
        exact blk_two bT1 _ _
      · exact hB.trans (Kept.two (B := w.heap.size + 5) hbs hb1 (by omega) (by omega) _ _).1
    · have Hh := Lib.hid h
      by_cases h1 : n < (x.val : Int)
      · have g1 : decide (n < (x.val : Int)) = true := by simpa using h1
        have g2 : decide ((x.val : Int) < m) = false := by simp; omega
        clear h
        gi_wp2
        exact ⟨KeepsFrom.refl _ _, Kept.refl _ _ _, bR, bA, bB, by rw [inner_out _ _ _ _ Hh.out]; exact bT, hB⟩
      · have g1 : decide (n < (x.val : Int)) = false := by simp; omega
        clear h
        gi_wp2
        exact ⟨KeepsFrom.refl _ _, Kept.refl _ _ _, bR, bA, bB, by rw [inner_out _ _ _ _ Hh.out]; exact bT, hB⟩
  case done =>
    rintro D ys W hD rfl ⟨bR, bA, bB, bT, hB⟩ hK
    have t0 := bT.cell 0
    have t1 := bT.cell 1
    have r0 := bR.cell 0
    have r1 := bR.cell 1
    have f0 := bR.frozen 0
    have f1 := bR.frozen 1
    simp only [List.getElem?_toArray, List.getElem?_cons_zero, List.getElem?_cons_succ] at t0 t1 r0 r1
    gi_wp2
    have hK2 := (keeps_two (Below.refl W.heap.size W) ⟨w.heap.size + 1, 0, none⟩ ⟨w.heap.size + 1, 1, none⟩ (.int .u64 (inner n m s.sqs).lo) (.int .u64 (inner n m s.sqs).hi)).same D _ hK rfl
    have bR2 := (blk_two bR (.int .u64 (inner n m s.sqs).lo) (.int .u64 (inner n m s.sqs).hi)).put (.deferred none) hK2 rfl
    refine ⟨by simp, .inl ⟨_, _, rfl, run_takeDeferred hK2, ?_⟩⟩
    refine ⟨.agg #[.int .u64 (inner n m s.sqs).lo, .int .u64 (inner n m s.sqs).hi], by simp [results, Tryd.results31, go_sem, bR2.cell 0, bR2.cell 1], rfl, ?_⟩
    exact ((hB.setCell (p := ⟨w.heap.size + 1, 0, none⟩) (by simp) _).setCell (p := ⟨w.heap.size + 1, 1, none⟩) (by simp) _).trans (belowK_b (w := w) (Nat.le_refl _) _ D _ _ (by omega) hK2 rfl rfl)
  case stop =>
    rintro D c pre W _ _ h _
    exact h.elim

set_option maxRecDepth 100000 in
set_option maxHeartbeats 2000000 in
theorem between_eq (s : S) (n : Int) (w : World) (hT : Tab w) :
    CallsIn Fence.wide 5 Tryd.prog 31 #[.agg #[.int .u64 s.lo, .int .u64 s.hi], .int .i64 n, .int .i64 n] w fun e W' => e = .returned (.agg #[.int .u64 (inner n n s.sqs).lo, .int .u64 (inner n n s.sqs).hi]) ∧ Below w.heap.size w W' := by
  have hro : Fence.wide.round = none := rfl
  have hg := hT.lt
  refine callsIn_of_wp_marks Tryd.func31 rfl trivial ?_ hro
  simp only [Tryd.ntmps31, List.size_toArray, List.length_cons, List.length_nil, Nat.reduceAdd, Nat.reduceSub, Array.replicate_succ, Array.replicate_zero, List.push_toArray, List.append_toArray, List.nil_append, List.cons_append]
  gi_wp2_with (refine ⟨trivial, ?_⟩; gi_at_call 37; refine (callsIn_wide.2 (squares_any s _)).mono ?_; rintro e w' ⟨rfl, rfl⟩)
  obtain ⟨W0, hW0⟩ : ∃ W0, (((((w.alloc (.cells (svc s) 24)).alloc (.cells #[.int .u64 0, .int .u64 0] 24)).alloc (.cells #[.int .i64 n] 3)).alloc (.cells #[.int .i64 n] 3)).alloc (.cells #[.int .u64 0, .int .u64 0] 24)).alloc (.cells (svc s) 24) = W0 := ⟨_, rfl⟩
  have bR : Blk W0 (w.heap.size + 1) 24 #[.int .u64 0, .int .u64 0] := by rw [← hW0]; exact ((((Blk.new _ _ _ (by simp)).alloc _).alloc _).alloc _).alloc _
  have bA : Blk W0 (w.heap.size + 2) 3 #[.int .i64 n] := by rw [← hW0]; exact (((Blk.new _ _ _ (by simp)).alloc _).alloc _).alloc _
  have bB : Blk W0 (w.heap.size + 3) 3 #[.int .i64 n] := by rw [← hW0]; exact ((Blk.new _ _ _ (by simp)).alloc _).alloc _
  have bT : Blk W0 (w.heap.size + 4) 24 (svc (inner n n [])) := by rw [← hW0]; exact (Blk.new _ _ _ (by simp)).alloc _
  have bS : Blk W0 (w.heap.size + 5) 24 (svc s) := by rw [← hW0]; exact Blk.new _ _ _ (by simp)
  have hB0 : Below w.heap.size w W0 := by rw [← hW0]; exact (by repeat (first | exact Below.refl _ _ | (refine Below.setCell ?_ (by first | omega | (simp; done) | (simp; omega) | (simp at *; omega)) _) | (refine Below.alloc ?_ (by first | omega | (simp; done) | (simp; omega) | (simp at *; omega)) _) | refine Below.drew ?_ | (refine below_drewN ?_ _) | (refine Below.trans ?_ (Below.mono (by assumption) (by first | omega | (simp; done) | (simp; omega) | (simp at *; omega))))))
  have hsz : W0.heap.size = w.heap.size + 6 := by rw [← hW0]; simp
  rw [hW0]
  refine wpIn_rangeFunc_ownG hro (by decide) (gf := 40) (lb := #[.pointer (some ⟨w.heap.size + 5, 0, none⟩)]) rfl trivial (enters_of Tryd.func40 (by kernel_rfl) rfl)
    (squares_stops 4 (by decide) (w.heap.size + 5) w.heap.size W0.heap.size s W0 (by omega) (bS.cell 0) (bS.cell 1) (Nat.le_refl _) (hT.below hB0 hg) hg) Kept.trans (Kept.put (by omega)) (Below.refl _ _) (fun _ => rfl)
    (fun pre W => Blk W (w.heap.size + 1) 24 #[.int .u64 0, .int .u64 0] ∧ Blk W (w.heap.size + 2) 3 #[.int .i64 n] ∧ Blk W (w.heap.size + 3) 3 #[.int .i64 n] ∧ Blk W (w.heap.size + 4) 24 (svc (inner n n pre)) ∧ Below w.heap.size w W)
    (fun _ _ _ => False)
    (OwnFrom.and (Own.from (blk_own _ _ _) _) (OwnFrom.and (Own.from (blk_own _ _ _) _) (OwnFrom.and (Own.from (blk_own _ _ _) _) (OwnFrom.and (Own.from (blk_own _ _ (fun pre => svc (inner n n pre))) _) (ownFrom_below (Nat.le_refl _) (by omega))))))
    (fun _ _ _ _ _ hs _ _ => hs)
    ⟨bR, bA, bB, bT, hB0⟩
    (fun x => { tmps := #[.agg (svc s), .int .i64 n, .int .i64 n, .pointer (some ⟨w.heap.size, 0, none⟩), undef, undef, .pointer (some ⟨w.heap.size + 1, 0, none⟩), .pointer (some ⟨w.heap.size + 2, 0, none⟩), .pointer (some ⟨w.heap.size + 3, 0, none⟩), .pointer (some ⟨w.heap.size + 4, 0, none⟩), sqv x, .int .i64 n, .int .i64 n, .int .i64 n, .int .i64 n, .int .i64 n, .int .i64 n, .agg (svc s), .func (.func 40) #[] #[.pointer (some ⟨w.heap.size + 5, 0, none⟩)], sqv x, undef, undef, undef, undef, undef, undef, undef, undef, undef, undef, undef, undef], defers := [] }) ?assign ?body ?done ?stop
  case assign =>
    intro l x W K hK
    gi_wp2
    exact hK
  case body =>
    rintro l pre x W ⟨bR, bA, bB, bT, hB⟩ hlt
    have hbs := hB.size
    have hx := x.isLt
    have ca := bA.cell 0
    have cb := bB.cell 0
    have t0 := bT.cell 0
    have t1 := bT.cell 1
    simp only [List.getElem?_toArray, List.getElem?_cons_zero, List.getElem?_cons_succ] at ca cb t0 t1
    by_cases h : n < x.val ∧ (x.val : Int) < n
    · exact absurd h (by omega)
    · have Hh := Lib.hid h
      by_cases h1 : n < (x.val : Int)
      · have g1 : decide (n < (x.val : Int)) = true := by simpa using h1
        have g2 : decide ((x.val : Int) < n) = false := by simp; omega
        clear h
        gi_wp2
        exact ⟨KeepsFrom.refl _ _, Kept.refl _ _ _, bR, bA, bB, by rw [inner_out _ _ _ _ Hh.out]; exact bT, hB⟩
      · have g1 : decide (n < (x.val : Int)) = false := by simp; omega
        clear h
        gi_wp2
        exact ⟨KeepsFrom.refl _ _, Kept.refl _ _ _, bR, bA, bB, by rw [inner_out _ _ _ _ Hh.out]; exact bT, hB⟩
  case done =>
    rintro D ys W hD rfl ⟨bR, bA, bB, bT, hB⟩ hK
    have t0 := bT.cell 0
    have t1 := bT.cell 1
    have r0 := bR.cell 0
    have r1 := bR.cell 1
    have f0 := bR.frozen 0
    have f1 := bR.frozen 1
    simp only [List.getElem?_toArray, List.getElem?_cons_zero, List.getElem?_cons_succ] at t0 t1 r0 r1
    gi_wp2
    have hK2 := (keeps_two (Below.refl W.heap.size W) ⟨w.heap.size + 1, 0, none⟩ ⟨w.heap.size + 1, 1, none⟩ (.int .u64 (inner n n s.sqs).lo) (.int .u64 (inner n n s.sqs).hi)).same D _ hK rfl
    have bR2 := (blk_two bR (.int .u64 (inner n n s.sqs).lo) (.int .u64 (inner n n s.sqs).hi)).put (.deferred none) hK2 rfl
    refine ⟨by simp, .inl ⟨_, _, rfl, run_takeDeferred hK2, ?_⟩⟩
    refine ⟨.agg #[.int .u64 (inner n n s.sqs).lo, .int .u64 (inner n n s.sqs).hi], by simp [results, Tryd.results31, go_sem, bR2.cell 0, bR2.cell 1], rfl, ?_⟩
    exact ((hB.setCell (p := ⟨w.heap.size + 1, 0, none⟩) (by simp) _).setCell (p := ⟨w.heap.size + 1, 1, none⟩) (by simp) _).trans (belowK_b (w := w) (Nat.le_refl _) _ D _ _ (by omega) hK2 rfl rfl)
  case stop =>
    rintro D c pre W _ _ h _
    exact h.elim

set_option maxRecDepth 100000 in
set_option maxHeartbeats 2000000 in
theorem between_gt (s : S) (n m : Int) (w : World) (hT : Tab w) (hnm : m < n) :
    CallsIn Fence.wide 5 Tryd.prog 31 #[.agg #[.int .u64 s.lo, .int .u64 s.hi], .int .i64 n, .int .i64 m] w fun e W' => e = .returned (.agg #[.int .u64 (inner m n s.sqs).lo, .int .u64 (inner m n s.sqs).hi]) ∧ Below w.heap.size w W' := by
  have hro : Fence.wide.round = none := rfl
  have hg := hT.lt
  refine callsIn_of_wp_marks Tryd.func31 rfl trivial ?_ hro
  simp only [Tryd.ntmps31, List.size_toArray, List.length_cons, List.length_nil, Nat.reduceAdd, Nat.reduceSub, Array.replicate_succ, Array.replicate_zero, List.push_toArray, List.append_toArray, List.nil_append, List.cons_append]
  gi_wp2_with (refine ⟨trivial, ?_⟩; gi_at_call 37; refine (callsIn_wide.2 (squares_any s _)).mono ?_; rintro e w' ⟨rfl, rfl⟩)
  obtain ⟨W0, hW0⟩ : ∃ W0, (((((w.alloc (.cells (svc s) 24)).alloc (.cells #[.int .u64 0, .int .u64 0] 24)).alloc (.cells #[.int .i64 m] 3)).alloc (.cells #[.int .i64 n] 3)).alloc (.cells #[.int .u64 0, .int .u64 0] 24)).alloc (.cells (svc s) 24) = W0 := ⟨_, rfl⟩
  have bR : Blk W0 (w.heap.size + 1) 24 #[.int .u64 0, .int .u64 0] := by rw [← hW0]; exact ((((Blk.new _ _ _ (by simp)).alloc _).alloc _).alloc _).alloc _
  have bA : Blk W0 (w.heap.size + 2) 3 #[.int .i64 m] := by rw [← hW0]; exact (((Blk.new _ _ _ (by simp)).alloc _).alloc _).alloc _
  have bB : Blk W0 (w.heap.size + 3) 3 #[.int .i64 n] := by rw [← hW0]; exact ((Blk.new _ _ _ (by simp)).alloc _).alloc _
  have bT : Blk W0 (w.heap.size + 4) 24 (svc (inner m n [])) := by rw [← hW0]; exact (Blk.new _ _ _ (by simp)).alloc _
  have bS : Blk W0 (w.heap.size + 5) 24 (svc s) := by rw [← hW0]; exact Blk.new _ _ _ (by simp)
  have hB0 : Below w.heap.size w W0 := by rw [← hW0]; exact (by repeat (first | exact Below.refl _ _ | (refine Below.setCell ?_ (by first | omega | (simp; done) | (simp; omega) | (simp at *; omega)) _) | (refine Below.alloc ?_ (by first | omega | (simp; done) | (simp; omega) | (simp at *; omega)) _) | refine Below.drew ?_ | (refine below_drewN ?_ _) | (refine Below.trans ?_ (Below.mono (by assumption) (by first | omega | (simp; done) | (simp; omega) | (simp at *; omega))))))
  have hsz : W0.heap.size = w.heap.size + 6 := by rw [← hW0]; simp
  rw [hW0]
  refine wpIn_rangeFunc_ownG hro (by decide) (gf := 40) (lb := #[.pointer (some ⟨w.heap.size + 5, 0, none⟩)]) rfl trivial (enters_of Tryd.func40 (by kernel_rfl) rfl)
    (squares_stops 4 (by decide) (w.heap.size + 5) w.heap.size W0.heap.size s W0 (by omega) (bS.cell 0) (bS.cell 1) (Nat.le_refl _) (hT.below hB0 hg) hg) Kept.trans (Kept.put (by omega)) (Below.refl _ _) (fun _ => rfl)
    (fun pre W => Blk W (w.heap.size + 1) 24 #[.int .u64 0, .int .u64 0] ∧ Blk W (w.heap.size + 2) 3 #[.int .i64 m] ∧ Blk W (w.heap.size + 3) 3 #[.int .i64 n] ∧ Blk W (w.heap.size + 4) 24 (svc (inner m n pre)) ∧ Below w.heap.size w W)
    (fun _ _ _ => False)
    (OwnFrom.and (Own.from (blk_own _ _ _) _) (OwnFrom.and (Own.from (blk_own _ _ _) _) (OwnFrom.and (Own.from (blk_own _ _ _) _) (OwnFrom.and (Own.from (blk_own _ _ (fun pre => svc (inner m n pre))) _) (ownFrom_below (Nat.le_refl _) (by omega))))))
    (fun _ _ _ _ _ hs _ _ => hs)
    ⟨bR, bA, bB, bT, hB0⟩
    (fun x => { tmps := #[.agg (svc s), .int .i64 n, .int .i64 m, .pointer (some ⟨w.heap.size, 0, none⟩), undef, undef, .pointer (some ⟨w.heap.size + 1, 0, none⟩), .pointer (some ⟨w.heap.size + 2, 0, none⟩), .pointer (some ⟨w.heap.size + 3, 0, none⟩), .pointer (some ⟨w.heap.size + 4, 0, none⟩), sqv x, .int .i64 n, .int .i64 m, .int .i64 m, .int .i64 n, .int .i64 m, .int .i64 n, .agg (svc s), .func (.func 40) #[] #[.pointer (some ⟨w.heap.size + 5, 0, none⟩)], sqv x, undef, undef, undef, undef, undef, undef, undef, undef, undef, undef, undef, undef], defers := [] }) ?assign ?body ?done ?stop
  case assign =>
    intro l x W K hK
    gi_wp2
    exact hK
  case body =>
    rintro l pre x W ⟨bR, bA, bB, bT, hB⟩ hlt
    have hbs := hB.size
    have hx := x.isLt
    have ca := bA.cell 0
    have cb := bB.cell 0
    have t0 := bT.cell 0
    have t1 := bT.cell 1
    simp only [List.getElem?_toArray, List.getElem?_cons_zero, List.getElem?_cons_succ] at ca cb t0 t1
    by_cases h : m < x.val ∧ (x.val : Int) < n
    · have g1 : decide (m < (x.val : Int)) = true := by simpa using h.1
      have g2 : decide ((x.val : Int) < n) = true := by simpa using h.2
      gi_wp2_with (refine ⟨trivial, ?_⟩; gi_at_call 26; refine (CallsIn.inRound l (callsIn_wide.2 (with_any (inner m n pre) x.val _))).mono ?_; rintro e w1 ⟨rfl, hb1⟩; have bT1 := bT.next hb1; have q0 := bT1.cell 0; have q1 := bT1.cell 1; have f0 := bT1.frozen 0; have f1 := bT1.frozen 1; simp only [List.getElem?_toArray, List.getElem?_cons_zero, List.getElem?_cons_succ] at q0 q1)
      have hz1 := hb1.size
      refine ⟨(keeps_two hb1 _ _ _ _).from _, Kept.two hbs hb1 (by omega) (by omega) _ _, ?_, ?_, ?_, ?_, ?_⟩
      · exact ((bR.next hb1).far (by simp) _).far (by simp) _
      · exact ((bA.next hb1).far (by simp) _).far (by simp) _
      · exact ((bB.next hb1).far (by simp) _).far (by simp) _
      · rw [inner_in _ _ _ _ h]
        exact blk_two bT1 _ _
      · exact hB.trans (Kept.two (B := w.heap.size + 5) hbs hb1 (by omega) (by omega) _ _).1
    · have Hh := Lib.hid h
      by_cases h1 : m < (x.val : Int)
      · have g1 : decide (m < (x.val : Int)) = true := by simpa using h1
        have g2 : decide ((x.val : Int) < n) = false := by simp; omega
        clear h
        gi_wp2
        exact ⟨KeepsFrom.refl _ _, Kept.refl _ _ _, bR, bA, bB, by rw [inner_out _ _ _ _ Hh.out]; exact bT, hB⟩
      · have g1 : decide (m < (x.val : Int)) = false := by simp; omega
        clear h
        gi_wp2
        exact ⟨KeepsFrom.refl _ _, Kept.refl _ _ _, bR, bA, bB, by rw [inner_out _ _ _ _ Hh.out]; exact bT, hB⟩
  case done =>
    rintro D ys W hD rfl ⟨bR, bA, bB, bT, hB⟩ hK
    have t0 := bT.cell 0
    have t1 := bT.cell 1
    have r0 := bR.cell 0
    have r1 := bR.cell 1
    have f0 := bR.frozen 0
    have f1 := bR.frozen 1
    simp only [List.getElem?_toArray, List.getElem?_cons_zero, List.getElem?_cons_succ] at t0 t1 r0 r1
    gi_wp2
    have hK2 := (keeps_two (Below.refl W.heap.size W) ⟨w.heap.size + 1, 0, none⟩ ⟨w.heap.size + 1, 1, none⟩ (.int .u64 (inner m n s.sqs).lo) (.int .u64 (inner m n s.sqs).hi)).same D _ hK rfl
    have bR2 := (blk_two bR (.int .u64 (inner m n s.sqs).lo) (.int .u64 (inner m n s.sqs).hi)).put (.deferred none) hK2 rfl
    refine ⟨by simp, .inl ⟨_, _, rfl, run_takeDeferred hK2, ?_⟩⟩
    refine ⟨.agg #[.int .u64 (inner m n s.sqs).lo, .int .u64 (inner m n s.sqs).hi], by simp [results, Tryd.results31, go_sem, bR2.cell 0, bR2.cell 1], rfl, ?_⟩
    exact ((hB.setCell (p := ⟨w.heap.size + 1, 0, none⟩) (by simp) _).setCell (p := ⟨w.heap.size + 1, 1, none⟩) (by simp) _).trans (belowK_b (w := w) (Nat.le_refl _) _ D _ _ (by omega) hK2 rfl rfl)
  case stop =>
    rintro D c pre W _ _ h _
    exact h.elim

theorem between_any (s : S) (n m : Int) (w : World) (hT : Tab w) :
    Calls Tryd.prog 31 #[.agg #[.int .u64 s.lo, .int .u64 s.hi], .int .i64 n, .int .i64 m] w fun e W' => e = .returned (.agg #[.int .u64 (inner (min n m) (max n m) s.sqs).lo, .int .u64 (inner (min n m) (max n m) s.sqs).hi]) ∧ Below w.heap.size w W' := by
  refine (callsIn_wide (n := 5)).1 ?_
  rcases Int.lt_trichotomy n m with h | h | h
  · rw [Int.min_eq_left (by omega), Int.max_eq_right (by omega)]; exact between_lt s n m w hT h
  · subst h; rw [Int.min_self, Int.max_self]; exact between_eq s n w hT
  · rw [Int.min_eq_right (by omega), Int.max_eq_left (by omega)]; exact between_gt s n m w hT h

/-- List's answer: a slice that reads as the squares. -/
def ListPost (w : World) (l : List (Fin 90)) (e : Ending) (w' : World) : Prop := ∃ A c, e = .returned (.slice A l.length c) ∧ Rd w' A (l.map sqv) ∧ Below w.heap.size w w'
theorem list_any (s : S) (w : World) (hT : Tab w) : Calls Tryd.prog 21 #[.agg #[.int .u64 s.lo, .int .u64 s.hi]] w (ListPost w s.sqs) :=
  (callsIn_wide.1 (list_in s w hT)).mono fun _ _ ⟨v, he, ho, hb⟩ => by
    obtain ⟨A, c, rfl⟩ := own_slice ho
    exact ⟨A, c, he, Rd.own ho, hb⟩
theorem first_any (s : S) (w : World) (hT : Tab w) : Calls Tryd.prog 23 #[.agg #[.int .u64 s.lo, .int .u64 s.hi]] w fun e W' => e = .returned (.int .i64 (first s.sqs)) ∧ Below w.heap.size w W' :=
  callsIn_wide.1 (first_in s w hT)
theorem last_any (s : S) (w : World) (hT : Tab w) : Calls Tryd.prog 24 #[.agg #[.int .u64 s.lo, .int .u64 s.hi]] w fun e W' => e = .returned (.int .i64 (last s.sqs)) ∧ Below w.heap.size w W' :=
  callsIn_wide.1 (last_in s w hT)
/-- What Shift answers. -/
def shiftS (s : S) (n : Int) : S := if -90 < n ∧ n < 90 then shifted n s.sqs else S.empty
theorem shift_any (s : S) (n : Int) (w : World) (hT : Tab w) :
    Calls Tryd.prog 29 #[.agg #[.int .u64 s.lo, .int .u64 s.hi], .int .i64 n] w fun e W' => e = .returned (.agg #[.int .u64 (shiftS s n).lo, .int .u64 (shiftS s n).hi]) ∧ Below w.heap.size w W' := by
  unfold shiftS
  split
  · rename_i h
    exact callsIn_wide.1 (shift_in s n w hT h.1 h.2)
  · exact shift_far s n w (by omega)
end Go.Proofs.YtdfjmchkpoobdaaDoor
