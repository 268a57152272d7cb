/- What List, First, Last, Shift, Between and Of answer, for all sets and numbers. -/
import Derived.Test.YtbfkkedcjodceaaGreatDoorBitsC
import Derived.Laws.OwnMore
namespace Go.Proofs.YtbfkkedcjodceaaGreatDoor
open Go.RowKit Go.Shelf
open M (S)
attribute [local go_sem] Oper.semAt_some

abbrev sqv (x : Fin 90) : Value := .int .i64 (x.val : Int)

set_option maxRecDepth 100000 in
set_option maxHeartbeats 2000000 in
theorem list_in (s : S) (w : World) (hT : Tab w) :
    CallsIn Fence.wide 5 Tryz.prog 122 #[.agg #[.int .u64 s.lo, .int .u64 s.hi]] w fun e W' => ∃ v, e = .returned v ∧ W'.ownsRow w.heap.size 3 1 v s.sqs.length (s.sqs.map sqv) ∧ Below w.heap.size w W' := by
  have hro : Fence.wide.round = none := rfl
  have hlen : s.sqs.length ≤ 90 := by rw [S.sqs_length]; exact S.count_le s
  have hg := hT.lt
  obtain ⟨i0, hi, hz0, hz1, hz2⟩ := info_parts info_int
  refine callsIn_of_wp_marks Tryz.func122 rfl trivial ?_ hro
  simp only [Tryz.ntmps122, List.size_toArray, List.length_cons, List.length_nil, Nat.reduceAdd, Nat.reduceSub, Array.replicate_succ, Array.replicate_zero, List.push_toArray, List.append_toArray, List.nil_append, List.cons_append]
  gi_wp2_with (refine ⟨trivial, ?_⟩; gi_at_call 138; refine (callsIn_wide.2 (squares_any s _)).mono ?_; rintro e w' ⟨rfl, rfl⟩)
  have bO := (Boxed.new (w.alloc (.cells #[.int .u64 s.lo, .int .u64 s.hi] 99)) 51 (.slice none 0 0)).alloc (.cells #[.int .u64 s.lo, .int .u64 s.hi] 99)
  rw [World.size_alloc] at bO
  obtain ⟨W0, hW0⟩ : ∃ W0, ((w.alloc (.cells #[.int .u64 s.lo, .int .u64 s.hi] 99)).alloc (.cells #[.slice none 0 0] 51)).alloc (.cells #[.int .u64 s.lo, .int .u64 s.hi] 99) = W0 := ⟨_, rfl⟩
  have hB0 : Below w.heap.size w W0 := by rw [← hW0]; exact (((Below.refl _ w).alloc (Nat.le_refl _) _).alloc (by simp) _).alloc (by simp; omega) _
  have hsz : W0.heap.size = w.heap.size + 3 := by rw [← hW0]; simp
  have hblk : W0.heap[w.heap.size + 2]? = some (.cells #[.int .u64 s.lo, .int .u64 s.hi] 99 (0, 0)) := by
    have h := World.alloc_heap_new ((w.alloc (.cells #[.int .u64 s.lo, .int .u64 s.hi] 99)).alloc (.cells #[.slice none 0 0] 51)) (.cells #[.int .u64 s.lo, .int .u64 s.hi] 99)
    rw [World.size_alloc, World.size_alloc, hW0] at h
    exact h
  have c0 : W0.cell? ⟨w.heap.size + 2, 0, none⟩ = some (.int .u64 s.lo) := by simp [World.cell?, hblk]
  have c1 : W0.cell? ⟨w.heap.size + 2, 1, none⟩ = some (.int .u64 s.hi) := by simp [World.cell?, hblk]
  rw [hW0] at bO ⊢
  refine wpIn_rangeFunc_ownG hro (by decide) (gf := 142) (lb := #[.pointer (some ⟨w.heap.size + 2, 0, none⟩)]) rfl trivial (enters_of Tryz.func142 (by kernel_rfl) rfl)
    (squares_stops 4 (by decide) (w.heap.size + 2) w.heap.size W0.heap.size s W0 (by omega) c0 c1 (Nat.le_refl _) (hT.below hB0 hg) hg) Kept.trans (Kept.put (by omega)) (Below.refl _ _) (fun _ => rfl)
    (fun pre W => (∃ v, Boxed W (w.heap.size + 1) 51 v ∧ W.ownsRow w.heap.size 3 1 v pre.length (pre.map sqv) ∧ (v = .slice none 0 0 ↔ pre = [])) ∧ Below w.heap.size w W)
    (fun _ _ _ => False)
    (OwnFrom.and (Own.from (holdsRow_own w.heap.size (w.heap.size + 1) 51 3 1 (fun pre => pre.length) (fun pre => pre.map sqv) (fun pre v => v = .slice none 0 0 ↔ pre = [])) _) (ownFrom_below (Nat.le_refl _) (by omega)))
    (fun _ _ _ _ _ hs _ _ => hs)
    ⟨⟨_, bO, World.ownsRow_nil _ _ _ _, by simp⟩, hB0⟩
    (fun x => { tmps := #[.agg #[.int .u64 s.lo, .int .u64 s.hi], .pointer (some ⟨w.heap.size, 0, none⟩), .slice none 0 0, .pointer (some ⟨w.heap.size + 1, 0, none⟩), sqv x, .agg #[.int .u64 s.lo, .int .u64 s.hi], .func (.func 142) #[] #[.pointer (some ⟨w.heap.size + 2, 0, none⟩)], sqv x, undef, undef, undef, undef, undef], defers := [] }) ?assign ?body ?done ?stop
  case assign =>
    intro l x W K hK
    gi_wp2
    exact hK
  case body =>
    rintro l pre x W ⟨⟨v, hv, hrow, hnil⟩, hB⟩ hlt
    have hc := hv.cell
    have hbs := hB.size
    gi_wp2_with (gi_at_builtin; refine wpListIn_append_own _ rfl _ _ 51 rfl w.heap.size 3 i0 (.int .i64 0) 1 8 Tryz.underlying51 hi hz0 hz1 hz2 rfl (by decide) _ _ _ rfl (hrow.alloc _) ⟨W.heap.size, 0, none⟩ 1 1 [sqv x] rfl rfl (cell_one_new _ _ _) (by simp [Value.oneCell']) (by unfold maxLen; omega) (by omega) (by simp; omega) ?_; intro v' w1 hown' hgrow _; obtain ⟨g', cap', rfl⟩ := ownsRow_succ hown'; obtain ⟨hv1, hv2, hr2, hk2, hb2⟩ := hv.appended (by decide) hrow hB.size (by omega) hown' hgrow; have hc1 := hv1.cell; have hf1 := hv1.frozen)
    exact ⟨hk2.from _, Kept.append hb2 (by omega) (by decide) hrow hgrow, ⟨_, hv2, by simpa using hr2, by simp⟩, hB.trans hb2⟩
  case done =>
    rintro D ys W hD rfl ⟨⟨v, hv, hrow, hnil⟩, hB⟩ hK
    have hc := hv.cell
    gi_wp2
    refine ⟨by simp, .inl ⟨_, _, rfl, run_takeDeferred hK, ?_⟩⟩
    exact ⟨_, results_tmp rfl _ _ _, v, rfl, ownsRow_putObj hrow _ hK rfl, hB.trans (belowK_b (w := w) (Nat.le_refl _) W D _ _ (by omega) hK rfl rfl)⟩
  case stop =>
    rintro D c pre W _ _ h _
    exact h.elim
end Go.Proofs.YtbfkkedcjodceaaGreatDoor
