/- What guard's Takes and Guarded answer. -/
import Derived.Test.YtnkbilikkbaeeaaGreatDoorGuardC
namespace Go.Proofs.YtnkbilikkbaeeaaGreatDoor
open Go.RowKit Go.Shelf
open M (S)
attribute [local go_sem] Oper.semAt_some

theorem gother_k (side : Int) (w : World) : Calls Tryz.prog 49 #[.int .i64 side] w fun e w' => ∃ k, e = .returned (.int .i64 k) ∧ (0 ≤ side → side ≤ 1 → k = 1 - side) ∧ w = w' := by
  by_cases h : 0 ≤ side ∧ side ≤ 1
  · refine (gother_is side _ w h.1 h.2 rfl).mono ?_
    rintro e w1 ⟨rfl, rfl⟩
    exact ⟨_, rfl, fun _ _ => rfl, rfl⟩
  · refine (gother_some side w).mono ?_
    rintro e w1 ⟨k, rfl, rfl⟩
    exact ⟨k, rfl, fun h0 h1 => absurd ⟨h0, h1⟩ h, rfl⟩
theorem go_takes (s : ByteArray) (side k : Int) (h : 0 ≤ side → side ≤ 1 → k = 1 - side) : goL s side (ownL s k) = takesG s side := by
  unfold goL ownL
  by_cases hs : isB s = true
  · rw [if_pos hs, if_pos hs]
    by_cases hd : side = 0 ∨ side = 1
    · rw [h (by omega) (by omega)]
      exact takes_gone hs hd
    · have e1 : ownN s side = [] := by
        unfold ownN
        rw [List.filter_eq_nil_iff]
        intro x hx
        have hf := isB_fill hs x (List.mem_range.1 hx)
        rw [fill_side, Bool.or_eq_true, beq_iff_eq, decide_eq_true_eq] at hf
        have h3 := sideN_ge (bAt s x)
        unfold ofSide
        rw [Bool.and_eq_true, bne_iff_ne, beq_iff_eq]
        rintro ⟨h1, h2⟩
        rcases hf with hf | hf
        · exact h1 hf
        · omega
      rw [e1]
      unfold takesG
      rw [if_neg]
      · rfl
      · rw [Bool.and_eq_true, Bool.or_eq_true, beq_iff_eq, beq_iff_eq]
        exact fun h => hd h.2
  · rw [if_neg hs, if_neg hs]
    unfold takesG
    rw [if_neg]
    · rfl
    · rw [Bool.and_eq_true]
      exact fun h => hs h.1
/-- **The iterator's contract.** -/
theorem moves_stops (n : Nat) (hn : 1 ≤ n) (H T B : Nat) (s : ByteArray) (side : Int) (A : Option Addr) (gs : List Nat) (c : Nat) (w : World) (hM : MovesAt w H T B s side A gs c) (hg90 : ∀ b ∈ gs, b < 90) (hgl : gs.length ≤ 1000000) (hB : B ≤ w.heap.size) :
    SeqStopsK Fence.wide n Tryz.prog 83 #[.pointer (some ⟨H, 0, none⟩), .pointer (some ⟨H + 1, 0, none⟩), .pointer (some ⟨H + 1 + 1, 0, none⟩)] enc1 (KeptT T B) (fun ys => ys = goL s side gs) (fun pre => pre <+: goL s side gs) (goL s side gs).length w := fun l J Jx W hW hJ _ hY h0 =>
  moves1_in n hn l H T B s side A gs c J Jx W hJ hY (hM.kept (KeptT.next hB hW)) hg90 hgl (Nat.le_trans hB hW.size) h0
/-- A round that appends a move to a row that was made since, and stores the row into block T. -/
theorem kept_row {T B k : Nat} {W : World} {v : Value} {xs : List Value} {tmp : Obj} (hBW : B ≤ W.heap.size) (hrow : W.ownsRow B 28 2 v k xs) (hTB : T < B) {w1 : World} (hgrow : (W.alloc tmp).grownBy w1 v.ownBlock) (v' : Value) : KeptT T B W (w1.setCell ⟨T, 0, none⟩ v') := by
  refine ((KeptT.next hBW (below_new W tmp)).trans (KeptT.grown (by rw [World.size_alloc]; omega) hgrow (fun k e => ?_) fun k c f e he => ?_)).trans (KeptT.set hTB _ _)
  · rcases hrow.2 with ⟨e0, _⟩ | ⟨g, cap, cur, e0, hg, hc, _⟩
    · rw [e0] at e
      cases e
    · rw [e0] at e
      have : k = g := by simpa [Value.ownBlock] using e
      omega
  · rcases hrow.2 with ⟨e0, _⟩ | ⟨g, cap, cur, e0, hg, hc, _⟩
    · rw [e0] at e
      cases e
    · rw [e0] at e
      have : k = g := by simpa [Value.ownBlock] using e
      subst this
      rw [Below.heap_alloc W tmp k (Array.getElem?_eq_some_iff.1 hc).1, hc] at he
      injection he with he
      injection he with _ h2 _
      exact absurd h2 (by decide)
set_option maxRecDepth 100000 in
set_option maxHeartbeats 4000000 in
theorem gtakes_in (s : ByteArray) (side : Int) (l : List (Nat × Nat)) (n : Nat) (w : World) (hT : Tab w) (hl : takesG s side = l) (hn : l.length = n) :
    CallsIn Fence.wide 5 Tryz.prog 17 #[.string s, .int .i64 side] w fun e W' => ∃ v, e = .returned v ∧ W'.ownsRow w.heap.size 28 2 v n (mvs l) ∧ Below w.heap.size w W' := by
  have hro : Fence.wide.round = none := rfl
  have hlen : l.length ≤ 8100 := by rw [← hl]; exact takes_len s side
  have hg := hT.lt
  obtain ⟨i0, hi, hz0, hz1, hz2⟩ := info_parts info_move
  have HL := Lib.hid hl
  have HN := Lib.hid hn
  clear hl hn
  refine callsIn_of_wp_marks Tryz.func17 rfl trivial ?_ hro
  simp only [Tryz.ntmps17, List.size_toArray, List.length_cons, List.length_nil, Nat.reduceAdd, Nat.reduceSub, Array.replicate_succ, Array.replicate_zero, List.push_toArray, List.append_toArray, List.nil_append, List.cons_append]
  have hbA := below_new w (.cells #[.slice none 0 0] 25)
  have bO : Boxed (w.alloc (.cells #[.slice none 0 0] 25)) w.heap.size 25 (.slice none 0 0) := Boxed.new w 25 (.slice none 0 0)
  have hTA := hT.next hbA
  gi_wp2_with (first
    | (refine ⟨trivial, ?_⟩; gi_at_call 49; refine (callsIn_wide.2 (gother_k side _)).mono ?_; rintro e w' ⟨k, rfl, hko, rfl⟩)
    | (refine ⟨trivial, ?_⟩; gi_at_call 48; refine (callsIn_wide.2 (pieces_n s k _ _ hTA rfl)).mono ?_; rintro e w2 ⟨A, c, rfl, hown, hb⟩)
    | (refine ⟨trivial, ?_⟩; gi_at_call 47; refine (callsIn_wide.2 (gmoves_is s side A _ c _)).mono ?_; rintro e w3 ⟨rfl, rfl⟩))
  have hsz2 : w.heap.size + 1 ≤ w2.heap.size := by
    have := hb.size
    rw [World.size_alloc] at this
    exact this
  have hk2 : Below w.heap.size w w2 := hbA.trans (hb.mono hbA.size)
  obtain ⟨W0, hW0⟩ : ∃ W0, ((w2.alloc (.cells #[.string s] 9)).alloc (.cells #[.int .i64 side] 3)).alloc (.cells #[.slice A (ownL s k).length c] 23) = W0 := ⟨_, rfl⟩
  have hb20 : Below w2.heap.size w2 W0 := by rw [← hW0]; exact (by repeat (first | exact Below.refl _ _ | (refine Below.setCell ?_ (by first | omega | (simp; done) | (simp; omega) | (simp at *; omega)) _) | (refine Below.alloc ?_ (by first | omega | (simp; done) | (simp; omega) | (simp at *; omega)) _) | refine Below.drew ?_ | (refine below_drewN ?_ _) | (refine Below.trans ?_ (Below.mono (by assumption) (by first | omega | (simp; done) | (simp; omega) | (simp at *; omega))))))
  have hsz0 : W0.heap.size = w2.heap.size + 1 + 1 + 1 := by rw [← hW0]; simp
  have bc : Blk W0 w2.heap.size 9 #[.string s] := by rw [← hW0]; exact ((Blk.new _ _ _ rfl).alloc _).alloc _
  have bs : Blk W0 (w2.heap.size + 1) 3 #[.int .i64 side] := by rw [← hW0]; exact (Blk.new _ _ _ (by simp)).alloc _
  have bg : Blk W0 (w2.heap.size + 1 + 1) 23 #[.slice A (ownL s k).length c] := by rw [← hW0]; exact Blk.new _ _ _ (by simp)
  have hB0 : Below w.heap.size w W0 := hk2.trans (hb20.mono (by omega))
  have bT : Boxed W0 w.heap.size 25 (.slice none 0 0) := by
    have h1 : w2.heap[w.heap.size]? = _ := (hb.block w.heap.size (by simp)).trans bO
    exact (hb20.block w.heap.size (by omega)).trans h1
  have hM : MovesAt W0 w2.heap.size w.heap.size W0.heap.size s side A (ownL s k) c := by
    refine ⟨bc, bs, bg, (Rd.owns hown).next hb20, fun ad e => ?_, hT.below hB0 hg, by omega, by omega, hg⟩
    rcases hown.2 with ⟨e0, _⟩ | ⟨g', cap, cur, e1, hge, hc, _⟩
    · injection e0 with e0
      rw [e0] at e
      cases e
    · injection e1 with e1
      rw [e1] at e
      cases e
      have := (Array.getElem?_eq_some_iff.1 hc).1
      rw [World.size_alloc] at hge
      exact ⟨by show g' < _; omega, by show g' ≠ _; omega⟩
  have HGO : Hid (goL s side (ownL s k) = l) := by
    show _ = _
    rw [go_takes s side k hko, HL.out]
  have hg90 : ∀ b ∈ ownL s k, b < 90 := fun b hb => by
    obtain ⟨j, hj, rfl⟩ := List.mem_iff_getElem.1 hb
    exact (ownL_at hj).2
  have hgl : (ownL s k).length ≤ 1000000 := Nat.le_trans (ownL_len s k) (by decide)
  rw [hW0]
  refine wpIn_rangeFunc_ownH hro (by decide) (gf := 83) (lb := #[.pointer (some ⟨w2.heap.size, 0, none⟩), .pointer (some ⟨w2.heap.size + 1, 0, none⟩), .pointer (some ⟨w2.heap.size + 1 + 1, 0, none⟩)]) rfl trivial (enters_of Tryz.func83 (by kernel_rfl) rfl)
    (moves_stops 4 (by decide) w2.heap.size w.heap.size W0.heap.size s side A (ownL s k) c W0 hM hg90 hgl (Nat.le_refl _)) KeptT.trans KeptT.put (Below.refl _ _) (fun _ => rfl)
    (fun pre W => (∃ v, Boxed W w.heap.size 25 v ∧ W.ownsRow W0.heap.size 28 2 v pre.length (mvs pre) ∧ True) ∧ (Below w.heap.size w W ∧ W0.heap.size ≤ W.heap.size))
    (fun _ _ _ => False)
    (OwnFrom.and (Own.from (holdsRow_own W0.heap.size w.heap.size 25 28 2 (fun pre => pre.length) (fun pre => mvs pre) (fun _ _ => True)) _) (OwnFrom.and (ownFrom_below (Nat.le_refl _) (by omega)) (fun _ _ _ _ hs hgr _ => Nat.le_trans hs hgr.size)))
    (fun _ _ _ _ _ hs _ _ => hs)
    ⟨⟨_, bT, by simpa [mvs] using World.ownsRow_nil W0 W0.heap.size 28 2, trivial⟩, hB0, Nat.le_refl _⟩
    (fun x a' W => ∃ g, Blk W g 28 #[.int .i64 (x.1 : Int), .int .i64 (x.2 : Int)] ∧ a' = { tmps := #[.string s, .int .i64 side, undef, undef, .slice none 0 0, .pointer (some ⟨w.heap.size, 0, none⟩), .pointer (some ⟨g, 0, none⟩), .string s, .int .i64 side, .string s, .int .i64 side, .int .i64 k, .slice A (ownL s k).length c, .func (.func 83) #[] #[.pointer (some ⟨w2.heap.size, 0, none⟩), .pointer (some ⟨w2.heap.size + 1, 0, none⟩), .pointer (some ⟨w2.heap.size + 1 + 1, 0, none⟩)], mvv x, undef, undef, undef, undef, undef], defers := [] })
    (fun x a' _ W W' row ⟨g, hb, e⟩ hgr hr => ⟨g, (hgr.block g hb.lt fun e' => by
      obtain ⟨_, o, ho, hc⟩ := hr g e'.symm
      rw [show W.heap[g]? = _ from hb] at ho
      cases ho
      cases hc).trans hb, e⟩) ?assign ?body ?done ?stop
  case assign =>
    rintro l' pre ⟨x, y⟩ W K ⟨⟨v, hv, hrow, _⟩, hB, hBW⟩ hK
    have hbm := below_new W (.cells #[.int .i64 (x : Int), .int .i64 (y : Int)] 28)
    gi_wp2
    exact hK _ _ ((KeepsOthers.alloc _ _).from _) (KeptT.next hBW hbm) ⟨⟨v, hv.alloc _, hrow.alloc _, trivial⟩, hB.trans (hbm.mono hB.size), Nat.le_trans hBW hbm.size⟩ ⟨W.heap.size, Blk.new _ _ _ rfl, rfl⟩
  case body =>
    rintro l' pre ⟨x, y⟩ a' W hl' hr' ⟨⟨v, hv, hrow, _⟩, hB, hBW⟩ ⟨g, bM, rfl⟩ hlt
    have hc := hv.cell
    have e0 : W.cell? ⟨g, 0, none⟩ = some (.int .i64 (x : Int)) := bM.cell 0
    have e1 : W.cell? ⟨g, 1, none⟩ = some (.int .i64 (y : Int)) := bM.cell 1
    have hlt2 : pre.length < 8100 := by
      rw [HGO.out] at hlt
      omega
    have hKT : ∀ w1, (W.alloc (.cells #[.int .i64 (x : Int), .int .i64 (y : Int)] 28)).grownBy w1 v.ownBlock → ∀ v', KeptT w.heap.size W0.heap.size W (w1.setCell ⟨w.heap.size, 0, none⟩ v') := fun w1 h v' => kept_row hBW hrow (by omega) h v'
    have hTW : w.heap.size ≤ W0.heap.size := by omega
    clear hM bc bs bg hown hW0 bT bO hb hb20 bM hr'
    gi_wp2_with (gi_at_builtin; refine wpListIn_append_own _ rfl _ _ 25 rfl W0.heap.size 28 i0 (.agg #[.int .i64 0, .int .i64 0]) 2 16 Tryz.underlying25 hi hz0 hz1 hz2 rfl (by decide) _ _ _ rfl (hrow.alloc _) ⟨W.heap.size, 0, none⟩ 1 1 [iv x, iv y] rfl rfl (cells_two_new _ _ _ _) (by simp [Value.oneCell']) (by unfold maxLen; omega) (by omega) (by simp; omega) ?_; intro v' w1 hown' hgrow _; obtain ⟨g', cap', rfl⟩ := ownsRow_succ hown'; obtain ⟨hv1, hv2, _, hk2', hb2⟩ := hv.appended (by decide) (own_mono hrow hTW) hB.size (Nat.le_refl _) (own_mono hown' hTW) hgrow; have hr2 := hown'.kept (grownBy_setCell' w1 w.heap.size (.slice (some ⟨g', 0, none⟩) (pre.length + 1) cap')) (.inr (hv1.not_row (by decide) hown').symm); have hc1 := hv1.cell; have hf1 := hv1.frozen)
    exact ⟨hk2'.from _, hKT _ hgrow _, ⟨_, hv2, by rw [mvs_app, List.length_append]; exact hr2, trivial⟩, hB.trans hb2, Nat.le_trans hBW hb2.size⟩
  case done =>
    rintro D ys W hD rfl ⟨⟨v, hv, hrow, _⟩, hB, hBW⟩ hK
    have hc := hv.cell
    rw [HGO.out, HN.out] at hrow
    gi_wp2
    refine ⟨by simp, .inl ⟨_, _, rfl, run_takeDeferred hK, ?_⟩⟩
    exact ⟨_, results_tmp rfl _ _ _, v, rfl, ownsRow_putObj (own_mono hrow (by omega)) _ hK rfl, hB.trans (belowK_b (w := w) (Nat.le_refl _) W D _ _ (by omega) hK rfl rfl)⟩
  case stop =>
    rintro D c' pre W _ _ h _
    exact h.elim
end Go.Proofs.YtnkbilikkbaeeaaGreatDoor
