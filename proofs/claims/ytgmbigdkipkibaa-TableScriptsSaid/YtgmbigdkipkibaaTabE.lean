/- Putting an entry in the place of another one, in the document's table; an entry that is refused. -/
import Derived.Test.YtgmbigdkipkibaaTabD
namespace Go.Proofs.Ytgmbigdkipkibaa
open Go.RowKit Go.Shelf
attribute [local go_sem] Oper.semAt_some

theorem entsL_set : ∀ (L : List Ent) (i : Nat) (x : Ent), i < L.length → ((((((entsL L).set (i * 6) (.int .u64 x.k)).set (i * 6 + 1) (.int .i64 x.d)).set (i * 6 + 2) (.int .i64 x.s)).set (i * 6 + 3) (.int .i64 x.u)).set (i * 6 + 4) (.int .i64 x.a)).set (i * 6 + 5) (.int .i64 x.b) = entsL (L.set i x)
  | y :: l, 0, x, _ => rfl
  | y :: l, i + 1, x, h => by
    have ih := entsL_set l i x (by simpa using h)
    rw [List.set_cons_succ]
    show _ = y.cs.toList ++ entsL (l.set i x)
    rw [← ih, show (i + 1) * 6 = i * 6 + 6 by omega]
    rfl
theorem row_six {W : World} {base g c n : Nat} {t : TypeId} {xs : List Value} (h : W.ownsRow base t 6 (.slice (some ⟨g, 0, none⟩) n c) n xs) (i : Nat) (v0 v1 v2 v3 v4 v5 : Value) :
    ((((((W.setCell ⟨g, i, none⟩ v0).setCell ⟨g, i + 1, none⟩ v1).setCell ⟨g, i + 2, none⟩ v2).setCell ⟨g, i + 3, none⟩ v3).setCell ⟨g, i + 4, none⟩ v4).setCell ⟨g, i + 5, none⟩ v5).ownsRow base t 6 (.slice (some ⟨g, 0, none⟩) n c) n ((((((xs.set i v0).set (i + 1) v1).set (i + 2) v2).set (i + 3) v3).set (i + 4) v4).set (i + 5) v5) :=
  (World.ownsRow.stored (World.ownsRow.stored (World.ownsRow.stored (World.ownsRow.stored (World.ownsRow.stored (World.ownsRow.stored h i v0).1 (i + 1) v1).1 (i + 2) v2).1 (i + 3) v3).1 (i + 4) v4).1 (i + 5) v5).1
theorem far_six {X : Nat → Prop} (W : World) (g i : Nat) (hX : X g) (v0 v1 v2 v3 v4 v5 : Value) :
    Far X W ((((((W.setCell ⟨g, i, none⟩ v0).setCell ⟨g, i + 1, none⟩ v1).setCell ⟨g, i + 2, none⟩ v2).setCell ⟨g, i + 3, none⟩ v3).setCell ⟨g, i + 4, none⟩ v4).setCell ⟨g, i + 5, none⟩ v5) := by
  have h : ∀ (w : World) (j : Nat) (v : Value), Far X w (w.setCell ⟨g, j, none⟩ v) := fun w j v => Far.set (p := ⟨g, j, none⟩) hX v
  refine Far.trans ?_ (h _ _ _)
  refine Far.trans ?_ (h _ _ _)
  refine Far.trans ?_ (h _ _ _)
  refine Far.trans ?_ (h _ _ _)
  refine Far.trans ?_ (h _ _ _)
  exact h _ _ _
theorem DocAt.frozen {n₀ : Nat} {W : World} {kb n g c m : Nat} {L : List Ent} (h : DocAt n₀ W kb n (.slice (some ⟨g, 0, none⟩) m c) L) (i : Nat) : W.frozen? ⟨g, i, none⟩ = false := by
  rcases h.row.2 with ⟨h0, _⟩ | ⟨g', cap, cur, hv, _, hc, _⟩
  · cases h0
  · injection hv with e1
    injection e1 with e1
    injection e1 with e1
    subst e1
    simp [World.frozen?, hc]
set_option maxRecDepth 100000 in
set_option maxHeartbeats 4000000 in
theorem rput_some {n₀ : Nat} {W : World} {kb n : Nat} {v : Value} {L : List Ent} (h : DocAt n₀ W kb n v L) (hn : 0 < n) (hm : n ≤ 4096) (x : Ent) (hk : x.k < 18446744073709551616) (hL : L.length ≤ 900) (hks : ∀ x ∈ L, x.k < 18446744073709551616) (i : Nat) (hil : i < L.length) (ho : AtIs n L x.k (some i)) (hu : 0 ≤ x.u ∧ x.u ≤ 2) (hkp : keepsB (some L[i]) x = false) :
    Calls Try.prog 11 #[.pointer (some ⟨kb, 0, none⟩), x.v] W fun e w' => e = .returned (.bool true) ∧ ∃ v', DocAt n₀ w' kb n v' (L.set i x) ∧ Far (fun k => k = kb ∨ n₀ ≤ k) W w' := by
  have hkp : (L[i].k != x.k) = false ∨ decide (x.d < L[i].d) = false := by
    rw [keepsB_some] at hkp
    cases h1 : (L[i].k != x.k)
    · exact .inl rfl
    · rw [h1, Bool.true_and] at hkp
      exact .inr hkp
  obtain ⟨⟨k', d', s', u', a', b'⟩, hy⟩ : ∃ y, L[i] = y := ⟨_, rfl⟩
  have HY := Lib.hid hy
  rw [hy] at hkp
  clear hy
  have hkp : ((k' : Int) != (x.k : Int)) = false ∨ ((k' : Int) != (x.k : Int)) = true ∧ decide (x.d < d') = false := by
    by_cases e : k' = x.k
    · exact .inl (by rw [e]; simp)
    · refine .inr ⟨by rw [bne_iff_ne]; omega, ?_⟩
      rcases hkp with h | h
      · have h : (k' != x.k) = false := h
        rw [bne_eq_false_iff_eq] at h
        exact absurd h e
      · exact h
  obtain ⟨W0, hW0⟩ : ∃ W0, W.alloc (.cells x.cs 36) = W0 := ⟨_, rfl⟩
  have hB : Below W.heap.size W W0 := by rw [← hW0]; exact below_new _ _
  have hE : Blk W0 W.heap.size 36 x.cs := by rw [← hW0]; exact Blk.new _ _ _ rfl
  obtain ⟨e0, e1, e2, e3, e4, e5⟩ := ent_cells hE
  have HD := Lib.hid (h.next hB)
  have HE := Lib.hid hE
  have HB := Lib.hid hB
  have HO := Lib.hid ho
  have HKS := Lib.hid hks
  obtain ⟨A, c, hv⟩ := h.slice
  subst hv
  obtain ⟨u0, u2⟩ := hu
  have u0' : decide (x.u < 0) = false := by rw [decide_eq_false_iff_not]; omega
  have u2' : decide (2 < x.u) = false := by rw [decide_eq_false_iff_not]; omega
  obtain ⟨X, hX⟩ : ∃ X, X = x := ⟨_, rfl⟩
  have HX := Lib.hid hX
  rw [← hX] at HE HO hk
  have HKX := Lib.hid hk
  obtain ⟨k, d, s, u, a, b⟩ := x
  simp only at u0' u2' e0 e1 e2 e3 e4 e5 hkp
  clear h hks hE hB ho hX hk u0 u2
  unfold Ent.v
  have HW : Hid (W.alloc (.cells #[.int .u64 k, .int .i64 d, .int .i64 s, .int .i64 u, .int .i64 a, .int .i64 b] 36) = W0) := hW0
  go_enter Try.func11, Try.ntmps11
  go_wp2_with fail
  (try rw [HW.out])
  refine (rat_is HD.out hn hm k (by have := HKX.out; rw [HX.out] at this; exact this) (by omega) HKS.out _ (by have := HO.out; rw [HX.out] at this; exact this)).mono ?_
  rintro e w1 ⟨rfl, hb1⟩
  have HB1 := Lib.hid (HB.out.trans (hb1.mono HB.out.size))
  have HE1 := Lib.hid (HE.out.next hb1)
  have HD1 := Lib.hid (HD.out.next hb1)
  clear e0 e1 e2 e3 e4 e5
  obtain ⟨e0, e1, e2, e3, e4, e5⟩ := ent_cells HE1.out
  rw [HX.out] at e0 e1 e2 e3 e4 e5
  simp only at e0 e1 e2 e3 e4 e5
  have hc1 : w1.cell? ⟨kb, 1, none⟩ = some (.slice A L.length c) := HD1.out.blk.cell 1
  have bi : (i : Int) < (L.length : Int) := by omega
  obtain ⟨g, c', hv', hg, s0, s1, s2, s3, s4, s5⟩ := HD1.out.six hil HY.out
  simp only at s0 s1 s2 s3 s4 s5
  injection hv' with hA _ hcc
  subst hA hcc
  unfold atV
  clear hb1 hW0
  rcases hkp with hkp | ⟨hkp, hkd⟩
  all_goals
    go_wp2_with fail
    go_quiet (fail)
    obtain ⟨W2, hW2⟩ : ∃ W2, w1.drewN nq = W2 := ⟨_, rfl⟩
    have hb2 : Below w1.heap.size w1 W2 := by rw [← hW2]; exact below_drewN (Below.refl _ _) _
    have HB2 := Lib.hid (HB1.out.trans (hb2.mono HB1.out.size))
    have HD2 := Lib.hid (HD1.out.next hb2)
    have HE2 := Lib.hid (HE1.out.next hb2)
    rw [hW2]
    clear e0 e1 e2 e3 e4 e5 hc1 s0 s1 s2 s3 s4 s5
    obtain ⟨e0, e1, e2, e3, e4, e5⟩ := ent_cells HE2.out
    rw [HX.out] at e0 e1 e2 e3 e4 e5
    simp only at e0 e1 e2 e3 e4 e5
    have hc1 : W2.cell? ⟨kb, 1, none⟩ = some (.slice (some ⟨g, 0, none⟩) L.length c) := HD2.out.blk.cell 1
    obtain ⟨g', c', hv', hg', s0, s1, s2, s3, s4, s5⟩ := HD2.out.six hil HY.out
    simp only at s0 s1 s2 s3 s4 s5
    injection hv' with hA _ hcc
    injection hA with hA
    injection hA with hA
    subst hA hcc
    have z0 := HD2.out.frozen (i * 6)
    have z1 := HD2.out.frozen (i * 6 + 1)
    have z2 := HD2.out.frozen (i * 6 + 2)
    have z3 := HD2.out.frozen (i * 6 + 3)
    have z4 := HD2.out.frozen (i * 6 + 4)
    have z5 := HD2.out.frozen (i * 6 + 5)
    clear hb2 hW2
    go_wp2_with fail
    go_region_with (fail)
    all_goals
      have hrow := row_six (i := i * 6) HD2.out.row (.int .u64 k) (.int .i64 d) (.int .i64 s) (.int .i64 u) (.int .i64 a) (.int .i64 b)
      have hf6 := far_six (X := fun q => q = g) W2 g (i * 6) rfl (.int .u64 k) (.int .i64 d) (.int .i64 s) (.int .i64 u) (.int .i64 a) (.int .i64 b)
      have he := entsL_set L i ⟨k, d, s, u, a, b⟩ hil
      have hkb := HD2.out.lt
      have hF : Far (fun k => k = kb ∨ n₀ ≤ k) W W2 := Far.of HB2.out
      clear e0 e1 e2 e3 e4 e5 s0 s1 s2 s3 s4 s5 z0 z1 z2 z3 z4 z5 hc1
      go_wp2
      go_ret
      generalize ((((((W2.setCell ⟨g, i * 6, none⟩ (.int .u64 k)).setCell ⟨g, i * 6 + 1, none⟩ (.int .i64 d)).setCell ⟨g, i * 6 + 2, none⟩ (.int .i64 s)).setCell ⟨g, i * 6 + 3, none⟩ (.int .i64 u)).setCell ⟨g, i * 6 + 4, none⟩ (.int .i64 a)).setCell ⟨g, i * 6 + 5, none⟩ (.int .i64 b)) = W9 at hrow hf6 ⊢
      have hD : DocAt n₀ W9 kb n (.slice (some ⟨g, 0, none⟩) L.length c) (L.set i ⟨k, d, s, u, a, b⟩) := ⟨hf6.blk HD2.out.blk (by show ¬ kb = g; omega), by rw [← he, List.length_set]; exact hrow, hkb, Nat.le_trans HD2.out.le hf6.size⟩
      exact ⟨rfl, ⟨_, hD.next (Below.refl _ _).drew⟩, (hF.trans (hf6.wide fun q h => .inr (by show n₀ ≤ q; have h : q = g := h; omega))).trans (Far.of (Below.refl _ _).drew)⟩
set_option maxRecDepth 100000 in
set_option maxHeartbeats 4000000 in
theorem rput_keeps {n₀ : Nat} {W : World} {kb n : Nat} {v : Value} {L : List Ent} (h : DocAt n₀ W kb n v L) (hn : 0 < n) (hm : n ≤ 4096) (x : Ent) (hk : x.k < 18446744073709551616) (hL : L.length ≤ 900) (hks : ∀ x ∈ L, x.k < 18446744073709551616) (i : Nat) (hil : i < L.length) (ho : AtIs n L x.k (some i)) (hu : 0 ≤ x.u ∧ x.u ≤ 2) (hkp : keepsB (some L[i]) x = true) :
    Calls Try.prog 11 #[.pointer (some ⟨kb, 0, none⟩), x.v] W (Gives W (.bool false)) := by
  unfold Gives
  rw [keepsB_some, Bool.and_eq_true] at hkp
  obtain ⟨⟨k', d', s', u', a', b'⟩, hy⟩ : ∃ y, L[i] = y := ⟨_, rfl⟩
  have HY := Lib.hid hy
  rw [hy] at hkp
  clear hy
  obtain ⟨hkp, hkd⟩ := hkp
  have hkp : ((k' : Int) != (x.k : Int)) = true := by
    have h : (k' != x.k) = true := hkp
    rw [bne_iff_ne] at h ⊢
    omega
  obtain ⟨W0, hW0⟩ : ∃ W0, W.alloc (.cells x.cs 36) = W0 := ⟨_, rfl⟩
  have hB : Below W.heap.size W W0 := by rw [← hW0]; exact below_new _ _
  have hE : Blk W0 W.heap.size 36 x.cs := by rw [← hW0]; exact Blk.new _ _ _ rfl
  obtain ⟨e0, e1, e2, e3, e4, e5⟩ := ent_cells hE
  have HD := Lib.hid (h.next hB)
  have HE := Lib.hid hE
  have HB := Lib.hid hB
  have HO := Lib.hid ho
  have HKS := Lib.hid hks
  obtain ⟨A, c, hv⟩ := h.slice
  subst hv
  obtain ⟨u0, u2⟩ := hu
  have u0' : decide (x.u < 0) = false := by rw [decide_eq_false_iff_not]; omega
  have u2' : decide (2 < x.u) = false := by rw [decide_eq_false_iff_not]; omega
  obtain ⟨X, hX⟩ : ∃ X, X = x := ⟨_, rfl⟩
  have HX := Lib.hid hX
  rw [← hX] at HE HO hk
  have HKX := Lib.hid hk
  obtain ⟨k, d, s, u, a, b⟩ := x
  simp only at u0' u2' e0 e1 e2 e3 e4 e5 hkp hkd
  clear h hks hE hB ho hX hk u0 u2
  unfold Ent.v
  have HW : Hid (W.alloc (.cells #[.int .u64 k, .int .i64 d, .int .i64 s, .int .i64 u, .int .i64 a, .int .i64 b] 36) = W0) := hW0
  go_enter Try.func11, Try.ntmps11
  go_wp2_with fail
  (try rw [HW.out])
  refine (rat_is HD.out hn hm k (by have := HKX.out; rw [HX.out] at this; exact this) (by omega) HKS.out _ (by have := HO.out; rw [HX.out] at this; exact this)).mono ?_
  rintro e w1 ⟨rfl, hb1⟩
  have HB1 := Lib.hid (HB.out.trans (hb1.mono HB.out.size))
  have HE1 := Lib.hid (HE.out.next hb1)
  have HD1 := Lib.hid (HD.out.next hb1)
  clear e0 e1 e2 e3 e4 e5
  obtain ⟨e0, e1, e2, e3, e4, e5⟩ := ent_cells HE1.out
  rw [HX.out] at e0 e1 e2 e3 e4 e5
  simp only at e0 e1 e2 e3 e4 e5
  have hc1 : w1.cell? ⟨kb, 1, none⟩ = some (.slice A L.length c) := HD1.out.blk.cell 1
  have bi : (i : Int) < (L.length : Int) := by omega
  obtain ⟨g, c', hv', hg, s0, s1, s2, s3, s4, s5⟩ := HD1.out.six hil HY.out
  simp only at s0 s1 s2 s3 s4 s5
  injection hv' with hA _ hcc
  subst hA hcc
  unfold atV
  clear hb1 hW0
  go_wp2_with fail
  go_quiet (fail)
  go_wp2
  go_ret
  exact ⟨rfl, below_drewN HB1.out _⟩
set_option maxRecDepth 100000 in
set_option maxHeartbeats 4000000 in
theorem rput_bad {n₀ : Nat} {W : World} {kb n : Nat} {v : Value} {L : List Ent} (h : DocAt n₀ W kb n v L) (hn : 0 < n) (hm : n ≤ 4096) (x : Ent) (hk : x.k < 18446744073709551616) (hL : L.length ≤ 900) (hks : ∀ x ∈ L, x.k < 18446744073709551616) (o : Option Nat) (ho : AtIs n L x.k o) (hu : x.u < 0 ∨ 2 < x.u) :
    Calls Try.prog 11 #[.pointer (some ⟨kb, 0, none⟩), x.v] W (Gives W (.bool false)) := by
  unfold Gives
  have hu : (decide (x.u < 0) = true) ∨ (decide (x.u < 0) = false ∧ decide (2 < x.u) = true) := by
    by_cases e : x.u < 0
    · exact .inl (decide_eq_true e)
    · exact .inr ⟨decide_eq_false e, decide_eq_true (by omega)⟩
  obtain ⟨W0, hW0⟩ : ∃ W0, W.alloc (.cells x.cs 36) = W0 := ⟨_, rfl⟩
  have hB : Below W.heap.size W W0 := by rw [← hW0]; exact below_new _ _
  have hE : Blk W0 W.heap.size 36 x.cs := by rw [← hW0]; exact Blk.new _ _ _ rfl
  obtain ⟨e0, e1, e2, e3, e4, e5⟩ := ent_cells hE
  have HD := Lib.hid (h.next hB)
  have HE := Lib.hid hE
  have HB := Lib.hid hB
  have HO := Lib.hid ho
  have HKS := Lib.hid hks
  obtain ⟨A, c, hv⟩ := h.slice
  subst hv
  obtain ⟨X, hX⟩ : ∃ X, X = x := ⟨_, rfl⟩
  have HX := Lib.hid hX
  rw [← hX] at HE HO hk
  have HKX := Lib.hid hk
  obtain ⟨k, d, s, u, a, b⟩ := x
  simp only at hu e0 e1 e2 e3 e4 e5
  clear h hks hE hB ho hX hk
  unfold Ent.v
  have HW : Hid (W.alloc (.cells #[.int .u64 k, .int .i64 d, .int .i64 s, .int .i64 u, .int .i64 a, .int .i64 b] 36) = W0) := hW0
  go_enter Try.func11, Try.ntmps11
  go_wp2_with fail
  (try rw [HW.out])
  refine (rat_is HD.out hn hm k (by have := HKX.out; rw [HX.out] at this; exact this) (by omega) HKS.out _ (by have := HO.out; rw [HX.out] at this; exact this)).mono ?_
  rintro e w1 ⟨rfl, hb1⟩
  have HB1 := Lib.hid (HB.out.trans (hb1.mono HB.out.size))
  have HE1 := Lib.hid (HE.out.next hb1)
  have HD1 := Lib.hid (HD.out.next hb1)
  clear e0 e1 e2 e3 e4 e5
  obtain ⟨e0, e1, e2, e3, e4, e5⟩ := ent_cells HE1.out
  rw [HX.out] at e0 e1 e2 e3 e4 e5
  simp only at e0 e1 e2 e3 e4 e5
  have hc1 : w1.cell? ⟨kb, 1, none⟩ = some (.slice A L.length c) := HD1.out.blk.cell 1
  clear hb1 hW0
  rcases hu with u0' | ⟨u0', u2'⟩
  all_goals
    go_wp2_with fail
    go_quiet (fail)
    go_wp2
    go_ret
    exact ⟨rfl, below_drewN HB1.out _⟩
end Go.Proofs.Ytgmbigdkipkibaa
