/- What the document's table answers: Get, Use, Put. -/
import Derived.Test.YtgmbigdkipkibaaTabC
import Derived.Deep.AppendLies
import Derived.Deep.RegionLaw
namespace Go.Proofs.Ytgmbigdkipkibaa
open Go.RowKit Go.Shelf
attribute [local go_sem] Oper.semAt_some

/-- What an entry's place answers. -/
def rgetO (L : List Ent) (o : Option Nat) (k : Nat) : Option Ent := match o with
  | none => none
  | some i => match L[i]? with
    | none => none
    | some y => if y.k = k then some y else none
set_option maxRecDepth 100000 in
set_option maxHeartbeats 4000000 in
theorem rget_is {n₀ : Nat} {W : World} {kb n : Nat} {v : Value} {L : List Ent} (h : DocAt n₀ W kb n v L) (hn : 0 < n) (hm : n ≤ 4096) (k : Nat) (hk : k < 18446744073709551616) (hL : L.length ≤ 1000) (hks : ∀ x ∈ L, x.k < 18446744073709551616) (o : Option Nat) (ho : AtIs n L k o) (q : Option Ent) (hq : rgetO L o k = q) : Calls Try.prog 13 #[.pointer (some ⟨kb, 0, none⟩), .int .u64 k] W (Gives W (getV q)) := by
  unfold Gives
  obtain ⟨W0, hW0⟩ : ∃ W0, W.alloc (.cells E0 36) = W0 := ⟨_, rfl⟩
  have hB : Below W.heap.size W W0 := by rw [← hW0]; exact below_new _ _
  have hE : Blk W0 W.heap.size 36 E0 := by rw [← hW0]; exact Blk.new _ _ _ rfl
  have HD := Lib.hid (h.next hB)
  have HE := Lib.hid hE
  have HB := Lib.hid hB
  have HO := Lib.hid ho
  have HKS := Lib.hid hks
  have HW := Lib.hid hW0
  clear h hks hE hB hW0
  cases o with
  | none =>
    obtain rfl : q = none := hq.symm
    clear hq ho
    go_enter Try.func13, Try.ntmps13
    go_wp2_with fail
    (try rw [HW.out])
    refine (rat_is HD.out hn hm k hk hL HKS.out _ HO.out).mono ?_
    rintro e w1 ⟨rfl, hb1⟩
    have HB1 := Lib.hid (HB.out.trans (hb1.mono HB.out.size))
    have HE1 := Lib.hid (HE.out.next hb1)
    have HD1 := Lib.hid (HD.out.next hb1)
    obtain ⟨⟨e0, e1, e2, e3, e4, e5⟩, f0, f1, f2, f3, f4, f5⟩ := e0_cells HE1.out
    clear hb1
    unfold atV
    go_wp2_with fail
    obtain ⟨W9, hW9⟩ : ∃ x, ((((((w1.setCell ⟨W.heap.size, 0, none⟩ (.int .u64 0)).setCell ⟨W.heap.size, 1, none⟩ (.int .i64 0)).setCell ⟨W.heap.size, 2, none⟩ (.int .i64 0)).setCell ⟨W.heap.size, 3, none⟩ (.int .i64 0)).setCell ⟨W.heap.size, 4, none⟩ (.int .i64 0)).setCell ⟨W.heap.size, 5, none⟩ (.int .i64 0)) = x := ⟨_, rfl⟩
    obtain ⟨hr, hb⟩ := get_end HE1.out HB1.out (Nat.le_refl _) 0 0 0 0 0 0 W9 hW9.symm
    rw [hW9]
    clear e0 e1 e2 e3 e4 e5 f0 f1 f2 f3 f4 f5 hW9
    obtain ⟨e0, e1, e2, e3, e4, e5⟩ := ent_cells hr
    simp only at e0 e1 e2 e3 e4 e5
    exact bodyPost_ret (v := .tuple #[ent0.v, .bool false]) (by simp [results, Try.results13, go_sem, Ent.v, ent0, e0, e1, e2, e3, e4, e5]) rfl ⟨rfl, hb⟩
  | some i =>
    obtain ⟨hi, _⟩ := ho
    unfold rgetO at hq
    simp only [List.getElem?_eq_getElem hi] at hq
    obtain ⟨⟨k', d', s', u', a', b'⟩, hx⟩ : ∃ x, L[i] = x := ⟨_, rfl⟩
    have HX := Lib.hid hx
    rw [hx] at hq
    simp only at hq
    have bi : (i : Int) < (L.length : Int) := by omega
    clear hx
    by_cases hkk : k' = k
    · subst hkk
      rw [if_pos rfl] at hq
      subst hq
      have hne : ((k' : Int) != (k' : Int)) = false := by simp
      go_enter Try.func13, Try.ntmps13
      go_wp2_with fail
      (try rw [HW.out])
      refine (rat_is HD.out hn hm k' hk hL HKS.out _ HO.out).mono ?_
      rintro e w1 ⟨rfl, hb1⟩
      have HB1 := Lib.hid (HB.out.trans (hb1.mono HB.out.size))
      have HE1 := Lib.hid (HE.out.next hb1)
      have HD1 := Lib.hid (HD.out.next hb1)
      obtain ⟨⟨e0, e1, e2, e3, e4, e5⟩, f0, f1, f2, f3, f4, f5⟩ := e0_cells HE1.out
      clear hb1
      obtain ⟨g, c', hv', hg, s0, s1, s2, s3, s4, s5⟩ := HD1.out.six hi HX.out
      simp only at s0 s1 s2 s3 s4 s5
      have hc1 : w1.cell? ⟨kb, 1, none⟩ = some v := HD1.out.blk.cell 1
      rw [hv'] at hc1
      unfold atV
      go_wp2_with fail
      obtain ⟨W9, hW9⟩ : ∃ x, ((((((w1.setCell ⟨W.heap.size, 0, none⟩ (.int .u64 k')).setCell ⟨W.heap.size, 1, none⟩ (.int .i64 d')).setCell ⟨W.heap.size, 2, none⟩ (.int .i64 s')).setCell ⟨W.heap.size, 3, none⟩ (.int .i64 u')).setCell ⟨W.heap.size, 4, none⟩ (.int .i64 a')).setCell ⟨W.heap.size, 5, none⟩ (.int .i64 b')) = x := ⟨_, rfl⟩
      obtain ⟨hr, hb⟩ := get_end HE1.out HB1.out (Nat.le_refl _) k' d' s' u' a' b' W9 hW9.symm
      rw [hW9]
      clear e0 e1 e2 e3 e4 e5 f0 f1 f2 f3 f4 f5 hW9
      obtain ⟨e0, e1, e2, e3, e4, e5⟩ := ent_cells hr
      simp only at e0 e1 e2 e3 e4 e5
      exact bodyPost_ret (v := .tuple #[(Ent.mk k' d' s' u' a' b').v, .bool true]) (by simp [results, Try.results13, go_sem, Ent.v, e0, e1, e2, e3, e4, e5]) rfl ⟨rfl, hb⟩
    · rw [if_neg hkk] at hq
      subst hq
      have hne : ((k' : Int) != (k : Int)) = true := by rw [bne_iff_ne]; omega
      clear hkk
      go_enter Try.func13, Try.ntmps13
      go_wp2_with fail
      (try rw [HW.out])
      refine (rat_is HD.out hn hm k hk hL HKS.out _ HO.out).mono ?_
      rintro e w1 ⟨rfl, hb1⟩
      have HB1 := Lib.hid (HB.out.trans (hb1.mono HB.out.size))
      have HE1 := Lib.hid (HE.out.next hb1)
      have HD1 := Lib.hid (HD.out.next hb1)
      obtain ⟨⟨e0, e1, e2, e3, e4, e5⟩, f0, f1, f2, f3, f4, f5⟩ := e0_cells HE1.out
      clear hb1
      obtain ⟨g, c', hv', hg, s0, s1, s2, s3, s4, s5⟩ := HD1.out.six hi HX.out
      simp only at s0 s1 s2 s3 s4 s5
      have hc1 : w1.cell? ⟨kb, 1, none⟩ = some v := HD1.out.blk.cell 1
      rw [hv'] at hc1
      unfold atV
      go_wp2_with fail
      obtain ⟨W9, hW9⟩ : ∃ x, ((((((w1.setCell ⟨W.heap.size, 0, none⟩ (.int .u64 0)).setCell ⟨W.heap.size, 1, none⟩ (.int .i64 0)).setCell ⟨W.heap.size, 2, none⟩ (.int .i64 0)).setCell ⟨W.heap.size, 3, none⟩ (.int .i64 0)).setCell ⟨W.heap.size, 4, none⟩ (.int .i64 0)).setCell ⟨W.heap.size, 5, none⟩ (.int .i64 0)) = x := ⟨_, rfl⟩
      obtain ⟨hr, hb⟩ := get_end HE1.out HB1.out (Nat.le_refl _) 0 0 0 0 0 0 W9 hW9.symm
      rw [hW9]
      clear e0 e1 e2 e3 e4 e5 f0 f1 f2 f3 f4 f5 hW9
      obtain ⟨e0, e1, e2, e3, e4, e5⟩ := ent_cells hr
      simp only at e0 e1 e2 e3 e4 e5
      exact bodyPost_ret (v := .tuple #[ent0.v, .bool false]) (by simp [results, Try.results13, go_sem, Ent.v, ent0, e0, e1, e2, e3, e4, e5]) rfl ⟨rfl, hb⟩
set_option maxRecDepth 100000 in
set_option maxHeartbeats 4000000 in
theorem ruse_of (P : Option Addr) (k : Nat) (W : World) (o : Option Ent) (ho : ∀ y, o = some y → y.u = 0 ∨ y.u = 1 ∨ y.u = 2) (hg : Calls Try.prog 13 #[.pointer P, .int .u64 k] W (Gives W (getV o))) (depth low high : Int) :
    Calls Try.prog 15 #[.pointer P, .int .u64 k, .int .i64 depth, .int .i64 low, .int .i64 high] W (Gives W (useV o depth low high)) := by
  unfold Gives
  cases o with
  | none =>
    go_enter Try.func15, Try.ntmps15
    go_wp2_with fail
    refine hg.mono ?_
    rintro e w1 ⟨rfl, hb1⟩
    unfold getV Ent.v ent0
    have HB := Lib.hid (hb1.alloc (o := .cells #[.int .u64 0, .int .i64 0, .int .i64 0, .int .i64 0, .int .i64 0, .int .i64 0] 36) hb1.size)
    clear hb1
    go_wp2_with fail
    go_ret2
    exact ⟨rfl, HB.out⟩
  | some y =>
    obtain ⟨k', d', s', u', a', b'⟩ := y
    have hu := ho _ rfl
    have hu : u' = 0 ∨ u' = 1 ∨ u' = 2 := hu
    have hU : useV (some ⟨k', d', s', u', a', b'⟩) depth low high = if depth ≤ d' ∧ (if u' = 1 then decide (high ≤ s') else if u' = 2 then decide (s' ≤ low) else true) = true then .tuple #[.int .i64 s', .bool true] else .tuple #[.int .i64 0, .bool false] := rfl
    rw [hU]
    clear hU ho
    by_cases hd : depth ≤ d'
    · have hd' : ¬ d' < depth := by omega
      rcases hu with rfl | rfl | rfl
      · rw [if_pos ⟨hd, rfl⟩]
        go_enter Try.func15, Try.ntmps15
        go_wp2_with fail
        refine hg.mono ?_
        rintro e w1 ⟨rfl, hb1⟩
        unfold getV Ent.v
        have HB := Lib.hid (hb1.alloc (o := .cells #[.int .u64 k', .int .i64 d', .int .i64 s', .int .i64 0, .int .i64 a', .int .i64 b'] 36) hb1.size)
        clear hb1
        go_wp2_with fail
        go_ret2
        exact ⟨rfl, HB.out⟩
      · by_cases hz : high ≤ s'
        · rw [if_pos ⟨hd, by simp [hz]⟩]
          go_enter Try.func15, Try.ntmps15
          go_wp2_with fail
          refine hg.mono ?_
          rintro e w1 ⟨rfl, hb1⟩
          unfold getV Ent.v
          have HB := Lib.hid (hb1.alloc (o := .cells #[.int .u64 k', .int .i64 d', .int .i64 s', .int .i64 1, .int .i64 a', .int .i64 b'] 36) hb1.size)
          clear hb1
          go_wp2_with fail
          go_ret2
          exact ⟨rfl, HB.out⟩
        · rw [if_neg (by simp [hz])]
          go_enter Try.func15, Try.ntmps15
          go_wp2_with fail
          refine hg.mono ?_
          rintro e w1 ⟨rfl, hb1⟩
          unfold getV Ent.v
          have HB := Lib.hid (hb1.alloc (o := .cells #[.int .u64 k', .int .i64 d', .int .i64 s', .int .i64 1, .int .i64 a', .int .i64 b'] 36) hb1.size)
          clear hb1
          go_wp2_with fail
          go_ret2
          exact ⟨rfl, HB.out⟩
      · by_cases hz : s' ≤ low
        · rw [if_pos ⟨hd, by simp [hz]⟩]
          go_enter Try.func15, Try.ntmps15
          go_wp2_with fail
          refine hg.mono ?_
          rintro e w1 ⟨rfl, hb1⟩
          unfold getV Ent.v
          have HB := Lib.hid (hb1.alloc (o := .cells #[.int .u64 k', .int .i64 d', .int .i64 s', .int .i64 2, .int .i64 a', .int .i64 b'] 36) hb1.size)
          clear hb1
          go_wp2_with fail
          go_ret2
          exact ⟨rfl, HB.out⟩
        · rw [if_neg (by simp [hz])]
          go_enter Try.func15, Try.ntmps15
          go_wp2_with fail
          refine hg.mono ?_
          rintro e w1 ⟨rfl, hb1⟩
          unfold getV Ent.v
          have HB := Lib.hid (hb1.alloc (o := .cells #[.int .u64 k', .int .i64 d', .int .i64 s', .int .i64 2, .int .i64 a', .int .i64 b'] 36) hb1.size)
          clear hb1
          go_wp2_with fail
          go_ret2
          exact ⟨rfl, HB.out⟩
    · have hd' : d' < depth := by omega
      rw [if_neg (fun h => hd h.1)]
      go_enter Try.func15, Try.ntmps15
      go_wp2_with fail
      refine hg.mono ?_
      rintro e w1 ⟨rfl, hb1⟩
      unfold getV Ent.v
      have HB := Lib.hid (hb1.alloc (o := .cells #[.int .u64 k', .int .i64 d', .int .i64 s', .int .i64 u', .int .i64 a', .int .i64 b'] 36) hb1.size)
      clear hb1
      go_wp2_with fail
      go_ret2
      exact ⟨rfl, HB.out⟩
theorem Far.grown {X : Nat → Prop} {w w' : World} {r : Option Nat} (h : w.grownBy w' r) (hX : ∀ k, some k = r → X k) : Far X w w' :=
  ⟨h.os, h.tape, h.output, h.size, fun k hk hx => h.block k hk fun e => hx (hX k e)⟩
theorem Far.wide {X Y : Nat → Prop} {w w' : World} (h : Far X w w') (hxy : ∀ k, X k → Y k) : Far Y w w' := ⟨h.os, h.tape, h.output, h.size, fun k hk hy => h.block k hk fun hx => hy (hxy k hx)⟩
theorem info_ent : (Try.prog.info? 36).map (fun i => (i.zero, i.size, i.bytes)) = some (some (.agg E0), 6, 48) := by kernel_rfl
theorem info_ent3 : ∃ i0, Try.prog.info? 36 = some i0 ∧ i0.zero = some (.agg E0) ∧ i0.size = 6 ∧ i0.bytes = 48 := by
  have h := info_ent
  cases e : Try.prog.info? 36 with
  | none => rw [e] at h; cases h
  | some i0 =>
    rw [e] at h
    simp only [Option.map_some, Option.some.injEq, Prod.mk.injEq] at h
    exact ⟨i0, rfl, h.1, h.2.1, h.2.2⟩
def putL (L : List Ent) (o : Option Nat) (x : Ent) : List Ent := match o with
  | none => L ++ [x]
  | some i => L.set i x
/-- Is an entry put? -/
def rputB (L : List Ent) (o : Option Nat) (x : Ent) : Bool := decide (0 ≤ x.u) && decide (x.u ≤ 2) && !(keepsB (o.bind fun i => L[i]?) x)
set_option maxRecDepth 100000 in
set_option maxHeartbeats 4000000 in
theorem rput_none {n₀ : Nat} {W : World} {kb n : Nat} {v : Value} {L : List Ent} (h : DocAt n₀ W kb n v L) (hn : 0 < n) (hm : n ≤ 4096) (x : Ent) (hk : x.k < 18446744073709551616) (hL : L.length ≤ 900) (hks : ∀ x ∈ L, x.k < 18446744073709551616) (ho : AtIs n L x.k none) (hu : 0 ≤ x.u ∧ x.u ≤ 2) :
    Calls Try.prog 11 #[.pointer (some ⟨kb, 0, none⟩), x.v] W fun e w' => e = .returned (.bool true) ∧ ∃ v', DocAt n₀ w' kb n v' (L ++ [x]) ∧ Far (fun k => k = kb ∨ n₀ ≤ k) W w' := by
  obtain ⟨i0, hi, hz0, hz1, hz2⟩ := info_ent3
  obtain ⟨W0, hW0⟩ : ∃ W0, W.alloc (.cells x.cs 36) = W0 := ⟨_, rfl⟩
  have hB : Below W.heap.size W W0 := by rw [← hW0]; exact below_new _ _
  have hE : Blk W0 W.heap.size 36 x.cs := by rw [← hW0]; exact Blk.new _ _ _ rfl
  obtain ⟨e0, e1, e2, e3, e4, e5⟩ := ent_cells hE
  have HD := Lib.hid (h.next hB)
  have HE := Lib.hid hE
  have HB := Lib.hid hB
  have HO := Lib.hid ho
  have HKS := Lib.hid hks
  obtain ⟨A, c, hv⟩ := h.slice
  subst hv
  obtain ⟨u0, u2⟩ := hu
  have u0' : decide (x.u < 0) = false := by rw [decide_eq_false_iff_not]; omega
  have u2' : decide (2 < x.u) = false := by rw [decide_eq_false_iff_not]; omega
  obtain ⟨X, hX⟩ : ∃ X, X = x := ⟨_, rfl⟩
  have HX := Lib.hid hX
  rw [← hX] at HE HO hk
  have HKX := Lib.hid hk
  obtain ⟨k, d, s, u, a, b⟩ := x
  simp only at u0' u2' e0 e1 e2 e3 e4 e5
  clear h hks hE hB ho hX hk u0 u2
  unfold Ent.v
  have HW : Hid (W.alloc (.cells #[.int .u64 k, .int .i64 d, .int .i64 s, .int .i64 u, .int .i64 a, .int .i64 b] 36) = W0) := hW0
  go_enter Try.func11, Try.ntmps11
  go_wp2_with fail
  (try rw [HW.out])
  refine (rat_is HD.out hn hm k (by have := HKX.out; rw [HX.out] at this; exact this) (by omega) HKS.out _ (by have := HO.out; rw [HX.out] at this; exact this)).mono ?_
  rintro e w1 ⟨rfl, hb1⟩
  have HB1 := Lib.hid (HB.out.trans (hb1.mono HB.out.size))
  have HE1 := Lib.hid (HE.out.next hb1)
  have HD1 := Lib.hid (HD.out.next hb1)
  clear e0 e1 e2 e3 e4 e5
  obtain ⟨e0, e1, e2, e3, e4, e5⟩ := ent_cells HE1.out
  rw [HX.out] at e0 e1 e2 e3 e4 e5
  simp only at e0 e1 e2 e3 e4 e5
  have hc1 : w1.cell? ⟨kb, 1, none⟩ = some (.slice A L.length c) := HD1.out.blk.cell 1
  unfold atV
  clear hb1 hW0
  go_wp2_with fail
  go_quiet (fail)
  obtain ⟨W2, hW2⟩ : ∃ W2, w1.drewN nq = W2 := ⟨_, rfl⟩
  have hb2 : Below w1.heap.size w1 W2 := by rw [← hW2]; exact below_drewN (Below.refl _ _) _
  have HB2 := Lib.hid (HB1.out.trans (hb2.mono HB1.out.size))
  have HD2 := Lib.hid (HD1.out.next hb2)
  have HE2 := Lib.hid (HE1.out.next hb2)
  rw [hW2]
  clear e0 e1 e2 e3 e4 e5 hc1
  obtain ⟨e0, e1, e2, e3, e4, e5⟩ := ent_cells HE2.out
  rw [HX.out] at e0 e1 e2 e3 e4 e5
  simp only at e0 e1 e2 e3 e4 e5
  have hc1 : W2.cell? ⟨kb, 1, none⟩ = some (.slice A L.length c) := HD2.out.blk.cell 1
  obtain ⟨W3, hW3⟩ : ∃ W3, (W2.alloc (.cells #[.int .u64 k, .int .i64 d, .int .i64 s, .int .i64 u, .int .i64 a, .int .i64 b] 36)).drew = W3 := ⟨_, rfl⟩
  have hb3 : Below W2.heap.size W2 W3 := by rw [← hW3]; exact (below_new _ _).drew
  have bN : Blk W3 W2.heap.size 36 #[.int .u64 k, .int .i64 d, .int .i64 s, .int .i64 u, .int .i64 a, .int .i64 b] := by rw [← hW3]; exact (Blk.new W2 36 _ rfl).next (Below.refl _ _).drew
  have HD3 := Lib.hid (HD2.out.next hb3)
  have HB3 := Lib.hid (HB2.out.trans (hb3.mono HB2.out.size))
  have HBN := Lib.hid bN
  have HW3 := Lib.hid hW3
  have HONE : Hid (∀ q ∈ (Ent.mk k d s u a b).cs.toList, q.oneCell' = true) := by
    show ∀ q ∈ _, _
    intro q hu
    simp only [Ent.cs, List.mem_cons, List.not_mem_nil, or_false] at hu
    rcases hu with rfl | rfl | rfl | rfl | rfl | rfl <;> rfl
  have HL : Hid (L.length + 1 ≤ maxLen) := by show _ ≤ _; unfold maxLen; omega
  have HBY : Hid ((L.length + 1) * 48 ≤ 140737488355328) := by show _ ≤ _; omega
  have ca : (W2.alloc (.cells #[.int .u64 k, .int .i64 d, .int .i64 s, .int .i64 u, .int .i64 a, .int .i64 b] 36)).cell? ⟨kb, 1, none⟩ = some (.slice A L.length c) := ((below_new W2 _).cell (p := ⟨kb, 1, none⟩) (cell_lt hc1)).trans hc1
  clear hb2 hW2 hb3 bN hW3
  go_wp2_with fail
  go_region_law (refine step_append_lies _ rfl (.tmp 61) (.tmp 63) 29 rfl n₀ 36 i0 _ 6 48 Try.underlying29 hi hz0 hz1 hz2 rfl (by decide) _ L.length (entsL L) rfl (by rw [HW3.out]; exact HD3.out.row) ⟨W2.heap.size, 0, none⟩ 1 1 ((Ent.mk k d s u a b).cs.toList) rfl rfl (by rw [HW3.out]; exact World.news_of_block HBN.out) HONE.out (by decide) HL.out HBY.out (by rw [HW3.out]; exact HD3.out.le) _ rfl ?_; intro g2 cap2 w4 hown2 hgrow hat hlt; rw [HW3.out] at hgrow; have bG := (Far.grown (X := fun k => n₀ ≤ k) hgrow (fun k e => row_base HD3.out.row e.symm)).blk HD3.out.blk (Nat.not_le_of_lt HD3.out.lt); have c2 := bG.cell 1; have f2 := bG.frozen 1)
  all_goals
    have hf : Far (fun k => k = kb ∨ n₀ ≤ k) W w4 := (Far.of HB3.out).trans ((Far.grown (X := fun k => n₀ ≤ k) hgrow (fun k e => row_base HD3.out.row e.symm)).wide fun k h => .inr h)
    have hg2 : n₀ ≤ g2 := row_base hown2 (k := g2) rfl
    have hkb := HD3.out.lt
    have hle : n₀ ≤ w4.heap.size := Nat.le_trans HD3.out.le hgrow.size
    have hrow := row_next (w1 := w4.setCell ⟨kb, 1, none⟩ (.slice (some ⟨g2, 0, none⟩) (L.length + 1) cap2)) hown2 (fun q _ e => Below.heap_setCell w4 ⟨kb, 1, none⟩ _ q (fun e' => by
      have h1 : g2 = q := by simpa [Value.ownBlock] using e
      have h2 : q = kb := e'
      omega))
    clear hat
    go_wp2
    go_ret
    refine ⟨rfl, _, ⟨bG.set_ 1 _, ?_, hkb, by simpa using hle⟩, hf.trans (Far.set (X := fun k => k = kb ∨ n₀ ≤ k) (p := ⟨kb, 1, none⟩) (.inl rfl) _)⟩
    rw [entsL_snoc, List.length_append]
    exact hrow
end Go.Proofs.Ytgmbigdkipkibaa
