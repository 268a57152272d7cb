/- What any set has, how many, which first and last; with a square, and without one: the call answers true. -/
import Derived.Test.YtdfjmchkpoobdaaDoorRef3
import Derived.Test.YtdfjmchkpoobdaaDoorRef4
namespace Go.Proofs.YtdfjmchkpoobdaaDoor.one
open Go.RowKit Go.Shelf
open M (S)
open M.S

theorem hasI_eq (a : S) (n : Int) : a.hasI n = (decide (0 ≤ n ∧ n < 90) && a.has n.toNat) := by
  have key : ∀ i, i < 90 → (a.and (single n)).has i = (a.has i && decide (n = (i : Int))) := fun i hi => by
    rw [has_and, has_single]; simp [hi]
  by_cases h : (0 ≤ n ∧ n < 90) ∧ a.has n.toNat = true
  · rw [decide_eq_true h.1, h.2]
    unfold hasI
    have hk := key n.toNat (by omega)
    rw [h.2, decide_eq_true (p := n = ((n.toNat : Nat) : Int)) (by omega)] at hk
    by_cases hz : ((a.and (single n)).lo == 0 && (a.and (single n)).hi == 0) = true
    · simp only [Bool.and_eq_true, beq_iff_eq] at hz
      simp [S.has, M.has, hz.1, hz.2] at hk
    · rw [Bool.not_eq_true] at hz
      rw [hz]; rfl
  · have he : a.and (single n) = empty := by
      apply ext_has (and_clean _ _) empty_clean
      intro i hi
      rw [key i hi, has_empty]
      by_cases e : n = (i : Int)
      · have : a.has i = false := by
          cases hb : a.has i
          · rfl
          · exfalso; apply h
            refine ⟨by omega, ?_⟩
            rw [show n.toNat = i by omega]; exact hb
        rw [this]; rfl
      · rw [decide_eq_false e, Bool.and_false]
    unfold hasI
    rw [he]
    by_cases hn : 0 ≤ n ∧ n < 90
    · have : a.has n.toNat = false := by
        cases hb : a.has n.toNat
        · rfl
        · exact absurd ⟨hn, hb⟩ h
      rw [this, Bool.and_false]; rfl
    · rw [decide_eq_false hn]; rfl
theorem trues_has (a : S) : trues (M.has a.lo a.hi) 90 = a.sqs.map fun i => (i.val : Int) := by
  unfold trues
  rw [show (List.range 90).filter (M.has a.lo a.hi) = a.sqs.map Fin.val from (S.sqs_val a).symm, List.map_map]
  rfl
theorem rlist_is (a : S) (m : Nat) (A : Option Addr) (c : Nat) (w : World) (hp : Rd w A (bl (M.has a.lo a.hi))) (hm : a.sqs.length = m) : Calls Tryd.prog 18 #[.slice A 90 c] w (GivesList w (a.sqs.map fun i => (i.val : Int)) m) := by
  have h := rlist_any A c _ w hp
  rw [trues_has, List.length_map, hm] at h
  exact h
theorem square_is (n : Int) (b : Bool) (w : World) (h : sqB n = b) : Calls Tryd.prog 19 #[.int .i64 n] w (Gives w (.bool b)) := by
  subst h
  exact (square_any n w).mono fun _ _ ⟨h1, h2⟩ => ⟨h1, h2 ▸ Below.refl _ _⟩
theorem rd_cell {w : World} {a1 : Addr} {p : Nat → Bool} {n : Int} (hr : Rd w (some a1) (bl p)) (h0 : 0 ≤ n) (h1 : n < 90) : w.cell? (a1.add n.toNat) = some (.bool (p n.toNat)) := by
  obtain ⟨ad, e, h⟩ := rd_at hr
  cases e
  exact h _ (by omega)
theorem rd_last {w : World} {a1 : Addr} {xs : List Value} {j : Nat} {u : Value} (hr : Rd w (some a1) xs) (h : xs[j]? = some u) : w.cell? (a1.add j) = some u := by
  obtain ⟨ad, e, h'⟩ := hr j u h
  cases e
  exact h'
theorem rd_zero {w : World} {a : Addr} {u : Value} (h : w.cell? (a.add 0) = some u) : w.cell? a = some u := by simpa [Addr.add] using h
theorem map_first {l : List (Fin 90)} (h : l ≠ []) : (((l.map fun i => (i.val : Int)).map iv)[0]?) = some (iv (first l)) := by
  cases l with
  | nil => exact absurd rfl h
  | cons x l => rfl
theorem map_last {l : List (Fin 90)} {m : Nat} (h : l ≠ []) (hm : l.length = m) : (((l.map fun i => (i.val : Int)).map iv)[m - 1]?) = some (iv (last l)) := by
  subst hm
  rw [List.getElem?_map, List.getElem?_map, ← List.getLast?_eq_getElem?]
  unfold last
  rw [List.getLast?_eq_some_getLast h]
  rfl
theorem put_same (a : S) (n : Int) (i : Nat) (hi : i < 90) : (a.put n).has i = putF (M.has a.lo a.hi) n true i := by
  rw [has_put]
  unfold putF
  by_cases e : (i : Int) = n
  · rw [if_pos e, decide_eq_true (p := n = (i : Int) ∧ i < 90) ⟨e.symm, hi⟩, Bool.or_true]
  · rw [if_neg e, decide_eq_false (p := n = (i : Int) ∧ i < 90) (fun h => e h.1.symm), Bool.or_false]
    rfl
theorem drop_same (a : S) (n : Int) (i : Nat) (hi : i < 90) : (a.drop n).has i = putF (M.has a.lo a.hi) n false i := by
  rw [has_drop]
  unfold putF
  by_cases e : (i : Int) = n
  · rw [if_pos e, decide_eq_true (p := n = (i : Int) ∧ i < 90) ⟨e.symm, hi⟩, Bool.not_true, Bool.and_false]
  · rw [if_neg e, decide_eq_false (p := n = (i : Int) ∧ i < 90) (fun h => e h.1.symm), Bool.not_false, Bool.and_true]
    rfl

set_option maxRecDepth 100000 in
set_option maxHeartbeats 4000000 in
theorem some_in (a : S) (n : Int) (w : World) (hT : Tab w) (he : a.sqs ≠ []) (hn : 0 ≤ n ∧ n < 90) : Calls Tryd.prog 4 #[.agg #[.int .u64 a.lo, .int .u64 a.hi], .int .i64 n] w fun e w' => e = .returned (.bool true) ∧ Below w.heap.size w w' := by
  obtain ⟨m, hm⟩ : ∃ m, a.sqs.length = m := ⟨_, rfl⟩
  have HM := Lib.hid hm
  have hm90 : m ≤ 90 := by rw [← hm, S.sqs_length]; exact S.count_le a
  have hm1 : 1 ≤ m := by rw [← hm]; exact List.length_pos_iff.2 he
  have H0 := Lib.hid (map_first he)
  have H1 := Lib.hid (map_last he hm)
  clear he hm
  have HQ : Hid (sqB n = true) := by show _ = _; unfold sqB; rw [decide_eq_true hn.1, decide_eq_true hn.2]; rfl
  have HH : Hid ((decide (0 ≤ n ∧ n < 90) && a.has n.toNat) = M.has a.lo a.hi n.toNat) := by show _ = _; rw [decide_eq_true hn]; rfl
  obtain ⟨hn0, hn1⟩ := hn
  go_enter Tryd.func4, Tryd.ntmps4
  go_wp2_with fail
  obtain ⟨W0, hW0⟩ : ∃ W0, (w.alloc (.cells (svc a) 24)) = W0 := ⟨_, rfl⟩
  have ba : Blk W0 (w.heap.size) 24 (svc a) := by rw [← hW0]; exact Blk.new _ _ _ (by simp)
  have hB : Below w.heap.size w W0 := by rw [← hW0]; exact (by repeat (first | exact Below.refl _ _ | (refine Below.setCell ?_ (by first | omega | (simp; done) | (simp; omega) | (simp at *; omega)) _) | (refine Below.alloc ?_ (by first | omega | (simp; done) | (simp; omega) | (simp at *; omega)) _) | refine Below.drew ?_ | (refine below_drewN ?_ _) | (refine Below.trans ?_ (Below.mono (by assumption) (by first | omega | (simp; done) | (simp; omega) | (simp at *; omega))))))
  replace hT := hT.below hB hT.lt
  rw [hW0]
  clear hW0
  have ba0 := ba.cell 0
  have ba1 := ba.cell 1
  simp only [List.getElem?_toArray, List.getElem?_cons_zero, List.getElem?_cons_succ] at ba0 ba1
  refine (truths_any a.lo a.hi _).mono ?_
  rintro e w1 ⟨A1, kA1, rfl, r1, hb⟩
  replace ba := ba.next hb
  replace hT := hT.next hb
  replace hB := hB.trans (hb.mono hB.size)
  clear hb ba0 ba1
  have ba0 := ba.cell 0
  have ba1 := ba.cell 1
  simp only [List.getElem?_toArray, List.getElem?_cons_zero, List.getElem?_cons_succ] at ba0 ba1
  go_wp2_with fail
  refine (rlist_is a m A1 _ _ r1 HM.out).mono ?_
  rintro e w2 ⟨L, kL, rfl, rl, hb⟩
  replace ba := ba.next hb
  replace r1 := r1.next hb
  replace hT := hT.next hb
  replace hB := hB.trans (hb.mono hB.size)
  clear hb ba0 ba1
  have ba0 := ba.cell 0
  have ba1 := ba.cell 1
  simp only [List.getElem?_toArray, List.getElem?_cons_zero, List.getElem?_cons_succ] at ba0 ba1
  obtain ⟨ad, rfl, x0⟩ := rl 0 (iv (first a.sqs)) H0.out
  have x1 := rd_last rl H1.out
  replace x0 := rd_zero x0
  obtain ⟨a1, rfl, hp⟩ := rd_at r1
  have xn := hp n.toNat (by omega)
  clear hp
  go_wp2_with fail
  refine (square_is n true _ HQ.out).mono ?_
  rintro e w3 ⟨rfl, hb⟩
  replace ba := ba.next hb
  replace r1 := r1.next hb
  replace rl := rl.next hb
  replace hT := hT.next hb
  replace hB := hB.trans (hb.mono hB.size)
  clear hb ba0 ba1
  have ba0 := ba.cell 0
  have ba1 := ba.cell 1
  simp only [List.getElem?_toArray, List.getElem?_cons_zero, List.getElem?_cons_succ] at ba0 ba1
  replace xn := rd_cell r1 (n := n) (by omega) (by omega)
  go_wp2_with fail
  refine (list_is a (a.sqs.map fun i => (i.val : Int)) m _ hT rfl (by rw [List.length_map]; exact HM.out)).mono ?_
  rintro e w4 ⟨L2, kL2, rfl, rl2, hb⟩
  replace ba := ba.next hb
  replace r1 := r1.next hb
  replace rl := rl.next hb
  replace hT := hT.next hb
  replace hB := hB.trans (hb.mono hB.size)
  clear hb ba0 ba1
  have ba0 := ba.cell 0
  have ba1 := ba.cell 1
  simp only [List.getElem?_toArray, List.getElem?_cons_zero, List.getElem?_cons_succ] at ba0 ba1
  go_wp2_with fail
  refine (ints_true _ _ (a.sqs.map fun i => (i.val : Int)) m _ _ _ rl2 rl (by rw [List.length_map]; exact HM.out) (by omega)).mono ?_
  rintro e w5 ⟨rfl, hb⟩
  replace ba := ba.next hb
  replace r1 := r1.next hb
  replace rl := rl.next hb
  replace rl2 := rl2.next hb
  replace hT := hT.next hb
  replace hB := hB.trans (hb.mono hB.size)
  clear hb ba0 ba1
  have ba0 := ba.cell 0
  have ba1 := ba.cell 1
  simp only [List.getElem?_toArray, List.getElem?_cons_zero, List.getElem?_cons_succ] at ba0 ba1
  clear rl2
  go_wp2_with fail
  refine (count_is a m _ (by rw [← S.sqs_length, HM.out])).mono ?_
  rintro e w6 ⟨rfl, hb⟩
  replace ba := ba.next hb
  replace r1 := r1.next hb
  replace rl := rl.next hb
  replace hT := hT.next hb
  replace hB := hB.trans (hb.mono hB.size)
  clear hb ba0 ba1
  have ba0 := ba.cell 0
  have ba1 := ba.cell 1
  simp only [List.getElem?_toArray, List.getElem?_cons_zero, List.getElem?_cons_succ] at ba0 ba1
  go_wp2_with fail
  refine (first_any a _ hT).mono ?_
  rintro e w7 ⟨rfl, hb⟩
  replace ba := ba.next hb
  replace r1 := r1.next hb
  replace rl := rl.next hb
  replace hT := hT.next hb
  replace hB := hB.trans (hb.mono hB.size)
  clear hb ba0 ba1
  have ba0 := ba.cell 0
  have ba1 := ba.cell 1
  simp only [List.getElem?_toArray, List.getElem?_cons_zero, List.getElem?_cons_succ] at ba0 ba1
  go_wp2_with fail
  refine (last_any a _ hT).mono ?_
  rintro e w8 ⟨rfl, hb⟩
  replace ba := ba.next hb
  replace r1 := r1.next hb
  replace rl := rl.next hb
  replace hT := hT.next hb
  replace hB := hB.trans (hb.mono hB.size)
  clear hb ba0 ba1
  have ba0 := ba.cell 0
  have ba1 := ba.cell 1
  simp only [List.getElem?_toArray, List.getElem?_cons_zero, List.getElem?_cons_succ] at ba0 ba1
  go_wp2_with fail
  refine (has_is a n (M.has a.lo a.hi n.toNat) _ (by rw [hasI_eq]; exact HH.out)).mono ?_
  rintro e w9 ⟨rfl, hb⟩
  replace ba := ba.next hb
  replace r1 := r1.next hb
  replace rl := rl.next hb
  replace hT := hT.next hb
  replace hB := hB.trans (hb.mono hB.size)
  clear hb ba0 ba1
  have ba0 := ba.cell 0
  have ba1 := ba.cell 1
  simp only [List.getElem?_toArray, List.getElem?_cons_zero, List.getElem?_cons_succ] at ba0 ba1
  go_wp2_with fail
  refine (with_any a n _).mono ?_
  rintro e w10 ⟨rfl, hb⟩
  replace ba := ba.next hb
  replace r1 := r1.next hb
  replace rl := rl.next hb
  replace hT := hT.next hb
  replace hB := hB.trans (hb.mono hB.size)
  clear hb ba0 ba1
  have ba0 := ba.cell 0
  have ba1 := ba.cell 1
  simp only [List.getElem?_toArray, List.getElem?_cons_zero, List.getElem?_cons_succ] at ba0 ba1
  go_wp2_with fail
  refine (rput_any _ _ _ n true _ r1).mono ?_
  rintro e w11 ⟨A3, kA3, rfl, r3, hb⟩
  replace ba := ba.next hb
  replace r1 := r1.next hb
  replace rl := rl.next hb
  replace hT := hT.next hb
  replace hB := hB.trans (hb.mono hB.size)
  clear hb ba0 ba1
  have ba0 := ba.cell 0
  have ba1 := ba.cell 1
  simp only [List.getElem?_toArray, List.getElem?_cons_zero, List.getElem?_cons_succ] at ba0 ba1
  go_wp2_with fail
  refine (is_true (a.put n) (put_clean a n) A3 _ _ _ r3 (put_same a n)).mono ?_
  rintro e w12 ⟨rfl, hb⟩
  replace ba := ba.next hb
  replace r1 := r1.next hb
  replace rl := rl.next hb
  replace r3 := r3.next hb
  replace hT := hT.next hb
  replace hB := hB.trans (hb.mono hB.size)
  clear hb ba0 ba1
  have ba0 := ba.cell 0
  have ba1 := ba.cell 1
  simp only [List.getElem?_toArray, List.getElem?_cons_zero, List.getElem?_cons_succ] at ba0 ba1
  clear r3
  go_wp2_with fail
  refine (without_any a n _).mono ?_
  rintro e w13 ⟨rfl, hb⟩
  replace ba := ba.next hb
  replace r1 := r1.next hb
  replace rl := rl.next hb
  replace hT := hT.next hb
  replace hB := hB.trans (hb.mono hB.size)
  clear hb ba0 ba1
  have ba0 := ba.cell 0
  have ba1 := ba.cell 1
  simp only [List.getElem?_toArray, List.getElem?_cons_zero, List.getElem?_cons_succ] at ba0 ba1
  go_wp2_with fail
  refine (rput_any _ _ _ n false _ r1).mono ?_
  rintro e w14 ⟨A4, kA4, rfl, r4, hb⟩
  replace ba := ba.next hb
  replace r1 := r1.next hb
  replace rl := rl.next hb
  replace hT := hT.next hb
  replace hB := hB.trans (hb.mono hB.size)
  clear hb ba0 ba1
  have ba0 := ba.cell 0
  have ba1 := ba.cell 1
  simp only [List.getElem?_toArray, List.getElem?_cons_zero, List.getElem?_cons_succ] at ba0 ba1
  go_wp2_with fail
  refine (is_true (a.drop n) (drop_clean a n) A4 _ _ _ r4 (drop_same a n)).mono ?_
  rintro e w15 ⟨rfl, hb⟩
  replace ba := ba.next hb
  replace r1 := r1.next hb
  replace rl := rl.next hb
  replace r4 := r4.next hb
  replace hT := hT.next hb
  replace hB := hB.trans (hb.mono hB.size)
  clear hb ba0 ba1
  have ba0 := ba.cell 0
  have ba1 := ba.cell 1
  simp only [List.getElem?_toArray, List.getElem?_cons_zero, List.getElem?_cons_succ] at ba0 ba1
  clear r4
  go_wp2_with fail
  refine (live_any _ hT).mono ?_
  rintro e w16 ⟨rfl, hb⟩
  replace ba := ba.next hb
  replace r1 := r1.next hb
  replace rl := rl.next hb
  replace hT := hT.next hb
  replace hB := hB.trans (hb.mono hB.size)
  clear hb ba0 ba1
  have ba0 := ba.cell 0
  have ba1 := ba.cell 1
  simp only [List.getElem?_toArray, List.getElem?_cons_zero, List.getElem?_cons_succ] at ba0 ba1
  go_wp2
  go_ret
  exact ⟨rfl, hB⟩

set_option maxRecDepth 100000 in
set_option maxHeartbeats 4000000 in
theorem some_out (a : S) (n : Int) (w : World) (hT : Tab w) (he : a.sqs ≠ []) (hn : ¬ (0 ≤ n ∧ n < 90)) : Calls Tryd.prog 4 #[.agg #[.int .u64 a.lo, .int .u64 a.hi], .int .i64 n] w fun e w' => e = .returned (.bool true) ∧ Below w.heap.size w w' := by
  obtain ⟨m, hm⟩ : ∃ m, a.sqs.length = m := ⟨_, rfl⟩
  have HM := Lib.hid hm
  have hm90 : m ≤ 90 := by rw [← hm, S.sqs_length]; exact S.count_le a
  have hm1 : 1 ≤ m := by rw [← hm]; exact List.length_pos_iff.2 he
  have H0 := Lib.hid (map_first he)
  have H1 := Lib.hid (map_last he hm)
  clear he hm
  have HQ : Hid (sqB n = false) := by
    show _ = _
    unfold sqB
    rw [← Bool.decide_and, decide_eq_false hn]
  have HH : Hid ((decide (0 ≤ n ∧ n < 90) && a.has n.toNat) = false) := by show _ = _; rw [decide_eq_false hn]; rfl
  clear hn
  go_enter Tryd.func4, Tryd.ntmps4
  go_wp2_with fail
  obtain ⟨W0, hW0⟩ : ∃ W0, (w.alloc (.cells (svc a) 24)) = W0 := ⟨_, rfl⟩
  have ba : Blk W0 (w.heap.size) 24 (svc a) := by rw [← hW0]; exact Blk.new _ _ _ (by simp)
  have hB : Below w.heap.size w W0 := by rw [← hW0]; exact (by repeat (first | exact Below.refl _ _ | (refine Below.setCell ?_ (by first | omega | (simp; done) | (simp; omega) | (simp at *; omega)) _) | (refine Below.alloc ?_ (by first | omega | (simp; done) | (simp; omega) | (simp at *; omega)) _) | refine Below.drew ?_ | (refine below_drewN ?_ _) | (refine Below.trans ?_ (Below.mono (by assumption) (by first | omega | (simp; done) | (simp; omega) | (simp at *; omega))))))
  replace hT := hT.below hB hT.lt
  rw [hW0]
  clear hW0
  have ba0 := ba.cell 0
  have ba1 := ba.cell 1
  simp only [List.getElem?_toArray, List.getElem?_cons_zero, List.getElem?_cons_succ] at ba0 ba1
  refine (truths_any a.lo a.hi _).mono ?_
  rintro e w1 ⟨A1, kA1, rfl, r1, hb⟩
  replace ba := ba.next hb
  replace hT := hT.next hb
  replace hB := hB.trans (hb.mono hB.size)
  clear hb ba0 ba1
  have ba0 := ba.cell 0
  have ba1 := ba.cell 1
  simp only [List.getElem?_toArray, List.getElem?_cons_zero, List.getElem?_cons_succ] at ba0 ba1
  go_wp2_with fail
  refine (rlist_is a m A1 _ _ r1 HM.out).mono ?_
  rintro e w2 ⟨L, kL, rfl, rl, hb⟩
  replace ba := ba.next hb
  replace r1 := r1.next hb
  replace hT := hT.next hb
  replace hB := hB.trans (hb.mono hB.size)
  clear hb ba0 ba1
  have ba0 := ba.cell 0
  have ba1 := ba.cell 1
  simp only [List.getElem?_toArray, List.getElem?_cons_zero, List.getElem?_cons_succ] at ba0 ba1
  obtain ⟨ad, rfl, x0⟩ := rl 0 (iv (first a.sqs)) H0.out
  have x1 := rd_last rl H1.out
  replace x0 := rd_zero x0
  go_wp2_with fail
  refine (square_is n false _ HQ.out).mono ?_
  rintro e w3 ⟨rfl, hb⟩
  replace ba := ba.next hb
  replace r1 := r1.next hb
  replace rl := rl.next hb
  replace hT := hT.next hb
  replace hB := hB.trans (hb.mono hB.size)
  clear hb ba0 ba1
  have ba0 := ba.cell 0
  have ba1 := ba.cell 1
  simp only [List.getElem?_toArray, List.getElem?_cons_zero, List.getElem?_cons_succ] at ba0 ba1
  go_wp2_with fail
  refine (list_is a (a.sqs.map fun i => (i.val : Int)) m _ hT rfl (by rw [List.length_map]; exact HM.out)).mono ?_
  rintro e w4 ⟨L2, kL2, rfl, rl2, hb⟩
  replace ba := ba.next hb
  replace r1 := r1.next hb
  replace rl := rl.next hb
  replace hT := hT.next hb
  replace hB := hB.trans (hb.mono hB.size)
  clear hb ba0 ba1
  have ba0 := ba.cell 0
  have ba1 := ba.cell 1
  simp only [List.getElem?_toArray, List.getElem?_cons_zero, List.getElem?_cons_succ] at ba0 ba1
  go_wp2_with fail
  refine (ints_true _ _ (a.sqs.map fun i => (i.val : Int)) m _ _ _ rl2 rl (by rw [List.length_map]; exact HM.out) (by omega)).mono ?_
  rintro e w5 ⟨rfl, hb⟩
  replace ba := ba.next hb
  replace r1 := r1.next hb
  replace rl := rl.next hb
  replace rl2 := rl2.next hb
  replace hT := hT.next hb
  replace hB := hB.trans (hb.mono hB.size)
  clear hb ba0 ba1
  have ba0 := ba.cell 0
  have ba1 := ba.cell 1
  simp only [List.getElem?_toArray, List.getElem?_cons_zero, List.getElem?_cons_succ] at ba0 ba1
  clear rl2
  go_wp2_with fail
  refine (count_is a m _ (by rw [← S.sqs_length, HM.out])).mono ?_
  rintro e w6 ⟨rfl, hb⟩
  replace ba := ba.next hb
  replace r1 := r1.next hb
  replace rl := rl.next hb
  replace hT := hT.next hb
  replace hB := hB.trans (hb.mono hB.size)
  clear hb ba0 ba1
  have ba0 := ba.cell 0
  have ba1 := ba.cell 1
  simp only [List.getElem?_toArray, List.getElem?_cons_zero, List.getElem?_cons_succ] at ba0 ba1
  go_wp2_with fail
  refine (first_any a _ hT).mono ?_
  rintro e w7 ⟨rfl, hb⟩
  replace ba := ba.next hb
  replace r1 := r1.next hb
  replace rl := rl.next hb
  replace hT := hT.next hb
  replace hB := hB.trans (hb.mono hB.size)
  clear hb ba0 ba1
  have ba0 := ba.cell 0
  have ba1 := ba.cell 1
  simp only [List.getElem?_toArray, List.getElem?_cons_zero, List.getElem?_cons_succ] at ba0 ba1
  go_wp2_with fail
  refine (last_any a _ hT).mono ?_
  rintro e w8 ⟨rfl, hb⟩
  replace ba := ba.next hb
  replace r1 := r1.next hb
  replace rl := rl.next hb
  replace hT := hT.next hb
  replace hB := hB.trans (hb.mono hB.size)
  clear hb ba0 ba1
  have ba0 := ba.cell 0
  have ba1 := ba.cell 1
  simp only [List.getElem?_toArray, List.getElem?_cons_zero, List.getElem?_cons_succ] at ba0 ba1
  go_wp2_with fail
  refine (has_is a n false _ (by rw [hasI_eq]; exact HH.out)).mono ?_
  rintro e w9 ⟨rfl, hb⟩
  replace ba := ba.next hb
  replace r1 := r1.next hb
  replace rl := rl.next hb
  replace hT := hT.next hb
  replace hB := hB.trans (hb.mono hB.size)
  clear hb ba0 ba1
  have ba0 := ba.cell 0
  have ba1 := ba.cell 1
  simp only [List.getElem?_toArray, List.getElem?_cons_zero, List.getElem?_cons_succ] at ba0 ba1
  go_wp2_with fail
  refine (with_any a n _).mono ?_
  rintro e w10 ⟨rfl, hb⟩
  replace ba := ba.next hb
  replace r1 := r1.next hb
  replace rl := rl.next hb
  replace hT := hT.next hb
  replace hB := hB.trans (hb.mono hB.size)
  clear hb ba0 ba1
  have ba0 := ba.cell 0
  have ba1 := ba.cell 1
  simp only [List.getElem?_toArray, List.getElem?_cons_zero, List.getElem?_cons_succ] at ba0 ba1
  go_wp2_with fail
  refine (rput_any _ _ _ n true _ r1).mono ?_
  rintro e w11 ⟨A3, kA3, rfl, r3, hb⟩
  replace ba := ba.next hb
  replace r1 := r1.next hb
  replace rl := rl.next hb
  replace hT := hT.next hb
  replace hB := hB.trans (hb.mono hB.size)
  clear hb ba0 ba1
  have ba0 := ba.cell 0
  have ba1 := ba.cell 1
  simp only [List.getElem?_toArray, List.getElem?_cons_zero, List.getElem?_cons_succ] at ba0 ba1
  go_wp2_with fail
  refine (is_true (a.put n) (put_clean a n) A3 _ _ _ r3 (put_same a n)).mono ?_
  rintro e w12 ⟨rfl, hb⟩
  replace ba := ba.next hb
  replace r1 := r1.next hb
  replace rl := rl.next hb
  replace r3 := r3.next hb
  replace hT := hT.next hb
  replace hB := hB.trans (hb.mono hB.size)
  clear hb ba0 ba1
  have ba0 := ba.cell 0
  have ba1 := ba.cell 1
  simp only [List.getElem?_toArray, List.getElem?_cons_zero, List.getElem?_cons_succ] at ba0 ba1
  clear r3
  go_wp2_with fail
  refine (without_any a n _).mono ?_
  rintro e w13 ⟨rfl, hb⟩
  replace ba := ba.next hb
  replace r1 := r1.next hb
  replace rl := rl.next hb
  replace hT := hT.next hb
  replace hB := hB.trans (hb.mono hB.size)
  clear hb ba0 ba1
  have ba0 := ba.cell 0
  have ba1 := ba.cell 1
  simp only [List.getElem?_toArray, List.getElem?_cons_zero, List.getElem?_cons_succ] at ba0 ba1
  go_wp2_with fail
  refine (rput_any _ _ _ n false _ r1).mono ?_
  rintro e w14 ⟨A4, kA4, rfl, r4, hb⟩
  replace ba := ba.next hb
  replace r1 := r1.next hb
  replace rl := rl.next hb
  replace hT := hT.next hb
  replace hB := hB.trans (hb.mono hB.size)
  clear hb ba0 ba1
  have ba0 := ba.cell 0
  have ba1 := ba.cell 1
  simp only [List.getElem?_toArray, List.getElem?_cons_zero, List.getElem?_cons_succ] at ba0 ba1
  go_wp2_with fail
  refine (is_true (a.drop n) (drop_clean a n) A4 _ _ _ r4 (drop_same a n)).mono ?_
  rintro e w15 ⟨rfl, hb⟩
  replace ba := ba.next hb
  replace r1 := r1.next hb
  replace rl := rl.next hb
  replace r4 := r4.next hb
  replace hT := hT.next hb
  replace hB := hB.trans (hb.mono hB.size)
  clear hb ba0 ba1
  have ba0 := ba.cell 0
  have ba1 := ba.cell 1
  simp only [List.getElem?_toArray, List.getElem?_cons_zero, List.getElem?_cons_succ] at ba0 ba1
  clear r4
  go_wp2_with fail
  refine (live_any _ hT).mono ?_
  rintro e w16 ⟨rfl, hb⟩
  replace ba := ba.next hb
  replace r1 := r1.next hb
  replace rl := rl.next hb
  replace hT := hT.next hb
  replace hB := hB.trans (hb.mono hB.size)
  clear hb ba0 ba1
  have ba0 := ba.cell 0
  have ba1 := ba.cell 1
  simp only [List.getElem?_toArray, List.getElem?_cons_zero, List.getElem?_cons_succ] at ba0 ba1
  go_wp2
  go_ret
  exact ⟨rfl, hB⟩

set_option maxRecDepth 100000 in
set_option maxHeartbeats 4000000 in
theorem none_in (a : S) (n : Int) (w : World) (hT : Tab w) (he : a.sqs = []) (hn : 0 ≤ n ∧ n < 90) : Calls Tryd.prog 4 #[.agg #[.int .u64 a.lo, .int .u64 a.hi], .int .i64 n] w fun e w' => e = .returned (.bool true) ∧ Below w.heap.size w w' := by
  obtain ⟨m, hm⟩ : ∃ m, a.sqs.length = m := ⟨_, rfl⟩
  have HM := Lib.hid hm
  have hm90 : m ≤ 90 := by rw [← hm, S.sqs_length]; exact S.count_le a
  have hm0 : m = 0 := by rw [← hm, he]; rfl
  subst hm0
  have HE := Lib.hid he
  clear he hm
  have HQ : Hid (sqB n = true) := by show _ = _; unfold sqB; rw [decide_eq_true hn.1, decide_eq_true hn.2]; rfl
  have HH : Hid ((decide (0 ≤ n ∧ n < 90) && a.has n.toNat) = M.has a.lo a.hi n.toNat) := by show _ = _; rw [decide_eq_true hn]; rfl
  obtain ⟨hn0, hn1⟩ := hn
  go_enter Tryd.func4, Tryd.ntmps4
  go_wp2_with fail
  obtain ⟨W0, hW0⟩ : ∃ W0, (w.alloc (.cells (svc a) 24)) = W0 := ⟨_, rfl⟩
  have ba : Blk W0 (w.heap.size) 24 (svc a) := by rw [← hW0]; exact Blk.new _ _ _ (by simp)
  have hB : Below w.heap.size w W0 := by rw [← hW0]; exact (by repeat (first | exact Below.refl _ _ | (refine Below.setCell ?_ (by first | omega | (simp; done) | (simp; omega) | (simp at *; omega)) _) | (refine Below.alloc ?_ (by first | omega | (simp; done) | (simp; omega) | (simp at *; omega)) _) | refine Below.drew ?_ | (refine below_drewN ?_ _) | (refine Below.trans ?_ (Below.mono (by assumption) (by first | omega | (simp; done) | (simp; omega) | (simp at *; omega))))))
  replace hT := hT.below hB hT.lt
  rw [hW0]
  clear hW0
  have ba0 := ba.cell 0
  have ba1 := ba.cell 1
  simp only [List.getElem?_toArray, List.getElem?_cons_zero, List.getElem?_cons_succ] at ba0 ba1
  refine (truths_any a.lo a.hi _).mono ?_
  rintro e w1 ⟨A1, kA1, rfl, r1, hb⟩
  replace ba := ba.next hb
  replace hT := hT.next hb
  replace hB := hB.trans (hb.mono hB.size)
  clear hb ba0 ba1
  have ba0 := ba.cell 0
  have ba1 := ba.cell 1
  simp only [List.getElem?_toArray, List.getElem?_cons_zero, List.getElem?_cons_succ] at ba0 ba1
  go_wp2_with fail
  refine (rlist_is a 0 A1 _ _ r1 HM.out).mono ?_
  rintro e w2 ⟨L, kL, rfl, rl, hb⟩
  replace ba := ba.next hb
  replace r1 := r1.next hb
  replace hT := hT.next hb
  replace hB := hB.trans (hb.mono hB.size)
  clear hb ba0 ba1
  have ba0 := ba.cell 0
  have ba1 := ba.cell 1
  simp only [List.getElem?_toArray, List.getElem?_cons_zero, List.getElem?_cons_succ] at ba0 ba1
  obtain ⟨a1, rfl, hp⟩ := rd_at r1
  have xn := hp n.toNat (by omega)
  clear hp
  go_wp2_with fail
  refine (square_is n true _ HQ.out).mono ?_
  rintro e w3 ⟨rfl, hb⟩
  replace ba := ba.next hb
  replace r1 := r1.next hb
  replace rl := rl.next hb
  replace hT := hT.next hb
  replace hB := hB.trans (hb.mono hB.size)
  clear hb ba0 ba1
  have ba0 := ba.cell 0
  have ba1 := ba.cell 1
  simp only [List.getElem?_toArray, List.getElem?_cons_zero, List.getElem?_cons_succ] at ba0 ba1
  replace xn := rd_cell r1 (n := n) (by omega) (by omega)
  go_wp2_with fail
  refine (list_is a (a.sqs.map fun i => (i.val : Int)) 0 _ hT rfl (by rw [List.length_map]; exact HM.out)).mono ?_
  rintro e w4 ⟨L2, kL2, rfl, rl2, hb⟩
  replace ba := ba.next hb
  replace r1 := r1.next hb
  replace rl := rl.next hb
  replace hT := hT.next hb
  replace hB := hB.trans (hb.mono hB.size)
  clear hb ba0 ba1
  have ba0 := ba.cell 0
  have ba1 := ba.cell 1
  simp only [List.getElem?_toArray, List.getElem?_cons_zero, List.getElem?_cons_succ] at ba0 ba1
  go_wp2_with fail
  refine (ints_true _ _ (a.sqs.map fun i => (i.val : Int)) 0 _ _ _ rl2 rl (by rw [List.length_map]; exact HM.out) (by omega)).mono ?_
  rintro e w5 ⟨rfl, hb⟩
  replace ba := ba.next hb
  replace r1 := r1.next hb
  replace rl := rl.next hb
  replace rl2 := rl2.next hb
  replace hT := hT.next hb
  replace hB := hB.trans (hb.mono hB.size)
  clear hb ba0 ba1
  have ba0 := ba.cell 0
  have ba1 := ba.cell 1
  simp only [List.getElem?_toArray, List.getElem?_cons_zero, List.getElem?_cons_succ] at ba0 ba1
  clear rl2
  go_wp2_with fail
  refine (count_is a 0 _ (by rw [← S.sqs_length, HM.out]; rfl)).mono ?_
  rintro e w6 ⟨rfl, hb⟩
  replace ba := ba.next hb
  replace r1 := r1.next hb
  replace rl := rl.next hb
  replace hT := hT.next hb
  replace hB := hB.trans (hb.mono hB.size)
  clear hb ba0 ba1
  have ba0 := ba.cell 0
  have ba1 := ba.cell 1
  simp only [List.getElem?_toArray, List.getElem?_cons_zero, List.getElem?_cons_succ] at ba0 ba1
  go_wp2_with fail
  refine (first_is a (-1) _ hT (by rw [HE.out]; rfl)).mono ?_
  rintro e w7 ⟨rfl, hb⟩
  replace ba := ba.next hb
  replace r1 := r1.next hb
  replace rl := rl.next hb
  replace hT := hT.next hb
  replace hB := hB.trans (hb.mono hB.size)
  clear hb ba0 ba1
  have ba0 := ba.cell 0
  have ba1 := ba.cell 1
  simp only [List.getElem?_toArray, List.getElem?_cons_zero, List.getElem?_cons_succ] at ba0 ba1
  go_wp2_with fail
  refine (last_is a (-1) _ hT (by rw [HE.out]; rfl)).mono ?_
  rintro e w8 ⟨rfl, hb⟩
  replace ba := ba.next hb
  replace r1 := r1.next hb
  replace rl := rl.next hb
  replace hT := hT.next hb
  replace hB := hB.trans (hb.mono hB.size)
  clear hb ba0 ba1
  have ba0 := ba.cell 0
  have ba1 := ba.cell 1
  simp only [List.getElem?_toArray, List.getElem?_cons_zero, List.getElem?_cons_succ] at ba0 ba1
  go_wp2_with fail
  refine (has_is a n (M.has a.lo a.hi n.toNat) _ (by rw [hasI_eq]; exact HH.out)).mono ?_
  rintro e w9 ⟨rfl, hb⟩
  replace ba := ba.next hb
  replace r1 := r1.next hb
  replace rl := rl.next hb
  replace hT := hT.next hb
  replace hB := hB.trans (hb.mono hB.size)
  clear hb ba0 ba1
  have ba0 := ba.cell 0
  have ba1 := ba.cell 1
  simp only [List.getElem?_toArray, List.getElem?_cons_zero, List.getElem?_cons_succ] at ba0 ba1
  go_wp2_with fail
  refine (with_any a n _).mono ?_
  rintro e w10 ⟨rfl, hb⟩
  replace ba := ba.next hb
  replace r1 := r1.next hb
  replace rl := rl.next hb
  replace hT := hT.next hb
  replace hB := hB.trans (hb.mono hB.size)
  clear hb ba0 ba1
  have ba0 := ba.cell 0
  have ba1 := ba.cell 1
  simp only [List.getElem?_toArray, List.getElem?_cons_zero, List.getElem?_cons_succ] at ba0 ba1
  go_wp2_with fail
  refine (rput_any _ _ _ n true _ r1).mono ?_
  rintro e w11 ⟨A3, kA3, rfl, r3, hb⟩
  replace ba := ba.next hb
  replace r1 := r1.next hb
  replace rl := rl.next hb
  replace hT := hT.next hb
  replace hB := hB.trans (hb.mono hB.size)
  clear hb ba0 ba1
  have ba0 := ba.cell 0
  have ba1 := ba.cell 1
  simp only [List.getElem?_toArray, List.getElem?_cons_zero, List.getElem?_cons_succ] at ba0 ba1
  go_wp2_with fail
  refine (is_true (a.put n) (put_clean a n) A3 _ _ _ r3 (put_same a n)).mono ?_
  rintro e w12 ⟨rfl, hb⟩
  replace ba := ba.next hb
  replace r1 := r1.next hb
  replace rl := rl.next hb
  replace r3 := r3.next hb
  replace hT := hT.next hb
  replace hB := hB.trans (hb.mono hB.size)
  clear hb ba0 ba1
  have ba0 := ba.cell 0
  have ba1 := ba.cell 1
  simp only [List.getElem?_toArray, List.getElem?_cons_zero, List.getElem?_cons_succ] at ba0 ba1
  clear r3
  go_wp2_with fail
  refine (without_any a n _).mono ?_
  rintro e w13 ⟨rfl, hb⟩
  replace ba := ba.next hb
  replace r1 := r1.next hb
  replace rl := rl.next hb
  replace hT := hT.next hb
  replace hB := hB.trans (hb.mono hB.size)
  clear hb ba0 ba1
  have ba0 := ba.cell 0
  have ba1 := ba.cell 1
  simp only [List.getElem?_toArray, List.getElem?_cons_zero, List.getElem?_cons_succ] at ba0 ba1
  go_wp2_with fail
  refine (rput_any _ _ _ n false _ r1).mono ?_
  rintro e w14 ⟨A4, kA4, rfl, r4, hb⟩
  replace ba := ba.next hb
  replace r1 := r1.next hb
  replace rl := rl.next hb
  replace hT := hT.next hb
  replace hB := hB.trans (hb.mono hB.size)
  clear hb ba0 ba1
  have ba0 := ba.cell 0
  have ba1 := ba.cell 1
  simp only [List.getElem?_toArray, List.getElem?_cons_zero, List.getElem?_cons_succ] at ba0 ba1
  go_wp2_with fail
  refine (is_true (a.drop n) (drop_clean a n) A4 _ _ _ r4 (drop_same a n)).mono ?_
  rintro e w15 ⟨rfl, hb⟩
  replace ba := ba.next hb
  replace r1 := r1.next hb
  replace rl := rl.next hb
  replace r4 := r4.next hb
  replace hT := hT.next hb
  replace hB := hB.trans (hb.mono hB.size)
  clear hb ba0 ba1
  have ba0 := ba.cell 0
  have ba1 := ba.cell 1
  simp only [List.getElem?_toArray, List.getElem?_cons_zero, List.getElem?_cons_succ] at ba0 ba1
  clear r4
  go_wp2_with fail
  refine (live_any _ hT).mono ?_
  rintro e w16 ⟨rfl, hb⟩
  replace ba := ba.next hb
  replace r1 := r1.next hb
  replace rl := rl.next hb
  replace hT := hT.next hb
  replace hB := hB.trans (hb.mono hB.size)
  clear hb ba0 ba1
  have ba0 := ba.cell 0
  have ba1 := ba.cell 1
  simp only [List.getElem?_toArray, List.getElem?_cons_zero, List.getElem?_cons_succ] at ba0 ba1
  go_wp2
  go_ret
  exact ⟨rfl, hB⟩

set_option maxRecDepth 100000 in
set_option maxHeartbeats 4000000 in
theorem none_out (a : S) (n : Int) (w : World) (hT : Tab w) (he : a.sqs = []) (hn : ¬ (0 ≤ n ∧ n < 90)) : Calls Tryd.prog 4 #[.agg #[.int .u64 a.lo, .int .u64 a.hi], .int .i64 n] w fun e w' => e = .returned (.bool true) ∧ Below w.heap.size w w' := by
  obtain ⟨m, hm⟩ : ∃ m, a.sqs.length = m := ⟨_, rfl⟩
  have HM := Lib.hid hm
  have hm90 : m ≤ 90 := by rw [← hm, S.sqs_length]; exact S.count_le a
  have hm0 : m = 0 := by rw [← hm, he]; rfl
  subst hm0
  have HE := Lib.hid he
  clear he hm
  have HQ : Hid (sqB n = false) := by
    show _ = _
    unfold sqB
    rw [← Bool.decide_and, decide_eq_false hn]
  have HH : Hid ((decide (0 ≤ n ∧ n < 90) && a.has n.toNat) = false) := by show _ = _; rw [decide_eq_false hn]; rfl
  clear hn
  go_enter Tryd.func4, Tryd.ntmps4
  go_wp2_with fail
  obtain ⟨W0, hW0⟩ : ∃ W0, (w.alloc (.cells (svc a) 24)) = W0 := ⟨_, rfl⟩
  have ba : Blk W0 (w.heap.size) 24 (svc a) := by rw [← hW0]; exact Blk.new _ _ _ (by simp)
  have hB : Below w.heap.size w W0 := by rw [← hW0]; exact (by repeat (first | exact Below.refl _ _ | (refine Below.setCell ?_ (by first | omega | (simp; done) | (simp; omega) | (simp at *; omega)) _) | (refine Below.alloc ?_ (by first | omega | (simp; done) | (simp; omega) | (simp at *; omega)) _) | refine Below.drew ?_ | (refine below_drewN ?_ _) | (refine Below.trans ?_ (Below.mono (by assumption) (by first | omega | (simp; done) | (simp; omega) | (simp at *; omega))))))
  replace hT := hT.below hB hT.lt
  rw [hW0]
  clear hW0
  have ba0 := ba.cell 0
  have ba1 := ba.cell 1
  simp only [List.getElem?_toArray, List.getElem?_cons_zero, List.getElem?_cons_succ] at ba0 ba1
  refine (truths_any a.lo a.hi _).mono ?_
  rintro e w1 ⟨A1, kA1, rfl, r1, hb⟩
  replace ba := ba.next hb
  replace hT := hT.next hb
  replace hB := hB.trans (hb.mono hB.size)
  clear hb ba0 ba1
  have ba0 := ba.cell 0
  have ba1 := ba.cell 1
  simp only [List.getElem?_toArray, List.getElem?_cons_zero, List.getElem?_cons_succ] at ba0 ba1
  go_wp2_with fail
  refine (rlist_is a 0 A1 _ _ r1 HM.out).mono ?_
  rintro e w2 ⟨L, kL, rfl, rl, hb⟩
  replace ba := ba.next hb
  replace r1 := r1.next hb
  replace hT := hT.next hb
  replace hB := hB.trans (hb.mono hB.size)
  clear hb ba0 ba1
  have ba0 := ba.cell 0
  have ba1 := ba.cell 1
  simp only [List.getElem?_toArray, List.getElem?_cons_zero, List.getElem?_cons_succ] at ba0 ba1
  go_wp2_with fail
  refine (square_is n false _ HQ.out).mono ?_
  rintro e w3 ⟨rfl, hb⟩
  replace ba := ba.next hb
  replace r1 := r1.next hb
  replace rl := rl.next hb
  replace hT := hT.next hb
  replace hB := hB.trans (hb.mono hB.size)
  clear hb ba0 ba1
  have ba0 := ba.cell 0
  have ba1 := ba.cell 1
  simp only [List.getElem?_toArray, List.getElem?_cons_zero, List.getElem?_cons_succ] at ba0 ba1
  go_wp2_with fail
  refine (list_is a (a.sqs.map fun i => (i.val : Int)) 0 _ hT rfl (by rw [List.length_map]; exact HM.out)).mono ?_
  rintro e w4 ⟨L2, kL2, rfl, rl2, hb⟩
  replace ba := ba.next hb
  replace r1 := r1.next hb
  replace rl := rl.next hb
  replace hT := hT.next hb
  replace hB := hB.trans (hb.mono hB.size)
  clear hb ba0 ba1
  have ba0 := ba.cell 0
  have ba1 := ba.cell 1
  simp only [List.getElem?_toArray, List.getElem?_cons_zero, List.getElem?_cons_succ] at ba0 ba1
  go_wp2_with fail
  refine (ints_true _ _ (a.sqs.map fun i => (i.val : Int)) 0 _ _ _ rl2 rl (by rw [List.length_map]; exact HM.out) (by omega)).mono ?_
  rintro e w5 ⟨rfl, hb⟩
  replace ba := ba.next hb
  replace r1 := r1.next hb
  replace rl := rl.next hb
  replace rl2 := rl2.next hb
  replace hT := hT.next hb
  replace hB := hB.trans (hb.mono hB.size)
  clear hb ba0 ba1
  have ba0 := ba.cell 0
  have ba1 := ba.cell 1
  simp only [List.getElem?_toArray, List.getElem?_cons_zero, List.getElem?_cons_succ] at ba0 ba1
  clear rl2
  go_wp2_with fail
  refine (count_is a 0 _ (by rw [← S.sqs_length, HM.out]; rfl)).mono ?_
  rintro e w6 ⟨rfl, hb⟩
  replace ba := ba.next hb
  replace r1 := r1.next hb
  replace rl := rl.next hb
  replace hT := hT.next hb
  replace hB := hB.trans (hb.mono hB.size)
  clear hb ba0 ba1
  have ba0 := ba.cell 0
  have ba1 := ba.cell 1
  simp only [List.getElem?_toArray, List.getElem?_cons_zero, List.getElem?_cons_succ] at ba0 ba1
  go_wp2_with fail
  refine (first_is a (-1) _ hT (by rw [HE.out]; rfl)).mono ?_
  rintro e w7 ⟨rfl, hb⟩
  replace ba := ba.next hb
  replace r1 := r1.next hb
  replace rl := rl.next hb
  replace hT := hT.next hb
  replace hB := hB.trans (hb.mono hB.size)
  clear hb ba0 ba1
  have ba0 := ba.cell 0
  have ba1 := ba.cell 1
  simp only [List.getElem?_toArray, List.getElem?_cons_zero, List.getElem?_cons_succ] at ba0 ba1
  go_wp2_with fail
  refine (last_is a (-1) _ hT (by rw [HE.out]; rfl)).mono ?_
  rintro e w8 ⟨rfl, hb⟩
  replace ba := ba.next hb
  replace r1 := r1.next hb
  replace rl := rl.next hb
  replace hT := hT.next hb
  replace hB := hB.trans (hb.mono hB.size)
  clear hb ba0 ba1
  have ba0 := ba.cell 0
  have ba1 := ba.cell 1
  simp only [List.getElem?_toArray, List.getElem?_cons_zero, List.getElem?_cons_succ] at ba0 ba1
  go_wp2_with fail
  refine (has_is a n false _ (by rw [hasI_eq]; exact HH.out)).mono ?_
  rintro e w9 ⟨rfl, hb⟩
  replace ba := ba.next hb
  replace r1 := r1.next hb
  replace rl := rl.next hb
  replace hT := hT.next hb
  replace hB := hB.trans (hb.mono hB.size)
  clear hb ba0 ba1
  have ba0 := ba.cell 0
  have ba1 := ba.cell 1
  simp only [List.getElem?_toArray, List.getElem?_cons_zero, List.getElem?_cons_succ] at ba0 ba1
  go_wp2_with fail
  refine (with_any a n _).mono ?_
  rintro e w10 ⟨rfl, hb⟩
  replace ba := ba.next hb
  replace r1 := r1.next hb
  replace rl := rl.next hb
  replace hT := hT.next hb
  replace hB := hB.trans (hb.mono hB.size)
  clear hb ba0 ba1
  have ba0 := ba.cell 0
  have ba1 := ba.cell 1
  simp only [List.getElem?_toArray, List.getElem?_cons_zero, List.getElem?_cons_succ] at ba0 ba1
  go_wp2_with fail
  refine (rput_any _ _ _ n true _ r1).mono ?_
  rintro e w11 ⟨A3, kA3, rfl, r3, hb⟩
  replace ba := ba.next hb
  replace r1 := r1.next hb
  replace rl := rl.next hb
  replace hT := hT.next hb
  replace hB := hB.trans (hb.mono hB.size)
  clear hb ba0 ba1
  have ba0 := ba.cell 0
  have ba1 := ba.cell 1
  simp only [List.getElem?_toArray, List.getElem?_cons_zero, List.getElem?_cons_succ] at ba0 ba1
  go_wp2_with fail
  refine (is_true (a.put n) (put_clean a n) A3 _ _ _ r3 (put_same a n)).mono ?_
  rintro e w12 ⟨rfl, hb⟩
  replace ba := ba.next hb
  replace r1 := r1.next hb
  replace rl := rl.next hb
  replace r3 := r3.next hb
  replace hT := hT.next hb
  replace hB := hB.trans (hb.mono hB.size)
  clear hb ba0 ba1
  have ba0 := ba.cell 0
  have ba1 := ba.cell 1
  simp only [List.getElem?_toArray, List.getElem?_cons_zero, List.getElem?_cons_succ] at ba0 ba1
  clear r3
  go_wp2_with fail
  refine (without_any a n _).mono ?_
  rintro e w13 ⟨rfl, hb⟩
  replace ba := ba.next hb
  replace r1 := r1.next hb
  replace rl := rl.next hb
  replace hT := hT.next hb
  replace hB := hB.trans (hb.mono hB.size)
  clear hb ba0 ba1
  have ba0 := ba.cell 0
  have ba1 := ba.cell 1
  simp only [List.getElem?_toArray, List.getElem?_cons_zero, List.getElem?_cons_succ] at ba0 ba1
  go_wp2_with fail
  refine (rput_any _ _ _ n false _ r1).mono ?_
  rintro e w14 ⟨A4, kA4, rfl, r4, hb⟩
  replace ba := ba.next hb
  replace r1 := r1.next hb
  replace rl := rl.next hb
  replace hT := hT.next hb
  replace hB := hB.trans (hb.mono hB.size)
  clear hb ba0 ba1
  have ba0 := ba.cell 0
  have ba1 := ba.cell 1
  simp only [List.getElem?_toArray, List.getElem?_cons_zero, List.getElem?_cons_succ] at ba0 ba1
  go_wp2_with fail
  refine (is_true (a.drop n) (drop_clean a n) A4 _ _ _ r4 (drop_same a n)).mono ?_
  rintro e w15 ⟨rfl, hb⟩
  replace ba := ba.next hb
  replace r1 := r1.next hb
  replace rl := rl.next hb
  replace r4 := r4.next hb
  replace hT := hT.next hb
  replace hB := hB.trans (hb.mono hB.size)
  clear hb ba0 ba1
  have ba0 := ba.cell 0
  have ba1 := ba.cell 1
  simp only [List.getElem?_toArray, List.getElem?_cons_zero, List.getElem?_cons_succ] at ba0 ba1
  clear r4
  go_wp2_with fail
  refine (live_any _ hT).mono ?_
  rintro e w16 ⟨rfl, hb⟩
  replace ba := ba.next hb
  replace r1 := r1.next hb
  replace rl := rl.next hb
  replace hT := hT.next hb
  replace hB := hB.trans (hb.mono hB.size)
  clear hb ba0 ba1
  have ba0 := ba.cell 0
  have ba1 := ba.cell 1
  simp only [List.getElem?_toArray, List.getElem?_cons_zero, List.getElem?_cons_succ] at ba0 ba1
  go_wp2
  go_ret
  exact ⟨rfl, hB⟩

theorem walk (a : S) (n : Int) (w : World) (hT : Tab w) : Calls Tryd.prog 4 #[.agg #[.int .u64 a.lo, .int .u64 a.hi], .int .i64 n] w fun e w' => e = .returned (.bool true) ∧ Below w.heap.size w w' := by
  by_cases he : a.sqs = []
  · by_cases hn : 0 ≤ n ∧ n < 90
    · exact none_in a n w hT he hn
    · exact none_out a n w hT he hn
  · by_cases hn : 0 ≤ n ∧ n < 90
    · exact some_in a n w hT he hn
    · exact some_out a n w hT he hn
end Go.Proofs.YtdfjmchkpoobdaaDoor.one
