/- What Print answers: a word alone, how deep, moves. -/
import Derived.Test.YtpogpjebhnoncabGreatDoorLineH
import Derived.Maps.RangeWalk
namespace Go.Proofs.YtpogpjebhnoncabGreatDoor
open Go.RowKit Go.Shelf Go.Proofs.YtpogpjebhnoncabGreatDoor.Ln
open M (S)

-- a walk over the words that stand alone, in whatever order
def bareWd : Nat → List UInt8
  | 0 => ucciW
  | 1 => readyW
  | 2 => probeW
  | 3 => stopW
  | _ => quitW
def bareKd : Nat → Int
  | 0 => 1
  | 1 => 2
  | 2 => 6
  | 3 => 7
  | _ => 8
theorem mem_bare {e : MapEntry} (h : e ∈ (bareE 5).toList) : ∃ i, i < 5 ∧ e = ent (bareWd i) (bareKd i) i := by
  have h2 : e = ent ucciW 1 0 ∨ e = ent readyW 2 1 ∨ e = ent probeW 6 2 ∨ e = ent stopW 7 3 ∨ e = ent quitW 8 4 := by simpa [bareE] using h
  rcases h2 with h2 | h2 | h2 | h2 | h2
  · exact ⟨0, by decide, h2⟩
  · exact ⟨1, by decide, h2⟩
  · exact ⟨2, by decide, h2⟩
  · exact ⟨3, by decide, h2⟩
  · exact ⟨4, by decide, h2⟩
def MI (W : World) (b r : Nat) (seen : Array Nat) : Prop := W.heap[b]? = some (.map (bareE 5) 5) ∧ W.heap[r]? = some (.mapIter (some b) 5 seen 5) ∧ b < r
def itSeen (W : World) (r : Nat) : Array Nat := match W.heap[r]? with
  | some (.mapIter _ _ s _) => s
  | _ => #[]
theorem MI.at {W : World} {b r : Nat} {seen : Array Nat} (h : MI W b r seen) : itSeen W r = seen := by unfold itSeen; rw [h.2.1]
def unseen (s : Array Nat) : Nat := ((List.range 5).filter fun i => !s.contains i).length
theorem unseen_push {s : Array Nat} {i : Nat} (hi : i < 5) (h : s.contains i = false) : unseen (s.push i) < unseen s := by
  unfold unseen
  have e : ∀ l : List Nat, (l.filter fun j => !(s.push i).contains j) = (l.filter fun j => !s.contains j).filter fun j => j != i := fun l => by
    rw [List.filter_filter]
    apply List.filter_congr
    intro j _
    simp only [Array.contains_push]
    cases s.contains j <;> cases hji : (j == i) <;> simp_all [bne]
  rw [e]
  have hm : i ∈ (List.range 5).filter fun j => !s.contains j := List.mem_filter.2 ⟨List.mem_range.2 hi, by rw [h]; rfl⟩
  generalize ((List.range 5).filter fun j => !s.contains j) = L at hm
  induction L with
  | nil => cases hm
  | cons y t ih =>
    rw [List.filter_cons]
    rcases List.mem_cons.1 hm with rfl | hm
    · rw [if_neg (by simp)]
      exact Nat.lt_succ_of_le (List.length_filter_le _ _)
    · have := ih hm
      split
      · simpa using this
      · exact Nat.lt_succ_of_lt this
section
variable {P : Program} (w : World) {ops : Array Oper} {rest : List Oper} {o : Oper} {a : Act} {Q : Exit → Act → World → Prop}
theorem wpl_range_bare (hg : o.guard = none) (m : Operand) (t k e : TypeId) (hop : o.op = Op.range t m) (ht : P.underlying t = some (.map k e)) (b : Nat) (hm : a.eval m = .map (some b)) (hb : w.heap[b]? = some (.map (bareE 5) 5))
    (hK : ∀ w', MI w' b w.heap.size #[] → Below w.heap.size w w' → w'.heap.size = w.heap.size + 1 → wpList P ops Q rest (a.put o.dst (.pointer (some ⟨w.heap.size, 0, none⟩))) w') : wpList P ops Q (o :: rest) a w := by
  refine wpList_plain hg fun K hK' => ?_
  have hrun := run_range_map (P := P) w t k e b (bareE 5) 5 ht hb
  have hlt : b < w.heap.size := (Array.getElem?_eq_some_iff.1 hb).1
  unfold Oper.wp
  simp [execOp, hop, hm, hrun, Result.andThen]
  refine hK' _ _ (hK _ ⟨?_, Array.getElem?_push_size .., hlt⟩ ((Below.refl _ _).alloc (Nat.le_refl _) _) (alloc_sz _ _))
  exact (((Below.refl w.heap.size w).alloc (Nat.le_refl _) (.mapIter (some b) 5 #[] 5)).block b hlt).trans hb
theorem wpl_next_bare (hg : o.guard = none) (it : Operand) (hop : o.op = Op.next it false) (b r : Nat) (seen : Array Nat) (hit : a.eval it = .pointer (some ⟨r, 0, none⟩)) (h : MI w b r seen)
    (hDone : (∀ i, i < 5 → seen.contains i = true) → wpList P ops Q rest (a.put o.dst (.tuple #[.bool false])) w)
    (hMore : ∀ (i : Nat) (x : ByteArray) (k : Int) (w' : World), i < 5 → seen.contains i = false → x = bs (bareWd i) → k = bareKd i → MI w' b r (seen.push i) → (∀ B, B ≤ r → Below B w w') → (Instr.entry (.pointer (some ⟨r, 0, none⟩))).run P w' = .ok (.tuple #[.string x, .int .i64 k]) w' → wpList P ops Q rest (a.put o.dst (.tuple #[.bool true, .string x, .int .i64 k])) w') :
    wpList P ops Q (o :: rest) a w := by
  refine wpList_plain hg fun K hK' => ?_
  unfold Oper.wp
  have hborn : ∀ x ∈ (bareE 5).toList, x.born < 5 := fun x hx => by
    obtain ⟨i, hi, rfl⟩ := mem_bare hx
    exact hi
  rcases run_next_at (P := P) w o.type r b 5 5 seen (bareE 5) 5 h.2.1 h.1 hborn (Nat.le_refl _) with ⟨h0, hrun⟩ | ⟨e, he, w1, hw1, hrun⟩
  · simp [execOp, hop, hit, hrun, Result.andThen]
    refine hK' _ _ (hDone fun i hi => ?_)
    have hL : leftOf (bareE 5) seen = #[] := Array.eq_empty_of_size_eq_zero h0
    unfold leftOf at hL
    have hx : ∀ x ∈ bareE 5, seen.contains x.born = true := fun x hx => by
      have := Array.filter_eq_empty_iff.1 hL x hx
      simpa using this
    have hm : ∀ i, i < 5 → ∃ x ∈ bareE 5, x.born = i := by decide
    obtain ⟨x, hxm, rfl⟩ := hm i hi
    exact hx x hxm
  · have hem : e ∈ (bareE 5).toList ∧ seen.contains e.born = false := by
      unfold leftOf at he
      simpa using he
    obtain ⟨i, hi, rfl⟩ := mem_bare hem.1
    have hb1 : Below w.heap.size w w1 := by
      rcases hw1 with rfl | rfl
      · exact Below.refl _ _
      · exact (Below.refl _ _).drew
    have hblt : b < w.heap.size := (Array.getElem?_eq_some_iff.1 h.1).1
    have hrlt : r < w.heap.size := (Array.getElem?_eq_some_iff.1 h.2.1).1
    have hm1 : MI (Go.ChangeMaps.setBlock w1 r (.mapIter (some b) 5 (seen.push i) 5)) b r (seen.push i) := by
      refine ⟨?_, ?_, h.2.2⟩
      · show (Array.setIfInBounds _ _ _)[b]? = _
        rw [Array.getElem?_setIfInBounds_ne (by have := h.2.2; omega)]
        exact (hb1.block b hblt).trans h.1
      · show (Array.setIfInBounds _ _ _)[r]? = _
        rw [Array.getElem?_setIfInBounds_self_of_lt (by have := hb1.size; omega)]
    simp [execOp, hop, hit, hrun, Result.andThen]
    refine hK' _ _ (hMore i _ _ _ hi hem.2 rfl rfl hm1 (fun B hB => ?_) ?_)
    · refine ⟨hb1.os, hb1.tape, hb1.output, ?_, fun k hk => ?_⟩
      · show _ ≤ (Array.setIfInBounds _ _ _).size
        rw [Array.size_setIfInBounds]
        exact hb1.size
      · show (Array.setIfInBounds _ _ _)[k]? = _
        rw [Array.getElem?_setIfInBounds_ne (by omega)]
        exact hb1.block k (by omega)
    · exact run_entry_at _ r b 5 seen (bareE 5) 5 (ent (bareWd i) (bareKd i) i) hm1.2.1 hm1.1 hem.1 (by decide)
end
set_option maxRecDepth 100000 in
set_option maxHeartbeats 4000000 in
theorem printBare_is (k : Int) (w : World) : Calls Tryz.prog 20 #[.int .i64 k] w (Gives w (.string (bs (bareT k)))) := by
  unfold Gives
  go_enter Tryz.func20, Tryz.ntmps20
  go_wp2_with fail
  refine (bare_is _).mono ?_
  rintro e w1 ⟨rfl, hmp, hb1⟩
  have hbl : w.heap.size < w1.heap.size := (Array.getElem?_eq_some_iff.1 hmp).1
  go_wp2_with (first
    | (at_range; refine wpl_range_bare _ rfl _ 52 9 3 rfl Tryz.underlying52 w.heap.size rfl hmp ?_; intro w2 hmi hb2 hs2)
    | go_in)
  go_frame
  obtain ⟨r, hr⟩ : ∃ r, w1.heap.size = r := ⟨_, rfl⟩
  rw [hr] at hmi hb2 hs2 hbl ⊢
  have hB2 := hb1.trans (hb2.mono (Nat.le_of_lt hbl))
  clear hb1 hb2 hmp
  go_loopw [3] (fun _ wr => ∃ seen : Array Nat, MI wr w.heap.size r seen ∧ (∀ i, i < 5 → seen.contains i = true → bareKd i ≠ k) ∧ Below w.heap.size w wr) (fun _ wr => unseen (itSeen wr r))
  case atStart => exact ⟨#[], hmi, fun i _ h => (by simp at h), hB2⟩
  case round =>
    obtain ⟨seen, hm, hno, hB⟩ := hrel
    go_wp2_with (first
      | (at_next; refine wpl_next_bare _ rfl _ rfl w.heap.size r seen rfl hm ?_ ?_)
      | go_in)
    · intro hall
      have hk : bareT k = [] := by
        have := fun i hi => hno i hi (by simpa using hall i hi)
        have h0 := this 0 (by decide)
        have h1 := this 1 (by decide)
        have h2 := this 2 (by decide)
        have h3 := this 3 (by decide)
        have h4 := this 4 (by decide)
        simp only [bareKd] at h0 h1 h2 h3 h4
        unfold bareT
        rw [if_neg (Ne.symm h0), if_neg (Ne.symm h1), if_neg (Ne.symm h2), if_neg (Ne.symm h3), if_neg (Ne.symm h4)]
      go_wp2_with fail
      go_ret
      rw [hk]
      exact ⟨rfl, hB⟩
    · intro i x kd w3 hi hns hx hkd hm3 hb3 hen
      have hB3 := hB.trans (hb3 _ (Nat.le_of_lt hm.2.2))
      by_cases hkk : kd = k
      · go_wp2_with fail
        go_ret
        refine ⟨?_, hB3⟩
        have : bareT k = bareWd i := by
          rw [← hkk, hkd]
          clear hns hx hkd hm3 hb3 hen hB3 hkk
          match i, hi with
          | 0, _ => rfl
          | 1, _ => rfl
          | 2, _ => rfl
          | 3, _ => rfl
          | 4, _ => rfl
        rw [this, hx]
        rfl
      · go_wp2_with fail
        go_roundw
        case rel =>
          refine ⟨_, hm3, fun j hj h => ?_, hB3⟩
          rw [Array.contains_push] at h
          rcases Bool.or_eq_true_iff.1 h with h | h
          · first | exact hno j hj h | (have := eq_of_beq h; rw [this, ← hkd]; exact hkk)
          · first | exact hno j hj h | (have := eq_of_beq h; rw [this, ← hkd]; exact hkk)
        case measure =>
          rw [hm3.at, hm.at]
          exact unseen_push hi (by simpa using hns)
-- how deep
def goT (d : Int) : List UInt8 := Lib.join (if 1 ≤ d ∧ d ≤ 64 then [goW, depthW, Lib.decDigits d.toNat] else []) [32]
set_option maxRecDepth 100000 in
set_option maxHeartbeats 4000000 in
theorem printGo_is (d : Int) (w : World) (hE : Env w) : Calls Tryz.prog 17 #[.int .i64 d] w (Gives w (.string (bs (goT d)))) := by
  unfold Gives
  by_cases h : 1 ≤ d ∧ d ≤ 64
  · have e1 : (decide (1 ≤ d) && decide (d ≤ 64)) = true := by simp; omega
    have hi := itoa_any d w hE ⟨by omega, by omega⟩
    have hj : (⟨#[103, 111, 32, 100, 101, 112, 116, 104, 32]⟩ : ByteArray) ++ bs (Lib.decDigits d.toNat) = bs (goT d) := by
      show bs [103, 111, 32, 100, 101, 112, 116, 104, 32] ++ _ = _
      rw [bs_app]
      unfold goT
      rw [if_pos h, Lib.join_cons]
      simp [Lib.joinTail, goW, depthW]
    have hds : ∀ n, n ≤ 64 → (Lib.decDigits n).length ≤ 2 := by decide +kernel
    have hsz : ¬ 9223372036854775807 < 9 + (bs (Lib.decDigits d.toNat)).size := by
      have : (bs (Lib.decDigits d.toNat)).size ≤ 2 := hds d.toNat (by omega)
      omega
    have HJ := Lib.hid hj
    have HD := Lib.hid (isDepth_is d true w e1)
    clear hds
    clear e1 h hj
    go_enter Tryz.func17, Tryz.ntmps17
    go_wp2_with fail
    refine HD.out.mono ?_
    rintro e w1 ⟨rfl, rfl⟩
    go_wp2_with fail
    refine hi.mono ?_
    rintro e w2 ⟨rfl, hb⟩
    go_wp2_with fail
    go_ret
    rw [← HJ.out]
    exact ⟨rfl, hb⟩
  · have e1 : (decide (1 ≤ d) && decide (d ≤ 64)) = false := by
      rw [Bool.eq_false_iff]
      intro e
      rw [Bool.and_eq_true, decide_eq_true_eq, decide_eq_true_eq] at e
      exact h e
    have hj : goT d = [] := by unfold goT; rw [if_neg h]; exact Lib.join_nil _
    have HJ := Lib.hid hj
    have HD := Lib.hid (isDepth_is d false w e1)
    clear e1 h hj
    go_enter Tryz.func17, Tryz.ntmps17
    go_wp2_with fail
    refine HD.out.mono ?_
    rintro e w1 ⟨rfl, rfl⟩
    go_wp2_with fail
    go_ret
    rw [HJ.out]
    exact ⟨rfl, Below.refl _ _⟩
-- moves, in memory and as a line's end
/-- Moves lie one behind the other from some address on. -/
def RdM (w : World) (A : Option Addr) (l : List (Int × Int)) : Prop := ∀ k m, l[k]? = some m → ∃ g b, A = some ⟨g, b, none⟩ ∧ w.cell? ⟨g, b + k * 2, none⟩ = some (iv m.1) ∧ w.cell? ⟨g, b + k * 2 + 1, none⟩ = some (iv m.2)
theorem RdM.next {w W : World} {A : Option Addr} {l : List (Int × Int)} (h : RdM w A l) (hb : Below w.heap.size w W) : RdM W A l := fun k m hm => by
  obtain ⟨g, b, e, h0, h1⟩ := h k m hm
  exact ⟨g, b, e, (hb.cell (cell_lt h0)).trans h0, (hb.cell (cell_lt h1)).trans h1⟩
theorem mvN_at : ∀ {l : List (Int × Int)} {k : Nat} {m : Int × Int}, l[k]? = some m → (mvN l)[2 * k]? = some (iv m.1) ∧ (mvN l)[2 * k + 1]? = some (iv m.2)
  | x :: r, 0, m, h => by
    obtain rfl : x = m := by simpa using h
    exact ⟨rfl, rfl⟩
  | x :: r, k + 1, m, h => by
    have := mvN_at (l := r) (k := k) (m := m) (by simpa using h)
    exact this
  | [], k, m, h => by simp at h
theorem mvN_len (l : List (Int × Int)) : (mvN l).length = 2 * l.length := by
  induction l with
  | nil => rfl
  | cons x r ih =>
    show (mvN r).length + 2 = _
    rw [ih, List.length_cons]
    omega
theorem rd_any {w : World} {A : Option Addr} {xs : List Value} (h : Rd w A xs) {j : Nat} {u : Value} (hu : xs[j]? = some u) : ∃ g b, A = some ⟨g, b, none⟩ ∧ w.cell? ⟨g, b + j, none⟩ = some u := by
  have h0 : 0 < xs.length := Nat.lt_of_le_of_lt (Nat.zero_le j) (List.getElem?_eq_some_iff.1 hu).1
  obtain ⟨⟨g, b, sp⟩, rfl, hc⟩ := h 0 _ (List.getElem?_eq_getElem h0)
  have hsp : sp = none := by simpa [Addr.add] using World.cell?_spot hc
  subst hsp
  obtain ⟨_, e, hc2⟩ := h j u hu
  cases e
  have e1 : (⟨g, b, none⟩ : Addr).add j = ⟨g, b + j, none⟩ := by
    simp only [Addr.add]
    split <;> simp_all
  rw [e1] at hc2
  exact ⟨g, b, rfl, hc2⟩
theorem own_moves {w : World} {B n : Nat} {v : Value} {l : List (Int × Int)} (h : w.ownsRow B 60 2 v n (mvN l)) : ∃ A c, v = .slice A n c ∧ RdM w A l ∧ n ≤ c ∧ n = l.length := by
  obtain ⟨A, c, rfl, hr, hc⟩ := own_anyL h
  refine ⟨A, c, rfl, fun k m hm => ?_, hc, by have := h.1; rw [mvN_len] at this; omega⟩
  obtain ⟨e0, e1⟩ := mvN_at hm
  rw [Nat.mul_comm] at e0 e1
  obtain ⟨g, b, rfl, h0⟩ := rd_any hr e0
  obtain ⟨_, _, e2, h1⟩ := rd_any hr e1
  cases e2
  exact ⟨g, b, rfl, h0, h1⟩
def movesT (h : List UInt8) (l : List (Int × Int)) : List UInt8 := if allSq l then Lib.join (h :: l.map mvT) [32] else []
theorem own_one {W : World} {B : Nat} (hB : B ≤ W.heap.size) (x : List UInt8) : (W.alloc (.cells #[sv x] 9)).ownsRow B 9 1 (.slice (some ⟨W.heap.size, 0, none⟩) 1 1) 1 [sv x] :=
  ⟨rfl, .inr ⟨W.heap.size, 1, #[sv x], rfl, hB, Array.getElem?_push_size .., Nat.le_refl _, by unfold maxLen; omega, rfl, rfl⟩⟩
theorem allSq_take {l : List (Int × Int)} {k : Nat} {m : Int × Int} (h : l[k]? = some m) (hs : allSq (l.take k) = true) : allSq (l.take (k + 1)) = (sqI m.1 && sqI m.2) := by
  unfold allSq at hs ⊢
  rw [List.take_add_one, h, List.all_append, hs]
  simp
theorem allSq_no {l : List (Int × Int)} {k : Nat} (h : allSq (l.take k) = false) : allSq l = false := by
  unfold allSq at h ⊢
  rw [← List.take_append_drop k l, List.all_append, h]
  rfl
theorem mvT_len (m : Int × Int) : (mvT m).length ≤ 4 := by
  unfold mvT
  cases h : sqI m.1 && sqI m.2
  · rw [print_none h]; exact Nat.zero_le _
  · rw [Bool.and_eq_true] at h
    exact Nat.le_of_eq (print_size h.1 h.2)
theorem join_bound (l : List (Int × Int)) (h : List UInt8) : (Lib.join (h :: l.map mvT) [32]).length ≤ h.length + 5 * l.length := by
  have e := join_sum (h :: l.map mvT) (by simp)
  have : sumL (l.map mvT) ≤ 5 * l.length := by
    induction l with
    | nil => exact Nat.le_refl _
    | cons x r ih =>
      have h1 := mvT_len x
      have h2 := ih (join_sum (h :: r.map mvT) (by simp))
      show (mvT x).length + 1 + sumL (r.map mvT) ≤ _
      rw [List.length_cons]
      omega
  have e2 : sumL (h :: l.map mvT) = h.length + 1 + sumL (l.map mvT) := rfl
  omega
theorem mvT_some {m : Int × Int} (h : (sqI m.1 && sqI m.2) = true) : ((printT m.1 m.2).toList == []) = false := by
  rw [beq_eq_false_iff_ne]
  intro e
  rw [ByteArray.toList_eq] at e
  have := print_size (Bool.and_eq_true_iff.1 h).1 (Bool.and_eq_true_iff.1 h).2
  have e2 : (printT m.1 m.2).data.toList.length = 4 := this
  rw [e] at e2
  cases e2
set_option maxRecDepth 100000 in
set_option maxHeartbeats 4000000 in
theorem printMoves_is (h : List UInt8) (A : Option Addr) (n c : Nat) (l : List (Int × Int)) (w : World) (hr : RdM w A l) (hn : l.length = n) (hl : n ≤ 2000) (hh : h.length ≤ 100000) : Calls Tryz.prog 18 #[.string (bs h), .slice A n c] w (Gives w (.string (bs (movesT h l)))) := by
  have H := Lib.hid hr
  have HN := Lib.hid hn
  clear hr hn
  obtain ⟨i0, hi, hz0, hz1, hz2⟩ := info_parts info_str
  have hone := own_one (W := w) (Nat.le_refl _) h
  have hA : Below w.heap.size w (w.alloc (.cells #[sv h] 9)) := (by repeat (first | exact Below.refl _ _ | (refine Below.setCell ?_ (by first | omega | (simp; done) | (simp; omega) | (simp at *; omega)) _) | (refine Below.alloc ?_ (by first | omega | (simp; done) | (simp; omega) | (simp at *; omega)) _) | refine Below.drew ?_ | (refine below_drewN ?_ _) | (refine Below.trans ?_ (Below.mono (by assumption) (by first | omega | (simp; done) | (simp; omega) | (simp at *; omega))))))
  unfold Gives
  go_enter Tryz.func18, Tryz.ntmps18
  go_wp2_with fail
  go_loopw [13, 5] (fun i v wr => ∃ k : Nat, i = .int .i64 k ∧ k ≤ n ∧ allSq (l.take k) = true ∧ wr.ownsRow w.heap.size 9 1 v (k + 1) ((h :: (l.take k).map mvT).map sv) ∧ Below w.heap.size w wr) (fun i _ _ => n - (intOf i).toNat)
  case atStart => exact ⟨0, rfl, Nat.zero_le _, rfl, hone, hA⟩
  case round =>
    obtain ⟨k, rfl, hk, hsq, hown, hB⟩ := hrel
    have hbs := hB.size
    by_cases hlt : k < n
    · have hkl : k < l.length := by rw [HN.out]; exact hlt
      obtain ⟨⟨a, b⟩, hx⟩ : ∃ x, l[k] = x := ⟨_, rfl⟩
      have hx? : l[k]? = some (a, b) := by rw [List.getElem?_eq_getElem hkl, hx]
      obtain ⟨g, o, rfl, e0, e1⟩ := H.out k _ hx?
      replace e0 := (hB.cell (cell_lt e0)).trans e0
      replace e1 := (hB.cell (cell_lt e1)).trans e1
      have bk : (k : Int) < (n : Int) := by omega
      have htk : l.take (k + 1) = l.take k ++ [(a, b)] := by rw [List.take_add_one, hx?]; rfl
      have hsq1 := allSq_take hx? hsq
      have hA1 : Below w.heap.size w (wr.alloc (.cells #[.int .i64 a, .int .i64 b] 60)) := hB.alloc hbs _
      have hown0 := own_nextL hown ((Below.refl _ _).alloc (Nat.le_refl _) (.cells #[.int .i64 a, .int .i64 b] 60))
      have hbs1 := hA1.size
      have HX := Lib.hid hx?
      clear hx hown hx?
      cases hs : sqI a && sqI b with
      | false =>
        have hp := print_is a b ⟨#[]⟩ (wr.alloc (.cells #[.int .i64 a, .int .i64 b] 60)) (print_none hs)
        have HM : Hid (movesT h l = []) := by
          show _ = _
          unfold movesT
          rw [allSq_no (hsq1.trans hs)]
          rfl
        have HP := Lib.hid hp
        clear hp hsq1 htk
        go_wp2_with fail
        refine HP.out.mono ?_
        rintro e w1 ⟨rfl, hb1⟩
        go_wp2_with fail
        go_ret
        rw [HM.out]
        exact ⟨rfl, hA1.trans (hb1.mono hbs1)⟩
      | true =>
        obtain ⟨t, ht⟩ : ∃ t, printT a b = t := ⟨_, rfl⟩
        have hp := print_is a b t (wr.alloc (.cells #[.int .i64 a, .int .i64 b] 60)) ht
        have hne : (t.toList == []) = false := by rw [← ht]; exact mvT_some (m := (a, b)) hs
        have hts : Value.string t = sv (mvT (a, b)) := by rw [← ht]; exact congrArg Value.string (mvT_bs (a, b)).symm
        have HP := Lib.hid hp
        have HTS := Lib.hid hts
        have HTK := Lib.hid htk
        have HSQ := Lib.hid (hsq1.trans hs)
        clear hp hsq1 htk ht hts hs
        go_wp2_with fail
        refine HP.out.mono ?_
        rintro e w1 ⟨rfl, hb1⟩
        have hB1 := hA1.trans (hb1.mono hbs1)
        have hown1 := own_nextL (own_nextL hown0 hb1) ((Below.refl _ _).alloc (Nat.le_refl _) (.cells #[.string t] 9))
        have hcell := cell_one_new w1 (.string t) 9
        have HB1 := Lib.hid hB1
        have HO1 := Lib.hid hown1
        have HO0 := Lib.hid (own_nextL hown0 hb1)
        have HCL := Lib.hid hcell
        have hk0 : ∀ u ∈ [Value.string t], u.oneCell' = true := by simp [Value.oneCell']
        have hk1 : k + 1 + 1 ≤ maxLen := by unfold maxLen; omega
        have hk2 : (k + 1 + 1) * 16 ≤ 140737488355328 := by omega
        have hk3 := Nat.le_trans hB1.size (Nat.le_of_lt (Nat.lt_of_lt_of_eq (Nat.lt_succ_self _) (alloc_sz w1 (.cells #[.string t] 9)).symm))
        clear hB1 hown1 hcell hown0
        go_wp2_with (at_builtin; refine wpList_append_own _ rfl _ _ 38 rfl w.heap.size 9 i0 (.string ⟨#[]⟩) 1 16 Tryz.underlying38 hi hz0 hz1 hz2 rfl (by decide) _ _ _ rfl HO1.out ⟨w1.heap.size, 0, none⟩ 1 1 [.string t] rfl rfl HCL.out hk0 hk1 hk2 hk3 ?_; intro v' w2 hown' hgrow _)
        go_roundw
        case rel =>
          refine ⟨k + 1, by go_num, by omega, HSQ.out, ?_, below_app HB1.out HB1.out.size HO0.out hgrow⟩
          rw [HTK.out, List.map_append]
          rw [HTS.out] at hown'
          simpa using hown'
        case measure => simp [intOf]; omega
    · obtain rfl : k = n := by omega
      have hall : l.take k = l := List.take_of_length_le (by rw [HN.out]; exact Nat.le_refl _)
      rw [hall] at hsq hown
      have bk : ¬ (k : Int) < (k : Int) := by omega
      obtain ⟨A', c', rfl, hrd, hcc⟩ := own_anyL hown
      obtain ⟨g, o, rfl, hc⟩ := rd_form hrd (by simp)
      have hlt : g < wr.heap.size := cell_lt (hc 0 _ rfl)
      have hjl := join_bound l h
      have hj := join_off g o c' (h :: l.map mvT) (k + 1) [32] (movesT h l) wr hc hlt (by simp [HN.out]) hcc (by unfold movesT; rw [if_pos hsq]) (by unfold movesT; rw [if_pos hsq]; have := HN.out; omega) (by omega)
      have HJ := Lib.hid hj
      clear hj hrd hc hown hjl hsq hall
      go_wp2_with fail
      refine HJ.out.mono ?_
      rintro e w1 ⟨rfl, hb1⟩
      go_wp2_with fail
      go_ret
      exact ⟨rfl, hB.trans (hb1.mono hbs)⟩
end Go.Proofs.YtpogpjebhnoncabGreatDoor
