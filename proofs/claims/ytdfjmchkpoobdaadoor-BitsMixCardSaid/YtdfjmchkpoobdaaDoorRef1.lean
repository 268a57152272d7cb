/- What the document's plain answers of layer 1 come to: a set as 90 truths. -/
import Derived.Test.YtdfjmchkpoobdaaDoorLawsN
import Derived.Test.YtdfjmchkpoobdaaDoorLive1
namespace Go.Proofs.YtdfjmchkpoobdaaDoor
open Go.RowKit Go.Shelf
open M (S)

/-- 90 truths. -/
def bl (p : Nat → Bool) : List Value := (List.range 90).map fun i => .bool (p i)
theorem bl_length (p : Nat → Bool) : (bl p).length = 90 := by simp [bl]
theorem bl_get (p : Nat → Bool) (i : Nat) (h : i < 90) : (bl p)[i]? = some (.bool (p i)) := by simp [bl, h]
theorem bl_getA (p : Nat → Bool) (i : Nat) (h : i < 90) : (bl p).toArray[i]? = some (.bool (p i)) := by simp [bl, h]
theorem bl_congr {p q : Nat → Bool} (h : ∀ i, i < 90 → p i = q i) : bl p = bl q := by
  unfold bl
  apply List.map_congr_left
  intro i hi
  rw [h i (List.mem_range.1 hi)]
theorem bl_set (p : Nat → Bool) (j : Nat) (b : Bool) : (bl p).toArray.setIfInBounds j (.bool b) = (bl fun i => if i = j then b else p i).toArray := by
  apply Array.ext
  · simp [bl]
  · intro i h1 h2
    simp only [bl, List.size_toArray, List.length_map, List.length_range] at h2
    rw [Array.getElem_setIfInBounds (by simpa [bl] using h2)]
    by_cases e : j = i
    · simp [e, bl]
    · have e' : ¬ i = j := fun h => e h.symm
      simp [e, e', bl]
/-- A call's answer is a slice of 90 truths. -/
def GivesBools (w : World) (p : Nat → Bool) (e : Ending) (w' : World) : Prop := ∃ A c, e = .returned (.slice A 90 c) ∧ Rd w' A (bl p) ∧ Below w.heap.size w w'
theorem rd_blk {w : World} {g : Nat} {t : TypeId} {xs : List Value} (h : Blk w g t xs.toArray) : Rd w (some ⟨g, 0, none⟩) xs := fun j u hu => by
  refine ⟨_, rfl, ?_⟩
  rw [show (Addr.add ⟨g, 0, none⟩ j) = ⟨g, j, none⟩ by simp [Addr.add]; omega, h.cell j]
  simpa using hu

theorem make90 (w : World) : (Instr.makeSlice 25 (.int .i64 90) (.int .i64 90)).run Tryd.prog w = .ok (.slice (some ⟨w.heap.size, 0, none⟩) 90 90) (w.alloc (.cells (bl fun _ => false).toArray 4)) := by kernel_rfl

/-- A bit of a word. -/
def tb (x k : Nat) : Bool := x.testBit k
theorem tb_eq (x k : Nat) : (((x : Int) / 2 ^ k).tmod 2 == 1) = tb x k := by
  unfold tb
  rw [Nat.testBit_eq_decide_div_mod_eq, show ((x : Int) / 2 ^ k) = ((x / 2 ^ k : Nat) : Int) by simp]
  generalize x / 2 ^ k = y
  rw [Int.tmod_eq_emod_of_nonneg (by omega), show ((y : Int) % 2) = ((y % 2 : Nat) : Int) by omega]
  rw [Bool.eq_iff_iff]
  simp
  omega

/-- The first k truths of either word. -/
def upTo (lo hi k i : Nat) : Bool := if i < 45 then decide (i < k) && tb lo i else decide (i < 45 + k) && tb hi (i - 45)
theorem upTo_all (lo hi i : Nat) (h : i < 90) : upTo lo hi 45 i = M.has lo hi i := by
  unfold upTo M.has tb
  split
  · rename_i h1; simp [h1]
  · simp [h]

attribute [local go_sem ↓] make90 in
set_option maxRecDepth 100000 in
set_option maxHeartbeats 1000000 in
theorem truths_any (lo hi : Nat) (w : World) : Calls Tryd.prog 10 #[.int .u64 lo, .int .u64 hi] w (GivesBools w (M.has lo hi)) := by
  go_enter Tryd.func10, Tryd.ntmps10
  go_wp2
  obtain ⟨W0, hW0⟩ : ∃ W0, w.alloc (.cells (bl fun _ => false).toArray 4) = W0 := ⟨_, rfl⟩
  have b0 : Blk W0 w.heap.size 4 (bl (upTo lo hi 0)).toArray := by
    rw [← hW0, show bl (upTo lo hi 0) = bl (fun _ => false) from bl_congr fun i _ => by
      unfold upTo
      split
      · simp
      · rename_i h; simp [h]]
    exact Blk.new _ _ _ rfl
  have hB0 : Below w.heap.size w W0 := by rw [← hW0]; exact (by repeat (first | exact Below.refl _ _ | (refine Below.setCell ?_ (by first | omega | (simp; done) | (simp; omega) | (simp at *; omega)) _) | (refine Below.alloc ?_ (by first | omega | (simp; done) | (simp; omega) | (simp at *; omega)) _) | refine Below.drew ?_ | (refine below_drewN ?_ _) | (refine Below.trans ?_ (Below.mono (by assumption) (by first | omega | (simp; done) | (simp; omega) | (simp at *; omega))))))
  rw [hW0]
  clear hW0
  go_loopw [6] (fun i wr => ∃ k : Nat, k ≤ 45 ∧ i = .int .i64 k ∧ Blk wr w.heap.size 4 (bl (upTo lo hi k)).toArray ∧ Below w.heap.size w wr) (fun i _ => 45 - (intOf i).toNat)
  case atStart => exact ⟨0, by omega, rfl, b0, hB0⟩
  case round =>
    obtain ⟨k, hk, rfl, bR, hB⟩ := hrel
    by_cases hlt : k < 45
    · have c1 := bR.cell k
      have c2 := bR.cell (45 + k)
      have f1 := bR.frozen k
      have f2 := bR.frozen (45 + k)
      rw [bl_getA _ k (by omega)] at c1
      rw [bl_getA _ (45 + k) (by omega)] at c2
      have q1 := tb_eq lo k
      have q2 := tb_eq hi k
      go_wp2
      go_roundw
      case rel =>
        refine ⟨k + 1, by omega, by go_num, ?_, (hB.setCell (p := ⟨w.heap.size, k, none⟩) (Nat.le_refl _) _).setCell (p := ⟨w.heap.size, 45 + k, none⟩) (Nat.le_refl _) _⟩
        have h := (bR.set_ k (.bool (tb lo k))).set_ (45 + k) (.bool (tb hi k))
        rw [bl_set, bl_set] at h
        rw [show bl (upTo lo hi (k + 1)) = _ from bl_congr fun i hi' => ?_]
        · exact h
        · unfold upTo
          by_cases e1 : i = 45 + k
          · subst e1
            rw [if_neg (by omega)]
            simp
          · by_cases e2 : i = k
            · subst e2
              simp [hlt]
            · simp only [e1, e2, if_false]
              split
              · congr 1
                rw [decide_eq_decide]; omega
              · congr 1
                rw [decide_eq_decide]; omega
      case measure => simp [intOf]; omega
    · obtain rfl : k = 45 := by omega
      go_wp2
      go_ret
      refine ⟨_, _, rfl, ?_, hB⟩
      rw [← bl_congr (upTo_all lo hi)]
      exact rd_blk bR

/-- The word of 45 truths, from the highest on. -/
def wacc (p : Nat → Bool) : Nat → Nat
  | 0 => 0
  | k + 1 => 2 * wacc p k + (p (44 - k)).toNat
theorem wacc_lt (p : Nat → Bool) : ∀ k, wacc p k < 2 ^ k
  | 0 => by simp [wacc]
  | k + 1 => by
    have := wacc_lt p k
    rw [Nat.pow_succ, wacc]
    cases p (44 - k) <;> simp <;> omega
theorem wacc_testBit (p : Nat → Bool) : ∀ k, k ≤ 45 → ∀ i, (wacc p k).testBit i = (decide (i < k) && p (45 - k + i))
  | 0, _, i => by simp [wacc]
  | k + 1, hk, i => by
    have ih := wacc_testBit p k (by omega)
    cases i with
    | zero =>
      rw [Nat.testBit_zero, wacc, show 45 - (k + 1) + 0 = 44 - k by omega]
      cases p (44 - k) <;> simp <;> omega
    | succ i =>
      rw [Nat.testBit_succ, wacc, show (2 * wacc p k + (p (44 - k)).toNat) / 2 = wacc p k by cases p (44 - k) <;> simp <;> omega, ih, show 45 - (k + 1) + (i + 1) = 45 - k + i by omega]
      congr 1
      rw [decide_eq_decide]; omega
theorem wacc_eq (p : Nat → Bool) (x : Nat) (hx : M.cl x = x) (h : ∀ i, i < 45 → x.testBit i = p i) : x = wacc p 45 := by
  apply Nat.eq_of_testBit_eq
  intro i
  rw [wacc_testBit p 45 (by omega) i]
  by_cases hi : i < 45
  · rw [h i hi]; simp [hi]
  · rw [← hx, M.cl_testBit]; simp [hi]

set_option maxRecDepth 100000 in
set_option maxHeartbeats 1000000 in
theorem words_any (A : Option Addr) (c : Nat) (p : Nat → Bool) (w : World) (hr : Rd w A (bl p)) :
    Calls Tryd.prog 35 #[.slice A 90 c] w fun e w' => e = .returned (.tuple #[.int .u64 (wacc p 45 : Nat), .int .u64 (wacc (fun i => p (45 + i)) 45 : Nat)]) ∧ w = w' := by
  obtain ⟨ad, rfl, _⟩ := hr 0 _ (bl_get p 0 (by decide))
  have hc : ∀ i, i < 90 → w.cell? (ad.add i) = some (.bool (p i)) := fun i hi => by
    obtain ⟨ad', e, h⟩ := hr i _ (bl_get p i hi)
    cases e
    exact h
  have Hc := Lib.hid hc
  clear hc hr
  go_enter Tryd.func35, Tryd.ntmps35
  go_wp2
  go_loop [4, 5, 6] (fun l h i => ∃ k : Nat, k ≤ 45 ∧ i = .int .i64 (44 - (k : Int)) ∧ l = .int .u64 (wacc p k : Nat) ∧ h = .int .u64 (wacc (fun i => p (45 + i)) k : Nat)) (fun _ _ i => (intOf i + 1).toNat)
  case atStart => exact ⟨0, by omega, rfl, rfl, rfl⟩
  case round =>
    obtain ⟨k, hk, rfl, rfl, rfl⟩ := hrel
    by_cases hlt : k < 45
    · obtain ⟨j, hj⟩ : ∃ j, j = 44 - k := ⟨_, rfl⟩
      have e1 : (44 - (k : Int)) = (j : Int) := by omega
      have hj45 : j < 45 := by omega
      have c1 := Hc.out j (by omega)
      have c2 := Hc.out (45 + j) (by omega)
      have w1 : Hid (wacc p (k + 1) = 2 * wacc p k + (p j).toNat) := by show _ = _; rw [wacc, hj]
      have w2 : Hid (wacc (fun i => p (45 + i)) (k + 1) = 2 * wacc (fun i => p (45 + i)) k + (p (45 + j)).toNat) := by show _ = _; rw [wacc, hj]
      have l1 := wacc_lt p k
      have l2 := wacc_lt (fun i => p (45 + i)) k
      have l3 : (2 : Nat) ^ k ≤ 2 ^ 44 := Nat.pow_le_pow_right (by decide) (by omega)
      have m1 : wacc p k < 17592186044416 := by omega
      have m2 : wacc (fun i => p (45 + i)) k < 17592186044416 := by omega
      have K : Hid (44 - ((k + 1 : Nat) : Int) = (j : Int) - 1) := by show _ = _; omega
      rw [e1]
      clear l1 l2 l3 e1 hj
      generalize wacc p k = x at *
      generalize wacc (fun i => p (45 + i)) k = y at *
      cases hp : p j <;> cases hq : p (45 + j)
      all_goals
        rw [hp] at c1 w1
        rw [hq] at c2 w2
        clear hp hq
        go_wp2
        go_round
        case rel => exact ⟨k + 1, by omega, by rw [K.out], by rw [w1.out]; go_num, by rw [w2.out]; go_num⟩
        case measure => simp [intOf]
    · obtain rfl : k = 45 := by omega
      go_wp2
      go_ret2
      exact ⟨rfl, rfl⟩

def sqB (n : Int) : Bool := decide (0 ≤ n) && decide (n < 90)
set_option maxHeartbeats 400000 in
theorem square_any (n : Int) (w : World) : Calls Tryd.prog 19 #[.int .i64 n] w fun e w' => e = .returned (.bool (sqB n)) ∧ w = w' := by
  unfold sqB
  by_cases h0 : 0 ≤ n
  · have e0 : decide (0 ≤ n) = true := by simpa using h0
    by_cases h1 : n < 90
    · have e1 : decide (n < 90) = true := by simpa using h1
      go_enter Tryd.func19, Tryd.ntmps19
      go_wp2
      go_ret
      exact ⟨by first | rfl | (rw [e0, e1]; rfl), rfl⟩
    · have e1 : decide (n < 90) = false := by simpa using h1
      go_enter Tryd.func19, Tryd.ntmps19
      go_wp2
      go_ret
      exact ⟨by first | rfl | (rw [e0, e1]; rfl), rfl⟩
  · have e0 : decide (0 ≤ n) = false := by simpa using h0
    go_enter Tryd.func19, Tryd.ntmps19
    go_wp2
    go_ret
    exact ⟨rfl, rfl⟩

set_option maxHeartbeats 1000000 in
theorem is_true (s : S) (hs : s.Clean) (A : Option Addr) (c : Nat) (p : Nat → Bool) (w : World) (hr : Rd w A (bl p)) (h : ∀ i, i < 90 → s.has i = p i) :
    Calls Tryd.prog 11 #[.agg #[.int .u64 s.lo, .int .u64 s.hi], .slice A 90 c] w (Gives w (.bool true)) := by
  have e1 : s.lo = wacc p 45 := wacc_eq p s.lo hs.1 fun i hi => by
    have := h i (by omega)
    rw [← this]; simp [S.has, M.has, hi]
  have e2 : s.hi = wacc (fun i => p (45 + i)) 45 := wacc_eq _ s.hi hs.2 fun i hi => by
    have := h (45 + i) (by omega)
    rw [← this]
    have h1 : ¬ 45 + i < 45 := by omega
    have h2 : 45 + i < 90 := by omega
    simp [S.has, M.has, h2]
    intro; omega
  have hw := words_any A c p (w.alloc (.cells (svc s) 24)) (hr.next ((Below.refl _ _).alloc (Nat.le_refl _) _))
  rw [← e1, ← e2] at hw
  have Hw := Lib.hid hw
  clear hw e1 e2 hr h
  go_enter Tryd.func11, Tryd.ntmps11
  go_wp2_with fail
  refine Hw.out.mono ?_
  rintro e w1 ⟨rfl, rfl⟩
  go_wp2
  go_ret
  exact ⟨rfl, (by repeat (first | exact Below.refl _ _ | (refine Below.setCell ?_ (by first | omega | (simp; done) | (simp; omega) | (simp at *; omega)) _) | (refine Below.alloc ?_ (by first | omega | (simp; done) | (simp; omega) | (simp at *; omega)) _) | refine Below.drew ?_ | (refine below_drewN ?_ _) | (refine Below.trans ?_ (Below.mono (by assumption) (by first | omega | (simp; done) | (simp; omega) | (simp at *; omega))))))⟩
end Go.Proofs.YtdfjmchkpoobdaaDoor
