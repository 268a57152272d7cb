/- What Of answers, for every list; whether two lists of numbers are the same. -/
import Derived.Test.YtdfjmchkpoobdaaDoorBitsE
import Derived.Deep.QuietTactic
import Derived.BigQuiet
namespace Go.Proofs.YtdfjmchkpoobdaaDoor
open Go.RowKit Go.Shelf
open M (S)

abbrev iv (x : Int) : Value := .int .i64 x

/-- The set of the squares of a list. -/
def ofL (xs : List Int) : S := xs.foldl S.put S.empty
theorem ofL_take (xs : List Int) (k : Nat) (h : k < xs.length) : ofL (xs.take (k + 1)) = (ofL (xs.take k)).put xs[k] := by
  unfold ofL
  rw [List.take_succ_eq_append_getElem h, List.foldl_append]
  rfl

set_option maxRecDepth 100000 in
set_option maxHeartbeats 1000000 in
theorem of_any (A : Option Addr) (xs : List Int) (c : Nat) (w : World) (hr : Rd w A (xs.map iv)) (hm : xs.length ≤ 1000000) :
    Calls Tryd.prog 33 #[.slice A xs.length c] w fun e w' => e = .returned (.agg #[.int .u64 (ofL xs).lo, .int .u64 (ofL xs).hi]) ∧ Below w.heap.size w w' := by
  go_enter Tryd.func33, Tryd.ntmps33
  go_wp2
  obtain ⟨W0, hW0⟩ : ∃ W0, (w.alloc (.cells #[.int .u64 0, .int .u64 0] 24)).alloc (.cells #[.int .u64 0, .int .u64 0] 24) = W0 := ⟨_, rfl⟩
  have bR : Blk W0 w.heap.size 24 #[.int .u64 0, .int .u64 0] := by rw [← hW0]; exact (Blk.new _ _ _ (by simp)).alloc _
  have bT : Blk W0 (w.heap.size + 1) 24 (svc (ofL (xs.take 0))) := by rw [← hW0]; exact Blk.new _ _ _ (by simp)
  have hB0 : Below w.heap.size w W0 := by rw [← hW0]; exact (by repeat (first | exact Below.refl _ _ | (refine Below.setCell ?_ (by first | omega | (simp; done) | (simp; omega) | (simp at *; omega)) _) | (refine Below.alloc ?_ (by first | omega | (simp; done) | (simp; omega) | (simp at *; omega)) _) | refine Below.drew ?_ | (refine below_drewN ?_ _) | (refine Below.trans ?_ (Below.mono (by assumption) (by first | omega | (simp; done) | (simp; omega) | (simp at *; omega))))))
  rw [hW0]
  clear hW0
  go_loopw [5, 8] (fun _ i wr => ∃ k : Nat, k ≤ xs.length ∧ i = .int .i64 k ∧ Blk wr w.heap.size 24 #[.int .u64 0, .int .u64 0] ∧ Blk wr (w.heap.size + 1) 24 (svc (ofL (xs.take k))) ∧ Below w.heap.size w wr) (fun _ i _ => xs.length - (intOf i).toNat)
  case atStart => exact ⟨0, Nat.zero_le _, rfl, bR, bT, hB0⟩
  case round =>
    obtain ⟨k, hk, rfl, bR, bT, hB⟩ := hrel
    have t0 := bT.cell 0
    have t1 := bT.cell 1
    simp only [List.getElem?_toArray, List.getElem?_cons_zero, List.getElem?_cons_succ] at t0 t1
    by_cases hlt : k < xs.length
    · obtain ⟨ad, rfl, hc⟩ := hr k (iv xs[k]) (by simp [hlt])
      have hc1 := (hB.cell (p := ad.add k) (cell_lt hc)).trans hc
      have Ht := Lib.hid (ofL_take xs k hlt)
      go_wp2_with (go_at_call 26; refine (with_any (ofL (xs.take k)) xs[k] _).mono ?_; rintro e w1 ⟨rfl, hb1⟩; have bT1 := bT.next hb1; have q0 := bT1.cell 0; have q1 := bT1.cell 1; have f0 := bT1.frozen 0; have f1 := bT1.frozen 1; simp only [List.getElem?_toArray, List.getElem?_cons_zero, List.getElem?_cons_succ] at q0 q1)
      go_roundw
      case rel => exact ⟨k + 1, by omega, by go_num, ((bR.next hb1).far (by simp) _).far (by simp) _, by rw [Ht.out]; exact blk_two bT1 _ _, hB.trans (Kept.two (B := w.heap.size + 2) hB.size hb1 (by omega) (by omega) _ _).1⟩
      case measure => simp [intOf]; omega
    · have e : xs.take k = xs := List.take_of_length_le (by omega)
      rw [e] at t0 t1
      have r0 := bR.cell 0
      have r1 := bR.cell 1
      have f0 := bR.frozen 0
      have f1 := bR.frozen 1
      simp only [List.getElem?_toArray, List.getElem?_cons_zero, List.getElem?_cons_succ] at r0 r1
      clear e
      go_wp2
      have bR2 := blk_two bR (.int .u64 (ofL xs).lo) (.int .u64 (ofL xs).hi)
      exact bodyPost_ret (v := .agg #[.int .u64 (ofL xs).lo, .int .u64 (ofL xs).hi]) (by simp [results, Tryd.results33, go_sem, bR2.cell 0, bR2.cell 1]) rfl ⟨rfl, (hB.setCell (p := ⟨w.heap.size, 0, none⟩) (by simp) _).setCell (p := ⟨w.heap.size, 1, none⟩) (by simp) _⟩

set_option maxRecDepth 100000 in
set_option maxHeartbeats 1000000 in
theorem ints_any (A B : Option Addr) (xs ys : List Int) (c d : Nat) (w : World) (hx : Rd w A (xs.map iv)) (hy : Rd w B (ys.map iv)) (hm : xs.length ≤ 1000000) :
    Calls Tryd.prog 20 #[.slice A xs.length c, .slice B ys.length d] w fun e w' => e = .returned (.bool (decide (xs = ys))) ∧ Below w.heap.size w w' := by
  by_cases hl : xs.length = ys.length
  · have hne : ((xs.length : Int) != (ys.length : Int)) = false := by rw [hl]; simp
    have Hl := Lib.hid hl
    clear hl
    go_enter Tryd.func20, Tryd.ntmps20
    go_wp2
    go_loopw [5] (fun i wr => ∃ k : Nat, k ≤ xs.length ∧ i = .int .i64 k ∧ xs.take k = ys.take k ∧ Below w.heap.size w wr) (fun i _ => xs.length - (intOf i).toNat)
    case atStart => exact ⟨0, Nat.zero_le _, rfl, rfl, Below.refl _ _⟩
    case round =>
      obtain ⟨k, hk, rfl, hs, hB⟩ := hrel
      have Hs := Lib.hid hs
      clear hs
      by_cases hlt : k < xs.length
      · have hlt' : k < ys.length := by have := Hl.out; omega
        obtain ⟨a1, rfl, hc⟩ := hx k (iv xs[k]) (by simp [hlt])
        obtain ⟨a2, rfl, hd⟩ := hy k (iv ys[k]) (by simp [hlt'])
        have hc1 := (hB.cell (p := a1.add k) (cell_lt hc)).trans hc
        have hd1 := (hB.cell (p := a2.add k) (cell_lt hd)).trans hd
        have b1 : (k : Int) < (xs.length : Int) := by omega
        have b2 : (k : Int) < (ys.length : Int) := by omega
        by_cases he : xs[k] = ys[k]
        · have hq : (xs[k] != ys[k]) = false := by rw [he]; simp
          have He : Hid (xs.take (k + 1) = ys.take (k + 1)) := by
            show _ = _
            rw [List.take_succ_eq_append_getElem hlt, List.take_succ_eq_append_getElem hlt', Hs.out, he]
          clear he
          go_wp2
          go_quiet (fail)
          go_wp2
          go_roundw
          case rel => exact ⟨k + 1, by omega, by go_num, He.out, below_drewN hB _⟩
          case measure => simp [intOf]; omega
        · have hq : (xs[k] != ys[k]) = true := by rw [bne_iff_ne]; exact he
          have He : Hid (decide (xs = ys) = false) := by
            show _ = _
            rw [decide_eq_false_iff_not]
            intro h
            subst h
            exact he rfl
          clear he
          go_wp2
          go_quiet (fail)
          go_wp2
          go_ret
          exact ⟨by rw [He.out]; rfl, below_drewN hB _⟩
      · have He : Hid (decide (xs = ys) = true) := by
          show _ = _
          have h1 := Hs.out
          rw [List.take_of_length_le (by omega), List.take_of_length_le (by have := Hl.out; omega)] at h1
          rw [decide_eq_true_iff, h1]
        go_wp2
        go_ret
        exact ⟨by rw [He.out]; rfl, hB⟩
  · have hne : ((xs.length : Int) != (ys.length : Int)) = true := by rw [bne_iff_ne]; omega
    have He : Hid (decide (xs = ys) = false) := by
      show _ = _
      rw [decide_eq_false_iff_not]
      intro h
      exact hl (by rw [h])
    clear hl
    go_enter Tryd.func20, Tryd.ntmps20
    go_wp2
    go_ret
    exact ⟨by rw [He.out]; rfl, Below.refl _ _⟩
end Go.Proofs.YtdfjmchkpoobdaaDoor
