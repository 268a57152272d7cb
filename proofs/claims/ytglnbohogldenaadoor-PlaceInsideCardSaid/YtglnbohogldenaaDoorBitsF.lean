/- What Of answers, for every list; whether two lists of numbers are the same. -/
import Derived.Test.YtglnbohogldenaaDoorBitsE
import Derived.Deep.QuietTactic
import Derived.BigQuiet
namespace Go.Proofs.YtglnbohogldenaaDoor
open Go.RowKit Go.Shelf
open M (S)

abbrev iv (x : Int) : Value := .int .i64 x


set_option maxRecDepth 100000 in
set_option maxHeartbeats 1000000 in
theorem ints_any (A B : Option Addr) (xs ys : List Int) (c d : Nat) (w : World) (hx : Rd w A (xs.map iv)) (hy : Rd w B (ys.map iv)) (hm : xs.length ≤ 1000000) :
    Calls Tryd.prog 11 #[.slice A xs.length c, .slice B ys.length d] w fun e w' => e = .returned (.bool (decide (xs = ys))) ∧ Below w.heap.size w w' := by
  by_cases hl : xs.length = ys.length
  · have hne : ((xs.length : Int) != (ys.length : Int)) = false := by rw [hl]; simp
    have Hl := Lib.hid hl
    clear hl
    go_enter Tryd.func11, Tryd.ntmps11
    go_wp2
    go_loopw [5] (fun i wr => ∃ k : Nat, k ≤ xs.length ∧ i = .int .i64 k ∧ xs.take k = ys.take k ∧ Below w.heap.size w wr) (fun i _ => xs.length - (intOf i).toNat)
    case atStart => exact ⟨0, Nat.zero_le _, rfl, rfl, Below.refl _ _⟩
    case round =>
      obtain ⟨k, hk, rfl, hs, hB⟩ := hrel
      have Hs := Lib.hid hs
      clear hs
      by_cases hlt : k < xs.length
      · have hlt' : k < ys.length := by have := Hl.out; omega
        obtain ⟨a1, rfl, hc⟩ := hx k (iv xs[k]) (by simp [hlt])
        obtain ⟨a2, rfl, hd⟩ := hy k (iv ys[k]) (by simp [hlt'])
        have hc1 := (hB.cell (p := a1.add k) (cell_lt hc)).trans hc
        have hd1 := (hB.cell (p := a2.add k) (cell_lt hd)).trans hd
        have b1 : (k : Int) < (xs.length : Int) := by omega
        have b2 : (k : Int) < (ys.length : Int) := by omega
        by_cases he : xs[k] = ys[k]
        · have hq : (xs[k] != ys[k]) = false := by rw [he]; simp
          have He : Hid (xs.take (k + 1) = ys.take (k + 1)) := by
            show _ = _
            rw [List.take_succ_eq_append_getElem hlt, List.take_succ_eq_append_getElem hlt', Hs.out, he]
          clear he
          go_wp2
          go_quiet (fail)
          go_wp2
          go_roundw
          case rel => exact ⟨k + 1, by omega, by go_num, He.out, below_drewN hB _⟩
          case measure => simp [intOf]; omega
        · have hq : (xs[k] != ys[k]) = true := by rw [bne_iff_ne]; exact he
          have He : Hid (decide (xs = ys) = false) := by
            show _ = _
            rw [decide_eq_false_iff_not]
            intro h
            subst h
            exact he rfl
          clear he
          go_wp2
          go_quiet (fail)
          go_wp2
          go_ret
          exact ⟨by rw [He.out]; rfl, below_drewN hB _⟩
      · have He : Hid (decide (xs = ys) = true) := by
          show _ = _
          have h1 := Hs.out
          rw [List.take_of_length_le (by omega), List.take_of_length_le (by have := Hl.out; omega)] at h1
          rw [decide_eq_true_iff, h1]
        go_wp2
        go_ret
        exact ⟨by rw [He.out]; rfl, hB⟩
  · have hne : ((xs.length : Int) != (ys.length : Int)) = true := by rw [bne_iff_ne]; omega
    have He : Hid (decide (xs = ys) = false) := by
      show _ = _
      rw [decide_eq_false_iff_not]
      intro h
      exact hl (by rw [h])
    clear hl
    go_enter Tryd.func11, Tryd.ntmps11
    go_wp2
    go_ret
    exact ⟨by rw [He.out]; rfl, Below.refl _ _⟩
end Go.Proofs.YtglnbohogldenaaDoor
