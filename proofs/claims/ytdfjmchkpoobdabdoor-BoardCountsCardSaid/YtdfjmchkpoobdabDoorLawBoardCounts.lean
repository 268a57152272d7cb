/- All squares of a board are red's, black's, or empty; what is found is what stands there: the call answers true. -/
import Derived.Test.YtdfjmchkpoobdabDoorBoard5
namespace Go.Proofs.YtdfjmchkpoobdabDoor.counts
open Go.RowKit Go.Shelf
open M (S)

theorem three {α : Type} (p q r : α → Bool) : ∀ l : List α, (∀ x ∈ l, (p x = true ∧ q x = false ∧ r x = false) ∨ (p x = false ∧ q x = true ∧ r x = false) ∨ (p x = false ∧ q x = false ∧ r x = true)) →
    (l.filter p).length + (l.filter q).length + (l.filter r).length = l.length
  | [], _ => rfl
  | x :: l, h => by
    have ih := three p q r l fun y hy => h y (List.mem_cons_of_mem _ hy)
    rcases h x List.mem_cons_self with ⟨a, b, c⟩ | ⟨a, b, c⟩ | ⟨a, b, c⟩ <;> simp only [List.filter_cons, a, b, c, if_true, List.length_cons] <;> simp only [Bool.false_eq_true, if_false] <;> omega
theorem all90 {s : ByteArray} (hb : isB s = true) : (piecesL s 0).length + (piecesL s 1).length + (findL s 46).length = 90 := by
  simp only [piecesL, findL, hb, if_true, trues, List.length_map]
  rw [three _ _ _ (List.range 90), List.length_range]
  intro x hx
  have hf := isB_fill hb x (List.mem_range.1 hx)
  revert hf
  generalize bAt s x = c
  intro hf
  rw [fill_side] at hf
  have hg := sideN_ge c
  by_cases e : c = 46
  · subst e; decide
  · have h0 : 0 ≤ sideN c := by simpa [e] using hf
    by_cases e1 : sideN c = 0
    · left; simp [ofSide, e, e1]
    · have e2 : sideN c = 1 := by omega
      right; left; simp [ofSide, e, e2]
theorem trues_sorted (p : Nat → Bool) : (trues p 90).Pairwise (· < ·) := by
  unfold trues
  rw [List.pairwise_map]
  refine List.Pairwise.imp ?_ (List.Pairwise.filter p (List.pairwise_lt_range (n := 90)))
  intro a b h
  omega
theorem find_sorted (s : ByteArray) (c : Nat) : (findL s c).Pairwise (· < ·) := by
  unfold findL
  split
  · exact trues_sorted _
  · exact List.Pairwise.nil
theorem find_at {s : ByteArray} (hb : isB s = true) (c : Nat) : ∀ x ∈ findL s c, atB s x = c := fun x hx => by
  simp only [findL, hb, if_true, trues, List.mem_map, List.mem_filter, List.mem_range] at hx
  obtain ⟨k, ⟨hk, hc⟩, rfl⟩ := hx
  simp only [atB, hb, sqI_true (show 0 ≤ (k : Int) ∧ (k : Int) < 90 by omega), true_and, if_true, Int.toNat_natCast]
  simpa using hc
theorem find_len (s : ByteArray) (c : Nat) : (findL s c).length ≤ 90 := by
  unfold findL
  split
  · rw [trues, List.length_map]
    exact Nat.le_trans (List.length_filter_le _ _) (by simp)
  · simp

set_option maxRecDepth 100000 in
set_option maxHeartbeats 4000000 in
theorem large (s : ByteArray) (c : Nat) (w : World) (hT : Tab w) (SM : Hid (decide (s.size ≤ 200) = false)) (e1 : decide ((s.size : Int) ≤ 200) = false) :
    Calls Tryd.prog 7 #[.string s, .int .u8 (c : Int)] w fun e w' => e = .returned (.bool true) ∧ Below w.heap.size w w' := by
  go_enter Tryd.func7, Tryd.ntmps7
  go_wp2_with fail
  refine (small_is s false _ SM.out).mono ?_
  rintro e w' ⟨rfl, rfl⟩
  go_wp2_with fail
  refine (small_is s false _ SM.out).mono ?_
  rintro e w' ⟨rfl, rfl⟩
  go_wp2_with fail
  refine (live2_any _ hT).mono ?_
  rintro e w1 ⟨rfl, hb⟩
  go_wp2
  go_ret
  exact ⟨rfl, hb⟩
set_option maxRecDepth 100000 in
set_option maxHeartbeats 4000000 in
theorem none (s : ByteArray) (c : Nat) (w : World) (hT : Tab w) (SM : Hid (decide (s.size ≤ 200) = true)) (B : Hid (isB s = false)) (e1 : decide ((s.size : Int) ≤ 200) = true) :
    Calls Tryd.prog 7 #[.string s, .int .u8 (c : Int)] w fun e w' => e = .returned (.bool true) ∧ Below w.heap.size w w' := by
  go_enter Tryd.func7, Tryd.ntmps7
  go_wp2_with fail
  refine (small_is s true _ SM.out).mono ?_
  rintro e w' ⟨rfl, rfl⟩
  go_wp2_with fail
  refine (is_is s false _ B.out).mono ?_
  rintro e w' ⟨rfl, rfl⟩
  go_wp2_with fail
  refine (small_is s true _ SM.out).mono ?_
  rintro e w' ⟨rfl, rfl⟩
  go_wp2_with fail
  refine (live2_any _ hT).mono ?_
  rintro e w1 ⟨rfl, hb⟩
  go_wp2
  go_ret
  exact ⟨rfl, hb⟩
set_option maxRecDepth 100000 in
set_option maxHeartbeats 4000000 in
theorem full (s : ByteArray) (c : Nat) (w : World) (hT : Tab w) (SM : Hid (decide (s.size ≤ 200) = true)) (B : Hid (isB s = true)) (l : List Int) (n : Nat) (F : Hid (findL s c = l)) (L : Hid (l.length = n)) (hn : n ≤ 90)
    (HA : Hid (∀ x ∈ l, atB s x = c)) (HS : Hid (l.Pairwise (· < ·))) (x y z : Nat) (X : Hid ((piecesL s 0).length = x)) (Y : Hid ((piecesL s 1).length = y)) (Z : Hid ((findL s 46).length = z)) (i1 : IntKind.i64.wrap ((x : Int) + y) = (x : Int) + y) (i2 : IntKind.i64.wrap ((x : Int) + y + z) = 90) :
    Calls Tryd.prog 7 #[.string s, .int .u8 (c : Int)] w fun e w' => e = .returned (.bool true) ∧ Below w.heap.size w w' := by
  go_enter Tryd.func7, Tryd.ntmps7
  go_wp2_with fail
  refine (small_is s true _ SM.out).mono ?_
  rintro e w' ⟨rfl, rfl⟩
  go_wp2_with fail
  refine (is_is s true _ B.out).mono ?_
  rintro e w' ⟨rfl, rfl⟩
  go_wp2_with fail
  refine (find_is s c n l _ hT F.out L.out).mono ?_
  rintro e w1 ⟨A, k, rfl, hr, hb⟩
  replace hT := hT.next hb
  have hB := hb
  clear hb
  go_wp2_with fail
  go_loopw [6] (fun i wr => ∃ k : Nat, k ≤ n ∧ i = .int .i64 k ∧ Below w1.heap.size w1 wr ∧ Tab wr) (fun i _ => n - (intOf i).toNat)
  case atStart => exact ⟨0, by omega, rfl, Below.refl _ _, hT⟩
  case round =>
    obtain ⟨k, hk, rfl, hB1, hT1⟩ := hrel
    by_cases hlt : k < n
    · have hkl : k < l.length := by rw [L.out]; exact hlt
      obtain ⟨a, rfl, hc⟩ := hr k (iv l[k]) (by simp [hkl])
      have hc1 := (hB1.cell (p := a.add k) (cell_lt hc)).trans hc
      obtain ⟨u, hu⟩ : ∃ u, l[k] = u := ⟨_, rfl⟩
      rw [hu] at hc1
      have hat : ∀ W : World, Calls Tryd.prog 14 #[.string s, .int .i64 u] W fun e w' => e = .returned (.int .u8 (c : Int)) ∧ w' = W := fun W =>
        (at_is s u c W (HA.out u (by rw [← hu]; exact List.getElem_mem _))).mono fun _ _ ⟨a, b⟩ => ⟨a, b.symm⟩
      have Ha := Lib.hid hat
      have b1 : (k : Int) < (n : Int) := by omega
      have Hu := Lib.hid hu
      clear hat hu
      by_cases h0 : k = 0
      · have g0 : decide (0 < k) = false := by rw [h0]; rfl
        clear h0 hc
        go_wp2_with fail
        go_quiet ((go_at_call 14; exact Calls.quiet_of_same (Ha.out _)))
        go_wp2_with fail
        go_roundw
        case rel => exact ⟨k + 1, by omega, by go_num, below_drewN hB1 _, hT1.below (below_drewN (Below.refl _ _) _) hT1.lt⟩
        case measure => simp [intOf]; omega
      · obtain ⟨j, hj⟩ : ∃ j, k = j + 1 := ⟨k - 1, by omega⟩
        have hjl : j < l.length := by omega
        obtain ⟨a', ea, hc'⟩ := hr j (iv l[j]) (by simp [hjl])
        cases ea
        have hc2 := (hB1.cell (p := a.add j) (cell_lt hc')).trans hc'
        have hlt2 : l[j] < l[k] := (List.pairwise_iff_getElem.1 HS.out) j k hjl hkl (by omega)
        rw [Hu.out] at hlt2
        obtain ⟨v, hv⟩ : ∃ v, l[j] = v := ⟨_, rfl⟩
        rw [hv] at hc2 hlt2
        have i3 : IntKind.i64.wrap ((k : Int) - 1) = (j : Int) := by rw [IntWalk.i64_in _ (by omega)]; omega
        have b2 : (j : Int) < (n : Int) := by omega
        have g0 : decide (0 < k) = true := by rw [hj]; simp
        have g1 : decide (u ≤ v) = false := by simp; exact hlt2
        clear h0 hc hc' hv hj hlt2
        go_wp2_with fail
        go_quiet ((go_at_call 14; exact Calls.quiet_of_same (Ha.out _)))
        go_wp2_with fail
        go_roundw
        case rel => exact ⟨k + 1, by omega, by go_num, below_drewN hB1 _, hT1.below (below_drewN (Below.refl _ _) _) hT1.lt⟩
        case measure => simp [intOf]; omega
    · have b1 : (n : Int) ≤ (k : Int) := by omega
      replace hB := hB.trans (hB1.mono hB.size)
      clear hr hT hB1
      go_wp2_with fail
      refine (pieces_is s 0 x _ hT1 X.out).mono ?_
      rintro e w2 ⟨A2, k2, rfl, hr, hb⟩
      replace hT1 := hT1.next hb
      replace hB := hB.trans (hb.mono hB.size)
      clear hb hr
      go_wp2_with fail
      refine (pieces_is s 1 y _ hT1 Y.out).mono ?_
      rintro e w3 ⟨A3, k3, rfl, hr, hb⟩
      replace hT1 := hT1.next hb
      replace hB := hB.trans (hb.mono hB.size)
      clear hb hr
      go_wp2_with fail
      refine (find_is s 46 z _ _ hT1 rfl Z.out).mono ?_
      rintro e w4 ⟨A4, k4, rfl, hr, hb⟩
      replace hT1 := hT1.next hb
      replace hB := hB.trans (hb.mono hB.size)
      clear hb hr
      go_wp2_with fail
      refine (live2_any _ hT1).mono ?_
      rintro e w5 ⟨rfl, hb⟩
      replace hB := hB.trans (hb.mono hB.size)
      go_wp2
      go_ret
      exact ⟨rfl, hB⟩

theorem walk (s : ByteArray) (c : Nat) (w : World) (hT : Tab w) :
    Calls Tryd.prog 7 #[.string s, .int .u8 (c : Int)] w fun e w' => e = .returned (.bool true) ∧ Below w.heap.size w w' := by
  cases hs : decide (s.size ≤ 200)
  · exact large s c w hT hs (by rw [← hs, decide_eq_decide]; omega)
  · cases hb : isB s
    · exact none s c w hT hs hb (by rw [← hs, decide_eq_decide]; omega)
    · have h := all90 hb
      exact full s c w hT hs hb _ _ rfl rfl (find_len s c) (find_at hb c) (find_sorted s c) _ _ _ rfl rfl rfl (IntWalk.i64_in _ (by omega)) (by rw [IntWalk.i64_in _ (by omega)]; omega)
end Go.Proofs.YtdfjmchkpoobdabDoor.counts
