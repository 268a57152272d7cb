/- What is used lies where it must: the call answers true. -/
import Derived.Test.YtgmbigdkipkibaaTabL
import Derived.Deep.RegionHeld
namespace Go.Proofs.Ytgmbigdkipkibaa.tuse
open Go.RowKit Go.Shelf
attribute [local go_sem] Oper.semAt_some

theorem own0 (k : Nat) (d s u a b : Int) (W : World) : Calls Try.prog 10 #[.agg #[.int .u64 k, .int .i64 d, .int .i64 s, .int .i64 u, .int .i64 a, .int .i64 b]] W (Gives W (.agg #[.int .u64 k, .int .i64 d, .int .i64 s, .int .i64 u, .int .i64 a, .int .i64 b])) := own_is ⟨k, d, s, u, a, b⟩ W
theorem put1 {W : World} {tb sb : Nat} (h : TabAt W tb sb 7 fN) (k : Nat) (d s u a b : Int) (hk : k < 18446744073709551616) (hu : 0 ≤ u ∧ u ≤ 2) : Calls Try.prog 9 #[.pointer (some ⟨tb, 0, none⟩), .agg #[.int .u64 k, .int .i64 d, .int .i64 s, .int .i64 u, .int .i64 a, .int .i64 b]] W fun e w' => e = .returned (.bool true) ∧ TabAt w' tb sb 7 (putF fN (k % 7) ⟨k, d, s, u, a, b⟩) ∧ Far (· = sb) W w' :=
  put_is h ⟨k, d, s, u, a, b⟩ hk true (by unfold putB; simp [keepsB, hu.1, hu.2])
theorem put2 {W : World} {tb sb : Nat} (h : TabAt W tb sb 7 fN) (k : Nat) (d s u a b : Int) (hk : k < 18446744073709551616) (hu : ¬ (0 ≤ u ∧ u ≤ 2)) : Calls Try.prog 9 #[.pointer (some ⟨tb, 0, none⟩), .agg #[.int .u64 k, .int .i64 d, .int .i64 s, .int .i64 u, .int .i64 a, .int .i64 b]] W fun e w' => e = .returned (.bool false) ∧ TabAt w' tb sb 7 fN ∧ Far (· = sb) W w' :=
  put_is h ⟨k, d, s, u, a, b⟩ hk false (by
    unfold putB
    rw [Bool.and_eq_false_iff, Bool.and_eq_false_iff]
    left
    by_cases h : 0 ≤ u
    · exact .inr (decide_eq_false fun e => hu ⟨h, e⟩)
    · exact .inl (decide_eq_false h))
theorem use1 {W : World} {tb sb : Nat} (k : Nat) (x : Ent) (hx : x.k = k) (h : TabAt W tb sb 7 (putF fN (k % 7) x)) (hk : k < 18446744073709551616) (dp lo hi : Int) (v : Value) (hv : useV (some x) dp lo hi = v) : Calls Try.prog 14 #[.pointer (some ⟨tb, 0, none⟩), .int .u64 k, .int .i64 dp, .int .i64 lo, .int .i64 hi] W (Gives W v) := by
  rw [← hv]
  exact use_of _ k W (some x) (get_is h k hk _ (by unfold getO putF; simp [hx])) dp lo hi
theorem use2 {W : World} {tb sb : Nat} (k : Nat) (h : TabAt W tb sb 7 fN) (hk : k < 18446744073709551616) (dp lo hi : Int) : Calls Try.prog 14 #[.pointer (some ⟨tb, 0, none⟩), .int .u64 k, .int .i64 dp, .int .i64 lo, .int .i64 hi] W (Gives W (.tuple #[.int .i64 0, .bool false])) :=
  use_of _ k W none (get_is h k hk _ rfl) dp lo hi
set_option maxRecDepth 100000 in
set_option maxHeartbeats 4000000 in
theorem walk (k : Nat) (d s u a b dp lo hi : Int) (hk : k < 18446744073709551616) (w : World) : Calls Try.prog 4 #[.agg #[.int .u64 k, .int .i64 d, .int .i64 s, .int .i64 u, .int .i64 a, .int .i64 b, .int .i64 dp, .int .i64 lo, .int .i64 hi]] w (Gives w (.bool true)) := by
  unfold Gives
  obtain ⟨W0, hW0⟩ : ∃ W0, w.alloc (.cells #[.int .u64 k, .int .i64 d, .int .i64 s, .int .i64 u, .int .i64 a, .int .i64 b, .int .i64 dp, .int .i64 lo, .int .i64 hi] 52) = W0 := ⟨_, rfl⟩
  have hB : Below w.heap.size w W0 := by rw [← hW0]; exact below_new _ _
  have bA : Blk W0 w.heap.size 52 #[.int .u64 k, .int .i64 d, .int .i64 s, .int .i64 u, .int .i64 a, .int .i64 b, .int .i64 dp, .int .i64 lo, .int .i64 hi] := by rw [← hW0]; exact Blk.new _ _ _ rfl
  have hne : w.heap.size < W0.heap.size := bA.lt
  have c0 : W0.cell? ⟨w.heap.size, 0, none⟩ = some (.int .u64 k) := bA.cell 0
  have c1 : W0.cell? ⟨w.heap.size, 1, none⟩ = some (.int .i64 d) := bA.cell 1
  have c2 : W0.cell? ⟨w.heap.size, 2, none⟩ = some (.int .i64 s) := bA.cell 2
  have c3 : W0.cell? ⟨w.heap.size, 3, none⟩ = some (.int .i64 u) := bA.cell 3
  have c4 : W0.cell? ⟨w.heap.size, 4, none⟩ = some (.int .i64 a) := bA.cell 4
  have c5 : W0.cell? ⟨w.heap.size, 5, none⟩ = some (.int .i64 b) := bA.cell 5
  have c6 : W0.cell? ⟨w.heap.size, 6, none⟩ = some (.int .i64 dp) := bA.cell 6
  have c7 : W0.cell? ⟨w.heap.size, 7, none⟩ = some (.int .i64 lo) := bA.cell 7
  have c8 : W0.cell? ⟨w.heap.size, 8, none⟩ = some (.int .i64 hi) := bA.cell 8
  have HB := Lib.hid hB
  have HW := Lib.hid hW0
  clear hB hW0 bA
  go_enter Try.func4, Try.ntmps4
  go_wp2_with fail
  (try rw [HW.out])
  have hS0 : W0.drew.cell? ⟨w.heap.size, 0, none⟩ = some (.int .u64 k) ∧ W0.drew.cell? ⟨w.heap.size, 1, none⟩ = some (.int .i64 d) ∧ W0.drew.cell? ⟨w.heap.size, 2, none⟩ = some (.int .i64 s) ∧ W0.drew.cell? ⟨w.heap.size, 3, none⟩ = some (.int .i64 u) ∧ W0.drew.cell? ⟨w.heap.size, 4, none⟩ = some (.int .i64 a) ∧ W0.drew.cell? ⟨w.heap.size, 5, none⟩ = some (.int .i64 b) ∧ W0.drew.cell? ⟨w.heap.size, 6, none⟩ = some (.int .i64 dp) ∧ W0.drew.cell? ⟨w.heap.size, 7, none⟩ = some (.int .i64 lo) ∧ W0.drew.cell? ⟨w.heap.size, 8, none⟩ = some (.int .i64 hi) := ⟨c0, c1, c2, c3, c4, c5, c6, c7, c8⟩
  go_region_held (fun W => W.cell? ⟨w.heap.size, 0, none⟩ = some (.int .u64 k) ∧ W.cell? ⟨w.heap.size, 1, none⟩ = some (.int .i64 d) ∧ W.cell? ⟨w.heap.size, 2, none⟩ = some (.int .i64 s) ∧ W.cell? ⟨w.heap.size, 3, none⟩ = some (.int .i64 u) ∧ W.cell? ⟨w.heap.size, 4, none⟩ = some (.int .i64 a) ∧ W.cell? ⟨w.heap.size, 5, none⟩ = some (.int .i64 b) ∧ W.cell? ⟨w.heap.size, 6, none⟩ = some (.int .i64 dp) ∧ W.cell? ⟨w.heap.size, 7, none⟩ = some (.int .i64 lo) ∧ W.cell? ⟨w.heap.size, 8, none⟩ = some (.int .i64 hi))
    (first | exact hS0 | go_keep)
    (fail)
  all_goals
    clear hS0
    obtain ⟨W1, hW1⟩ : ∃ x, (W0.alloc (.cells #[.int .u64 k, .int .i64 d, .int .i64 s, .int .i64 u, .int .i64 a, .int .i64 b] 36)).drew = x := ⟨_, rfl⟩
    have hB1 : Below w.heap.size w W1 := by rw [← hW1]; exact (HB.out.alloc HB.out.size _).drew
    have bE : Blk W1 W0.heap.size 36 (Ent.mk k d s u a b).cs := by rw [← hW1]; exact (Blk.new W0 36 _ rfl).next (Below.refl _ _).drew
    rw [hW1]
    have HBE := Lib.hid bE
    have HB1 := Lib.hid hB1
    obtain ⟨g, hg⟩ : ∃ g, W0.heap.size = g := ⟨_, rfl⟩
    rw [hg] at HBE
    rw [hg]
    clear hW1 hB1 bE c0 c1 c2 c3 c4 c5 c6 c7 c8 hne HW hg
    go_wp2_with fail
    refine (tnew_is 7 _ (by decide) (by decide)).mono ?_
    rintro e w2 ⟨tb, sb, rfl, h1, h2, h3, h4⟩
    have H2 := Lib.hid (show TabF w w2 tb sb 7 fN from ⟨h1, HB1.out.trans (h4.mono HB1.out.size), Nat.le_trans HB1.out.size h2, Nat.le_trans HB1.out.size h3⟩)
    have HBE2 := Lib.hid (HBE.out.next h4)
    have HSB : Hid (g ≠ sb) := by
      have := HBE.out.lt
      show g ≠ sb
      omega
    obtain ⟨e0, e1, e2, e3, e4, e5⟩ := ent_cells HBE2.out
    simp only at e0 e1 e2 e3 e4 e5
    clear h1 h2 h3 h4
    go_wp2_with fail
    refine (own0 k d s u a b _).mono ?_
    rintro e w3 ⟨rfl, hb⟩
    have H3 := Lib.hid (H2.out.next hb)
    have HBE3 := Lib.hid (HBE2.out.next hb)
    clear hb e0 e1 e2 e3 e4 e5
    by_cases hu : 0 ≤ u ∧ u ≤ 2
    · by_cases hs : dp ≤ d ∧ settlesB ⟨k, d, s, u, a, b⟩ lo hi = true
      · obtain ⟨hd, hs⟩ := hs
        rcases (show u = 0 ∨ u = 1 ∨ u = 2 by omega) with rfl | rfl | rfl
        · have HV : Hid (useV (some ⟨k, d, s, 0, a, b⟩) dp lo hi = .tuple #[.int .i64 s, .bool true]) := if_pos ⟨hd, hs⟩
          clear hs hu
          go_wp2_with fail
          refine (put1 H3.out.t k d s 0 a b hk (by decide)).mono ?_
          rintro e w4 ⟨rfl, h1, h2⟩
          have H4 := Lib.hid (H3.out.to h1 h2)
          have HBE4 := Lib.hid (h2.blk HBE3.out HSB.out)
          clear h1 h2
          obtain ⟨e0, e1, e2, e3, e4, e5⟩ := ent_cells HBE4.out
          simp only at e0 e1 e2 e3 e4 e5
          go_wp2_with fail
          refine (use1 k _ rfl H4.out.t hk dp lo hi _ HV.out).mono ?_
          rintro e w5 ⟨rfl, hb⟩
          have H5 := Lib.hid (H4.out.next hb)
          have HBE5 := Lib.hid (HBE4.out.next hb)
          clear hb e0 e1 e2 e3 e4 e5
          obtain ⟨e0, e1, e2, e3, e4, e5⟩ := ent_cells HBE5.out
          simp only at e0 e1 e2 e3 e4 e5
          go_wp2_with fail
          refine (live20_any _).mono ?_
          rintro e w6 ⟨rfl, hb⟩
          have H6 := Lib.hid (H5.out.next hb)
          clear hb
          go_wp2_with fail
          go_ret
          exact ⟨rfl, H6.out.b⟩
        · have HV : Hid (useV (some ⟨k, d, s, 1, a, b⟩) dp lo hi = .tuple #[.int .i64 s, .bool true]) := if_pos ⟨hd, hs⟩
          have hz : hi ≤ s := of_decide_eq_true hs
          clear hs hu
          go_wp2_with fail
          refine (put1 H3.out.t k d s 1 a b hk (by decide)).mono ?_
          rintro e w4 ⟨rfl, h1, h2⟩
          have H4 := Lib.hid (H3.out.to h1 h2)
          have HBE4 := Lib.hid (h2.blk HBE3.out HSB.out)
          clear h1 h2
          obtain ⟨e0, e1, e2, e3, e4, e5⟩ := ent_cells HBE4.out
          simp only at e0 e1 e2 e3 e4 e5
          go_wp2_with fail
          refine (use1 k _ rfl H4.out.t hk dp lo hi _ HV.out).mono ?_
          rintro e w5 ⟨rfl, hb⟩
          have H5 := Lib.hid (H4.out.next hb)
          have HBE5 := Lib.hid (HBE4.out.next hb)
          clear hb e0 e1 e2 e3 e4 e5
          obtain ⟨e0, e1, e2, e3, e4, e5⟩ := ent_cells HBE5.out
          simp only at e0 e1 e2 e3 e4 e5
          go_wp2_with fail
          refine (live20_any _).mono ?_
          rintro e w6 ⟨rfl, hb⟩
          have H6 := Lib.hid (H5.out.next hb)
          clear hb
          go_wp2_with fail
          go_ret
          exact ⟨rfl, H6.out.b⟩
        · have HV : Hid (useV (some ⟨k, d, s, 2, a, b⟩) dp lo hi = .tuple #[.int .i64 s, .bool true]) := if_pos ⟨hd, hs⟩
          have hz : s ≤ lo := of_decide_eq_true hs
          clear hs hu
          go_wp2_with fail
          refine (put1 H3.out.t k d s 2 a b hk (by decide)).mono ?_
          rintro e w4 ⟨rfl, h1, h2⟩
          have H4 := Lib.hid (H3.out.to h1 h2)
          have HBE4 := Lib.hid (h2.blk HBE3.out HSB.out)
          clear h1 h2
          obtain ⟨e0, e1, e2, e3, e4, e5⟩ := ent_cells HBE4.out
          simp only at e0 e1 e2 e3 e4 e5
          go_wp2_with fail
          refine (use1 k _ rfl H4.out.t hk dp lo hi _ HV.out).mono ?_
          rintro e w5 ⟨rfl, hb⟩
          have H5 := Lib.hid (H4.out.next hb)
          have HBE5 := Lib.hid (HBE4.out.next hb)
          clear hb e0 e1 e2 e3 e4 e5
          obtain ⟨e0, e1, e2, e3, e4, e5⟩ := ent_cells HBE5.out
          simp only at e0 e1 e2 e3 e4 e5
          go_wp2_with fail
          refine (live20_any _).mono ?_
          rintro e w6 ⟨rfl, hb⟩
          have H6 := Lib.hid (H5.out.next hb)
          clear hb
          go_wp2_with fail
          go_ret
          exact ⟨rfl, H6.out.b⟩
      · have HV : Hid (useV (some ⟨k, d, s, u, a, b⟩) dp lo hi = .tuple #[.int .i64 0, .bool false]) := if_neg hs
        have HU := Lib.hid hu
        have g0 : ¬ u < 0 := by omega
        have g2 : ¬ 2 < u := by omega
        clear hs hu
        go_wp2_with fail
        refine (put1 H3.out.t k d s u a b hk HU.out).mono ?_
        rintro e w4 ⟨rfl, h1, h2⟩
        have H4 := Lib.hid (H3.out.to h1 h2)
        have HBE4 := Lib.hid (h2.blk HBE3.out HSB.out)
        clear h1 h2
        obtain ⟨e0, e1, e2, e3, e4, e5⟩ := ent_cells HBE4.out
        simp only at e0 e1 e2 e3 e4 e5
        go_wp2_with fail
        refine (use1 k _ rfl H4.out.t hk dp lo hi _ HV.out).mono ?_
        rintro e w5 ⟨rfl, hb⟩
        have H5 := Lib.hid (H4.out.next hb)
        have HBE5 := Lib.hid (HBE4.out.next hb)
        clear hb e0 e1 e2 e3 e4 e5
        obtain ⟨e0, e1, e2, e3, e4, e5⟩ := ent_cells HBE5.out
        simp only at e0 e1 e2 e3 e4 e5
        go_wp2_with fail
        refine (live20_any _).mono ?_
        rintro e w6 ⟨rfl, hb⟩
        have H6 := Lib.hid (H5.out.next hb)
        clear hb
        go_wp2_with fail
        go_ret
        exact ⟨rfl, H6.out.b⟩
    · have HU := Lib.hid hu
      rcases (show u < 0 ∨ (¬ u < 0 ∧ 2 < u) by omega) with g0 | ⟨g0, g2⟩
      · clear hu
        go_wp2_with fail
        refine (put2 H3.out.t k d s u a b hk HU.out).mono ?_
        rintro e w4 ⟨rfl, h1, h2⟩
        have H4 := Lib.hid (H3.out.to h1 h2)
        have HBE4 := Lib.hid (h2.blk HBE3.out HSB.out)
        clear h1 h2
        obtain ⟨e0, e1, e2, e3, e4, e5⟩ := ent_cells HBE4.out
        simp only at e0 e1 e2 e3 e4 e5
        go_wp2_with fail
        refine (use2 k H4.out.t hk dp lo hi).mono ?_
        rintro e w5 ⟨rfl, hb⟩
        have H5 := Lib.hid (H4.out.next hb)
        have HBE5 := Lib.hid (HBE4.out.next hb)
        clear hb e0 e1 e2 e3 e4 e5
        obtain ⟨e0, e1, e2, e3, e4, e5⟩ := ent_cells HBE5.out
        simp only at e0 e1 e2 e3 e4 e5
        go_wp2_with fail
        refine (live20_any _).mono ?_
        rintro e w6 ⟨rfl, hb⟩
        have H6 := Lib.hid (H5.out.next hb)
        clear hb
        go_wp2_with fail
        go_ret
        exact ⟨rfl, H6.out.b⟩
      · clear hu
        go_wp2_with fail
        refine (put2 H3.out.t k d s u a b hk HU.out).mono ?_
        rintro e w4 ⟨rfl, h1, h2⟩
        have H4 := Lib.hid (H3.out.to h1 h2)
        have HBE4 := Lib.hid (h2.blk HBE3.out HSB.out)
        clear h1 h2
        obtain ⟨e0, e1, e2, e3, e4, e5⟩ := ent_cells HBE4.out
        simp only at e0 e1 e2 e3 e4 e5
        go_wp2_with fail
        refine (use2 k H4.out.t hk dp lo hi).mono ?_
        rintro e w5 ⟨rfl, hb⟩
        have H5 := Lib.hid (H4.out.next hb)
        have HBE5 := Lib.hid (HBE4.out.next hb)
        clear hb e0 e1 e2 e3 e4 e5
        obtain ⟨e0, e1, e2, e3, e4, e5⟩ := ent_cells HBE5.out
        simp only at e0 e1 e2 e3 e4 e5
        go_wp2_with fail
        refine (live20_any _).mono ?_
        rintro e w6 ⟨rfl, hb⟩
        have H6 := Lib.hid (H5.out.next hb)
        clear hb
        go_wp2_with fail
        go_ret
        exact ⟨rfl, H6.out.b⟩
end Go.Proofs.Ytgmbigdkipkibaa.tuse
