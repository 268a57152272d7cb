/- perft.Count and Splits. -/
import Derived.Test.YtelngcfpnbeakaaGreatDoorPerftI
namespace Go.Proofs.YtelngcfpnbeakaaGreatDoor
open Go.RowKit Go.Shelf
open Go.Maps
open M (S)

theorem Rd.three {w : World} {A : Option Addr} {l : List Value} (h : Rd w A l) {k : Nat} {x y z : Value} (h0 : l[k * 3]? = some x) (h1 : l[k * 3 + 1]? = some y) (h2 : l[k * 3 + 2]? = some z) : ∃ g b, A = some ⟨g, b, none⟩ ∧ w.cell? ⟨g, b + k * 3, none⟩ = some x ∧ w.cell? ⟨g, b + k * 3 + 1, none⟩ = some y ∧ w.cell? ⟨g, b + k * 3 + 2, none⟩ = some z := by
  obtain ⟨⟨g, b, sp⟩, rfl, hc0⟩ := h _ _ h0
  obtain ⟨a1, e1, hc1⟩ := h _ _ h1
  cases e1
  obtain ⟨a2, e2, hc2⟩ := h _ _ h2
  cases e2
  have hl : 0 < l.length := by
    have := (List.getElem?_eq_some_iff.1 h0).1
    omega
  obtain ⟨a3, e3, hc3⟩ := h 0 l[0] (by simp [hl])
  cases e3
  have hsp : sp = none := by simpa [Addr.add] using World.cell?_spot hc3
  subst hsp
  have hadd : ∀ j, (Addr.add ⟨g, b, none⟩ j) = ⟨g, b + j, none⟩ := fun j => by
    simp only [Addr.add]
    split <;> simp_all
  rw [hadd] at hc0 hc1 hc2
  exact ⟨g, b, rfl, hc0, hc1, hc2⟩
theorem splL_at {N : Nat} {s : ByteArray} {y : Int} {l : List (Nat × Nat)} {k : Nat} (h : k < l.length) {o : Nat} (ho : o < 3) : (splL N s y l)[k * 3 + o]? = ([.int .i64 (l[k].1 : Int), .int .i64 (l[k].2 : Int), .int .i64 (linesN N (behindS s l[k]) (1 - y) : Nat)] : List Value)[o]? := by
  unfold splL
  exact flat_at (k := 3) (enc := fun m : Nat × Nat => [Value.int .i64 (m.1 : Int), .int .i64 (m.2 : Int), .int .i64 (linesN N (behindS s m) (1 - y) : Nat)]) (fun _ => rfl) l h ho
set_option maxRecDepth 100000 in
set_option maxHeartbeats 8000000 in
theorem count_any (s : ByteArray) (y z u depth : Int) (w : World) (hT : Tab w) (hd : depth ≤ 3 ∨ 64 < depth) : Calls Tryz.prog 7 #[.agg #[.string s, .int .i64 y, .int .i64 z, .int .i64 u], .int .i64 depth] w (Gives w (countV s y z u depth)) := by
  unfold Gives countV
  obtain ⟨k, hk⟩ : ∃ k, beginN (wellN s y z u) depth 0 = k := ⟨_, rfl⟩
  rw [hk]
  have hbB := below_one w (.cells #[.string s, .int .i64 y, .int .i64 z, .int .i64 u] 23)
  by_cases h0 : k = 0
  · subst h0
    obtain ⟨hw, h1, h2⟩ := begin_zero hk
    rw [if_pos rfl]
    have HB := Lib.hid (begun_is s y z u depth 0 (w.alloc (.cells #[.string s, .int .i64 y, .int .i64 z, .int .i64 u] 23)) (hT.next hbB) hw h1 h2)
    by_cases hd0 : depth = 0
    · subst hd0
      clear hk hd
      go_enter Tryz.func7, Tryz.ntmps7
      go_wp2_with fail
      refine HB.out.mono ?_
      rintro e w1 ⟨g, rfl, hg, hbk, hb⟩
      go_wp2
      go_ret2
      exact ⟨rfl, below_past hb⟩
    · obtain ⟨N, hN⟩ : ∃ N : Nat, depth = N + 1 := ⟨(depth - 1).toNat, by omega⟩
      obtain ⟨L, hL⟩ : ∃ L, legalV s y z u = L := ⟨_, rfl⟩
      obtain ⟨m, hm⟩ : ∃ m, L.length = m := ⟨_, rfl⟩
      have hLN : legalN s y = L := by
        rw [← hL, legal_same, if_pos hw]
      obtain ⟨P, hP⟩ : ∃ P, L.map (fun m => linesN N (behindS s m) (1 - y)) = P := ⟨_, rfl⟩
      have hPm : P.length = m := by rw [← hP, List.length_map, hm]
      have hall : linesN (N + 1) s y = addL P := by
        show addL ((legalN s y).map fun m => linesN N (behindS s m) (1 - y)) = _
        rw [hLN, hP]
      have hmost : addL P ≤ 4304672100000000 := by rw [← hall]; exact lines_most (by omega) s y
      have HPK : Hid (∀ k (hk : k < P.length) (hl : k < L.length), P[k] = linesN N (behindS s L[k]) (1 - y)) := fun k hk hl => by
        subst hP
        exact List.getElem_map _
      have hdn : depth.toNat = N + 1 := by omega
      have hlen : m ≤ 8100 := by rw [← hm, ← hLN]; exact legalN_le s y
      rw [hdn, hall]
      have e0 : (depth == 0) = false := by rw [beq_eq_false_iff_ne]; exact hd0
      have hN3 : N ≤ 2 := by omega
      have htw := hT.lt
      have HSP := Lib.hid (fun g w2 => splits_is g ⟨s, y, z, u⟩ N depth w2 hN (by omega))
      have HW := Lib.hid hw
      have HL := Lib.hid hL
      have HM := Lib.hid hm
      have HPM := Lib.hid hPm
      have HMO := Lib.hid hmost
      clear hk hd hN hL hm hLN hP hPm hall hmost hdn hd0 hw h1 h2
      go_enter Tryz.func7, Tryz.ntmps7
      go_wp2_with fail
      refine HB.out.mono ?_
      rintro e w1 ⟨g, rfl, hg, hbk, hb⟩
      have hg0 : w.heap.size < g := by
        rw [World.size_alloc] at hg
        omega
      have hb1 : Below w.heap.size w w1 := below_past hb
      clear hg hb
      go_wp2_with fail
      refine (HSP.out g w1 (by omega) (hT.next hb1) hbk HW.out L m HL.out HM.out).mono ?_
      rintro e w2 ⟨v, rfl, hown, hb2⟩
      obtain ⟨A, cp, rfl⟩ := owns_slice hown
      have hr := Rd.owns hown
      have hB2 : Below w.heap.size w w2 := hb1.trans (hb2.mono (by omega))
      clear hown
      go_wp2_with fail
      go_loopw [8, 26] (fun v i wr => ∃ k x : Nat, k ≤ m ∧ v = .int .i64 x ∧ i = .int .i64 k ∧ x = addL (P.take k) ∧ Below w2.heap.size w2 wr) (fun _ i _ => m - (intOf i).toNat)
      case atStart => exact ⟨0, 0, by omega, rfl, rfl, rfl, Below.refl _ _⟩
      case round =>
        obtain ⟨k, x, hk, rfl, rfl, hx, hB⟩ := hrel
        have HX := Lib.hid hx
        clear hx
        by_cases hlt : k < m
        · have hkl : k < L.length := by rw [HM.out]; exact hlt
          have hkp : k < P.length := by rw [HPM.out]; exact hlt
          have hst := addL_succ hkp
          have hy0 := HPK.out k hkp hkl
          obtain ⟨g1, o1, rfl, c0, c1, c2⟩ := hr.three (k := k) (splL_at hkl (o := 0) (by omega)) (splL_at hkl (o := 1) (by omega)) (splL_at hkl (o := 2) (by omega))
          obtain ⟨⟨i1, i2⟩, huv⟩ : ∃ x, L[k] = x := ⟨_, rfl⟩
          rw [huv] at c0 c1 c2 hy0
          obtain ⟨r, hr0⟩ : ∃ r, P[k] = r := ⟨_, rfl⟩
          rw [hr0] at hst hy0
          rw [← hy0] at c2
          have hsum : x + r ≤ 4304672100000000 := by
            rw [HX.out, ← hst]
            exact Nat.le_trans (addL_take P (k + 1)) HMO.out
          have HST := Lib.hid hst
          have d0 := (hB.cell (p := ⟨g1, o1 + k * 3, none⟩) (cell_lt c0)).trans c0
          have d1 := (hB.cell (p := ⟨g1, o1 + k * 3 + 1, none⟩) (cell_lt c1)).trans c1
          have d2 := (hB.cell (p := ⟨g1, o1 + k * 3 + 2, none⟩) (cell_lt c2)).trans c2
          have hBA := hB.trans (((Below.refl _ wr).alloc (Nat.le_refl _) (.cells #[.int .i64 (i1 : Int), .int .i64 (i2 : Int), .int .i64 (r : Int)] 39)).mono hB.size)
          have b1 : (k : Int) < (m : Int) := by omega
          clear hst huv hr0 hy0 c0 c1 c2
          go_wp2
          go_roundw
          case rel => exact ⟨k + 1, x + r, by omega, by go_num, by go_num, by rw [HST.out, HX.out], hBA⟩
          case measure => simp [intOf]; omega
        · obtain rfl : k = m := by omega
          have hxe : x = addL P := by rw [HX.out, List.take_of_length_le (by rw [HPM.out]; omega)]
          have hB9 := hB2.trans (hB.mono hB2.size)
          go_wp2
          go_ret2
          exact ⟨by rw [hxe]; rfl, hB9⟩
  · have e0 : (k != 0) = true := by rw [bne_iff_ne]; exact h0
    rw [if_neg h0]
    have HB := Lib.hid (begun_no s y z u depth 0 k (w.alloc (.cells #[.string s, .int .i64 y, .int .i64 z, .int .i64 u] 23)) (hT.next hbB) hk h0)
    clear hk hd
    go_enter Tryz.func7, Tryz.ntmps7
    go_wp2_with fail
    refine HB.out.mono ?_
    rintro e w1 ⟨rfl, hb⟩
    go_wp2
    go_ret2
    exact ⟨rfl, below_past hb⟩
end Go.Proofs.YtelngcfpnbeakaaGreatDoor
