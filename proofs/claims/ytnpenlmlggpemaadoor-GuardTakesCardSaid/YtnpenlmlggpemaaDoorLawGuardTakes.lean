/- What a side could take it could, and stands on; nothing of its own, no general; in order: the call answers true. -/
import Derived.Test.YtnpenlmlggpemaaDoorGuardV
namespace Go.Proofs.YtnpenlmlggpemaaDoor.gtakes
open Go.RowKit Go.Shelf
open M (S)

theorem takes_ord {s : ByteArray} {side : Int} {L : List (Nat × Nat)} (hL : takesG s side = L) : ∀ k (hk : k + 1 < L.length), AheadM L[k] L[k + 1] := by
  subst hL
  exact fun k hk => takes_next hk
theorem rkind_l (c k : Nat) (w : World) (h : kindN c = k) : Calls Tryd.prog 14 #[.int .u8 (c : Int)] w (Says w (.int .u8 (k : Int))) := by subst h; exact rkind_any c w
theorem rside_l (c : Nat) (k : Int) (w : World) (h : sideN c = k) : Calls Tryd.prog 13 #[.int .u8 (c : Int)] w (Says w (.int .i64 k)) := by subst h; exact rside_any c w
set_option maxRecDepth 100000 in
set_option maxHeartbeats 8000000 in
theorem large (s : ByteArray) (side : Int) (w : World) (hT : Tab w) (hs : 200 < s.size) : Calls Tryd.prog 4 #[.string s, .int .i64 side] w (Gives w (.bool true)) := by
  unfold Gives
  have hd : decide (200 < (s.size : Int)) = true := by simp; omega
  clear hs
  go_enter Tryd.func4, Tryd.ntmps4
  go_wp2_with fail
  refine (live15_any _ hT).mono ?_
  rintro e w9 ⟨rfl, hb⟩
  go_wp2
  go_ret
  exact ⟨rfl, hb⟩
set_option maxRecDepth 100000 in
set_option maxHeartbeats 8000000 in
theorem small (s : ByteArray) (side : Int) (w : World) (hT : Tab w) (hs : s.size ≤ 200) : Calls Tryd.prog 4 #[.string s, .int .i64 side] w (Gives w (.bool true)) := by
  unfold Gives
  have hd : decide (200 < (s.size : Int)) = false := by simp; omega
  clear hs
  obtain ⟨L, hL⟩ : ∃ L, takesG s side = L := ⟨_, rfl⟩
  obtain ⟨n, hn⟩ : ∃ n, L.length = n := ⟨_, rfl⟩
  have hn81 : n ≤ 8100 := by rw [← hn, ← hL]; exact takes_len s side
  have HIN : Hid (∀ k (hk : k < L.length), isB s = true ∧ L[k].1 < 90 ∧ L[k].2 < 90 ∧ couldB s side L[k].1 L[k].2 = true ∧ bAt s L[k].2 ≠ 46) := fun k hk => by
    have hm : (L[k].1, L[k].2) ∈ takesG s side := by rw [hL]; exact List.getElem_mem hk
    exact takes_mem.1 hm
  have HORD := Lib.hid (takes_ord hL)
  have HL := Lib.hid hL
  have HN := Lib.hid hn
  clear hL hn
  go_enter Tryd.func4, Tryd.ntmps4
  go_wp2_with fail
  refine (gtakes_is s side L n _ hT HL.out HN.out).mono ?_
  rintro e w1 ⟨v0, rfl, ho, hb1⟩
  obtain ⟨A, c0, rfl⟩ := owns_slice ho
  have hr := Rd.owns ho
  have hn0 : ∀ {m}, w1.ownsRow w.heap.size 29 2 (.slice A m c0) n (mvs L) → True := fun _ => trivial
  have hT1 := hT.next hb1
  clear ho hn0
  go_wp2_with fail
  go_loopw [6] (fun i wr => ∃ k : Nat, k ≤ n ∧ i = .int .i64 k ∧ Below w1.heap.size w1 wr) (fun i _ => n - (intOf i).toNat)
  case atStart => exact ⟨0, Nat.zero_le _, rfl, Below.refl _ _⟩
  case round =>
    obtain ⟨k, hk, rfl, hB⟩ := hrel
    by_cases hlt : k < n
    · have hkl : k < L.length := by rw [HN.out]; exact hlt
      obtain ⟨g1, o1, rfl, d0, d1⟩ := hr.move hkl
      obtain ⟨hsb, hu, hv, hc, h46⟩ := HIN.out k hkl
      have HPREV : Hid (∀ j (hj : j + 1 = k) (hjl : j < L.length), L[j].1 < L[k].1 ∨ (L[j].1 = L[k].1 ∧ L[j].2 < L[k].2)) := fun j hj hjl => by
        subst hj
        exact HORD.out j hkl
      obtain ⟨⟨u, v⟩, huv⟩ : ∃ x, L[k] = x := ⟨_, rfl⟩
      rw [huv] at d0 d1 hu hv hc h46 HPREV
      have hto := could_to hsb hv hc h46
      have hsd := could_sides hc
      have hz := isB_size hsb
      obtain ⟨x, hx⟩ : ∃ x, bAt s u = x := ⟨_, rfl⟩
      obtain ⟨y, hy⟩ : ∃ y, bAt s v = y := ⟨_, rfl⟩
      have hus : u < s.size := by rw [hz]; exact hu
      have hvs : v < s.size := by rw [hz]; exact hv
      have hxb : s[u].toNat = x := (bAt_eq s u hus).trans hx
      have hyb : s[v].toNat = y := (bAt_eq s v hvs).trans hy
      have HX : Hid (sideN x = side) := by show _ = _; rw [← hx]; exact (could_parts.1 hc).1
      obtain ⟨o, hoo⟩ : ∃ o, 1 - side = o := ⟨_, rfl⟩
      have HY : Hid (sideN y = o) := by show _ = _; rw [← hy, ← hoo]; exact hto
      obtain ⟨kd, hkd⟩ : ∃ kd, kindN y = kd := ⟨_, rfl⟩
      have HKD := Lib.hid hkd
      have k75 : ((kd : Int) == 75) = false := by
        have h75 : kd ≠ 75 := by
          rw [← hkd, ← hy]
          exact (could_parts.1 hc).2.2.1
        rw [beq_eq_false_iff_ne]
        omega
      have n1 : (side != side) = false := by simp
      have n2 : (o != o) = false := by simp
      have n90 : ((s.size : Int) != 90) = false := by rw [hz]; rfl
      have HC : Hid (couldI s side (u : Int) (v : Int) = true) := by
        show _ = _
        rw [couldI_nat hsb hu hv]
        exact hc
      have HO := Lib.hid hoo
      have e0 := (hB.cell (p := ⟨g1, o1 + k * 2, none⟩) (cell_lt d0)).trans d0
      have e1 := (hB.cell (p := ⟨g1, o1 + k * 2 + 1, none⟩) (cell_lt d1)).trans d1
      have hbA := (Below.refl wr.heap.size wr).alloc (Nat.le_refl _) (.cells #[.int .i64 (u : Int), .int .i64 (v : Int)] 29)
      have hTA : Tab (wr.alloc (.cells #[.int .i64 (u : Int), .int .i64 (v : Int)] 29)) := (hT1.next hB).next hbA
      have bM : Blk (wr.alloc (.cells #[.int .i64 (u : Int), .int .i64 (v : Int)] 29)) wr.heap.size 29 #[.int .i64 (u : Int), .int .i64 (v : Int)] := Blk.new _ _ _ rfl
      have b1 : (k : Int) < (n : Int) := by omega
      have s0 : 0 ≤ side := by omega
      have s1 : side ≤ 1 := by omega
      have u9 : ¬ 89 < (u : Int) := by omega
      have v9 : ¬ 89 < (v : Int) := by omega
      have u0 : ¬ (u : Int) < 0 := by omega
      have v0 : ¬ (v : Int) < 0 := by omega
      clear hsb hc h46 hto hsd hz hx hy huv hoo hkd d0 d1 HIN HORD
      have n2' : (o != 1 - side) = false := by rw [HO.out]; simp
      rcases Nat.eq_zero_or_pos k with hk0 | hk0
      · have k0 : decide (0 < k) = false := by simp; omega
        clear hk0 HPREV
        go_wp2_with fail
        refine (gcan_is s side u v true _ hTA HC.out).mono ?_
        rintro e w2 ⟨rfl, hb⟩
        have q0 : w2.cell? ⟨wr.heap.size, 0, none⟩ = some (.int .i64 (u : Int)) := (bM.next hb).cell 0
        have q1 : w2.cell? ⟨wr.heap.size, 1, none⟩ = some (.int .i64 (v : Int)) := (bM.next hb).cell 1
        have hB2 := hB.trans ((hbA.trans (hb.mono hbA.size)).mono hB.size)
        go_wp2_with fail
        refine (rside_l x side _ HX.out).mono ?_
        rintro e w3 ⟨rfl, rfl⟩
        go_wp2_with fail
        refine (rside_l y o _ HY.out).mono ?_
        rintro e w3 ⟨rfl, rfl⟩
        go_wp2_with fail
        refine (rkind_l y kd _ HKD.out).mono ?_
        rintro e w3 ⟨rfl, rfl⟩
        go_wp2_with fail
        go_quiet (fail)
        go_wp2_with fail
        go_roundw
        case rel => exact ⟨k + 1, by omega, by go_num, by first | exact hB2 | exact below_drewN hB2 _⟩
        case measure => simp [intOf]; omega
      · obtain ⟨j, rfl⟩ : ∃ j, k = j + 1 := ⟨k - 1, by omega⟩
        have hjl : j < L.length := by rw [HN.out]; omega
        have hprev := HPREV.out j rfl hjl
        obtain ⟨g2, o2, eA, f0, f1⟩ := hr.move hjl
        injection eA with eA
        injection eA with eA1 eA2
        subst eA1 eA2
        obtain ⟨⟨u2, v2⟩, huv2⟩ : ∃ x, L[j] = x := ⟨_, rfl⟩
        rw [huv2] at f0 f1 hprev
        have k0 : decide (0 < j + 1) = true := by simp
        have k1 : (0 : Int) < (j : Int) + 1 := by omega
        have kj : ((j + 1 : Nat) : Int) - 1 = (j : Int) := by omega
        have b2 : (j : Int) < (n : Int) := by omega
        have w1 : IntKind.i64.wrap (j : Int) = (j : Int) := by
          rw [IntKind.wrap_i64]
          omega
        have w2 : IntKind.i64.wrap ((j : Int) + 1 - 1) = (j : Int) := by go_num
        have w3 : IntKind.i64.wrap (((j + 1 : Nat) : Int) - 1) = (j : Int) := by go_num
        clear hk0 HPREV huv2
        have hprev : u2 < u ∨ (u2 = u ∧ v2 < v) := hprev
        rcases hprev with hp | ⟨hp, hp2⟩
        · have p1 : decide (u < u2) = false := by simp; omega
          have p2 : ((u2 : Int) == (u : Int)) = false := by rw [beq_eq_false_iff_ne]; omega
          clear hp
          go_wp2_with fail
          refine (gcan_is s side u v true _ hTA HC.out).mono ?_
          rintro e w2 ⟨rfl, hb⟩
          have q0 : w2.cell? ⟨wr.heap.size, 0, none⟩ = some (.int .i64 (u : Int)) := (bM.next hb).cell 0
          have q1 : w2.cell? ⟨wr.heap.size, 1, none⟩ = some (.int .i64 (v : Int)) := (bM.next hb).cell 1
          have hB2 := hB.trans ((hbA.trans (hb.mono hbA.size)).mono hB.size)
          have r0 := (hB2.cell (p := ⟨g1, o1 + j * 2, none⟩) (cell_lt f0)).trans f0
          have r1 := (hB2.cell (p := ⟨g1, o1 + j * 2 + 1, none⟩) (cell_lt f1)).trans f1
          go_wp2_with fail
          refine (rside_l x side _ HX.out).mono ?_
          rintro e w3 ⟨rfl, rfl⟩
          go_wp2_with fail
          refine (rside_l y o _ HY.out).mono ?_
          rintro e w3 ⟨rfl, rfl⟩
          go_wp2_with fail
          refine (rkind_l y kd _ HKD.out).mono ?_
          rintro e w3 ⟨rfl, rfl⟩
          go_wp2_with fail
          go_quiet (fail)
          go_wp2_with fail
          go_roundw
          case rel => exact ⟨j + 1 + 1, by omega, by go_num, by first | exact hB2 | exact below_drewN hB2 _⟩
          case measure => simp [intOf]; omega
        · subst hp
          have p1 : decide (u2 < u2) = false := by simp
          have p4 : ¬ (v : Int) ≤ (v2 : Int) := by omega
          have p2 : ((u2 : Int) == (u2 : Int)) = true := by simp
          have p3 : decide (v ≤ v2) = false := by simp; omega
          clear hp2
          go_wp2_with fail
          refine (gcan_is s side u2 v true _ hTA HC.out).mono ?_
          rintro e w2 ⟨rfl, hb⟩
          have q0 : w2.cell? ⟨wr.heap.size, 0, none⟩ = some (.int .i64 (u2 : Int)) := (bM.next hb).cell 0
          have q1 : w2.cell? ⟨wr.heap.size, 1, none⟩ = some (.int .i64 (v : Int)) := (bM.next hb).cell 1
          have hB2 := hB.trans ((hbA.trans (hb.mono hbA.size)).mono hB.size)
          have r0 := (hB2.cell (p := ⟨g1, o1 + j * 2, none⟩) (cell_lt f0)).trans f0
          have r1 := (hB2.cell (p := ⟨g1, o1 + j * 2 + 1, none⟩) (cell_lt f1)).trans f1
          go_wp2_with fail
          refine (rside_l x side _ HX.out).mono ?_
          rintro e w3 ⟨rfl, rfl⟩
          go_wp2_with fail
          refine (rside_l y o _ HY.out).mono ?_
          rintro e w3 ⟨rfl, rfl⟩
          go_wp2_with fail
          refine (rkind_l y kd _ HKD.out).mono ?_
          rintro e w3 ⟨rfl, rfl⟩
          go_wp2_with fail
          go_quiet (fail)
          go_wp2_with fail
          go_roundw
          case rel => exact ⟨j + 1 + 1, by omega, by go_num, by first | exact hB2 | exact below_drewN hB2 _⟩
          case measure => simp [intOf]; omega
    · obtain rfl : k = n := by omega
      have hB2 := hb1.trans (hB.mono hb1.size)
      go_wp2_with fail
      refine (live15_any _ (hT1.next hB)).mono ?_
      rintro e w9 ⟨rfl, hb⟩
      go_wp2
      go_ret
      exact ⟨rfl, hB2.trans (hb.mono hB2.size)⟩
theorem walk (s : ByteArray) (side : Int) (w : World) (hT : Tab w) : Calls Tryd.prog 4 #[.string s, .int .i64 side] w (Gives w (.bool true)) := by
  by_cases hs : s.size ≤ 200
  · exact small s side w hT hs
  · exact large s side w hT (by omega)
end Go.Proofs.YtnpenlmlggpemaaDoor.gtakes
