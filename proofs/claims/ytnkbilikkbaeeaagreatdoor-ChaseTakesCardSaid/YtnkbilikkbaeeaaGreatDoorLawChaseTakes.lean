/- Each piece that is chased could be taken, is no general, no pawn at home; nothing is chased of no side: the call answers true. -/
import Derived.Test.YtnkbilikkbaeeaaGreatDoorChaseV
import Derived.Test.YtnkbilikkbaeeaaGreatDoorChaseN
namespace Go.Proofs.YtnkbilikkbaeeaaGreatDoor.ctakes
open Go.RowKit Go.Shelf
open M (S)

theorem all_n (s : ByteArray) (side : Int) (l : List Int) (n : Nat) (w : World) (hT : Tab w) (h : Hid (chasedL s side = l ∧ l.length = n)) : Calls Tryz.prog 16 #[.string s, .int .i64 side] w fun e w' => ∃ A c, e = .returned (.slice A n c) ∧ Rd w' A (l.map iv) ∧ Below w.heap.size w w' := (chall_is s side w hT).mono fun e w' ⟨v, he, ho, hb⟩ => by
  obtain ⟨h1, h2⟩ := h.out
  rw [h1] at ho
  obtain ⟨A, c, rfl⟩ := own_slice ho
  rw [h2] at he
  exact ⟨A, c, he, Rd.own ho, hb⟩
theorem takes_c (s : ByteArray) (side : Int) (l : List (Nat × Nat)) (n : Nat) (w : World) (hT : Tab w) (hl : takesG s side = l) (hn : l.length = n) : Calls Tryz.prog 17 #[.string s, .int .i64 side] w (GivesM w l n) := (gtakes_is s side l n w hT hl hn).mono fun _ _ h => h.gives
set_option maxRecDepth 100000 in
set_option maxHeartbeats 8000000 in
theorem large (s : ByteArray) (side : Int) (w : World) (hT : Tab w) (hs : 200 < s.size) : Calls Tryz.prog 3 #[.string s, .int .i64 side] w (Gives w (.bool true)) := by
  unfold Gives
  have hd : decide (200 < (s.size : Int)) = true := by simp; omega
  clear hs
  go_enter Tryz.func3, Tryz.ntmps3
  go_wp2_with fail
  refine (live16_any _ hT).mono ?_
  rintro e w9 ⟨rfl, hb⟩
  go_wp2
  go_ret
  exact ⟨rfl, hb⟩
set_option maxRecDepth 100000 in
set_option maxHeartbeats 8000000 in
theorem outside (s : ByteArray) (side : Int) (w : World) (hT : Tab w) (hs : s.size ≤ 200) (h : side < 0 ∨ 1 < side) : Calls Tryz.prog 3 #[.string s, .int .i64 side] w (Gives w (.bool true)) := by
  unfold Gives
  have hd : decide (200 < (s.size : Int)) = false := by simp; omega
  have HLN : Hid (chasedL s side = [] ∧ ([] : List Int).length = 0) := ⟨chased_none (.inr (by omega)), rfl⟩
  clear hs
  by_cases h0 : side < 0
  · clear h
    go_enter Tryz.func3, Tryz.ntmps3
    go_wp2_with fail
    refine (all_n s side [] 0 _ hT HLN).mono ?_
    rintro e w1 ⟨A, c, rfl, hr, hb1⟩
    replace hT := hT.next hb1
    clear hr
    go_wp2_with fail
    refine (live16_any _ hT).mono ?_
    rintro e w9 ⟨rfl, hb⟩
    go_wp2
    go_ret
    exact ⟨rfl, hb1.trans (hb.mono hb1.size)⟩
  · have h1 : 1 < side := by omega
    clear h
    go_enter Tryz.func3, Tryz.ntmps3
    go_wp2_with fail
    refine (all_n s side [] 0 _ hT HLN).mono ?_
    rintro e w1 ⟨A, c, rfl, hr, hb1⟩
    replace hT := hT.next hb1
    clear hr
    go_wp2_with fail
    refine (live16_any _ hT).mono ?_
    rintro e w9 ⟨rfl, hb⟩
    go_wp2
    go_ret
    exact ⟨rfl, hb1.trans (hb.mono hb1.size)⟩
abbrev TakS (V W : World) (g1 o1 q g2 o2 k : Nat) (a b t : Nat) : Prop := W.cell? ⟨g1, o1 + q * 2, none⟩ = some (.int .i64 (a : Int)) ∧ W.cell? ⟨g1, o1 + q * 2 + 1, none⟩ = some (.int .i64 (b : Int)) ∧ W.cell? ⟨g2, o2 + k, none⟩ = some (.int .i64 (t : Int)) ∧ Tab W ∧ Below V.heap.size V W
theorem tak_keep {V W W' : World} {g1 o1 q g2 o2 k : Nat} {a b t : Nat} (h : W.cell? ⟨g1, o1 + q * 2, none⟩ = some (.int .i64 (a : Int)) ∧ W.cell? ⟨g1, o1 + q * 2 + 1, none⟩ = some (.int .i64 (b : Int)) ∧ W.cell? ⟨g2, o2 + k, none⟩ = some (.int .i64 (t : Int)) ∧ Tab W ∧ Below V.heap.size V W) (hb : Below W.heap.size W W') : TakS V W' g1 o1 q g2 o2 k a b t := by
  obtain ⟨h0, h1, h2, h3, h4⟩ := h
  exact ⟨(hb.cell (p := ⟨g1, o1 + q * 2, none⟩) (cell_lt h0)).trans h0, (hb.cell (p := ⟨g1, o1 + q * 2 + 1, none⟩) (cell_lt h1)).trans h1, (hb.cell (p := ⟨g2, o2 + k, none⟩) (cell_lt h2)).trans h2, h3.next hb, h4.trans (hb.mono h4.size)⟩
set_option maxRecDepth 100000 in
set_option maxHeartbeats 4000000 in
theorem small (s : ByteArray) (side : Int) (w : World) (hT : Tab w) (hs : s.size ≤ 200) (h0 : 0 ≤ side) (h1 : side ≤ 1) (N : List Nat) (n : Nat) (L : List (Nat × Nat)) (m : Nat) (hN : chasedN s side = N) (hn : N.length = n) (hL : takesG s side = L) (hm : L.length = m) : Calls Tryz.prog 3 #[.string s, .int .i64 side] w (Gives w (.bool true)) := by
  unfold Gives
  have hd : decide (200 < (s.size : Int)) = false := by simp; omega
  have g0 : ¬ side < 0 := by omega
  have g1' : ¬ 1 < side := by omega
  have hn90 : n ≤ 90 := by rw [← hn, ← hN]; exact chasedN_len s side
  have hm81 : m ≤ 8100 := by rw [← hm, ← hL]; exact takes_len s side
  have HLN : Hid (chasedL s side = N.map (fun k : Nat => (k : Int)) ∧ (N.map (fun k : Nat => (k : Int))).length = n) := ⟨by rw [chasedL_map, hN], by rw [List.length_map, hn]⟩
  have HL := Lib.hid hL
  have HM := Lib.hid hm
  have HNN := Lib.hid hn
  have HTH : Hid (∀ q (hq : q < L.length), threatI s (L[q].1 : Int) (L[q].2 : Int) = threatB s L[q].1 L[q].2) := fun q hq => by
    have hmem : L[q] ∈ takesG s side := by rw [hL]; exact List.getElem_mem hq
    obtain ⟨hs, h1, h2, _⟩ := takes_mem.1 (show (L[q].1, L[q].2) ∈ takesG s side from hmem)
    exact threatI_nat hs h1 h2
  have HF : Hid (∀ k (hk : k < N.length) (t : Nat), N[k] = t → markB s L m t = true) := fun k hk t e => by
    subst hN hL hm e
    have := (chasedN_at hk).2
    unfold markB
    rw [List.take_length]
    exact this
  have HK : Hid (∀ k (hk : k < N.length) (t : Nat), N[k] = t → isB s = true ∧ t < 90 ∧ sideN (bAt s t) = 1 - side ∧ kindN (bAt s t) ≠ 75 ∧ (kindN (bAt s t) = 80 → overB (t : Int) (1 - side) = true)) := fun k hk t e => by
    subst hN e
    obtain ⟨h1, h2, _, h4, h5, h6⟩ := chased_kind (chasedN_at hk).2
    exact ⟨h1, h2, h4, h5, h6⟩
  have HO : Hid (∀ j (hj : j + 1 < N.length), N[j]'(Nat.lt_of_succ_lt hj) < N[j + 1]) := fun j hj => by
    subst hN
    exact chasedN_next hj
  clear hs hN hn hL hm
  go_enter Tryz.func3, Tryz.ntmps3
  go_wp2_with fail
  refine (all_n s side _ n _ hT HLN).mono ?_
  rintro e w1 ⟨A1, c1, rfl, hr, hb1⟩
  have hT1 := hT.next hb1
  go_wp2_with fail
  refine (takes_c s side L m _ hT1 HL.out HM.out).mono ?_
  rintro e V ⟨A2, c2, rfl, hx, hb2⟩
  replace hr := hr.next hb2
  have hTV := hT1.next hb2
  have hBV := hb1.trans (hb2.mono hb1.size)
  clear hT hT1 hb1 hb2
  go_wp2_with fail
  go_loopw [7, 8, 9, 10] (fun i _ _ _ wr => ∃ k : Nat, k ≤ n ∧ i = .int .i64 k ∧ Tab wr ∧ Below V.heap.size V wr) (fun i _ _ _ _ => n - (intOf i).toNat)
  case atStart => exact ⟨0, Nat.zero_le _, rfl, hTV, Below.refl _ _⟩
  case round =>
    obtain ⟨k, hk, rfl, hTr, hB⟩ := hrel
    by_cases hlt : k < n
    · have hkn : k < N.length := by rw [HNN.out]; exact hlt
      obtain ⟨g2, o2, rfl, e0⟩ := rd_int hr hkn
      obtain ⟨t, ht⟩ : ∃ t, N[k] = t := ⟨_, rfl⟩
      rw [ht] at e0
      have bk : (k : Int) < (n : Int) := by omega
      go_wp2_with fail
      go_loopw [8, 9] (fun f j wr => ∃ q : Nat, q ≤ m ∧ j = .int .i64 q ∧ f = .bool (markB s L q t) ∧ Tab wr ∧ Below V.heap.size V wr) (fun _ j _ => m - (intOf j).toNat)
      case atStart => exact ⟨0, Nat.zero_le _, rfl, by simp [markB], hTr, hB⟩
      case round =>
        obtain ⟨q, hq, rfl, rfl, hTq, hBq⟩ := hrel
        by_cases hql : q < m
        · have hqL : q < L.length := by rw [HM.out]; exact hql
          obtain ⟨g1, o1, rfl, d0, d1⟩ := hx.move hqL
          have hth := HTH.out q hqL
          have hst := markB_succ s L hqL t
          obtain ⟨⟨a, b⟩, hab⟩ : ∃ x, L[q] = x := ⟨_, rfl⟩
          rw [hab] at d0 d1 hth hst
          obtain ⟨u, hu⟩ : ∃ u, threatB s a b = u := ⟨_, rfl⟩
          rw [hu] at hth hst
          obtain ⟨f, hf⟩ : ∃ f, markB s L q t = f := ⟨_, rfl⟩
          rw [hf] at hst ⊢
          obtain ⟨z, hz⟩ : ∃ z, ((b : Int) == (t : Int)) = z := ⟨_, rfl⟩
          have hz2 : (b == t) = z := by rw [← hz, int_eq]
          rw [show ((a, b).2 == t) = z from hz2] at hst
          have HST := Lib.hid hst
          have HTT := Lib.hid hth
          have bq : (q : Int) < (m : Int) := by omega
          have hS : TakS V wr.drew g1 o1 q g2 o2 k a b t := tak_keep ⟨(hBq.cell (p := ⟨g1, o1 + q * 2, none⟩) (cell_lt d0)).trans d0, (hBq.cell (p := ⟨g1, o1 + q * 2 + 1, none⟩) (cell_lt d1)).trans d1, (hBq.cell (p := ⟨g2, o2 + k, none⟩) (cell_lt e0)).trans e0, hTq, hBq⟩ (Below.refl _ _).drew
          clear hst hth hu hf hz2 hab d0 d1 HTH hTr hB
          cases f
          · cases z
            · go_wp2_with fail
              refine wp_region_held_drew (S := fun W => W.cell? ⟨g1, o1 + q * 2, none⟩ = some (.int .i64 (a : Int)) ∧ W.cell? ⟨g1, o1 + q * 2 + 1, none⟩ = some (.int .i64 (b : Int)) ∧ W.cell? ⟨g2, o2 + k, none⟩ = some (.int .i64 (t : Int)) ∧ Tab W ∧ Below V.heap.size V W) (by kernel_rfl) (hS) (fun hHeld => ?_)
              refine wpAnyH_take (i := 0) (oi := { dst := some 45, op := Op.move (Operand.tmp 8), type := 4, pos := "law.go:56", after := #[], guard := none }) (v := ?_) rfl (by kernel_rfl) (by kernel_rfl) (by kernel_rfl) (fun _ _ _ h => h) (Or.inl ⟨by rfl, ?_⟩) (by assumption) ?_
              case refine_2 =>
                intro w hSw
                (try dsimp only at hSw)
                (try go_simp)
                all_goals (with_reducible rfl)
              (try dsimp only [Act.put]); (try simp only [List.setIfInBounds_toArray, List.set_cons_zero, List.set_cons_succ])
              refine wpAnyH_take (i := 1) (oi := { dst := some 46, op := Op.move (Operand.tmp 45), type := 4, pos := "law.go:56", after := #[{ on := 0, ground := Ground.data }], guard := none }) (v := ?_) rfl (by kernel_rfl) (by kernel_rfl) (by kernel_rfl) (fun _ _ _ h => h) (Or.inl ⟨by rfl, ?_⟩) (by assumption) ?_
              case refine_2 =>
                intro w hSw
                (try dsimp only at hSw)
                (try go_simp)
                all_goals (with_reducible rfl)
              (try dsimp only [Act.put]); (try simp only [List.setIfInBounds_toArray, List.set_cons_zero, List.set_cons_succ])
              refine wpAnyH_take (i := 2) (oi := { dst := some 47, op := Op.move (Operand.tmp 6), type := 25, pos := "law.go:56", after := #[{ on := 1, ground := Ground.guard }], guard := some (1, false) }) (v := ?_) rfl (by kernel_rfl) (by kernel_rfl) (by kernel_rfl) (fun _ _ _ h => h) (Or.inl ⟨by rfl, ?_⟩) (by assumption) ?_
              case refine_2 =>
                intro w hSw
                (try dsimp only at hSw)
                (try go_simp)
                all_goals (with_reducible rfl)
              (try dsimp only [Act.put]); (try simp only [List.setIfInBounds_toArray, List.set_cons_zero, List.set_cons_succ])
              refine wpAnyH_take (i := 3) (oi := { dst := some 48, op := Op.move (Operand.tmp 9), type := 3, pos := "law.go:56", after := #[{ on := 1, ground := Ground.guard }], guard := some (1, false) }) (v := ?_) rfl (by kernel_rfl) (by kernel_rfl) (by kernel_rfl) (fun _ _ _ h => h) (Or.inl ⟨by rfl, ?_⟩) (by assumption) ?_
              case refine_2 =>
                intro w hSw
                (try dsimp only at hSw)
                (try go_simp)
                all_goals (with_reducible rfl)
              (try dsimp only [Act.put]); (try simp only [List.setIfInBounds_toArray, List.set_cons_zero, List.set_cons_succ])
              refine wpAnyH_take (i := 4) (oi := { dst := some 49, op := Op.indexAddr 25 (Operand.tmp 47) (Operand.tmp 48), type := 0, pos := "law.go:56", after := #[{ on := 2, ground := Ground.data }, { on := 3, ground := Ground.data }, { on := 1, ground := Ground.guard }], guard := some (1, false) }) (v := ?_) rfl (by kernel_rfl) (by kernel_rfl) (by kernel_rfl) (fun _ _ _ h => h) (Or.inl ⟨by rfl, ?_⟩) (by assumption) ?_
              case refine_2 =>
                intro w hSw
                (try dsimp only at hSw)
                (try go_simp)
                all_goals (with_reducible rfl)
              (try dsimp only [Act.put]); (try simp only [List.setIfInBounds_toArray, List.set_cons_zero, List.set_cons_succ])
              refine wpAnyH_take (i := 5) (oi := { dst := some 50, op := Op.fieldAddr 28 (Operand.tmp 49) 1, type := 0, pos := "law.go:56", after := #[{ on := 4, ground := Ground.data }, { on := 1, ground := Ground.guard }], guard := some (1, false) }) (v := ?_) rfl (by kernel_rfl) (by kernel_rfl) (by kernel_rfl) (fun _ _ _ h => h) (Or.inl ⟨by rfl, ?_⟩) (by assumption) ?_
              case refine_2 =>
                intro w hSw
                (try dsimp only at hSw)
                (try go_simp)
                all_goals (with_reducible rfl)
              (try dsimp only [Act.put]); (try simp only [List.setIfInBounds_toArray, List.set_cons_zero, List.set_cons_succ])
              refine wpAnyH_take (i := 6) (oi := { dst := some 51, op := Op.load 3 (Operand.tmp 50), type := 3, pos := "law.go:56", after := #[{ on := 5, ground := Ground.data }, { on := 1, ground := Ground.guard }], guard := some (1, false) }) (v := ?_) rfl (by kernel_rfl) (by kernel_rfl) (by kernel_rfl) (fun _ _ _ h => h) (Or.inl ⟨by rfl, ?_⟩) (by assumption) ?_
              case refine_2 =>
                intro w hSw
                (try dsimp only at hSw)
                (try go_simp)
                all_goals (with_reducible rfl)
              (try dsimp only [Act.put]); (try simp only [List.setIfInBounds_toArray, List.set_cons_zero, List.set_cons_succ])
              refine wpAnyH_take (i := 7) (oi := { dst := some 52, op := Op.move (Operand.tmp 5), type := 23, pos := "law.go:56", after := #[{ on := 1, ground := Ground.guard }], guard := some (1, false) }) (v := ?_) rfl (by kernel_rfl) (by kernel_rfl) (by kernel_rfl) (fun _ _ _ h => h) (Or.inl ⟨by rfl, ?_⟩) (by assumption) ?_
              case refine_2 =>
                intro w hSw
                (try dsimp only at hSw)
                (try go_simp)
                all_goals (with_reducible rfl)
              (try dsimp only [Act.put]); (try simp only [List.setIfInBounds_toArray, List.set_cons_zero, List.set_cons_succ])
              refine wpAnyH_take (i := 8) (oi := { dst := some 53, op := Op.move (Operand.tmp 7), type := 3, pos := "law.go:56", after := #[{ on := 1, ground := Ground.guard }], guard := some (1, false) }) (v := ?_) rfl (by kernel_rfl) (by kernel_rfl) (by kernel_rfl) (fun _ _ _ h => h) (Or.inl ⟨by rfl, ?_⟩) (by assumption) ?_
              case refine_2 =>
                intro w hSw
                (try dsimp only at hSw)
                (try go_simp)
                all_goals (with_reducible rfl)
              (try dsimp only [Act.put]); (try simp only [List.setIfInBounds_toArray, List.set_cons_zero, List.set_cons_succ])
              refine wpAnyH_take (i := 9) (oi := { dst := some 54, op := Op.indexAddr 23 (Operand.tmp 52) (Operand.tmp 53), type := 0, pos := "law.go:56", after := #[{ on := 7, ground := Ground.data }, { on := 8, ground := Ground.data }, { on := 1, ground := Ground.guard }], guard := some (1, false) }) (v := ?_) rfl (by kernel_rfl) (by kernel_rfl) (by kernel_rfl) (fun _ _ _ h => h) (Or.inl ⟨by rfl, ?_⟩) (by assumption) ?_
              case refine_2 =>
                intro w hSw
                (try dsimp only at hSw)
                (try go_simp)
                all_goals (with_reducible rfl)
              (try dsimp only [Act.put]); (try simp only [List.setIfInBounds_toArray, List.set_cons_zero, List.set_cons_succ])
              refine wpAnyH_take (i := 10) (oi := { dst := some 55, op := Op.load 3 (Operand.tmp 54), type := 3, pos := "law.go:56", after := #[{ on := 9, ground := Ground.data }, { on := 1, ground := Ground.guard }], guard := some (1, false) }) (v := ?_) rfl (by kernel_rfl) (by kernel_rfl) (by kernel_rfl) (fun _ _ _ h => h) (Or.inl ⟨by rfl, ?_⟩) (by assumption) ?_
              case refine_2 =>
                intro w hSw
                (try dsimp only at hSw)
                (try go_simp)
                all_goals (with_reducible rfl)
              (try dsimp only [Act.put]); (try simp only [List.setIfInBounds_toArray, List.set_cons_zero, List.set_cons_succ])
              refine wpAnyH_take (i := 11) (oi := { dst := some 56, op := Op.binOp BinOp.eql 3 (Operand.tmp 51) (Operand.tmp 55) 3, type := 4, pos := "law.go:56", after := #[{ on := 6, ground := Ground.data }, { on := 10, ground := Ground.data }, { on := 1, ground := Ground.guard }], guard := some (1, false) }) (v := ?_) rfl (by kernel_rfl) (by kernel_rfl) (by kernel_rfl) (fun _ _ _ h => h) (Or.inl ⟨by rfl, ?_⟩) (by assumption) ?_
              case refine_2 =>
                intro w hSw
                (try dsimp only at hSw)
                (try go_simp)
                all_goals (with_reducible rfl)
              (try dsimp only [Act.put]); (try simp only [List.setIfInBounds_toArray, List.set_cons_zero, List.set_cons_succ])
              refine wpAnyH_take (i := 12) (oi := { dst := some 57, op := Op.move (Operand.tmp 56), type := 4, pos := "law.go:56", after := #[{ on := 11, ground := Ground.data }, { on := 1, ground := Ground.chain }, { on := 1, ground := Ground.guard }], guard := some (1, false) }) (v := ?_) rfl (by kernel_rfl) (by kernel_rfl) (by kernel_rfl) (fun _ _ _ h => h) (Or.inl ⟨by rfl, ?_⟩) (by assumption) ?_
              case refine_2 =>
                intro w hSw
                (try dsimp only at hSw)
                (try go_simp)
                all_goals (with_reducible rfl)
              (try dsimp only [Act.put]); (try simp only [List.setIfInBounds_toArray, List.set_cons_zero, List.set_cons_succ])
              refine wpAnyH_take (i := 13) (oi := { dst := some 58, op := Op.move (Operand.tmp 0), type := 9, pos := "law.go:56", after := #[{ on := 12, ground := Ground.guard }], guard := some (12, true) }) (v := undef) rfl (by kernel_rfl) (by kernel_rfl) (by kernel_rfl) (fun _ _ _ h => h) (Or.inr ⟨by rfl, rfl⟩) (by assumption) ?_
              (try dsimp only [Act.put]); (try simp only [List.setIfInBounds_toArray, List.set_cons_zero, List.set_cons_succ])
              refine wpAnyH_take (i := 14) (oi := { dst := some 59, op := Op.move (Operand.tmp 6), type := 25, pos := "law.go:56", after := #[{ on := 12, ground := Ground.guard }], guard := some (12, true) }) (v := undef) rfl (by kernel_rfl) (by kernel_rfl) (by kernel_rfl) (fun _ _ _ h => h) (Or.inr ⟨by rfl, rfl⟩) (by assumption) ?_
              (try dsimp only [Act.put]); (try simp only [List.setIfInBounds_toArray, List.set_cons_zero, List.set_cons_succ])
              refine wpAnyH_take (i := 15) (oi := { dst := some 60, op := Op.move (Operand.tmp 9), type := 3, pos := "law.go:56", after := #[{ on := 12, ground := Ground.guard }], guard := some (12, true) }) (v := undef) rfl (by kernel_rfl) (by kernel_rfl) (by kernel_rfl) (fun _ _ _ h => h) (Or.inr ⟨by rfl, rfl⟩) (by assumption) ?_
              (try dsimp only [Act.put]); (try simp only [List.setIfInBounds_toArray, List.set_cons_zero, List.set_cons_succ])
              refine wpAnyH_take (i := 16) (oi := { dst := some 61, op := Op.indexAddr 25 (Operand.tmp 59) (Operand.tmp 60), type := 0, pos := "law.go:56", after := #[{ on := 14, ground := Ground.data }, { on := 15, ground := Ground.data }, { on := 12, ground := Ground.guard }], guard := some (12, true) }) (v := undef) rfl (by kernel_rfl) (by kernel_rfl) (by kernel_rfl) (fun _ _ _ h => h) (Or.inr ⟨by rfl, rfl⟩) (by assumption) ?_
              (try dsimp only [Act.put]); (try simp only [List.setIfInBounds_toArray, List.set_cons_zero, List.set_cons_succ])
              refine wpAnyH_take (i := 17) (oi := { dst := some 62, op := Op.load 28 (Operand.tmp 61), type := 28, pos := "law.go:56", after := #[{ on := 16, ground := Ground.data }, { on := 12, ground := Ground.guard }], guard := some (12, true) }) (v := undef) rfl (by kernel_rfl) (by kernel_rfl) (by kernel_rfl) (fun _ _ _ h => h) (Or.inr ⟨by rfl, rfl⟩) (by assumption) ?_
              (try dsimp only [Act.put]); (try simp only [List.setIfInBounds_toArray, List.set_cons_zero, List.set_cons_succ])
              refine wpAnyH_ready (rs := [18]) (by kernel_rfl) (by simp) (AllReadyH.cons (o := { dst := some 63, op := Op.call { callee := Callee.value (Operand.func 18), args := #[Operand.tmp 58, Operand.tmp 62], argTypes := #[9, 28] }, type := 4, pos := "law.go:56", after := #[{ on := 13, ground := Ground.data }, { on := 17, ground := Ground.data }, { on := 12, ground := Ground.chain }, { on := 12, ground := Ground.guard }], guard := some (12, true) }) rfl (fun K hK => ?_) AllReadyH.nil)
              split
              · rename_i hw
                exact Bool.noConfusion (show false = true from hw)
              refine hK.out _ _ ?_ (fun hHeld => ?_)
              · assumption
              clear hK K
              refine wpAnyH_take (i := 19) (oi := { dst := some 64, op := Op.pick (Operand.tmp 57) (Operand.tmp 63) (Operand.const (Value.bool false)), type := 4, pos := "law.go:56", after := #[{ on := 12, ground := Ground.data }, { on := 18, ground := Ground.data }, { on := 1, ground := Ground.guard }], guard := some (1, false) }) (v := ?_) rfl (by kernel_rfl) (by kernel_rfl) (by kernel_rfl) (fun _ _ _ h => h) (Or.inl ⟨by rfl, ?_⟩) (by assumption) ?_
              case refine_2 =>
                intro w hSw
                (try dsimp only at hSw)
                (try go_simp)
                all_goals (with_reducible rfl)
              (try dsimp only [Act.put]); (try simp only [List.setIfInBounds_toArray, List.set_cons_zero, List.set_cons_succ])
              refine wpAnyH_take (i := 20) (oi := { dst := some 65, op := Op.pick (Operand.tmp 46) (Operand.const (Value.bool true)) (Operand.tmp 64), type := 4, pos := "law.go:56", after := #[{ on := 1, ground := Ground.data }, { on := 19, ground := Ground.data }], guard := none }) (v := ?_) rfl (by kernel_rfl) (by kernel_rfl) (by kernel_rfl) (fun _ _ _ h => h) (Or.inl ⟨by rfl, ?_⟩) (by assumption) ?_
              case refine_2 =>
                intro w hSw
                (try dsimp only at hSw)
                (try go_simp)
                all_goals (with_reducible rfl)
              (try dsimp only [Act.put]); (try simp only [List.setIfInBounds_toArray, List.set_cons_zero, List.set_cons_succ])
              refine wpAnyH_take (i := 21) (oi := { dst := some 8, op := Op.assign (Operand.tmp 65), type := 4, pos := "law.go:56", after := #[{ on := 20, ground := Ground.data }, { on := 18, ground := Ground.chain }, { on := 0, ground := Ground.phase }, { on := 1, ground := Ground.phase }, { on := 2, ground := Ground.phase }, { on := 3, ground := Ground.phase }, { on := 4, ground := Ground.phase }, { on := 5, ground := Ground.phase }, { on := 6, ground := Ground.phase }, { on := 7, ground := Ground.phase }, { on := 8, ground := Ground.phase }, { on := 9, ground := Ground.phase }, { on := 10, ground := Ground.phase }, { on := 11, ground := Ground.phase }, { on := 12, ground := Ground.phase }, { on := 13, ground := Ground.phase }, { on := 14, ground := Ground.phase }, { on := 15, ground := Ground.phase }, { on := 16, ground := Ground.phase }, { on := 17, ground := Ground.phase }, { on := 18, ground := Ground.phase }, { on := 19, ground := Ground.phase }, { on := 20, ground := Ground.phase }], guard := none }) (v := ?_) rfl (by kernel_rfl) (by kernel_rfl) (by kernel_rfl) (fun _ _ _ h => h) (Or.inl ⟨by rfl, ?_⟩) (by assumption) ?_
              case refine_2 =>
                intro w hSw
                (try dsimp only at hSw)
                (try go_simp)
                all_goals (with_reducible rfl)
              (try dsimp only [Act.put]); (try simp only [List.setIfInBounds_toArray, List.set_cons_zero, List.set_cons_succ])
              refine wpAnyH_done (by kernel_rfl) ?_ _
              go_wp2_with fail
              go_roundw
              case rel => exact ⟨q + 1, by omega, by go_num, by rw [HST.out]; rfl, hHeld.2.2.2.1, hHeld.2.2.2.2⟩
              case measure => simp [intOf]; omega
            · go_wp2_with fail
              refine wp_region_held_drew (S := fun W => W.cell? ⟨g1, o1 + q * 2, none⟩ = some (.int .i64 (a : Int)) ∧ W.cell? ⟨g1, o1 + q * 2 + 1, none⟩ = some (.int .i64 (b : Int)) ∧ W.cell? ⟨g2, o2 + k, none⟩ = some (.int .i64 (t : Int)) ∧ Tab W ∧ Below V.heap.size V W) (by kernel_rfl) (hS) (fun hHeld => ?_)
              refine wpAnyH_take (i := 0) (oi := { dst := some 45, op := Op.move (Operand.tmp 8), type := 4, pos := "law.go:56", after := #[], guard := none }) (v := ?_) rfl (by kernel_rfl) (by kernel_rfl) (by kernel_rfl) (fun _ _ _ h => h) (Or.inl ⟨by rfl, ?_⟩) (by assumption) ?_
              case refine_2 =>
                intro w hSw
                (try dsimp only at hSw)
                (try go_simp)
                all_goals (with_reducible rfl)
              (try dsimp only [Act.put]); (try simp only [List.setIfInBounds_toArray, List.set_cons_zero, List.set_cons_succ])
              refine wpAnyH_take (i := 1) (oi := { dst := some 46, op := Op.move (Operand.tmp 45), type := 4, pos := "law.go:56", after := #[{ on := 0, ground := Ground.data }], guard := none }) (v := ?_) rfl (by kernel_rfl) (by kernel_rfl) (by kernel_rfl) (fun _ _ _ h => h) (Or.inl ⟨by rfl, ?_⟩) (by assumption) ?_
              case refine_2 =>
                intro w hSw
                (try dsimp only at hSw)
                (try go_simp)
                all_goals (with_reducible rfl)
              (try dsimp only [Act.put]); (try simp only [List.setIfInBounds_toArray, List.set_cons_zero, List.set_cons_succ])
              refine wpAnyH_take (i := 2) (oi := { dst := some 47, op := Op.move (Operand.tmp 6), type := 25, pos := "law.go:56", after := #[{ on := 1, ground := Ground.guard }], guard := some (1, false) }) (v := ?_) rfl (by kernel_rfl) (by kernel_rfl) (by kernel_rfl) (fun _ _ _ h => h) (Or.inl ⟨by rfl, ?_⟩) (by assumption) ?_
              case refine_2 =>
                intro w hSw
                (try dsimp only at hSw)
                (try go_simp)
                all_goals (with_reducible rfl)
              (try dsimp only [Act.put]); (try simp only [List.setIfInBounds_toArray, List.set_cons_zero, List.set_cons_succ])
              refine wpAnyH_take (i := 3) (oi := { dst := some 48, op := Op.move (Operand.tmp 9), type := 3, pos := "law.go:56", after := #[{ on := 1, ground := Ground.guard }], guard := some (1, false) }) (v := ?_) rfl (by kernel_rfl) (by kernel_rfl) (by kernel_rfl) (fun _ _ _ h => h) (Or.inl ⟨by rfl, ?_⟩) (by assumption) ?_
              case refine_2 =>
                intro w hSw
                (try dsimp only at hSw)
                (try go_simp)
                all_goals (with_reducible rfl)
              (try dsimp only [Act.put]); (try simp only [List.setIfInBounds_toArray, List.set_cons_zero, List.set_cons_succ])
              refine wpAnyH_take (i := 4) (oi := { dst := some 49, op := Op.indexAddr 25 (Operand.tmp 47) (Operand.tmp 48), type := 0, pos := "law.go:56", after := #[{ on := 2, ground := Ground.data }, { on := 3, ground := Ground.data }, { on := 1, ground := Ground.guard }], guard := some (1, false) }) (v := ?_) rfl (by kernel_rfl) (by kernel_rfl) (by kernel_rfl) (fun _ _ _ h => h) (Or.inl ⟨by rfl, ?_⟩) (by assumption) ?_
              case refine_2 =>
                intro w hSw
                (try dsimp only at hSw)
                (try go_simp)
                all_goals (with_reducible rfl)
              (try dsimp only [Act.put]); (try simp only [List.setIfInBounds_toArray, List.set_cons_zero, List.set_cons_succ])
              refine wpAnyH_take (i := 5) (oi := { dst := some 50, op := Op.fieldAddr 28 (Operand.tmp 49) 1, type := 0, pos := "law.go:56", after := #[{ on := 4, ground := Ground.data }, { on := 1, ground := Ground.guard }], guard := some (1, false) }) (v := ?_) rfl (by kernel_rfl) (by kernel_rfl) (by kernel_rfl) (fun _ _ _ h => h) (Or.inl ⟨by rfl, ?_⟩) (by assumption) ?_
              case refine_2 =>
                intro w hSw
                (try dsimp only at hSw)
                (try go_simp)
                all_goals (with_reducible rfl)
              (try dsimp only [Act.put]); (try simp only [List.setIfInBounds_toArray, List.set_cons_zero, List.set_cons_succ])
              refine wpAnyH_take (i := 6) (oi := { dst := some 51, op := Op.load 3 (Operand.tmp 50), type := 3, pos := "law.go:56", after := #[{ on := 5, ground := Ground.data }, { on := 1, ground := Ground.guard }], guard := some (1, false) }) (v := ?_) rfl (by kernel_rfl) (by kernel_rfl) (by kernel_rfl) (fun _ _ _ h => h) (Or.inl ⟨by rfl, ?_⟩) (by assumption) ?_
              case refine_2 =>
                intro w hSw
                (try dsimp only at hSw)
                (try go_simp)
                all_goals (with_reducible rfl)
              (try dsimp only [Act.put]); (try simp only [List.setIfInBounds_toArray, List.set_cons_zero, List.set_cons_succ])
              refine wpAnyH_take (i := 7) (oi := { dst := some 52, op := Op.move (Operand.tmp 5), type := 23, pos := "law.go:56", after := #[{ on := 1, ground := Ground.guard }], guard := some (1, false) }) (v := ?_) rfl (by kernel_rfl) (by kernel_rfl) (by kernel_rfl) (fun _ _ _ h => h) (Or.inl ⟨by rfl, ?_⟩) (by assumption) ?_
              case refine_2 =>
                intro w hSw
                (try dsimp only at hSw)
                (try go_simp)
                all_goals (with_reducible rfl)
              (try dsimp only [Act.put]); (try simp only [List.setIfInBounds_toArray, List.set_cons_zero, List.set_cons_succ])
              refine wpAnyH_take (i := 8) (oi := { dst := some 53, op := Op.move (Operand.tmp 7), type := 3, pos := "law.go:56", after := #[{ on := 1, ground := Ground.guard }], guard := some (1, false) }) (v := ?_) rfl (by kernel_rfl) (by kernel_rfl) (by kernel_rfl) (fun _ _ _ h => h) (Or.inl ⟨by rfl, ?_⟩) (by assumption) ?_
              case refine_2 =>
                intro w hSw
                (try dsimp only at hSw)
                (try go_simp)
                all_goals (with_reducible rfl)
              (try dsimp only [Act.put]); (try simp only [List.setIfInBounds_toArray, List.set_cons_zero, List.set_cons_succ])
              refine wpAnyH_take (i := 9) (oi := { dst := some 54, op := Op.indexAddr 23 (Operand.tmp 52) (Operand.tmp 53), type := 0, pos := "law.go:56", after := #[{ on := 7, ground := Ground.data }, { on := 8, ground := Ground.data }, { on := 1, ground := Ground.guard }], guard := some (1, false) }) (v := ?_) rfl (by kernel_rfl) (by kernel_rfl) (by kernel_rfl) (fun _ _ _ h => h) (Or.inl ⟨by rfl, ?_⟩) (by assumption) ?_
              case refine_2 =>
                intro w hSw
                (try dsimp only at hSw)
                (try go_simp)
                all_goals (with_reducible rfl)
              (try dsimp only [Act.put]); (try simp only [List.setIfInBounds_toArray, List.set_cons_zero, List.set_cons_succ])
              refine wpAnyH_take (i := 10) (oi := { dst := some 55, op := Op.load 3 (Operand.tmp 54), type := 3, pos := "law.go:56", after := #[{ on := 9, ground := Ground.data }, { on := 1, ground := Ground.guard }], guard := some (1, false) }) (v := ?_) rfl (by kernel_rfl) (by kernel_rfl) (by kernel_rfl) (fun _ _ _ h => h) (Or.inl ⟨by rfl, ?_⟩) (by assumption) ?_
              case refine_2 =>
                intro w hSw
                (try dsimp only at hSw)
                (try go_simp)
                all_goals (with_reducible rfl)
              (try dsimp only [Act.put]); (try simp only [List.setIfInBounds_toArray, List.set_cons_zero, List.set_cons_succ])
              refine wpAnyH_take (i := 11) (oi := { dst := some 56, op := Op.binOp BinOp.eql 3 (Operand.tmp 51) (Operand.tmp 55) 3, type := 4, pos := "law.go:56", after := #[{ on := 6, ground := Ground.data }, { on := 10, ground := Ground.data }, { on := 1, ground := Ground.guard }], guard := some (1, false) }) (v := ?_) rfl (by kernel_rfl) (by kernel_rfl) (by kernel_rfl) (fun _ _ _ h => h) (Or.inl ⟨by rfl, ?_⟩) (by assumption) ?_
              case refine_2 =>
                intro w hSw
                (try dsimp only at hSw)
                (try go_simp)
                all_goals (with_reducible rfl)
              (try dsimp only [Act.put]); (try simp only [List.setIfInBounds_toArray, List.set_cons_zero, List.set_cons_succ])
              refine wpAnyH_take (i := 12) (oi := { dst := some 57, op := Op.move (Operand.tmp 56), type := 4, pos := "law.go:56", after := #[{ on := 11, ground := Ground.data }, { on := 1, ground := Ground.chain }, { on := 1, ground := Ground.guard }], guard := some (1, false) }) (v := ?_) rfl (by kernel_rfl) (by kernel_rfl) (by kernel_rfl) (fun _ _ _ h => h) (Or.inl ⟨by rfl, ?_⟩) (by assumption) ?_
              case refine_2 =>
                intro w hSw
                (try dsimp only at hSw)
                (try go_simp)
                all_goals (with_reducible rfl)
              (try dsimp only [Act.put]); (try simp only [List.setIfInBounds_toArray, List.set_cons_zero, List.set_cons_succ])
              refine wpAnyH_take (i := 13) (oi := { dst := some 58, op := Op.move (Operand.tmp 0), type := 9, pos := "law.go:56", after := #[{ on := 12, ground := Ground.guard }], guard := some (12, true) }) (v := ?_) rfl (by kernel_rfl) (by kernel_rfl) (by kernel_rfl) (fun _ _ _ h => h) (Or.inl ⟨by rfl, ?_⟩) (by assumption) ?_
              case refine_2 =>
                intro w hSw
                (try dsimp only at hSw)
                (try go_simp)
                all_goals (with_reducible rfl)
              (try dsimp only [Act.put]); (try simp only [List.setIfInBounds_toArray, List.set_cons_zero, List.set_cons_succ])
              refine wpAnyH_take (i := 14) (oi := { dst := some 59, op := Op.move (Operand.tmp 6), type := 25, pos := "law.go:56", after := #[{ on := 12, ground := Ground.guard }], guard := some (12, true) }) (v := ?_) rfl (by kernel_rfl) (by kernel_rfl) (by kernel_rfl) (fun _ _ _ h => h) (Or.inl ⟨by rfl, ?_⟩) (by assumption) ?_
              case refine_2 =>
                intro w hSw
                (try dsimp only at hSw)
                (try go_simp)
                all_goals (with_reducible rfl)
              (try dsimp only [Act.put]); (try simp only [List.setIfInBounds_toArray, List.set_cons_zero, List.set_cons_succ])
              refine wpAnyH_take (i := 15) (oi := { dst := some 60, op := Op.move (Operand.tmp 9), type := 3, pos := "law.go:56", after := #[{ on := 12, ground := Ground.guard }], guard := some (12, true) }) (v := ?_) rfl (by kernel_rfl) (by kernel_rfl) (by kernel_rfl) (fun _ _ _ h => h) (Or.inl ⟨by rfl, ?_⟩) (by assumption) ?_
              case refine_2 =>
                intro w hSw
                (try dsimp only at hSw)
                (try go_simp)
                all_goals (with_reducible rfl)
              (try dsimp only [Act.put]); (try simp only [List.setIfInBounds_toArray, List.set_cons_zero, List.set_cons_succ])
              refine wpAnyH_take (i := 16) (oi := { dst := some 61, op := Op.indexAddr 25 (Operand.tmp 59) (Operand.tmp 60), type := 0, pos := "law.go:56", after := #[{ on := 14, ground := Ground.data }, { on := 15, ground := Ground.data }, { on := 12, ground := Ground.guard }], guard := some (12, true) }) (v := ?_) rfl (by kernel_rfl) (by kernel_rfl) (by kernel_rfl) (fun _ _ _ h => h) (Or.inl ⟨by rfl, ?_⟩) (by assumption) ?_
              case refine_2 =>
                intro w hSw
                (try dsimp only at hSw)
                (try go_simp)
                all_goals (with_reducible rfl)
              (try dsimp only [Act.put]); (try simp only [List.setIfInBounds_toArray, List.set_cons_zero, List.set_cons_succ])
              refine wpAnyH_take (i := 17) (oi := { dst := some 62, op := Op.load 28 (Operand.tmp 61), type := 28, pos := "law.go:56", after := #[{ on := 16, ground := Ground.data }, { on := 12, ground := Ground.guard }], guard := some (12, true) }) (v := ?_) rfl (by kernel_rfl) (by kernel_rfl) (by kernel_rfl) (fun _ _ _ h => h) (Or.inl ⟨by rfl, ?_⟩) (by assumption) ?_
              case refine_2 =>
                intro w hSw
                (try dsimp only at hSw)
                (try go_simp)
                all_goals (with_reducible rfl)
              (try dsimp only [Act.put]); (try simp only [List.setIfInBounds_toArray, List.set_cons_zero, List.set_cons_succ])
              refine wpAnyH_ready (rs := [18]) (by kernel_rfl) (by simp) (AllReadyH.cons (o := { dst := some 63, op := Op.call { callee := Callee.value (Operand.func 18), args := #[Operand.tmp 58, Operand.tmp 62], argTypes := #[9, 28] }, type := 4, pos := "law.go:56", after := #[{ on := 13, ground := Ground.data }, { on := 17, ground := Ground.data }, { on := 12, ground := Ground.chain }, { on := 12, ground := Ground.guard }], guard := some (12, true) }) rfl (fun K hK => ?_) AllReadyH.nil)
              go_simp
              refine (threat_is s a b u _ hHeld.2.2.2.1 HTT.out).mono ?_; rintro e w5 ⟨rfl, hb⟩
              refine hK.out _ _ ?_ (fun hHeld => ?_)
              · exact tak_keep hHeld hb
              clear hK K
              refine wpAnyH_take (i := 19) (oi := { dst := some 64, op := Op.pick (Operand.tmp 57) (Operand.tmp 63) (Operand.const (Value.bool false)), type := 4, pos := "law.go:56", after := #[{ on := 12, ground := Ground.data }, { on := 18, ground := Ground.data }, { on := 1, ground := Ground.guard }], guard := some (1, false) }) (v := ?_) rfl (by kernel_rfl) (by kernel_rfl) (by kernel_rfl) (fun _ _ _ h => h) (Or.inl ⟨by rfl, ?_⟩) (by assumption) ?_
              case refine_2 =>
                intro w hSw
                (try dsimp only at hSw)
                (try go_simp)
                all_goals (with_reducible rfl)
              (try dsimp only [Act.put]); (try simp only [List.setIfInBounds_toArray, List.set_cons_zero, List.set_cons_succ])
              refine wpAnyH_take (i := 20) (oi := { dst := some 65, op := Op.pick (Operand.tmp 46) (Operand.const (Value.bool true)) (Operand.tmp 64), type := 4, pos := "law.go:56", after := #[{ on := 1, ground := Ground.data }, { on := 19, ground := Ground.data }], guard := none }) (v := ?_) rfl (by kernel_rfl) (by kernel_rfl) (by kernel_rfl) (fun _ _ _ h => h) (Or.inl ⟨by rfl, ?_⟩) (by assumption) ?_
              case refine_2 =>
                intro w hSw
                (try dsimp only at hSw)
                (try go_simp)
                all_goals (with_reducible rfl)
              (try dsimp only [Act.put]); (try simp only [List.setIfInBounds_toArray, List.set_cons_zero, List.set_cons_succ])
              refine wpAnyH_take (i := 21) (oi := { dst := some 8, op := Op.assign (Operand.tmp 65), type := 4, pos := "law.go:56", after := #[{ on := 20, ground := Ground.data }, { on := 18, ground := Ground.chain }, { on := 0, ground := Ground.phase }, { on := 1, ground := Ground.phase }, { on := 2, ground := Ground.phase }, { on := 3, ground := Ground.phase }, { on := 4, ground := Ground.phase }, { on := 5, ground := Ground.phase }, { on := 6, ground := Ground.phase }, { on := 7, ground := Ground.phase }, { on := 8, ground := Ground.phase }, { on := 9, ground := Ground.phase }, { on := 10, ground := Ground.phase }, { on := 11, ground := Ground.phase }, { on := 12, ground := Ground.phase }, { on := 13, ground := Ground.phase }, { on := 14, ground := Ground.phase }, { on := 15, ground := Ground.phase }, { on := 16, ground := Ground.phase }, { on := 17, ground := Ground.phase }, { on := 18, ground := Ground.phase }, { on := 19, ground := Ground.phase }, { on := 20, ground := Ground.phase }], guard := none }) (v := ?_) rfl (by kernel_rfl) (by kernel_rfl) (by kernel_rfl) (fun _ _ _ h => h) (Or.inl ⟨by rfl, ?_⟩) (by assumption) ?_
              case refine_2 =>
                intro w hSw
                (try dsimp only at hSw)
                (try go_simp)
                all_goals (with_reducible rfl)
              (try dsimp only [Act.put]); (try simp only [List.setIfInBounds_toArray, List.set_cons_zero, List.set_cons_succ])
              refine wpAnyH_done (by kernel_rfl) ?_ _
              go_wp2_with fail
              go_roundw
              case rel => exact ⟨q + 1, by omega, by go_num, by rw [HST.out]; cases u <;> rfl, hHeld.2.2.2.1, hHeld.2.2.2.2⟩
              case measure => simp [intOf]; omega
          · go_wp2_with fail
            refine wp_region_held_drew (S := fun W => W.cell? ⟨g1, o1 + q * 2, none⟩ = some (.int .i64 (a : Int)) ∧ W.cell? ⟨g1, o1 + q * 2 + 1, none⟩ = some (.int .i64 (b : Int)) ∧ W.cell? ⟨g2, o2 + k, none⟩ = some (.int .i64 (t : Int)) ∧ Tab W ∧ Below V.heap.size V W) (by kernel_rfl) (hS) (fun hHeld => ?_)
            refine wpAnyH_take (i := 0) (oi := { dst := some 45, op := Op.move (Operand.tmp 8), type := 4, pos := "law.go:56", after := #[], guard := none }) (v := ?_) rfl (by kernel_rfl) (by kernel_rfl) (by kernel_rfl) (fun _ _ _ h => h) (Or.inl ⟨by rfl, ?_⟩) (by assumption) ?_
            case refine_2 =>
              intro w hSw
              (try dsimp only at hSw)
              (try go_simp)
              all_goals (with_reducible rfl)
            (try dsimp only [Act.put]); (try simp only [List.setIfInBounds_toArray, List.set_cons_zero, List.set_cons_succ])
            refine wpAnyH_take (i := 1) (oi := { dst := some 46, op := Op.move (Operand.tmp 45), type := 4, pos := "law.go:56", after := #[{ on := 0, ground := Ground.data }], guard := none }) (v := ?_) rfl (by kernel_rfl) (by kernel_rfl) (by kernel_rfl) (fun _ _ _ h => h) (Or.inl ⟨by rfl, ?_⟩) (by assumption) ?_
            case refine_2 =>
              intro w hSw
              (try dsimp only at hSw)
              (try go_simp)
              all_goals (with_reducible rfl)
            (try dsimp only [Act.put]); (try simp only [List.setIfInBounds_toArray, List.set_cons_zero, List.set_cons_succ])
            refine wpAnyH_take (i := 2) (oi := { dst := some 47, op := Op.move (Operand.tmp 6), type := 25, pos := "law.go:56", after := #[{ on := 1, ground := Ground.guard }], guard := some (1, false) }) (v := undef) rfl (by kernel_rfl) (by kernel_rfl) (by kernel_rfl) (fun _ _ _ h => h) (Or.inr ⟨by rfl, rfl⟩) (by assumption) ?_
            (try dsimp only [Act.put]); (try simp only [List.setIfInBounds_toArray, List.set_cons_zero, List.set_cons_succ])
            refine wpAnyH_take (i := 3) (oi := { dst := some 48, op := Op.move (Operand.tmp 9), type := 3, pos := "law.go:56", after := #[{ on := 1, ground := Ground.guard }], guard := some (1, false) }) (v := undef) rfl (by kernel_rfl) (by kernel_rfl) (by kernel_rfl) (fun _ _ _ h => h) (Or.inr ⟨by rfl, rfl⟩) (by assumption) ?_
            (try dsimp only [Act.put]); (try simp only [List.setIfInBounds_toArray, List.set_cons_zero, List.set_cons_succ])
            refine wpAnyH_take (i := 4) (oi := { dst := some 49, op := Op.indexAddr 25 (Operand.tmp 47) (Operand.tmp 48), type := 0, pos := "law.go:56", after := #[{ on := 2, ground := Ground.data }, { on := 3, ground := Ground.data }, { on := 1, ground := Ground.guard }], guard := some (1, false) }) (v := undef) rfl (by kernel_rfl) (by kernel_rfl) (by kernel_rfl) (fun _ _ _ h => h) (Or.inr ⟨by rfl, rfl⟩) (by assumption) ?_
            (try dsimp only [Act.put]); (try simp only [List.setIfInBounds_toArray, List.set_cons_zero, List.set_cons_succ])
            refine wpAnyH_take (i := 5) (oi := { dst := some 50, op := Op.fieldAddr 28 (Operand.tmp 49) 1, type := 0, pos := "law.go:56", after := #[{ on := 4, ground := Ground.data }, { on := 1, ground := Ground.guard }], guard := some (1, false) }) (v := undef) rfl (by kernel_rfl) (by kernel_rfl) (by kernel_rfl) (fun _ _ _ h => h) (Or.inr ⟨by rfl, rfl⟩) (by assumption) ?_
            (try dsimp only [Act.put]); (try simp only [List.setIfInBounds_toArray, List.set_cons_zero, List.set_cons_succ])
            refine wpAnyH_take (i := 6) (oi := { dst := some 51, op := Op.load 3 (Operand.tmp 50), type := 3, pos := "law.go:56", after := #[{ on := 5, ground := Ground.data }, { on := 1, ground := Ground.guard }], guard := some (1, false) }) (v := undef) rfl (by kernel_rfl) (by kernel_rfl) (by kernel_rfl) (fun _ _ _ h => h) (Or.inr ⟨by rfl, rfl⟩) (by assumption) ?_
            (try dsimp only [Act.put]); (try simp only [List.setIfInBounds_toArray, List.set_cons_zero, List.set_cons_succ])
            refine wpAnyH_take (i := 7) (oi := { dst := some 52, op := Op.move (Operand.tmp 5), type := 23, pos := "law.go:56", after := #[{ on := 1, ground := Ground.guard }], guard := some (1, false) }) (v := undef) rfl (by kernel_rfl) (by kernel_rfl) (by kernel_rfl) (fun _ _ _ h => h) (Or.inr ⟨by rfl, rfl⟩) (by assumption) ?_
            (try dsimp only [Act.put]); (try simp only [List.setIfInBounds_toArray, List.set_cons_zero, List.set_cons_succ])
            refine wpAnyH_take (i := 8) (oi := { dst := some 53, op := Op.move (Operand.tmp 7), type := 3, pos := "law.go:56", after := #[{ on := 1, ground := Ground.guard }], guard := some (1, false) }) (v := undef) rfl (by kernel_rfl) (by kernel_rfl) (by kernel_rfl) (fun _ _ _ h => h) (Or.inr ⟨by rfl, rfl⟩) (by assumption) ?_
            (try dsimp only [Act.put]); (try simp only [List.setIfInBounds_toArray, List.set_cons_zero, List.set_cons_succ])
            refine wpAnyH_take (i := 9) (oi := { dst := some 54, op := Op.indexAddr 23 (Operand.tmp 52) (Operand.tmp 53), type := 0, pos := "law.go:56", after := #[{ on := 7, ground := Ground.data }, { on := 8, ground := Ground.data }, { on := 1, ground := Ground.guard }], guard := some (1, false) }) (v := undef) rfl (by kernel_rfl) (by kernel_rfl) (by kernel_rfl) (fun _ _ _ h => h) (Or.inr ⟨by rfl, rfl⟩) (by assumption) ?_
            (try dsimp only [Act.put]); (try simp only [List.setIfInBounds_toArray, List.set_cons_zero, List.set_cons_succ])
            refine wpAnyH_take (i := 10) (oi := { dst := some 55, op := Op.load 3 (Operand.tmp 54), type := 3, pos := "law.go:56", after := #[{ on := 9, ground := Ground.data }, { on := 1, ground := Ground.guard }], guard := some (1, false) }) (v := undef) rfl (by kernel_rfl) (by kernel_rfl) (by kernel_rfl) (fun _ _ _ h => h) (Or.inr ⟨by rfl, rfl⟩) (by assumption) ?_
            (try dsimp only [Act.put]); (try simp only [List.setIfInBounds_toArray, List.set_cons_zero, List.set_cons_succ])
            refine wpAnyH_take (i := 11) (oi := { dst := some 56, op := Op.binOp BinOp.eql 3 (Operand.tmp 51) (Operand.tmp 55) 3, type := 4, pos := "law.go:56", after := #[{ on := 6, ground := Ground.data }, { on := 10, ground := Ground.data }, { on := 1, ground := Ground.guard }], guard := some (1, false) }) (v := undef) rfl (by kernel_rfl) (by kernel_rfl) (by kernel_rfl) (fun _ _ _ h => h) (Or.inr ⟨by rfl, rfl⟩) (by assumption) ?_
            (try dsimp only [Act.put]); (try simp only [List.setIfInBounds_toArray, List.set_cons_zero, List.set_cons_succ])
            refine wpAnyH_take (i := 12) (oi := { dst := some 57, op := Op.move (Operand.tmp 56), type := 4, pos := "law.go:56", after := #[{ on := 11, ground := Ground.data }, { on := 1, ground := Ground.chain }, { on := 1, ground := Ground.guard }], guard := some (1, false) }) (v := undef) rfl (by kernel_rfl) (by kernel_rfl) (by kernel_rfl) (fun _ _ _ h => h) (Or.inr ⟨by rfl, rfl⟩) (by assumption) ?_
            (try dsimp only [Act.put]); (try simp only [List.setIfInBounds_toArray, List.set_cons_zero, List.set_cons_succ])
            refine wpAnyH_take (i := 13) (oi := { dst := some 58, op := Op.move (Operand.tmp 0), type := 9, pos := "law.go:56", after := #[{ on := 12, ground := Ground.guard }], guard := some (12, true) }) (v := undef) rfl (by kernel_rfl) (by kernel_rfl) (by kernel_rfl) (fun _ _ _ h => h) (Or.inr ⟨by rfl, rfl⟩) (by assumption) ?_
            (try dsimp only [Act.put]); (try simp only [List.setIfInBounds_toArray, List.set_cons_zero, List.set_cons_succ])
            refine wpAnyH_take (i := 14) (oi := { dst := some 59, op := Op.move (Operand.tmp 6), type := 25, pos := "law.go:56", after := #[{ on := 12, ground := Ground.guard }], guard := some (12, true) }) (v := undef) rfl (by kernel_rfl) (by kernel_rfl) (by kernel_rfl) (fun _ _ _ h => h) (Or.inr ⟨by rfl, rfl⟩) (by assumption) ?_
            (try dsimp only [Act.put]); (try simp only [List.setIfInBounds_toArray, List.set_cons_zero, List.set_cons_succ])
            refine wpAnyH_take (i := 15) (oi := { dst := some 60, op := Op.move (Operand.tmp 9), type := 3, pos := "law.go:56", after := #[{ on := 12, ground := Ground.guard }], guard := some (12, true) }) (v := undef) rfl (by kernel_rfl) (by kernel_rfl) (by kernel_rfl) (fun _ _ _ h => h) (Or.inr ⟨by rfl, rfl⟩) (by assumption) ?_
            (try dsimp only [Act.put]); (try simp only [List.setIfInBounds_toArray, List.set_cons_zero, List.set_cons_succ])
            refine wpAnyH_take (i := 16) (oi := { dst := some 61, op := Op.indexAddr 25 (Operand.tmp 59) (Operand.tmp 60), type := 0, pos := "law.go:56", after := #[{ on := 14, ground := Ground.data }, { on := 15, ground := Ground.data }, { on := 12, ground := Ground.guard }], guard := some (12, true) }) (v := undef) rfl (by kernel_rfl) (by kernel_rfl) (by kernel_rfl) (fun _ _ _ h => h) (Or.inr ⟨by rfl, rfl⟩) (by assumption) ?_
            (try dsimp only [Act.put]); (try simp only [List.setIfInBounds_toArray, List.set_cons_zero, List.set_cons_succ])
            refine wpAnyH_take (i := 17) (oi := { dst := some 62, op := Op.load 28 (Operand.tmp 61), type := 28, pos := "law.go:56", after := #[{ on := 16, ground := Ground.data }, { on := 12, ground := Ground.guard }], guard := some (12, true) }) (v := undef) rfl (by kernel_rfl) (by kernel_rfl) (by kernel_rfl) (fun _ _ _ h => h) (Or.inr ⟨by rfl, rfl⟩) (by assumption) ?_
            (try dsimp only [Act.put]); (try simp only [List.setIfInBounds_toArray, List.set_cons_zero, List.set_cons_succ])
            refine wpAnyH_ready (rs := [18]) (by kernel_rfl) (by simp) (AllReadyH.cons (o := { dst := some 63, op := Op.call { callee := Callee.value (Operand.func 18), args := #[Operand.tmp 58, Operand.tmp 62], argTypes := #[9, 28] }, type := 4, pos := "law.go:56", after := #[{ on := 13, ground := Ground.data }, { on := 17, ground := Ground.data }, { on := 12, ground := Ground.chain }, { on := 12, ground := Ground.guard }], guard := some (12, true) }) rfl (fun K hK => ?_) AllReadyH.nil)
            split
            · rename_i hw
              exact Bool.noConfusion (show false = true from hw)
            refine hK.out _ _ ?_ (fun hHeld => ?_)
            · assumption
            clear hK K
            refine wpAnyH_take (i := 19) (oi := { dst := some 64, op := Op.pick (Operand.tmp 57) (Operand.tmp 63) (Operand.const (Value.bool false)), type := 4, pos := "law.go:56", after := #[{ on := 12, ground := Ground.data }, { on := 18, ground := Ground.data }, { on := 1, ground := Ground.guard }], guard := some (1, false) }) (v := undef) rfl (by kernel_rfl) (by kernel_rfl) (by kernel_rfl) (fun _ _ _ h => h) (Or.inr ⟨by rfl, rfl⟩) (by assumption) ?_
            (try dsimp only [Act.put]); (try simp only [List.setIfInBounds_toArray, List.set_cons_zero, List.set_cons_succ])
            refine wpAnyH_take (i := 20) (oi := { dst := some 65, op := Op.pick (Operand.tmp 46) (Operand.const (Value.bool true)) (Operand.tmp 64), type := 4, pos := "law.go:56", after := #[{ on := 1, ground := Ground.data }, { on := 19, ground := Ground.data }], guard := none }) (v := ?_) rfl (by kernel_rfl) (by kernel_rfl) (by kernel_rfl) (fun _ _ _ h => h) (Or.inl ⟨by rfl, ?_⟩) (by assumption) ?_
            case refine_2 =>
              intro w hSw
              (try dsimp only at hSw)
              (try go_simp)
              all_goals (with_reducible rfl)
            (try dsimp only [Act.put]); (try simp only [List.setIfInBounds_toArray, List.set_cons_zero, List.set_cons_succ])
            refine wpAnyH_take (i := 21) (oi := { dst := some 8, op := Op.assign (Operand.tmp 65), type := 4, pos := "law.go:56", after := #[{ on := 20, ground := Ground.data }, { on := 18, ground := Ground.chain }, { on := 0, ground := Ground.phase }, { on := 1, ground := Ground.phase }, { on := 2, ground := Ground.phase }, { on := 3, ground := Ground.phase }, { on := 4, ground := Ground.phase }, { on := 5, ground := Ground.phase }, { on := 6, ground := Ground.phase }, { on := 7, ground := Ground.phase }, { on := 8, ground := Ground.phase }, { on := 9, ground := Ground.phase }, { on := 10, ground := Ground.phase }, { on := 11, ground := Ground.phase }, { on := 12, ground := Ground.phase }, { on := 13, ground := Ground.phase }, { on := 14, ground := Ground.phase }, { on := 15, ground := Ground.phase }, { on := 16, ground := Ground.phase }, { on := 17, ground := Ground.phase }, { on := 18, ground := Ground.phase }, { on := 19, ground := Ground.phase }, { on := 20, ground := Ground.phase }], guard := none }) (v := ?_) rfl (by kernel_rfl) (by kernel_rfl) (by kernel_rfl) (fun _ _ _ h => h) (Or.inl ⟨by rfl, ?_⟩) (by assumption) ?_
            case refine_2 =>
              intro w hSw
              (try dsimp only at hSw)
              (try go_simp)
              all_goals (with_reducible rfl)
            (try dsimp only [Act.put]); (try simp only [List.setIfInBounds_toArray, List.set_cons_zero, List.set_cons_succ])
            refine wpAnyH_done (by kernel_rfl) ?_ _
            go_wp2_with fail
            go_roundw
            case rel => exact ⟨q + 1, by omega, by go_num, by rw [HST.out]; rfl, hHeld.2.2.2.1, hHeld.2.2.2.2⟩
            case measure => simp [intOf]; omega
        · obtain rfl : q = m := by omega
          have hfin : markB s L q t = true := HF.out k hkn t ht
          obtain ⟨hsb, ht90, hto, hkk, hov⟩ := HK.out k hkn t ht
          obtain ⟨c, hc⟩ : ∃ c, bAt s t = c := ⟨_, rfl⟩
          obtain ⟨kd, hkd⟩ : ∃ kd, kindN c = kd := ⟨_, rfl⟩
          obtain ⟨o, ho⟩ : ∃ o, 1 - side = o := ⟨_, rfl⟩
          rw [hc, hkd] at hkk hov
          rw [hc, ho] at hto
          rw [ho] at hov
          have HAT : Hid (atB s (t : Int) = c) := by
            show _ = _
            rw [← hc]
            unfold atB
            rw [if_pos ⟨hsb, sqI_true (by omega)⟩, Int.toNat_natCast]
          have HC := Lib.hid hto
          have HKD := Lib.hid hkd
          have n1 : (o != o) = false := by simp
          have n2 : (o != 1 - side) = false := by rw [ho]; simp
          have k75 : ((kd : Int) == 75) = false := by rw [beq_eq_false_iff_ne]; omega
          have e5 := (hBq.cell (p := ⟨g2, o2 + k, none⟩) (cell_lt e0)).trans e0
          rw [hfin]
          clear hfin hc hkd hto hsb
          go_wp2_with fail
          refine (at_h s t c _ HAT).mono ?_
          rintro e w5 ⟨rfl, rfl⟩
          go_wp2_with fail
          have HS1 := Lib.hid fun W => (side_is c o W HC.out).mono fun e w' (h : Says W _ e w') => (⟨h.1, h.2.symm⟩ : e = .returned (.int .i64 o) ∧ w' = W)
          have HS2 := Lib.hid fun W => (kind_is c kd W HKD.out).mono fun e w' (h : Says W _ e w') => (⟨h.1, h.2.symm⟩ : e = .returned (.int .u8 (kd : Int)) ∧ w' = W)
          have ho0 : 0 ≤ o := by omega
          have ho1 : o ≤ 1 := by omega
          rcases Nat.eq_zero_or_pos k with hk0 | hk0
          · have k0 : decide (0 < k) = false := by simp; omega
            clear hk0
            by_cases h80 : kd = 80
            · have k80 : ((kd : Int) == 80) = true := by rw [h80]; rfl
              have HV := Lib.hid fun W => (rover_is (t : Int) o true W (hov h80)).mono fun e w' (h : Says W _ e w') => (⟨h.1, h.2.symm⟩ : e = .returned (.bool true) ∧ w' = W)
              clear h80 hov hkk HAT
              go_quiet (first | (go_at_call 20; exact Calls.quiet_of_same (HS1.out _)) | (go_at_call 21; exact Calls.quiet_of_same (HS2.out _)) | (go_at_call 22; exact Calls.quiet_of_same (HV.out _)))
              go_wp2_with fail
              go_roundw
              case rel => exact ⟨k + 1, by omega, by go_num, hTq.next (below_drewN (Below.refl _ _) _), below_drewN hBq _⟩
              case measure => simp [intOf]; omega
            · have k80 : ((kd : Int) == 80) = false := by rw [beq_eq_false_iff_ne]; omega
              clear h80 hov hkk HAT
              go_quiet (first | (go_at_call 20; exact Calls.quiet_of_same (HS1.out _)) | (go_at_call 21; exact Calls.quiet_of_same (HS2.out _)))
              go_wp2_with fail
              go_roundw
              case rel => exact ⟨k + 1, by omega, by go_num, hTq.next (below_drewN (Below.refl _ _) _), below_drewN hBq _⟩
              case measure => simp [intOf]; omega
          · obtain ⟨j, rfl⟩ : ∃ j, k = j + 1 := ⟨k - 1, by omega⟩
            have hjl : j < N.length := by rw [HNN.out]; omega
            have hprev := HO.out j hkn
            rw [ht] at hprev
            obtain ⟨_, _, eA, f0⟩ := rd_int hr hjl
            injection eA with eA
            injection eA with eA1 eA2
            subst eA1 eA2
            obtain ⟨t2, ht2⟩ : ∃ t2, N[j] = t2 := ⟨_, rfl⟩
            rw [ht2] at f0 hprev
            have e6 := (hBq.cell (p := ⟨g2, o2 + j, none⟩) (cell_lt f0)).trans f0
            have k0 : decide (0 < j + 1) = true := by simp
            have k1 : (0 : Int) < (j : Int) + 1 := by omega
            have kj : ((j + 1 : Nat) : Int) - 1 = (j : Int) := by omega
            have b2 : (j : Int) < (n : Int) := by omega
            have w1' : IntKind.i64.wrap (j : Int) = (j : Int) := by
              rw [IntKind.wrap_i64]
              omega
            have w2' : IntKind.i64.wrap ((j : Int) + 1 - 1) = (j : Int) := by go_num
            have w3' : IntKind.i64.wrap (((j + 1 : Nat) : Int) - 1) = (j : Int) := by go_num
            have p3 : decide (t ≤ t2) = false := by simp; omega
            have p4 : ¬ (t : Int) ≤ (t2 : Int) := by omega
            clear hk0 hprev ht2
            by_cases h80 : kd = 80
            · have k80 : ((kd : Int) == 80) = true := by rw [h80]; rfl
              have HV := Lib.hid fun W => (rover_is (t : Int) o true W (hov h80)).mono fun e w' (h : Says W _ e w') => (⟨h.1, h.2.symm⟩ : e = .returned (.bool true) ∧ w' = W)
              clear h80 hov hkk HAT
              go_quiet (first | (go_at_call 20; exact Calls.quiet_of_same (HS1.out _)) | (go_at_call 21; exact Calls.quiet_of_same (HS2.out _)) | (go_at_call 22; exact Calls.quiet_of_same (HV.out _)))
              go_wp2_with fail
              go_roundw
              case rel => exact ⟨j + 1 + 1, by omega, by go_num, hTq.next (below_drewN (Below.refl _ _) _), below_drewN hBq _⟩
              case measure => simp [intOf]; omega
            · have k80 : ((kd : Int) == 80) = false := by rw [beq_eq_false_iff_ne]; omega
              clear h80 hov hkk HAT
              go_quiet (first | (go_at_call 20; exact Calls.quiet_of_same (HS1.out _)) | (go_at_call 21; exact Calls.quiet_of_same (HS2.out _)))
              go_wp2_with fail
              go_roundw
              case rel => exact ⟨j + 1 + 1, by omega, by go_num, hTq.next (below_drewN (Below.refl _ _) _), below_drewN hBq _⟩
              case measure => simp [intOf]; omega
    · obtain rfl : k = n := by omega
      have bk : ¬ (k : Int) < (k : Int) := by omega
      clear hlt hk
      go_wp2_with fail
      refine (live16_any _ hTr).mono ?_
      rintro e w9 ⟨rfl, hb⟩
      go_wp2
      go_ret
      exact ⟨rfl, hBV.trans ((hB.trans (hb.mono hB.size)).mono hBV.size)⟩
theorem walk (s : ByteArray) (side : Int) (w : World) (hT : Tab w) : Calls Tryz.prog 3 #[.string s, .int .i64 side] w (Gives w (.bool true)) := by
  by_cases hs : s.size ≤ 200
  · by_cases h : side < 0 ∨ 1 < side
    · exact outside s side w hT hs h
    · exact small s side w hT hs (by omega) (by omega) _ _ _ _ rfl rfl rfl rfl
  · exact large s side w hT (by omega)
end Go.Proofs.YtnkbilikkbaeeaaGreatDoor.ctakes
