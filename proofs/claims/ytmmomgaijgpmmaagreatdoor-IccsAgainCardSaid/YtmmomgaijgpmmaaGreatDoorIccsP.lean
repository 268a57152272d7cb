/- The document's own Parse of a move's text. -/
import Derived.Test.YtmmomgaijgpmmaaGreatDoorIccsG
namespace Go.Proofs.YtmmomgaijgpmmaaGreatDoor
open Go.RowKit Go.Shelf
open M (S)

theorem rsquare_of (x : ByteArray) (w : World) (h : x.size = 2) : Calls Tryz.prog 18 #[.string x] w (Gives w (.int .i64 (sqOf x))) := rsquare_is x _ _ w h rfl rfl
set_option maxRecDepth 100000 in
set_option maxHeartbeats 4000000 in
theorem rparse_any (s : ByteArray) (w : World) : Calls Tryz.prog 10 #[.string s] w (Gives w (parseM s)) := by
  unfold Gives
  obtain ⟨W0, hW0⟩ : ∃ W0, w.alloc (.cells #[.int .i64 0, .int .i64 0] 23) = W0 := ⟨_, rfl⟩
  have hB : Below w.heap.size w W0 := by rw [← hW0]; exact (by repeat (first | exact Below.refl _ _ | (refine Below.setCell ?_ (by first | omega | (simp; done) | (simp; omega) | (simp at *; omega)) _) | (refine Below.alloc ?_ (by first | omega | (simp; done) | (simp; omega) | (simp at *; omega)) _) | refine Below.drew ?_ | (refine below_drewN ?_ _) | (refine Below.trans ?_ (Below.mono (by assumption) (by first | omega | (simp; done) | (simp; omega) | (simp at *; omega))))))
  have bM : Blk W0 w.heap.size 23 #[.int .i64 0, .int .i64 0] := by rw [← hW0]; exact Blk.new _ _ _ rfl
  have HW := Lib.hid hW0
  clear hW0
  by_cases hform : s.size ≠ 4 ∧ ¬ (s.size = 5 ∧ bAt s 2 = 45)
  · have hv : parseM s = .tuple #[.agg #[.int .i64 0, .int .i64 0], .int .i64 6] := by
      have : readT s = none := by unfold readT; rw [if_neg hform.2, if_neg hform.1]
      unfold parseM
      rw [this]
    have HV2 := Lib.hid hv
    have n4 : ¬ (s.size : Int) = 4 := by omega
    obtain ⟨r0, r1⟩ : W0.cell? ⟨w.heap.size, 0, none⟩ = some (.int .i64 0) ∧ W0.cell? ⟨w.heap.size, 1, none⟩ = some (.int .i64 0) := ⟨bM.cell 0, bM.cell 1⟩
    obtain ⟨f0, f1⟩ : W0.frozen? ⟨w.heap.size, 0, none⟩ = false ∧ W0.frozen? ⟨w.heap.size, 1, none⟩ = false := ⟨bM.frozen 0, bM.frozen 1⟩
    by_cases h5 : s.size = 5
    · have i2 : (s[2]'(by omega)).toNat = bAt s 2 := bAt_eq s 2 (by omega)
      obtain ⟨x, hx⟩ : ∃ x, bAt s 2 = x := ⟨_, rfl⟩
      have nx : ¬ (x : Int) = 45 := by have := hform.2; rw [hx] at this; omega
      rw [hx] at i2
      have e5 : (s.size : Int) = 5 := by omega
      have l2 : (2 : Int) < s.size := by omega
      clear hform hx hv
      go_enter Tryz.func10, Tryz.ntmps10
      go_wp2_with fail
      rw [HW.out]
      go_wp2_with fail
      first | exact bodyPost_ret (res_mv rfl _ _ rfl bM) rfl ⟨by rw [HV2.out]; rfl, hB⟩ | exact bodyPost_ret (res_mv rfl _ _ rfl ((bM.set_ 0 (.int .i64 0)).set_ 1 (.int .i64 0))) rfl ⟨by rw [HV2.out]; rfl, (hB.setCell (p := ⟨w.heap.size, 0, none⟩) (Nat.le_refl _) _).setCell (p := ⟨w.heap.size, 1, none⟩) (Nat.le_refl _) _⟩
    · have n5 : ¬ (s.size : Int) = 5 := by omega
      clear hform hv h5
      go_enter Tryz.func10, Tryz.ntmps10
      go_wp2_with fail
      rw [HW.out]
      go_wp2_with fail
      first | exact bodyPost_ret (res_mv rfl _ _ rfl bM) rfl ⟨by rw [HV2.out]; rfl, hB⟩ | exact bodyPost_ret (res_mv rfl _ _ rfl ((bM.set_ 0 (.int .i64 0)).set_ 1 (.int .i64 0))) rfl ⟨by rw [HV2.out]; rfl, (hB.setCell (p := ⟨w.heap.size, 0, none⟩) (Nat.le_refl _) _).setCell (p := ⟨w.heap.size, 1, none⟩) (Nat.le_refl _) _⟩
  · obtain ⟨T, c0, c1, c2, c3, ht, hT4, k0, k1, k2, k3, hrd⟩ : ∃ T c0 c1 c2 c3, (s.size = 4 ∧ T = s ∨ s.size = 5 ∧ bAt s 2 = 45 ∧ T = s.extract 0 2 ++ s.extract 3 5) ∧ T.size = 4 ∧ bAt T 0 = c0 ∧ bAt T 1 = c1 ∧ bAt T 2 = c2 ∧ bAt T 3 = c3 ∧ readT s = twoT c0 c1 c2 c3 := by
      by_cases h4 : s.size = 4
      · exact ⟨s, _, _, _, _, .inl ⟨h4, rfl⟩, h4, rfl, rfl, rfl, rfl, by unfold readT; rw [if_neg (by omega), if_pos h4]⟩
      · have h5 : s.size = 5 ∧ bAt s 2 = 45 := by
          by_cases h5 : s.size = 5 ∧ bAt s 2 = 45
          · exact h5
          · exact absurd ⟨h4, h5⟩ hform
        have z0 : (s.extract 0 2).size = 2 := by rw [ByteArray.size_extract]; omega
        have z1 : (s.extract 3 5).size = 2 := by rw [ByteArray.size_extract]; omega
        refine ⟨_, bAt s 0, bAt s 1, bAt s 3, bAt s 4, .inr ⟨h5.1, h5.2, rfl⟩, by rw [ByteArray.size_append]; omega, ?_, ?_, ?_, ?_, by unfold readT; rw [if_pos h5]⟩
        · rw [bAt_left _ _ 0 (by omega), bAt_ext _ _ _ _ (by omega) (by omega)]
        · rw [bAt_left _ _ 1 (by omega), bAt_ext _ _ _ _ (by omega) (by omega)]
        · have := bAt_right (s.extract 0 2) (s.extract 3 5) 0 (by omega)
          rw [z0, bAt_ext _ _ _ _ (by omega) (by omega)] at this
          exact this
        · have := bAt_right (s.extract 0 2) (s.extract 3 5) 1 (by omega)
          rw [z0, bAt_ext _ _ _ _ (by omega) (by omega)] at this
          exact this
    have z0 : (T.extract 0 2).size = 2 := by rw [ByteArray.size_extract]; omega
    have z1 : (T.extract 2 4).size = 2 := by rw [ByteArray.size_extract]; omega
    have qa : sqOf (T.extract 0 2) = sqT c0 c1 := by unfold sqOf; rw [bAt_ext _ _ _ _ (by omega) (by omega), bAt_ext _ _ _ _ (by omega) (by omega)]; show sqT (bAt T 0) (bAt T 1) = _; rw [k0, k1]
    have qb : sqOf (T.extract 2 4) = sqT c2 c3 := by unfold sqOf; rw [bAt_ext _ _ _ _ (by omega) (by omega), bAt_ext _ _ _ _ (by omega) (by omega)]; show sqT (bAt T 2) (bAt T 3) = _; rw [k2, k3]
    have e4 : (T.size : Int) = 4 := by omega
    have hadd : s.size = 5 → T = s.extract 0 2 ++ s.extract 3 5 → ∀ W, (Op.stringOp .add (s.extract 0 2) (s.extract 3 5)).run Tryz.prog W = .ok (.string T) W := fun h5 h6 W => by
      rw [h6]
      exact run_string_add_sum _ _ _ (by rw [ByteArray.size_extract, ByteArray.size_extract]; omega)
    have hv : parseM s = if 0 ≤ sqT c0 c1 ∧ 0 ≤ sqT c2 c3 then .tuple #[.agg #[.int .i64 (sqT c0 c1), .int .i64 (sqT c2 c3)], .int .i64 0] else .tuple #[.agg #[.int .i64 0, .int .i64 0], .int .i64 6] := by
      unfold parseM
      rw [hrd]
      unfold twoT
      by_cases hc : 0 ≤ sqT c0 c1 ∧ 0 ≤ sqT c2 c3
      · rw [if_pos hc, if_pos hc]
      · rw [if_neg hc, if_neg hc]
    rw [← qa, ← qb] at hv
    obtain ⟨X0, hX0⟩ : ∃ x, T.extract 0 2 = x := ⟨_, rfl⟩
    obtain ⟨X1, hX1⟩ : ∃ x, T.extract 2 4 = x := ⟨_, rfl⟩
    rw [hX0] at z0 hv
    rw [hX1] at z1 hv
    obtain ⟨a, ha⟩ : ∃ a, sqOf X0 = a := ⟨_, rfl⟩
    obtain ⟨b, hb⟩ : ∃ b, sqOf X1 = b := ⟨_, rfl⟩
    rw [ha, hb] at hv
    have HV := Lib.hid hv
    clear k0 k1 k2 k3 hrd hv qa qb hform
    rcases ht with ⟨h4, rfl⟩ | ⟨h5, hx, h6⟩
    · have n5 : ¬ (T.size : Int) = 5 := by omega
      clear hadd
      go_enter Tryz.func10, Tryz.ntmps10
      go_wp2_with fail
      rw [HW.out]
      go_wp2_with fail
      have bV := bM
      have hBV := hB
      refine (rsquare_of _ _ z0).mono ?_
      rintro e w1 ⟨rfl, hb1⟩
      rw [ha]
      have b1 := bV.next hb1
      have hB1 := hBV.trans (hb1.mono hBV.size)
      by_cases hA : a < 0
      · have hv := HV.out
        rw [if_neg (by omega)] at hv
        have HV2 := Lib.hid hv
        obtain ⟨r0, r1⟩ : w1.cell? ⟨w.heap.size, 0, none⟩ = some (.int .i64 0) ∧ w1.cell? ⟨w.heap.size, 1, none⟩ = some (.int .i64 0) := ⟨b1.cell 0, b1.cell 1⟩
        obtain ⟨f0, f1⟩ : w1.frozen? ⟨w.heap.size, 0, none⟩ = false ∧ w1.frozen? ⟨w.heap.size, 1, none⟩ = false := ⟨b1.frozen 0, b1.frozen 1⟩
        clear hv ha hb
        go_wp2_with fail
        exact bodyPost_ret (res_mv rfl _ _ rfl ((b1.set_ 0 (.int .i64 0)).set_ 1 (.int .i64 0))) rfl ⟨by rw [HV2.out]; rfl, (hB1.setCell (p := ⟨w.heap.size, 0, none⟩) (Nat.le_refl _) _).setCell (p := ⟨w.heap.size, 1, none⟩) (Nat.le_refl _) _⟩
      · have hA2 : ¬ a < 0 := hA
        go_wp2_with fail
        refine (rsquare_of _ _ z1).mono ?_
        rintro e w2 ⟨rfl, hb2⟩
        rw [hb]
        have b2 := b1.next hb2
        have hB2 := hB1.trans (hb2.mono hB1.size)
        by_cases hN : b < 0
        · have hv := HV.out
          rw [if_neg (by omega)] at hv
          have HV2 := Lib.hid hv
          obtain ⟨r0, r1⟩ : w2.cell? ⟨w.heap.size, 0, none⟩ = some (.int .i64 0) ∧ w2.cell? ⟨w.heap.size, 1, none⟩ = some (.int .i64 0) := ⟨b2.cell 0, b2.cell 1⟩
          obtain ⟨f0, f1⟩ : w2.frozen? ⟨w.heap.size, 0, none⟩ = false ∧ w2.frozen? ⟨w.heap.size, 1, none⟩ = false := ⟨b2.frozen 0, b2.frozen 1⟩
          clear hv ha hb
          go_wp2_with fail
          exact bodyPost_ret (res_mv rfl _ _ rfl ((b2.set_ 0 (.int .i64 0)).set_ 1 (.int .i64 0))) rfl ⟨by rw [HV2.out]; rfl, (hB2.setCell (p := ⟨w.heap.size, 0, none⟩) (Nat.le_refl _) _).setCell (p := ⟨w.heap.size, 1, none⟩) (Nat.le_refl _) _⟩
        · have hv := HV.out
          rw [if_pos (by omega)] at hv
          have HV2 := Lib.hid hv
          have HAB := Lib.hid (And.intro ha hb)
          have hS : Below w2.heap.size w2 w2.drew := (Below.refl _ _).drew
          clear hv ha hb hb1 hb2 b1 hB1
          go_wp2_with fail
          refine wp_region_held_drew (S := fun X => Below w.heap.size w X) (by kernel_rfl) ((hB2.trans (hS.mono hB2.size))) (fun hHeld => ?_)
          refine wpAnyH_take (i := 0) (oi := { dst := some 33, op := Op.move (Operand.tmp 0), type := 9, pos := "ref.go:47", after := #[], guard := none }) (v := ?_) rfl (by kernel_rfl) (by kernel_rfl) (by kernel_rfl) (fun _ _ _ h => h) (Or.inl ⟨by rfl, ?_⟩) (by assumption) ?_
          case refine_2 =>
            intro w hSw
            (try dsimp only at hSw)
            (try go_simp)
            all_goals (with_reducible rfl)
          (try dsimp only [Act.put]); (try simp only [List.setIfInBounds_toArray, List.set_cons_zero, List.set_cons_succ])
          refine wpAnyH_take (i := 1) (oi := { dst := some 34, op := Op.slice 9 (Operand.tmp 33) none (some (Operand.const (Value.int IntKind.i64 2))) none, type := 9, pos := "ref.go:47", after := #[{ on := 0, ground := Ground.data }], guard := none }) (v := ?_) rfl (by kernel_rfl) (by kernel_rfl) (by kernel_rfl) (fun _ _ _ h => h) (Or.inl ⟨by rfl, ?_⟩) (by assumption) ?_
          case refine_2 =>
            intro w hSw
            (try dsimp only at hSw)
            (try go_simp)
            all_goals (with_reducible rfl)
          (try dsimp only [Act.put]); (try simp only [List.setIfInBounds_toArray, List.set_cons_zero, List.set_cons_succ])
          refine wpAnyH_take (i := 3) (oi := { dst := some 36, op := Op.move (Operand.tmp 0), type := 9, pos := "ref.go:47", after := #[], guard := none }) (v := ?_) rfl (by kernel_rfl) (by kernel_rfl) (by kernel_rfl) (fun _ _ _ h => h) (Or.inl ⟨by rfl, ?_⟩) (by assumption) ?_
          case refine_2 =>
            intro w hSw
            (try dsimp only at hSw)
            (try go_simp)
            all_goals (with_reducible rfl)
          (try dsimp only [Act.put]); (try simp only [List.setIfInBounds_toArray, List.set_cons_zero, List.set_cons_succ])
          refine wpAnyH_take (i := 4) (oi := { dst := some 37, op := Op.slice 9 (Operand.tmp 36) (some (Operand.const (Value.int IntKind.i64 2))) none none, type := 9, pos := "ref.go:47", after := #[{ on := 3, ground := Ground.data }], guard := none }) (v := ?_) rfl (by kernel_rfl) (by kernel_rfl) (by kernel_rfl) (fun _ _ _ h => h) (Or.inl ⟨by rfl, ?_⟩) (by assumption) ?_
          case refine_2 =>
            intro w hSw
            (try dsimp only at hSw)
            (try go_simp)
            all_goals (with_reducible rfl)
          (try dsimp only [Act.put]); (try simp only [List.setIfInBounds_toArray, List.set_cons_zero, List.set_cons_succ])
          refine wpAnyH_ready (rs := [2]) (by kernel_rfl) (by simp) (AllReadyH.cons (o := { dst := some 35, op := Op.call { callee := Callee.value (Operand.func 18), args := #[Operand.tmp 34], argTypes := #[9] }, type := 3, pos := "ref.go:47", after := #[{ on := 1, ground := Ground.data }], guard := none }) rfl (fun K hK => ?_) AllReadyH.nil)
          go_simp
          refine (rsquare_of _ _ ?_).mono ?_; exact z0; rintro e w3 ⟨rfl, hb⟩; have b3 := (b2.next hS).next hb
          refine hK.out _ _ ?_ (fun hHeld => ?_)
          · first | exact hHeld.trans (hb.mono hHeld.size)
          clear hK K
          refine wpAnyH_ready (rs := [5]) (by kernel_rfl) (by simp) (AllReadyH.cons (o := { dst := some 38, op := Op.call { callee := Callee.value (Operand.func 18), args := #[Operand.tmp 37], argTypes := #[9] }, type := 3, pos := "ref.go:47", after := #[{ on := 4, ground := Ground.data }, { on := 2, ground := Ground.chain }], guard := none }) rfl (fun K hK => ?_) AllReadyH.nil)
          go_simp
          refine (rsquare_of _ _ ?_).mono ?_; exact z1; rintro e w4 ⟨rfl, hb⟩; have b4 := b3.next hb; have r0 : w4.cell? ⟨w.heap.size, 0, none⟩ = some (.int .i64 0) := b4.cell 0; have r1 : w4.cell? ⟨w.heap.size, 1, none⟩ = some (.int .i64 0) := b4.cell 1; have f0 := b4.frozen 0; have f1 := b4.frozen 1
          refine hK.out _ _ ?_ (fun hHeld => ?_)
          · first | exact hHeld.trans (hb.mono hHeld.size)
          clear hK K
          refine wpAnyH_take (i := 6) (oi := { dst := some 39, op := Op.build 23 #[(0, Operand.tmp 35), (1, Operand.tmp 38)], type := 23, pos := "ref.go:47", after := #[{ on := 2, ground := Ground.data }, { on := 5, ground := Ground.data }], guard := none }) (v := ?_) rfl (by kernel_rfl) (by kernel_rfl) (by kernel_rfl) (fun _ _ _ h => h) (Or.inl ⟨by rfl, ?_⟩) (by assumption) ?_
          case refine_2 =>
            intro w hSw
            (try dsimp only at hSw)
            (try go_simp)
            all_goals (with_reducible rfl)
          (try dsimp only [Act.put]); (try simp only [List.setIfInBounds_toArray, List.set_cons_zero, List.set_cons_succ])
          refine wpAnyH_ready (rs := [7]) (by kernel_rfl) (by simp) (AllReadyH.cons (o := { dst := none, op := Op.store 23 (Operand.tmp 2) (Operand.tmp 39), type := 0, pos := "ref.go:47", after := #[{ on := 6, ground := Ground.data }, { on := 5, ground := Ground.chain }, { on := 0, ground := Ground.phase }, { on := 1, ground := Ground.phase }, { on := 2, ground := Ground.phase }, { on := 3, ground := Ground.phase }, { on := 4, ground := Ground.phase }, { on := 5, ground := Ground.phase }, { on := 6, ground := Ground.phase }], guard := none }) rfl (fun K hK => ?_) AllReadyH.nil)
          go_simp
          refine hK.out _ _ ?_ (fun hHeld => ?_)
          · exact (hHeld.setCell (p := ⟨w.heap.size, 0, none⟩) (Nat.le_refl _) _).setCell (p := ⟨w.heap.size, 1, none⟩) (Nat.le_refl _) _
          clear hK K
          (try dsimp only [Act.put]); (try simp only [List.setIfInBounds_toArray, List.set_cons_zero, List.set_cons_succ])
          refine wpAnyH_take (i := 8) (oi := { dst := some 3, op := Op.assign (Operand.const (Value.int IntKind.i64 0)), type := 25, pos := "ref.go:47", after := #[{ on := 7, ground := Ground.chain }, { on := 0, ground := Ground.phase }, { on := 1, ground := Ground.phase }, { on := 2, ground := Ground.phase }, { on := 3, ground := Ground.phase }, { on := 4, ground := Ground.phase }, { on := 5, ground := Ground.phase }, { on := 6, ground := Ground.phase }, { on := 7, ground := Ground.phase }], guard := none }) (v := ?_) rfl (by kernel_rfl) (by kernel_rfl) (by kernel_rfl) (fun _ _ _ h => h) (Or.inl ⟨by rfl, ?_⟩) (by assumption) ?_
          case refine_2 =>
            intro w hSw
            (try dsimp only at hSw)
            (try go_simp)
            all_goals (with_reducible rfl)
          (try dsimp only [Act.put]); (try simp only [List.setIfInBounds_toArray, List.set_cons_zero, List.set_cons_succ])
          refine wpAnyH_done (by kernel_rfl) ?_ _
          have b5 := (b4.set_ 0 (.int .i64 (sqOf X0))).set_ 1 (.int .i64 (sqOf X1))
          go_wp2_with fail
          exact bodyPost_ret (res_mv rfl _ _ rfl b5) rfl ⟨by rw [HV2.out, ← HAB.out.1, ← HAB.out.2]; rfl, hHeld⟩
    · have hadd := hadd h5 h6
      have e5 : (s.size : Int) = 5 := by omega
      have i2 : (s[2]'(by omega)).toNat = 45 := by rw [← hx]; exact bAt_eq s 2 (by omega)
      have l2 : (2 : Int) < s.size := by omega
      clear h6 hx
      go_enter Tryz.func10, Tryz.ntmps10
      go_wp2_with fail
      rw [HW.out]
      go_wp2_with fail
      go_region_with (fail)
      have bV := bM.next (Below.refl _ _).drew
      have hBV := hB.drew
      go_wp2_with fail
      refine (rsquare_of _ _ z0).mono ?_
      rintro e w1 ⟨rfl, hb1⟩
      rw [ha]
      have b1 := bV.next hb1
      have hB1 := hBV.trans (hb1.mono hBV.size)
      by_cases hA : a < 0
      · have hv := HV.out
        rw [if_neg (by omega)] at hv
        have HV2 := Lib.hid hv
        obtain ⟨r0, r1⟩ : w1.cell? ⟨w.heap.size, 0, none⟩ = some (.int .i64 0) ∧ w1.cell? ⟨w.heap.size, 1, none⟩ = some (.int .i64 0) := ⟨b1.cell 0, b1.cell 1⟩
        obtain ⟨f0, f1⟩ : w1.frozen? ⟨w.heap.size, 0, none⟩ = false ∧ w1.frozen? ⟨w.heap.size, 1, none⟩ = false := ⟨b1.frozen 0, b1.frozen 1⟩
        clear hv ha hb
        go_wp2_with fail
        exact bodyPost_ret (res_mv rfl _ _ rfl ((b1.set_ 0 (.int .i64 0)).set_ 1 (.int .i64 0))) rfl ⟨by rw [HV2.out]; rfl, (hB1.setCell (p := ⟨w.heap.size, 0, none⟩) (Nat.le_refl _) _).setCell (p := ⟨w.heap.size, 1, none⟩) (Nat.le_refl _) _⟩
      · have hA2 : ¬ a < 0 := hA
        go_wp2_with fail
        refine (rsquare_of _ _ z1).mono ?_
        rintro e w2 ⟨rfl, hb2⟩
        rw [hb]
        have b2 := b1.next hb2
        have hB2 := hB1.trans (hb2.mono hB1.size)
        by_cases hN : b < 0
        · have hv := HV.out
          rw [if_neg (by omega)] at hv
          have HV2 := Lib.hid hv
          obtain ⟨r0, r1⟩ : w2.cell? ⟨w.heap.size, 0, none⟩ = some (.int .i64 0) ∧ w2.cell? ⟨w.heap.size, 1, none⟩ = some (.int .i64 0) := ⟨b2.cell 0, b2.cell 1⟩
          obtain ⟨f0, f1⟩ : w2.frozen? ⟨w.heap.size, 0, none⟩ = false ∧ w2.frozen? ⟨w.heap.size, 1, none⟩ = false := ⟨b2.frozen 0, b2.frozen 1⟩
          clear hv ha hb
          go_wp2_with fail
          exact bodyPost_ret (res_mv rfl _ _ rfl ((b2.set_ 0 (.int .i64 0)).set_ 1 (.int .i64 0))) rfl ⟨by rw [HV2.out]; rfl, (hB2.setCell (p := ⟨w.heap.size, 0, none⟩) (Nat.le_refl _) _).setCell (p := ⟨w.heap.size, 1, none⟩) (Nat.le_refl _) _⟩
        · have hv := HV.out
          rw [if_pos (by omega)] at hv
          have HV2 := Lib.hid hv
          have HAB := Lib.hid (And.intro ha hb)
          have hS : Below w2.heap.size w2 w2.drew := (Below.refl _ _).drew
          clear hv ha hb hb1 hb2 b1 hB1
          go_wp2_with fail
          refine wp_region_held_drew (S := fun X => Below w.heap.size w X) (by kernel_rfl) ((hB2.trans (hS.mono hB2.size))) (fun hHeld => ?_)
          refine wpAnyH_take (i := 0) (oi := { dst := some 33, op := Op.move (Operand.tmp 0), type := 9, pos := "ref.go:47", after := #[], guard := none }) (v := ?_) rfl (by kernel_rfl) (by kernel_rfl) (by kernel_rfl) (fun _ _ _ h => h) (Or.inl ⟨by rfl, ?_⟩) (by assumption) ?_
          case refine_2 =>
            intro w hSw
            (try dsimp only at hSw)
            (try go_simp)
            all_goals (with_reducible rfl)
          (try dsimp only [Act.put]); (try simp only [List.setIfInBounds_toArray, List.set_cons_zero, List.set_cons_succ])
          refine wpAnyH_take (i := 1) (oi := { dst := some 34, op := Op.slice 9 (Operand.tmp 33) none (some (Operand.const (Value.int IntKind.i64 2))) none, type := 9, pos := "ref.go:47", after := #[{ on := 0, ground := Ground.data }], guard := none }) (v := ?_) rfl (by kernel_rfl) (by kernel_rfl) (by kernel_rfl) (fun _ _ _ h => h) (Or.inl ⟨by rfl, ?_⟩) (by assumption) ?_
          case refine_2 =>
            intro w hSw
            (try dsimp only at hSw)
            (try go_simp)
            all_goals (with_reducible rfl)
          (try dsimp only [Act.put]); (try simp only [List.setIfInBounds_toArray, List.set_cons_zero, List.set_cons_succ])
          refine wpAnyH_take (i := 3) (oi := { dst := some 36, op := Op.move (Operand.tmp 0), type := 9, pos := "ref.go:47", after := #[], guard := none }) (v := ?_) rfl (by kernel_rfl) (by kernel_rfl) (by kernel_rfl) (fun _ _ _ h => h) (Or.inl ⟨by rfl, ?_⟩) (by assumption) ?_
          case refine_2 =>
            intro w hSw
            (try dsimp only at hSw)
            (try go_simp)
            all_goals (with_reducible rfl)
          (try dsimp only [Act.put]); (try simp only [List.setIfInBounds_toArray, List.set_cons_zero, List.set_cons_succ])
          refine wpAnyH_take (i := 4) (oi := { dst := some 37, op := Op.slice 9 (Operand.tmp 36) (some (Operand.const (Value.int IntKind.i64 2))) none none, type := 9, pos := "ref.go:47", after := #[{ on := 3, ground := Ground.data }], guard := none }) (v := ?_) rfl (by kernel_rfl) (by kernel_rfl) (by kernel_rfl) (fun _ _ _ h => h) (Or.inl ⟨by rfl, ?_⟩) (by assumption) ?_
          case refine_2 =>
            intro w hSw
            (try dsimp only at hSw)
            (try go_simp)
            all_goals (with_reducible rfl)
          (try dsimp only [Act.put]); (try simp only [List.setIfInBounds_toArray, List.set_cons_zero, List.set_cons_succ])
          refine wpAnyH_ready (rs := [2]) (by kernel_rfl) (by simp) (AllReadyH.cons (o := { dst := some 35, op := Op.call { callee := Callee.value (Operand.func 18), args := #[Operand.tmp 34], argTypes := #[9] }, type := 3, pos := "ref.go:47", after := #[{ on := 1, ground := Ground.data }], guard := none }) rfl (fun K hK => ?_) AllReadyH.nil)
          go_simp
          refine (rsquare_of _ _ ?_).mono ?_; exact z0; rintro e w3 ⟨rfl, hb⟩; have b3 := (b2.next hS).next hb
          refine hK.out _ _ ?_ (fun hHeld => ?_)
          · first | exact hHeld.trans (hb.mono hHeld.size)
          clear hK K
          refine wpAnyH_ready (rs := [5]) (by kernel_rfl) (by simp) (AllReadyH.cons (o := { dst := some 38, op := Op.call { callee := Callee.value (Operand.func 18), args := #[Operand.tmp 37], argTypes := #[9] }, type := 3, pos := "ref.go:47", after := #[{ on := 4, ground := Ground.data }, { on := 2, ground := Ground.chain }], guard := none }) rfl (fun K hK => ?_) AllReadyH.nil)
          go_simp
          refine (rsquare_of _ _ ?_).mono ?_; exact z1; rintro e w4 ⟨rfl, hb⟩; have b4 := b3.next hb; have r0 : w4.cell? ⟨w.heap.size, 0, none⟩ = some (.int .i64 0) := b4.cell 0; have r1 : w4.cell? ⟨w.heap.size, 1, none⟩ = some (.int .i64 0) := b4.cell 1; have f0 := b4.frozen 0; have f1 := b4.frozen 1
          refine hK.out _ _ ?_ (fun hHeld => ?_)
          · first | exact hHeld.trans (hb.mono hHeld.size)
          clear hK K
          refine wpAnyH_take (i := 6) (oi := { dst := some 39, op := Op.build 23 #[(0, Operand.tmp 35), (1, Operand.tmp 38)], type := 23, pos := "ref.go:47", after := #[{ on := 2, ground := Ground.data }, { on := 5, ground := Ground.data }], guard := none }) (v := ?_) rfl (by kernel_rfl) (by kernel_rfl) (by kernel_rfl) (fun _ _ _ h => h) (Or.inl ⟨by rfl, ?_⟩) (by assumption) ?_
          case refine_2 =>
            intro w hSw
            (try dsimp only at hSw)
            (try go_simp)
            all_goals (with_reducible rfl)
          (try dsimp only [Act.put]); (try simp only [List.setIfInBounds_toArray, List.set_cons_zero, List.set_cons_succ])
          refine wpAnyH_ready (rs := [7]) (by kernel_rfl) (by simp) (AllReadyH.cons (o := { dst := none, op := Op.store 23 (Operand.tmp 2) (Operand.tmp 39), type := 0, pos := "ref.go:47", after := #[{ on := 6, ground := Ground.data }, { on := 5, ground := Ground.chain }, { on := 0, ground := Ground.phase }, { on := 1, ground := Ground.phase }, { on := 2, ground := Ground.phase }, { on := 3, ground := Ground.phase }, { on := 4, ground := Ground.phase }, { on := 5, ground := Ground.phase }, { on := 6, ground := Ground.phase }], guard := none }) rfl (fun K hK => ?_) AllReadyH.nil)
          go_simp
          refine hK.out _ _ ?_ (fun hHeld => ?_)
          · exact (hHeld.setCell (p := ⟨w.heap.size, 0, none⟩) (Nat.le_refl _) _).setCell (p := ⟨w.heap.size, 1, none⟩) (Nat.le_refl _) _
          clear hK K
          (try dsimp only [Act.put]); (try simp only [List.setIfInBounds_toArray, List.set_cons_zero, List.set_cons_succ])
          refine wpAnyH_take (i := 8) (oi := { dst := some 3, op := Op.assign (Operand.const (Value.int IntKind.i64 0)), type := 25, pos := "ref.go:47", after := #[{ on := 7, ground := Ground.chain }, { on := 0, ground := Ground.phase }, { on := 1, ground := Ground.phase }, { on := 2, ground := Ground.phase }, { on := 3, ground := Ground.phase }, { on := 4, ground := Ground.phase }, { on := 5, ground := Ground.phase }, { on := 6, ground := Ground.phase }, { on := 7, ground := Ground.phase }], guard := none }) (v := ?_) rfl (by kernel_rfl) (by kernel_rfl) (by kernel_rfl) (fun _ _ _ h => h) (Or.inl ⟨by rfl, ?_⟩) (by assumption) ?_
          case refine_2 =>
            intro w hSw
            (try dsimp only at hSw)
            (try go_simp)
            all_goals (with_reducible rfl)
          (try dsimp only [Act.put]); (try simp only [List.setIfInBounds_toArray, List.set_cons_zero, List.set_cons_succ])
          refine wpAnyH_done (by kernel_rfl) ?_ _
          have b5 := (b4.set_ 0 (.int .i64 (sqOf X0))).set_ 1 (.int .i64 (sqOf X1))
          go_wp2_with fail
          exact bodyPost_ret (res_mv rfl _ _ rfl b5) rfl ⟨by rw [HV2.out, ← HAB.out.1, ← HAB.out.2]; rfl, hHeld⟩
end Go.Proofs.YtmmomgaijgpmmaaGreatDoor
