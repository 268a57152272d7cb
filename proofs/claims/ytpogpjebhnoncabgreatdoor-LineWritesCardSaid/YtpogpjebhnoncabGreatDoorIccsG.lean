/- The document's own Print and Parse of moves' texts. -/
import Derived.Test.YtpogpjebhnoncabGreatDoorIccsF
namespace Go.Proofs.YtpogpjebhnoncabGreatDoor
open Go.RowKit Go.Shelf
open M (S)

theorem rsqt_any (n : Int) (w : World) (hn : sqI n = true) : Calls Tryz.prog 55 #[.int .i64 n] w (Gives w (.string (sqTxt n.toNat))) := rsqt_is n _ w hn rfl
set_option maxRecDepth 100000 in
set_option maxHeartbeats 2000000 in
theorem rprint_is (a b : Int) (t : ByteArray) (w : World) (h : printT a b = t) : Calls Tryz.prog 38 #[.agg #[.int .i64 a, .int .i64 b]] w (Gives w (.string t)) := by
  unfold Gives
  obtain ⟨W0, hW0⟩ : ∃ W0, w.alloc (.cells #[.int .i64 a, .int .i64 b] 60) = W0 := ⟨_, rfl⟩
  have hB : Below w.heap.size w W0 := by rw [← hW0]; exact (by repeat (first | exact Below.refl _ _ | (refine Below.setCell ?_ (by first | omega | (simp; done) | (simp; omega) | (simp at *; omega)) _) | (refine Below.alloc ?_ (by first | omega | (simp; done) | (simp; omega) | (simp at *; omega)) _) | refine Below.drew ?_ | (refine below_drewN ?_ _) | (refine Below.trans ?_ (Below.mono (by assumption) (by first | omega | (simp; done) | (simp; omega) | (simp at *; omega))))))
  have bM : Blk W0 w.heap.size 60 #[.int .i64 a, .int .i64 b] := by rw [← hW0]; exact Blk.new _ _ _ rfl
  have m0 := bM.cell 0
  have m1 := bM.cell 1
  have HW := Lib.hid hW0
  have HT := Lib.hid h
  clear hW0 h
  by_cases hs : sqI a = true ∧ sqI b = true
  · obtain ⟨ha, hb⟩ := hs
    obtain ⟨a0, a1⟩ := sqI_iff.1 ha
    obtain ⟨b0, b1⟩ := sqI_iff.1 hb
    have d0 : ¬ a < 0 := by omega
    have d1 : ¬ 89 < a := by omega
    have d2 : ¬ b < 0 := by omega
    have d3 : ¬ 89 < b := by omega
    have e0 : sqTxt a.toNat ++ sqTxt b.toNat = t := by rw [← HT.out]; unfold printT; rw [ha, hb]; rfl
    have hadd : ∀ W, (Op.stringOp .add (sqTxt a.toNat) (sqTxt b.toNat)).run Tryz.prog W = .ok (.string t) W := fun W => by
      rw [← e0]
      exact run_string_add_sum _ _ _ (by show 2 + 2 ≤ _; decide)
    have HC : Hid (W0.cell? ⟨w.heap.size, 0, none⟩ = some (.int .i64 a) ∧ W0.cell? ⟨w.heap.size, 1, none⟩ = some (.int .i64 b)) := ⟨m0, m1⟩
    have hlt : w.heap.size < W0.heap.size := bM.lt
    have hS : W0.drew.cell? ⟨w.heap.size, 0, none⟩ = some (.int .i64 a) ∧ W0.drew.cell? ⟨w.heap.size, 1, none⟩ = some (.int .i64 b) ∧ Below W0.heap.size W0 W0.drew := mv_of HC.out hlt hlt (Below.refl _ _).drew
    have HA := Lib.hid ha
    have HB := Lib.hid hb
    clear ha hb a0 a1 b0 b1 e0
    go_enter Tryz.func38, Tryz.ntmps38
    go_wp2_with fail
    rw [HW.out]
    go_wp2_with fail
    clear m0 m1 bM
    refine wp_region_held_drew (S := fun W => W.cell? ⟨w.heap.size, 0, none⟩ = some (.int .i64 a) ∧ W.cell? ⟨w.heap.size, 1, none⟩ = some (.int .i64 b) ∧ Below W0.heap.size W0 W) (by kernel_rfl) (hS) (fun hHeld => ?_)
    refine wpAnyH_take (i := 0) (oi := { dst := some 21, op := Op.fieldAddr 60 (Operand.tmp 1) 0, type := 0, pos := "ref.go:21", after := #[], guard := none }) (v := ?_) rfl (by kernel_rfl) (by kernel_rfl) (by kernel_rfl) (fun _ _ _ h => h) (Or.inl ⟨by rfl, ?_⟩) (by assumption) ?_
    case refine_2 =>
      intro w hSw
      (try dsimp only at hSw)
      (try go_simp)
      all_goals (with_reducible rfl)
    (try dsimp only [Act.put]); (try simp only [List.setIfInBounds_toArray, List.set_cons_zero, List.set_cons_succ])
    refine wpAnyH_take (i := 1) (oi := { dst := some 22, op := Op.load 3 (Operand.tmp 21), type := 3, pos := "ref.go:21", after := #[{ on := 0, ground := Ground.data }], guard := none }) (v := ?_) rfl (by kernel_rfl) (by kernel_rfl) (by kernel_rfl) (fun _ _ _ h => h) (Or.inl ⟨by rfl, ?_⟩) (by assumption) ?_
    case refine_2 =>
      intro w hSw
      (try dsimp only at hSw)
      (try go_simp)
      all_goals (with_reducible rfl)
    (try dsimp only [Act.put]); (try simp only [List.setIfInBounds_toArray, List.set_cons_zero, List.set_cons_succ])
    refine wpAnyH_take (i := 3) (oi := { dst := some 24, op := Op.fieldAddr 60 (Operand.tmp 1) 1, type := 0, pos := "ref.go:21", after := #[], guard := none }) (v := ?_) rfl (by kernel_rfl) (by kernel_rfl) (by kernel_rfl) (fun _ _ _ h => h) (Or.inl ⟨by rfl, ?_⟩) (by assumption) ?_
    case refine_2 =>
      intro w hSw
      (try dsimp only at hSw)
      (try go_simp)
      all_goals (with_reducible rfl)
    (try dsimp only [Act.put]); (try simp only [List.setIfInBounds_toArray, List.set_cons_zero, List.set_cons_succ])
    refine wpAnyH_take (i := 4) (oi := { dst := some 25, op := Op.load 3 (Operand.tmp 24), type := 3, pos := "ref.go:21", after := #[{ on := 3, ground := Ground.data }], guard := none }) (v := ?_) rfl (by kernel_rfl) (by kernel_rfl) (by kernel_rfl) (fun _ _ _ h => h) (Or.inl ⟨by rfl, ?_⟩) (by assumption) ?_
    case refine_2 =>
      intro w hSw
      (try dsimp only at hSw)
      (try go_simp)
      all_goals (with_reducible rfl)
    (try dsimp only [Act.put]); (try simp only [List.setIfInBounds_toArray, List.set_cons_zero, List.set_cons_succ])
    refine wpAnyH_ready (rs := [2]) (by kernel_rfl) (by simp) (AllReadyH.cons (o := { dst := some 23, op := Op.call { callee := Callee.value (Operand.func 55), args := #[Operand.tmp 22], argTypes := #[3] }, type := 9, pos := "ref.go:21", after := #[{ on := 1, ground := Ground.data }], guard := none }) rfl (fun K hK => ?_) AllReadyH.nil)
    go_simp
    refine (rsqt_any _ _ ?_).mono ?_; (first | exact HA.out | exact HB.out); rintro e w1 ⟨rfl, hb⟩
    refine hK.out _ _ ?_ (fun hHeld => ?_)
    · first | with_reducible assumption | exact mv_of HC.out hlt hlt (hHeld.2.2.trans (hb.mono hHeld.2.2.size)) | exact mv_of HC.out hlt hlt (hS.2.2.trans (hb.mono hS.2.2.size))
    clear hK K
    refine wpAnyH_ready (rs := [5]) (by kernel_rfl) (by simp) (AllReadyH.cons (o := { dst := some 26, op := Op.call { callee := Callee.value (Operand.func 55), args := #[Operand.tmp 25], argTypes := #[3] }, type := 9, pos := "ref.go:21", after := #[{ on := 4, ground := Ground.data }, { on := 2, ground := Ground.chain }], guard := none }) rfl (fun K hK => ?_) AllReadyH.nil)
    go_simp
    refine (rsqt_any _ _ ?_).mono ?_; (first | exact HA.out | exact HB.out); rintro e w1 ⟨rfl, hb⟩
    refine hK.out _ _ ?_ (fun hHeld => ?_)
    · first | with_reducible assumption | exact mv_of HC.out hlt hlt (hHeld.2.2.trans (hb.mono hHeld.2.2.size)) | exact mv_of HC.out hlt hlt (hS.2.2.trans (hb.mono hS.2.2.size))
    clear hK K
    refine wpAnyH_take (i := 6) (oi := { dst := some 27, op := Op.binOp BinOp.add 9 (Operand.tmp 23) (Operand.tmp 26) 9, type := 9, pos := "ref.go:21", after := #[{ on := 2, ground := Ground.data }, { on := 5, ground := Ground.data }], guard := none }) (v := ?_) rfl (by kernel_rfl) (by kernel_rfl) (by kernel_rfl) (fun _ _ _ h => h) (Or.inl ⟨by rfl, ?_⟩) (by assumption) ?_
    case refine_2 =>
      intro w hSw
      (try dsimp only at hSw)
      (try go_simp)
      all_goals (with_reducible rfl)
    (try dsimp only [Act.put]); (try simp only [List.setIfInBounds_toArray, List.set_cons_zero, List.set_cons_succ])
    refine wpAnyH_take (i := 7) (oi := { dst := some 2, op := Op.assign (Operand.tmp 27), type := 9, pos := "ref.go:21", after := #[{ on := 6, ground := Ground.data }, { on := 5, ground := Ground.chain }, { on := 0, ground := Ground.phase }, { on := 1, ground := Ground.phase }, { on := 2, ground := Ground.phase }, { on := 3, ground := Ground.phase }, { on := 4, ground := Ground.phase }, { on := 5, ground := Ground.phase }, { on := 6, ground := Ground.phase }], guard := none }) (v := ?_) rfl (by kernel_rfl) (by kernel_rfl) (by kernel_rfl) (fun _ _ _ h => h) (Or.inl ⟨by rfl, ?_⟩) (by assumption) ?_
    case refine_2 =>
      intro w hSw
      (try dsimp only at hSw)
      (try go_simp)
      all_goals (with_reducible rfl)
    (try dsimp only [Act.put]); (try simp only [List.setIfInBounds_toArray, List.set_cons_zero, List.set_cons_succ])
    refine wpAnyH_done (by kernel_rfl) ?_ _
    go_wp2
    go_ret
    exact ⟨rfl, hB.trans (hHeld.2.2.mono hB.size)⟩
  · have e0 : t = ⟨#[]⟩ := by rw [← HT.out]; exact print_none (by cases hx : sqI a <;> cases hy : sqI b <;> simp_all)
    subst e0
    have hcase : a < 0 ∨ (¬ a < 0 ∧ 89 < a) ∨ (¬ a < 0 ∧ ¬ 89 < a ∧ b < 0) ∨ (¬ a < 0 ∧ ¬ 89 < a ∧ ¬ b < 0 ∧ 89 < b) := by
      rw [sqI_iff, sqI_iff] at hs
      omega
    clear hs HT
    rcases hcase with d0 | ⟨d0, d1⟩ | ⟨d0, d1, d2⟩ | ⟨d0, d1, d2, d3⟩
    all_goals
      go_enter Tryz.func38, Tryz.ntmps38
      go_wp2_with fail
      rw [HW.out]
      go_wp2
      go_ret
      exact ⟨rfl, hB⟩
end Go.Proofs.YtpogpjebhnoncabGreatDoor
