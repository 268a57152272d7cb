/- What Parse answers; the document's own texts of squares and moves. -/
import Derived.Test.YtpogpjebhnoncabGreatDoorIccsE
namespace Go.Proofs.YtpogpjebhnoncabGreatDoor
open Go.RowKit Go.Shelf
open M (S)

/-- What is told of a text's move. -/
def parseM (s : ByteArray) : Value := match readT s with
  | some m => .tuple #[.agg #[.int .i64 m.1, .int .i64 m.2], .int .i64 0]
  | none => .tuple #[.agg #[.int .i64 0, .int .i64 0], .int .i64 6]
set_option maxHeartbeats 2000000 in
theorem iparse_any {w : World} {a0 a1 a2 : Addr} (h : Errs w a0 a1 a2) (s : ByteArray) : Calls Tryz.prog 67 #[.string s] w (Gives w (parseM s)) := by
  unfold Gives parseM
  obtain ⟨W0, hW0⟩ : ∃ W0, w.alloc (.cells #[.int .i64 0, .int .i64 0] 60) = W0 := ⟨_, rfl⟩
  have hB : Below w.heap.size w W0 := by rw [← hW0]; exact (by repeat (first | exact Below.refl _ _ | (refine Below.setCell ?_ (by first | omega | (simp; done) | (simp; omega) | (simp at *; omega)) _) | (refine Below.alloc ?_ (by first | omega | (simp; done) | (simp; omega) | (simp at *; omega)) _) | refine Below.drew ?_ | (refine below_drewN ?_ _) | (refine Below.trans ?_ (Below.mono (by assumption) (by first | omega | (simp; done) | (simp; omega) | (simp at *; omega))))))
  have hE0 := h.next hB
  have hm := rmove_any hE0 s
  have HW := Lib.hid hW0
  have bR : Blk W0 w.heap.size 60 #[.int .i64 0, .int .i64 0] := by rw [← hW0]; exact Blk.new _ _ _ rfl
  clear hW0
  cases hr : readT s with
  | none =>
    rw [moveV_none hr] at hm
    have HM := Lib.hid hm
    clear hm
    go_enter Tryz.func67, Tryz.ntmps67
    go_wp2_with fail
    rw [HW.out]
    refine HM.out.mono ?_
    rintro e W1 ⟨rfl, hb1⟩
    go_wp2_with fail
    obtain ⟨V, hV⟩ : ∃ V, W1.alloc (.cells #[.int .i64 0, .int .i64 0] 60) = V := ⟨_, rfl⟩
    have bV : Blk V W1.heap.size 60 #[.int .i64 0, .int .i64 0] := by rw [← hV]; exact Blk.new _ _ _ rfl
    have hbV : Below W0.heap.size W0 V := by rw [← hV]; exact hb1.alloc hb1.size _
    have hEV := hE0.next hbV
    have bRV := bR.next hbV
    have hBV := hB.trans (hbV.mono hB.size)
    have hS : V.drew.cell? ⟨W1.heap.size, 0, none⟩ = some (.int .i64 0) ∧ V.drew.cell? ⟨W1.heap.size, 1, none⟩ = some (.int .i64 0) := ⟨bV.cell 0, bV.cell 1⟩
    have hSd : Below V.heap.size V V.drew := (Below.refl _ _).drew
    have hne2 : w.heap.size ≠ W1.heap.size := by have := hb1.size; have := bR.lt; omega
    have HBV : Hid (V.cell? ⟨W1.heap.size, 0, none⟩ = some (.int .i64 0) ∧ V.cell? ⟨W1.heap.size, 1, none⟩ = some (.int .i64 0)) := ⟨bV.cell 0, bV.cell 1⟩
    have hlt := bV.lt
    rw [hV]
    clear hV hb1
    refine wp_region_held_drew (S := fun X => X.cell? ⟨W1.heap.size, 0, none⟩ = some (.int .i64 0) ∧ X.cell? ⟨W1.heap.size, 1, none⟩ = some (.int .i64 0)) (by kernel_rfl) (hS) (fun hHeld => ?_)
    refine wpAnyH_take (i := 0) (oi := { dst := some 11, op := Op.load 60 (Operand.tmp 4), type := 60, pos := "iccs.go:40", after := #[], guard := none }) (v := ?_) rfl (by kernel_rfl) (by kernel_rfl) (by kernel_rfl) (fun _ _ _ h => h) (Or.inl ⟨by rfl, ?_⟩) (by assumption) ?_
    case refine_2 =>
      intro w hSw
      (try dsimp only at hSw)
      (try go_simp)
      all_goals (with_reducible rfl)
    (try dsimp only [Act.put]); (try simp only [List.setIfInBounds_toArray, List.set_cons_zero, List.set_cons_succ])
    refine wpAnyH_take (i := 1) (oi := { dst := some 12, op := Op.move (Operand.tmp 5), type := 69, pos := "iccs.go:40", after := #[], guard := none }) (v := ?_) rfl (by kernel_rfl) (by kernel_rfl) (by kernel_rfl) (fun _ _ _ h => h) (Or.inl ⟨by rfl, ?_⟩) (by assumption) ?_
    case refine_2 =>
      intro w hSw
      (try dsimp only at hSw)
      (try go_simp)
      all_goals (with_reducible rfl)
    (try dsimp only [Act.put]); (try simp only [List.setIfInBounds_toArray, List.set_cons_zero, List.set_cons_succ])
    refine wpAnyH_ready (rs := [2]) (by kernel_rfl) (by simp) (AllReadyH.cons (o := { dst := some 13, op := Op.call { callee := Callee.value (Operand.func 98), args := #[Operand.tmp 12], argTypes := #[69] }, type := 33, pos := "iccs.go:40", after := #[{ on := 1, ground := Ground.data }], guard := none }) rfl (fun K hK => ?_) AllReadyH.nil)
    go_simp
    refine (number_is (hEV.next hSd) s 6 (by decide)).mono ?_; rintro e W2 ⟨rfl, hb⟩; have hb2 := hSd.trans (hb.mono hSd.size); have bR2 := bRV.next hb2; have r0 : W2.cell? ⟨w.heap.size, 0, none⟩ = some (.int .i64 0) := bR2.cell 0; have r1 : W2.cell? ⟨w.heap.size, 1, none⟩ = some (.int .i64 0) := bR2.cell 1; have f0 := bR2.frozen 0; have f1 := bR2.frozen 1
    refine hK.out _ _ ?_ (fun hHeld => ?_)
    · exact ⟨(mv_of HBV.out hlt hlt hb2).1, (mv_of HBV.out hlt hlt hb2).2.1⟩
    clear hK K
    refine wpAnyH_ready (rs := [3]) (by kernel_rfl) (by simp) (AllReadyH.cons (o := { dst := none, op := Op.store 60 (Operand.tmp 2) (Operand.tmp 11), type := 0, pos := "iccs.go:40", after := #[{ on := 0, ground := Ground.data }, { on := 2, ground := Ground.chain }, { on := 0, ground := Ground.phase }, { on := 1, ground := Ground.textOnly Departure.lateStores }, { on := 2, ground := Ground.textOnly Departure.lateStoresUnsure }], guard := none }) rfl (fun K hK => ?_) AllReadyH.nil)
    go_simp
    refine hK.out _ _ ?_ (fun hHeld => ?_)
    · exact ⟨(World.cell?_setCell_far _ _ _ _ hne2).trans ((World.cell?_setCell_far _ _ _ _ hne2).trans hHeld.1), (World.cell?_setCell_far _ _ _ _ hne2).trans ((World.cell?_setCell_far _ _ _ _ hne2).trans hHeld.2)⟩
    clear hK K
    (try dsimp only [Act.put]); (try simp only [List.setIfInBounds_toArray, List.set_cons_zero, List.set_cons_succ])
    refine wpAnyH_take (i := 4) (oi := { dst := some 3, op := Op.assign (Operand.tmp 13), type := 33, pos := "iccs.go:40", after := #[{ on := 2, ground := Ground.data }, { on := 3, ground := Ground.chain }, { on := 0, ground := Ground.phase }, { on := 1, ground := Ground.phase }, { on := 2, ground := Ground.phase }, { on := 3, ground := Ground.phase }], guard := none }) (v := ?_) rfl (by kernel_rfl) (by kernel_rfl) (by kernel_rfl) (fun _ _ _ h => h) (Or.inl ⟨by rfl, ?_⟩) (by assumption) ?_
    case refine_2 =>
      intro w hSw
      (try dsimp only at hSw)
      (try go_simp)
      all_goals (with_reducible rfl)
    (try dsimp only [Act.put]); (try simp only [List.setIfInBounds_toArray, List.set_cons_zero, List.set_cons_succ])
    refine wpAnyH_done (by kernel_rfl) ?_ _
    all_goals
      have bR3 := (bR2.set_ 0 (.int .i64 0)).set_ 1 (.int .i64 0)
      have hB3 := ((hBV.trans (hb2.mono hBV.size)).setCell (p := ⟨w.heap.size, 0, none⟩) (Nat.le_refl _) (.int .i64 0)).setCell (p := ⟨w.heap.size, 1, none⟩) (Nat.le_refl _) (.int .i64 0)
      go_wp2_with fail
      exact bodyPost_ret (res_mv rfl _ _ rfl bR3) rfl ⟨rfl, hB3⟩
  | some m =>
    obtain ⟨a, b⟩ := m
    rw [moveV_some hr] at hm
    have HM := Lib.hid hm
    clear hm
    go_enter Tryz.func67, Tryz.ntmps67
    go_wp2_with fail
    rw [HW.out]
    refine HM.out.mono ?_
    rintro e W1 ⟨rfl, hb1⟩
    go_wp2_with fail
    obtain ⟨V, hV⟩ : ∃ V, W1.alloc (.cells #[.int .i64 a, .int .i64 b] 60) = V := ⟨_, rfl⟩
    have bV : Blk V W1.heap.size 60 #[.int .i64 a, .int .i64 b] := by rw [← hV]; exact Blk.new _ _ _ rfl
    have hbV : Below W0.heap.size W0 V := by rw [← hV]; exact hb1.alloc hb1.size _
    have hEV := hE0.next hbV
    have bRV := bR.next hbV
    have hBV := hB.trans (hbV.mono hB.size)
    have hS : V.drew.cell? ⟨W1.heap.size, 0, none⟩ = some (.int .i64 a) ∧ V.drew.cell? ⟨W1.heap.size, 1, none⟩ = some (.int .i64 b) := ⟨bV.cell 0, bV.cell 1⟩
    have hSd : Below V.heap.size V V.drew := (Below.refl _ _).drew
    have hne2 : w.heap.size ≠ W1.heap.size := by have := hb1.size; have := bR.lt; omega
    have HBV : Hid (V.cell? ⟨W1.heap.size, 0, none⟩ = some (.int .i64 a) ∧ V.cell? ⟨W1.heap.size, 1, none⟩ = some (.int .i64 b)) := ⟨bV.cell 0, bV.cell 1⟩
    have hlt := bV.lt
    rw [hV]
    clear hV hb1
    refine wp_region_held_drew (S := fun X => X.cell? ⟨W1.heap.size, 0, none⟩ = some (.int .i64 a) ∧ X.cell? ⟨W1.heap.size, 1, none⟩ = some (.int .i64 b)) (by kernel_rfl) (hS) (fun hHeld => ?_)
    refine wpAnyH_take (i := 0) (oi := { dst := some 11, op := Op.load 60 (Operand.tmp 4), type := 60, pos := "iccs.go:40", after := #[], guard := none }) (v := ?_) rfl (by kernel_rfl) (by kernel_rfl) (by kernel_rfl) (fun _ _ _ h => h) (Or.inl ⟨by rfl, ?_⟩) (by assumption) ?_
    case refine_2 =>
      intro w hSw
      (try dsimp only at hSw)
      (try go_simp)
      all_goals (with_reducible rfl)
    (try dsimp only [Act.put]); (try simp only [List.setIfInBounds_toArray, List.set_cons_zero, List.set_cons_succ])
    refine wpAnyH_take (i := 1) (oi := { dst := some 12, op := Op.move (Operand.tmp 5), type := 69, pos := "iccs.go:40", after := #[], guard := none }) (v := ?_) rfl (by kernel_rfl) (by kernel_rfl) (by kernel_rfl) (fun _ _ _ h => h) (Or.inl ⟨by rfl, ?_⟩) (by assumption) ?_
    case refine_2 =>
      intro w hSw
      (try dsimp only at hSw)
      (try go_simp)
      all_goals (with_reducible rfl)
    (try dsimp only [Act.put]); (try simp only [List.setIfInBounds_toArray, List.set_cons_zero, List.set_cons_succ])
    refine wpAnyH_ready (rs := [2]) (by kernel_rfl) (by simp) (AllReadyH.cons (o := { dst := some 13, op := Op.call { callee := Callee.value (Operand.func 98), args := #[Operand.tmp 12], argTypes := #[69] }, type := 33, pos := "iccs.go:40", after := #[{ on := 1, ground := Ground.data }], guard := none }) rfl (fun K hK => ?_) AllReadyH.nil)
    go_simp
    refine (number_is (hEV.next hSd) s 0 (by decide)).mono ?_; rintro e W2 ⟨rfl, hb⟩; have hb2 := hSd.trans (hb.mono hSd.size); have bR2 := bRV.next hb2; have r0 : W2.cell? ⟨w.heap.size, 0, none⟩ = some (.int .i64 0) := bR2.cell 0; have r1 : W2.cell? ⟨w.heap.size, 1, none⟩ = some (.int .i64 0) := bR2.cell 1; have f0 := bR2.frozen 0; have f1 := bR2.frozen 1
    refine hK.out _ _ ?_ (fun hHeld => ?_)
    · exact ⟨(mv_of HBV.out hlt hlt hb2).1, (mv_of HBV.out hlt hlt hb2).2.1⟩
    clear hK K
    refine wpAnyH_ready (rs := [3]) (by kernel_rfl) (by simp) (AllReadyH.cons (o := { dst := none, op := Op.store 60 (Operand.tmp 2) (Operand.tmp 11), type := 0, pos := "iccs.go:40", after := #[{ on := 0, ground := Ground.data }, { on := 2, ground := Ground.chain }, { on := 0, ground := Ground.phase }, { on := 1, ground := Ground.textOnly Departure.lateStores }, { on := 2, ground := Ground.textOnly Departure.lateStoresUnsure }], guard := none }) rfl (fun K hK => ?_) AllReadyH.nil)
    go_simp
    refine hK.out _ _ ?_ (fun hHeld => ?_)
    · exact ⟨(World.cell?_setCell_far _ _ _ _ hne2).trans ((World.cell?_setCell_far _ _ _ _ hne2).trans hHeld.1), (World.cell?_setCell_far _ _ _ _ hne2).trans ((World.cell?_setCell_far _ _ _ _ hne2).trans hHeld.2)⟩
    clear hK K
    (try dsimp only [Act.put]); (try simp only [List.setIfInBounds_toArray, List.set_cons_zero, List.set_cons_succ])
    refine wpAnyH_take (i := 4) (oi := { dst := some 3, op := Op.assign (Operand.tmp 13), type := 33, pos := "iccs.go:40", after := #[{ on := 2, ground := Ground.data }, { on := 3, ground := Ground.chain }, { on := 0, ground := Ground.phase }, { on := 1, ground := Ground.phase }, { on := 2, ground := Ground.phase }, { on := 3, ground := Ground.phase }], guard := none }) (v := ?_) rfl (by kernel_rfl) (by kernel_rfl) (by kernel_rfl) (fun _ _ _ h => h) (Or.inl ⟨by rfl, ?_⟩) (by assumption) ?_
    case refine_2 =>
      intro w hSw
      (try dsimp only at hSw)
      (try go_simp)
      all_goals (with_reducible rfl)
    (try dsimp only [Act.put]); (try simp only [List.setIfInBounds_toArray, List.set_cons_zero, List.set_cons_succ])
    refine wpAnyH_done (by kernel_rfl) ?_ _
    all_goals
      have bR3 := (bR2.set_ 0 (.int .i64 a)).set_ 1 (.int .i64 b)
      have hB3 := ((hBV.trans (hb2.mono hBV.size)).setCell (p := ⟨w.heap.size, 0, none⟩) (Nat.le_refl _) (.int .i64 a)).setCell (p := ⟨w.heap.size, 1, none⟩) (Nat.le_refl _) (.int .i64 b)
      go_wp2_with fail
      exact bodyPost_ret (res_mv rfl _ _ rfl bR3) rfl ⟨rfl, hB3⟩
set_option maxRecDepth 100000 in
set_option maxHeartbeats 2000000 in
theorem rsqt_is (n : Int) (t : ByteArray) (w : World) (hn : sqI n = true) (h : sqTxt n.toNat = t) : Calls Tryz.prog 55 #[.int .i64 n] w (Gives w (.string t)) := by
  unfold Gives
  obtain ⟨h0, h1⟩ := sqI_iff.1 hn
  obtain ⟨k, rfl⟩ : ∃ k : Nat, n = k := ⟨n.toNat, by omega⟩
  obtain ⟨x, hx⟩ : ∃ x, 97 + k % 9 = x := ⟨_, rfl⟩
  obtain ⟨y, hy⟩ : ∃ y, 48 + k / 9 = y := ⟨_, rfl⟩
  have ht : (⟨#[UInt8.ofNat x, UInt8.ofNat y]⟩ : ByteArray) = t := by rw [← h, Int.toNat_natCast]; unfold sqTxt; rw [hx, hy]
  have j1 : (k : Int) % 9 = ((k % 9 : Nat) : Int) := by omega
  have j2 : (k : Int) / 9 = ((k / 9 : Nat) : Int) := by omega
  have i1 : IntKind.i64.wrap (97 + (k : Int) % 9) = (x : Int) := by rw [IntWalk.i64_in _ (by omega)]; omega
  have i2 : IntKind.i64.wrap (48 + (k : Int) / 9) = (y : Int) := by rw [IntWalk.i64_in _ (by omega)]; omega
  have j3 : wrap64 ((k : Int) / 9) = (k : Int) / 9 := IntWalk.wrap64_in _ (by omega)
  have j4 : wrap64 (48 + (k : Int) / 9) = (y : Int) := by rw [IntWalk.wrap64_in _ (by omega)]; omega
  have j5 : (y : Int) % 256 = (y : Int) := by omega
  have i3 : IntKind.u8.wrap (x : Int) = (x : Int) := IntWalk.u8_in _ (by omega)
  have i4 : IntKind.u8.wrap (y : Int) = (y : Int) := IntWalk.u8_in _ (by omega)
  have hcv : ∀ (W : World) (g C : Nat), W.cell? ⟨g, 0, none⟩ = some (.int .u8 (x : Int)) → W.cell? ⟨g, 1, none⟩ = some (.int .u8 (y : Int)) → (convert 64 9 (.slice (some ⟨g, 0, none⟩) 2 C)).run Tryz.prog W = .ok (.string t) W := fun W g C h k => by rw [← ht]; exact txt2_of W g C x y (by omega) (by omega) h k
  have HT := Lib.hid ht
  clear ht h hn h0 h1 hx hy j1 j2
  go_enter Tryz.func55, Tryz.ntmps55
  go_wp2_with fail
  go_ret
  exact ⟨rfl, (by repeat (first | exact Below.refl _ _ | (refine Below.setCell ?_ (by first | omega | (simp; done) | (simp; omega) | (simp at *; omega)) _) | (refine Below.alloc ?_ (by first | omega | (simp; done) | (simp; omega) | (simp at *; omega)) _) | refine Below.drew ?_ | (refine below_drewN ?_ _) | (refine Below.trans ?_ (Below.mono (by assumption) (by first | omega | (simp; done) | (simp; omega) | (simp at *; omega))))))⟩
end Go.Proofs.YtpogpjebhnoncabGreatDoor
