/- What the call that reads a move's text answers; Parse. -/
import Derived.Test.YtpogpjebhnoncabGreatDoorIccsD
namespace Go.Proofs.YtpogpjebhnoncabGreatDoor
open Go.RowKit Go.Shelf
open M (S)

theorem bAt_ext (t : ByteArray) (i j k : Nat) (hj : j ≤ t.size) (hk : i + k < j) : bAt (t.extract i j) k = bAt t (i + k) := by
  have h1 : k < (t.extract i j).size := by rw [ByteArray.size_extract]; omega
  unfold bAt
  rw [dif_pos h1, dif_pos (by omega)]
  congr 1
  exact ByteArray.getElem_extract h1
theorem bAt_left (a b : ByteArray) (k : Nat) (h : k < a.size) : bAt (a ++ b) k = bAt a k := by
  unfold bAt
  rw [dif_pos (by rw [ByteArray.size_append]; omega), dif_pos h]
  congr 1
  exact ByteArray.getElem_append_left h
theorem bAt_right (a b : ByteArray) (k : Nat) (h : k < b.size) : bAt (a ++ b) (a.size + k) = bAt b k := by
  unfold bAt
  rw [dif_pos (by rw [ByteArray.size_append]; omega), dif_pos h]
  congr 1
  rw [ByteArray.getElem_append_right (by omega)]
  congr 1
  omega
/-- A text of two bytes: its square. -/
def sqOf (x : ByteArray) : Int := sqT (bAt x 0) (bAt x 1)
theorem rsq_of (x : ByteArray) (w : World) (h : x.size = 2) : Calls Tryz.prog 122 #[.string x] w (Gives w (.int .i64 (sqOf x))) := rsq_any x _ _ w (by omega) rfl rfl
/-- What is read of a text, and which error. -/
def moveV (a0 : Addr) (s : ByteArray) : Value := match readT s with
  | some m => .tuple #[.agg #[.int .i64 m.1, .int .i64 m.2], .nilIface]
  | none => .tuple #[.agg #[.int .i64 0, .int .i64 0], faultV s a0]
theorem moveV_none {a0 : Addr} {s : ByteArray} (h : readT s = none) : moveV a0 s = .tuple #[.agg #[.int .i64 0, .int .i64 0], faultV s a0] := by unfold moveV; rw [h]
theorem moveV_some {a0 : Addr} {s : ByteArray} {a b : Int} (h : readT s = some (a, b)) : moveV a0 s = .tuple #[.agg #[.int .i64 a, .int .i64 b], .nilIface] := by unfold moveV; rw [h]
theorem res_mv {fn : Func} {p u : Tmp} (h : fn.results = #[.cell p 60, .tmp u]) (tmps : Array Value) (w : World) {g : Nat} {a b : Value} (hp : tmps.getD p undef = .pointer (some ⟨g, 0, none⟩)) (hb : Blk w g 60 #[a, b]) :
    (results fn tmps).run Tryz.prog w = .ok (.tuple #[.agg #[a, b], tmps.getD u undef]) w := by
  rw [results_cell_tmp h, hp]
  have h1 := run_loadVar_row (P := Tryz.prog) w g 60 60 #[a, b] (0, 0) _ hb Tryz.underlying60 rfl (by kernel_rfl)
  simp [asAddr, h1, Result.andThen]
set_option maxRecDepth 100000 in
set_option maxHeartbeats 4000000 in
theorem rmove_any {w : World} {a0 a1 a2 : Addr} (h : Errs w a0 a1 a2) (s : ByteArray) : Calls Tryz.prog 97 #[.string s] w (Gives w (moveV a0 s)) := by
  unfold Gives
  obtain ⟨W0, hW0⟩ : ∃ W0, w.alloc (.cells #[.int .i64 0, .int .i64 0] 60) = W0 := ⟨_, rfl⟩
  have hB : Below w.heap.size w W0 := by rw [← hW0]; exact (by repeat (first | exact Below.refl _ _ | (refine Below.setCell ?_ (by first | omega | (simp; done) | (simp; omega) | (simp at *; omega)) _) | (refine Below.alloc ?_ (by first | omega | (simp; done) | (simp; omega) | (simp at *; omega)) _) | refine Below.drew ?_ | (refine below_drewN ?_ _) | (refine Below.trans ?_ (Below.mono (by assumption) (by first | omega | (simp; done) | (simp; omega) | (simp at *; omega))))))
  have bM : Blk W0 w.heap.size 60 #[.int .i64 0, .int .i64 0] := by rw [← hW0]; exact Blk.new _ _ _ rfl
  have hg := (h.next hB).g0
  obtain ⟨r0, r1⟩ : W0.cell? ⟨w.heap.size, 0, none⟩ = some (.int .i64 0) ∧ W0.cell? ⟨w.heap.size, 1, none⟩ = some (.int .i64 0) := ⟨bM.cell 0, bM.cell 1⟩
  obtain ⟨f0, f1⟩ : W0.frozen? ⟨w.heap.size, 0, none⟩ = false ∧ W0.frozen? ⟨w.heap.size, 1, none⟩ = false := ⟨bM.frozen 0, bM.frozen 1⟩
  have hz : 3 < w.heap.size := cell_lt h.g0
  have hz0 : ¬ 3 = w.heap.size := by omega
  have hz1 : ¬ w.heap.size = 3 := by omega
  have hg2 : ((W0.setCell ⟨w.heap.size, 0, none⟩ (.int .i64 0)).setCell ⟨w.heap.size, 1, none⟩ (.int .i64 0)).cell? ⟨3, 0, none⟩ = some (errV a0) := by
    rw [World.cell?_setCell_far _ _ _ _ hz1, World.cell?_setCell_far _ _ _ _ hz1]
    exact hg
  have bR0 := (bM.set_ 0 (.int .i64 0)).set_ 1 (.int .i64 0)
  have bR := bR0.next (Below.refl _ _).drew
  have hBR0 := (hB.setCell (p := ⟨w.heap.size, 0, none⟩) (Nat.le_refl _) (.int .i64 0)).setCell (p := ⟨w.heap.size, 1, none⟩) (Nat.le_refl _) (.int .i64 0)
  have hBR := hBR0.drew
  have HW := Lib.hid hW0
  clear hW0
  by_cases hform : s.size ≠ 4 ∧ ¬ (s.size = 5 ∧ bAt s 2 = 45)
  · have hv : moveV a0 s = .tuple #[.agg #[.int .i64 0, .int .i64 0], faultV s a0] := moveV_none (by unfold readT; rw [if_neg hform.2, if_neg hform.1])
    rw [hv]
    have n4 : ¬ (s.size : Int) = 4 := by omega
    by_cases h5 : s.size = 5
    · have i2 : (s[2]'(by omega)).toNat = bAt s 2 := bAt_eq s 2 (by omega)
      obtain ⟨x, hx⟩ : ∃ x, bAt s 2 = x := ⟨_, rfl⟩
      have nx : ¬ (x : Int) = 45 := by have := hform.2; rw [hx] at this; omega
      rw [hx] at i2
      have e5 : (s.size : Int) = 5 := by omega
      have l2 : (2 : Int) < s.size := by omega
      clear hform hx hv
      go_enter Tryz.func97, Tryz.ntmps97
      go_wp2_with fail
      rw [HW.out]
      go_region_with (fail)
      all_goals
        go_wp2_with fail
        first
        | exact bodyPost_ret (res_mv rfl _ _ rfl bR) rfl ⟨rfl, hBR⟩
        | exact bodyPost_ret (res_mv rfl _ _ rfl bR0) rfl ⟨rfl, hBR0⟩
    · have n5 : ¬ (s.size : Int) = 5 := by omega
      clear hform hv h5
      go_enter Tryz.func97, Tryz.ntmps97
      go_wp2_with fail
      rw [HW.out]
      go_region_with (fail)
      all_goals
        go_wp2_with fail
        first
        | exact bodyPost_ret (res_mv rfl _ _ rfl bR) rfl ⟨rfl, hBR⟩
        | exact bodyPost_ret (res_mv rfl _ _ rfl bR0) rfl ⟨rfl, hBR0⟩
  · obtain ⟨T, c0, c1, c2, c3, ht, hT4, k0, k1, k2, k3, hrd⟩ : ∃ T c0 c1 c2 c3, (s.size = 4 ∧ T = s ∨ s.size = 5 ∧ bAt s 2 = 45 ∧ T = s.extract 0 2 ++ s.extract 3 5) ∧ T.size = 4 ∧ bAt T 0 = c0 ∧ bAt T 1 = c1 ∧ bAt T 2 = c2 ∧ bAt T 3 = c3 ∧ readT s = twoT c0 c1 c2 c3 := by
      by_cases h4 : s.size = 4
      · exact ⟨s, _, _, _, _, .inl ⟨h4, rfl⟩, h4, rfl, rfl, rfl, rfl, by unfold readT; rw [if_neg (by omega), if_pos h4]⟩
      · have h5 : s.size = 5 ∧ bAt s 2 = 45 := by
          by_cases h5 : s.size = 5 ∧ bAt s 2 = 45
          · exact h5
          · exact absurd ⟨h4, h5⟩ hform
        have z0 : (s.extract 0 2).size = 2 := by rw [ByteArray.size_extract]; omega
        have z1 : (s.extract 3 5).size = 2 := by rw [ByteArray.size_extract]; omega
        refine ⟨_, bAt s 0, bAt s 1, bAt s 3, bAt s 4, .inr ⟨h5.1, h5.2, rfl⟩, by rw [ByteArray.size_append]; omega, ?_, ?_, ?_, ?_, by unfold readT; rw [if_pos h5]⟩
        · rw [bAt_left _ _ 0 (by omega), bAt_ext _ _ _ _ (by omega) (by omega)]
        · rw [bAt_left _ _ 1 (by omega), bAt_ext _ _ _ _ (by omega) (by omega)]
        · have := bAt_right (s.extract 0 2) (s.extract 3 5) 0 (by omega)
          rw [z0, bAt_ext _ _ _ _ (by omega) (by omega)] at this
          exact this
        · have := bAt_right (s.extract 0 2) (s.extract 3 5) 1 (by omega)
          rw [z0, bAt_ext _ _ _ _ (by omega) (by omega)] at this
          exact this
    have z0 : (T.extract 0 2).size = 2 := by rw [ByteArray.size_extract]; omega
    have z1 : (T.extract 2 4).size = 2 := by rw [ByteArray.size_extract]; omega
    have qa : sqOf (T.extract 0 2) = sqT c0 c1 := by unfold sqOf; rw [bAt_ext _ _ _ _ (by omega) (by omega), bAt_ext _ _ _ _ (by omega) (by omega)]; show sqT (bAt T 0) (bAt T 1) = _; rw [k0, k1]
    have qb : sqOf (T.extract 2 4) = sqT c2 c3 := by unfold sqOf; rw [bAt_ext _ _ _ _ (by omega) (by omega), bAt_ext _ _ _ _ (by omega) (by omega)]; show sqT (bAt T 2) (bAt T 3) = _; rw [k2, k3]
    have e4 : (T.size : Int) = 4 := by omega
    have hadd : s.size = 5 → T = s.extract 0 2 ++ s.extract 3 5 → ∀ W, (Op.stringOp .add (s.extract 0 2) (s.extract 3 5)).run Tryz.prog W = .ok (.string T) W := fun h5 h6 W => by
      rw [h6]
      exact run_string_add_sum _ _ _ (by rw [ByteArray.size_extract, ByteArray.size_extract]; omega)
    obtain ⟨a, ha⟩ : ∃ a, sqT c0 c1 = a := ⟨_, rfl⟩
    obtain ⟨b, hb⟩ : ∃ b, sqT c2 c3 = b := ⟨_, rfl⟩
    have hv : moveV a0 s = if 0 ≤ a ∧ 0 ≤ b then .tuple #[.agg #[.int .i64 a, .int .i64 b], .nilIface] else .tuple #[.agg #[.int .i64 0, .int .i64 0], faultV s a0] := by
      unfold moveV
      rw [hrd]
      unfold twoT
      rw [ha, hb]
      by_cases hc : 0 ≤ a ∧ 0 ≤ b
      · rw [if_pos hc, if_pos hc]
      · rw [if_neg hc, if_neg hc]
    obtain ⟨X0, hX0⟩ : ∃ x, T.extract 0 2 = x := ⟨_, rfl⟩
    obtain ⟨X1, hX1⟩ : ∃ x, T.extract 2 4 = x := ⟨_, rfl⟩
    rw [hX0] at z0 qa
    rw [hX1] at z1 qb
    rw [ha] at qa
    rw [hb] at qb
    have HV := Lib.hid hv
    have HQ := Lib.hid (And.intro qa qb)
    clear k0 k1 k2 k3 hrd hv qa qb hform
    rcases ht with ⟨h4, rfl⟩ | ⟨h5, hx, h6⟩
    · have n5 : ¬ (T.size : Int) = 5 := by omega
      clear hadd
      go_enter Tryz.func97, Tryz.ntmps97
      go_wp2_with fail
      rw [HW.out]
      obtain ⟨V, hV⟩ : ∃ V, W0 = V := ⟨_, rfl⟩
      rw [hV]
      have bMV : Blk V w.heap.size 60 #[.int .i64 0, .int .i64 0] := by rw [← hV]; first | exact bM | exact bM.next (Below.refl _ _).drew
      have hBV : Below w.heap.size w V := by rw [← hV]; first | exact hB | exact hB.drew
      have hEV := h.next hBV
      have hVs : w.heap.size < V.heap.size := bMV.lt
      have hS1 : Below V.heap.size V V.drew := (Below.refl _ _).drew
      have HBZ : Hid (Blk (V.alloc (.cells #[.int .i64 0, .int .i64 0] 60)).drew V.heap.size 60 #[.int .i64 0, .int .i64 0]) := (Blk.new V 60 #[.int .i64 0, .int .i64 0] rfl).next (Below.refl _ _).drew
      clear bM hg r0 r1 f0 f1 hg2 bR0 bR hBR0 hBR hV
      refine wp_region_held_drew (S := fun W => Below V.heap.size V W) (by kernel_rfl) (hS1) (fun hHeld => ?_)
      refine wpAnyH_take (i := 0) (oi := { dst := some 28, op := Op.move (Operand.tmp 4), type := 9, pos := "iccs.go:122", after := #[], guard := none }) (v := ?_) rfl (by kernel_rfl) (by kernel_rfl) (by kernel_rfl) (fun _ _ _ h => h) (Or.inl ⟨by rfl, ?_⟩) (by assumption) ?_
      case refine_2 =>
        intro w hSw
        (try dsimp only at hSw)
        (try go_simp)
        all_goals (with_reducible rfl)
      (try dsimp only [Act.put]); (try simp only [List.setIfInBounds_toArray, List.set_cons_zero, List.set_cons_succ])
      refine wpAnyH_take (i := 1) (oi := { dst := some 29, op := Op.slice 9 (Operand.tmp 28) none (some (Operand.const (Value.int IntKind.i64 2))) none, type := 9, pos := "iccs.go:122", after := #[{ on := 0, ground := Ground.data }], guard := none }) (v := ?_) rfl (by kernel_rfl) (by kernel_rfl) (by kernel_rfl) (fun _ _ _ h => h) (Or.inl ⟨by rfl, ?_⟩) (by assumption) ?_
      case refine_2 =>
        intro w hSw
        (try dsimp only at hSw)
        (try go_simp)
        all_goals (with_reducible rfl)
      (try dsimp only [Act.put]); (try simp only [List.setIfInBounds_toArray, List.set_cons_zero, List.set_cons_succ])
      refine wpAnyH_take (i := 3) (oi := { dst := some 31, op := Op.move (Operand.tmp 4), type := 9, pos := "iccs.go:122", after := #[], guard := none }) (v := ?_) rfl (by kernel_rfl) (by kernel_rfl) (by kernel_rfl) (fun _ _ _ h => h) (Or.inl ⟨by rfl, ?_⟩) (by assumption) ?_
      case refine_2 =>
        intro w hSw
        (try dsimp only at hSw)
        (try go_simp)
        all_goals (with_reducible rfl)
      (try dsimp only [Act.put]); (try simp only [List.setIfInBounds_toArray, List.set_cons_zero, List.set_cons_succ])
      refine wpAnyH_take (i := 4) (oi := { dst := some 32, op := Op.slice 9 (Operand.tmp 31) (some (Operand.const (Value.int IntKind.i64 2))) none none, type := 9, pos := "iccs.go:122", after := #[{ on := 3, ground := Ground.data }], guard := none }) (v := ?_) rfl (by kernel_rfl) (by kernel_rfl) (by kernel_rfl) (fun _ _ _ h => h) (Or.inl ⟨by rfl, ?_⟩) (by assumption) ?_
      case refine_2 =>
        intro w hSw
        (try dsimp only at hSw)
        (try go_simp)
        all_goals (with_reducible rfl)
      (try dsimp only [Act.put]); (try simp only [List.setIfInBounds_toArray, List.set_cons_zero, List.set_cons_succ])
      refine wpAnyH_ready (rs := [2, 7]) (by kernel_rfl) (by simp) (AllReadyH.cons (o := { dst := some 30, op := Op.call { callee := Callee.value (Operand.func 122), args := #[Operand.tmp 29], argTypes := #[9] }, type := 3, pos := "iccs.go:122", after := #[{ on := 1, ground := Ground.data }], guard := none }) rfl (fun K hK => ?rd1) (AllReadyH.cons (o := { dst := some 5, op := Op.alloc 60, type := 0, pos := "iccs.go:122", after := #[], guard := none }) rfl (fun K hK => ?rd2) AllReadyH.nil))
      case' rd1 =>
        go_simp
        refine (rsq_of _ _ ?_).mono ?_; (first | exact z0 | exact z1); first | (have hh := hcall1; rintro e w3 ⟨rfl, hb⟩; have hB3 : Below V.heap.size V w3 := hHeld.trans (hb.mono hHeld.size); (try (have bz := (by first | exact bz.next hb | exact (Blk.new w2 60 #[.int .i64 0, .int .i64 0] rfl).next hb); have y2 := bz.cell 0; have y3 := bz.cell 1; have y0 := bz.frozen 0; have y1 := bz.frozen 1))) | (rintro e w2 ⟨rfl, hb⟩; have hcall1 : True := trivial; have hz2 : V.heap.size ≤ w2.heap.size := Nat.le_trans (by first | exact hHeld.size | exact hS1.size) hb.size; (try have bz := HBZ.out.next hb))
        refine hK.out _ _ ?_ (fun hHeld => ?_)
        · first | exact hHeld.trans (hb.mono hHeld.size) | exact hS1.trans (hb.mono hS1.size)
        clear hK K
        refine wpAnyH_ready (rs := [5, 7]) (by kernel_rfl) (by simp) (AllReadyH.cons (o := { dst := some 33, op := Op.call { callee := Callee.value (Operand.func 122), args := #[Operand.tmp 32], argTypes := #[9] }, type := 3, pos := "iccs.go:122", after := #[{ on := 4, ground := Ground.data }, { on := 2, ground := Ground.chain }], guard := none }) rfl (fun K hK => ?rd3) (AllReadyH.cons (o := { dst := some 5, op := Op.alloc 60, type := 0, pos := "iccs.go:122", after := #[], guard := none }) rfl (fun K hK => ?rd4) AllReadyH.nil))
        case' rd3 =>
          go_simp
          refine (rsq_of _ _ ?_).mono ?_; (first | exact z0 | exact z1); first | (have hh := hcall1; rintro e w3 ⟨rfl, hb⟩; have hB3 : Below V.heap.size V w3 := hHeld.trans (hb.mono hHeld.size); (try (have bz := (by first | exact bz.next hb | exact (Blk.new w2 60 #[.int .i64 0, .int .i64 0] rfl).next hb); have y2 := bz.cell 0; have y3 := bz.cell 1; have y0 := bz.frozen 0; have y1 := bz.frozen 1))) | (rintro e w2 ⟨rfl, hb⟩; have hcall1 : True := trivial; have hz2 : V.heap.size ≤ w2.heap.size := Nat.le_trans (by first | exact hHeld.size | exact hS1.size) hb.size; (try have bz := HBZ.out.next hb))
          refine hK.out _ _ ?_ (fun hHeld => ?_)
          · first | exact hHeld.trans (hb.mono hHeld.size) | exact hS1.trans (hb.mono hS1.size)
          clear hK K
          refine wpAnyH_take (i := 6) (oi := { dst := some 34, op := Op.build 60 #[(0, Operand.tmp 30), (1, Operand.tmp 33)], type := 60, pos := "iccs.go:122", after := #[{ on := 2, ground := Ground.data }, { on := 5, ground := Ground.data }], guard := none }) (v := ?_) rfl (by kernel_rfl) (by kernel_rfl) (by kernel_rfl) (fun _ _ _ h => h) (Or.inl ⟨by rfl, ?_⟩) (by assumption) ?_
          case refine_2 =>
            intro w hSw
            (try dsimp only at hSw)
            (try go_simp)
            all_goals (with_reducible rfl)
          (try dsimp only [Act.put]); (try simp only [List.setIfInBounds_toArray, List.set_cons_zero, List.set_cons_succ])
          refine wpAnyH_ready (rs := [7]) (by kernel_rfl) (by simp) (AllReadyH.cons (o := { dst := some 5, op := Op.alloc 60, type := 0, pos := "iccs.go:122", after := #[], guard := none }) rfl (fun K hK => ?_) AllReadyH.nil)
          go_simp
          refine hK.out _ _ ?_ (fun hHeld => ?_)
          · first | exact ((Below.refl _ V).alloc (Nat.le_refl _) _).drew | exact hHeld.alloc hHeld.size _
          clear hK K
          (try dsimp only [Act.put]); (try simp only [List.setIfInBounds_toArray, List.set_cons_zero, List.set_cons_succ])
          refine wpAnyH_ready (rs := [8]) (by kernel_rfl) (by simp) (AllReadyH.cons (o := { dst := none, op := Op.store 60 (Operand.tmp 5) (Operand.tmp 34), type := 0, pos := "iccs.go:122", after := #[{ on := 7, ground := Ground.data }, { on := 6, ground := Ground.data }, { on := 5, ground := Ground.chain }, { on := 0, ground := Ground.phase }, { on := 1, ground := Ground.phase }, { on := 2, ground := Ground.phase }, { on := 3, ground := Ground.phase }, { on := 4, ground := Ground.phase }, { on := 5, ground := Ground.phase }, { on := 6, ground := Ground.phase }, { on := 7, ground := Ground.phase }], guard := none }) rfl (fun K hK => ?_) AllReadyH.nil)
          go_simp
          refine hK.out _ _ ?_ (fun hHeld => ?_)
          · first | exact (hHeld.setCell (p := ⟨V.heap.size, 0, none⟩) (Nat.le_refl _) _).setCell (p := ⟨V.heap.size, 1, none⟩) (Nat.le_refl _) _ | exact (hHeld.setCell (p := ⟨w2.heap.size, 0, none⟩) hz2 _).setCell (p := ⟨w2.heap.size, 1, none⟩) hz2 _ | exact hB3.alloc hB3.size _
          clear hK K
          (try dsimp only [Act.put]); (try simp only [List.setIfInBounds_toArray, List.set_cons_zero, List.set_cons_succ])
          refine wpAnyH_done (by kernel_rfl) ?_ _
        case' rd4 =>
          go_simp
          refine hK.out _ _ ?_ (fun hHeld => ?_)
          · first | exact ((Below.refl _ V).alloc (Nat.le_refl _) _).drew | exact hHeld.alloc hHeld.size _
          clear hK K
          (try dsimp only [Act.put]); (try simp only [List.setIfInBounds_toArray, List.set_cons_zero, List.set_cons_succ])
          refine wpAnyH_ready (rs := [5]) (by kernel_rfl) (by simp) (AllReadyH.cons (o := { dst := some 33, op := Op.call { callee := Callee.value (Operand.func 122), args := #[Operand.tmp 32], argTypes := #[9] }, type := 3, pos := "iccs.go:122", after := #[{ on := 4, ground := Ground.data }, { on := 2, ground := Ground.chain }], guard := none }) rfl (fun K hK => ?_) AllReadyH.nil)
          go_simp
          refine (rsq_of _ _ ?_).mono ?_; (first | exact z0 | exact z1); first | (have hh := hcall1; rintro e w3 ⟨rfl, hb⟩; have hB3 : Below V.heap.size V w3 := hHeld.trans (hb.mono hHeld.size); (try (have bz := (by first | exact bz.next hb | exact (Blk.new w2 60 #[.int .i64 0, .int .i64 0] rfl).next hb); have y2 := bz.cell 0; have y3 := bz.cell 1; have y0 := bz.frozen 0; have y1 := bz.frozen 1))) | (rintro e w2 ⟨rfl, hb⟩; have hcall1 : True := trivial; have hz2 : V.heap.size ≤ w2.heap.size := Nat.le_trans (by first | exact hHeld.size | exact hS1.size) hb.size; (try have bz := HBZ.out.next hb))
          refine hK.out _ _ ?_ (fun hHeld => ?_)
          · first | exact hHeld.trans (hb.mono hHeld.size) | exact hS1.trans (hb.mono hS1.size)
          clear hK K
          refine wpAnyH_take (i := 6) (oi := { dst := some 34, op := Op.build 60 #[(0, Operand.tmp 30), (1, Operand.tmp 33)], type := 60, pos := "iccs.go:122", after := #[{ on := 2, ground := Ground.data }, { on := 5, ground := Ground.data }], guard := none }) (v := ?_) rfl (by kernel_rfl) (by kernel_rfl) (by kernel_rfl) (fun _ _ _ h => h) (Or.inl ⟨by rfl, ?_⟩) (by assumption) ?_
          case refine_2 =>
            intro w hSw
            (try dsimp only at hSw)
            (try go_simp)
            all_goals (with_reducible rfl)
          (try dsimp only [Act.put]); (try simp only [List.setIfInBounds_toArray, List.set_cons_zero, List.set_cons_succ])
          refine wpAnyH_ready (rs := [8]) (by kernel_rfl) (by simp) (AllReadyH.cons (o := { dst := none, op := Op.store 60 (Operand.tmp 5) (Operand.tmp 34), type := 0, pos := "iccs.go:122", after := #[{ on := 7, ground := Ground.data }, { on := 6, ground := Ground.data }, { on := 5, ground := Ground.chain }, { on := 0, ground := Ground.phase }, { on := 1, ground := Ground.phase }, { on := 2, ground := Ground.phase }, { on := 3, ground := Ground.phase }, { on := 4, ground := Ground.phase }, { on := 5, ground := Ground.phase }, { on := 6, ground := Ground.phase }, { on := 7, ground := Ground.phase }], guard := none }) rfl (fun K hK => ?_) AllReadyH.nil)
          go_simp
          refine hK.out _ _ ?_ (fun hHeld => ?_)
          · first | exact (hHeld.setCell (p := ⟨V.heap.size, 0, none⟩) (Nat.le_refl _) _).setCell (p := ⟨V.heap.size, 1, none⟩) (Nat.le_refl _) _ | exact (hHeld.setCell (p := ⟨w2.heap.size, 0, none⟩) hz2 _).setCell (p := ⟨w2.heap.size, 1, none⟩) hz2 _ | exact hB3.alloc hB3.size _
          clear hK K
          (try dsimp only [Act.put]); (try simp only [List.setIfInBounds_toArray, List.set_cons_zero, List.set_cons_succ])
          refine wpAnyH_done (by kernel_rfl) ?_ _
      case' rd2 =>
        go_simp
        refine hK.out _ _ ?_ (fun hHeld => ?_)
        · first | exact ((Below.refl _ V).alloc (Nat.le_refl _) _).drew | exact hHeld.alloc hHeld.size _
        clear hK K
        (try dsimp only [Act.put]); (try simp only [List.setIfInBounds_toArray, List.set_cons_zero, List.set_cons_succ])
        refine wpAnyH_ready (rs := [2]) (by kernel_rfl) (by simp) (AllReadyH.cons (o := { dst := some 30, op := Op.call { callee := Callee.value (Operand.func 122), args := #[Operand.tmp 29], argTypes := #[9] }, type := 3, pos := "iccs.go:122", after := #[{ on := 1, ground := Ground.data }], guard := none }) rfl (fun K hK => ?_) AllReadyH.nil)
        go_simp
        refine (rsq_of _ _ ?_).mono ?_; (first | exact z0 | exact z1); first | (have hh := hcall1; rintro e w3 ⟨rfl, hb⟩; have hB3 : Below V.heap.size V w3 := hHeld.trans (hb.mono hHeld.size); (try (have bz := (by first | exact bz.next hb | exact (Blk.new w2 60 #[.int .i64 0, .int .i64 0] rfl).next hb); have y2 := bz.cell 0; have y3 := bz.cell 1; have y0 := bz.frozen 0; have y1 := bz.frozen 1))) | (rintro e w2 ⟨rfl, hb⟩; have hcall1 : True := trivial; have hz2 : V.heap.size ≤ w2.heap.size := Nat.le_trans (by first | exact hHeld.size | exact hS1.size) hb.size; (try have bz := HBZ.out.next hb))
        refine hK.out _ _ ?_ (fun hHeld => ?_)
        · first | exact hHeld.trans (hb.mono hHeld.size) | exact hS1.trans (hb.mono hS1.size)
        clear hK K
        refine wpAnyH_ready (rs := [5]) (by kernel_rfl) (by simp) (AllReadyH.cons (o := { dst := some 33, op := Op.call { callee := Callee.value (Operand.func 122), args := #[Operand.tmp 32], argTypes := #[9] }, type := 3, pos := "iccs.go:122", after := #[{ on := 4, ground := Ground.data }, { on := 2, ground := Ground.chain }], guard := none }) rfl (fun K hK => ?_) AllReadyH.nil)
        go_simp
        refine (rsq_of _ _ ?_).mono ?_; (first | exact z0 | exact z1); first | (have hh := hcall1; rintro e w3 ⟨rfl, hb⟩; have hB3 : Below V.heap.size V w3 := hHeld.trans (hb.mono hHeld.size); (try (have bz := (by first | exact bz.next hb | exact (Blk.new w2 60 #[.int .i64 0, .int .i64 0] rfl).next hb); have y2 := bz.cell 0; have y3 := bz.cell 1; have y0 := bz.frozen 0; have y1 := bz.frozen 1))) | (rintro e w2 ⟨rfl, hb⟩; have hcall1 : True := trivial; have hz2 : V.heap.size ≤ w2.heap.size := Nat.le_trans (by first | exact hHeld.size | exact hS1.size) hb.size; (try have bz := HBZ.out.next hb))
        refine hK.out _ _ ?_ (fun hHeld => ?_)
        · first | exact hHeld.trans (hb.mono hHeld.size) | exact hS1.trans (hb.mono hS1.size)
        clear hK K
        refine wpAnyH_take (i := 6) (oi := { dst := some 34, op := Op.build 60 #[(0, Operand.tmp 30), (1, Operand.tmp 33)], type := 60, pos := "iccs.go:122", after := #[{ on := 2, ground := Ground.data }, { on := 5, ground := Ground.data }], guard := none }) (v := ?_) rfl (by kernel_rfl) (by kernel_rfl) (by kernel_rfl) (fun _ _ _ h => h) (Or.inl ⟨by rfl, ?_⟩) (by assumption) ?_
        case refine_2 =>
          intro w hSw
          (try dsimp only at hSw)
          (try go_simp)
          all_goals (with_reducible rfl)
        (try dsimp only [Act.put]); (try simp only [List.setIfInBounds_toArray, List.set_cons_zero, List.set_cons_succ])
        refine wpAnyH_ready (rs := [8]) (by kernel_rfl) (by simp) (AllReadyH.cons (o := { dst := none, op := Op.store 60 (Operand.tmp 5) (Operand.tmp 34), type := 0, pos := "iccs.go:122", after := #[{ on := 7, ground := Ground.data }, { on := 6, ground := Ground.data }, { on := 5, ground := Ground.chain }, { on := 0, ground := Ground.phase }, { on := 1, ground := Ground.phase }, { on := 2, ground := Ground.phase }, { on := 3, ground := Ground.phase }, { on := 4, ground := Ground.phase }, { on := 5, ground := Ground.phase }, { on := 6, ground := Ground.phase }, { on := 7, ground := Ground.phase }], guard := none }) rfl (fun K hK => ?_) AllReadyH.nil)
        go_simp
        refine hK.out _ _ ?_ (fun hHeld => ?_)
        · first | exact (hHeld.setCell (p := ⟨V.heap.size, 0, none⟩) (Nat.le_refl _) _).setCell (p := ⟨V.heap.size, 1, none⟩) (Nat.le_refl _) _ | exact (hHeld.setCell (p := ⟨w2.heap.size, 0, none⟩) hz2 _).setCell (p := ⟨w2.heap.size, 1, none⟩) hz2 _ | exact hB3.alloc hB3.size _
        clear hK K
        (try dsimp only [Act.put]); (try simp only [List.setIfInBounds_toArray, List.set_cons_zero, List.set_cons_succ])
        refine wpAnyH_done (by kernel_rfl) ?_ _
      all_goals
        first
        | (obtain ⟨W4, hW4⟩ : ∃ x, ((w3.setCell ⟨V.heap.size, 0, none⟩ (.int .i64 (sqOf X0))).setCell ⟨V.heap.size, 1, none⟩ (.int .i64 (sqOf X1))) = x := ⟨_, rfl⟩
           have bQ : Blk W4 V.heap.size 60 #[.int .i64 (sqOf X0), .int .i64 (sqOf X1)] := by rw [← hW4]; exact (bz.set_ 0 (.int .i64 (sqOf X0))).set_ 1 (.int .i64 (sqOf X1))
           have hgq : w.heap.size < V.heap.size := hVs
           have hb4 : Below V.heap.size V W4 := by rw [← hW4]; exact hHeld
           rw [hW4]
           clear hW4
           clear bz y0 y1 y2 y3
           generalize V.heap.size = gq at bQ hgq ⊢)
        | (obtain ⟨W4, hW4⟩ : ∃ x, ((w3.setCell ⟨w2.heap.size, 0, none⟩ (.int .i64 (sqOf X0))).setCell ⟨w2.heap.size, 1, none⟩ (.int .i64 (sqOf X1))) = x := ⟨_, rfl⟩
           have bQ : Blk W4 w2.heap.size 60 #[.int .i64 (sqOf X0), .int .i64 (sqOf X1)] := by rw [← hW4]; exact (bz.set_ 0 (.int .i64 (sqOf X0))).set_ 1 (.int .i64 (sqOf X1))
           have hgq : w.heap.size < w2.heap.size := Nat.lt_of_lt_of_le hVs hz2
           have hb4 : Below V.heap.size V W4 := by rw [← hW4]; exact hHeld
           rw [hW4]
           clear hW4
           clear bz y0 y1 y2 y3
           generalize w2.heap.size = gq at bQ hgq ⊢)
        | (obtain ⟨W4, hW4⟩ : ∃ x, w3.alloc (.cells #[.int .i64 (sqOf X0), .int .i64 (sqOf X1)] 60) = x := ⟨_, rfl⟩
           have bQ : Blk W4 w3.heap.size 60 #[.int .i64 (sqOf X0), .int .i64 (sqOf X1)] := by rw [← hW4]; exact Blk.new _ _ _ rfl
           have hgq : w.heap.size < w3.heap.size := Nat.lt_of_lt_of_le hVs hB3.size
           have hb4 : Below V.heap.size V W4 := by rw [← hW4]; exact hHeld
           rw [hW4]
           clear hW4
           generalize w3.heap.size = gq at bQ hgq ⊢)
        have hBW := hBV.trans (hb4.mono hBV.size)
        have hEW := hEV.next hb4
        have bRW := bMV.next hb4
        clear hHeld hS1 HBZ hb hB3 hb4 bMV hBV hEV
        obtain ⟨qa, qb⟩ := HQ.out
        rw [qa, qb] at bQ ⊢
        have hg := hEW.g0
        obtain ⟨n0, n1⟩ : W4.cell? ⟨gq, 0, none⟩ = some (.int .i64 a) ∧ W4.cell? ⟨gq, 1, none⟩ = some (.int .i64 b) := ⟨bQ.cell 0, bQ.cell 1⟩
        obtain ⟨r0, r1⟩ : W4.cell? ⟨w.heap.size, 0, none⟩ = some (.int .i64 0) ∧ W4.cell? ⟨w.heap.size, 1, none⟩ = some (.int .i64 0) := ⟨bRW.cell 0, bRW.cell 1⟩
        obtain ⟨f0, f1⟩ : W4.frozen? ⟨w.heap.size, 0, none⟩ = false ∧ W4.frozen? ⟨w.heap.size, 1, none⟩ = false := ⟨bRW.frozen 0, bRW.frozen 1⟩
        by_cases hab : 0 ≤ a ∧ 0 ≤ b
        · have hv := HV.out
          rw [if_pos hab] at hv
          have da : decide (a < 0) = false := by simp; omega
          have db : decide (b < 0) = false := by simp; omega
          have bR := (bRW.set_ 0 (.int .i64 a)).set_ 1 (.int .i64 b)
          have hBR := (hBW.setCell (p := ⟨w.heap.size, 0, none⟩) (Nat.le_refl _) (.int .i64 a)).setCell (p := ⟨w.heap.size, 1, none⟩) (Nat.le_refl _) (.int .i64 b)
          clear qa qb hab
          have HV2 := Lib.hid hv
          clear hv
          go_wp2_with fail
          exact bodyPost_ret (res_mv rfl _ _ rfl bR) rfl ⟨by rw [HV2.out]; rfl, hBR⟩
        · have hv := HV.out
          rw [if_neg hab] at hv
          have hg2 : ((W4.setCell ⟨w.heap.size, 0, none⟩ (.int .i64 0)).setCell ⟨w.heap.size, 1, none⟩ (.int .i64 0)).cell? ⟨3, 0, none⟩ = some (errV a0) := by
            rw [World.cell?_setCell_far _ _ _ _ hz1, World.cell?_setCell_far _ _ _ _ hz1]
            exact hg
          have bR0 := (bRW.set_ 0 (.int .i64 0)).set_ 1 (.int .i64 0)
          have bR := bR0.next (Below.refl _ _).drew
          have hBR0 := (hBW.setCell (p := ⟨w.heap.size, 0, none⟩) (Nat.le_refl _) (.int .i64 0)).setCell (p := ⟨w.heap.size, 1, none⟩) (Nat.le_refl _) (.int .i64 0)
          have hBR := hBR0.drew
          by_cases hA : a < 0
          · have da : decide (a < 0) = true := by simp; omega
            clear qa qb hab
            have HV2 := Lib.hid hv
            clear hv
            go_wp2_with fail
            go_region_with (fail)
            all_goals
              go_wp2_with fail
              first
              | exact bodyPost_ret (res_mv rfl _ _ rfl bR) rfl ⟨by rw [HV2.out]; rfl, hBR⟩
              | exact bodyPost_ret (res_mv rfl _ _ rfl bR0) rfl ⟨by rw [HV2.out]; rfl, hBR0⟩
          · have da : decide (a < 0) = false := by simp; omega
            have db : decide (b < 0) = true := by simp; omega
            clear qa qb hab
            have HV2 := Lib.hid hv
            clear hv
            go_wp2_with fail
            go_region_with (fail)
            all_goals
              go_wp2_with fail
              first
              | exact bodyPost_ret (res_mv rfl _ _ rfl bR) rfl ⟨by rw [HV2.out]; rfl, hBR⟩
              | exact bodyPost_ret (res_mv rfl _ _ rfl bR0) rfl ⟨by rw [HV2.out]; rfl, hBR0⟩
    · have hadd := hadd h5 h6
      have e5 : (s.size : Int) = 5 := by omega
      have i2 : (s[2]'(by omega)).toNat = 45 := by rw [← hx]; exact bAt_eq s 2 (by omega)
      have l2 : (2 : Int) < s.size := by omega
      clear h6 hx
      go_enter Tryz.func97, Tryz.ntmps97
      go_wp2_with fail
      rw [HW.out]
      go_region_with (fail)
      go_wp2_with fail
      obtain ⟨V, hV⟩ : ∃ V, W0.drew = V := ⟨_, rfl⟩
      rw [hV]
      have bMV : Blk V w.heap.size 60 #[.int .i64 0, .int .i64 0] := by rw [← hV]; first | exact bM | exact bM.next (Below.refl _ _).drew
      have hBV : Below w.heap.size w V := by rw [← hV]; first | exact hB | exact hB.drew
      have hEV := h.next hBV
      have hVs : w.heap.size < V.heap.size := bMV.lt
      have hS1 : Below V.heap.size V V.drew := (Below.refl _ _).drew
      have HBZ : Hid (Blk (V.alloc (.cells #[.int .i64 0, .int .i64 0] 60)).drew V.heap.size 60 #[.int .i64 0, .int .i64 0]) := (Blk.new V 60 #[.int .i64 0, .int .i64 0] rfl).next (Below.refl _ _).drew
      clear bM hg r0 r1 f0 f1 hg2 bR0 bR hBR0 hBR hV
      refine wp_region_held_drew (S := fun W => Below V.heap.size V W) (by kernel_rfl) (hS1) (fun hHeld => ?_)
      refine wpAnyH_take (i := 0) (oi := { dst := some 28, op := Op.move (Operand.tmp 4), type := 9, pos := "iccs.go:122", after := #[], guard := none }) (v := ?_) rfl (by kernel_rfl) (by kernel_rfl) (by kernel_rfl) (fun _ _ _ h => h) (Or.inl ⟨by rfl, ?_⟩) (by assumption) ?_
      case refine_2 =>
        intro w hSw
        (try dsimp only at hSw)
        (try go_simp)
        all_goals (with_reducible rfl)
      (try dsimp only [Act.put]); (try simp only [List.setIfInBounds_toArray, List.set_cons_zero, List.set_cons_succ])
      refine wpAnyH_take (i := 1) (oi := { dst := some 29, op := Op.slice 9 (Operand.tmp 28) none (some (Operand.const (Value.int IntKind.i64 2))) none, type := 9, pos := "iccs.go:122", after := #[{ on := 0, ground := Ground.data }], guard := none }) (v := ?_) rfl (by kernel_rfl) (by kernel_rfl) (by kernel_rfl) (fun _ _ _ h => h) (Or.inl ⟨by rfl, ?_⟩) (by assumption) ?_
      case refine_2 =>
        intro w hSw
        (try dsimp only at hSw)
        (try go_simp)
        all_goals (with_reducible rfl)
      (try dsimp only [Act.put]); (try simp only [List.setIfInBounds_toArray, List.set_cons_zero, List.set_cons_succ])
      refine wpAnyH_take (i := 3) (oi := { dst := some 31, op := Op.move (Operand.tmp 4), type := 9, pos := "iccs.go:122", after := #[], guard := none }) (v := ?_) rfl (by kernel_rfl) (by kernel_rfl) (by kernel_rfl) (fun _ _ _ h => h) (Or.inl ⟨by rfl, ?_⟩) (by assumption) ?_
      case refine_2 =>
        intro w hSw
        (try dsimp only at hSw)
        (try go_simp)
        all_goals (with_reducible rfl)
      (try dsimp only [Act.put]); (try simp only [List.setIfInBounds_toArray, List.set_cons_zero, List.set_cons_succ])
      refine wpAnyH_take (i := 4) (oi := { dst := some 32, op := Op.slice 9 (Operand.tmp 31) (some (Operand.const (Value.int IntKind.i64 2))) none none, type := 9, pos := "iccs.go:122", after := #[{ on := 3, ground := Ground.data }], guard := none }) (v := ?_) rfl (by kernel_rfl) (by kernel_rfl) (by kernel_rfl) (fun _ _ _ h => h) (Or.inl ⟨by rfl, ?_⟩) (by assumption) ?_
      case refine_2 =>
        intro w hSw
        (try dsimp only at hSw)
        (try go_simp)
        all_goals (with_reducible rfl)
      (try dsimp only [Act.put]); (try simp only [List.setIfInBounds_toArray, List.set_cons_zero, List.set_cons_succ])
      refine wpAnyH_ready (rs := [2, 7]) (by kernel_rfl) (by simp) (AllReadyH.cons (o := { dst := some 30, op := Op.call { callee := Callee.value (Operand.func 122), args := #[Operand.tmp 29], argTypes := #[9] }, type := 3, pos := "iccs.go:122", after := #[{ on := 1, ground := Ground.data }], guard := none }) rfl (fun K hK => ?rd1_1) (AllReadyH.cons (o := { dst := some 5, op := Op.alloc 60, type := 0, pos := "iccs.go:122", after := #[], guard := none }) rfl (fun K hK => ?rd1_2) AllReadyH.nil))
      case' rd1_1 =>
        go_simp
        refine (rsq_of _ _ ?_).mono ?_; (first | exact z0 | exact z1); first | (have hh := hcall1; rintro e w3 ⟨rfl, hb⟩; have hB3 : Below V.heap.size V w3 := hHeld.trans (hb.mono hHeld.size); (try (have bz := (by first | exact bz.next hb | exact (Blk.new w2 60 #[.int .i64 0, .int .i64 0] rfl).next hb); have y2 := bz.cell 0; have y3 := bz.cell 1; have y0 := bz.frozen 0; have y1 := bz.frozen 1))) | (rintro e w2 ⟨rfl, hb⟩; have hcall1 : True := trivial; have hz2 : V.heap.size ≤ w2.heap.size := Nat.le_trans (by first | exact hHeld.size | exact hS1.size) hb.size; (try have bz := HBZ.out.next hb))
        refine hK.out _ _ ?_ (fun hHeld => ?_)
        · first | exact hHeld.trans (hb.mono hHeld.size) | exact hS1.trans (hb.mono hS1.size)
        clear hK K
        refine wpAnyH_ready (rs := [5, 7]) (by kernel_rfl) (by simp) (AllReadyH.cons (o := { dst := some 33, op := Op.call { callee := Callee.value (Operand.func 122), args := #[Operand.tmp 32], argTypes := #[9] }, type := 3, pos := "iccs.go:122", after := #[{ on := 4, ground := Ground.data }, { on := 2, ground := Ground.chain }], guard := none }) rfl (fun K hK => ?rd1_3) (AllReadyH.cons (o := { dst := some 5, op := Op.alloc 60, type := 0, pos := "iccs.go:122", after := #[], guard := none }) rfl (fun K hK => ?rd1_4) AllReadyH.nil))
        case' rd1_3 =>
          go_simp
          refine (rsq_of _ _ ?_).mono ?_; (first | exact z0 | exact z1); first | (have hh := hcall1; rintro e w3 ⟨rfl, hb⟩; have hB3 : Below V.heap.size V w3 := hHeld.trans (hb.mono hHeld.size); (try (have bz := (by first | exact bz.next hb | exact (Blk.new w2 60 #[.int .i64 0, .int .i64 0] rfl).next hb); have y2 := bz.cell 0; have y3 := bz.cell 1; have y0 := bz.frozen 0; have y1 := bz.frozen 1))) | (rintro e w2 ⟨rfl, hb⟩; have hcall1 : True := trivial; have hz2 : V.heap.size ≤ w2.heap.size := Nat.le_trans (by first | exact hHeld.size | exact hS1.size) hb.size; (try have bz := HBZ.out.next hb))
          refine hK.out _ _ ?_ (fun hHeld => ?_)
          · first | exact hHeld.trans (hb.mono hHeld.size) | exact hS1.trans (hb.mono hS1.size)
          clear hK K
          refine wpAnyH_take (i := 6) (oi := { dst := some 34, op := Op.build 60 #[(0, Operand.tmp 30), (1, Operand.tmp 33)], type := 60, pos := "iccs.go:122", after := #[{ on := 2, ground := Ground.data }, { on := 5, ground := Ground.data }], guard := none }) (v := ?_) rfl (by kernel_rfl) (by kernel_rfl) (by kernel_rfl) (fun _ _ _ h => h) (Or.inl ⟨by rfl, ?_⟩) (by assumption) ?_
          case refine_2 =>
            intro w hSw
            (try dsimp only at hSw)
            (try go_simp)
            all_goals (with_reducible rfl)
          (try dsimp only [Act.put]); (try simp only [List.setIfInBounds_toArray, List.set_cons_zero, List.set_cons_succ])
          refine wpAnyH_ready (rs := [7]) (by kernel_rfl) (by simp) (AllReadyH.cons (o := { dst := some 5, op := Op.alloc 60, type := 0, pos := "iccs.go:122", after := #[], guard := none }) rfl (fun K hK => ?_) AllReadyH.nil)
          go_simp
          refine hK.out _ _ ?_ (fun hHeld => ?_)
          · first | exact ((Below.refl _ V).alloc (Nat.le_refl _) _).drew | exact hHeld.alloc hHeld.size _
          clear hK K
          (try dsimp only [Act.put]); (try simp only [List.setIfInBounds_toArray, List.set_cons_zero, List.set_cons_succ])
          refine wpAnyH_ready (rs := [8]) (by kernel_rfl) (by simp) (AllReadyH.cons (o := { dst := none, op := Op.store 60 (Operand.tmp 5) (Operand.tmp 34), type := 0, pos := "iccs.go:122", after := #[{ on := 7, ground := Ground.data }, { on := 6, ground := Ground.data }, { on := 5, ground := Ground.chain }, { on := 0, ground := Ground.phase }, { on := 1, ground := Ground.phase }, { on := 2, ground := Ground.phase }, { on := 3, ground := Ground.phase }, { on := 4, ground := Ground.phase }, { on := 5, ground := Ground.phase }, { on := 6, ground := Ground.phase }, { on := 7, ground := Ground.phase }], guard := none }) rfl (fun K hK => ?_) AllReadyH.nil)
          go_simp
          refine hK.out _ _ ?_ (fun hHeld => ?_)
          · first | exact (hHeld.setCell (p := ⟨V.heap.size, 0, none⟩) (Nat.le_refl _) _).setCell (p := ⟨V.heap.size, 1, none⟩) (Nat.le_refl _) _ | exact (hHeld.setCell (p := ⟨w2.heap.size, 0, none⟩) hz2 _).setCell (p := ⟨w2.heap.size, 1, none⟩) hz2 _ | exact hB3.alloc hB3.size _
          clear hK K
          (try dsimp only [Act.put]); (try simp only [List.setIfInBounds_toArray, List.set_cons_zero, List.set_cons_succ])
          refine wpAnyH_done (by kernel_rfl) ?_ _
        case' rd1_4 =>
          go_simp
          refine hK.out _ _ ?_ (fun hHeld => ?_)
          · first | exact ((Below.refl _ V).alloc (Nat.le_refl _) _).drew | exact hHeld.alloc hHeld.size _
          clear hK K
          (try dsimp only [Act.put]); (try simp only [List.setIfInBounds_toArray, List.set_cons_zero, List.set_cons_succ])
          refine wpAnyH_ready (rs := [5]) (by kernel_rfl) (by simp) (AllReadyH.cons (o := { dst := some 33, op := Op.call { callee := Callee.value (Operand.func 122), args := #[Operand.tmp 32], argTypes := #[9] }, type := 3, pos := "iccs.go:122", after := #[{ on := 4, ground := Ground.data }, { on := 2, ground := Ground.chain }], guard := none }) rfl (fun K hK => ?_) AllReadyH.nil)
          go_simp
          refine (rsq_of _ _ ?_).mono ?_; (first | exact z0 | exact z1); first | (have hh := hcall1; rintro e w3 ⟨rfl, hb⟩; have hB3 : Below V.heap.size V w3 := hHeld.trans (hb.mono hHeld.size); (try (have bz := (by first | exact bz.next hb | exact (Blk.new w2 60 #[.int .i64 0, .int .i64 0] rfl).next hb); have y2 := bz.cell 0; have y3 := bz.cell 1; have y0 := bz.frozen 0; have y1 := bz.frozen 1))) | (rintro e w2 ⟨rfl, hb⟩; have hcall1 : True := trivial; have hz2 : V.heap.size ≤ w2.heap.size := Nat.le_trans (by first | exact hHeld.size | exact hS1.size) hb.size; (try have bz := HBZ.out.next hb))
          refine hK.out _ _ ?_ (fun hHeld => ?_)
          · first | exact hHeld.trans (hb.mono hHeld.size) | exact hS1.trans (hb.mono hS1.size)
          clear hK K
          refine wpAnyH_take (i := 6) (oi := { dst := some 34, op := Op.build 60 #[(0, Operand.tmp 30), (1, Operand.tmp 33)], type := 60, pos := "iccs.go:122", after := #[{ on := 2, ground := Ground.data }, { on := 5, ground := Ground.data }], guard := none }) (v := ?_) rfl (by kernel_rfl) (by kernel_rfl) (by kernel_rfl) (fun _ _ _ h => h) (Or.inl ⟨by rfl, ?_⟩) (by assumption) ?_
          case refine_2 =>
            intro w hSw
            (try dsimp only at hSw)
            (try go_simp)
            all_goals (with_reducible rfl)
          (try dsimp only [Act.put]); (try simp only [List.setIfInBounds_toArray, List.set_cons_zero, List.set_cons_succ])
          refine wpAnyH_ready (rs := [8]) (by kernel_rfl) (by simp) (AllReadyH.cons (o := { dst := none, op := Op.store 60 (Operand.tmp 5) (Operand.tmp 34), type := 0, pos := "iccs.go:122", after := #[{ on := 7, ground := Ground.data }, { on := 6, ground := Ground.data }, { on := 5, ground := Ground.chain }, { on := 0, ground := Ground.phase }, { on := 1, ground := Ground.phase }, { on := 2, ground := Ground.phase }, { on := 3, ground := Ground.phase }, { on := 4, ground := Ground.phase }, { on := 5, ground := Ground.phase }, { on := 6, ground := Ground.phase }, { on := 7, ground := Ground.phase }], guard := none }) rfl (fun K hK => ?_) AllReadyH.nil)
          go_simp
          refine hK.out _ _ ?_ (fun hHeld => ?_)
          · first | exact (hHeld.setCell (p := ⟨V.heap.size, 0, none⟩) (Nat.le_refl _) _).setCell (p := ⟨V.heap.size, 1, none⟩) (Nat.le_refl _) _ | exact (hHeld.setCell (p := ⟨w2.heap.size, 0, none⟩) hz2 _).setCell (p := ⟨w2.heap.size, 1, none⟩) hz2 _ | exact hB3.alloc hB3.size _
          clear hK K
          (try dsimp only [Act.put]); (try simp only [List.setIfInBounds_toArray, List.set_cons_zero, List.set_cons_succ])
          refine wpAnyH_done (by kernel_rfl) ?_ _
      case' rd1_2 =>
        go_simp
        refine hK.out _ _ ?_ (fun hHeld => ?_)
        · first | exact ((Below.refl _ V).alloc (Nat.le_refl _) _).drew | exact hHeld.alloc hHeld.size _
        clear hK K
        (try dsimp only [Act.put]); (try simp only [List.setIfInBounds_toArray, List.set_cons_zero, List.set_cons_succ])
        refine wpAnyH_ready (rs := [2]) (by kernel_rfl) (by simp) (AllReadyH.cons (o := { dst := some 30, op := Op.call { callee := Callee.value (Operand.func 122), args := #[Operand.tmp 29], argTypes := #[9] }, type := 3, pos := "iccs.go:122", after := #[{ on := 1, ground := Ground.data }], guard := none }) rfl (fun K hK => ?_) AllReadyH.nil)
        go_simp
        refine (rsq_of _ _ ?_).mono ?_; (first | exact z0 | exact z1); first | (have hh := hcall1; rintro e w3 ⟨rfl, hb⟩; have hB3 : Below V.heap.size V w3 := hHeld.trans (hb.mono hHeld.size); (try (have bz := (by first | exact bz.next hb | exact (Blk.new w2 60 #[.int .i64 0, .int .i64 0] rfl).next hb); have y2 := bz.cell 0; have y3 := bz.cell 1; have y0 := bz.frozen 0; have y1 := bz.frozen 1))) | (rintro e w2 ⟨rfl, hb⟩; have hcall1 : True := trivial; have hz2 : V.heap.size ≤ w2.heap.size := Nat.le_trans (by first | exact hHeld.size | exact hS1.size) hb.size; (try have bz := HBZ.out.next hb))
        refine hK.out _ _ ?_ (fun hHeld => ?_)
        · first | exact hHeld.trans (hb.mono hHeld.size) | exact hS1.trans (hb.mono hS1.size)
        clear hK K
        refine wpAnyH_ready (rs := [5]) (by kernel_rfl) (by simp) (AllReadyH.cons (o := { dst := some 33, op := Op.call { callee := Callee.value (Operand.func 122), args := #[Operand.tmp 32], argTypes := #[9] }, type := 3, pos := "iccs.go:122", after := #[{ on := 4, ground := Ground.data }, { on := 2, ground := Ground.chain }], guard := none }) rfl (fun K hK => ?_) AllReadyH.nil)
        go_simp
        refine (rsq_of _ _ ?_).mono ?_; (first | exact z0 | exact z1); first | (have hh := hcall1; rintro e w3 ⟨rfl, hb⟩; have hB3 : Below V.heap.size V w3 := hHeld.trans (hb.mono hHeld.size); (try (have bz := (by first | exact bz.next hb | exact (Blk.new w2 60 #[.int .i64 0, .int .i64 0] rfl).next hb); have y2 := bz.cell 0; have y3 := bz.cell 1; have y0 := bz.frozen 0; have y1 := bz.frozen 1))) | (rintro e w2 ⟨rfl, hb⟩; have hcall1 : True := trivial; have hz2 : V.heap.size ≤ w2.heap.size := Nat.le_trans (by first | exact hHeld.size | exact hS1.size) hb.size; (try have bz := HBZ.out.next hb))
        refine hK.out _ _ ?_ (fun hHeld => ?_)
        · first | exact hHeld.trans (hb.mono hHeld.size) | exact hS1.trans (hb.mono hS1.size)
        clear hK K
        refine wpAnyH_take (i := 6) (oi := { dst := some 34, op := Op.build 60 #[(0, Operand.tmp 30), (1, Operand.tmp 33)], type := 60, pos := "iccs.go:122", after := #[{ on := 2, ground := Ground.data }, { on := 5, ground := Ground.data }], guard := none }) (v := ?_) rfl (by kernel_rfl) (by kernel_rfl) (by kernel_rfl) (fun _ _ _ h => h) (Or.inl ⟨by rfl, ?_⟩) (by assumption) ?_
        case refine_2 =>
          intro w hSw
          (try dsimp only at hSw)
          (try go_simp)
          all_goals (with_reducible rfl)
        (try dsimp only [Act.put]); (try simp only [List.setIfInBounds_toArray, List.set_cons_zero, List.set_cons_succ])
        refine wpAnyH_ready (rs := [8]) (by kernel_rfl) (by simp) (AllReadyH.cons (o := { dst := none, op := Op.store 60 (Operand.tmp 5) (Operand.tmp 34), type := 0, pos := "iccs.go:122", after := #[{ on := 7, ground := Ground.data }, { on := 6, ground := Ground.data }, { on := 5, ground := Ground.chain }, { on := 0, ground := Ground.phase }, { on := 1, ground := Ground.phase }, { on := 2, ground := Ground.phase }, { on := 3, ground := Ground.phase }, { on := 4, ground := Ground.phase }, { on := 5, ground := Ground.phase }, { on := 6, ground := Ground.phase }, { on := 7, ground := Ground.phase }], guard := none }) rfl (fun K hK => ?_) AllReadyH.nil)
        go_simp
        refine hK.out _ _ ?_ (fun hHeld => ?_)
        · first | exact (hHeld.setCell (p := ⟨V.heap.size, 0, none⟩) (Nat.le_refl _) _).setCell (p := ⟨V.heap.size, 1, none⟩) (Nat.le_refl _) _ | exact (hHeld.setCell (p := ⟨w2.heap.size, 0, none⟩) hz2 _).setCell (p := ⟨w2.heap.size, 1, none⟩) hz2 _ | exact hB3.alloc hB3.size _
        clear hK K
        (try dsimp only [Act.put]); (try simp only [List.setIfInBounds_toArray, List.set_cons_zero, List.set_cons_succ])
        refine wpAnyH_done (by kernel_rfl) ?_ _
      all_goals
        first
        | (obtain ⟨W4, hW4⟩ : ∃ x, ((w3.setCell ⟨V.heap.size, 0, none⟩ (.int .i64 (sqOf X0))).setCell ⟨V.heap.size, 1, none⟩ (.int .i64 (sqOf X1))) = x := ⟨_, rfl⟩
           have bQ : Blk W4 V.heap.size 60 #[.int .i64 (sqOf X0), .int .i64 (sqOf X1)] := by rw [← hW4]; exact (bz.set_ 0 (.int .i64 (sqOf X0))).set_ 1 (.int .i64 (sqOf X1))
           have hgq : w.heap.size < V.heap.size := hVs
           have hb4 : Below V.heap.size V W4 := by rw [← hW4]; exact hHeld
           rw [hW4]
           clear hW4
           clear bz y0 y1 y2 y3
           generalize V.heap.size = gq at bQ hgq ⊢)
        | (obtain ⟨W4, hW4⟩ : ∃ x, ((w3.setCell ⟨w2.heap.size, 0, none⟩ (.int .i64 (sqOf X0))).setCell ⟨w2.heap.size, 1, none⟩ (.int .i64 (sqOf X1))) = x := ⟨_, rfl⟩
           have bQ : Blk W4 w2.heap.size 60 #[.int .i64 (sqOf X0), .int .i64 (sqOf X1)] := by rw [← hW4]; exact (bz.set_ 0 (.int .i64 (sqOf X0))).set_ 1 (.int .i64 (sqOf X1))
           have hgq : w.heap.size < w2.heap.size := Nat.lt_of_lt_of_le hVs hz2
           have hb4 : Below V.heap.size V W4 := by rw [← hW4]; exact hHeld
           rw [hW4]
           clear hW4
           clear bz y0 y1 y2 y3
           generalize w2.heap.size = gq at bQ hgq ⊢)
        | (obtain ⟨W4, hW4⟩ : ∃ x, w3.alloc (.cells #[.int .i64 (sqOf X0), .int .i64 (sqOf X1)] 60) = x := ⟨_, rfl⟩
           have bQ : Blk W4 w3.heap.size 60 #[.int .i64 (sqOf X0), .int .i64 (sqOf X1)] := by rw [← hW4]; exact Blk.new _ _ _ rfl
           have hgq : w.heap.size < w3.heap.size := Nat.lt_of_lt_of_le hVs hB3.size
           have hb4 : Below V.heap.size V W4 := by rw [← hW4]; exact hHeld
           rw [hW4]
           clear hW4
           generalize w3.heap.size = gq at bQ hgq ⊢)
        have hBW := hBV.trans (hb4.mono hBV.size)
        have hEW := hEV.next hb4
        have bRW := bMV.next hb4
        clear hHeld hS1 HBZ hb hB3 hb4 bMV hBV hEV
        obtain ⟨qa, qb⟩ := HQ.out
        rw [qa, qb] at bQ ⊢
        have hg := hEW.g0
        obtain ⟨n0, n1⟩ : W4.cell? ⟨gq, 0, none⟩ = some (.int .i64 a) ∧ W4.cell? ⟨gq, 1, none⟩ = some (.int .i64 b) := ⟨bQ.cell 0, bQ.cell 1⟩
        obtain ⟨r0, r1⟩ : W4.cell? ⟨w.heap.size, 0, none⟩ = some (.int .i64 0) ∧ W4.cell? ⟨w.heap.size, 1, none⟩ = some (.int .i64 0) := ⟨bRW.cell 0, bRW.cell 1⟩
        obtain ⟨f0, f1⟩ : W4.frozen? ⟨w.heap.size, 0, none⟩ = false ∧ W4.frozen? ⟨w.heap.size, 1, none⟩ = false := ⟨bRW.frozen 0, bRW.frozen 1⟩
        by_cases hab : 0 ≤ a ∧ 0 ≤ b
        · have hv := HV.out
          rw [if_pos hab] at hv
          have da : decide (a < 0) = false := by simp; omega
          have db : decide (b < 0) = false := by simp; omega
          have bR := (bRW.set_ 0 (.int .i64 a)).set_ 1 (.int .i64 b)
          have hBR := (hBW.setCell (p := ⟨w.heap.size, 0, none⟩) (Nat.le_refl _) (.int .i64 a)).setCell (p := ⟨w.heap.size, 1, none⟩) (Nat.le_refl _) (.int .i64 b)
          clear qa qb hab
          have HV2 := Lib.hid hv
          clear hv
          go_wp2_with fail
          exact bodyPost_ret (res_mv rfl _ _ rfl bR) rfl ⟨by rw [HV2.out]; rfl, hBR⟩
        · have hv := HV.out
          rw [if_neg hab] at hv
          have hg2 : ((W4.setCell ⟨w.heap.size, 0, none⟩ (.int .i64 0)).setCell ⟨w.heap.size, 1, none⟩ (.int .i64 0)).cell? ⟨3, 0, none⟩ = some (errV a0) := by
            rw [World.cell?_setCell_far _ _ _ _ hz1, World.cell?_setCell_far _ _ _ _ hz1]
            exact hg
          have bR0 := (bRW.set_ 0 (.int .i64 0)).set_ 1 (.int .i64 0)
          have bR := bR0.next (Below.refl _ _).drew
          have hBR0 := (hBW.setCell (p := ⟨w.heap.size, 0, none⟩) (Nat.le_refl _) (.int .i64 0)).setCell (p := ⟨w.heap.size, 1, none⟩) (Nat.le_refl _) (.int .i64 0)
          have hBR := hBR0.drew
          by_cases hA : a < 0
          · have da : decide (a < 0) = true := by simp; omega
            clear qa qb hab
            have HV2 := Lib.hid hv
            clear hv
            go_wp2_with fail
            go_region_with (fail)
            all_goals
              go_wp2_with fail
              first
              | exact bodyPost_ret (res_mv rfl _ _ rfl bR) rfl ⟨by rw [HV2.out]; rfl, hBR⟩
              | exact bodyPost_ret (res_mv rfl _ _ rfl bR0) rfl ⟨by rw [HV2.out]; rfl, hBR0⟩
          · have da : decide (a < 0) = false := by simp; omega
            have db : decide (b < 0) = true := by simp; omega
            clear qa qb hab
            have HV2 := Lib.hid hv
            clear hv
            go_wp2_with fail
            go_region_with (fail)
            all_goals
              go_wp2_with fail
              first
              | exact bodyPost_ret (res_mv rfl _ _ rfl bR) rfl ⟨by rw [HV2.out]; rfl, hBR⟩
              | exact bodyPost_ret (res_mv rfl _ _ rfl bR0) rfl ⟨by rw [HV2.out]; rfl, hBR0⟩
end Go.Proofs.YtpogpjebhnoncabGreatDoor
