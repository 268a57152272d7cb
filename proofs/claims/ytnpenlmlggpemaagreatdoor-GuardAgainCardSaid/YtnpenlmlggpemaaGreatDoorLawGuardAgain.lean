/- What is guarded is taken again by a move that may be made then; what is not is taken by none: the call answers true. -/
import Derived.Test.YtnpenlmlggpemaaGreatDoorGuardV
import Derived.Test.YtnpenlmlggpemaaGreatDoorRefLM
import Derived.Test.YtnpenlmlggpemaaGreatDoorPseudoN
namespace Go.Proofs.YtnpenlmlggpemaaGreatDoor.gagain
open Go.RowKit Go.Shelf
open M (S)

theorem again_facts {s : ByteArray} {side clock full : Int} {a b : Nat} (hm : (a, b) ∈ legalC s side clock full) :
    ∃ t : Nat, makeV s side clock full (a : Int) (b : Int) = .tuple #[.agg #[.string (behindS s (a, b)), .int .i64 (1 - side), .int .i64 (clockA s clock b), .int .i64 (fullA side full)], .int .u8 t, .int .i64 0] ∧ guardI s (a : Int) (b : Int) = (legalV (behindS s (a, b)) (1 - side) (clockA s clock b) (fullA side full)).any fun k => k.2 == b := by
  have hml : (a, b) ∈ legalV s side clock full := (List.mem_filter.1 hm).1
  have hw : wellN s side clock full = 0 := by
    unfold legalV at hml
    split at hml
    · assumption
    · cases hml
  have hl : leavesI s side clock full (a : Int) (b : Int) = true := by
    unfold legalV at hml
    rw [if_pos hw] at hml
    exact (List.mem_filter.1 hml).2
  have hp := hl
  unfold leavesI at hp
  simp only [Bool.and_eq_true, bne_iff_ne, beq_iff_eq, ne_eq] at hp
  obtain ⟨⟨p1, p2⟩, p3⟩ := hp
  have hv := apply_good_value (well_check hw) ⟨p1, p2⟩
  simp only [Int.toNat_natCast] at hv p3
  refine ⟨takenN s b, ?_, guard_again hw hm _ _ p3⟩
  unfold makeV
  rw [if_pos hw, if_pos hl]
  exact hv
theorem any_succ {l : List (Nat × Nat)} {p : Nat × Nat → Bool} {k : Nat} (h : k < l.length) : (l.take (k + 1)).any p = ((l.take k).any p || p l[k]) := by
  rw [List.take_succ_eq_append_getElem h, List.any_append]
  simp
theorem fk_keep {s : ByteArray} {side clock full : Int} {u v g1 o1 k : Nat} {w wr W : World} (h : Below wr.heap.size wr wr ∧ wr.cell? ⟨w.heap.size, 0, none⟩ = some (.string s) ∧ wr.cell? ⟨w.heap.size, 1, none⟩ = some (.int .i64 side) ∧ wr.cell? ⟨w.heap.size, 2, none⟩ = some (.int .i64 clock) ∧ wr.cell? ⟨w.heap.size, 3, none⟩ = some (.int .i64 full) ∧ wr.cell? ⟨g1, o1 + k * 2, none⟩ = some (.int .i64 (u : Int)) ∧ wr.cell? ⟨g1, o1 + k * 2 + 1, none⟩ = some (.int .i64 (v : Int))) (hb : Below wr.heap.size wr W) : Below wr.heap.size wr W ∧ W.cell? ⟨w.heap.size, 0, none⟩ = some (.string s) ∧ W.cell? ⟨w.heap.size, 1, none⟩ = some (.int .i64 side) ∧ W.cell? ⟨w.heap.size, 2, none⟩ = some (.int .i64 clock) ∧ W.cell? ⟨w.heap.size, 3, none⟩ = some (.int .i64 full) ∧ W.cell? ⟨g1, o1 + k * 2, none⟩ = some (.int .i64 (u : Int)) ∧ W.cell? ⟨g1, o1 + k * 2 + 1, none⟩ = some (.int .i64 (v : Int)) := by
  obtain ⟨_, h0, h1, h2, h3, h4, h5⟩ := h
  exact ⟨hb, (hb.cell (p := ⟨w.heap.size, 0, none⟩) (cell_lt h0)).trans h0, (hb.cell (p := ⟨w.heap.size, 1, none⟩) (cell_lt h1)).trans h1, (hb.cell (p := ⟨w.heap.size, 2, none⟩) (cell_lt h2)).trans h2, (hb.cell (p := ⟨w.heap.size, 3, none⟩) (cell_lt h3)).trans h3, (hb.cell (p := ⟨g1, o1 + k * 2, none⟩) (cell_lt h4)).trans h4, (hb.cell (p := ⟨g1, o1 + k * 2 + 1, none⟩) (cell_lt h5)).trans h5⟩
abbrev GA (w w2 : World) (s : ByteArray) (g1 i0 i1 : Nat) (u v : Nat) (W : World) : Prop := W.cell? ⟨w.heap.size, 0, none⟩ = some (.string s) ∧ W.cell? ⟨g1, i0, none⟩ = some (.int .i64 (u : Int)) ∧ W.cell? ⟨g1, i1, none⟩ = some (.int .i64 (v : Int)) ∧ Tab W ∧ Below w2.heap.size w2 W
theorem ga_keep {w w2 : World} {s : ByteArray} {g1 i0 i1 u v : Nat} {W W' : World} (h : GA w w2 s g1 i0 i1 u v W) (hb : Below W.heap.size W W') : GA w w2 s g1 i0 i1 u v W' := by
  obtain ⟨h0, h1, h2, h3, h4⟩ := h
  exact ⟨(hb.cell (p := ⟨w.heap.size, 0, none⟩) (cell_lt h0)).trans h0, (hb.cell (p := ⟨g1, i0, none⟩) (cell_lt h1)).trans h1, (hb.cell (p := ⟨g1, i1, none⟩) (cell_lt h2)).trans h2, h3.next hb, h4.trans (hb.mono h4.size)⟩
theorem ga_tab {w w2 : World} {s : ByteArray} {g1 i0 i1 u v : Nat} {W : World} (h : GA w w2 s g1 i0 i1 u v W) : Tab W := h.2.2.2.1
theorem ga_below {w w2 : World} {s : ByteArray} {g1 i0 i1 u v : Nat} {W : World} (h : GA w w2 s g1 i0 i1 u v W) : Below w2.heap.size w2 W := h.2.2.2.2
set_option maxRecDepth 100000 in
set_option maxHeartbeats 8000000 in
theorem large (s : ByteArray) (side clock full : Int) (w : World) (hT : Tab w) (hs : 200 < s.size) : Calls Tryz.prog 5 #[.agg #[.string s, .int .i64 side, .int .i64 clock, .int .i64 full]] w (Gives w (.bool true)) := by
  unfold Gives
  have hd : decide (200 < (s.size : Int)) = true := by simp; omega
  clear hs
  go_enter Tryz.func5, Tryz.ntmps5
  go_wp2_with fail
  obtain ⟨W0, hW0⟩ : ∃ W0, w.alloc (.cells #[.string s, .int .i64 side, .int .i64 clock, .int .i64 full] 31) = W0 := ⟨_, rfl⟩
  have hB : Below w.heap.size w W0 := by rw [← hW0]; exact (by repeat (first | exact Below.refl _ _ | (refine Below.setCell ?_ (by first | omega | (simp; done) | (simp; omega) | (simp at *; omega)) _) | (refine Below.alloc ?_ (by first | omega | (simp; done) | (simp; omega) | (simp at *; omega)) _) | refine Below.drew ?_ | (refine below_drewN ?_ _) | (refine Below.trans ?_ (Below.mono (by assumption) (by first | omega | (simp; done) | (simp; omega) | (simp at *; omega))))))
  replace hT := hT.below hB hT.lt
  rw [hW0]
  clear hW0
  refine (live15_any _ hT).mono ?_
  rintro e w9 ⟨rfl, hb⟩
  go_wp2
  go_ret
  exact ⟨rfl, hB.trans (hb.mono hB.size)⟩
set_option maxRecDepth 100000 in
set_option maxHeartbeats 16000000 in
theorem small (s : ByteArray) (side clock full : Int) (w : World) (hT : Tab w) (hs : s.size ≤ 200) : Calls Tryz.prog 5 #[.agg #[.string s, .int .i64 side, .int .i64 clock, .int .i64 full]] w (Gives w (.bool true)) := by
  unfold Gives
  have hd : decide (200 < (s.size : Int)) = false := by simp; omega
  clear hs
  obtain ⟨L, hL⟩ : ∃ L, legalV s side clock full = L := ⟨_, rfl⟩
  obtain ⟨nl, hnl⟩ : ∃ nl, L.length = nl := ⟨_, rfl⟩
  obtain ⟨C, hC⟩ : ∃ C, legalC s side clock full = C := ⟨_, rfl⟩
  obtain ⟨m, hm⟩ : ∃ m, C.length = m := ⟨_, rfl⟩
  have hm81 : m ≤ 8100 := by
    have h1 : (legalC s side clock full).length ≤ (legalV s side clock full).length := List.length_filter_le _ _
    have h2 := legalV_len s side clock full
    rw [hC, hm] at h1
    omega
  have HF : Hid (∀ k (hk : k < C.length), (C[k].1, C[k].2) ∈ legalC s side clock full) := fun k hk => by rw [hC]; exact List.getElem_mem hk
  have HL := Lib.hid hL
  have HNL := Lib.hid hnl
  have HC := Lib.hid hC
  have HM := Lib.hid hm
  clear hL hnl hC hm
  go_enter Tryz.func5, Tryz.ntmps5
  go_wp2_with fail
  obtain ⟨W0, hW0⟩ : ∃ W0, w.alloc (.cells #[.string s, .int .i64 side, .int .i64 clock, .int .i64 full] 31) = W0 := ⟨_, rfl⟩
  have hB : Below w.heap.size w W0 := by rw [← hW0]; exact (by repeat (first | exact Below.refl _ _ | (refine Below.setCell ?_ (by first | omega | (simp; done) | (simp; omega) | (simp at *; omega)) _) | (refine Below.alloc ?_ (by first | omega | (simp; done) | (simp; omega) | (simp at *; omega)) _) | refine Below.drew ?_ | (refine below_drewN ?_ _) | (refine Below.trans ?_ (Below.mono (by assumption) (by first | omega | (simp; done) | (simp; omega) | (simp at *; omega))))))
  have bP1 : Blk W0 w.heap.size 31 #[.string s, .int .i64 side, .int .i64 clock, .int .i64 full] := by rw [← hW0]; exact Blk.new _ _ _ rfl
  rw [hW0]
  clear hW0
  refine (rlcaps_is s side clock full L C m nl _ HL.out HNL.out HC.out HM.out).mono ?_
  rintro e w2 ⟨A1, k1, rfl, rd2, hb⟩
  have bP2b := bP1.next hb
  have hB2b := hB.trans (hb.mono hB.size)
  have hT2b := hT.next hB2b
  clear hb hB bP1
  go_wp2_with fail
  go_loopw [4] (fun i wr => ∃ k : Nat, k ≤ m ∧ i = .int .i64 k ∧ Below w2.heap.size w2 wr) (fun i _ => m - (intOf i).toNat)
  case atStart => exact ⟨0, by omega, rfl, Below.refl _ _⟩
  case round =>
    obtain ⟨k, hk, rfl, hR⟩ := hrel
    by_cases hlt : k < m
    · have hkl : k < C.length := by rw [HM.out]; exact hlt
      obtain ⟨g1, o1, rfl, c0, c1⟩ := rd2.move hkl
      have hmem := HF.out k hkl
      obtain ⟨⟨u, v⟩, huv⟩ : ∃ x, C[k] = x := ⟨_, rfl⟩
      rw [huv] at c0 c1 hmem
      obtain ⟨tk, hmk, hga⟩ := again_facts hmem
      have hc0 := (hR.cell (p := ⟨g1, o1 + k * 2, none⟩) (cell_lt c0)).trans c0
      have hc1 := (hR.cell (p := ⟨g1, o1 + k * 2 + 1, none⟩) (cell_lt c1)).trans c1
      have b2 : (k : Int) < (m : Int) := by omega
      obtain ⟨q, hq⟩ : ∃ q, behindS s (u, v) = q := ⟨_, rfl⟩
      obtain ⟨ck, hck2⟩ : ∃ x, clockA s clock v = x := ⟨_, rfl⟩
      obtain ⟨fl, hfl⟩ : ∃ x, fullA side full = x := ⟨_, rfl⟩
      obtain ⟨o, ho⟩ : ∃ o : Int, 1 - side = o := ⟨_, rfl⟩
      simp only [hq, hck2, hfl, ho] at hmk hga
      have HV := Lib.hid hmk
      obtain ⟨M2, hM2⟩ : ∃ M2, legalV q o ck fl = M2 := ⟨_, rfl⟩
      obtain ⟨nm, hnm⟩ : ∃ nm, M2.length = nm := ⟨_, rfl⟩
      have hnm81 : nm ≤ 8100 := by rw [← hnm, ← hM2]; exact legalV_len q o ck fl
      rw [hM2] at hga
      obtain ⟨r, hr⟩ : ∃ r, (M2.any fun k => k.2 == v) = r := ⟨_, rfl⟩
      rw [hr] at hga
      have HGA := Lib.hid hga
      have HR := Lib.hid hr
      have HM2L := Lib.hid hM2
      have HNM := Lib.hid hnm
      have bP3 := bP2b.next hR
      obtain ⟨p0, p1, p2, p3⟩ := ppos_cells bP3
      clear c0 c1 hmem huv hmk hga hr hM2 hnm hq hck2 hfl ho
      have HM2 : Hid (∀ W, Calls Tryz.prog 22 #[.agg #[.string s, .int .i64 side, .int .i64 clock, .int .i64 full], .agg #[.int .i64 (u : Int), .int .i64 (v : Int)]] W (Gives W (.tuple #[.agg #[.string q, .int .i64 o, .int .i64 ck, .int .i64 fl], .int .u8 tk, .int .i64 0]))) := by
        show ∀ W, _
        intro W
        have := rmake_any s side clock full u v W (Lib.hid fun W => rapply_is s side clock full u v _ W rfl)
        rw [HV.out] at this
        exact this
      have hba : Below wr.heap.size wr (wr.alloc (.cells #[.string ⟨#[]⟩, .int .i64 0, .int .i64 0, .int .i64 0] 31)) := (Below.refl _ _).alloc (Nat.le_refl _) _
      have HBZ : Hid (Blk (wr.alloc (.cells #[.string ⟨#[]⟩, .int .i64 0, .int .i64 0, .int .i64 0] 31)).drew wr.heap.size 31 #[.string ⟨#[]⟩, .int .i64 0, .int .i64 0, .int .i64 0]) := (Blk.new wr 31 #[.string ⟨#[]⟩, .int .i64 0, .int .i64 0, .int .i64 0] rfl).next (Below.refl _ _).drew
      have HBA := Lib.hid hba
      clear hba
      have hS0 : Below wr.heap.size wr wr ∧ wr.cell? ⟨w.heap.size, 0, none⟩ = some (.string s) ∧ wr.cell? ⟨w.heap.size, 1, none⟩ = some (.int .i64 side) ∧ wr.cell? ⟨w.heap.size, 2, none⟩ = some (.int .i64 clock) ∧ wr.cell? ⟨w.heap.size, 3, none⟩ = some (.int .i64 full) ∧ wr.cell? ⟨g1, o1 + k * 2, none⟩ = some (.int .i64 (u : Int)) ∧ wr.cell? ⟨g1, o1 + k * 2 + 1, none⟩ = some (.int .i64 (v : Int)) := ⟨Below.refl _ _, p0, p1, p2, p3, hc0, hc1⟩
      have hS1 : Below wr.heap.size wr wr.drew ∧ wr.drew.cell? ⟨w.heap.size, 0, none⟩ = some (.string s) ∧ wr.drew.cell? ⟨w.heap.size, 1, none⟩ = some (.int .i64 side) ∧ wr.drew.cell? ⟨w.heap.size, 2, none⟩ = some (.int .i64 clock) ∧ wr.drew.cell? ⟨w.heap.size, 3, none⟩ = some (.int .i64 full) ∧ wr.drew.cell? ⟨g1, o1 + k * 2, none⟩ = some (.int .i64 (u : Int)) ∧ wr.drew.cell? ⟨g1, o1 + k * 2 + 1, none⟩ = some (.int .i64 (v : Int)) := fk_keep hS0 (Below.refl _ _).drew
      clear HBA p0 p1 p2 p3
      go_wp2_with fail
      refine wp_region_held_drew (S := fun W => Below wr.heap.size wr W ∧ W.cell? ⟨w.heap.size, 0, none⟩ = some (.string s) ∧ W.cell? ⟨w.heap.size, 1, none⟩ = some (.int .i64 side) ∧ W.cell? ⟨w.heap.size, 2, none⟩ = some (.int .i64 clock) ∧ W.cell? ⟨w.heap.size, 3, none⟩ = some (.int .i64 full) ∧ W.cell? ⟨g1, o1 + k * 2, none⟩ = some (.int .i64 (u : Int)) ∧ W.cell? ⟨g1, o1 + k * 2 + 1, none⟩ = some (.int .i64 (v : Int))) (by kernel_rfl) (hS1) (fun hHeld => ?_)
      refine wpAnyH_take (i := 0) (oi := { dst := some 25, op := Op.load 31 (Operand.tmp 1), type := 31, pos := "law.go:52", after := #[], guard := none }) (v := ?_) rfl (by kernel_rfl) (by kernel_rfl) (by kernel_rfl) (fun _ _ _ h => h) (Or.inl ⟨by rfl, ?_⟩) (by assumption) ?_
      case refine_2 =>
        intro w hSw
        (try dsimp only at hSw)
        (try go_simp)
        all_goals (with_reducible rfl)
      (try dsimp only [Act.put]); (try simp only [List.setIfInBounds_toArray, List.set_cons_zero, List.set_cons_succ])
      refine wpAnyH_take (i := 1) (oi := { dst := some 26, op := Op.move (Operand.tmp 3), type := 26, pos := "law.go:52", after := #[], guard := none }) (v := ?_) rfl (by kernel_rfl) (by kernel_rfl) (by kernel_rfl) (fun _ _ _ h => h) (Or.inl ⟨by rfl, ?_⟩) (by assumption) ?_
      case refine_2 =>
        intro w hSw
        (try dsimp only at hSw)
        (try go_simp)
        all_goals (with_reducible rfl)
      (try dsimp only [Act.put]); (try simp only [List.setIfInBounds_toArray, List.set_cons_zero, List.set_cons_succ])
      refine wpAnyH_take (i := 2) (oi := { dst := some 27, op := Op.move (Operand.tmp 4), type := 3, pos := "law.go:52", after := #[], guard := none }) (v := ?_) rfl (by kernel_rfl) (by kernel_rfl) (by kernel_rfl) (fun _ _ _ h => h) (Or.inl ⟨by rfl, ?_⟩) (by assumption) ?_
      case refine_2 =>
        intro w hSw
        (try dsimp only at hSw)
        (try go_simp)
        all_goals (with_reducible rfl)
      (try dsimp only [Act.put]); (try simp only [List.setIfInBounds_toArray, List.set_cons_zero, List.set_cons_succ])
      refine wpAnyH_take (i := 3) (oi := { dst := some 28, op := Op.indexAddr 26 (Operand.tmp 26) (Operand.tmp 27), type := 0, pos := "law.go:52", after := #[{ on := 1, ground := Ground.data }, { on := 2, ground := Ground.data }], guard := none }) (v := ?_) rfl (by kernel_rfl) (by kernel_rfl) (by kernel_rfl) (fun _ _ _ h => h) (Or.inl ⟨by rfl, ?_⟩) (by assumption) ?_
      case refine_2 =>
        intro w hSw
        (try dsimp only at hSw)
        (try go_simp)
        all_goals (with_reducible rfl)
      (try dsimp only [Act.put]); (try simp only [List.setIfInBounds_toArray, List.set_cons_zero, List.set_cons_succ])
      refine wpAnyH_take (i := 4) (oi := { dst := some 29, op := Op.load 23 (Operand.tmp 28), type := 23, pos := "law.go:52", after := #[{ on := 3, ground := Ground.data }], guard := none }) (v := ?_) rfl (by kernel_rfl) (by kernel_rfl) (by kernel_rfl) (fun _ _ _ h => h) (Or.inl ⟨by rfl, ?_⟩) (by assumption) ?_
      case refine_2 =>
        intro w hSw
        (try dsimp only at hSw)
        (try go_simp)
        all_goals (with_reducible rfl)
      (try dsimp only [Act.put]); (try simp only [List.setIfInBounds_toArray, List.set_cons_zero, List.set_cons_succ])
      refine wpAnyH_ready (rs := [5, 10]) (by kernel_rfl) (by simp) (AllReadyH.cons (o := { dst := some 30, op := Op.call { callee := Callee.value (Operand.func 22), args := #[Operand.tmp 25, Operand.tmp 29], argTypes := #[31, 23] }, type := 36, pos := "law.go:52", after := #[{ on := 0, ground := Ground.data }, { on := 4, ground := Ground.data }], guard := none }) rfl (fun K hK => ?rd1) (AllReadyH.cons (o := { dst := some 5, op := Op.alloc 31, type := 0, pos := "law.go:52", after := #[], guard := none }) rfl (fun K hK => ?rd2) AllReadyH.nil))
      case' rd1 =>
        go_simp
        refine (HM2.out _).mono ?_; rintro e w3 ⟨rfl, hb⟩; (try (have bz := HBZ.out.next hb; obtain ⟨z0, z1, z2, z3⟩ := ppos_cells bz; obtain ⟨f0, f1, f2, f3⟩ := ppos_frozen bz))
        refine hK.out _ _ ?_ (fun hHeld => ?_)
        · first | exact fk_keep hS0 (hHeld.1.trans (hb.mono hHeld.1.size)) | exact fk_keep hS0 (hS1.1.trans (hb.mono hS1.1.size))
        clear hK K
        refine wpAnyH_take (i := 6) (oi := { dst := some 24, op := Op.move (Operand.tmp 30), type := 36, pos := "law.go:52", after := #[{ on := 5, ground := Ground.data }], guard := none }) (v := ?_) rfl (by kernel_rfl) (by kernel_rfl) (by kernel_rfl) (fun _ _ _ h => h) (Or.inl ⟨by rfl, ?_⟩) (by assumption) ?_
        case refine_2 =>
          intro w hSw
          (try dsimp only at hSw)
          (try go_simp)
          all_goals (with_reducible rfl)
        (try dsimp only [Act.put]); (try simp only [List.setIfInBounds_toArray, List.set_cons_zero, List.set_cons_succ])
        refine wpAnyH_take (i := 7) (oi := { dst := some 31, op := Op.extract (Operand.tmp 24) 0, type := 31, pos := "law.go:52", after := #[{ on := 6, ground := Ground.data }], guard := none }) (v := ?_) rfl (by kernel_rfl) (by kernel_rfl) (by kernel_rfl) (fun _ _ _ h => h) (Or.inl ⟨by rfl, ?_⟩) (by assumption) ?_
        case refine_2 =>
          intro w hSw
          (try dsimp only at hSw)
          (try go_simp)
          all_goals (with_reducible rfl)
        (try dsimp only [Act.put]); (try simp only [List.setIfInBounds_toArray, List.set_cons_zero, List.set_cons_succ])
        refine wpAnyH_take (i := 8) (oi := { dst := some 32, op := Op.extract (Operand.tmp 24) 1, type := 5, pos := "law.go:52", after := #[{ on := 6, ground := Ground.data }, { on := 11, ground := Ground.gcOnly Departure.lateStores }], guard := none }) (v := ?_) rfl (by kernel_rfl) (by kernel_rfl) (by kernel_rfl) (fun _ _ _ h => h) (Or.inl ⟨by rfl, ?_⟩) (by assumption) ?_
        case refine_2 =>
          intro w hSw
          (try dsimp only at hSw)
          (try go_simp)
          all_goals (with_reducible rfl)
        (try dsimp only [Act.put]); (try simp only [List.setIfInBounds_toArray, List.set_cons_zero, List.set_cons_succ])
        refine wpAnyH_take (i := 9) (oi := { dst := some 33, op := Op.extract (Operand.tmp 24) 2, type := 35, pos := "law.go:52", after := #[{ on := 6, ground := Ground.data }, { on := 12, ground := Ground.gcOnly Departure.lateStores }], guard := none }) (v := ?_) rfl (by kernel_rfl) (by kernel_rfl) (by kernel_rfl) (fun _ _ _ h => h) (Or.inl ⟨by rfl, ?_⟩) (by assumption) ?_
        case refine_2 =>
          intro w hSw
          (try dsimp only at hSw)
          (try go_simp)
          all_goals (with_reducible rfl)
        (try dsimp only [Act.put]); (try simp only [List.setIfInBounds_toArray, List.set_cons_zero, List.set_cons_succ])
        refine wpAnyH_ready (rs := [10]) (by kernel_rfl) (by simp) (AllReadyH.cons (o := { dst := some 5, op := Op.alloc 31, type := 0, pos := "law.go:52", after := #[], guard := none }) rfl (fun K hK => ?_) AllReadyH.nil)
        go_simp
        refine hK.out _ _ ?_ (fun hHeld => ?_)
        · first | exact fk_keep hS0 (((Below.refl _ wr).alloc (Nat.le_refl _) _).drew) | exact fk_keep hS0 (hHeld.1.alloc hHeld.1.size _)
        clear hK K
        (try dsimp only [Act.put]); (try simp only [List.setIfInBounds_toArray, List.set_cons_zero, List.set_cons_succ])
        refine wpAnyH_ready (rs := [11]) (by kernel_rfl) (by simp) (AllReadyH.cons (o := { dst := none, op := Op.store 31 (Operand.tmp 5) (Operand.tmp 31), type := 0, pos := "law.go:52", after := #[{ on := 10, ground := Ground.data }, { on := 7, ground := Ground.data }, { on := 5, ground := Ground.chain }, { on := 0, ground := Ground.phase }, { on := 1, ground := Ground.phase }, { on := 2, ground := Ground.phase }, { on := 3, ground := Ground.phase }, { on := 4, ground := Ground.phase }, { on := 5, ground := Ground.phase }, { on := 6, ground := Ground.phase }, { on := 7, ground := Ground.phase }, { on := 8, ground := Ground.textOnly Departure.lateStores }, { on := 9, ground := Ground.textOnly Departure.lateStores }, { on := 10, ground := Ground.phase }], guard := none }) rfl (fun K hK => ?_) AllReadyH.nil)
        go_simp
        refine hK.out _ _ ?_ (fun hHeld => ?_)
        · first | exact fk_keep hS0 ((((hHeld.1.setCell (p := ⟨wr.heap.size, 0, none⟩) (Nat.le_refl _) _).setCell (p := ⟨wr.heap.size, 1, none⟩) (Nat.le_refl _) _).setCell (p := ⟨wr.heap.size, 2, none⟩) (Nat.le_refl _) _).setCell (p := ⟨wr.heap.size, 3, none⟩) (Nat.le_refl _) _) | exact fk_keep hS0 ((hS1.1.trans (hb.mono hS1.1.size)).alloc (hS1.1.trans (hb.mono hS1.1.size)).size _)
        clear hK K
        (try dsimp only [Act.put]); (try simp only [List.setIfInBounds_toArray, List.set_cons_zero, List.set_cons_succ])
        refine wpAnyH_take (i := 12) (oi := { dst := some 6, op := Op.assign (Operand.tmp 32), type := 5, pos := "law.go:52", after := #[{ on := 8, ground := Ground.data }, { on := 11, ground := Ground.chain }, { on := 0, ground := Ground.phase }, { on := 1, ground := Ground.phase }, { on := 2, ground := Ground.phase }, { on := 3, ground := Ground.phase }, { on := 4, ground := Ground.phase }, { on := 5, ground := Ground.phase }, { on := 6, ground := Ground.phase }, { on := 7, ground := Ground.phase }, { on := 8, ground := Ground.phase }, { on := 9, ground := Ground.textOnly Departure.lateStores }, { on := 10, ground := Ground.phase }, { on := 11, ground := Ground.phase }], guard := none }) (v := ?_) rfl (by kernel_rfl) (by kernel_rfl) (by kernel_rfl) (fun _ _ _ h => h) (Or.inl ⟨by rfl, ?_⟩) (by assumption) ?_
        case refine_2 =>
          intro w hSw
          (try dsimp only at hSw)
          (try go_simp)
          all_goals (with_reducible rfl)
        (try dsimp only [Act.put]); (try simp only [List.setIfInBounds_toArray, List.set_cons_zero, List.set_cons_succ])
        refine wpAnyH_take (i := 13) (oi := { dst := some 7, op := Op.assign (Operand.tmp 33), type := 35, pos := "law.go:52", after := #[{ on := 9, ground := Ground.data }, { on := 12, ground := Ground.chain }, { on := 0, ground := Ground.phase }, { on := 1, ground := Ground.phase }, { on := 2, ground := Ground.phase }, { on := 3, ground := Ground.phase }, { on := 4, ground := Ground.phase }, { on := 5, ground := Ground.phase }, { on := 6, ground := Ground.phase }, { on := 7, ground := Ground.phase }, { on := 8, ground := Ground.phase }, { on := 9, ground := Ground.phase }, { on := 10, ground := Ground.phase }, { on := 11, ground := Ground.phase }, { on := 12, ground := Ground.phase }], guard := none }) (v := ?_) rfl (by kernel_rfl) (by kernel_rfl) (by kernel_rfl) (fun _ _ _ h => h) (Or.inl ⟨by rfl, ?_⟩) (by assumption) ?_
        case refine_2 =>
          intro w hSw
          (try dsimp only at hSw)
          (try go_simp)
          all_goals (with_reducible rfl)
        (try dsimp only [Act.put]); (try simp only [List.setIfInBounds_toArray, List.set_cons_zero, List.set_cons_succ])
        refine wpAnyH_done (by kernel_rfl) ?_ _
      case' rd2 =>
        go_simp
        refine hK.out _ _ ?_ (fun hHeld => ?_)
        · first | exact fk_keep hS0 (((Below.refl _ wr).alloc (Nat.le_refl _) _).drew) | exact fk_keep hS0 (hHeld.1.alloc hHeld.1.size _)
        clear hK K
        (try dsimp only [Act.put]); (try simp only [List.setIfInBounds_toArray, List.set_cons_zero, List.set_cons_succ])
        refine wpAnyH_ready (rs := [5]) (by kernel_rfl) (by simp) (AllReadyH.cons (o := { dst := some 30, op := Op.call { callee := Callee.value (Operand.func 22), args := #[Operand.tmp 25, Operand.tmp 29], argTypes := #[31, 23] }, type := 36, pos := "law.go:52", after := #[{ on := 0, ground := Ground.data }, { on := 4, ground := Ground.data }], guard := none }) rfl (fun K hK => ?_) AllReadyH.nil)
        go_simp
        refine (HM2.out _).mono ?_; rintro e w3 ⟨rfl, hb⟩; (try (have bz := HBZ.out.next hb; obtain ⟨z0, z1, z2, z3⟩ := ppos_cells bz; obtain ⟨f0, f1, f2, f3⟩ := ppos_frozen bz))
        refine hK.out _ _ ?_ (fun hHeld => ?_)
        · first | exact fk_keep hS0 (hHeld.1.trans (hb.mono hHeld.1.size)) | exact fk_keep hS0 (hS1.1.trans (hb.mono hS1.1.size))
        clear hK K
        refine wpAnyH_take (i := 6) (oi := { dst := some 24, op := Op.move (Operand.tmp 30), type := 36, pos := "law.go:52", after := #[{ on := 5, ground := Ground.data }], guard := none }) (v := ?_) rfl (by kernel_rfl) (by kernel_rfl) (by kernel_rfl) (fun _ _ _ h => h) (Or.inl ⟨by rfl, ?_⟩) (by assumption) ?_
        case refine_2 =>
          intro w hSw
          (try dsimp only at hSw)
          (try go_simp)
          all_goals (with_reducible rfl)
        (try dsimp only [Act.put]); (try simp only [List.setIfInBounds_toArray, List.set_cons_zero, List.set_cons_succ])
        refine wpAnyH_take (i := 7) (oi := { dst := some 31, op := Op.extract (Operand.tmp 24) 0, type := 31, pos := "law.go:52", after := #[{ on := 6, ground := Ground.data }], guard := none }) (v := ?_) rfl (by kernel_rfl) (by kernel_rfl) (by kernel_rfl) (fun _ _ _ h => h) (Or.inl ⟨by rfl, ?_⟩) (by assumption) ?_
        case refine_2 =>
          intro w hSw
          (try dsimp only at hSw)
          (try go_simp)
          all_goals (with_reducible rfl)
        (try dsimp only [Act.put]); (try simp only [List.setIfInBounds_toArray, List.set_cons_zero, List.set_cons_succ])
        refine wpAnyH_take (i := 8) (oi := { dst := some 32, op := Op.extract (Operand.tmp 24) 1, type := 5, pos := "law.go:52", after := #[{ on := 6, ground := Ground.data }, { on := 11, ground := Ground.gcOnly Departure.lateStores }], guard := none }) (v := ?_) rfl (by kernel_rfl) (by kernel_rfl) (by kernel_rfl) (fun _ _ _ h => h) (Or.inl ⟨by rfl, ?_⟩) (by assumption) ?_
        case refine_2 =>
          intro w hSw
          (try dsimp only at hSw)
          (try go_simp)
          all_goals (with_reducible rfl)
        (try dsimp only [Act.put]); (try simp only [List.setIfInBounds_toArray, List.set_cons_zero, List.set_cons_succ])
        refine wpAnyH_take (i := 9) (oi := { dst := some 33, op := Op.extract (Operand.tmp 24) 2, type := 35, pos := "law.go:52", after := #[{ on := 6, ground := Ground.data }, { on := 12, ground := Ground.gcOnly Departure.lateStores }], guard := none }) (v := ?_) rfl (by kernel_rfl) (by kernel_rfl) (by kernel_rfl) (fun _ _ _ h => h) (Or.inl ⟨by rfl, ?_⟩) (by assumption) ?_
        case refine_2 =>
          intro w hSw
          (try dsimp only at hSw)
          (try go_simp)
          all_goals (with_reducible rfl)
        (try dsimp only [Act.put]); (try simp only [List.setIfInBounds_toArray, List.set_cons_zero, List.set_cons_succ])
        refine wpAnyH_ready (rs := [11]) (by kernel_rfl) (by simp) (AllReadyH.cons (o := { dst := none, op := Op.store 31 (Operand.tmp 5) (Operand.tmp 31), type := 0, pos := "law.go:52", after := #[{ on := 10, ground := Ground.data }, { on := 7, ground := Ground.data }, { on := 5, ground := Ground.chain }, { on := 0, ground := Ground.phase }, { on := 1, ground := Ground.phase }, { on := 2, ground := Ground.phase }, { on := 3, ground := Ground.phase }, { on := 4, ground := Ground.phase }, { on := 5, ground := Ground.phase }, { on := 6, ground := Ground.phase }, { on := 7, ground := Ground.phase }, { on := 8, ground := Ground.textOnly Departure.lateStores }, { on := 9, ground := Ground.textOnly Departure.lateStores }, { on := 10, ground := Ground.phase }], guard := none }) rfl (fun K hK => ?_) AllReadyH.nil)
        go_simp
        refine hK.out _ _ ?_ (fun hHeld => ?_)
        · first | exact fk_keep hS0 ((((hHeld.1.setCell (p := ⟨wr.heap.size, 0, none⟩) (Nat.le_refl _) _).setCell (p := ⟨wr.heap.size, 1, none⟩) (Nat.le_refl _) _).setCell (p := ⟨wr.heap.size, 2, none⟩) (Nat.le_refl _) _).setCell (p := ⟨wr.heap.size, 3, none⟩) (Nat.le_refl _) _) | exact fk_keep hS0 ((hS1.1.trans (hb.mono hS1.1.size)).alloc (hS1.1.trans (hb.mono hS1.1.size)).size _)
        clear hK K
        (try dsimp only [Act.put]); (try simp only [List.setIfInBounds_toArray, List.set_cons_zero, List.set_cons_succ])
        refine wpAnyH_take (i := 12) (oi := { dst := some 6, op := Op.assign (Operand.tmp 32), type := 5, pos := "law.go:52", after := #[{ on := 8, ground := Ground.data }, { on := 11, ground := Ground.chain }, { on := 0, ground := Ground.phase }, { on := 1, ground := Ground.phase }, { on := 2, ground := Ground.phase }, { on := 3, ground := Ground.phase }, { on := 4, ground := Ground.phase }, { on := 5, ground := Ground.phase }, { on := 6, ground := Ground.phase }, { on := 7, ground := Ground.phase }, { on := 8, ground := Ground.phase }, { on := 9, ground := Ground.textOnly Departure.lateStores }, { on := 10, ground := Ground.phase }, { on := 11, ground := Ground.phase }], guard := none }) (v := ?_) rfl (by kernel_rfl) (by kernel_rfl) (by kernel_rfl) (fun _ _ _ h => h) (Or.inl ⟨by rfl, ?_⟩) (by assumption) ?_
        case refine_2 =>
          intro w hSw
          (try dsimp only at hSw)
          (try go_simp)
          all_goals (with_reducible rfl)
        (try dsimp only [Act.put]); (try simp only [List.setIfInBounds_toArray, List.set_cons_zero, List.set_cons_succ])
        refine wpAnyH_take (i := 13) (oi := { dst := some 7, op := Op.assign (Operand.tmp 33), type := 35, pos := "law.go:52", after := #[{ on := 9, ground := Ground.data }, { on := 12, ground := Ground.chain }, { on := 0, ground := Ground.phase }, { on := 1, ground := Ground.phase }, { on := 2, ground := Ground.phase }, { on := 3, ground := Ground.phase }, { on := 4, ground := Ground.phase }, { on := 5, ground := Ground.phase }, { on := 6, ground := Ground.phase }, { on := 7, ground := Ground.phase }, { on := 8, ground := Ground.phase }, { on := 9, ground := Ground.phase }, { on := 10, ground := Ground.phase }, { on := 11, ground := Ground.phase }, { on := 12, ground := Ground.phase }], guard := none }) (v := ?_) rfl (by kernel_rfl) (by kernel_rfl) (by kernel_rfl) (fun _ _ _ h => h) (Or.inl ⟨by rfl, ?_⟩) (by assumption) ?_
        case refine_2 =>
          intro w hSw
          (try dsimp only at hSw)
          (try go_simp)
          all_goals (with_reducible rfl)
        (try dsimp only [Act.put]); (try simp only [List.setIfInBounds_toArray, List.set_cons_zero, List.set_cons_succ])
        refine wpAnyH_done (by kernel_rfl) ?_ _
      all_goals
        first
        | (obtain ⟨W4, hW4⟩ : ∃ x, ((((w3.setCell ⟨wr.heap.size, 0, none⟩ (.string q)).setCell ⟨wr.heap.size, 1, none⟩ (.int .i64 o)).setCell ⟨wr.heap.size, 2, none⟩ (.int .i64 ck)).setCell ⟨wr.heap.size, 3, none⟩ (.int .i64 fl)) = x := ⟨_, rfl⟩
           have bQ : Blk W4 wr.heap.size 31 #[.string q, .int .i64 o, .int .i64 ck, .int .i64 fl] := by rw [← hW4]; exact ((((bz.set_ 0 (.string q)).set_ 1 (.int .i64 o)).set_ 2 (.int .i64 ck)).set_ 3 (.int .i64 fl))
           have hb4 : Below wr.heap.size wr W4 := by rw [← hW4]; exact hHeld.1
           rw [hW4]
           clear hW4 bz z0 z1 z2 z3 f0 f1 f2 f3
           generalize wr.heap.size = gq at bQ ⊢)
        | (obtain ⟨W4, hW4⟩ : ∃ x, w3.alloc (.cells #[.string q, .int .i64 o, .int .i64 ck, .int .i64 fl] 31) = x := ⟨_, rfl⟩
           have bQ : Blk W4 w3.heap.size 31 #[.string q, .int .i64 o, .int .i64 ck, .int .i64 fl] := by rw [← hW4]; exact Blk.new _ _ _ rfl
           have hb4 : Below wr.heap.size wr W4 := by rw [← hW4]; exact hHeld.1
           rw [hW4]
           clear hW4
           generalize w3.heap.size = gq at bQ ⊢)
        clear hHeld hb hS1 hS0 HBZ
        have hR4 := hR.trans (hb4.mono hR.size)
        have bP5 := bP3.next hb4
        have hd0 := (hb4.cell (p := ⟨g1, o1 + k * 2, none⟩) (cell_lt hc0)).trans hc0
        have hd1 := (hb4.cell (p := ⟨g1, o1 + k * 2 + 1, none⟩) (cell_lt hc1)).trans hc1
        clear hb4 hc0 hc1
        obtain ⟨q0, q1, q2, q3⟩ := ppos_cells bQ
        go_wp2_with fail
        refine (rlmoves_is q o ck fl M2 nm _ HM2L.out HNM.out).mono ?_
        rintro e w5 ⟨A5, c5, rfl, rd5, hb⟩
        have hR5 := hR4.trans (hb.mono hR4.size)
        have he0 := (hb.cell (p := ⟨g1, o1 + k * 2, none⟩) (cell_lt hd0)).trans hd0
        have he1 := (hb.cell (p := ⟨g1, o1 + k * 2 + 1, none⟩) (cell_lt hd1)).trans hd1
        have bP6 := bP5.next hb
        clear q0 q1 q2 q3 bQ hb hd0 hd1 hR4 bP5
        go_wp2_with fail
        go_loopw [8, 10] (fun ag ix wq => ∃ (j : Nat) (x : Bool), j ≤ nm ∧ ag = .bool x ∧ ix = .int .i64 j ∧ x = ((M2.take j).any fun k => k.2 == v) ∧ Below w5.heap.size w5 wq) (fun _ ix _ => nm - (intOf ix).toNat)
        case atStart => exact ⟨0, false, by omega, rfl, rfl, rfl, Below.refl _ _⟩
        case round =>
          obtain ⟨j, x, hj, rfl, rfl, hx, hBj⟩ := hrel
          by_cases hlt2 : j < nm
          · have hjl : j < M2.length := by rw [HNM.out]; exact hlt2
            obtain ⟨g5, o5, rfl, d0, d1⟩ := rd5.move hjl
            have hst := any_succ (p := fun k => k.2 == v) hjl
            obtain ⟨⟨c2, d2⟩, hcd⟩ : ∃ y, M2[j] = y := ⟨_, rfl⟩
            rw [hcd] at d0 d1 hst
            have hst2 : ((M2.take (j + 1)).any fun k => k.2 == v) = (x || (d2 == v)) := by rw [hst, ← hx]
            have HX := Lib.hid hx
            have b3 : (j : Int) < (nm : Int) := by omega
            have r1 := (hBj.cell (p := ⟨g1, o1 + k * 2 + 1, none⟩) (cell_lt he1)).trans he1
            have r5 := (hBj.cell (p := ⟨g5, o5 + j * 2 + 1, none⟩) (cell_lt d1)).trans d1
            clear hst hx hcd d0
            cases x
            · by_cases hdv : d2 = v
              · have HS2 : Hid (true = ((M2.take (j + 1)).any fun k => k.2 == v)) := by
                  show _ = _
                  rw [hst2, hdv]
                  simp
                have ee : ((d2 : Int) == (v : Int)) = true := by rw [beq_iff_eq]; omega
                clear hst2 hdv
                go_wp2_with fail
                go_quiet (fail)
                go_wp2_with fail
                go_roundw
                case rel => exact ⟨j + 1, true, by omega, rfl, by go_num, HS2.out, below_drewN hBj _⟩
                case measure => simp [intOf]; omega
              · have HS2 : Hid (false = ((M2.take (j + 1)).any fun k => k.2 == v)) := by
                  show _ = _
                  rw [hst2, Bool.false_or, eq_comm, beq_eq_false_iff_ne]
                  exact hdv
                have ee : ((d2 : Int) == (v : Int)) = false := by rw [beq_eq_false_iff_ne]; omega
                clear hst2 hdv
                go_wp2_with fail
                go_quiet (fail)
                go_wp2_with fail
                go_roundw
                case rel => exact ⟨j + 1, false, by omega, rfl, by go_num, HS2.out, below_drewN hBj _⟩
                case measure => simp [intOf]; omega
            · have HS2 : Hid (true = ((M2.take (j + 1)).any fun k => k.2 == v)) := by
                show _ = _
                rw [hst2]
                rfl
              clear hst2
              go_wp2_with fail
              go_quiet (fail)
              go_wp2_with fail
              go_roundw
              case rel => exact ⟨j + 1, true, by omega, rfl, by go_num, HS2.out, below_drewN hBj _⟩
              case measure => simp [intOf]; omega
          · obtain rfl : j = nm := by omega
            have hxr : x = r := by
              rw [hx, ← HR.out, List.take_of_length_le (by rw [HNM.out]; omega)]
            subst hxr
            have bP7 := bP6.next hBj
            have r0 := (hBj.cell (p := ⟨g1, o1 + k * 2, none⟩) (cell_lt he0)).trans he0
            have r1 := (hBj.cell (p := ⟨g1, o1 + k * 2 + 1, none⟩) (cell_lt he1)).trans he1
            have hR7 := hR5.trans (hBj.mono hR5.size)
            have hS : GA w w2 s g1 (o1 + k * 2) (o1 + k * 2 + 1) u v wr.drew := ⟨bP7.cell 0, r0, r1, hT2b.next (hR7.drew), hR7.drew⟩
            have nx : (x != x) = false := by cases x <;> rfl
            clear hx bP7 bP6 he0 he1 r0 r1 hR5
            go_wp2_with fail
            go_region_held3 (fun W => W.cell? ⟨w.heap.size, 0, none⟩ = some (.string s) ∧ W.cell? ⟨g1, o1 + k * 2, none⟩ = some (.int .i64 (u : Int)) ∧ W.cell? ⟨g1, o1 + k * 2 + 1, none⟩ = some (.int .i64 (v : Int)) ∧ Tab W ∧ Below w2.heap.size w2 W)
              (first | exact hS | exact ga_keep (by assumption) hb)
              (first | (go_at_call 17; refine (gguard_is s u v x _ ?_ HGA.out).mono ?_; (exact ga_tab (by assumption)); rintro e w8 ⟨rfl, hb⟩))
            all_goals
              go_wp2
              exact ⟨⟨k + 1, by omega, by go_num, ga_below (by assumption)⟩, by simp [intOf]; omega⟩
    · obtain rfl : k = m := by omega
      go_wp2_with fail
      refine (live15_any _ (hT.next (hB2b.trans (hR.mono hB2b.size)))).mono ?_
      rintro e w9 ⟨rfl, hb⟩
      go_wp2
      go_ret
      exact ⟨rfl, (hB2b.trans (hR.mono hB2b.size)).trans (hb.mono (hB2b.trans (hR.mono hB2b.size)).size)⟩
theorem walk (s : ByteArray) (side clock full : Int) (w : World) (hT : Tab w) : Calls Tryz.prog 5 #[.agg #[.string s, .int .i64 side, .int .i64 clock, .int .i64 full]] w (Gives w (.bool true)) := by
  by_cases hs : s.size ≤ 200
  · exact small s side clock full w hT hs
  · exact large s side clock full w hT (by omega)
end Go.Proofs.YtnpenlmlggpemaaGreatDoor.gagain
