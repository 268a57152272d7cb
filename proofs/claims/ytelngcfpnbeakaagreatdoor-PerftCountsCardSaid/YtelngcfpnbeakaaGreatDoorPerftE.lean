/- perft.begun; the closure's own ways. -/
import Derived.Test.YtelngcfpnbeakaaGreatDoorPerftC
import Derived.Test.YtelngcfpnbeakaaGreatDoorPerftD
import Derived.Test.YtelngcfpnbeakaaGreatDoorGameE
import Derived.Defers
namespace Go.Proofs.YtelngcfpnbeakaaGreatDoor
open Go.RowKit Go.Shelf
open Go.Maps
open M (S)

theorem begin_not {k depth least : Int} (h : beginN k depth least ≠ 0) : (k ≠ 0 ∧ beginN k depth least = k) ∨ (k = 0 ∧ beginN k depth least = 1 ∧ (depth < least ∨ 64 < depth)) := by
  unfold beginN at h ⊢
  by_cases h1 : k = 0 ∧ (depth < least ∨ 64 < depth)
  · rw [if_pos h1]
    exact .inr ⟨h1.1, rfl, h1.2⟩
  · rw [if_neg h1] at h ⊢
    exact .inl ⟨h, rfl⟩
set_option maxHeartbeats 4000000 in
theorem begun_no (s : ByteArray) (y z u depth least k : Int) (w : World) (hT : Tab w) (hk : beginN (wellN s y z u) depth least = k) (h0 : k ≠ 0) : Calls Tryz.prog 13 #[.agg #[.string s, .int .i64 y, .int .i64 z, .int .i64 u], .int .i64 depth, .int .i64 least] w (Gives w (.tuple #[.pointer none, .int .i64 k])) := by
  unfold Gives
  obtain ⟨x, hx⟩ : ∃ x, wellN s y z u = x := ⟨_, rfl⟩
  rw [hx] at hk
  rcases begin_not (by rw [hk]; exact h0) with ⟨a, b⟩ | ⟨a, b, c⟩
  · obtain rfl : k = x := by rw [← hk, b]
    have e0 : (k != 0) = true := by rw [bne_iff_ne]; exact h0
    have HN := Lib.hid (new_bad s y z u k)
    clear hk b
    go_enter Tryz.func13, Tryz.ntmps13
    go_wp2_with fail
    refine (HN.out _ (hT.next (below_one _ _)) hx e0).mono ?_
    rintro e w1 ⟨rfl, hb⟩
    go_wp2
    go_ret2
    exact ⟨rfl, below_past hb⟩
  · subst a
    obtain rfl : k = 1 := by rw [← hk, b]
    have HN := Lib.hid (new_is s y z u)
    clear hk b
    rcases c with c | c
    · go_enter Tryz.func13, Tryz.ntmps13
      go_wp2_with fail
      refine (HN.out _ (hT.next (below_one _ _)) hx).mono ?_
      rintro e w1 ⟨g, rfl, hg, hbk, hb⟩
      go_wp2
      go_ret2
      exact ⟨rfl, below_past hb⟩
    · by_cases d : depth < least
      · go_enter Tryz.func13, Tryz.ntmps13
        go_wp2_with fail
        refine (HN.out _ (hT.next (below_one _ _)) hx).mono ?_
        rintro e w1 ⟨g, rfl, hg, hbk, hb⟩
        go_wp2
        go_ret2
        exact ⟨rfl, below_past hb⟩
      · go_enter Tryz.func13, Tryz.ntmps13
        go_wp2_with fail
        refine (HN.out _ (hT.next (below_one _ _)) hx).mono ?_
        rintro e w1 ⟨g, rfl, hg, hbk, hb⟩
        go_wp2
        go_ret2
        exact ⟨rfl, below_past hb⟩
set_option maxHeartbeats 4000000 in
theorem begun_is (s : ByteArray) (y z u depth least : Int) (w : World) (hT : Tab w) (hk : wellN s y z u = 0) (h1 : least ≤ depth) (h2 : depth ≤ 64) : Calls Tryz.prog 13 #[.agg #[.string s, .int .i64 y, .int .i64 z, .int .i64 u], .int .i64 depth, .int .i64 least] w fun e w' =>
    ∃ g, e = .returned (.tuple #[.pointer (some ⟨g, 0, none⟩), .int .i64 0]) ∧ w.heap.size ≤ g ∧ Blk w' g 63 #[.slice none 0 0, .string s, .int .i64 y, .int .i64 z, .int .i64 u] ∧ Below w.heap.size w w' := by
  have HN := Lib.hid (new_is s y z u)
  go_enter Tryz.func13, Tryz.ntmps13
  go_wp2_with fail
  refine (HN.out _ (hT.next (below_one _ _)) hk).mono ?_
  rintro e w1 ⟨g, rfl, hg, hbk, hb⟩
  go_wp2
  go_ret2
  exact ⟨g, rfl, Nat.le_trans (by simp) hg, hbk, below_past hb⟩
theorem map_far {w w' : World} {P : Program} {k : TypeId} {R : Value → Option (DataW Unit × List MemPlace)} {b n : Nat} {D : DataW Unit} (h : w.ownsMap P k R b n D) (e : w'.heap[b]? = w.heap[b]?) : w'.ownsMap P k R b n D := by
  obtain ⟨es, clock, hb, r⟩ := h
  exact ⟨es, clock, e.trans hb, r⟩
/-- A counter's blocks stay where only a game's are turned. -/
theorem CntAt.far {H g n : Nat} {D : DataW Unit} {w w' : World} (h : CntAt H g n D w) {X : Nat → Prop} (hf : Far X w w') (hX : ∀ k, H ≤ k → k ≤ H + 1 + 1 + 1 → ¬ X k) : CntAt H g n D w' :=
  ⟨hf.blk h.game (hX _ (by omega) (by omega)), hf.blk h.cell (hX _ (by omega) (by omega)), hf.blk h.self (hX _ (by omega) (by omega)), map_far h.map (hf.block _ h.map.lt (hX _ (by omega) (by omega)))⟩
theorem CntAt.next {H g n : Nat} {D : DataW Unit} {w w' : World} (h : CntAt H g n D w) (hb : Below w.heap.size w w') : CntAt H g n D w' := h.far (X := fun _ => False) (Far.of hb) fun _ _ _ x => x
theorem CntAt.game_far {H g n n₀ : Nat} {D : DataW Unit} {w w' : World} {v : Value} {st : List Stp} {now : Po} (h : CntAt H g n D w) (hG : GAt n₀ w g v st now) (hf : Far (OfG g v) w w') (hg : g < H) (hn : H + 1 + 1 + 1 < n₀) : CntAt H g n D w' :=
  h.far hf fun k h1 h2 hx => by
    rcases hx with rfl | e
    · omega
    · have := (hG.own e).1
      omega
set_option maxHeartbeats 4000000 in
theorem lines_one (a b : Int) (H : Nat) (w : World) : Calls Tryz.prog 34 #[.agg #[.int .i64 a, .int .i64 b], .int .i64 1, .pointer (some ⟨H, 0, none⟩), .pointer (some ⟨H + 1 + 1, 0, none⟩), .pointer (some ⟨H + 1 + 1 + 1, 0, none⟩)] w (Gives w (.int .i64 1)) := by
  unfold Gives
  go_enter_defers Tryz.func34, Tryz.ntmps34
  go_wp2
  exact ⟨_, results_tmp rfl _ _ _, rfl, below_one _ _⟩
set_option maxRecDepth 100000 in
set_option maxHeartbeats 4000000 in
theorem unmake_d {n₀ : Nat} {w : World} {g : Nat} {v : Value} {st : List Stp} {x : Stp} {now : Po} (h : GAt n₀ w g v (st ++ [x]) now) (hle : st.length ≤ 1024) (u : FrameMode) :
    CallsD Tryz.prog 36 #[.pointer (some ⟨g, 0, none⟩)] u w fun e u' w' => u' = u ∧ Goes n₀ w g v st x.p (.int .i64 0) e w' := by
  unfold Goes
  have hp := pop_is h hle
  have hgl := h.lt
  have hgw := h.le
  clear h hle
  go_enter_d Tryz.func36, Tryz.ntmps36
  go_wp2_with fail
  refine hp.mono ?_
  rintro e w1 ⟨rfl, v', h1, ho, hf⟩
  have hs1 := hf.size
  obtain ⟨W2, hW2⟩ : ∃ W2, w1.alloc (.cells #[.int .i64 x.a, .int .i64 x.b, .string x.p.s, .int .i64 x.p.y, .int .i64 x.p.z, .int .i64 x.p.u] 83) = W2 := ⟨_, rfl⟩
  have hb2 : Below w1.heap.size w1 W2 := by rw [← hW2]; exact (Below.refl _ _).alloc (Nat.le_refl _) _
  have bN : Blk W2 w1.heap.size 83 #[.int .i64 x.a, .int .i64 x.b, .string x.p.s, .int .i64 x.p.y, .int .i64 x.p.z, .int .i64 x.p.u] := by rw [← hW2]; exact Blk.new _ _ _ rfl
  have h2 := h1.next hb2
  have hf2 := hf.trans (Far.of hb2)
  obtain ⟨n2, n3, n4, n5⟩ : W2.cell? ⟨w1.heap.size, 2, none⟩ = some (.string x.p.s) ∧ W2.cell? ⟨w1.heap.size, 3, none⟩ = some (.int .i64 x.p.y) ∧ W2.cell? ⟨w1.heap.size, 4, none⟩ = some (.int .i64 x.p.z) ∧ W2.cell? ⟨w1.heap.size, 5, none⟩ = some (.int .i64 x.p.u) := ⟨bN.cell 2, bN.cell 3, bN.cell 4, bN.cell 5⟩
  obtain ⟨c0, c1, c2, c3, c4⟩ := gcells h2.blk
  obtain ⟨f0, f1, f2, f3, f4, _⟩ := gfrozen h2.blk
  obtain ⟨W3, hW3⟩ : ∃ W3, ((((W2.setCell ⟨g, 1, none⟩ (.string x.p.s)).setCell ⟨g, 2, none⟩ (.int .i64 x.p.y)).setCell ⟨g, 3, none⟩ (.int .i64 x.p.z)).setCell ⟨g, 4, none⟩ (.int .i64 x.p.u)) = W3 := ⟨_, rfl⟩
  have b3 : Blk W3 g 63 #[v', .string x.p.s, .int .i64 x.p.y, .int .i64 x.p.z, .int .i64 x.p.u] := by rw [← hW3]; exact (((h2.blk.set_ 1 (.string x.p.s)).set_ 2 (.int .i64 x.p.y)).set_ 3 (.int .i64 x.p.z)).set_ 4 (.int .i64 x.p.u)
  have hf3 : Far (OfG g v) w W3 := by rw [← hW3]; exact (((hf2.trans (Far.set (p := ⟨g, 1, none⟩) (Or.inl rfl) _)).trans (Far.set (p := ⟨g, 2, none⟩) (Or.inl rfl) _)).trans (Far.set (p := ⟨g, 3, none⟩) (Or.inl rfl) _)).trans (Far.set (p := ⟨g, 4, none⟩) (Or.inl rfl) _)
  have hr3 : W3.ownsRow n₀ 83 6 v' st.length (stepsL st) := by
    refine row_next h2.row (fun k _ e => ?_)
    have hk : k ≠ g := by have := (h2.own e).1; omega
    rw [← hW3, Below.heap_setCell _ _ _ _ hk, Below.heap_setCell _ _ _ _ hk, Below.heap_setCell _ _ _ _ hk, Below.heap_setCell _ _ _ _ hk]
  have HEND := Lib.hid (And.intro b3 (And.intro hr3 hf3))
  clear b3 hr3 hf3 h2 hf2 hb2 bN h1 hf
  go_wp2_with fail
  go_ret
  obtain ⟨b3, hr3, hf3⟩ := HEND.out
  exact ⟨rfl, v', ⟨b3, hr3, hgl, Nat.le_trans hgw hf3.size⟩, ho, hf3⟩
theorem zero_int (w : World) : (zeroValue 3).run Tryz.prog w = .ok (.int .i64 0) w := by kernel_rfl
theorem known_under : Tryz.prog.underlying 64 = some (.map 68 3) := by kernel_rfl
theorem int_under : Tryz.prog.underlying 3 = some (.int .i64) := by kernel_rfl
theorem pos_cells (q : ByteArray) (y z u : Int) (W : World) : (Instr.field 23 (.agg #[.string q, .int .i64 y, .int .i64 z, .int .i64 u]) 0).run Tryz.prog W = .ok (.string q) W := by kernel_rfl
theorem far_game {w W0 w1 w3 w4 : World} {g : Nat} {v v1 : Value} (h0 : Below w.heap.size w W0) (h1 : Far (OfG g v) W0 w1) (h2 : Below w1.heap.size w1 w3) (h3 : Far (OfG g v1) w3 w4) (ho : ∀ k, v1.ownBlock = some k → v.ownBlock = some k ∨ W0.heap.size ≤ k) : Far (OfG g v) w w4 :=
  ⟨h3.os.trans (h2.os.trans (h1.os.trans h0.os)), h3.tape.trans (h2.tape.trans (h1.tape.trans h0.tape)), h3.output.trans (h2.output.trans (h1.output.trans h0.output)), Nat.le_trans h0.size (Nat.le_trans h1.size (Nat.le_trans h2.size h3.size)), fun k hk hx => by
    have a0 := h0.size
    have a1 := h1.size
    have a2 := h2.size
    refine (h3.block k (by omega) ?_).trans ((h2.block k (by omega)).trans ((h1.block k (by omega) hx).trans (h0.block k hk)))
    rintro (e | e)
    · exact hx (.inl e)
    · rcases ho k e with e | e
      · exact hx (.inr e)
      · omega⟩
set_option maxRecDepth 100000 in
set_option maxHeartbeats 8000000 in
theorem lines_found {n₀ g n H : Nat} {v : Value} {st : List Stp} {now : Po} {D : DataW Unit} (a b d : Int) (w : World) (hT : Tab w) (hG : GAt n₀ w g v st now) (hC : CntAt H g n D w) (hgH : g < H) (hHn : H + 1 + 1 + 1 < n₀) (hl : st.length < 1024) (hd : 2 ≤ d) (hd2 : d ≤ 5) (q : ByteArray) (y z u : Int) (t : Nat) (r : Int) (hhas : Maps.has D (nodeL q (d - 1)) = true) (hat0 : D.atKey (nodeL q (d - 1)) (.lit (.int .i64 0)) = .lit (.int .i64 r)) (hq : q.size ≤ maxLen) (hdw : (Lit.int .i64 (d - 1)).wf = true)
    (hV : makeV now.s now.y now.z now.u a b = .tuple #[.agg #[.string q, .int .i64 y, .int .i64 z, .int .i64 u], .int .u8 t, .int .i64 0]) : Calls Tryz.prog 34 #[.agg #[.int .i64 a, .int .i64 b], .int .i64 d, .pointer (some ⟨H, 0, none⟩), .pointer (some ⟨H + 1 + 1, 0, none⟩), .pointer (some ⟨H + 1 + 1 + 1, 0, none⟩)] w fun e w' => e = .returned (.int .i64 r) ∧ ∃ v', GAt n₀ w' g v' st now ∧ (∀ k, v'.ownBlock = some k → v.ownBlock = some k ∨ w.heap.size ≤ k) ∧ CntAt H g n D w' ∧ Far (OfG g v) w w' := by
  have d1 : (d == 1) = false := by rw [beq_eq_false_iff_ne]; omega
  have c0 : w.cell? ⟨H, 0, none⟩ = some (.pointer (some ⟨g, 0, none⟩)) := hC.game.cell 0
  have c2 : w.cell? ⟨H + 1 + 1, 0, none⟩ = some (.map (some (H + 1))) := hC.cell.cell 0
  have c3 : w.cell? ⟨H + 1 + 1 + 1, 0, none⟩ = some (closV H) := hC.self.cell 0
  obtain ⟨W0, hW0⟩ : ∃ W0, w.alloc (.cells #[.int .i64 a, .int .i64 b] 37) = W0 := ⟨_, rfl⟩
  have hB : Below w.heap.size w W0 := by rw [← hW0]; exact (by repeat (first | exact Below.refl _ _ | (refine Below.setCell ?_ (by first | omega | (simp; done) | (simp; omega) | (simp at *; omega)) _) | (refine Below.alloc ?_ (by first | omega | (simp; done) | (simp; omega) | (simp at *; omega)) _) | refine Below.drew ?_ | (refine below_drewN ?_ _) | (refine Below.trans ?_ (Below.mono (by assumption) (by first | omega | (simp; done) | (simp; omega) | (simp at *; omega))))))
  have hG0 := hG.next hB
  have HM := Lib.hid (gmake_any hG0 (hT.next hB) a b hl q y z u 0 t true hV rfl)
  have k0 : W0.cell? ⟨H, 0, none⟩ = some (.pointer (some ⟨g, 0, none⟩)) := (hB.cell (p := ⟨H, 0, none⟩) (cell_lt c0)).trans c0
  rw [← hW0] at k0
  have HW := Lib.hid hW0
  clear hW0 hV
  go_enter_defers Tryz.func34, Tryz.ntmps34
  go_wp2_with fail
  rw [HW.out]
  refine HM.out.mono ?_
  rintro e w1 hgo
  rw [if_pos trivial] at hgo
  obtain ⟨rfl, v1, hG1, ho1, hf1⟩ := hgo
  have hC1 := (hC.next hB).game_far hG0 hf1 hgH hHn
  have k1 : w1.cell? ⟨H, 0, none⟩ = some (.pointer (some ⟨g, 0, none⟩)) := hC1.game.cell 0
  clear k0 c0 c2 c3
  go_wp2_with fail
  refine (position_is hG1).mono ?_
  rintro e w2 ⟨rfl, hb2⟩
  have hC2 := hC1.next hb2
  have hG2 := hG1.next hb2
  have k2 : w2.cell? ⟨H + 1 + 1, 0, none⟩ = some (.map (some (H + 1))) := hC2.cell.cell 0
  have hf2 := pos_cells q y z u
  clear k1
  have bN : Blk (w2.alloc (.cells #[.string q, .int .i64 (d - 1)] 68)) w2.heap.size 68 #[.string q, .int .i64 (d - 1)] := Blk.new _ _ _ rfl
  have k3 : (w2.alloc (.cells #[.string q, .int .i64 (d - 1)] 68)).cell? ⟨H + 1 + 1, 0, none⟩ = some (.map (some (H + 1))) := (hC2.cell.alloc _).cell 0
  have k4 : (w2.alloc (.cells #[.string q, .int .i64 (d - 1)] 68)).cell? ⟨w2.heap.size, 0, none⟩ = some (.string q) := bN.cell 0
  have k5 : (w2.alloc (.cells #[.string q, .int .i64 (d - 1)] 68)).cell? ⟨w2.heap.size, 1, none⟩ = some (.int .i64 (d - 1)) := bN.cell 1
  have hown := hC2.map.alloc (.cells #[.string q, .int .i64 (d - 1)] 68)
  have hkey := node_key (s := q) (d := d - 1) hq hdw
  clear k2
  go_wp2_with (first | (at_lookup; refine wpList_lookup_own_ok_int _ rfl _ _ 64 rfl 68 3 .i64 node_law known_under int_under (zero_int _) (H + 1) n D rfl hown _ _ rfl hkey ?_; intro c hat hwc; obtain rfl : c = r := (by have e := hat.symm.trans hat0; simpa using e); rw [hhas]) | fail)
  have hb3 : Below w1.heap.size w1 (w2.alloc (.cells #[.string q, .int .i64 (d - 1)] 68)) := hb2.alloc hb2.size _
  have hG3 := hG1.next hb3
  have hC3 := hC1.next hb3
  refine leaves_cons (f := 36) (args := #[.pointer (some ⟨g, 0, none⟩)]) (by simp) (by simp [go_sem]) ?_
  refine (unmake_d hG3 (by omega) _).mono ?_
  rintro e u' w4 ⟨rfl, rfl, v4, hG4, ho4, hf4⟩
  refine ⟨_, results_tmp rfl _ _ _, rfl, v4, hG4, fun k hk => ?_, hC3.game_far hG3 hf4 hgH hHn, far_game hB hf1 hb3 hf4 ho1⟩
  have a0 := hB.size
  have a1 := hf1.size
  have a2 := hb3.size
  rcases ho4 k hk with e | e
  · rcases ho1 k e with e | e
    · exact .inl e
    · exact .inr (by omega)
  · exact .inr (by omega)
end Go.Proofs.YtelngcfpnbeakaaGreatDoor
