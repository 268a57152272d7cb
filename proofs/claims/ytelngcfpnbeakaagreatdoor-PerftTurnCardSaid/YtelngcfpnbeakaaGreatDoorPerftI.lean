/- perft.splits. -/
import Derived.Test.YtelngcfpnbeakaaGreatDoorPerftH
namespace Go.Proofs.YtelngcfpnbeakaaGreatDoor
open Go.RowKit Go.Shelf
open Go.Maps
open M (S)

theorem game_at {w : World} {g n₀ : Nat} {p : Po} (h : Blk w g 63 #[.slice none 0 0, .string p.s, .int .i64 p.y, .int .i64 p.z, .int .i64 p.u]) (h1 : g < n₀) (h2 : n₀ ≤ w.heap.size) : GAt n₀ w g (.slice none 0 0) [] p :=
  ⟨h, World.ownsRow_nil w n₀ 83 6, h1, h2⟩
/-- The cells of the splits: a move, and how many lines begin with it. -/
def splL (N : Nat) (s : ByteArray) (y : Int) (l : List (Nat × Nat)) : List Value := l.flatMap fun m => [.int .i64 (m.1 : Int), .int .i64 (m.2 : Int), .int .i64 (linesN N (behindS s m) (1 - y) : Nat)]
theorem splL_succ {N : Nat} {s : ByteArray} {y : Int} {l : List (Nat × Nat)} {k : Nat} (h : k < l.length) : splL N s y (l.take (k + 1)) = splL N s y (l.take k) ++ [.int .i64 (l[k].1 : Int), .int .i64 (l[k].2 : Int), .int .i64 (linesN N (behindS s l[k]) (1 - y) : Nat)] := by
  unfold splL
  rw [List.take_succ_eq_append_getElem h, List.flatMap_append]
  rfl
theorem two_on {W W' : World} {b : Nat} {x y : Value} (h : W.cell? ⟨b, 0, none⟩ = some x ∧ W.cell? ⟨b, 1, none⟩ = some y) (e : W'.heap[b]? = W.heap[b]?) : W'.cell? ⟨b, 0, none⟩ = some x ∧ W'.cell? ⟨b, 1, none⟩ = some y :=
  ⟨(cell_heap e 0).trans h.1, (cell_heap e 1).trans h.2⟩
theorem own_ge {w : World} {base : Nat} {e : TypeId} {size n : Nat} {v : Value} {xs : List Value} (h : w.ownsRow base e size v n xs) {k : Nat} (hk : v.ownBlock = some k) : base ≤ k ∧ k < w.heap.size := by
  rcases h.2 with ⟨rfl, _⟩ | ⟨g', cap, cur, rfl, hb, hc, _⟩
  · cases hk
  · have : g' = k := by simpa [Value.ownBlock] using hk
    rw [← this]
    exact ⟨hb, (Array.getElem?_eq_some_iff.1 hc).1⟩
theorem Keeps.high {g H : Nat} {w w1 w2 : World} {v v1 : Value} {r : Option Nat} (h : Keeps g H w v w1 v1) (hg : w1.grownBy w2 r) (hr : ∀ k, some k = r → w.heap.size ≤ k) : Keeps g H w v w2 v1 := by
  have f := Far.grown (X := fun k => some k = r) hg fun _ e => e
  have hs := h.far.size
  refine ⟨⟨f.os.trans h.far.os, f.tape.trans h.far.tape, f.output.trans h.far.output, Nat.le_trans hs f.size, fun k hk hx => ?_⟩, h.own⟩
  refine (f.block k (by omega) fun e => ?_).trans (h.far.block k hk hx)
  have := hr k e
  omega
theorem info_split : (Tryz.prog.info? 39).map (fun i => (i.zero, i.size, i.bytes)) = some (some (.agg #[.int .i64 0, .int .i64 0, .int .i64 0]), 3, 24) := by kernel_rfl
set_option maxRecDepth 100000 in
set_option maxHeartbeats 8000000 in
theorem splits_is (g : Nat) (p : Po) (N : Nat) (d : Int) (w : World) (hdd : d = N + 1) (hN : N ≤ 4) (htg : 1 < g) (hT : Tab w) (hbk : Blk w g 63 #[.slice none 0 0, .string p.s, .int .i64 p.y, .int .i64 p.z, .int .i64 p.u]) (hw : wellN p.s p.y p.z p.u = 0) (L : List (Nat × Nat)) (m : Nat) (hL : legalV p.s p.y p.z p.u = L) (hm : L.length = m) :
    Calls Tryz.prog 14 #[.pointer (some ⟨g, 0, none⟩), .int .i64 d] w fun e w' => ∃ v', e = .returned v' ∧ w'.ownsRow w.heap.size 39 3 v' m (splL N p.s p.y L) ∧ Below g w w' := by
  have hgw := hbk.lt
  have HL := Lib.hid hL
  have HM := Lib.hid hm
  have HDD := Lib.hid hdd
  have HW := Lib.hid hw
  have hd1 : 1 ≤ d := by omega
  have hd2 : d ≤ 5 := by omega
  clear hL hm hdd hw
  obtain ⟨i0, hi, hz0, hz1, hz2⟩ := info_parts info_split
  go_enter Tryz.func14, Tryz.ntmps14
  go_wp2_with fail
  refine (counter_is g w).mono ?_
  rintro e w1 ⟨rfl, hC1, hb1⟩
  have hgs := hC1.self.lt
  have hG1 := game_at (n₀ := w1.heap.size) (hbk.next hb1) (by omega) (Nat.le_refl _)
  have hT1 := hT.next hb1
  go_wp2_with fail
  refine (position_is hG1).mono ?_
  rintro e w2 ⟨rfl, hb2⟩
  have hG2 := hG1.next hb2
  have hC2 := hC1.next hb2
  have hT2 := hT1.next hb2
  go_wp2_with fail
  refine (lmoves_own p.s p.y p.z p.u L m _ hT2 HL.out HM.out).mono ?_
  rintro e w3 ⟨mv, rfl, hmo, hb3⟩
  obtain ⟨A, cp, rfl⟩ := owns_slice hmo
  have hG3 := hG2.next hb3
  have hC3 := hC2.next hb3
  have hT3 := hT2.next hb3
  go_wp2_with fail
  have HIH := Lib.hid (linesC_any p.y (N + 1) N (Nat.le_refl _) hN)
  have hr := Rd.owns hmo
  go_loopw [5, 15] (fun v i wr => ∃ (k : Nat) (v6 : Value) (n6 : Nat) (D6 : DataW Unit), k ≤ m ∧ i = .int .i64 k ∧ wr.ownsRow w3.heap.size 39 3 v k (splL N p.s p.y (L.take k)) ∧ (∀ b, v.ownBlock = some b → v6.ownBlock ≠ some b) ∧ Keeps g w.heap.size w3 (.slice none 0 0) wr v6 ∧ GAt w1.heap.size wr g v6 [] p ∧ CntAt w.heap.size g n6 D6 wr ∧ n6 ≤ 300000 ∧ MemoOk p.y (N + 1) D6) (fun _ i _ => m - (intOf i).toNat)
  case atStart => exact ⟨0, .slice none 0 0, 0, .map [], by omega, rfl, by simpa [splL] using World.ownsRow_nil w3 w3.heap.size 39 3, fun b e => (by cases e), Keeps.below (Below.refl _ _), hG3, hC3, by omega, memo_none _ _⟩
  case round =>
    obtain ⟨k, v6, n6, D6, hk, rfl, hown, hne, K6, hG6, hC6, hn6, hM6⟩ := hrel
    by_cases hlt : k < m
    · have hkl : k < L.length := by rw [HM.out]; exact hlt
      obtain ⟨g1, o1, rfl, e0, e1⟩ := hr.move hkl
      have hg1 : w2.heap.size ≤ g1 := by
        rcases hmo.2 with ⟨hv, _⟩ | ⟨g', cap, cur, hv, hg, _⟩
        · simp at hv
        · simp at hv
          omega
      have hfar : ¬ OfL g w.heap.size (.slice none 0 0) g1 := by
        have a1 := hG2.lt
        have a2 := hG2.le
        rintro (e | e | e)
        · omega
        · cases e
        · omega
      have hf5 : wr.heap[g1]? = w3.heap[g1]? := K6.far.block g1 (cell_lt e0) hfar
      have e0 := (cell_heap hf5 _).trans e0
      have e1 := (cell_heap hf5 _).trans e1
      have hmem : (L[k].1, L[k].2) ∈ legalN p.s p.y := by
        have h1 : L[k] ∈ legalV p.s p.y p.z p.u := by rw [HL.out]; exact List.getElem_mem hkl
        rw [legal_same, if_pos HW.out] at h1
        exact h1
      have hst := splL_succ (N := N) (s := p.s) (y := p.y) hkl
      obtain ⟨⟨i1, i2⟩, huv⟩ : ∃ x, L[k] = x := ⟨_, rfl⟩
      rw [huv] at e0 e1 hst hmem
      obtain ⟨r, hr0⟩ : ∃ r, linesN N (behindS p.s (i1, i2)) (1 - p.y) = r := ⟨_, rfl⟩
      rw [hr0] at hst
      have HST := Lib.hid hst
      have hbA : Below wr.heap.size wr (wr.alloc (.cells #[.int .i64 (i1 : Int), .int .i64 (i2 : Int)] 37)).drew := ((Below.refl _ _).alloc (Nat.le_refl _) _).drew
      have hGA := hG6.next hbA
      have hCA := hC6.next hbA
      have hTA : Tab (wr.alloc (.cells #[.int .i64 (i1 : Int), .int .i64 (i2 : Int)] 37)).drew := (hT3.below (keeps_low K6 hG3 hgw) htg).next hbA
      have hS : (wr.alloc (.cells #[.int .i64 (i1 : Int), .int .i64 (i2 : Int)] 37)).drew.cell? ⟨wr.heap.size, 0, none⟩ = some (.int .i64 (i1 : Int)) ∧ (wr.alloc (.cells #[.int .i64 (i1 : Int), .int .i64 (i2 : Int)] 37)).drew.cell? ⟨wr.heap.size, 1, none⟩ = some (.int .i64 (i2 : Int)) := by
        have bM : Blk (wr.alloc (.cells #[.int .i64 (i1 : Int), .int .i64 (i2 : Int)] 37)).drew wr.heap.size 37 #[.int .i64 (i1 : Int), .int .i64 (i2 : Int)] := (Blk.new wr _ _ rfl).next (Below.refl _ _).drew
        exact ⟨bM.cell 0, bM.cell 1⟩
      have hrowA := row_next (w1 := (wr.alloc (.cells #[.int .i64 (i1 : Int), .int .i64 (i2 : Int)] 37)).drew) hown fun b hb _ => hbA.block b hb
      have HC := Lib.hid (HIH.out w1.heap.size g n6 w.heap.size v6 [] p D6 i1 i2 d _ (by have := HDD.out; omega) htg hTA hGA hCA hn6 hM6 hgw hgs (by simp; omega) (by unfold sideAt; rw [if_pos (by omega)]) HW.out hmem)
      have HR0 := Lib.hid hr0
      have hfr : ¬ OfL g w.heap.size v6 wr.heap.size := by
        have a1 := hG6.lt
        have a2 := hG6.le
        rintro (e | e | e)
        · omega
        · have := (hG6.own e).2
          omega
        · omega
      have hfo : ∀ b, u5.ownBlock = some b → ¬ OfL g w.heap.size v6 b := by
        intro b hb
        have a0 := own_ge hown hb
        have a1 := hG3.lt
        have a2 := hG3.le
        rintro (e | e | e)
        · omega
        · exact hne b hb e
        · omega
      have HSZ : Hid ((wr.alloc (.cells #[.int .i64 (i1 : Int), .int .i64 (i2 : Int)] 37)).drew.heap.size = wr.heap.size + 1) := by
        show _ = _
        simp
      have hnr : some wr.heap.size ≠ u5.ownBlock := fun e => by
        have := (own_ge hown e.symm).2
        omega
      have hw3 : w3.heap.size ≤ wr.heap.size := K6.far.size
      have hk99 : k ≤ 8100 := by
        have := legalV_len p.s p.y p.z p.u
        rw [HL.out, HM.out] at this
        omega
      have HL9 : Hid (k + 1 ≤ maxLen) := by show _ ≤ _; unfold maxLen; omega
      have HBY : Hid ((k + 1) * 24 ≤ 140737488355328) := by show _ ≤ _; omega
      clear hst huv hr0 hTA hCA
      have b1 : (k : Int) < (m : Int) := by omega
      go_wp2_with fail
      clear e0 e1
      refine wp_region_held_drew (S := fun W => W.cell? ⟨wr.heap.size, 0, none⟩ = some (.int .i64 (i1 : Int)) ∧ W.cell? ⟨wr.heap.size, 1, none⟩ = some (.int .i64 (i2 : Int))) (by kernel_rfl) (hS) (fun hHeld => ?_)
      refine wpAnyH_take (i := 0) (oi := { dst := some 19, op := Op.move (Operand.tmp 5), type := 33, pos := "perft.go:60", after := #[], guard := none }) (v := ?_) rfl (by kernel_rfl) (by kernel_rfl) (by kernel_rfl) (fun _ _ _ h => h) (Or.inl ⟨by rfl, ?_⟩) (by assumption) ?_
      case refine_2 =>
        intro w hSw
        (try dsimp only at hSw)
        (try go_simp)
        all_goals (with_reducible rfl)
      (try dsimp only [Act.put]); (try simp only [List.setIfInBounds_toArray, List.set_cons_zero, List.set_cons_succ])
      refine wpAnyH_take (i := 1) (oi := { dst := some 20, op := Op.load 37 (Operand.tmp 8), type := 37, pos := "perft.go:60", after := #[], guard := none }) (v := ?_) rfl (by kernel_rfl) (by kernel_rfl) (by kernel_rfl) (fun _ _ _ h => h) (Or.inl ⟨by rfl, ?_⟩) (by assumption) ?_
      case refine_2 =>
        intro w hSw
        (try dsimp only at hSw)
        (try go_simp)
        all_goals (with_reducible rfl)
      (try dsimp only [Act.put]); (try simp only [List.setIfInBounds_toArray, List.set_cons_zero, List.set_cons_succ])
      refine wpAnyH_take (i := 2) (oi := { dst := some 21, op := Op.move (Operand.tmp 6), type := 49, pos := "perft.go:60", after := #[], guard := none }) (v := ?_) rfl (by kernel_rfl) (by kernel_rfl) (by kernel_rfl) (fun _ _ _ h => h) (Or.inl ⟨by rfl, ?_⟩) (by assumption) ?_
      case refine_2 =>
        intro w hSw
        (try dsimp only at hSw)
        (try go_simp)
        all_goals (with_reducible rfl)
      (try dsimp only [Act.put]); (try simp only [List.setIfInBounds_toArray, List.set_cons_zero, List.set_cons_succ])
      refine wpAnyH_take (i := 3) (oi := { dst := some 22, op := Op.load 37 (Operand.tmp 8), type := 37, pos := "perft.go:60", after := #[], guard := none }) (v := ?_) rfl (by kernel_rfl) (by kernel_rfl) (by kernel_rfl) (fun _ _ _ h => h) (Or.inl ⟨by rfl, ?_⟩) (by assumption) ?_
      case refine_2 =>
        intro w hSw
        (try dsimp only at hSw)
        (try go_simp)
        all_goals (with_reducible rfl)
      (try dsimp only [Act.put]); (try simp only [List.setIfInBounds_toArray, List.set_cons_zero, List.set_cons_succ])
      refine wpAnyH_take (i := 4) (oi := { dst := some 23, op := Op.move (Operand.tmp 1), type := 3, pos := "perft.go:60", after := #[], guard := none }) (v := ?_) rfl (by kernel_rfl) (by kernel_rfl) (by kernel_rfl) (fun _ _ _ h => h) (Or.inl ⟨by rfl, ?_⟩) (by assumption) ?_
      case refine_2 =>
        intro w hSw
        (try dsimp only at hSw)
        (try go_simp)
        all_goals (with_reducible rfl)
      (try dsimp only [Act.put]); (try simp only [List.setIfInBounds_toArray, List.set_cons_zero, List.set_cons_succ])
      refine wpAnyH_ready (rs := [5]) (by kernel_rfl) (by simp) (AllReadyH.cons (o := { dst := some 24, op := Op.call { callee := Callee.value (Operand.tmp 21), args := #[Operand.tmp 22, Operand.tmp 23], argTypes := #[37, 3] }, type := 3, pos := "perft.go:60", after := #[{ on := 2, ground := Ground.data }, { on := 3, ground := Ground.data }, { on := 4, ground := Ground.data }], guard := none }) rfl (fun K hK => ?_) AllReadyH.nil)
      go_simp
      refine HC.out.mono ?_; rintro e w7 ⟨he, v7, n7, D7, K7, hG7, hC7, hn7, hM7⟩; obtain rfl : e = .returned (.int .i64 (r : Int)) := he.trans (by rw [← HR0.out]; rfl); have hb7 := K7.far.block wr.heap.size (by have := HSZ.out; omega) hfr; have hrow7 := row_next (w1 := w7) hrowA fun b _ e => K7.far.block b (by have := (own_ge hrowA e).2; omega) (hfo b e)
      refine hK.out _ _ ?_ (fun hHeld => ?_)
      · exact two_on hHeld hb7
      clear hK K
      refine wpAnyH_take (i := 6) (oi := { dst := some 25, op := Op.build 39 #[(0, Operand.tmp 20), (1, Operand.tmp 24)], type := 39, pos := "perft.go:60", after := #[{ on := 1, ground := Ground.data }, { on := 5, ground := Ground.data }], guard := none }) (v := ?_) rfl (by kernel_rfl) (by kernel_rfl) (by kernel_rfl) (fun _ _ _ h => h) (Or.inl ⟨by rfl, ?_⟩) (by assumption) ?_
      case refine_2 =>
        intro w hSw
        (try dsimp only at hSw)
        (try go_simp)
        all_goals (with_reducible rfl)
      (try dsimp only [Act.put]); (try simp only [List.setIfInBounds_toArray, List.set_cons_zero, List.set_cons_succ])
      refine wpAnyH_ready (rs := [7]) (by kernel_rfl) (by simp) (AllReadyH.cons (o := { dst := some 26, op := Op.buildSlice 33 1 #[(0, Operand.tmp 25)], type := 33, pos := "perft.go:60", after := #[{ on := 6, ground := Ground.data }], guard := none }) rfl (fun K hK => ?_) AllReadyH.nil)
      go_simp
      refine hK.out _ _ ?_ (fun hHeld => ?_)
      · exact two_on hHeld (Below.heap_alloc _ _ _ (cell_lt hHeld.1))
      clear hK K
      (try dsimp only [Act.put]); (try simp only [List.setIfInBounds_toArray, List.set_cons_zero, List.set_cons_succ])
      refine wpAnyH_ready (rs := [8]) (by kernel_rfl) (by simp) (AllReadyH.cons (o := { dst := some 27, op := Op.call { callee := Callee.builtin Builtin.append, args := #[Operand.tmp 19, Operand.tmp 26], argTypes := #[33, 33] }, type := 33, pos := "perft.go:60", after := #[{ on := 0, ground := Ground.data }, { on := 7, ground := Ground.data }, { on := 5, ground := Ground.chain }], guard := none }) rfl (fun K hK => ?_) AllReadyH.nil)
      have bN : Blk (w7.alloc (.cells #[.int .i64 (i1 : Int), .int .i64 (i2 : Int), .int .i64 (r : Int)] 39)) w7.heap.size 39 #[.int .i64 (i1 : Int), .int .i64 (i2 : Int), .int .i64 (r : Int)] := Blk.new _ _ _ rfl; have hrow8 := row_next (w1 := w7.alloc (.cells #[.int .i64 (i1 : Int), .int .i64 (i2 : Int), .int .i64 (r : Int)] 39)) hrow7 fun b hb _ => Below.heap_alloc _ _ _ hb; have hw7 : w3.heap.size ≤ (w7.alloc (.cells #[.int .i64 (i1 : Int), .int .i64 (i2 : Int), .int .i64 (r : Int)] 39)).heap.size := (by have := K7.far.size; have := HSZ.out; rw [World.size_alloc]; omega); refine step_append_lies _ rfl (.tmp 19) (.tmp 26) 33 rfl w3.heap.size 39 i0 _ 3 24 Tryz.underlying33 hi hz0 hz1 hz2 rfl (by decide) _ k (splL N p.s p.y (L.take k)) rfl hrow8 ⟨w7.heap.size, 0, none⟩ 1 1 [.int .i64 (i1 : Int), .int .i64 (i2 : Int), .int .i64 (r : Int)] rfl rfl (World.news_of_block bN) (by intro u hu; simp only [List.mem_cons, List.not_mem_nil, or_false] at hu; rcases hu with rfl | rfl | rfl <;> rfl) (by decide) HL9.out HBY.out hw7 _ rfl ?_; intro g2 cap2 w8 hown2 hgrow hat hlt8
      refine hK.out _ _ ?_ (fun hHeld => ?_)
      · exact two_on hHeld (hgrow.block _ (cell_lt hHeld.1) hnr)
      clear hK K
      (try dsimp only [Act.put]); (try simp only [List.setIfInBounds_toArray, List.set_cons_zero, List.set_cons_succ])
      refine wpAnyH_take (i := 9) (oi := { dst := some 5, op := Op.assign (Operand.tmp 27), type := 33, pos := "perft.go:60", after := #[{ on := 8, ground := Ground.data }, { on := 8, ground := Ground.chain }, { on := 0, ground := Ground.phase }, { on := 1, ground := Ground.phase }, { on := 2, ground := Ground.phase }, { on := 3, ground := Ground.phase }, { on := 4, ground := Ground.phase }, { on := 5, ground := Ground.phase }, { on := 6, ground := Ground.phase }, { on := 7, ground := Ground.phase }, { on := 8, ground := Ground.phase }], guard := none }) (v := ?_) rfl (by kernel_rfl) (by kernel_rfl) (by kernel_rfl) (fun _ _ _ h => h) (Or.inl ⟨by rfl, ?_⟩) (by assumption) ?_
      case refine_2 =>
        intro w hSw
        (try dsimp only at hSw)
        (try go_simp)
        all_goals (with_reducible rfl)
      (try dsimp only [Act.put]); (try simp only [List.setIfInBounds_toArray, List.set_cons_zero, List.set_cons_succ])
      refine wpAnyH_done (by kernel_rfl) ?_ _
      have hgs1 := hG3.le
      have hgg := hG3.lt
      have K8 : Keeps g w.heap.size w3 (.slice none 0 0) w8 v7 := ((K6.trans (Keeps.below hbA)).trans (K7.trans (Keeps.below ((Below.refl _ _).alloc (Nat.le_refl _) _)))).high hgrow fun b e => (own_ge hrow8 e.symm).1
      have hG8 : GAt w1.heap.size w8 g v7 [] p := (hG7.next ((Below.refl _ _).alloc (Nat.le_refl _) _)).far (X := fun b => some b = u5.ownBlock) (Far.grown hgrow fun _ e => e) (fun e => by
        have := (own_ge hrow8 e.symm).1
        omega) fun b hb e => by
        rcases K7.own b hb with e7 | e7
        · exact hne b e.symm e7
        · have := (own_ge hown e.symm).2
          have := HSZ.out
          omega
      have hC8 : CntAt w.heap.size g n7 D7 w8 := (hC7.next ((Below.refl _ _).alloc (Nat.le_refl _) _)).far (X := fun b => some b = u5.ownBlock) (Far.grown hgrow fun _ e => e) fun b hb1 hb2 e => by
        have := (own_ge hrow8 e.symm).1
        omega
      have hne8 : ∀ b, (Value.slice (some ⟨g2, 0, none⟩) (k + 1) cap2).ownBlock = some b → v7.ownBlock ≠ some b := by
        intro b hb e
        obtain rfl : g2 = b := by simpa [Value.ownBlock] using hb
        rcases hat with ha | ha
        · rcases K7.own _ e with e7 | e7
          · exact hne _ ha e7
          · have := (own_ge hown ha).2
            have := HSZ.out
            omega
        · have := (hG7.own e).2
          rw [World.size_alloc] at ha
          omega
      have HO8 := Lib.hid hown2
      have hrel8 := Lib.hid (And.intro hne8 (And.intro K8 (And.intro hG8 (And.intro hC8 (And.intro hn7 hM7)))))
      clear hown2 hne8 K8 hG8 hC8 hM7 hrow8 hrow7 hrowA bN
      go_wp2
      go_roundw
      case rel => exact ⟨k + 1, v7, n7, D7, by omega, by go_num, by rw [HST.out]; exact HO8.out, hrel8.out.1, hrel8.out.2.1, hrel8.out.2.2.1, hrel8.out.2.2.2.1, hrel8.out.2.2.2.2.1, hrel8.out.2.2.2.2.2⟩
      case measure => simp [intOf]; omega
    · obtain rfl : k = m := by omega
      rw [List.take_of_length_le (by rw [HM.out]; omega)] at hown
      have hlow := (hb1.trans ((hb2.trans (hb3.mono hb2.size)).mono hb1.size)).mono (Nat.le_of_lt hgw)
      have hs1 := hb1.size
      have hs2 := hb2.size
      have hs3 := hb3.size
      go_wp2
      go_ret
      exact ⟨_, rfl, own_mono hown (by omega), hlow.trans (keeps_low K6 hG3 hgw)⟩
end Go.Proofs.YtelngcfpnbeakaaGreatDoor
