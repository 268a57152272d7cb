/- Merged: CycleG CycleV. -/
import Derived.Test.YtnkbilikkbaeeaaGreatDoorCycleN
import Derived.Test.YtnkbilikkbaeeaaGreatDoorCycleM
import Derived.Test.YtnkbilikkbaeeaaGreatDoorRefLM
import Derived.Test.YtnkbilikkbaeeaaGreatDoorPseudoN
import Derived.Deep.AppendLies
import Derived.Deep.RegionHeldLaw
import Derived.Test.YtnkbilikkbaeeaaGreatDoorCycleL

namespace Go.Proofs.YtnkbilikkbaeeaaGreatDoor
open Go.RowKit Go.Shelf
open M (S)

theorem rmake_isY (s : ByteArray) (side clock full a b : Int) (v : Value) (w : World) (h : makeV s side clock full a b = v) : Calls Tryz.prog 43 #[.agg #[.string s, .int .i64 side, .int .i64 clock, .int .i64 full], .agg #[.int .i64 a, .int .i64 b]] w (Gives w v) := by
  subst h
  exact rmake_any s side clock full a b w (Lib.hid fun W => rapply_is s side clock full a b _ W rfl)
theorem step_value (p : Ps) (m : Int × Int) : ∃ (q : ByteArray) (y z u : Int) (t : Nat) (k : Int), makeV p.s p.y p.z p.u m.1 m.2 = .tuple #[.agg #[.string q, .int .i64 y, .int .i64 z, .int .i64 u], .int .u8 t, .int .i64 k] ∧ ((k = 0 ∧ stepP p m = some ⟨q, y, z, u⟩) ∨ (k ≠ 0 ∧ stepP p m = none)) := by
  cases h : stepP p m with
  | none =>
    obtain ⟨k, hk, e⟩ := make_stop h
    exact ⟨_, _, _, _, 0, k, e, .inr ⟨hk, rfl⟩⟩
  | some q =>
    obtain ⟨t, e⟩ := make_step h
    exact ⟨_, _, _, _, t, 0, e, .inl ⟨rfl, rfl⟩⟩
theorem blk_farY {w w' : World} {r : Option Nat} (h : w.grownBy w' r) {g : Nat} {t : TypeId} {cs : Array Value} (b : Blk w g t cs) (hne : some g ≠ r) : Blk w' g t cs := (h.block g b.lt hne).trans b
theorem row_farY {w w' : World} {r : Option Nat} (h : w.grownBy w' r) {base : Nat} {e : TypeId} {size : Nat} {v : Value} {n : Nat} {xs : List Value} (o : w.ownsRow base e size v n xs) (hne : ∀ k, v.ownBlock = some k → some k ≠ r) : w'.ownsRow base e size v n xs := by
  refine ⟨o.1, ?_⟩
  rcases o.2 with h2 | ⟨g, cap, cur, hv, hg, hc, hr⟩
  · exact .inl h2
  · exact .inr ⟨g, cap, cur, hv, hg, (h.block g (Array.getElem?_eq_some_iff.1 hc).1 (hne g (by rw [hv]; rfl))).trans hc, hr⟩
theorem row_baseY {w : World} {base : Nat} {e : TypeId} {size : Nat} {v : Value} {n : Nat} {xs : List Value} (h : w.ownsRow base e size v n xs) {k : Nat} (hk : v.ownBlock = some k) : base ≤ k := by
  rcases h.2 with ⟨rfl, _⟩ | ⟨g, cap, cur, rfl, hg, _⟩
  · cases hk
  · have : g = k := by simpa [Value.ownBlock] using hk
    omega
/-- Where the game lies that is played: the position, the rows of positions and moves. -/
structure PlayAt (W : World) (g : Nat) (p : Ps) (v1 : Value) (ls : List Ps) (v2 : Value) (ms : List (Int × Int)) : Prop where
  bp : Blk W g 36 #[.string p.s, .int .i64 p.y, .int .i64 p.z, .int .i64 p.u]
  r1 : W.ownsRow (g + 1) 36 4 v1 ls.length (psL ls)
  r2 : W.ownsRow (g + 1) 28 2 v2 ms.length (mzL ms)
  ne : ∀ k, v1.ownBlock = some k → v2.ownBlock ≠ some k
theorem PlayAt.next {W W' : World} {g : Nat} {p : Ps} {v1 v2 : Value} {ls : List Ps} {ms : List (Int × Int)} (h : PlayAt W g p v1 ls v2 ms) (hb : Below W.heap.size W W') : PlayAt W' g p v1 ls v2 ms :=
  ⟨h.bp.next hb, own_next h.r1 hb, own_next h.r2 hb, h.ne⟩
theorem four_frozen {W : World} {g : Nat} {t : TypeId} {cs : Array Value} (h : Blk W g t cs) : W.frozen? ⟨g, 0, none⟩ = false ∧ W.frozen? ⟨g, 1, none⟩ = false ∧ W.frozen? ⟨g, 2, none⟩ = false ∧ W.frozen? ⟨g, 3, none⟩ = false := ⟨h.frozen 0, h.frozen 1, h.frozen 2, h.frozen 3⟩
theorem info_pos4 : (Tryz.prog.info? 36).map (fun i => (i.zero, i.size, i.bytes)) = some (some (.agg #[.string ⟨#[]⟩, .int .i64 0, .int .i64 0, .int .i64 0]), 4, 40) := by kernel_rfl
theorem info_partsY {P : Program} {t : TypeId} {z : Value} {n m : Nat} (h : (P.info? t).map (fun i => (i.zero, i.size, i.bytes)) = some (some z, n, m)) : ∃ i, P.info? t = some i ∧ i.zero = some z ∧ i.size = n ∧ i.bytes = m := by
  cases e : P.info? t with
  | none => rw [e] at h; cases h
  | some i =>
    rw [e] at h
    simp only [Option.map_some, Option.some.injEq, Prod.mk.injEq] at h
    exact ⟨i, rfl, h.1, h.2.1, h.2.2⟩
theorem cells_four_new (w : World) (a b c d : Value) (t : TypeId) : ∀ j u, [a, b, c, d][j]? = some u → (w.alloc (.cells #[a, b, c, d] t)).cell? ((⟨w.heap.size, 0, none⟩ : Addr).add j) = some u := fun j u hu => by
  have hb : Blk (w.alloc (.cells #[a, b, c, d] t)) w.heap.size t #[a, b, c, d] := Blk.new _ _ _ rfl
  have e : (⟨w.heap.size, 0, none⟩ : Addr).add j = ⟨w.heap.size, j, none⟩ := by
    simp only [Addr.add]
    split <;> simp_all
  rw [e, hb.cell j]
  rw [← hu]
  rw [List.getElem?_toArray]
theorem psL_four (ls : List Ps) (q : Ps) : psL ls ++ [.string q.s, .int .i64 q.y, .int .i64 q.z, .int .i64 q.u] = psL (ls ++ [q]) := (psL_snoc ls q).symm
theorem half_play {W4 w5 : World} {H gq : Nat} {p q : Ps} {v1 v1' v2 : Value} {ls : List Ps} {ms : List (Int × Int)} {o : Obj} (h : PlayAt W4 H p v1 ls v2 ms) (bQ : Blk W4 gq 36 #[.string q.s, .int .i64 q.y, .int .i64 q.z, .int .i64 q.u]) (hgq : ∀ k, v1.ownBlock = some k → gq ≠ k)
    (hgrow : (W4.alloc o).grownBy w5 v1.ownBlock) (hown : w5.ownsRow (H + 1) 36 4 v1' (ls.length + 1) (psL ls ++ [.string q.s, .int .i64 q.y, .int .i64 q.z, .int .i64 q.u])) (hat : v1'.ownBlock = v1.ownBlock ∨ v1'.ownBlock = some (W4.alloc o).heap.size) :
    PlayAt w5 H p v1' (ls ++ [q]) v2 ms ∧ Blk w5 gq 36 #[.string q.s, .int .i64 q.y, .int .i64 q.z, .int .i64 q.u] ∧ Below (H + 1) W4 w5 := by
  have hHlt := h.bp.lt
  refine ⟨⟨blk_farY hgrow (h.bp.alloc o) fun e => ?_, ?_, row_farY hgrow (own_next h.r2 (below_new W4 o)) fun k hk e => h.ne k e.symm hk, fun k hk hk2 => ?_⟩, blk_farY hgrow (bQ.alloc o) fun e => hgq gq e.symm rfl, below_app (Below.refl _ _) hHlt h.r1 hgrow⟩
  · have := row_baseY h.r1 e.symm
    omega
  · rw [psL_four] at hown
    rw [List.length_append]
    exact hown
  · rcases hat with e | e
    · exact h.ne k (by rw [← e]; exact hk) hk2
    · rw [hk] at e
      injection e with e
      have := row_own2 h.r2 hk2
      rw [e, World.size_alloc] at this
      omega
theorem full_play {w5 w6 : World} {H gq : Nat} {p q : Ps} {v1 v2 v2' : Value} {ls : List Ps} {ms : List (Int × Int)} {o : Obj} {x y : Int} (h : PlayAt w5 H p v1 ls v2 ms) (bQ : Blk w5 gq 36 #[.string q.s, .int .i64 q.y, .int .i64 q.z, .int .i64 q.u]) (hgq : ∀ k, v2.ownBlock = some k → gq ≠ k)
    (hgrow : (w5.alloc o).grownBy w6 v2.ownBlock) (hown : w6.ownsRow (H + 1) 28 2 v2' (ms.length + 1) (mzL ms ++ [iv x, iv y])) (hat : v2'.ownBlock = v2.ownBlock ∨ v2'.ownBlock = some (w5.alloc o).heap.size) :
    PlayAt w6 H p v1 ls v2' (ms ++ [(x, y)]) ∧ Blk w6 gq 36 #[.string q.s, .int .i64 q.y, .int .i64 q.z, .int .i64 q.u] ∧ Below (H + 1) w5 w6 := by
  have hHlt := h.bp.lt
  refine ⟨⟨blk_farY hgrow (h.bp.alloc o) fun e => ?_, row_farY hgrow (own_next h.r1 (below_new w5 o)) fun k hk e => h.ne k hk e.symm, ?_, fun k hk hk2 => ?_⟩, blk_farY hgrow (bQ.alloc o) fun e => hgq gq e.symm rfl, below_app (Below.refl _ _) hHlt h.r2 hgrow⟩
  · have := row_baseY h.r2 e.symm
    omega
  · rw [mzL_snoc, List.length_append]
    exact hown
  · rcases hat with e | e
    · exact h.ne k hk (by rw [← e]; exact hk2)
    · rw [hk2] at e
      injection e with e
      have := row_own2 h.r1 hk
      rw [e, World.size_alloc] at this
      omega
theorem store_play {w6 : World} {H : Nat} {p : Ps} {v1 v2 : Value} {ls : List Ps} {ms : List (Int × Int)} (h : PlayAt w6 H p v1 ls v2 ms) (q : ByteArray) (y z u : Int) :
    PlayAt ((((w6.setCell ⟨H, 0, none⟩ (.string q)).setCell ⟨H, 1, none⟩ (.int .i64 y)).setCell ⟨H, 2, none⟩ (.int .i64 z)).setCell ⟨H, 3, none⟩ (.int .i64 u)) H ⟨q, y, z, u⟩ v1 ls v2 ms ∧ Below H w6 ((((w6.setCell ⟨H, 0, none⟩ (.string q)).setCell ⟨H, 1, none⟩ (.int .i64 y)).setCell ⟨H, 2, none⟩ (.int .i64 z)).setCell ⟨H, 3, none⟩ (.int .i64 u)) := by
  have n1 : ∀ k, v1.ownBlock = some k → H ≠ k := fun k hk => by have := row_baseY h.r1 hk; omega
  have n2 : ∀ k, v2.ownBlock = some k → H ≠ k := fun k hk => by have := row_baseY h.r2 hk; omega
  exact ⟨⟨(((h.bp.set_ 0 (.string q)).set_ 1 (.int .i64 y)).set_ 2 (.int .i64 z)).set_ 3 (.int .i64 u), row_set2 (row_set2 (row_set2 (row_set2 h.r1 n1) n1) n1) n1, row_set2 (row_set2 (row_set2 (row_set2 h.r2 n2) n2) n2) n2, h.ne⟩,
    ((((Below.refl H w6).setCell (p := ⟨H, 0, none⟩) (Nat.le_refl _) _).setCell (p := ⟨H, 1, none⟩) (Nat.le_refl _) _).setCell (p := ⟨H, 2, none⟩) (Nat.le_refl _) _).setCell (p := ⟨H, 3, none⟩) (Nat.le_refl _) _⟩
theorem playS_none {ls : List Ps} {ms : List (Int × Int)} {c : Ps} {m : Int × Int} (h : stepP c m = none) : playS (ls, ms, c) m = (ls, ms, c) := by
  unfold playS
  rw [h]
theorem playS_some {ls : List Ps} {ms : List (Int × Int)} {c q : Ps} {m : Int × Int} (h : stepP c m = some q) : playS (ls, ms, c) m = (ls ++ [q], ms ++ [m], q) := by
  unfold playS
  rw [h]
set_option maxRecDepth 100000 in
set_option maxHeartbeats 8000000 in
theorem played_any (C : Option Addr) (p : Ps) (l : List (Int × Int)) (a d : Nat) (w : World) (hm : Rd w C (mzL l)) (ha : l.length = a) (ha9 : a ≤ 1000) :
    Calls Tryz.prog 34 #[p.val, .slice C a d] w fun e w' => ∃ v1 v2, e = .returned (.tuple #[v1, v2]) ∧ PlayAt w' w.heap.size (playF p l).2.2 v1 (playF p l).1 v2 (playF p l).2.1 ∧ Below w.heap.size w w' := by
  obtain ⟨i0, hi, hz0, hz1, hz2⟩ := info_partsY info_pos4
  obtain ⟨i1, hj, hy0, hy1, hy2⟩ := info_parts info_move
  have HM := Lib.hid hm
  have HA := Lib.hid ha
  obtain ⟨ps, py, pz, pu⟩ := p
  obtain ⟨W0, hW0⟩ : ∃ W0, (w.alloc (.cells #[.string ps, .int .i64 py, .int .i64 pz, .int .i64 pu] 36)).alloc (.cells #[.string ps, .int .i64 py, .int .i64 pz, .int .i64 pu] 36) = W0 := ⟨_, rfl⟩
  obtain ⟨hB0, b1, b2⟩ := two_start w _ _ _ hW0
  have hP0 : PlayAt W0 w.heap.size ⟨ps, py, pz, pu⟩ (.slice (some ⟨w.heap.size + 1, 0, none⟩) 1 1) [⟨ps, py, pz, pu⟩] (.slice none 0 0) [] := by
    refine ⟨b1, ⟨rfl, .inr ⟨w.heap.size + 1, 1, _, rfl, Nat.le_refl _, b2, Nat.le_refl _, by unfold maxLen; omega, rfl, rfl⟩⟩, World.ownsRow_nil _ _ _ _, fun k _ e => by cases e⟩
  clear hm ha b1 b2
  go_enter Tryz.func34, Tryz.ntmps34
  go_wp2_with fail
  clear hW0
  go_loopw [6, 7, 8] (fun v1 v2 i wr => ∃ k : Nat, k ≤ a ∧ i = .int .i64 (k : Int) ∧ PlayAt wr w.heap.size (playF ⟨ps, py, pz, pu⟩ (l.take k)).2.2 v1 (playF ⟨ps, py, pz, pu⟩ (l.take k)).1 v2 (playF ⟨ps, py, pz, pu⟩ (l.take k)).2.1 ∧ Below w.heap.size w wr) (fun _ _ i _ => a - (intOf i).toNat)
  case atStart => exact ⟨0, Nat.zero_le _, rfl, by rw [List.take_zero]; exact hP0, hB0⟩
  case round =>
    clear hP0 hB0
    obtain ⟨k, hk, rfl, hP, hB⟩ := hrel
    by_cases hlt : k < a
    · have hkl : k < l.length := by rw [HA.out]; exact hlt
      have bk : (k : Int) < (a : Int) := by omega
      obtain ⟨gC, bC, rfl, m0, m1⟩ := HM.out.mz hkl
      have hsucc := play_succ ⟨ps, py, pz, pu⟩ l hkl
      obtain ⟨hch, hcur, hmk⟩ := play_chain ⟨ps, py, pz, pu⟩ l k (by rw [HA.out]; exact hk)
      have hlen := hch.len
      obtain ⟨⟨x, y⟩, hxy⟩ : ∃ x, l[k]'hkl = x := ⟨_, rfl⟩
      rw [hxy] at m0 m1 hsucc
      obtain ⟨⟨ls, ms, cur⟩, hpf⟩ : ∃ x, playF ⟨ps, py, pz, pu⟩ (l.take k) = x := ⟨_, rfl⟩
      rw [hpf] at hP hsucc hlen hmk
      have hlen : ls.length = ms.length + 1 := hlen
      have hmk : ms.length ≤ k := hmk
      have hP : PlayAt wr w.heap.size cur u6 ls u7 ms := hP
      obtain ⟨q, qy, qz, qu, tk, er, hV, hcase⟩ := step_value cur (x, y)
      have hsucc : playF ⟨ps, py, pz, pu⟩ (l.take (k + 1)) = playS (ls, ms, cur) (x, y) := hsucc
      have HV := Lib.hid hV
      have HCASE := Lib.hid hcase
      have HSUCC := Lib.hid hsucc
      obtain ⟨p0, p1, p2, p3⟩ := four_cells hP.bp
      have hc0 := (hB.cell (p := ⟨gC, bC + k * 2, none⟩) (cell_lt m0)).trans m0
      have hc1 := (hB.cell (p := ⟨gC, bC + k * 2 + 1, none⟩) (cell_lt m1)).trans m1
      obtain ⟨cs, cy, cz, cu⟩ := cur
      clear hch hcur hpf hsucc hV hcase hxy
      have HM2 : Hid (∀ W, Calls Tryz.prog 43 #[.agg #[.string cs, .int .i64 cy, .int .i64 cz, .int .i64 cu], .agg #[.int .i64 x, .int .i64 y]] W (Gives W (.tuple #[.agg #[.string q, .int .i64 qy, .int .i64 qz, .int .i64 qu], .int .u8 tk, .int .i64 er]))) := fun W => rmake_isY cs cy cz cu x y _ W HV.out
      have hba : Below wr.heap.size wr (wr.alloc (.cells #[.string ⟨#[]⟩, .int .i64 0, .int .i64 0, .int .i64 0] 36)) := (Below.refl _ _).alloc (Nat.le_refl _) _
      have HBZ : Hid (Blk (wr.alloc (.cells #[.string ⟨#[]⟩, .int .i64 0, .int .i64 0, .int .i64 0] 36)).drew wr.heap.size 36 #[.string ⟨#[]⟩, .int .i64 0, .int .i64 0, .int .i64 0]) := (Blk.new wr 36 #[.string ⟨#[]⟩, .int .i64 0, .int .i64 0, .int .i64 0] rfl).next (Below.refl _ _).drew
      have HBA := Lib.hid hba
      have hal : ∀ (o : Obj) (pl : Addr) (x : Value), wr.cell? pl = some x → (wr.alloc o).cell? pl = some x := fun o pl x h => (((Below.refl wr.heap.size wr).alloc (Nat.le_refl _) o).cell (cell_lt h)).trans h
      have ha0 := fun o => hal o _ _ hc0
      have ha1 := fun o => hal o _ _ hc1
      have pa0 := fun o => hal o _ _ p0
      have pa1 := fun o => hal o _ _ p1
      have pa2 := fun o => hal o _ _ p2
      have pa3 := fun o => hal o _ _ p3
      have HP := Lib.hid hP
      have HB := Lib.hid hB
      have hrs := Lib.hid hB.size
      have hgC := Lib.hid (show gC < w.heap.size from cell_lt m0)
      clear hal hba hP hB m0 m1
      go_wp2_with fail
      go_region_with ((go_at_call 43; first
        | (refine (HM2.out wr.drew).mono ?_; rintro e w3 ⟨rfl, hb⟩; obtain ⟨W4, hW4⟩ : ∃ x, w3.alloc (.cells #[.string q, .int .i64 qy, .int .i64 qz, .int .i64 qu] 36) = x := ⟨_, rfl⟩)
        | (refine (HM2.out (wr.alloc (.cells #[.string ⟨#[]⟩, .int .i64 0, .int .i64 0, .int .i64 0] 36)).drew).mono ?_; rintro e w3 ⟨rfl, hb⟩; obtain ⟨z0, z1, z2, z3⟩ := four_cells (HBZ.out.next hb); obtain ⟨f0, f1, f2, f3⟩ := four_frozen (HBZ.out.next hb); obtain ⟨W4, hW4⟩ : ∃ x, ((((w3.setCell ⟨wr.heap.size, 0, none⟩ (.string q)).setCell ⟨wr.heap.size, 1, none⟩ (.int .i64 qy)).setCell ⟨wr.heap.size, 2, none⟩ (.int .i64 qz)).setCell ⟨wr.heap.size, 3, none⟩ (.int .i64 qu)) = x := ⟨_, rfl⟩)))
      all_goals
        first
        | (have hb3 : Below wr.heap.size wr w3 := ((Below.refl wr.heap.size wr).drew).trans hb
           have hgq : wr.heap.size ≤ w3.heap.size := hb3.size
           have hb4 : Below wr.heap.size wr W4 := by rw [← hW4]; exact hb3.alloc hb3.size _
           have bQ : Blk W4 w3.heap.size 36 #[.string q, .int .i64 qy, .int .i64 qz, .int .i64 qu] := by rw [← hW4]; exact Blk.new _ _ _ rfl
           clear hW4 hb3 hb
           generalize w3.heap.size = gq at bQ hgq ⊢)
        | (have hb3 : Below wr.heap.size wr w3 := (HBA.out.drew).trans (hb.mono (HBA.out.drew).size)
           have bz := HBZ.out.next hb
           have hb4 : Below wr.heap.size wr W4 := by rw [← hW4]; exact ((((hb3.setCell (p := ⟨wr.heap.size, 0, none⟩) (Nat.le_refl _) _).setCell (p := ⟨wr.heap.size, 1, none⟩) (Nat.le_refl _) _).setCell (p := ⟨wr.heap.size, 2, none⟩) (Nat.le_refl _) _).setCell (p := ⟨wr.heap.size, 3, none⟩) (Nat.le_refl _) _)
           have bQ : Blk W4 wr.heap.size 36 #[.string q, .int .i64 qy, .int .i64 qz, .int .i64 qu] := by rw [← hW4]; exact ((((bz.set_ 0 (.string q)).set_ 1 (.int .i64 qy)).set_ 2 (.int .i64 qz)).set_ 3 (.int .i64 qu))
           obtain ⟨gq, hgqe⟩ : ∃ gq, wr.heap.size = gq := ⟨_, rfl⟩
           have hgq : wr.heap.size ≤ gq := Nat.le_of_eq hgqe
           clear hW4 hb3 hb bz
           (try clear z0 z1 z2 z3 f0 f1 f2 f3)
           rw [hgqe] at bQ ⊢
           clear hgqe)
        have hP4 := HP.out.next hb4
        have hB4 := HB.out.trans (hb4.mono hrs.out)
        have hg1 : ∀ k, u6.ownBlock = some k → gq ≠ k := fun k hk => by have := row_own2 HP.out.r1 hk; omega
        have hg2 : ∀ k, u7.ownBlock = some k → gq ≠ k := fun k hk => by have := row_own2 HP.out.r2 hk; omega
        have c0 := (hb4.cell (p := ⟨gC, bC + k * 2, none⟩) (cell_lt hc0)).trans hc0
        have c1 := (hb4.cell (p := ⟨gC, bC + k * 2 + 1, none⟩) (cell_lt hc1)).trans hc1
        have HG1 := Lib.hid hg1
        have HG2 := Lib.hid hg2
        have HGQ := Lib.hid hgq
        clear ha0 ha1 pa0 pa1 pa2 pa3 p0 p1 p2 p3 hc0 hc1 hb4 hg1 hg2 hgq
        rcases HCASE.out with ⟨he, hst⟩ | ⟨he, hst⟩
        · subst he
          have hs4 : w.heap.size + 1 ≤ W4.heap.size := hP4.bp.lt
          obtain ⟨q0, q1, q2, q3⟩ := four_cells bQ
          have HSZ : Hid (ls.length + 1 ≤ 1000000 ∧ ms.length + 1 ≤ 1000000) := ⟨by omega, by omega⟩
          have HST := Lib.hid hst
          clear hst HCASE
          have hr1 := hP4.r1
          have HP4 := Lib.hid hP4
          clear hP4
          go_wp2_with (first
            | (at_builtin; refine wpList_append_own_at _ rfl _ _ 45 rfl (w.heap.size + 1) 36 i0 (.agg #[.string ⟨#[]⟩, .int .i64 0, .int .i64 0, .int .i64 0]) 4 40 Tryz.underlying45 hi hz0 hz1 hz2 rfl (by decide) _ _ _ rfl (own_next hr1 (below_new _ _)) ⟨W4.heap.size, 0, none⟩ 1 1 [.string q, .int .i64 qy, .int .i64 qz, .int .i64 qu] rfl rfl (cells_four_new _ _ _ _ _ _) (by simp [Value.oneCell']) (by have := HSZ.out; unfold maxLen; omega) (by have := HSZ.out; omega) (by simp; omega) ?_; intro v1' w5 hown' hgrow _ hat; obtain ⟨hP5, bQ5, hb5⟩ := half_play (q := ⟨q, qy, qz, qu⟩) HP4.out bQ HG1.out hgrow hown' hat; have d0 := (hb5.cell (p := ⟨gC, bC + k * 2, none⟩) (Nat.lt_succ_of_lt hgC.out)).trans c0; have d1 := (hb5.cell (p := ⟨gC, bC + k * 2 + 1, none⟩) (Nat.lt_succ_of_lt hgC.out)).trans c1; have hB5 := hB4.trans (hb5.mono (Nat.le_succ _)); have hr2 := hP5.r2; have hs5 := hP5.bp.lt)
            | (at_builtin; refine wpList_append_own_at _ rfl _ _ 25 rfl (w.heap.size + 1) 28 i1 (.agg #[.int .i64 0, .int .i64 0]) 2 16 Tryz.underlying25 hj hy0 hy1 hy2 rfl (by decide) _ _ _ rfl (own_next hr2 (below_new _ _)) ⟨w5.heap.size, 0, none⟩ 1 1 [iv x, iv y] rfl rfl (cells_two_new _ _ _ _) (by simp [Value.oneCell']) (by have := HSZ.out; unfold maxLen; omega) (by have := HSZ.out; omega) (by simp; omega) ?_; intro v2' w6 hown2 hgrow2 _ hat2; obtain ⟨hP6, bQ6, hb6⟩ := full_play (q := ⟨q, qy, qz, qu⟩) hP5 bQ5 HG2.out hgrow2 hown2 hat2; obtain ⟨q0, q1, q2, q3⟩ := four_cells bQ6; obtain ⟨p0, p1, p2, p3⟩ := four_cells hP6.bp; obtain ⟨f0, f1, f2, f3⟩ := four_frozen hP6.bp; have hB6 := hB5.trans (hb6.mono (Nat.le_succ _))))
          obtain ⟨hP7, hb7⟩ := store_play hP6 q qy qz qu
          have hB7 := hB6.trans hb7
          have hsu : Hid (playF ⟨ps, py, pz, pu⟩ (l.take (k + 1)) = (ls ++ [⟨q, qy, qz, qu⟩], ms ++ [(x, y)], ⟨q, qy, qz, qu⟩)) := by
            show _ = _
            rw [HSUCC.out, playS_some HST.out]
          go_roundw
          case rel => exact ⟨k + 1, by omega, by go_num, by rw [hsu.out]; exact hP7, hB7⟩
          case measure => simp [intOf]; omega
        · have e0 : (er == 0) = false := by rw [beq_eq_false_iff_ne]; exact he
          have hsu : Hid (playF ⟨ps, py, pz, pu⟩ (l.take (k + 1)) = (ls, ms, ⟨cs, cy, cz, cu⟩)) := by
            show _ = _
            rw [HSUCC.out, playS_none hst]
          clear hst he HCASE
          go_wp2
          go_roundw
          case rel => exact ⟨k + 1, by omega, by go_num, by rw [hsu.out]; exact hP4, hB4⟩
          case measure => simp [intOf]; omega
    · obtain rfl : k = a := by omega
      have bk : ¬ (k : Int) < (k : Int) := by omega
      have hP2 : Hid (PlayAt wr w.heap.size (playF ⟨ps, py, pz, pu⟩ l).2.2 u6 (playF ⟨ps, py, pz, pu⟩ l).1 u7 (playF ⟨ps, py, pz, pu⟩ l).2.1) := by
        rw [List.take_of_length_le (by rw [HA.out]; exact Nat.le_refl _)] at hP
        exact hP
      clear hP hlt hk
      go_wp2
      go_ret2
      exact ⟨_, _, rfl, hP2.out, hB⟩
end Go.Proofs.YtnkbilikkbaeeaaGreatDoor

namespace Go.Proofs.YtnkbilikkbaeeaaGreatDoor
open Go.RowKit Go.Shelf
open M (S)

theorem own_any {w : World} {base : Nat} {e : TypeId} {size n : Nat} {v : Value} {xs : List Value} (h : w.ownsRow base e size v n xs) : ∃ A c, v = .slice A n c ∧ Rd w A xs ∧ n ≤ c := by
  have hlen := h.1
  rcases h.2 with ⟨rfl, rfl⟩ | ⟨g, cap, cur, rfl, _, hc, hn, _, hs, ht⟩
  · refine ⟨none, 0, rfl, fun j u hu => ?_, Nat.le_refl _⟩
    rw [List.getElem?_eq_none (by omega)] at hu
    cases hu
  · refine ⟨_, _, rfl, fun j u hu => ⟨_, rfl, ?_⟩, hn⟩
    have hj : j < xs.length := by
      rcases Nat.lt_or_ge j xs.length with h | h
      · exact h
      · rw [List.getElem?_eq_none h] at hu
        cases hu
    have e1 : (⟨g, 0, none⟩ : Addr).add j = ⟨g, j, none⟩ := by
      simp only [Addr.add]
      split <;> simp_all
    rw [e1]
    have hb : Blk w g e cur := hc
    rw [hb.cell j, ← hu, ← ht, List.getElem?_take, if_pos (by omega)]
    simp
theorem rd_ptake {w : World} {A : Option Addr} {l : List Ps} (h : Rd w A (psL l)) (k : Nat) : Rd w A (psL (l.take k)) := fun j u hu => by
  refine h j u ?_
  have e : psL l = psL (l.take k) ++ psL (l.drop k) := by rw [← psL_app, List.take_append_drop]
  have hj : j < (psL (l.take k)).length := by
    rcases Nat.lt_or_ge j (psL (l.take k)).length with h | h
    · exact h
    · rw [List.getElem?_eq_none h] at hu
      cases hu
  rw [e, List.getElem?_append_left hj]
  exact hu
theorem rd_nil (w : World) (A : Option Addr) : Rd w A (mzL []) := fun j u hu => by simp [mzL] at hu
theorem ear_t (A : Option Addr) (n c : Nat) (w : World) (hr : Rd w A (psL froL)) (hn : n ≤ 5) : Calls Tryz.prog 30 #[.slice A n c] w (Gives w (.int .i64 (earlierI (froL.take n)))) :=
  cearlier_any A (froL.take n) n c w (rd_ptake hr n) (by rw [List.length_take]; show min n 5 = n; omega) (by omega)
theorem org_t (A : Option Addr) (n c : Nat) (x : Int) (w : World) (hr : Rd w A (mzL froM)) (hn : n ≤ 4) : Calls Tryz.prog 32 #[.slice A n c, .int .i64 x] w (Gives w (.int .i64 (originI (froM.take n) x))) :=
  origin_any A (froM.take n) n c x w (rd_take hr n) (by rw [List.length_take]; show min n 4 = n; omega) (by omega)
theorem cls_t (A C : Option Addr) (n a c d : Nat) (w : World) (hT : Tab w) (hr : Rd w A (psL froL)) (hm : Rd w C (mzL (froM.take a))) (hn : n ≤ 5) (ha : a ≤ 4) (had : a ≤ d) : Calls Tryz.prog 35 #[.slice A n c, .slice C a d, .int .i64 0] w (Gives w (.int .i64 (classI (froL.take n) (froM.take a) 0))) :=
  class_any A C (froL.take n) (froM.take a) 0 n a c d w hT (rd_ptake hr n) (by rw [List.length_take]; show min n 5 = n; omega) hm (by rw [List.length_take]; show min a 4 = a; omega) (by omega) (by omega) had
theorem same_t (s s2 : ByteArray) (y z u y2 z2 u2 : Int) (w : World) : Calls Tryz.prog 28 #[.agg #[.string s, .int .i64 y, .int .i64 z, .int .i64 u], .agg #[.string s2, .int .i64 y2, .int .i64 z2, .int .i64 u2]] w (Gives w (.bool ((s.toList == s2.toList) && (y == y2)))) := csame_two s s2 y z u y2 z2 u2 w _ rfl
abbrev FS (w : World) (g1 g2 : Nat) (W : World) : Prop :=
  W.cell? ⟨g1, 0, none⟩ = some (.string startS) ∧ W.cell? ⟨g1, 1, none⟩ = some (.int .i64 0) ∧ W.cell? ⟨g1, 2, none⟩ = some (.int .i64 0) ∧ W.cell? ⟨g1, 3, none⟩ = some (.int .i64 1) ∧
  W.cell? ⟨g1, 4, none⟩ = some (.string fro1) ∧ W.cell? ⟨g1, 5, none⟩ = some (.int .i64 1) ∧ W.cell? ⟨g1, 6, none⟩ = some (.int .i64 1) ∧ W.cell? ⟨g1, 7, none⟩ = some (.int .i64 1) ∧
  W.cell? ⟨g1, 16, none⟩ = some (.string fro4) ∧ W.cell? ⟨g1, 17, none⟩ = some (.int .i64 0) ∧ W.cell? ⟨g1, 18, none⟩ = some (.int .i64 4) ∧ W.cell? ⟨g1, 19, none⟩ = some (.int .i64 3) ∧
  Rd W (some ⟨g1, 0, none⟩) (psL froL) ∧ Rd W (some ⟨g2, 0, none⟩) (mzL froM) ∧ Tab W ∧ Below w.heap.size w W
theorem rd_at {W : World} {g : Nat} {xs : List Value} (h : Rd W (some ⟨g, 0, none⟩) xs) {j : Nat} {u : Value} (hu : xs[j]? = some u) : W.cell? ⟨g, j, none⟩ = some u := by
  obtain ⟨ad, e, hc⟩ := h j u hu
  cases e
  have e1 : (⟨g, 0, none⟩ : Addr).add j = ⟨g, j, none⟩ := by
    simp only [Addr.add]
    split <;> simp_all
  rw [e1] at hc
  exact hc
theorem fs_of {w W : World} {g1 g2 : Nat} (h1 : Rd W (some ⟨g1, 0, none⟩) (psL froL)) (h2 : Rd W (some ⟨g2, 0, none⟩) (mzL froM)) (hT : Tab W) (hB : Below w.heap.size w W) : FS w g1 g2 W :=
  ⟨rd_at h1 rfl, rd_at h1 rfl, rd_at h1 rfl, rd_at h1 rfl, rd_at h1 rfl, rd_at h1 rfl, rd_at h1 rfl, rd_at h1 rfl, rd_at h1 rfl, rd_at h1 rfl, rd_at h1 rfl, rd_at h1 rfl, h1, h2, hT, hB⟩
theorem fs_parts {w W : World} {g1 g2 : Nat} (h : FS w g1 g2 W) : Rd W (some ⟨g1, 0, none⟩) (psL froL) ∧ Rd W (some ⟨g2, 0, none⟩) (mzL froM) ∧ Tab W ∧ Below w.heap.size w W := h.2.2.2.2.2.2.2.2.2.2.2.2
theorem fs_keep {w W W' : World} {g1 g2 : Nat} (h : FS w g1 g2 W) (hb : Below W.heap.size W W') : FS w g1 g2 W' := by
  obtain ⟨h1, h2, hT, hB⟩ := fs_parts h
  exact fs_of (h1.next hb) (h2.next hb) (hT.next hb) (hB.trans (hb.mono hB.size))
theorem fro_toList : (startS.toList == fro4.toList) = true := by rw [fro_back]; simp
theorem fro_e5 : earlierI (froL.take 5) = 0 := fro_earlier5
theorem fro_o4 : originI (froM.take 4) 0 = 0 := fro_origin0
theorem fro_o5 : originI (froM.take 4) 5 = 5 := fro_origin5
theorem fro_c4 : classI (froL.take 5) (froM.take 4) 0 = 0 := fro_class0
theorem fro_c0 : classI (froL.take 5) [] 0 = 0 := fro_class9
set_option maxRecDepth 100000 in
set_option maxHeartbeats 8000000 in
theorem live17_any (w : World) (hT : Tab w) : Calls Tryz.prog 27 #[] w (Gives w (.bool true)) := by
  unfold Gives
  go_enter Tryz.func27, Tryz.ntmps27
  go_wp2_with fail
  obtain ⟨W0, hW0⟩ : ∃ W0, (w.alloc (.cells #[.string startS, .int .i64 0, .int .i64 0, .int .i64 1] 36)).alloc (.cells #[.int .i64 0, .int .i64 9, .int .i64 81, .int .i64 72, .int .i64 9, .int .i64 0, .int .i64 72, .int .i64 81] 28) = W0 := ⟨_, rfl⟩
  have hB0 : Below w.heap.size w W0 := by rw [← hW0]; exact (by repeat (first | exact Below.refl _ _ | (refine Below.setCell ?_ (by first | omega | (simp; done) | (simp; omega) | (simp at *; omega)) _) | (refine Below.alloc ?_ (by first | omega | (simp; done) | (simp; omega) | (simp at *; omega)) _) | refine Below.drew ?_ | (refine below_drewN ?_ _) | (refine Below.trans ?_ (Below.mono (by assumption) (by first | omega | (simp; done) | (simp; omega) | (simp at *; omega))))))
  have bM : Blk W0 (w.heap.size + 1) 28 #[.int .i64 0, .int .i64 9, .int .i64 81, .int .i64 72, .int .i64 9, .int .i64 0, .int .i64 72, .int .i64 81] := by rw [← hW0]; exact Blk.new _ _ _ (by simp)
  have hm : Rd W0 (some ⟨w.heap.size + 1, 0, none⟩) (mzL froM) := fun j u hu => ⟨_, rfl, by
    have e1 : (⟨w.heap.size + 1, 0, none⟩ : Addr).add j = ⟨w.heap.size + 1, j, none⟩ := by
      simp only [Addr.add]
      split <;> simp_all
    rw [e1, bM.cell j, ← hu, List.getElem?_toArray]
    rfl⟩
  rw [show (⟨#[82, 78, 66, 65, 75, 65, 66, 78, 82, 46, 46, 46, 46, 46, 46, 46, 46, 46, 46, 67, 46, 46, 46, 46, 46, 67, 46, 80, 46, 80, 46, 80, 46, 80, 46, 80, 46, 46, 46, 46, 46, 46, 46, 46, 46, 46, 46, 46, 46, 46, 46, 46, 46, 46, 112, 46, 112, 46, 112, 46, 112, 46, 112, 46, 99, 46, 46, 46, 46, 46, 99, 46, 46, 46, 46, 46, 46, 46, 46, 46, 46, 114, 110, 98, 97, 107, 97, 98, 110, 114]⟩ : ByteArray) = startS from rfl, hW0]
  refine (played_any (some ⟨w.heap.size + 1, 0, none⟩) froP0 froM 4 4 W0 hm rfl (by decide)).mono ?_
  rintro e w1 ⟨v1, v2, rfl, hP, hb1⟩
  rw [fro_play] at hP
  have hP1 : w1.ownsRow (W0.heap.size + 1) 36 4 v1 5 (psL froL) := hP.r1
  have hP2 : w1.ownsRow (W0.heap.size + 1) 28 2 v2 4 (mzL froM) := hP.r2
  obtain ⟨g1, c1, rfl, hr1, hc1⟩ : ∃ g1 c1, v1 = .slice (some ⟨g1, 0, none⟩) 5 c1 ∧ Rd w1 (some ⟨g1, 0, none⟩) (psL froL) ∧ 5 ≤ c1 := by
    rcases hP1.2 with ⟨_, h⟩ | ⟨g, cap, cur, h, _, _, hle, _⟩
    · cases h
    · subst h
      exact ⟨g, cap, rfl, Rd.owns hP1, hle⟩
  obtain ⟨g2, c2, rfl, hr2, hc2⟩ : ∃ g2 c2, v2 = .slice (some ⟨g2, 0, none⟩) 4 c2 ∧ Rd w1 (some ⟨g2, 0, none⟩) (mzL froM) ∧ 4 ≤ c2 := by
    rcases hP2.2 with ⟨_, h⟩ | ⟨g, cap, cur, h, _, _, hle, _⟩
    · cases h
    · subst h
      exact ⟨g, cap, rfl, Rd.owns hP2, hle⟩
  have hB1 := hB0.trans (hb1.mono hB0.size)
  have hT1 := hT.next hB1
  have hS : FS w g1 g2 w1.drew := fs_of (hr1.next (Below.refl _ _).drew) (hr2.next (Below.refl _ _).drew) (hT1.next (Below.refl _ _).drew) hB1.drew
  have HC2 := Lib.hid hc2
  have hc9 : (1 : Int) ≤ (c2 : Int) := by omega
  have hc8 : (4 : Int) ≤ (c1 : Int) := by omega
  clear hc1
  have e5 := fro_e5
  have e4 := fro_earlier4
  have o1 := fro_origin1
  have o4 := fro_o4
  have o5 := fro_o5
  have k4 := fro_c4
  have k0 := fro_c0
  have s4 := fro_toList
  clear hP hP1 hP2 bM hm hW0 hB0 hb1 hr1 hr2 hB1 hT1 hc2
  go_wp2_with fail
  go_region_held3 (fun W => W.cell? ⟨g1, 0, none⟩ = some (.string startS) ∧ W.cell? ⟨g1, 1, none⟩ = some (.int .i64 0) ∧ W.cell? ⟨g1, 2, none⟩ = some (.int .i64 0) ∧ W.cell? ⟨g1, 3, none⟩ = some (.int .i64 1) ∧
      W.cell? ⟨g1, 4, none⟩ = some (.string fro1) ∧ W.cell? ⟨g1, 5, none⟩ = some (.int .i64 1) ∧ W.cell? ⟨g1, 6, none⟩ = some (.int .i64 1) ∧ W.cell? ⟨g1, 7, none⟩ = some (.int .i64 1) ∧
      W.cell? ⟨g1, 16, none⟩ = some (.string fro4) ∧ W.cell? ⟨g1, 17, none⟩ = some (.int .i64 0) ∧ W.cell? ⟨g1, 18, none⟩ = some (.int .i64 4) ∧ W.cell? ⟨g1, 19, none⟩ = some (.int .i64 3) ∧
      Rd W (some ⟨g1, 0, none⟩) (psL froL) ∧ Rd W (some ⟨g2, 0, none⟩) (mzL froM) ∧ Tab W ∧ Below w.heap.size w W)
    (first | exact hS | exact fs_keep (by assumption) hb)
    (first
      | (go_at_call 30; refine (ear_t _ _ _ _ ?_ (by decide)).mono ?_; (exact (fs_parts (by assumption)).1); rintro e w3 ⟨rfl, hb⟩)
      | (go_at_call 28; refine (same_t _ _ _ _ _ _ _ _ _).mono ?_; rintro e w3 ⟨rfl, hb⟩)
      | (go_at_call 32; refine (org_t _ _ _ _ _ ?_ (by decide)).mono ?_; (exact (fs_parts (by assumption)).2.1); rintro e w3 ⟨rfl, hb⟩)
      | (go_at_call 35; refine (cls_t _ _ _ _ _ _ _ ?_ ?_ ?_ (by decide) (by decide) (by first | exact HC2.out | decide)).mono ?_; (exact (fs_parts (by assumption)).2.2.1); (exact (fs_parts (by assumption)).1); (first | exact rd_take (fs_parts (by assumption)).2.1 _ | exact rd_nil _ _); rintro e w3 ⟨rfl, hb⟩))
  all_goals
    have hB9 := (fs_parts (by assumption)).2.2.2
    go_wp2
    go_ret
    exact ⟨rfl, hB9⟩
end Go.Proofs.YtnkbilikkbaeeaaGreatDoor
