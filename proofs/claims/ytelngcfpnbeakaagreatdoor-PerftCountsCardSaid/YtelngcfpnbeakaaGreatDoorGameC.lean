/- A step is put behind the others, or taken from there. -/
import Derived.Test.YtelngcfpnbeakaaGreatDoorGameB
import Derived.Deep.RegionLaw
namespace Go.Proofs.YtelngcfpnbeakaaGreatDoor
open Go.RowKit Go.Shelf
open M (S)

theorem blk_far {w w' : World} {r : Option Nat} (h : w.grownBy w' r) {g : Nat} {t : TypeId} {cs : Array Value} (b : Blk w g t cs) (hne : some g ≠ r) : Blk w' g t cs := (h.block g b.lt hne).trans b
theorem Far.of_le {X : Nat → Prop} {w w' : World} {B : Nat} (hb : Below w.heap.size w w') (_ : B ≤ w.heap.size) : Far X w w' := Far.of hb
theorem Far.grown' {X : Nat → Prop} {w w' : World} {r : Option Nat} {B : Nat} (h : w.grownBy w' r) (hX : ∀ k, some k = r → X k) (_ : B ≤ w.heap.size) : Far X w w' := Far.grown h hX
theorem row_base {w : World} {base : Nat} {e : TypeId} {size : Nat} {g n c m : Nat} {xs : List Value} (h : w.ownsRow base e size (.slice (some ⟨g, 0, none⟩) n c) m xs) : base ≤ g ∧ g < w.heap.size := by
  rcases h.2 with ⟨h0, _⟩ | ⟨g', cap, cur, hv, hb, hc, _⟩
  · cases h0
  · injection hv with e1
    injection e1 with e1
    injection e1 with e1
    subst e1
    exact ⟨hb, (Array.getElem?_eq_some_iff.1 hc).1⟩
theorem push_own {v : Value} {g2 n c H B : Nat} (h : v.ownBlock = some g2 ∨ g2 = H) (hB : B ≤ H) {k : Nat} (e : (Value.slice (some ⟨g2, 0, none⟩) n c).ownBlock = some k) : v.ownBlock = some k ∨ B ≤ k := by
  have : g2 = k := by simpa [Value.ownBlock] using e
  subst this
  rcases h with h | rfl
  · exact .inl h
  · exact .inr hB
theorem push_ne {g g2 n c k n₀ : Nat} (e : (Value.slice (some ⟨g2, 0, none⟩) n c).ownBlock = some k) (h2 : n₀ ≤ g2) (hg : g < n₀) : k ≠ g := by
  have : g2 = k := by simpa [Value.ownBlock] using e
  omega
theorem info_step : (Tryz.prog.info? 83).map (fun i => (i.zero, i.size, i.bytes)) = some (some (.agg #[.int .i64 0, .int .i64 0, .string ⟨#[]⟩, .int .i64 0, .int .i64 0, .int .i64 0]), 6, 56) := by kernel_rfl
theorem info_parts6 {P : Program} {t : TypeId} {z : Value} {n m : Nat} (h : (P.info? t).map (fun i => (i.zero, i.size, i.bytes)) = some (some z, n, m)) : ∃ i, P.info? t = some i ∧ i.zero = some z ∧ i.size = n ∧ i.bytes = m := by
  obtain ⟨i, hi, he⟩ := Option.map_eq_some_iff.1 h
  simp only [Prod.mk.injEq] at he
  exact ⟨i, hi, he.1, he.2.1, he.2.2⟩
set_option maxRecDepth 100000 in
set_option maxHeartbeats 4000000 in
theorem push_is {n₀ : Nat} {w : World} {g : Nat} {v : Value} {st : List Stp} {now : Po} (h : GAt n₀ w g v st now) (a b : Int) (p : Po) (hl : st.length ≤ 1024) :
    Calls Tryz.prog 52 #[.pointer (some ⟨g, 0, none⟩), .agg #[.int .i64 a, .int .i64 b, .string p.s, .int .i64 p.y, .int .i64 p.z, .int .i64 p.u]] w
      fun e w' => (∃ r, e = .returned r) ∧ ∃ v', GAt n₀ w' g v' (st ++ [⟨a, b, p⟩]) now ∧ (∀ k, v'.ownBlock = some k → v.ownBlock = some k ∨ w.heap.size ≤ k) ∧ Far (OfG g v) w w' := by
  obtain ⟨i0, hi, hz0, hz1, hz2⟩ := info_parts6 info_step
  obtain ⟨W0, hW0⟩ : ∃ W0, w.alloc (.cells #[.int .i64 a, .int .i64 b, .string p.s, .int .i64 p.y, .int .i64 p.z, .int .i64 p.u] 83) = W0 := ⟨_, rfl⟩
  have hB : Below w.heap.size w W0 := by rw [← hW0]; exact (by repeat (first | exact Below.refl _ _ | (refine Below.setCell ?_ (by first | omega | (simp; done) | (simp; omega) | (simp at *; omega)) _) | (refine Below.alloc ?_ (by first | omega | (simp; done) | (simp; omega) | (simp at *; omega)) _) | refine Below.drew ?_ | (refine below_drewN ?_ _) | (refine Below.trans ?_ (Below.mono (by assumption) (by first | omega | (simp; done) | (simp; omega) | (simp at *; omega))))))
  have bX : Blk W0 w.heap.size 83 #[.int .i64 a, .int .i64 b, .string p.s, .int .i64 p.y, .int .i64 p.z, .int .i64 p.u] := by rw [← hW0]; exact Blk.new _ _ _ rfl
  have h0 := h.next hB
  obtain ⟨A, c, hv⟩ := h.slice
  obtain ⟨p0, p1, p2, p3, p4, p5⟩ : W0.cell? ⟨w.heap.size, 0, none⟩ = some (.int .i64 a) ∧ W0.cell? ⟨w.heap.size, 1, none⟩ = some (.int .i64 b) ∧ W0.cell? ⟨w.heap.size, 2, none⟩ = some (.string p.s) ∧ W0.cell? ⟨w.heap.size, 3, none⟩ = some (.int .i64 p.y) ∧ W0.cell? ⟨w.heap.size, 4, none⟩ = some (.int .i64 p.z) ∧ W0.cell? ⟨w.heap.size, 5, none⟩ = some (.int .i64 p.u) := ⟨bX.cell 0, bX.cell 1, bX.cell 2, bX.cell 3, bX.cell 4, bX.cell 5⟩
  have c0 := (gcells h0.blk).1
  obtain ⟨W1, hW1⟩ : ∃ W1, (W0.alloc (.cells #[.int .i64 a, .int .i64 b, .string p.s, .int .i64 p.y, .int .i64 p.z, .int .i64 p.u] 83)).drew = W1 := ⟨_, rfl⟩
  have hb1 : Below W0.heap.size W0 W1 := by rw [← hW1]; exact ((Below.refl _ W0).alloc (Nat.le_refl _) _).drew
  have h1 := h0.next hb1
  have c1 := (gcells h1.blk).1
  have bN : Blk W1 W0.heap.size 83 #[.int .i64 a, .int .i64 b, .string p.s, .int .i64 p.y, .int .i64 p.z, .int .i64 p.u] := by rw [← hW1]; exact (Blk.new W0 83 #[.int .i64 a, .int .i64 b, .string p.s, .int .i64 p.y, .int .i64 p.z, .int .i64 p.u] rfl).next (Below.refl _ _).drew
  have hsz : W1.heap.size = W0.heap.size + 1 := by rw [← hW1]; simp
  have HW := Lib.hid hW0
  clear hW0
  have HONE : Hid (∀ u ∈ Stp.cs ⟨a, b, p⟩, u.oneCell' = true) := by
    show ∀ u ∈ _, _
    intro u hu
    simp only [Stp.cs, List.mem_cons, List.not_mem_nil, or_false] at hu
    rcases hu with rfl | rfl | rfl | rfl | rfl | rfl <;> rfl
  have HL : Hid (st.length + 1 ≤ maxLen) := by show _ ≤ _; unfold maxLen; omega
  have HBY : Hid ((st.length + 1) * 56 ≤ 140737488355328) := by show _ ≤ _; omega
  have HNE : Hid (some g ≠ v.ownBlock) := by
    show _ ≠ _
    intro e
    have := (h.own e.symm).1
    have := h.lt
    omega
  subst hv
  go_enter Tryz.func52, Tryz.ntmps52
  go_wp2_with fail
  rw [HW.out]
  go_region_law (refine step_append_lies _ rfl (.tmp 8) (.tmp 10) 59 rfl n₀ 83 i0 _ 6 56 Tryz.underlying59 hi hz0 hz1 hz2 rfl (by decide) _ st.length (stepsL st) rfl h1.row ⟨W0.heap.size, 0, none⟩ 1 1 (Stp.cs ⟨a, b, p⟩) rfl rfl (World.news_of_block bN) HONE.out (by decide) HL.out HBY.out h1.le _ rfl ?_; intro g2 cap2 w1 hown2 hgrow hat hlt; have bG := blk_far hgrow h1.blk HNE.out; have c2 := (gcells bG).1; have f2 := (gfrozen bG).1)
  all_goals
    have hf : Far (OfG g (.slice A st.length c)) w w1 := ((Far.of hB).trans (Far.of_le hb1 hB.size)).trans (Far.grown' hgrow (fun k e => Or.inr e.symm) (Nat.le_trans hB.size hb1.size))
    have hg2 : n₀ ≤ g2 := (row_base hown2).1
    have hgl := h.lt
    have hat2 : ∀ k, (Value.slice (some ⟨g2, 0, none⟩) (st.length + 1) cap2).ownBlock = some k → (Value.slice A st.length c).ownBlock = some k ∨ w.heap.size ≤ k := fun _ e => push_own (v := .slice A st.length c) hat (Nat.le_trans hB.size hb1.size) e
    have hrow := row_next (w1 := w1.setCell ⟨g, 0, none⟩ (.slice (some ⟨g2, 0, none⟩) (st.length + 1) cap2)) hown2 (fun k _ e => Below.heap_setCell w1 ⟨g, 0, none⟩ _ k (push_ne e hg2 hgl))
    have hle : n₀ ≤ w1.heap.size := Nat.le_trans h1.le hgrow.size
    go_wp2
    go_end0
    refine ⟨⟨_, rfl⟩, _, ⟨bG.set_ 0 _, ?_, hgl, by simpa using hle⟩, hat2, hf.trans (Far.set (p := ⟨g, 0, none⟩) (Or.inl rfl) _)⟩
    rw [stepsL_snoc, List.length_append]
    exact hrow
theorem row_cell {w : World} {base : Nat} {e : TypeId} {size : Nat} {g c m : Nat} {xs : List Value} (h : w.ownsRow base e size (.slice (some ⟨g, 0, none⟩) m c) m xs) {j : Nat} {u : Value} (hu : xs[j]? = some u) : w.cell? ⟨g, j, none⟩ = some u := by
  rcases h.2 with ⟨h0, _⟩ | ⟨g', cap, cur, hv, _, hc, _, _, _, ht⟩
  · cases h0
  · injection hv with e1
    injection e1 with e1
    injection e1 with e1
    subst e1
    rw [World.cell?, hc]
    have hj := (List.getElem?_eq_some_iff.1 hu).1
    rw [← ht] at hu hj
    rw [List.getElem?_take_of_lt (by rw [List.length_take] at hj; omega)] at hu
    simpa using hu
theorem last_cell (st : List Stp) (x : Stp) (i : Nat) (hi : i < 6) : (stepsL (st ++ [x]))[st.length * 6 + i]? = x.cs[i]? := by
  rw [stepsL_snoc, List.getElem?_append_right (by rw [stepsL_len]; omega), stepsL_len]
  congr 1
  omega
theorem row_cap {w : World} {base : Nat} {e : TypeId} {size : Nat} {g c m : Nat} {xs : List Value} (h : w.ownsRow base e size (.slice (some ⟨g, 0, none⟩) m c) m xs) : m ≤ c := by
  rcases h.2 with ⟨h0, _⟩ | ⟨g', cap, cur, hv, _, _, hc, _⟩
  · cases h0
  · injection hv with _ _ e3
    omega
theorem row_front {w : World} {base : Nat} {e : TypeId} {g c n : Nat} {st : List Stp} {x : Stp} {m : Nat} (h : w.ownsRow base e 6 (.slice (some ⟨g, 0, none⟩) (n + 1) c) m (stepsL (st ++ [x]))) (hn : st.length = n) : w.ownsRow base e 6 (.slice (some ⟨g, 0, none⟩) n c) n (stepsL st) := by
  refine ⟨by rw [stepsL_len, hn], ?_⟩
  rcases h.2 with ⟨h0, _⟩ | ⟨g', cap, cur, hv, hb, hc, h1, h2, h3, ht⟩
  · cases h0
  · injection hv with e1 e2 e3
    subst e3
    refine .inr ⟨g', c, cur, by rw [e1], hb, hc, by omega, h2, h3, ?_⟩
    rw [stepsL_snoc] at ht
    have : cur.toList.take (n * 6) = (cur.toList.take (m * 6)).take (n * 6) := by rw [List.take_take, Nat.min_eq_left (by omega)]
    rw [this, ht, List.take_append_of_le_length (by rw [stepsL_len, hn]; exact Nat.le_refl _), List.take_of_length_le (by rw [stepsL_len, hn]; exact Nat.le_refl _)]
theorem res_step {fn : Func} {p u : Tmp} (h : fn.results = #[.cell p 83, .tmp u]) (tmps : Array Value) (w : World) {g : Nat} {a b c d e f : Value} (hp : tmps.getD p undef = .pointer (some ⟨g, 0, none⟩)) (hb : Blk w g 83 #[a, b, c, d, e, f]) :
    (results fn tmps).run Tryz.prog w = .ok (.tuple #[.agg #[a, b, c, d, e, f], tmps.getD u undef]) w := by
  rw [results_cell_tmp h, hp]
  have h1 := run_loadVar_row (P := Tryz.prog) w g 83 83 #[a, b, c, d, e, f] (0, 0) _ hb Tryz.underlying83 rfl (by kernel_rfl)
  simp [asAddr, h1, Result.andThen]
set_option maxRecDepth 100000 in
set_option maxHeartbeats 4000000 in
theorem pop_none {n₀ : Nat} {w : World} {g : Nat} {v : Value} {now : Po} (h : GAt n₀ w g v [] now) :
    Calls Tryz.prog 53 #[.pointer (some ⟨g, 0, none⟩)] w (Gives w (.tuple #[.agg #[.int .i64 0, .int .i64 0, .string ⟨#[]⟩, .int .i64 0, .int .i64 0, .int .i64 0], .bool false])) := by
  unfold Gives
  obtain ⟨A, c, rfl⟩ := h.slice
  obtain ⟨W0, hW0⟩ : ∃ W0, w.alloc (.cells #[.int .i64 0, .int .i64 0, .string ⟨#[]⟩, .int .i64 0, .int .i64 0, .int .i64 0] 83) = W0 := ⟨_, rfl⟩
  have hB : Below w.heap.size w W0 := by rw [← hW0]; exact (by repeat (first | exact Below.refl _ _ | (refine Below.setCell ?_ (by first | omega | (simp; done) | (simp; omega) | (simp at *; omega)) _) | (refine Below.alloc ?_ (by first | omega | (simp; done) | (simp; omega) | (simp at *; omega)) _) | refine Below.drew ?_ | (refine below_drewN ?_ _) | (refine Below.trans ?_ (Below.mono (by assumption) (by first | omega | (simp; done) | (simp; omega) | (simp at *; omega))))))
  have bR : Blk W0 w.heap.size 83 #[.int .i64 0, .int .i64 0, .string ⟨#[]⟩, .int .i64 0, .int .i64 0, .int .i64 0] := by rw [← hW0]; exact Blk.new _ _ _ rfl
  have hc := (gcells (h.next hB).blk).1
  obtain ⟨f0, f1, f2, f3, f4, f5⟩ := gfrozen bR
  obtain ⟨r0, r1, r2, r3, r4, r5⟩ : W0.cell? ⟨w.heap.size, 0, none⟩ = some (.int .i64 0) ∧ W0.cell? ⟨w.heap.size, 1, none⟩ = some (.int .i64 0) ∧ W0.cell? ⟨w.heap.size, 2, none⟩ = some (.string ⟨#[]⟩) ∧ W0.cell? ⟨w.heap.size, 3, none⟩ = some (.int .i64 0) ∧ W0.cell? ⟨w.heap.size, 4, none⟩ = some (.int .i64 0) ∧ W0.cell? ⟨w.heap.size, 5, none⟩ = some (.int .i64 0) := ⟨bR.cell 0, bR.cell 1, bR.cell 2, bR.cell 3, bR.cell 4, bR.cell 5⟩
  have HW := Lib.hid hW0
  clear hW0
  go_enter Tryz.func53, Tryz.ntmps53
  go_wp2_with fail
  rw [HW.out]
  refine (count_is g _ _ _ _ hc).mono ?_
  rintro e w1 ⟨rfl, rfl⟩
  obtain ⟨W6, hW6⟩ : ∃ W6, (((((W0.setCell ⟨w.heap.size, 0, none⟩ (.int .i64 0)).setCell ⟨w.heap.size, 1, none⟩ (.int .i64 0)).setCell ⟨w.heap.size, 2, none⟩ (.string ⟨#[]⟩)).setCell ⟨w.heap.size, 3, none⟩ (.int .i64 0)).setCell ⟨w.heap.size, 4, none⟩ (.int .i64 0)).setCell ⟨w.heap.size, 5, none⟩ (.int .i64 0) = W6 := ⟨_, rfl⟩
  have hB6 : Below w.heap.size w W6 := by rw [← hW6]; exact (((((hB.setCell (p := ⟨w.heap.size, 0, none⟩) (Nat.le_refl _) _).setCell (p := ⟨w.heap.size, 1, none⟩) (Nat.le_refl _) _).setCell (p := ⟨w.heap.size, 2, none⟩) (Nat.le_refl _) _).setCell (p := ⟨w.heap.size, 3, none⟩) (Nat.le_refl _) _).setCell (p := ⟨w.heap.size, 4, none⟩) (Nat.le_refl _) _).setCell (p := ⟨w.heap.size, 5, none⟩) (Nat.le_refl _) _
  have bR6 : Blk W6 w.heap.size 83 #[.int .i64 0, .int .i64 0, .string ⟨#[]⟩, .int .i64 0, .int .i64 0, .int .i64 0] := by rw [← hW6]; exact (((((bR.set_ 0 (.int .i64 0)).set_ 1 (.int .i64 0)).set_ 2 (.string ⟨#[]⟩)).set_ 3 (.int .i64 0)).set_ 4 (.int .i64 0)).set_ 5 (.int .i64 0)
  go_wp2_with fail
  subst hW6
  exact bodyPost_ret (res_step rfl _ _ rfl bR6) rfl ⟨rfl, hB6⟩
theorem pops_keep {g g2 n cap : Nat} {x : Stp} {W W' : World} (h : W.cell? ⟨g, 0, none⟩ = some (.slice (some ⟨g2, 0, none⟩) (n + 1) cap) ∧ W.cell? ⟨g2, n * 6, none⟩ = some (.int .i64 x.a) ∧ W.cell? ⟨g2, n * 6 + 1, none⟩ = some (.int .i64 x.b) ∧ W.cell? ⟨g2, n * 6 + 2, none⟩ = some (.string x.p.s) ∧ W.cell? ⟨g2, n * 6 + 3, none⟩ = some (.int .i64 x.p.y) ∧ W.cell? ⟨g2, n * 6 + 4, none⟩ = some (.int .i64 x.p.z) ∧ W.cell? ⟨g2, n * 6 + 5, none⟩ = some (.int .i64 x.p.u)) (hb : Below W.heap.size W W') : W'.cell? ⟨g, 0, none⟩ = some (.slice (some ⟨g2, 0, none⟩) (n + 1) cap) ∧ W'.cell? ⟨g2, n * 6, none⟩ = some (.int .i64 x.a) ∧ W'.cell? ⟨g2, n * 6 + 1, none⟩ = some (.int .i64 x.b) ∧ W'.cell? ⟨g2, n * 6 + 2, none⟩ = some (.string x.p.s) ∧ W'.cell? ⟨g2, n * 6 + 3, none⟩ = some (.int .i64 x.p.y) ∧ W'.cell? ⟨g2, n * 6 + 4, none⟩ = some (.int .i64 x.p.z) ∧ W'.cell? ⟨g2, n * 6 + 5, none⟩ = some (.int .i64 x.p.u) := by
  obtain ⟨h0, h1, h2, h3, h4, h5, h6⟩ := h
  exact ⟨(hb.cell (p := ⟨g, 0, none⟩) (cell_lt h0)).trans h0, (hb.cell (p := ⟨g2, n * 6, none⟩) (cell_lt h1)).trans h1, (hb.cell (p := ⟨g2, n * 6 + 1, none⟩) (cell_lt h2)).trans h2, (hb.cell (p := ⟨g2, n * 6 + 2, none⟩) (cell_lt h3)).trans h3, (hb.cell (p := ⟨g2, n * 6 + 3, none⟩) (cell_lt h4)).trans h4, (hb.cell (p := ⟨g2, n * 6 + 4, none⟩) (cell_lt h5)).trans h5, (hb.cell (p := ⟨g2, n * 6 + 5, none⟩) (cell_lt h6)).trans h6⟩
set_option maxRecDepth 100000 in
set_option maxHeartbeats 4000000 in
theorem pop_is {n₀ : Nat} {w : World} {g : Nat} {v : Value} {st : List Stp} {x : Stp} {now : Po} (h : GAt n₀ w g v (st ++ [x]) now) (hle : st.length ≤ 1024) :
    Calls Tryz.prog 53 #[.pointer (some ⟨g, 0, none⟩)] w fun e w' => e = .returned (.tuple #[.agg #[.int .i64 x.a, .int .i64 x.b, .string x.p.s, .int .i64 x.p.y, .int .i64 x.p.z, .int .i64 x.p.u], .bool true]) ∧
      ∃ v', GAt n₀ w' g v' st now ∧ (∀ k, v'.ownBlock = some k → v.ownBlock = some k ∨ w.heap.size ≤ k) ∧ Far (OfG g v) w w' := by
  obtain ⟨g2, cap, hv, hg2, hg3⟩ := h.row.form (by simp)
  subst hv
  obtain ⟨n, hn⟩ : ∃ n, st.length = n := ⟨_, rfl⟩
  have hl : (st ++ [x]).length = n + 1 := by simp [hn]
  have hrow := h.row
  rw [hl] at hrow h
  obtain ⟨W0, hW0⟩ : ∃ W0, w.alloc (.cells #[.int .i64 0, .int .i64 0, .string ⟨#[]⟩, .int .i64 0, .int .i64 0, .int .i64 0] 83) = W0 := ⟨_, rfl⟩
  have hB : Below w.heap.size w W0 := by rw [← hW0]; exact (by repeat (first | exact Below.refl _ _ | (refine Below.setCell ?_ (by first | omega | (simp; done) | (simp; omega) | (simp at *; omega)) _) | (refine Below.alloc ?_ (by first | omega | (simp; done) | (simp; omega) | (simp at *; omega)) _) | refine Below.drew ?_ | (refine below_drewN ?_ _) | (refine Below.trans ?_ (Below.mono (by assumption) (by first | omega | (simp; done) | (simp; omega) | (simp at *; omega))))))
  have bR : Blk W0 w.heap.size 83 #[.int .i64 0, .int .i64 0, .string ⟨#[]⟩, .int .i64 0, .int .i64 0, .int .i64 0] := by rw [← hW0]; exact Blk.new _ _ _ rfl
  have h0 := h.next hB
  have hc := (gcells h0.blk).1
  have hr0 := row_next hrow (fun k hk _ => hB.block k hk)
  have hcs : ∀ i u, i < 6 → x.cs[i]? = some u → W0.cell? ⟨g2, n * 6 + i, none⟩ = some u := fun i u hi hu => row_cell hr0 (by rw [← hn, last_cell st x i hi]; exact hu)
  have hS0 : W0.cell? ⟨g, 0, none⟩ = some (.slice (some ⟨g2, 0, none⟩) (n + 1) cap) ∧ W0.cell? ⟨g2, n * 6, none⟩ = some (.int .i64 x.a) ∧ W0.cell? ⟨g2, n * 6 + 1, none⟩ = some (.int .i64 x.b) ∧ W0.cell? ⟨g2, n * 6 + 2, none⟩ = some (.string x.p.s) ∧ W0.cell? ⟨g2, n * 6 + 3, none⟩ = some (.int .i64 x.p.y) ∧ W0.cell? ⟨g2, n * 6 + 4, none⟩ = some (.int .i64 x.p.z) ∧ W0.cell? ⟨g2, n * 6 + 5, none⟩ = some (.int .i64 x.p.u) := ⟨hc, hcs 0 _ (by decide) rfl, hcs 1 _ (by decide) rfl, hcs 2 _ (by decide) rfl, hcs 3 _ (by decide) rfl, hcs 4 _ (by decide) rfl, hcs 5 _ (by decide) rfl⟩
  have hn0 : ((n : Int) + 1 == 0) = false := by rw [beq_eq_false_iff_ne]; omega
  have hnl : n ≤ 1024 := by omega
  have i1 : IntKind.i64.wrap (n : Int) = (n : Int) := IntWalk.i64_in _ (by omega)
  have hcap := row_cap hrow
  have i3 : (0 : Int) ≤ (n : Int) ∧ (n : Int) ≤ (cap : Int) := ⟨Int.natCast_nonneg n, by omega⟩
  have i4 : n ≤ cap := by omega
  have i2 : (0 : Int) ≤ (n : Int) ∧ (n : Int) < (n : Int) + 1 := ⟨Int.natCast_nonneg n, by omega⟩
  clear hcs
  have HW := Lib.hid hW0
  have HN := Lib.hid hn
  clear hW0 hn hl hle
  go_enter Tryz.func53, Tryz.ntmps53
  go_wp2_with fail
  rw [HW.out]
  refine (count_is g _ _ _ _ hc).mono ?_
  rintro e w1 ⟨rfl, rfl⟩
  go_wp2_with fail
  refine wp_region_held_drew (S := fun W => W.cell? ⟨g, 0, none⟩ = some (.slice (some ⟨g2, 0, none⟩) (n + 1) cap) ∧ W.cell? ⟨g2, n * 6, none⟩ = some (.int .i64 x.a) ∧ W.cell? ⟨g2, n * 6 + 1, none⟩ = some (.int .i64 x.b) ∧ W.cell? ⟨g2, n * 6 + 2, none⟩ = some (.string x.p.s) ∧ W.cell? ⟨g2, n * 6 + 3, none⟩ = some (.int .i64 x.p.y) ∧ W.cell? ⟨g2, n * 6 + 4, none⟩ = some (.int .i64 x.p.z) ∧ W.cell? ⟨g2, n * 6 + 5, none⟩ = some (.int .i64 x.p.u)) (by kernel_rfl) (hS0) (fun hHeld => ?_)
  refine wpAnyH_take (i := 0) (oi := { dst := some 9, op := Op.move (Operand.tmp 0), type := 94, pos := "game.go:113", after := #[], guard := none }) (v := ?_) rfl (by kernel_rfl) (by kernel_rfl) (by kernel_rfl) (fun _ _ _ h => h) (Or.inl ⟨by rfl, ?_⟩) (by assumption) ?_
  case refine_2 =>
    intro w hSw
    (try dsimp only at hSw)
    (try go_simp)
    all_goals (with_reducible rfl)
  try simp only [Act.put, List.setIfInBounds_toArray, List.set_cons_zero, List.set_cons_succ]
  refine wpAnyH_take (i := 1) (oi := { dst := some 10, op := Op.nilCheck (Operand.tmp 9), type := 0, pos := "game.go:113", after := #[{ on := 0, ground := Ground.data }], guard := none }) (v := ?_) rfl (by kernel_rfl) (by kernel_rfl) (by kernel_rfl) (fun _ _ _ h => h) (Or.inl ⟨by rfl, ?_⟩) (by assumption) ?_
  case refine_2 =>
    intro w hSw
    (try dsimp only at hSw)
    (try go_simp)
    all_goals (with_reducible rfl)
  try simp only [Act.put, List.setIfInBounds_toArray, List.set_cons_zero, List.set_cons_succ]
  refine wpAnyH_take (i := 2) (oi := { dst := some 11, op := Op.fieldAddr 61 (Operand.tmp 10) 0, type := 0, pos := "game.go:113", after := #[{ on := 1, ground := Ground.data }], guard := none }) (v := ?_) rfl (by kernel_rfl) (by kernel_rfl) (by kernel_rfl) (fun _ _ _ h => h) (Or.inl ⟨by rfl, ?_⟩) (by assumption) ?_
  case refine_2 =>
    intro w hSw
    (try dsimp only at hSw)
    (try go_simp)
    all_goals (with_reducible rfl)
  try simp only [Act.put, List.setIfInBounds_toArray, List.set_cons_zero, List.set_cons_succ]
  refine wpAnyH_take (i := 3) (oi := { dst := some 12, op := Op.load 59 (Operand.tmp 11), type := 59, pos := "game.go:113", after := #[{ on := 2, ground := Ground.data }], guard := none }) (v := ?_) rfl (by kernel_rfl) (by kernel_rfl) (by kernel_rfl) (fun _ _ _ h => h) (Or.inl ⟨by rfl, ?_⟩) (by assumption) ?_
  case refine_2 =>
    intro w hSw
    (try dsimp only at hSw)
    (try go_simp)
    all_goals (with_reducible rfl)
  try simp only [Act.put, List.setIfInBounds_toArray, List.set_cons_zero, List.set_cons_succ]
  refine wpAnyH_take (i := 4) (oi := { dst := some 13, op := Op.move (Operand.tmp 0), type := 94, pos := "game.go:113", after := #[], guard := none }) (v := ?_) rfl (by kernel_rfl) (by kernel_rfl) (by kernel_rfl) (fun _ _ _ h => h) (Or.inl ⟨by rfl, ?_⟩) (by assumption) ?_
  case refine_2 =>
    intro w hSw
    (try dsimp only at hSw)
    (try go_simp)
    all_goals (with_reducible rfl)
  try simp only [Act.put, List.setIfInBounds_toArray, List.set_cons_zero, List.set_cons_succ]
  refine wpAnyH_ready (rs := [5, 9]) (by kernel_rfl) (by simp) (AllReadyH.cons (o := { dst := some 14, op := Op.call { callee := Callee.value (Operand.func 50), args := #[Operand.tmp 13], argTypes := #[94] }, type := 3, pos := "game.go:113", after := #[{ on := 4, ground := Ground.data }], guard := none }) rfl (fun K hK => ?rd1) (AllReadyH.cons (o := { dst := some 4, op := Op.alloc 83, type := 0, pos := "game.go:113", after := #[], guard := none }) rfl (fun K hK => ?rd2) AllReadyH.nil))
  case' rd1 =>
    go_simp
    refine (count_is g _ _ _ _ (by first | exact hHeld.1 | exact hS0.1)).mono ?_; rintro e w1 ⟨rfl, rfl⟩
    refine hK.out _ _ ?_ (fun hHeld => ?_)
    · assumption
    clear hK K
    refine wpAnyH_take (i := 6) (oi := { dst := some 15, op := Op.binOp BinOp.sub 3 (Operand.tmp 14) (Operand.const (Value.int IntKind.i64 1)) 3, type := 3, pos := "game.go:113", after := #[{ on := 5, ground := Ground.data }], guard := none }) (v := ?_) rfl (by kernel_rfl) (by kernel_rfl) (by kernel_rfl) (fun _ _ _ h => h) (Or.inl ⟨by rfl, ?_⟩) (by assumption) ?_
    case refine_2 =>
      intro w hSw
      (try dsimp only at hSw)
      (try go_simp)
      all_goals (with_reducible rfl)
    try simp only [Act.put, List.setIfInBounds_toArray, List.set_cons_zero, List.set_cons_succ]
    refine wpAnyH_take (i := 7) (oi := { dst := some 16, op := Op.indexAddr 59 (Operand.tmp 12) (Operand.tmp 15), type := 0, pos := "game.go:113", after := #[{ on := 3, ground := Ground.data }, { on := 6, ground := Ground.data }], guard := none }) (v := ?_) rfl (by kernel_rfl) (by kernel_rfl) (by kernel_rfl) (fun _ _ _ h => h) (Or.inl ⟨by rfl, ?_⟩) (by assumption) ?_
    case refine_2 =>
      intro w hSw
      (try dsimp only at hSw)
      (try go_simp)
      all_goals (with_reducible rfl)
    try simp only [Act.put, List.setIfInBounds_toArray, List.set_cons_zero, List.set_cons_succ]
    refine wpAnyH_take (i := 8) (oi := { dst := some 17, op := Op.load 83 (Operand.tmp 16), type := 83, pos := "game.go:113", after := #[{ on := 7, ground := Ground.data }], guard := none }) (v := ?_) rfl (by kernel_rfl) (by kernel_rfl) (by kernel_rfl) (fun _ _ _ h => h) (Or.inl ⟨by rfl, ?_⟩) (by assumption) ?_
    case refine_2 =>
      intro w hSw
      (try dsimp only at hSw)
      (try go_simp)
      all_goals (with_reducible rfl)
    try simp only [Act.put, List.setIfInBounds_toArray, List.set_cons_zero, List.set_cons_succ]
    refine wpAnyH_ready (rs := [9]) (by kernel_rfl) (by simp) (AllReadyH.cons (o := { dst := some 4, op := Op.alloc 83, type := 0, pos := "game.go:113", after := #[], guard := none }) rfl (fun K hK => ?_) AllReadyH.nil)
    go_simp
    refine hK.out _ _ ?_ (fun hHeld => ?_)
    · exact pops_keep hS0 (((Below.refl _ W0).alloc (Nat.le_refl _) _).drew)
    clear hK K
    try simp only [Act.put, List.setIfInBounds_toArray, List.set_cons_zero, List.set_cons_succ]
    refine wpAnyH_ready (rs := [10]) (by kernel_rfl) (by simp) (AllReadyH.cons (o := { dst := none, op := Op.store 83 (Operand.tmp 4) (Operand.tmp 17), type := 0, pos := "game.go:113", after := #[{ on := 9, ground := Ground.data }, { on := 8, ground := Ground.data }, { on := 5, ground := Ground.chain }, { on := 0, ground := Ground.phase }, { on := 1, ground := Ground.phase }, { on := 2, ground := Ground.phase }, { on := 3, ground := Ground.phase }, { on := 4, ground := Ground.phase }, { on := 5, ground := Ground.phase }, { on := 6, ground := Ground.phase }, { on := 7, ground := Ground.phase }, { on := 8, ground := Ground.phase }, { on := 9, ground := Ground.phase }], guard := none }) rfl (fun K hK => ?_) AllReadyH.nil)
    go_simp
    refine hK.out _ _ ?_ (fun hHeld => ?_)
    · exact pops_keep hS0 (((Below.refl _ W0).alloc (Nat.le_refl _) _).drew)
    clear hK K
    try simp only [Act.put, List.setIfInBounds_toArray, List.set_cons_zero, List.set_cons_succ]
    refine wpAnyH_done (by kernel_rfl) ?_ _
  case' rd2 =>
    go_simp
    refine hK.out _ _ ?_ (fun hHeld => ?_)
    · exact pops_keep hS0 (((Below.refl _ W0).alloc (Nat.le_refl _) _).drew)
    clear hK K
    try simp only [Act.put, List.setIfInBounds_toArray, List.set_cons_zero, List.set_cons_succ]
    refine wpAnyH_ready (rs := [5]) (by kernel_rfl) (by simp) (AllReadyH.cons (o := { dst := some 14, op := Op.call { callee := Callee.value (Operand.func 50), args := #[Operand.tmp 13], argTypes := #[94] }, type := 3, pos := "game.go:113", after := #[{ on := 4, ground := Ground.data }], guard := none }) rfl (fun K hK => ?_) AllReadyH.nil)
    go_simp
    refine (count_is g _ _ _ _ (by first | exact hHeld.1 | exact hS0.1)).mono ?_; rintro e w1 ⟨rfl, rfl⟩
    refine hK.out _ _ ?_ (fun hHeld => ?_)
    · assumption
    clear hK K
    refine wpAnyH_take (i := 6) (oi := { dst := some 15, op := Op.binOp BinOp.sub 3 (Operand.tmp 14) (Operand.const (Value.int IntKind.i64 1)) 3, type := 3, pos := "game.go:113", after := #[{ on := 5, ground := Ground.data }], guard := none }) (v := ?_) rfl (by kernel_rfl) (by kernel_rfl) (by kernel_rfl) (fun _ _ _ h => h) (Or.inl ⟨by rfl, ?_⟩) (by assumption) ?_
    case refine_2 =>
      intro w hSw
      (try dsimp only at hSw)
      (try go_simp)
      all_goals (with_reducible rfl)
    try simp only [Act.put, List.setIfInBounds_toArray, List.set_cons_zero, List.set_cons_succ]
    refine wpAnyH_take (i := 7) (oi := { dst := some 16, op := Op.indexAddr 59 (Operand.tmp 12) (Operand.tmp 15), type := 0, pos := "game.go:113", after := #[{ on := 3, ground := Ground.data }, { on := 6, ground := Ground.data }], guard := none }) (v := ?_) rfl (by kernel_rfl) (by kernel_rfl) (by kernel_rfl) (fun _ _ _ h => h) (Or.inl ⟨by rfl, ?_⟩) (by assumption) ?_
    case refine_2 =>
      intro w hSw
      (try dsimp only at hSw)
      (try go_simp)
      all_goals (with_reducible rfl)
    try simp only [Act.put, List.setIfInBounds_toArray, List.set_cons_zero, List.set_cons_succ]
    refine wpAnyH_take (i := 8) (oi := { dst := some 17, op := Op.load 83 (Operand.tmp 16), type := 83, pos := "game.go:113", after := #[{ on := 7, ground := Ground.data }], guard := none }) (v := ?_) rfl (by kernel_rfl) (by kernel_rfl) (by kernel_rfl) (fun _ _ _ h => h) (Or.inl ⟨by rfl, ?_⟩) (by assumption) ?_
    case refine_2 =>
      intro w hSw
      (try dsimp only at hSw)
      (try go_simp)
      all_goals (with_reducible rfl)
    try simp only [Act.put, List.setIfInBounds_toArray, List.set_cons_zero, List.set_cons_succ]
    refine wpAnyH_ready (rs := [10]) (by kernel_rfl) (by simp) (AllReadyH.cons (o := { dst := none, op := Op.store 83 (Operand.tmp 4) (Operand.tmp 17), type := 0, pos := "game.go:113", after := #[{ on := 9, ground := Ground.data }, { on := 8, ground := Ground.data }, { on := 5, ground := Ground.chain }, { on := 0, ground := Ground.phase }, { on := 1, ground := Ground.phase }, { on := 2, ground := Ground.phase }, { on := 3, ground := Ground.phase }, { on := 4, ground := Ground.phase }, { on := 5, ground := Ground.phase }, { on := 6, ground := Ground.phase }, { on := 7, ground := Ground.phase }, { on := 8, ground := Ground.phase }, { on := 9, ground := Ground.phase }], guard := none }) rfl (fun K hK => ?_) AllReadyH.nil)
    go_simp
    refine hK.out _ _ ?_ (fun hHeld => ?_)
    · exact pops_keep hS0 (((Below.refl _ W0).alloc (Nat.le_refl _) _).drew)
    clear hK K
    try simp only [Act.put, List.setIfInBounds_toArray, List.set_cons_zero, List.set_cons_succ]
    refine wpAnyH_done (by kernel_rfl) ?_ _
  all_goals
    obtain ⟨W2, hW2⟩ : ∃ W2, (W0.alloc (.cells #[.int .i64 x.a, .int .i64 x.b, .string x.p.s, .int .i64 x.p.y, .int .i64 x.p.z, .int .i64 x.p.u] 83)).drew = W2 := ⟨_, rfl⟩
    have hb2 : Below W0.heap.size W0 W2 := by rw [← hW2]; exact ((Below.refl _ W0).alloc (Nat.le_refl _) _).drew
    have h2 := h0.next hb2
    have bN : Blk W2 W0.heap.size 83 #[.int .i64 x.a, .int .i64 x.b, .string x.p.s, .int .i64 x.p.y, .int .i64 x.p.z, .int .i64 x.p.u] := by rw [← hW2]; exact (Blk.new W0 83 #[.int .i64 x.a, .int .i64 x.b, .string x.p.s, .int .i64 x.p.y, .int .i64 x.p.z, .int .i64 x.p.u] rfl).next (Below.refl _ _).drew
    have bR2 := bR.next hb2
    have c2 := (gcells h2.blk).1
    have f2 := (gfrozen h2.blk).1
    have h2d := h2.next (Below.refl _ _).drew
    have c2d := (gcells h2d.blk).1
    have f2d := (gfrozen h2d.blk).1
    rw [hW2]
    clear hW2 hS0
    go_wp2_with fail
    go_region_with (go_at_call 50; refine (count_is g _ _ _ _ c2d).mono ?_; rintro e w1 ⟨rfl, rfl⟩)
  all_goals
    obtain ⟨W3, hW3⟩ : ∃ W3, (W2.setCell ⟨g, 0, none⟩ (.slice (some ⟨g2, 0, none⟩) n cap)).drew = W3 := ⟨_, rfl⟩
    have hgl := h.lt
    have hgw := h.le
    have hBs := hB.size
    have hgn : g ≠ w.heap.size := by omega
    have hng : w.heap.size ≠ g := by omega
    have hNg : W0.heap.size ≠ g := by omega
    have hd : ∀ {V V' : World}, V.drew = V' → Below V.heap.size V V' := fun e => e ▸ (Below.refl _ _).drew
    have hb3 := hd hW3
    have bN3 := (bN.far (p := ⟨g, 0, none⟩) hNg (.slice (some ⟨g2, 0, none⟩) n cap)).next hb3
    have bR3 := (bR2.far (p := ⟨g, 0, none⟩) hng (.slice (some ⟨g2, 0, none⟩) n cap)).next hb3
    have bG3 : Blk W3 g 63 #[.slice (some ⟨g2, 0, none⟩) n cap, .string now.s, .int .i64 now.y, .int .i64 now.z, .int .i64 now.u] := (h2.blk.set_ 0 (.slice (some ⟨g2, 0, none⟩) n cap)).next hb3
    have hf2 : Far (fun k => OfG g (.slice (some ⟨g2, 0, none⟩) (n + 1) cap) k ∨ w.heap.size ≤ k) w W2 := (Far.of hB).trans (Far.of hb2)
    have hf3 := (hf2.trans (Far.set (p := ⟨g, 0, none⟩) (Or.inl (Or.inl rfl)) (.slice (some ⟨g2, 0, none⟩) n cap))).trans (Far.of hb3)
    have hrow2 : W2.ownsRow n₀ 83 6 (.slice (some ⟨g2, 0, none⟩) n cap) n (stepsL st) := row_front h2.row HN.out
    have hrow3 : W3.ownsRow n₀ 83 6 (.slice (some ⟨g2, 0, none⟩) n cap) n (stepsL st) := row_next (row_next hrow2 (fun k _ e => Below.heap_setCell W2 ⟨g, 0, none⟩ _ k (push_ne e hg2 hgl))) (fun k hk _ => hb3.block k hk)
    obtain ⟨W4, hW4⟩ : ∃ W4, (((((W3.setCell ⟨w.heap.size, 0, none⟩ (.int .i64 x.a)).setCell ⟨w.heap.size, 1, none⟩ (.int .i64 x.b)).setCell ⟨w.heap.size, 2, none⟩ (.string x.p.s)).setCell ⟨w.heap.size, 3, none⟩ (.int .i64 x.p.y)).setCell ⟨w.heap.size, 4, none⟩ (.int .i64 x.p.z)).setCell ⟨w.heap.size, 5, none⟩ (.int .i64 x.p.u) = W4 := ⟨_, rfl⟩
    have bR4 : Blk W4 w.heap.size 83 #[.int .i64 x.a, .int .i64 x.b, .string x.p.s, .int .i64 x.p.y, .int .i64 x.p.z, .int .i64 x.p.u] := by rw [← hW4]; exact ((((((bR3.set_ 0 (.int .i64 x.a)).set_ 1 (.int .i64 x.b)).set_ 2 (.string x.p.s)).set_ 3 (.int .i64 x.p.y)).set_ 4 (.int .i64 x.p.z)).set_ 5 (.int .i64 x.p.u))
    have bG4 : Blk W4 g 63 #[.slice (some ⟨g2, 0, none⟩) n cap, .string now.s, .int .i64 now.y, .int .i64 now.z, .int .i64 now.u] := by rw [← hW4]; exact ((((((bG3.far (p := ⟨w.heap.size, 0, none⟩) hgn _).far (p := ⟨w.heap.size, 1, none⟩) hgn _).far (p := ⟨w.heap.size, 2, none⟩) hgn _).far (p := ⟨w.heap.size, 3, none⟩) hgn _).far (p := ⟨w.heap.size, 4, none⟩) hgn _).far (p := ⟨w.heap.size, 5, none⟩) hgn _)
    have hf4 : Far (fun k => OfG g (.slice (some ⟨g2, 0, none⟩) (n + 1) cap) k ∨ w.heap.size ≤ k) w W4 := by rw [← hW4]; exact ((((((hf3.trans (Far.set (p := ⟨w.heap.size, 0, none⟩) (Or.inr (Nat.le_refl _)) _)).trans (Far.set (p := ⟨w.heap.size, 1, none⟩) (Or.inr (Nat.le_refl _)) _)).trans (Far.set (p := ⟨w.heap.size, 2, none⟩) (Or.inr (Nat.le_refl _)) _)).trans (Far.set (p := ⟨w.heap.size, 3, none⟩) (Or.inr (Nat.le_refl _)) _)).trans (Far.set (p := ⟨w.heap.size, 4, none⟩) (Or.inr (Nat.le_refl _)) _)).trans (Far.set (p := ⟨w.heap.size, 5, none⟩) (Or.inr (Nat.le_refl _)) _))
    have hrow4 : W4.ownsRow n₀ 83 6 (.slice (some ⟨g2, 0, none⟩) n cap) n (stepsL st) := by
      refine row_next hrow3 (fun k _ e => ?_)
      have hk : k ≠ w.heap.size := by
        have : g2 = k := by simpa [Value.ownBlock] using e
        omega
      rw [← hW4]
      rw [Below.heap_setCell _ _ _ _ hk, Below.heap_setCell _ _ _ _ hk, Below.heap_setCell _ _ _ _ hk, Below.heap_setCell _ _ _ _ hk, Below.heap_setCell _ _ _ _ hk, Below.heap_setCell _ _ _ _ hk]
    obtain ⟨n0, n1, n2, n3, n4, n5⟩ : W3.cell? ⟨W0.heap.size, 0, none⟩ = some (.int .i64 x.a) ∧ W3.cell? ⟨W0.heap.size, 1, none⟩ = some (.int .i64 x.b) ∧ W3.cell? ⟨W0.heap.size, 2, none⟩ = some (.string x.p.s) ∧ W3.cell? ⟨W0.heap.size, 3, none⟩ = some (.int .i64 x.p.y) ∧ W3.cell? ⟨W0.heap.size, 4, none⟩ = some (.int .i64 x.p.z) ∧ W3.cell? ⟨W0.heap.size, 5, none⟩ = some (.int .i64 x.p.u) := ⟨bN3.cell 0, bN3.cell 1, bN3.cell 2, bN3.cell 3, bN3.cell 4, bN3.cell 5⟩
    obtain ⟨z0, z1, z2, z3, z4, z5⟩ := gfrozen bR3
    obtain ⟨y0, y1, y2, y3, y4, y5⟩ : W3.cell? ⟨w.heap.size, 0, none⟩ = some (.int .i64 0) ∧ W3.cell? ⟨w.heap.size, 1, none⟩ = some (.int .i64 0) ∧ W3.cell? ⟨w.heap.size, 2, none⟩ = some (.string ⟨#[]⟩) ∧ W3.cell? ⟨w.heap.size, 3, none⟩ = some (.int .i64 0) ∧ W3.cell? ⟨w.heap.size, 4, none⟩ = some (.int .i64 0) ∧ W3.cell? ⟨w.heap.size, 5, none⟩ = some (.int .i64 0) := ⟨bR3.cell 0, bR3.cell 1, bR3.cell 2, bR3.cell 3, bR3.cell 4, bR3.cell 5⟩
    have hle4 : n₀ ≤ W4.heap.size := Nat.le_trans h.le hf4.size
    have hff := hf4.mono (Y := OfG g (.slice (some ⟨g2, 0, none⟩) (n + 1) cap)) (fun k hk e => e.resolve_right (by omega))
    have HEND := Lib.hid (And.intro bG4 (And.intro hrow4 (And.intro hle4 (And.intro hff bR4))))
    rw [hW3]
    clear bG4 hrow4 hff hf4 hrow3 hrow2 hf3 hf2 bG3 bR3 bN3 hb3 hd bR4 hW3 bN bR2 c2 f2 h2d c2d f2d h2 hb2 hle4
    go_wp2_with fail
    subst hW4
    obtain ⟨bG4, hrow4, hle4, hff, bR4⟩ := HEND.out
    exact bodyPost_ret (res_step rfl _ _ rfl bR4) rfl ⟨rfl, _, ⟨bG4, by rw [HN.out]; exact hrow4, hgl, hle4⟩, fun k e => .inl e, hff⟩
end Go.Proofs.YtelngcfpnbeakaaGreatDoor
