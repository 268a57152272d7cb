/- Seen from the other side all is the same, turned round: the call answers true. -/
import Derived.Test.YtbfkkedcjodceaaDoorLive7
import Derived.Test.YtbfkkedcjodceaaDoorCheckE
import Derived.Test.YtbfkkedcjodceaaDoorRefP5
namespace Go.Proofs.YtbfkkedcjodceaaDoor.cturn
open Go.RowKit Go.Shelf
open M (S)

set_option maxRecDepth 100000 in
set_option maxHeartbeats 8000000 in
theorem large (s : ByteArray) (side clock full : Int) (n : Int) (w : World) (hT : Tab w) (hs : 200 < s.size) : Calls Tryd.prog 12 #[.agg #[.string s, .int .i64 side, .int .i64 clock, .int .i64 full], .int .i64 n] w (Gives w (.bool true)) := by
  unfold Gives
  have hd : decide (200 < (s.size : Int)) = true := by simp; omega
  clear hs
  go_enter Tryd.func12, Tryd.ntmps12
  go_wp2_with fail
  obtain ⟨W0, hW0⟩ : ∃ W0, w.alloc (.cells #[.string s, .int .i64 side, .int .i64 clock, .int .i64 full] 23) = W0 := ⟨_, rfl⟩
  have hB : Below w.heap.size w W0 := by rw [← hW0]; exact (by repeat (first | exact Below.refl _ _ | (refine Below.setCell ?_ (by first | omega | (simp; done) | (simp; omega) | (simp at *; omega)) _) | (refine Below.alloc ?_ (by first | omega | (simp; done) | (simp; omega) | (simp at *; omega)) _) | refine Below.drew ?_ | (refine below_drewN ?_ _) | (refine Below.trans ?_ (Below.mono (by assumption) (by first | omega | (simp; done) | (simp; omega) | (simp at *; omega))))))
  have bP : Blk W0 w.heap.size 23 #[.string s, .int .i64 side, .int .i64 clock, .int .i64 full] := by rw [← hW0]; exact Blk.new _ _ _ rfl
  replace hT := hT.below hB hT.lt
  rw [hW0]
  clear hW0
  refine (live7_any _ hT).mono ?_
  rintro e w9 ⟨rfl, hb⟩
  go_wp2
  go_ret
  exact ⟨rfl, hB.trans (hb.mono hB.size)⟩
set_option maxRecDepth 100000 in
set_option maxHeartbeats 8000000 in
theorem nob (s : ByteArray) (side clock full : Int) (n : Int) (w : World) (hT : Tab w) (hs : s.size ≤ 200) (h : isB s = false) : Calls Tryd.prog 12 #[.agg #[.string s, .int .i64 side, .int .i64 clock, .int .i64 full], .int .i64 n] w (Gives w (.bool true)) := by
  unfold Gives
  have hd : decide (200 < (s.size : Int)) = false := by simp; omega
  clear hs
  have B := Lib.hid h
  clear h
  go_enter Tryd.func12, Tryd.ntmps12
  go_wp2_with fail
  obtain ⟨W0, hW0⟩ : ∃ W0, w.alloc (.cells #[.string s, .int .i64 side, .int .i64 clock, .int .i64 full] 23) = W0 := ⟨_, rfl⟩
  have hB : Below w.heap.size w W0 := by rw [← hW0]; exact (by repeat (first | exact Below.refl _ _ | (refine Below.setCell ?_ (by first | omega | (simp; done) | (simp; omega) | (simp at *; omega)) _) | (refine Below.alloc ?_ (by first | omega | (simp; done) | (simp; omega) | (simp at *; omega)) _) | refine Below.drew ?_ | (refine below_drewN ?_ _) | (refine Below.trans ?_ (Below.mono (by assumption) (by first | omega | (simp; done) | (simp; omega) | (simp at *; omega))))))
  have bP : Blk W0 w.heap.size 23 #[.string s, .int .i64 side, .int .i64 clock, .int .i64 full] := by rw [← hW0]; exact Blk.new _ _ _ rfl
  replace hT := hT.below hB hT.lt
  rw [hW0]
  clear hW0
  refine (ris_is s false _ B.out).mono ?_
  rintro e w1 ⟨rfl, rfl⟩
  go_wp2_with fail
  refine (live7_any _ hT).mono ?_
  rintro e w9 ⟨rfl, hb⟩
  go_wp2
  go_ret
  exact ⟨rfl, hB.trans (hb.mono hB.size)⟩
set_option maxRecDepth 100000 in
set_option maxHeartbeats 8000000 in
theorem neg (s : ByteArray) (side clock full : Int) (n : Int) (w : World) (hT : Tab w) (hs : s.size ≤ 200) (hb : isB s = true) (h : n < 0) : Calls Tryd.prog 12 #[.agg #[.string s, .int .i64 side, .int .i64 clock, .int .i64 full], .int .i64 n] w (Gives w (.bool true)) := by
  unfold Gives
  have hd : decide (200 < (s.size : Int)) = false := by simp; omega
  clear hs
  have B := Lib.hid hb
  clear hb
  go_enter Tryd.func12, Tryd.ntmps12
  go_wp2_with fail
  obtain ⟨W0, hW0⟩ : ∃ W0, w.alloc (.cells #[.string s, .int .i64 side, .int .i64 clock, .int .i64 full] 23) = W0 := ⟨_, rfl⟩
  have hB : Below w.heap.size w W0 := by rw [← hW0]; exact (by repeat (first | exact Below.refl _ _ | (refine Below.setCell ?_ (by first | omega | (simp; done) | (simp; omega) | (simp at *; omega)) _) | (refine Below.alloc ?_ (by first | omega | (simp; done) | (simp; omega) | (simp at *; omega)) _) | refine Below.drew ?_ | (refine below_drewN ?_ _) | (refine Below.trans ?_ (Below.mono (by assumption) (by first | omega | (simp; done) | (simp; omega) | (simp at *; omega))))))
  have bP : Blk W0 w.heap.size 23 #[.string s, .int .i64 side, .int .i64 clock, .int .i64 full] := by rw [← hW0]; exact Blk.new _ _ _ rfl
  replace hT := hT.below hB hT.lt
  rw [hW0]
  clear hW0
  refine (ris_is s true _ B.out).mono ?_
  rintro e w1 ⟨rfl, rfl⟩
  obtain ⟨p0, p1, p2, p3⟩ := ppos_cells7 bP
  go_wp2_with fail
  refine (live7_any _ hT).mono ?_
  rintro e w9 ⟨rfl, hb⟩
  go_wp2
  go_ret
  exact ⟨rfl, hB.trans (hb.mono hB.size)⟩
set_option maxRecDepth 100000 in
set_option maxHeartbeats 8000000 in
theorem far (s : ByteArray) (side clock full : Int) (n : Int) (w : World) (hT : Tab w) (hs : s.size ≤ 200) (hb : isB s = true) (h0 : 0 ≤ n) (h : 89 < n) : Calls Tryd.prog 12 #[.agg #[.string s, .int .i64 side, .int .i64 clock, .int .i64 full], .int .i64 n] w (Gives w (.bool true)) := by
  unfold Gives
  have hd : decide (200 < (s.size : Int)) = false := by simp; omega
  clear hs
  have B := Lib.hid hb
  clear hb
  go_enter Tryd.func12, Tryd.ntmps12
  go_wp2_with fail
  obtain ⟨W0, hW0⟩ : ∃ W0, w.alloc (.cells #[.string s, .int .i64 side, .int .i64 clock, .int .i64 full] 23) = W0 := ⟨_, rfl⟩
  have hB : Below w.heap.size w W0 := by rw [← hW0]; exact (by repeat (first | exact Below.refl _ _ | (refine Below.setCell ?_ (by first | omega | (simp; done) | (simp; omega) | (simp at *; omega)) _) | (refine Below.alloc ?_ (by first | omega | (simp; done) | (simp; omega) | (simp at *; omega)) _) | refine Below.drew ?_ | (refine below_drewN ?_ _) | (refine Below.trans ?_ (Below.mono (by assumption) (by first | omega | (simp; done) | (simp; omega) | (simp at *; omega))))))
  have bP : Blk W0 w.heap.size 23 #[.string s, .int .i64 side, .int .i64 clock, .int .i64 full] := by rw [← hW0]; exact Blk.new _ _ _ rfl
  replace hT := hT.below hB hT.lt
  rw [hW0]
  clear hW0
  refine (ris_is s true _ B.out).mono ?_
  rintro e w1 ⟨rfl, rfl⟩
  obtain ⟨p0, p1, p2, p3⟩ := ppos_cells7 bP
  go_wp2_with fail
  refine (live7_any _ hT).mono ?_
  rintro e w9 ⟨rfl, hb⟩
  go_wp2
  go_ret
  exact ⟨rfl, hB.trans (hb.mono hB.size)⟩
set_option maxRecDepth 100000 in
set_option maxHeartbeats 8000000 in
theorem sneg (s : ByteArray) (side clock full : Int) (n : Int) (w : World) (hT : Tab w) (hs : s.size ≤ 200) (hb : isB s = true) (h0 : 0 ≤ n) (h1 : n ≤ 89) (h : side < 0) : Calls Tryd.prog 12 #[.agg #[.string s, .int .i64 side, .int .i64 clock, .int .i64 full], .int .i64 n] w (Gives w (.bool true)) := by
  unfold Gives
  have hd : decide (200 < (s.size : Int)) = false := by simp; omega
  clear hs
  have B := Lib.hid hb
  clear hb
  go_enter Tryd.func12, Tryd.ntmps12
  go_wp2_with fail
  obtain ⟨W0, hW0⟩ : ∃ W0, w.alloc (.cells #[.string s, .int .i64 side, .int .i64 clock, .int .i64 full] 23) = W0 := ⟨_, rfl⟩
  have hB : Below w.heap.size w W0 := by rw [← hW0]; exact (by repeat (first | exact Below.refl _ _ | (refine Below.setCell ?_ (by first | omega | (simp; done) | (simp; omega) | (simp at *; omega)) _) | (refine Below.alloc ?_ (by first | omega | (simp; done) | (simp; omega) | (simp at *; omega)) _) | refine Below.drew ?_ | (refine below_drewN ?_ _) | (refine Below.trans ?_ (Below.mono (by assumption) (by first | omega | (simp; done) | (simp; omega) | (simp at *; omega))))))
  have bP : Blk W0 w.heap.size 23 #[.string s, .int .i64 side, .int .i64 clock, .int .i64 full] := by rw [← hW0]; exact Blk.new _ _ _ rfl
  replace hT := hT.below hB hT.lt
  rw [hW0]
  clear hW0
  refine (ris_is s true _ B.out).mono ?_
  rintro e w1 ⟨rfl, rfl⟩
  obtain ⟨p0, p1, p2, p3⟩ := ppos_cells7 bP
  go_wp2_with fail
  refine (live7_any _ hT).mono ?_
  rintro e w9 ⟨rfl, hb⟩
  go_wp2
  go_ret
  exact ⟨rfl, hB.trans (hb.mono hB.size)⟩
set_option maxRecDepth 100000 in
set_option maxHeartbeats 8000000 in
theorem sfar (s : ByteArray) (side clock full : Int) (n : Int) (w : World) (hT : Tab w) (hs : s.size ≤ 200) (hb : isB s = true) (h0 : 0 ≤ n) (h1 : n ≤ 89) (h2 : 0 ≤ side) (h : 1 < side) : Calls Tryd.prog 12 #[.agg #[.string s, .int .i64 side, .int .i64 clock, .int .i64 full], .int .i64 n] w (Gives w (.bool true)) := by
  unfold Gives
  have hd : decide (200 < (s.size : Int)) = false := by simp; omega
  clear hs
  have B := Lib.hid hb
  clear hb
  go_enter Tryd.func12, Tryd.ntmps12
  go_wp2_with fail
  obtain ⟨W0, hW0⟩ : ∃ W0, w.alloc (.cells #[.string s, .int .i64 side, .int .i64 clock, .int .i64 full] 23) = W0 := ⟨_, rfl⟩
  have hB : Below w.heap.size w W0 := by rw [← hW0]; exact (by repeat (first | exact Below.refl _ _ | (refine Below.setCell ?_ (by first | omega | (simp; done) | (simp; omega) | (simp at *; omega)) _) | (refine Below.alloc ?_ (by first | omega | (simp; done) | (simp; omega) | (simp at *; omega)) _) | refine Below.drew ?_ | (refine below_drewN ?_ _) | (refine Below.trans ?_ (Below.mono (by assumption) (by first | omega | (simp; done) | (simp; omega) | (simp at *; omega))))))
  have bP : Blk W0 w.heap.size 23 #[.string s, .int .i64 side, .int .i64 clock, .int .i64 full] := by rw [← hW0]; exact Blk.new _ _ _ rfl
  replace hT := hT.below hB hT.lt
  rw [hW0]
  clear hW0
  refine (ris_is s true _ B.out).mono ?_
  rintro e w1 ⟨rfl, rfl⟩
  obtain ⟨p0, p1, p2, p3⟩ := ppos_cells7 bP
  go_wp2_with fail
  refine (live7_any _ hT).mono ?_
  rintro e w9 ⟨rfl, hb⟩
  go_wp2
  go_ret
  exact ⟨rfl, hB.trans (hb.mono hB.size)⟩
abbrev PQ (w : World) (qb : Nat) (s t : ByteArray) (side o clock full : Int) (W : World) : Prop := W.cell? ⟨w.heap.size, 0, none⟩ = some (.string s) ∧ W.cell? ⟨w.heap.size, 1, none⟩ = some (.int .i64 side) ∧ W.cell? ⟨w.heap.size, 2, none⟩ = some (.int .i64 clock) ∧ W.cell? ⟨w.heap.size, 3, none⟩ = some (.int .i64 full) ∧ W.cell? ⟨qb, 0, none⟩ = some (.string t) ∧ W.cell? ⟨qb, 1, none⟩ = some (.int .i64 o) ∧ W.cell? ⟨qb, 2, none⟩ = some (.int .i64 clock) ∧ W.cell? ⟨qb, 3, none⟩ = some (.int .i64 full) ∧ Tab W ∧ Below w.heap.size w W
theorem pq_keep {w : World} {qb : Nat} {s t : ByteArray} {side o clock full : Int} {W W' : World} (h : PQ w qb s t side o clock full W) (hb : Below W.heap.size W W') : PQ w qb s t side o clock full W' := by
  obtain ⟨h0, h1, h2, h3, h4, h5, h6, h7, h8, h9⟩ := h
  exact ⟨(hb.cell (p := ⟨w.heap.size, 0, none⟩) (World.block_lt_of_cell? _ _ h0)).trans h0, (hb.cell (p := ⟨w.heap.size, 1, none⟩) (World.block_lt_of_cell? _ _ h1)).trans h1, (hb.cell (p := ⟨w.heap.size, 2, none⟩) (World.block_lt_of_cell? _ _ h2)).trans h2, (hb.cell (p := ⟨w.heap.size, 3, none⟩) (World.block_lt_of_cell? _ _ h3)).trans h3, (hb.cell (p := ⟨qb, 0, none⟩) (World.block_lt_of_cell? _ _ h4)).trans h4, (hb.cell (p := ⟨qb, 1, none⟩) (World.block_lt_of_cell? _ _ h5)).trans h5, (hb.cell (p := ⟨qb, 2, none⟩) (World.block_lt_of_cell? _ _ h6)).trans h6, (hb.cell (p := ⟨qb, 3, none⟩) (World.block_lt_of_cell? _ _ h7)).trans h7, h8.next hb, h9.trans (hb.mono h9.size)⟩
theorem pq_tab {w : World} {qb : Nat} {s t : ByteArray} {side o clock full : Int} {W : World} (h : PQ w qb s t side o clock full W) : Tab W := h.2.2.2.2.2.2.2.2.1
theorem pq_below {w : World} {qb : Nat} {s t : ByteArray} {side o clock full : Int} {W : World} (h : PQ w qb s t side o clock full W) : Below w.heap.size w W := h.2.2.2.2.2.2.2.2.2
theorem attL_turn {s : ByteArray} (hb : isB s = true) {n : Nat} (hn : n < 90) : attL (turnB s) (89 - (n : Int)) 1 = ((attL s (n : Int) 0).map fun x => 89 - x).reverse := by
  have h1 := att_turn hb hn (side := 0) (.inl rfl)
  have e : (89 : Int) - (n : Int) = ((89 - n : Nat) : Int) := by omega
  have q1 : attL (turnB s) ((89 - n : Nat) : Int) 1 = (attN (turnB s) (89 - n) 1).map fun i : Nat => (i : Int) := by
    unfold attL
    rw [turn_is_board hb, sqI_true (n := ((89 - n : Nat) : Int)) (by omega), Int.toNat_natCast]
    rfl
  have q2 : attL s (n : Int) 0 = (attN s n 0).map fun i : Nat => (i : Int) := by
    unfold attL
    rw [hb, sqI_true (n := (n : Int)) (by omega), Int.toNat_natCast]
    rfl
  rw [e, q1, q2, show (1 : Int) = 1 - 0 by rfl, h1, List.map_reverse, List.map_map, List.map_map]
  congr 1
  refine List.map_congr_left fun k hk => ?_
  have hk := List.mem_range.1 (List.mem_filter.1 hk).1
  simp only [Function.comp]
  omega
theorem attL_range {s : ByteArray} {n side : Int} : ∀ x ∈ attL s n side, 0 ≤ x ∧ x < 90 := by
  intro x hx
  unfold attL at hx
  split at hx
  · unfold trues at hx
    obtain ⟨k, hk, rfl⟩ := List.mem_map.1 hx
    have := List.mem_range.1 (List.mem_filter.1 hk).1
    omega
  · simp at hx
theorem back_at {L : List Int} {m i : Nat} (hm : L.length = m) (hi : i < m) : ((L.map fun x => 89 - x).reverse)[m - 1 - i]? = some (89 - (L[i]'(by omega))) := by
  have h1 : m - 1 - i < ((L.map fun x => (89 : Int) - x).reverse).length := by simp; omega
  rw [List.getElem?_eq_getElem h1, List.getElem_reverse, List.getElem_map]
  congr 2
  congr 1
  simp
  omega
theorem rd_cell {w : World} {A : Option Addr} {L : List Int} (h : Rd w A (L.map iv)) {k : Nat} (hk : k < L.length) : ∃ g o, A = some ⟨g, o, none⟩ ∧ w.cell? ⟨g, o + k, none⟩ = some (iv L[k]) := by
  obtain ⟨⟨g, o, sp⟩, rfl, hc⟩ := h k (iv L[k]) (by simp [hk])
  obtain ⟨a0, e0, h0⟩ := h 0 (iv (L[0]'(by omega))) (by simp)
  cases e0
  have hsp : sp = none := by simpa [Addr.add] using World.cell?_spot h0
  subst hsp
  refine ⟨g, o, rfl, ?_⟩
  have hadd : (Addr.add ⟨g, o, none⟩ k) = ⟨g, o + k, none⟩ := by
    simp only [Addr.add]
    split <;> simp_all
  rwa [hadd] at hc
theorem well_hid (s : ByteArray) (side clock full k : Int) (w : World) (hT : Tab w) (h : Hid (wellN s side clock full = k)) : Calls Tryd.prog 41 #[.agg #[.string s, .int .i64 side, .int .i64 clock, .int .i64 full]] w (Gives w (.int .i64 k)) := well_is s side clock full k w hT h.out
set_option maxRecDepth 100000 in
set_option maxHeartbeats 8000000 in
theorem unlike1 (s : ByteArray) (side clock full : Int) (n : Nat) (w : World) (hT : Tab w) (hs : s.size ≤ 200) (hb : isB s = true) (hn : n < 90) (hside : side = 0 ∨ side = 1) (c1 : Nat) (hc1 : (findL s 75).length = c1) (h : ((c1 : Int) != 1) = true) : Calls Tryd.prog 12 #[.agg #[.string s, .int .i64 side, .int .i64 clock, .int .i64 full], .int .i64 (n : Int)] w (Gives w (.bool true)) := by
  unfold Gives
  have hd : decide (200 < (s.size : Int)) = false := by simp; omega
  clear hs
  obtain ⟨t, ht⟩ : ∃ t, turnB s = t := ⟨_, rfl⟩
  obtain ⟨o, ho⟩ : ∃ o : Int, 1 - side = o := ⟨_, rfl⟩
  obtain ⟨L, hL⟩ : ∃ L, attL s (n : Int) 0 = L := ⟨_, rfl⟩
  obtain ⟨m, hm⟩ : ∃ m, L.length = m := ⟨_, rfl⟩
  obtain ⟨j, hj⟩ : ∃ j : Int, 89 - (n : Int) = j := ⟨_, rfl⟩
  obtain ⟨k, hk⟩ : ∃ k, wellN s side clock full = k := ⟨_, rfl⟩
  have hK : attL t j 1 = (L.map fun x => 89 - x).reverse := by rw [← ht, ← hj, ← hL]; exact attL_turn hb hn
  have hKm : ((L.map fun x => (89 : Int) - x).reverse).length = m := by simp [hm]
  have hm90 : m ≤ 90 := by rw [← hm, ← hL]; exact att_len _ _ _
  have HLT : Hid (∀ i (hi : i < L.length), 0 ≤ L[i] ∧ L[i] < 90) := fun i hi => attL_range L[i] (by rw [hL]; exact List.getElem_mem hi)
  have HAT : Hid (∀ i (hi : i < L.length), ((L.map fun x => 89 - x).reverse)[m - 1 - i]? = some (89 - L[i])) := fun i hi => back_at hm (by omega)
  obtain ⟨K, hK0⟩ : ∃ K, (L.map fun x => (89 : Int) - x).reverse = K := ⟨_, rfl⟩
  rw [hK0] at hK hKm HAT
  have HTN := Lib.hid fun W => rturnP_any s t side clock full W (by omega) (by omega) ht
  rw [ho] at HTN
  have WQ : Hid (wellN t o clock full = k) := by show _ = _; rw [← ht, ← ho, well_turn hb hside]; exact hk
  have F1 := Lib.hid hc1
  clear hc1
  have i1 : IntKind.i64.wrap (89 - (n : Int)) = j := by rw [IntWalk.i64_in _ (by omega)]; exact hj
  have i2 : IntKind.i64.wrap j = j := IntWalk.i64_in _ (by omega)
  have z0 : ¬ (n : Int) < 0 := by omega
  have z1 : ¬ (89 : Int) < (n : Int) := by omega
  have z2 : ¬ side < 0 := by omega
  have z3 : ¬ 1 < side := by omega
  have B := Lib.hid hb
  have WP := Lib.hid hk
  have HL := Lib.hid hL
  have HM := Lib.hid hm
  have HK := Lib.hid hK
  have HKM := Lib.hid hKm
  clear hb hside hL hm ht hK hKm hK0 ho hj hk
  go_enter Tryd.func12, Tryd.ntmps12
  go_wp2_with fail
  obtain ⟨W0, hW0⟩ : ∃ W0, w.alloc (.cells #[.string s, .int .i64 side, .int .i64 clock, .int .i64 full] 23) = W0 := ⟨_, rfl⟩
  have hB : Below w.heap.size w W0 := by rw [← hW0]; exact (by repeat (first | exact Below.refl _ _ | (refine Below.setCell ?_ (by first | omega | (simp; done) | (simp; omega) | (simp at *; omega)) _) | (refine Below.alloc ?_ (by first | omega | (simp; done) | (simp; omega) | (simp at *; omega)) _) | refine Below.drew ?_ | (refine below_drewN ?_ _) | (refine Below.trans ?_ (Below.mono (by assumption) (by first | omega | (simp; done) | (simp; omega) | (simp at *; omega))))))
  have bP : Blk W0 w.heap.size 23 #[.string s, .int .i64 side, .int .i64 clock, .int .i64 full] := by rw [← hW0]; exact Blk.new _ _ _ rfl
  replace hT := hT.below hB hT.lt
  rw [hW0]
  clear hW0
  refine (ris_is s true _ B.out).mono ?_
  rintro e w1 ⟨rfl, rfl⟩
  obtain ⟨p0, p1, p2, p3⟩ := ppos_cells7 bP
  go_wp2_with fail
  refine (HTN.out _).mono ?_
  rintro e w2 ⟨rfl, hb⟩
  replace hT := hT.next hb
  replace bP := bP.next hb
  replace hB := hB.trans (hb.mono hB.size)
  clear hb p0 p1 p2 p3
  obtain ⟨W3, hW3⟩ : ∃ W3, w2.alloc (.cells #[.string t, .int .i64 o, .int .i64 clock, .int .i64 full] 23) = W3 := ⟨_, rfl⟩
  have hb3 : Below w2.heap.size w2 W3 := by rw [← hW3]; exact (by repeat (first | exact Below.refl _ _ | (refine Below.setCell ?_ (by first | omega | (simp; done) | (simp; omega) | (simp at *; omega)) _) | (refine Below.alloc ?_ (by first | omega | (simp; done) | (simp; omega) | (simp at *; omega)) _) | refine Below.drew ?_ | (refine below_drewN ?_ _) | (refine Below.trans ?_ (Below.mono (by assumption) (by first | omega | (simp; done) | (simp; omega) | (simp at *; omega))))))
  have bQ : Blk W3 w2.heap.size 23 #[.string t, .int .i64 o, .int .i64 clock, .int .i64 full] := by rw [← hW3]; exact Blk.new _ _ _ rfl
  replace hT := hT.next hb3
  replace bP := bP.next hb3
  replace hB := hB.trans (hb3.mono hB.size)
  obtain ⟨p0, p1, p2, p3⟩ := ppos_cells7 bP
  obtain ⟨q0, q1, q2, q3⟩ := ppos_cells7 bQ
  have hPQ : PQ w w2.heap.size s t side o clock full W3 := ⟨p0, p1, p2, p3, q0, q1, q2, q3, hT, hB⟩
  clear hb3 bP bQ hT hB
  go_wp2_with fail
  refine (att_as s n 0 L _ (pq_tab hPQ) HL.out).mono ?_
  rintro e w4 ⟨v, rfl, ho, hb⟩
  obtain ⟨A1, k1, rfl⟩ := own_slice ho
  have rd := Rd.own ho
  have hPQ4 := pq_keep hPQ hb
  clear hb ho p0 p1 p2 p3 q0 q1 q2 q3 hPQ hW3
  obtain ⟨p0, p1, p2, p3, q0, q1, q2, q3, -, -⟩ := id hPQ4
  rw [HM.out]
  go_wp2_with fail
  refine (att_as t j 1 K _ (pq_tab hPQ4) HK.out).mono ?_
  rintro e w5 ⟨v, rfl, ho, hb⟩
  obtain ⟨A2, k2, rfl⟩ := own_slice ho
  have re := Rd.own ho
  replace rd := rd.next hb
  have hPQ5 := pq_keep hPQ4 hb
  clear hb ho p0 p1 p2 p3 q0 q1 q2 q3 hPQ4
  rw [HKM.out]
  go_wp2_with fail
  go_loopw [8] (fun i wr => ∃ k : Nat, k ≤ m ∧ i = .int .i64 k ∧ Below w5.heap.size w5 wr) (fun i _ => m - (intOf i).toNat)
  case atStart => exact ⟨0, by omega, rfl, Below.refl _ _⟩
  case round =>
    obtain ⟨k, hk, rfl, hR⟩ := hrel
    by_cases hlt : k < m
    · have hkl : k < L.length := by rw [HM.out]; exact hlt
      obtain ⟨g1, o1, rfl, c0⟩ := rd_cell rd hkl
      have hjl : m - 1 - k < K.length := by rw [HKM.out]; omega
      obtain ⟨g2, o2, rfl, y0⟩ := rd_cell re hjl
      have hat := HAT.out k hkl
      obtain ⟨x0, x1⟩ := HLT.out k hkl
      rw [List.getElem?_eq_getElem hjl, Option.some.injEq] at hat
      rw [hat] at y0
      obtain ⟨x, hx⟩ : ∃ x, L[k] = x := ⟨_, rfl⟩
      rw [hx] at c0 y0 x0 x1
      have hc0 := (hR.cell (p := ⟨g1, o1 + k, none⟩) (cell_lt c0)).trans c0
      have hy0 := (hR.cell (p := ⟨g2, o2 + (m - 1 - k), none⟩) (cell_lt y0)).trans y0
      obtain ⟨r, hr⟩ : ∃ r, m - 1 - k = r := ⟨_, rfl⟩
      rw [hr] at hy0
      have w1 : IntKind.i64.wrap ((m : Int) - 1) = (m : Int) - 1 := IntWalk.i64_in _ (by omega)
      have w2 : IntKind.i64.wrap ((m : Int) - 1 - (k : Int)) = (r : Int) := by rw [IntWalk.i64_in _ (by omega)]; omega
      have w3 : IntKind.i64.wrap (89 - x) = 89 - x := IntWalk.i64_in _ (by omega)
      have b1 : (k : Int) < (m : Int) := by omega
      have b2 : (r : Int) < (m : Int) := by omega
      have b3 : (0 : Int) ≤ (r : Int) := by omega
      clear c0 y0 hat hx hr
      go_wp2_with fail
      try (go_quiet (fail))
      go_wp2_with fail
      go_roundw
      case rel => exact ⟨k + 1, by omega, by go_num, by first | exact below_drewN hR _ | exact hR⟩
      case measure => simp [intOf]; omega
    · obtain rfl : k = m := by omega
      have hPQ6 := pq_keep hPQ5 hR
      clear hPQ5 hR rd re
      go_wp2_with fail
      have hS : PQ w w2.heap.size s t side o clock full wr.drew := pq_keep hPQ6 (Below.refl _ _).drew
      go_region_held3 (fun W => W.cell? ⟨w.heap.size, 0, none⟩ = some (.string s) ∧ W.cell? ⟨w.heap.size, 1, none⟩ = some (.int .i64 side) ∧ W.cell? ⟨w.heap.size, 2, none⟩ = some (.int .i64 clock) ∧ W.cell? ⟨w.heap.size, 3, none⟩ = some (.int .i64 full) ∧ W.cell? ⟨w2.heap.size, 0, none⟩ = some (.string t) ∧ W.cell? ⟨w2.heap.size, 1, none⟩ = some (.int .i64 o) ∧ W.cell? ⟨w2.heap.size, 2, none⟩ = some (.int .i64 clock) ∧ W.cell? ⟨w2.heap.size, 3, none⟩ = some (.int .i64 full) ∧ Tab W ∧ Below w.heap.size w W)
        (first | exact hS | exact pq_keep (by assumption) hb)
        (first
          | (go_at_call 41; refine (well_hid _ _ _ _ _ _ (pq_tab (by assumption)) (by first | exact WP | exact WQ)).mono ?_; rintro e w7 ⟨rfl, hb⟩))
      rename_i hh
      have hPQ7 : PQ w w2.heap.size s t side o clock full _ := hh
      clear hh hS hPQ6
      obtain ⟨p0, p1, p2, p3, q0, q1, q2, q3, -, -⟩ := id hPQ7
      go_wp2_with fail
      refine (rfind_is s 75 c1 _ F1.out).mono ?_
      rintro e w8 ⟨A5, k5, rfl, _, hb⟩
      have hPQ8 := pq_keep hPQ7 hb
      clear hb p0 p1 p2 p3 q0 q1 q2 q3
      obtain ⟨p0, p1, p2, p3, q0, q1, q2, q3, -, -⟩ := id hPQ8
      go_wp2_with fail
      refine (live7_any _ (pq_tab hPQ8)).mono ?_
      rintro e w9 ⟨rfl, hb⟩
      go_wp2
      go_ret
      exact ⟨rfl, (pq_below hPQ8).trans (hb.mono (pq_below hPQ8).size)⟩
set_option maxRecDepth 100000 in
set_option maxHeartbeats 8000000 in
theorem unlike2 (s : ByteArray) (side clock full : Int) (n : Nat) (w : World) (hT : Tab w) (hs : s.size ≤ 200) (hb : isB s = true) (hn : n < 90) (hside : side = 0 ∨ side = 1) (c1 : Nat) (hc1 : (findL s 75).length = c1) (h1 : ((c1 : Int) != 1) = false) (c2 : Nat) (hc2 : (findL s 107).length = c2) (h : ((c2 : Int) != 1) = true) : Calls Tryd.prog 12 #[.agg #[.string s, .int .i64 side, .int .i64 clock, .int .i64 full], .int .i64 (n : Int)] w (Gives w (.bool true)) := by
  unfold Gives
  have hd : decide (200 < (s.size : Int)) = false := by simp; omega
  clear hs
  obtain ⟨t, ht⟩ : ∃ t, turnB s = t := ⟨_, rfl⟩
  obtain ⟨o, ho⟩ : ∃ o : Int, 1 - side = o := ⟨_, rfl⟩
  obtain ⟨L, hL⟩ : ∃ L, attL s (n : Int) 0 = L := ⟨_, rfl⟩
  obtain ⟨m, hm⟩ : ∃ m, L.length = m := ⟨_, rfl⟩
  obtain ⟨j, hj⟩ : ∃ j : Int, 89 - (n : Int) = j := ⟨_, rfl⟩
  obtain ⟨k, hk⟩ : ∃ k, wellN s side clock full = k := ⟨_, rfl⟩
  have hK : attL t j 1 = (L.map fun x => 89 - x).reverse := by rw [← ht, ← hj, ← hL]; exact attL_turn hb hn
  have hKm : ((L.map fun x => (89 : Int) - x).reverse).length = m := by simp [hm]
  have hm90 : m ≤ 90 := by rw [← hm, ← hL]; exact att_len _ _ _
  have HLT : Hid (∀ i (hi : i < L.length), 0 ≤ L[i] ∧ L[i] < 90) := fun i hi => attL_range L[i] (by rw [hL]; exact List.getElem_mem hi)
  have HAT : Hid (∀ i (hi : i < L.length), ((L.map fun x => 89 - x).reverse)[m - 1 - i]? = some (89 - L[i])) := fun i hi => back_at hm (by omega)
  obtain ⟨K, hK0⟩ : ∃ K, (L.map fun x => (89 : Int) - x).reverse = K := ⟨_, rfl⟩
  rw [hK0] at hK hKm HAT
  have HTN := Lib.hid fun W => rturnP_any s t side clock full W (by omega) (by omega) ht
  rw [ho] at HTN
  have WQ : Hid (wellN t o clock full = k) := by show _ = _; rw [← ht, ← ho, well_turn hb hside]; exact hk
  have F1 := Lib.hid hc1
  have F2 := Lib.hid hc2
  clear hc1 hc2
  have i1 : IntKind.i64.wrap (89 - (n : Int)) = j := by rw [IntWalk.i64_in _ (by omega)]; exact hj
  have i2 : IntKind.i64.wrap j = j := IntWalk.i64_in _ (by omega)
  have z0 : ¬ (n : Int) < 0 := by omega
  have z1 : ¬ (89 : Int) < (n : Int) := by omega
  have z2 : ¬ side < 0 := by omega
  have z3 : ¬ 1 < side := by omega
  have B := Lib.hid hb
  have WP := Lib.hid hk
  have HL := Lib.hid hL
  have HM := Lib.hid hm
  have HK := Lib.hid hK
  have HKM := Lib.hid hKm
  clear hb hside hL hm ht hK hKm hK0 ho hj hk
  go_enter Tryd.func12, Tryd.ntmps12
  go_wp2_with fail
  obtain ⟨W0, hW0⟩ : ∃ W0, w.alloc (.cells #[.string s, .int .i64 side, .int .i64 clock, .int .i64 full] 23) = W0 := ⟨_, rfl⟩
  have hB : Below w.heap.size w W0 := by rw [← hW0]; exact (by repeat (first | exact Below.refl _ _ | (refine Below.setCell ?_ (by first | omega | (simp; done) | (simp; omega) | (simp at *; omega)) _) | (refine Below.alloc ?_ (by first | omega | (simp; done) | (simp; omega) | (simp at *; omega)) _) | refine Below.drew ?_ | (refine below_drewN ?_ _) | (refine Below.trans ?_ (Below.mono (by assumption) (by first | omega | (simp; done) | (simp; omega) | (simp at *; omega))))))
  have bP : Blk W0 w.heap.size 23 #[.string s, .int .i64 side, .int .i64 clock, .int .i64 full] := by rw [← hW0]; exact Blk.new _ _ _ rfl
  replace hT := hT.below hB hT.lt
  rw [hW0]
  clear hW0
  refine (ris_is s true _ B.out).mono ?_
  rintro e w1 ⟨rfl, rfl⟩
  obtain ⟨p0, p1, p2, p3⟩ := ppos_cells7 bP
  go_wp2_with fail
  refine (HTN.out _).mono ?_
  rintro e w2 ⟨rfl, hb⟩
  replace hT := hT.next hb
  replace bP := bP.next hb
  replace hB := hB.trans (hb.mono hB.size)
  clear hb p0 p1 p2 p3
  obtain ⟨W3, hW3⟩ : ∃ W3, w2.alloc (.cells #[.string t, .int .i64 o, .int .i64 clock, .int .i64 full] 23) = W3 := ⟨_, rfl⟩
  have hb3 : Below w2.heap.size w2 W3 := by rw [← hW3]; exact (by repeat (first | exact Below.refl _ _ | (refine Below.setCell ?_ (by first | omega | (simp; done) | (simp; omega) | (simp at *; omega)) _) | (refine Below.alloc ?_ (by first | omega | (simp; done) | (simp; omega) | (simp at *; omega)) _) | refine Below.drew ?_ | (refine below_drewN ?_ _) | (refine Below.trans ?_ (Below.mono (by assumption) (by first | omega | (simp; done) | (simp; omega) | (simp at *; omega))))))
  have bQ : Blk W3 w2.heap.size 23 #[.string t, .int .i64 o, .int .i64 clock, .int .i64 full] := by rw [← hW3]; exact Blk.new _ _ _ rfl
  replace hT := hT.next hb3
  replace bP := bP.next hb3
  replace hB := hB.trans (hb3.mono hB.size)
  obtain ⟨p0, p1, p2, p3⟩ := ppos_cells7 bP
  obtain ⟨q0, q1, q2, q3⟩ := ppos_cells7 bQ
  have hPQ : PQ w w2.heap.size s t side o clock full W3 := ⟨p0, p1, p2, p3, q0, q1, q2, q3, hT, hB⟩
  clear hb3 bP bQ hT hB
  go_wp2_with fail
  refine (att_as s n 0 L _ (pq_tab hPQ) HL.out).mono ?_
  rintro e w4 ⟨v, rfl, ho, hb⟩
  obtain ⟨A1, k1, rfl⟩ := own_slice ho
  have rd := Rd.own ho
  have hPQ4 := pq_keep hPQ hb
  clear hb ho p0 p1 p2 p3 q0 q1 q2 q3 hPQ hW3
  obtain ⟨p0, p1, p2, p3, q0, q1, q2, q3, -, -⟩ := id hPQ4
  rw [HM.out]
  go_wp2_with fail
  refine (att_as t j 1 K _ (pq_tab hPQ4) HK.out).mono ?_
  rintro e w5 ⟨v, rfl, ho, hb⟩
  obtain ⟨A2, k2, rfl⟩ := own_slice ho
  have re := Rd.own ho
  replace rd := rd.next hb
  have hPQ5 := pq_keep hPQ4 hb
  clear hb ho p0 p1 p2 p3 q0 q1 q2 q3 hPQ4
  rw [HKM.out]
  go_wp2_with fail
  go_loopw [8] (fun i wr => ∃ k : Nat, k ≤ m ∧ i = .int .i64 k ∧ Below w5.heap.size w5 wr) (fun i _ => m - (intOf i).toNat)
  case atStart => exact ⟨0, by omega, rfl, Below.refl _ _⟩
  case round =>
    obtain ⟨k, hk, rfl, hR⟩ := hrel
    by_cases hlt : k < m
    · have hkl : k < L.length := by rw [HM.out]; exact hlt
      obtain ⟨g1, o1, rfl, c0⟩ := rd_cell rd hkl
      have hjl : m - 1 - k < K.length := by rw [HKM.out]; omega
      obtain ⟨g2, o2, rfl, y0⟩ := rd_cell re hjl
      have hat := HAT.out k hkl
      obtain ⟨x0, x1⟩ := HLT.out k hkl
      rw [List.getElem?_eq_getElem hjl, Option.some.injEq] at hat
      rw [hat] at y0
      obtain ⟨x, hx⟩ : ∃ x, L[k] = x := ⟨_, rfl⟩
      rw [hx] at c0 y0 x0 x1
      have hc0 := (hR.cell (p := ⟨g1, o1 + k, none⟩) (cell_lt c0)).trans c0
      have hy0 := (hR.cell (p := ⟨g2, o2 + (m - 1 - k), none⟩) (cell_lt y0)).trans y0
      obtain ⟨r, hr⟩ : ∃ r, m - 1 - k = r := ⟨_, rfl⟩
      rw [hr] at hy0
      have w1 : IntKind.i64.wrap ((m : Int) - 1) = (m : Int) - 1 := IntWalk.i64_in _ (by omega)
      have w2 : IntKind.i64.wrap ((m : Int) - 1 - (k : Int)) = (r : Int) := by rw [IntWalk.i64_in _ (by omega)]; omega
      have w3 : IntKind.i64.wrap (89 - x) = 89 - x := IntWalk.i64_in _ (by omega)
      have b1 : (k : Int) < (m : Int) := by omega
      have b2 : (r : Int) < (m : Int) := by omega
      have b3 : (0 : Int) ≤ (r : Int) := by omega
      clear c0 y0 hat hx hr
      go_wp2_with fail
      try (go_quiet (fail))
      go_wp2_with fail
      go_roundw
      case rel => exact ⟨k + 1, by omega, by go_num, by first | exact below_drewN hR _ | exact hR⟩
      case measure => simp [intOf]; omega
    · obtain rfl : k = m := by omega
      have hPQ6 := pq_keep hPQ5 hR
      clear hPQ5 hR rd re
      go_wp2_with fail
      have hS : PQ w w2.heap.size s t side o clock full wr.drew := pq_keep hPQ6 (Below.refl _ _).drew
      go_region_held3 (fun W => W.cell? ⟨w.heap.size, 0, none⟩ = some (.string s) ∧ W.cell? ⟨w.heap.size, 1, none⟩ = some (.int .i64 side) ∧ W.cell? ⟨w.heap.size, 2, none⟩ = some (.int .i64 clock) ∧ W.cell? ⟨w.heap.size, 3, none⟩ = some (.int .i64 full) ∧ W.cell? ⟨w2.heap.size, 0, none⟩ = some (.string t) ∧ W.cell? ⟨w2.heap.size, 1, none⟩ = some (.int .i64 o) ∧ W.cell? ⟨w2.heap.size, 2, none⟩ = some (.int .i64 clock) ∧ W.cell? ⟨w2.heap.size, 3, none⟩ = some (.int .i64 full) ∧ Tab W ∧ Below w.heap.size w W)
        (first | exact hS | exact pq_keep (by assumption) hb)
        (first
          | (go_at_call 41; refine (well_hid _ _ _ _ _ _ (pq_tab (by assumption)) (by first | exact WP | exact WQ)).mono ?_; rintro e w7 ⟨rfl, hb⟩))
      rename_i hh
      have hPQ7 : PQ w w2.heap.size s t side o clock full _ := hh
      clear hh hS hPQ6
      obtain ⟨p0, p1, p2, p3, q0, q1, q2, q3, -, -⟩ := id hPQ7
      go_wp2_with fail
      refine (rfind_is s 75 c1 _ F1.out).mono ?_
      rintro e w8 ⟨A5, k5, rfl, _, hb⟩
      have hPQ8 := pq_keep hPQ7 hb
      clear hb p0 p1 p2 p3 q0 q1 q2 q3
      obtain ⟨p0, p1, p2, p3, q0, q1, q2, q3, -, -⟩ := id hPQ8
      go_wp2_with fail
      refine (rfind_is s 107 c2 _ F2.out).mono ?_
      rintro e w8 ⟨A6, k6, rfl, _, hb⟩
      have hPQ9 := pq_keep hPQ8 hb
      clear hb p0 p1 p2 p3 q0 q1 q2 q3
      obtain ⟨p0, p1, p2, p3, q0, q1, q2, q3, -, -⟩ := id hPQ9
      go_wp2_with fail
      refine (live7_any _ (pq_tab hPQ9)).mono ?_
      rintro e w9 ⟨rfl, hb⟩
      go_wp2
      go_ret
      exact ⟨rfl, (pq_below hPQ9).trans (hb.mono (pq_below hPQ9).size)⟩
theorem in_hid (s : ByteArray) (side : Int) (v : Bool) (w : World) (hT : Tab w) (h : Hid (inB s side = v)) : Calls Tryd.prog 39 #[.string s, .int .i64 side] w (Gives w (.bool v)) := in_is s side v w hT h.out
theorem facing_hid (s : ByteArray) (v : Bool) (w : World) (h : Hid (facingB s = v)) : Calls Tryd.prog 37 #[.string s] w (Says w (.bool v)) := facing_is s v w h.out
set_option maxRecDepth 100000 in
set_option maxHeartbeats 8000000 in
theorem alike (s : ByteArray) (side clock full : Int) (n : Nat) (w : World) (hT : Tab w) (hs : s.size ≤ 200) (hb : isB s = true) (hn : n < 90) (hside : side = 0 ∨ side = 1) (c1 : Nat) (hc1 : (findL s 75).length = c1) (h1 : ((c1 : Int) != 1) = false) (c2 : Nat) (hc2 : (findL s 107).length = c2) (h2 : ((c2 : Int) != 1) = false) (e1 : cntN s 90 75 = 1) (e2 : cntN s 90 107 = 1) : Calls Tryd.prog 12 #[.agg #[.string s, .int .i64 side, .int .i64 clock, .int .i64 full], .int .i64 (n : Int)] w (Gives w (.bool true)) := by
  unfold Gives
  have hd : decide (200 < (s.size : Int)) = false := by simp; omega
  clear hs
  obtain ⟨t, ht⟩ : ∃ t, turnB s = t := ⟨_, rfl⟩
  obtain ⟨o, ho⟩ : ∃ o : Int, 1 - side = o := ⟨_, rfl⟩
  obtain ⟨L, hL⟩ : ∃ L, attL s (n : Int) 0 = L := ⟨_, rfl⟩
  obtain ⟨m, hm⟩ : ∃ m, L.length = m := ⟨_, rfl⟩
  obtain ⟨j, hj⟩ : ∃ j : Int, 89 - (n : Int) = j := ⟨_, rfl⟩
  obtain ⟨k, hk⟩ : ∃ k, wellN s side clock full = k := ⟨_, rfl⟩
  have hK : attL t j 1 = (L.map fun x => 89 - x).reverse := by rw [← ht, ← hj, ← hL]; exact attL_turn hb hn
  have hKm : ((L.map fun x => (89 : Int) - x).reverse).length = m := by simp [hm]
  have hm90 : m ≤ 90 := by rw [← hm, ← hL]; exact att_len _ _ _
  have HLT : Hid (∀ i (hi : i < L.length), 0 ≤ L[i] ∧ L[i] < 90) := fun i hi => attL_range L[i] (by rw [hL]; exact List.getElem_mem hi)
  have HAT : Hid (∀ i (hi : i < L.length), ((L.map fun x => 89 - x).reverse)[m - 1 - i]? = some (89 - L[i])) := fun i hi => back_at hm (by omega)
  obtain ⟨K, hK0⟩ : ∃ K, (L.map fun x => (89 : Int) - x).reverse = K := ⟨_, rfl⟩
  rw [hK0] at hK hKm HAT
  have HTN := Lib.hid fun W => rturnP_any s t side clock full W (by omega) (by omega) ht
  rw [ho] at HTN
  have WQ : Hid (wellN t o clock full = k) := by show _ = _; rw [← ht, ← ho, well_turn hb hside]; exact hk
  obtain ⟨iv1, hi1⟩ : ∃ b, inB s 0 = b := ⟨_, rfl⟩
  obtain ⟨f1, hf1⟩ : ∃ b, facingB s = b := ⟨_, rfl⟩
  have IP := Lib.hid hi1
  have FP := Lib.hid hf1
  have IQ : Hid (inB t 1 = iv1) := by
    show _ = _
    have := in_turn hb e1 e2 (side := 0) (.inl rfl)
    rw [← ht, ← hi1]
    exact this
  have FQ : Hid (facingB t = f1) := by show _ = _; rw [← ht, facing_turn hb e1 e2]; exact hf1
  have F1 := Lib.hid hc1
  have F2 := Lib.hid hc2
  clear hc1 hc2 e1 e2 hi1 hf1
  have i1 : IntKind.i64.wrap (89 - (n : Int)) = j := by rw [IntWalk.i64_in _ (by omega)]; exact hj
  have i2 : IntKind.i64.wrap j = j := IntWalk.i64_in _ (by omega)
  have z0 : ¬ (n : Int) < 0 := by omega
  have z1 : ¬ (89 : Int) < (n : Int) := by omega
  have z2 : ¬ side < 0 := by omega
  have z3 : ¬ 1 < side := by omega
  have B := Lib.hid hb
  have WP := Lib.hid hk
  have HL := Lib.hid hL
  have HM := Lib.hid hm
  have HK := Lib.hid hK
  have HKM := Lib.hid hKm
  clear hb hside hL hm ht hK hKm hK0 ho hj hk
  go_enter Tryd.func12, Tryd.ntmps12
  go_wp2_with fail
  obtain ⟨W0, hW0⟩ : ∃ W0, w.alloc (.cells #[.string s, .int .i64 side, .int .i64 clock, .int .i64 full] 23) = W0 := ⟨_, rfl⟩
  have hB : Below w.heap.size w W0 := by rw [← hW0]; exact (by repeat (first | exact Below.refl _ _ | (refine Below.setCell ?_ (by first | omega | (simp; done) | (simp; omega) | (simp at *; omega)) _) | (refine Below.alloc ?_ (by first | omega | (simp; done) | (simp; omega) | (simp at *; omega)) _) | refine Below.drew ?_ | (refine below_drewN ?_ _) | (refine Below.trans ?_ (Below.mono (by assumption) (by first | omega | (simp; done) | (simp; omega) | (simp at *; omega))))))
  have bP : Blk W0 w.heap.size 23 #[.string s, .int .i64 side, .int .i64 clock, .int .i64 full] := by rw [← hW0]; exact Blk.new _ _ _ rfl
  replace hT := hT.below hB hT.lt
  rw [hW0]
  clear hW0
  refine (ris_is s true _ B.out).mono ?_
  rintro e w1 ⟨rfl, rfl⟩
  obtain ⟨p0, p1, p2, p3⟩ := ppos_cells7 bP
  go_wp2_with fail
  refine (HTN.out _).mono ?_
  rintro e w2 ⟨rfl, hb⟩
  replace hT := hT.next hb
  replace bP := bP.next hb
  replace hB := hB.trans (hb.mono hB.size)
  clear hb p0 p1 p2 p3
  obtain ⟨W3, hW3⟩ : ∃ W3, w2.alloc (.cells #[.string t, .int .i64 o, .int .i64 clock, .int .i64 full] 23) = W3 := ⟨_, rfl⟩
  have hb3 : Below w2.heap.size w2 W3 := by rw [← hW3]; exact (by repeat (first | exact Below.refl _ _ | (refine Below.setCell ?_ (by first | omega | (simp; done) | (simp; omega) | (simp at *; omega)) _) | (refine Below.alloc ?_ (by first | omega | (simp; done) | (simp; omega) | (simp at *; omega)) _) | refine Below.drew ?_ | (refine below_drewN ?_ _) | (refine Below.trans ?_ (Below.mono (by assumption) (by first | omega | (simp; done) | (simp; omega) | (simp at *; omega))))))
  have bQ : Blk W3 w2.heap.size 23 #[.string t, .int .i64 o, .int .i64 clock, .int .i64 full] := by rw [← hW3]; exact Blk.new _ _ _ rfl
  replace hT := hT.next hb3
  replace bP := bP.next hb3
  replace hB := hB.trans (hb3.mono hB.size)
  obtain ⟨p0, p1, p2, p3⟩ := ppos_cells7 bP
  obtain ⟨q0, q1, q2, q3⟩ := ppos_cells7 bQ
  have hPQ : PQ w w2.heap.size s t side o clock full W3 := ⟨p0, p1, p2, p3, q0, q1, q2, q3, hT, hB⟩
  clear hb3 bP bQ hT hB
  go_wp2_with fail
  refine (att_as s n 0 L _ (pq_tab hPQ) HL.out).mono ?_
  rintro e w4 ⟨v, rfl, ho, hb⟩
  obtain ⟨A1, k1, rfl⟩ := own_slice ho
  have rd := Rd.own ho
  have hPQ4 := pq_keep hPQ hb
  clear hb ho p0 p1 p2 p3 q0 q1 q2 q3 hPQ hW3
  obtain ⟨p0, p1, p2, p3, q0, q1, q2, q3, -, -⟩ := id hPQ4
  rw [HM.out]
  go_wp2_with fail
  refine (att_as t j 1 K _ (pq_tab hPQ4) HK.out).mono ?_
  rintro e w5 ⟨v, rfl, ho, hb⟩
  obtain ⟨A2, k2, rfl⟩ := own_slice ho
  have re := Rd.own ho
  replace rd := rd.next hb
  have hPQ5 := pq_keep hPQ4 hb
  clear hb ho p0 p1 p2 p3 q0 q1 q2 q3 hPQ4
  rw [HKM.out]
  go_wp2_with fail
  go_loopw [8] (fun i wr => ∃ k : Nat, k ≤ m ∧ i = .int .i64 k ∧ Below w5.heap.size w5 wr) (fun i _ => m - (intOf i).toNat)
  case atStart => exact ⟨0, by omega, rfl, Below.refl _ _⟩
  case round =>
    obtain ⟨k, hk, rfl, hR⟩ := hrel
    by_cases hlt : k < m
    · have hkl : k < L.length := by rw [HM.out]; exact hlt
      obtain ⟨g1, o1, rfl, c0⟩ := rd_cell rd hkl
      have hjl : m - 1 - k < K.length := by rw [HKM.out]; omega
      obtain ⟨g2, o2, rfl, y0⟩ := rd_cell re hjl
      have hat := HAT.out k hkl
      obtain ⟨x0, x1⟩ := HLT.out k hkl
      rw [List.getElem?_eq_getElem hjl, Option.some.injEq] at hat
      rw [hat] at y0
      obtain ⟨x, hx⟩ : ∃ x, L[k] = x := ⟨_, rfl⟩
      rw [hx] at c0 y0 x0 x1
      have hc0 := (hR.cell (p := ⟨g1, o1 + k, none⟩) (cell_lt c0)).trans c0
      have hy0 := (hR.cell (p := ⟨g2, o2 + (m - 1 - k), none⟩) (cell_lt y0)).trans y0
      obtain ⟨r, hr⟩ : ∃ r, m - 1 - k = r := ⟨_, rfl⟩
      rw [hr] at hy0
      have w1 : IntKind.i64.wrap ((m : Int) - 1) = (m : Int) - 1 := IntWalk.i64_in _ (by omega)
      have w2 : IntKind.i64.wrap ((m : Int) - 1 - (k : Int)) = (r : Int) := by rw [IntWalk.i64_in _ (by omega)]; omega
      have w3 : IntKind.i64.wrap (89 - x) = 89 - x := IntWalk.i64_in _ (by omega)
      have b1 : (k : Int) < (m : Int) := by omega
      have b2 : (r : Int) < (m : Int) := by omega
      have b3 : (0 : Int) ≤ (r : Int) := by omega
      clear c0 y0 hat hx hr
      go_wp2_with fail
      try (go_quiet (fail))
      go_wp2_with fail
      go_roundw
      case rel => exact ⟨k + 1, by omega, by go_num, by first | exact below_drewN hR _ | exact hR⟩
      case measure => simp [intOf]; omega
    · obtain rfl : k = m := by omega
      have hPQ6 := pq_keep hPQ5 hR
      clear hPQ5 hR rd re
      go_wp2_with fail
      have hS : PQ w w2.heap.size s t side o clock full wr.drew := pq_keep hPQ6 (Below.refl _ _).drew
      go_region_held3 (fun W => W.cell? ⟨w.heap.size, 0, none⟩ = some (.string s) ∧ W.cell? ⟨w.heap.size, 1, none⟩ = some (.int .i64 side) ∧ W.cell? ⟨w.heap.size, 2, none⟩ = some (.int .i64 clock) ∧ W.cell? ⟨w.heap.size, 3, none⟩ = some (.int .i64 full) ∧ W.cell? ⟨w2.heap.size, 0, none⟩ = some (.string t) ∧ W.cell? ⟨w2.heap.size, 1, none⟩ = some (.int .i64 o) ∧ W.cell? ⟨w2.heap.size, 2, none⟩ = some (.int .i64 clock) ∧ W.cell? ⟨w2.heap.size, 3, none⟩ = some (.int .i64 full) ∧ Tab W ∧ Below w.heap.size w W)
        (first | exact hS | exact pq_keep (by assumption) hb)
        (first
          | (go_at_call 41; refine (well_hid _ _ _ _ _ _ (pq_tab (by assumption)) (by first | exact WP | exact WQ)).mono ?_; rintro e w7 ⟨rfl, hb⟩))
      rename_i hh
      have hPQ7 : PQ w w2.heap.size s t side o clock full _ := hh
      clear hh hS hPQ6
      obtain ⟨p0, p1, p2, p3, q0, q1, q2, q3, -, -⟩ := id hPQ7
      go_wp2_with fail
      refine (rfind_is s 75 c1 _ F1.out).mono ?_
      rintro e w8 ⟨A5, k5, rfl, _, hb⟩
      have hPQ8 := pq_keep hPQ7 hb
      clear hb p0 p1 p2 p3 q0 q1 q2 q3
      obtain ⟨p0, p1, p2, p3, q0, q1, q2, q3, -, -⟩ := id hPQ8
      go_wp2_with fail
      refine (rfind_is s 107 c2 _ F2.out).mono ?_
      rintro e w8 ⟨A6, k6, rfl, _, hb⟩
      have hPQ9 := pq_keep hPQ8 hb
      clear hb p0 p1 p2 p3 q0 q1 q2 q3
      obtain ⟨p0, p1, p2, p3, q0, q1, q2, q3, -, -⟩ := id hPQ9
      go_wp2_with fail
      have hS : PQ w w2.heap.size s t side o clock full _ := pq_keep hPQ9 (Below.refl _ _).drew
      go_region_held3 (fun W => W.cell? ⟨w.heap.size, 0, none⟩ = some (.string s) ∧ W.cell? ⟨w.heap.size, 1, none⟩ = some (.int .i64 side) ∧ W.cell? ⟨w.heap.size, 2, none⟩ = some (.int .i64 clock) ∧ W.cell? ⟨w.heap.size, 3, none⟩ = some (.int .i64 full) ∧ W.cell? ⟨w2.heap.size, 0, none⟩ = some (.string t) ∧ W.cell? ⟨w2.heap.size, 1, none⟩ = some (.int .i64 o) ∧ W.cell? ⟨w2.heap.size, 2, none⟩ = some (.int .i64 clock) ∧ W.cell? ⟨w2.heap.size, 3, none⟩ = some (.int .i64 full) ∧ Tab W ∧ Below w.heap.size w W)
        (first | exact hS | with_reducible assumption | exact pq_keep (by assumption) hb)
        (first
          | (go_at_call 39; refine (in_hid _ _ _ _ (pq_tab (by assumption)) (by first | exact IP | exact IQ)).mono ?_; rintro e w7 ⟨rfl, hb⟩)
          | (go_at_call 37; refine (facing_hid _ _ _ (by first | exact FP | exact FQ)).mono ?_; rintro e w7 ⟨rfl, rfl⟩)
          | (go_at_call 31; refine (live7_any _ (pq_tab (by assumption))).mono ?_; rintro e w7 ⟨rfl, hb⟩))
      go_wp2
      go_ret
      exact ⟨rfl, pq_below (by assumption)⟩
theorem walk (s : ByteArray) (side clock full n : Int) (w : World) (hT : Tab w) : Calls Tryd.prog 12 #[.agg #[.string s, .int .i64 side, .int .i64 clock, .int .i64 full], .int .i64 n] w (Gives w (.bool true)) := by
  by_cases hs : s.size ≤ 200
  · cases hb : isB s
    · exact nob s side clock full n w hT hs hb
    by_cases a0 : n < 0
    · exact neg s side clock full n w hT hs hb a0
    by_cases a1 : 89 < n
    · exact far s side clock full n w hT hs hb (by omega) a1
    by_cases a2 : side < 0
    · exact sneg s side clock full n w hT hs hb (by omega) (by omega) a2
    by_cases a3 : 1 < side
    · exact sfar s side clock full n w hT hs hb (by omega) (by omega) (by omega) a3
    obtain ⟨m, rfl⟩ : ∃ m : Nat, n = m := ⟨n.toNat, by omega⟩
    have hlen : ∀ c, (findL s c).length = cntN s 90 c := fun c => by rw [findL, if_pos hb, cnt_trues]
    cases h1 : (((findL s 75).length : Int) != 1)
    · cases h2 : (((findL s 107).length : Int) != 1)
      · refine alike s side clock full m w hT hs hb (by omega) (by omega) _ rfl h1 _ rfl h2 ?_ ?_
        · rw [← hlen]
          have : ((findL s 75).length : Int) = 1 := by simpa [bne] using h1
          omega
        · rw [← hlen]
          have : ((findL s 107).length : Int) = 1 := by simpa [bne] using h2
          omega
      · exact unlike2 s side clock full m w hT hs hb (by omega) (by omega) _ rfl h1 _ rfl h2
    · exact unlike1 s side clock full m w hT hs hb (by omega) (by omega) _ rfl h1
  · exact large s side clock full n w hT (by omega)
end Go.Proofs.YtbfkkedcjodceaaDoor.cturn
