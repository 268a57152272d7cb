/- The moves of a game's past; how each step led to the next position. -/
import Derived.Test.YtdpaiolppccinaaGreatDoorGameL
import Derived.Laws.OwnMore
namespace Go.Proofs.YtdpaiolppccinaaGreatDoor
open Go.RowKit Go.Shelf
open M (S)

/-- Moves, as they lie in memory. -/
def mvz (l : List (Int × Int)) : List Value := l.flatMap fun m => [.int .i64 m.1, .int .i64 m.2]
def Stp.mv (x : Stp) : Int × Int := (x.a, x.b)
theorem mvz_len (l : List (Int × Int)) : (mvz l).length = l.length * 2 := by
  induction l with
  | nil => rfl
  | cons x l ih =>
    have e : mvz (x :: l) = (.int .i64 x.1) :: (.int .i64 x.2) :: mvz l := rfl
    rw [e, List.length_cons, List.length_cons, List.length_cons, ih]
    omega
theorem mvz_snoc (l : List (Int × Int)) (x : Int × Int) : mvz (l ++ [x]) = mvz l ++ [.int .i64 x.1, .int .i64 x.2] := by simp [mvz]
theorem mvz_at (l : List (Int × Int)) (k : Nat) (hk : k < l.length) : (mvz l)[k * 2]? = some (.int .i64 l[k].1) ∧ (mvz l)[k * 2 + 1]? = some (.int .i64 l[k].2) := by
  induction l generalizing k with
  | nil => simp at hk
  | cons x l ih =>
    have e : mvz (x :: l) = (.int .i64 x.1) :: (.int .i64 x.2) :: mvz l := rfl
    rw [e]
    cases k with
    | zero => exact ⟨rfl, rfl⟩
    | succ k =>
      have := ih k (by simpa using hk)
      rw [show (k + 1) * 2 = k * 2 + 1 + 1 by omega]
      simpa using this
theorem stepsL_at (st : List Stp) (k i : Nat) (hk : k < st.length) (hi : i < 6) : (stepsL st)[k * 6 + i]? = st[k].cs[i]? := by
  induction st generalizing k with
  | nil => simp at hk
  | cons x l ih =>
    have e : stepsL (x :: l) = x.cs ++ stepsL l := rfl
    rw [e]
    cases k with
    | zero =>
      rw [List.getElem?_append_left (by show _ < 6; omega)]
      simp
    | succ k =>
      rw [List.getElem?_append_right (by show 6 ≤ _; omega)]
      have := ih k (by simpa using hk)
      rw [show (k + 1) * 6 + i - x.cs.length = k * 6 + i by show _ - 6 = _; omega]
      simpa using this

/-- A step's move led from its position to this one. -/
def Mk (x : Stp) (q : Po) : Prop := ∃ t : Nat, makeV x.p.s x.p.y x.p.z x.p.u x.a x.b = .tuple #[.agg #[.string q.s, .int .i64 q.y, .int .i64 q.z, .int .i64 q.u], .int .u8 t, .int .i64 0]
/-- Where a game was ahead of its k-th step. -/
def posAt (st : List Stp) (now : Po) (k : Nat) : Po := match st[k]? with | some x => x.p | none => now
theorem posAt_lt {st : List Stp} {now : Po} {k : Nat} (h : k < st.length) : posAt st now k = st[k].p := by simp [posAt, List.getElem?_eq_getElem h]
theorem posAt_end {st : List Stp} {now : Po} {k : Nat} (h : st.length ≤ k) : posAt st now k = now := by simp [posAt, List.getElem?_eq_none h]
def Lk (st : List Stp) (now : Po) : Prop := ∀ k (h : k < st.length), Mk st[k] (posAt st now (k + 1))
theorem lk_nil (now : Po) : Lk [] now := fun k h => by simp at h
theorem lk_snoc {st : List Stp} {x : Stp} {q : Po} (h : Lk st x.p) (hm : Mk x q) : Lk (st ++ [x]) q := fun k hk => by
  rw [List.length_append, List.length_singleton] at hk
  by_cases hlt : k < st.length
  · rw [List.getElem_append_left hlt]
    have e : posAt (st ++ [x]) q (k + 1) = posAt st x.p (k + 1) := by
      by_cases h1 : k + 1 < st.length
      · rw [posAt_lt h1, posAt_lt (by rw [List.length_append]; omega), List.getElem_append_left h1]
      · rw [posAt_end (st := st) (by omega), posAt_lt (by rw [List.length_append, List.length_singleton]; omega), List.getElem_append_right (by omega)]
        simp
    rw [e]
    exact h k hlt
  · obtain rfl : k = st.length := by omega
    rw [posAt_end (by rw [List.length_append, List.length_singleton]; omega)]
    simpa using hm
theorem add_zero_off (B j : Nat) : (Addr.add ⟨B, 0, none⟩ j) = ⟨B, j, none⟩ := by
  simp only [Addr.add]
  split <;> simp_all
theorem Blk.rd {w : World} {B : Nat} {t : TypeId} {xs : List Value} (h : Blk w B t xs.toArray) : Rd w (some ⟨B, 0, none⟩) xs := fun j u hu => ⟨_, rfl, by
  have := h.cell j
  simp only [List.getElem?_toArray, hu] at this
  rw [add_zero_off]
  simpa using this⟩
theorem Rd.mvz_at {w : World} {B : Nat} {l : List (Int × Int)} (h : Rd w (some ⟨B, 0, none⟩) (mvz l)) {k : Nat} (hk : k < l.length) : w.cell? ⟨B, k * 2, none⟩ = some (.int .i64 l[k].1) ∧ w.cell? ⟨B, k * 2 + 1, none⟩ = some (.int .i64 l[k].2) := by
  obtain ⟨m0, m1⟩ := Go.Proofs.YtdpaiolppccinaaGreatDoor.mvz_at l k hk
  obtain ⟨a0, e0, h0⟩ := h _ _ m0
  obtain ⟨a1, e1, h1⟩ := h _ _ m1
  cases e0
  cases e1
  rw [add_zero_off] at h0 h1
  exact ⟨h0, h1⟩
set_option maxRecDepth 100000 in
set_option maxHeartbeats 2000000 in
/-- Moves of any numbers: the same lists are the same. -/
theorem same_mvz (B1 B2 : Nat) (l : List (Int × Int)) (n c d : Nat) (w : World) (hx : Rd w (some ⟨B1, 0, none⟩) (mvz l)) (hy : Rd w (some ⟨B2, 0, none⟩) (mvz l)) (hn : l.length = n) (hm : n ≤ 1000000) :
    Calls Tryz.prog 14 #[.slice (some ⟨B1, 0, none⟩) n c, .slice (some ⟨B2, 0, none⟩) n d] w (Gives w (.bool true)) := by
  unfold Gives
  have HN := Lib.hid hn
  clear hn
  go_enter Tryz.func14, Tryz.ntmps14
  go_wp2
  go_loopw [5] (fun i wr => ∃ k : Nat, k ≤ n ∧ i = .int .i64 k ∧ Below w.heap.size w wr) (fun i _ => n - (intOf i).toNat)
  case atStart => exact ⟨0, Nat.zero_le _, rfl, Below.refl _ _⟩
  case round =>
    obtain ⟨k, hk, rfl, hB⟩ := hrel
    by_cases hlt : k < n
    · have hkl : k < l.length := by rw [HN.out]; exact hlt
      obtain ⟨c0, c1⟩ := hx.mvz_at hkl
      obtain ⟨d0, d1⟩ := hy.mvz_at hkl
      obtain ⟨u, hu⟩ : ∃ u, l[k].1 = u := ⟨_, rfl⟩
      obtain ⟨v, hv⟩ : ∃ v, l[k].2 = v := ⟨_, rfl⟩
      rw [hu] at c0 d0
      rw [hv] at c1 d1
      have hc0 := (hB.cell (p := ⟨B1, k * 2, none⟩) (cell_lt c0)).trans c0
      have hc1 := (hB.cell (p := ⟨B1, k * 2 + 1, none⟩) (cell_lt c1)).trans c1
      have hd0 := (hB.cell (p := ⟨B2, k * 2, none⟩) (cell_lt d0)).trans d0
      have hd1 := (hB.cell (p := ⟨B2, k * 2 + 1, none⟩) (cell_lt d1)).trans d1
      have b1 : (k : Int) < (n : Int) := by omega
      have hne := neq_move
      clear c0 c1 d0 d1 hu hv
      go_wp2_with fail
      go_quiet (fail)
      go_wp2_with fail
      go_roundw
      case rel => exact ⟨k + 1, by omega, by go_num, below_drewN hB _⟩
      case measure => simp [intOf]; omega
    · obtain rfl : k = n := by omega
      go_wp2
      go_ret
      exact ⟨rfl, hB⟩
/-- A full row's block. -/
theorem row_blk {w : World} {base : Nat} {e : TypeId} {g n : Nat} {xs : List Value} (h : w.ownsRow base e 2 (.slice (some ⟨g, 0, none⟩) n n) n xs) : Blk w g e xs.toArray := by
  rcases h.2 with ⟨h', _⟩ | ⟨g', cap, cur, h', _, hg, _, _, hcs, htake⟩
  · cases h'
  · injection h' with e1 e2 e3
    injection e1 with e1
    injection e1 with e1
    subst e1
    subst e3
    have : cur = xs.toArray := by
      rw [← htake, List.take_of_length_le (by rw [Array.length_toList, hcs]; exact Nat.le_refl _)]
    rw [← this]
    exact hg
/-- So far the cells of a row are those of a list. -/
def Upto (cs : Array Value) (xs : List Value) (k : Nat) : Prop := cs.size = xs.length ∧ ∀ j, j < k → cs[j]? = xs[j]?
theorem Upto.zero {cs : Array Value} {xs : List Value} (h : cs.size = xs.length) : Upto cs xs 0 := ⟨h, fun j hj => by omega⟩
theorem Upto.done {cs : Array Value} {xs : List Value} {k : Nat} (h : Upto cs xs k) (hk : xs.length ≤ k) : cs = xs.toArray := by
  apply Array.ext_getElem?
  intro j
  by_cases hj : j < k
  · rw [h.2 j hj]; simp
  · rw [Array.getElem?_eq_none (by rw [h.1]; omega)]
    simp
    omega
theorem Upto.two {cs : Array Value} {xs : List Value} {k : Nat} {u v : Value} (h : Upto cs xs (k * 2)) (hu : xs[k * 2]? = some u) (hv : xs[k * 2 + 1]? = some v) : Upto ((cs.setIfInBounds (k * 2) u).setIfInBounds (k * 2 + 1) v) xs ((k + 1) * 2) := by
  have l2 := (List.getElem?_eq_some_iff.1 hv).1
  have hs := h.1
  refine ⟨by simpa using h.1, fun j hj => ?_⟩
  rw [Array.getElem?_setIfInBounds]
  by_cases e1 : k * 2 + 1 = j
  · subst e1
    rw [if_pos rfl, if_pos (by simp [hs, l2]), hv]
  · rw [if_neg e1, Array.getElem?_setIfInBounds]
    by_cases e2 : k * 2 = j
    · subst e2
      have : k * 2 < xs.length := by omega
      rw [if_pos rfl, if_pos (by omega), hu]
    · rw [if_neg e2]
      exact h.2 j (by omega)
set_option maxRecDepth 100000 in
set_option maxHeartbeats 4000000 in
theorem moves_is {n₀ : Nat} {w : World} {g : Nat} {v : Value} {st : List Stp} {now : Po} (h : GAt n₀ w g v st now) (hl : st.length ≤ 1024) (n : Nat) (hn : st.length = n) : Calls Tryz.prog 26 #[.pointer (some ⟨g, 0, none⟩)] w fun e w' => ∃ B, e = .returned (.slice (some ⟨B, 0, none⟩) n n) ∧ w.heap.size ≤ B ∧ Blk w' B 34 (mvz (st.map Stp.mv)).toArray ∧ Below w.heap.size w w' := by
  obtain ⟨i0, hi, hz0, hz1, hz2⟩ := info_parts6 info_move
  obtain ⟨A, c, rfl⟩ := h.slice
  have hrow := h.row
  have hrd := Rd.owns hrow
  have hA : A = none ∨ ∃ g2, A = some ⟨g2, 0, none⟩ := by
    rcases hrow.2 with ⟨e, _⟩ | ⟨g', cap, cur, e, _⟩
    · injection e with e1
      exact .inl e1
    · injection e with e1
      exact .inr ⟨g', e1⟩
  rw [hn] at hrow
  have hc := (gcells h.blk).1
  rw [hn] at hc
  obtain ⟨W1, hmk, hown, hgrow⟩ := run_makeSlice_full (P := Tryz.prog) w 0 42 34 i0 _ 2 Tryz.underlying42 hi hz0 hz1 .i64 .i64 n (by omega) (by rw [hz2]; omega) (by unfold maxLen; omega) (Nat.zero_le _)
  have hB1 : Below w.heap.size w W1 := ⟨hgrow.os, hgrow.tape, hgrow.output, hgrow.size, fun k hk => hgrow.block k hk (by simp)⟩
  have bM := row_blk hown
  have hBlt := bM.lt
  generalize hBe : w.heap.size = B at bM hBlt hB1 hmk
  have hxl : (mvz (st.map Stp.mv)).length = n * 2 := by rw [mvz_len, List.length_map, hn]
  have hgB : g < B := by have := h.blk.lt; omega
  have hU0 : Upto _ (mvz (st.map Stp.mv)) 0 := Upto.zero (cs := ((madeCells (Value.agg #[.int .i64 0, .int .i64 0]).cells (n * 2)).toList).toArray) (by rw [hxl]; simp [size_madeCells])
  have hc1 : W1.cell? ⟨g, 0, none⟩ = some (.slice A n c) := (hB1.cell (p := ⟨g, 0, none⟩) hgB).trans hc
  have HR := Lib.hid hrd
  have HX := Lib.hid hxl
  have HN := Lib.hid hn
  have HB := Lib.hid hBe
  have HL := Lib.hid hl
  clear h hrd hrow hown hgrow hxl hn hBe hl hi hz0 hz1 hz2
  go_enter Tryz.func26, Tryz.ntmps26
  go_wp2_with fail
  refine (count_is g n _ _ _ hc).mono ?_
  rintro e w' ⟨rfl, rfl⟩
  go_wp2_with fail
  generalize (madeCells (Value.agg #[.int .i64 0, .int .i64 0]).cells (n * 2)).toList.toArray = cs0 at bM hU0
  clear hmk hc hc1
  go_loopw [14] (fun i wr => ∃ (k : Nat) (cs : Array Value), k ≤ n ∧ i = .int .i64 k ∧ Hid (Below B w wr) ∧ Hid (Blk wr B 34 cs) ∧ Hid (Upto cs (mvz (st.map Stp.mv)) (k * 2))) (fun i _ => n - (intOf i).toNat)
  case atStart => exact ⟨0, _, Nat.zero_le _, rfl, hB1, bM, hU0⟩
  case round =>
    obtain ⟨k, cs, hk, rfl, hR, bC, hU⟩ := hrel
    clear bM hU0 hB1 hBlt
    by_cases hlt : k < n
    · have hkl : k < st.length := by rw [HN.out]; exact hlt
      have b1 : (k : Int) < (n : Int) := by omega
      obtain ⟨x, hx⟩ : ∃ x, st[k] = x := ⟨_, rfl⟩
      have hst : ∀ i, i < 6 → (stepsL st)[k * 6 + i]? = x.cs[i]? := fun i hi => by rw [← hx]; exact stepsL_at st k i hkl hi
      obtain ⟨g2, rfl⟩ : ∃ g2, A = some ⟨g2, 0, none⟩ := by
        rcases hA with rfl | h
        · obtain ⟨_, e0, _⟩ := HR.out _ _ (hst 0 (by decide))
          cases e0
        · exact h
      have hcs : ∀ i u, i < 6 → x.cs[i]? = some u → wr.cell? ⟨g2, k * 6 + i, none⟩ = some u := fun i u hi hu => by
        obtain ⟨_, e0, h0⟩ := HR.out _ _ ((hst i hi).trans hu)
        cases e0
        rw [add_zero_off] at h0
        have hlt := cell_lt h0
        rw [HB.out] at hlt
        exact (hR.out.cell (p := ⟨g2, k * 6 + i, none⟩) hlt).trans h0
      have q0 : wr.cell? ⟨g2, k * 6, none⟩ = some (.int .i64 x.a) := hcs 0 _ (by decide) rfl
      have q1 : wr.cell? ⟨g2, k * 6 + 1, none⟩ = some (.int .i64 x.b) := hcs 1 _ (by decide) rfl
      have q2 : wr.cell? ⟨g2, k * 6 + 2, none⟩ = some (.string x.p.s) := hcs 2 _ (by decide) rfl
      have q3 : wr.cell? ⟨g2, k * 6 + 3, none⟩ = some (.int .i64 x.p.y) := hcs 3 _ (by decide) rfl
      have q4 : wr.cell? ⟨g2, k * 6 + 4, none⟩ = some (.int .i64 x.p.z) := hcs 4 _ (by decide) rfl
      have q5 : wr.cell? ⟨g2, k * 6 + 5, none⟩ = some (.int .i64 x.p.u) := hcs 5 _ (by decide) rfl
      have hsz : cs.size = n * 2 := hU.out.1.trans HX.out
      have hBlt := bC.out.lt
      obtain ⟨W2, hW2⟩ : ∃ W2, wr.alloc (.cells #[.int .i64 x.a, .int .i64 x.b, .string x.p.s, .int .i64 x.p.y, .int .i64 x.p.z, .int .i64 x.p.u] 59) = W2 := ⟨_, rfl⟩
      have bS : Blk W2 wr.heap.size 59 #[.int .i64 x.a, .int .i64 x.b, .string x.p.s, .int .i64 x.p.y, .int .i64 x.p.z, .int .i64 x.p.u] := by rw [← hW2]; exact Blk.new _ _ _ rfl
      have hb2 : Below wr.heap.size wr W2 := by rw [← hW2]; exact below_one _ _
      have r0 : W2.cell? ⟨wr.heap.size, 0, none⟩ = some (.int .i64 x.a) := bS.cell 0
      have r1 : W2.cell? ⟨wr.heap.size, 1, none⟩ = some (.int .i64 x.b) := bS.cell 1
      have bC2 := bC.out.next hb2
      have f0 := bC2.frozen (k * 2)
      have f1 := bC2.frozen (k * 2 + 1)
      have hl0 : k * 2 < cs.size := by omega
      have hl1 : k * 2 + 1 < cs.size := by omega
      have e0 : W2.cell? ⟨B, k * 2, none⟩ = some cs[k * 2] := by rw [bC2.cell, Array.getElem?_eq_getElem hl0]
      have e1 : W2.cell? ⟨B, k * 2 + 1, none⟩ = some cs[k * 2 + 1] := by rw [bC2.cell, Array.getElem?_eq_getElem hl1]
      have HEND : Hid (Below B w ((W2.setCell ⟨B, k * 2, none⟩ (.int .i64 x.a)).setCell ⟨B, k * 2 + 1, none⟩ (.int .i64 x.b)) ∧ Blk ((W2.setCell ⟨B, k * 2, none⟩ (.int .i64 x.a)).setCell ⟨B, k * 2 + 1, none⟩ (.int .i64 x.b)) B 34 ((cs.setIfInBounds (k * 2) (.int .i64 x.a)).setIfInBounds (k * 2 + 1) (.int .i64 x.b)) ∧ Upto ((cs.setIfInBounds (k * 2) (.int .i64 x.a)).setIfInBounds (k * 2 + 1) (.int .i64 x.b)) (mvz (st.map Stp.mv)) ((k + 1) * 2)) := by
        refine ⟨((hR.out.trans (hb2.mono (Nat.le_of_lt hBlt))).setCell (p := ⟨B, k * 2, none⟩) (Nat.le_refl _) _).setCell (p := ⟨B, k * 2 + 1, none⟩) (Nat.le_refl _) _, (bC2.set_ _ _).set_ _ _, ?_⟩
        have hkm : k < (st.map Stp.mv).length := by rw [List.length_map]; exact hkl
        obtain ⟨u0, u1⟩ := mvz_at (st.map Stp.mv) k hkm
        have hmv : (st.map Stp.mv)[k] = (x.a, x.b) := by rw [List.getElem_map, hx]; rfl
        rw [hmv] at u0 u1
        exact hU.out.two u0 u1
      generalize cs[k * 2] = z0 at e0
      generalize cs[k * 2 + 1] = z1 at e1
      have hn4 : n ≤ 1024 := by have := HL.out; have := HN.out; omega
      clear hst hcs bS bC2 hb2 hl0 hl1 hsz
      go_wp2_with fail
      go_roundw
      case rel => exact ⟨k + 1, _, by omega, by go_num, HEND.out.1, HEND.out.2.1, HEND.out.2.2⟩
      case measure => simp [intOf]; omega
    · obtain rfl : k = n := by omega
      have hcs := hU.out.done (by rw [HX.out]; exact Nat.le_refl _)
      subst hcs
      go_wp2
      go_ret
      exact ⟨B, rfl, Nat.le_refl _, bC.out, hR.out⟩
set_option maxHeartbeats 1000000 in
theorem past_is {n₀ : Nat} {w : World} {g : Nat} {v : Value} {st : List Stp} {now : Po} (h : GAt n₀ w g v st now) (hl : st.length ≤ 1024) (n : Nat) (hn : st.length = n) : Calls Tryz.prog 15 #[.pointer (some ⟨g, 0, none⟩)] w fun e w' => ∃ B, e = .returned (.slice (some ⟨B, 0, none⟩) n n) ∧ w.heap.size ≤ B ∧ Blk w' B 34 (mvz (st.map Stp.mv)).toArray ∧ Below w.heap.size w w' := by
  have hm := moves_is h hl n hn
  clear h hl hn
  go_enter Tryz.func15, Tryz.ntmps15
  go_wp2_with fail
  refine hm.mono ?_
  rintro e w1 ⟨B, rfl, hB, bB, hb⟩
  go_wp2
  go_ret
  exact ⟨B, rfl, hB, bB, hb⟩
end Go.Proofs.YtdpaiolppccinaaGreatDoor
