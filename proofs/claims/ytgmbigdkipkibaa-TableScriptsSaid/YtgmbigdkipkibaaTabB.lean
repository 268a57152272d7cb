/- What is used of a table; New, Clear, Count; entries of the document's for the program. -/
import Derived.Test.YtgmbigdkipkibaaTabA
import Derived.Lib.SliceRun
namespace Go.Proofs.Ytgmbigdkipkibaa
open Go.RowKit Go.Shelf
attribute [local go_sem] Oper.semAt_some

/-- What is used of what a slot answers. -/
def useV (o : Option Ent) (depth low high : Int) : Value := match o with
  | none => .tuple #[.int .i64 0, .bool false]
  | some y => if depth ≤ y.d ∧ settlesB y low high = true then .tuple #[.int .i64 y.s, .bool true] else .tuple #[.int .i64 0, .bool false]
set_option maxRecDepth 100000 in
set_option maxHeartbeats 4000000 in
theorem use_of (P : Option Addr) (k : Nat) (W : World) (o : Option Ent) (hg : Calls Try.prog 12 #[.pointer P, .int .u64 k] W (Gives W (getV o))) (depth low high : Int) :
    Calls Try.prog 14 #[.pointer P, .int .u64 k, .int .i64 depth, .int .i64 low, .int .i64 high] W (Gives W (useV o depth low high)) := by
  unfold Gives
  cases o with
  | none =>
    go_enter Try.func14, Try.ntmps14
    go_wp2_with fail
    refine hg.mono ?_
    rintro e w1 ⟨rfl, hb1⟩
    unfold getV Ent.v ent0
    obtain ⟨W1, hW1⟩ : ∃ W1, w1.alloc (.cells E0 40) = W1 := ⟨_, rfl⟩
    have hE : Blk W1 w1.heap.size 40 E0 := by rw [← hW1]; exact Blk.new _ _ _ rfl
    have hB : Below W.heap.size W W1 := by rw [← hW1]; exact hb1.alloc hb1.size _
    obtain ⟨⟨e0, e1, e2, e3, e4, e5⟩, f0, f1, f2, f3, f4, f5⟩ := e0_cells hE
    clear hE
    go_wp2_with fail
    (try rw [hW1])
    go_ret2
    exact ⟨rfl, ent_below hB hb1.size ent0⟩
  | some y =>
    obtain ⟨k', d', s', u', a', b'⟩ := y
    obtain ⟨z, hz⟩ : ∃ z, settlesB ⟨k', d', s', u', a', b'⟩ low high = z := ⟨_, rfl⟩
    have HZ := Lib.hid hz
    have hU : useV (some ⟨k', d', s', u', a', b'⟩) depth low high = if depth ≤ d' ∧ z = true then .tuple #[.int .i64 s', .bool true] else .tuple #[.int .i64 0, .bool false] := by
      unfold useV
      simp only
      rw [hz]
    rw [hU]
    clear hz hU
    by_cases hd : depth ≤ d'
    · have hd' : ¬ d' < depth := by omega
      cases z with
      | true =>
        rw [if_pos ⟨hd, rfl⟩]
        go_enter Try.func14, Try.ntmps14
        go_wp2_with fail
        refine hg.mono ?_
        rintro e w1 ⟨rfl, hb1⟩
        unfold getV Ent.v
        have hE : Blk (w1.alloc (.cells #[.int .u64 k', .int .i64 d', .int .i64 s', .int .i64 u', .int .i64 a', .int .i64 b'] 40)) w1.heap.size 40 (Ent.mk k' d' s' u' a' b').cs := Blk.new _ _ _ rfl
        have HB := Lib.hid (hb1.alloc (o := .cells #[.int .u64 k', .int .i64 d', .int .i64 s', .int .i64 u', .int .i64 a', .int .i64 b'] 40) hb1.size)
        have HE := Lib.hid hE
        clear hE hb1
        go_wp2_with fail
        refine (settles_is ⟨k', d', s', u', a', b'⟩ low high true _ HZ.out).mono ?_
        rintro e w2 ⟨rfl, hb2⟩
        obtain ⟨e0, e1, e2, e3, e4, e5⟩ := ent_cells (HE.out.next hb2)
        have HB2 := Lib.hid (HB.out.trans (hb2.mono HB.out.size))
        clear hb2
        go_wp2
        go_ret2
        exact ⟨rfl, HB2.out⟩
      | false =>
        rw [if_neg (by simp)]
        go_enter Try.func14, Try.ntmps14
        go_wp2_with fail
        refine hg.mono ?_
        rintro e w1 ⟨rfl, hb1⟩
        unfold getV Ent.v
        have hE : Blk (w1.alloc (.cells #[.int .u64 k', .int .i64 d', .int .i64 s', .int .i64 u', .int .i64 a', .int .i64 b'] 40)) w1.heap.size 40 (Ent.mk k' d' s' u' a' b').cs := Blk.new _ _ _ rfl
        have HB := Lib.hid (hb1.alloc (o := .cells #[.int .u64 k', .int .i64 d', .int .i64 s', .int .i64 u', .int .i64 a', .int .i64 b'] 40) hb1.size)
        have HE := Lib.hid hE
        clear hE hb1
        go_wp2_with fail
        refine (settles_is ⟨k', d', s', u', a', b'⟩ low high false _ HZ.out).mono ?_
        rintro e w2 ⟨rfl, hb2⟩
        obtain ⟨e0, e1, e2, e3, e4, e5⟩ := ent_cells (HE.out.next hb2)
        have HB2 := Lib.hid (HB.out.trans (hb2.mono HB.out.size))
        clear hb2
        go_wp2
        go_ret2
        exact ⟨rfl, HB2.out⟩
    · have hd' : d' < depth := by omega
      rw [if_neg (fun h => hd h.1)]
      go_enter Try.func14, Try.ntmps14
      go_wp2_with fail
      refine hg.mono ?_
      rintro e w1 ⟨rfl, hb1⟩
      unfold getV Ent.v
      have hE : Blk (w1.alloc (.cells #[.int .u64 k', .int .i64 d', .int .i64 s', .int .i64 u', .int .i64 a', .int .i64 b'] 40)) w1.heap.size 40 (Ent.mk k' d' s' u' a' b').cs := Blk.new _ _ _ rfl
      have HB := Lib.hid (hb1.alloc (o := .cells #[.int .u64 k', .int .i64 d', .int .i64 s', .int .i64 u', .int .i64 a', .int .i64 b'] 40) hb1.size)
      have HE := Lib.hid hE
      clear hE hb1
      go_wp2_with fail
      go_ret2
      exact ⟨rfl, HB.out⟩
set_option maxRecDepth 100000 in
set_option maxHeartbeats 4000000 in
theorem tnew_bad (x : Int) (W : World) (h : x < 1 ∨ 4096 < x) : Calls Try.prog 8 #[.int .i64 x] W (Gives W (.tuple #[.pointer none, .int .i64 1])) := by
  unfold Gives
  by_cases h1 : x < 1
  · go_enter Try.func8, Try.ntmps8
    go_wp2
    go_ret2
    exact ⟨rfl, (by repeat (first | exact Below.refl _ _ | (refine Below.setCell ?_ (by first | omega | (simp; done) | (simp; omega) | (simp at *; omega)) _) | (refine Below.alloc ?_ (by first | omega | (simp; done) | (simp; omega) | (simp at *; omega)) _) | refine Below.drew ?_ | (refine below_drewN ?_ _) | (refine Below.trans ?_ (Below.mono (by assumption) (by first | omega | (simp; done) | (simp; omega) | (simp at *; omega))))))⟩
  · have h2 : 4096 < x := by omega
    go_enter Try.func8, Try.ntmps8
    go_wp2
    go_ret2
    exact ⟨rfl, (by repeat (first | exact Below.refl _ _ | (refine Below.setCell ?_ (by first | omega | (simp; done) | (simp; omega) | (simp at *; omega)) _) | (refine Below.alloc ?_ (by first | omega | (simp; done) | (simp; omega) | (simp at *; omega)) _) | refine Below.drew ?_ | (refine below_drewN ?_ _) | (refine Below.trans ?_ (Below.mono (by assumption) (by first | omega | (simp; done) | (simp; omega) | (simp at *; omega))))))⟩
theorem info_slot : (Try.prog.info? 62).map (fun i => (i.zero, i.size, i.bytes)) = some (some (.agg (slotCs none)), 7, 56) := by kernel_rfl
theorem info_slot3 : ∃ i0, Try.prog.info? 62 = some i0 ∧ i0.zero = some (.agg (slotCs none)) ∧ i0.size = 7 ∧ i0.bytes = 56 := by
  have h := info_slot
  cases e : Try.prog.info? 62 with
  | none => rw [e] at h; cases h
  | some i0 =>
    rw [e] at h
    simp only [Option.map_some, Option.some.injEq, Prod.mk.injEq] at h
    exact ⟨i0, rfl, h.1, h.2.1, h.2.2⟩
set_option maxRecDepth 100000 in
set_option maxHeartbeats 4000000 in
theorem tnew_is (n : Nat) (W : World) (h1 : 0 < n) (h2 : n ≤ 4096) : Calls Try.prog 8 #[.int .i64 n] W fun e w' => ∃ tb sb, e = .returned (.tuple #[.pointer (some ⟨tb, 0, none⟩), .int .i64 0]) ∧ TabAt w' tb sb n (fun _ => none) ∧ W.heap.size ≤ tb ∧ W.heap.size ≤ sb ∧ Below W.heap.size W w' := by
  obtain ⟨i0, hi, hz0, hz1, hz2⟩ := info_slot3
  have hn1 : ¬ (n : Int) < 1 := by omega
  have hn2 : ¬ (4096 : Int) < (n : Int) := by omega
  have hmk := run_make (P := Try.prog) W 55 62 i0 _ Try.underlying55 hi hz0 .i64 .i64 n n (by omega) (Int.le_refl _) (by rw [hz2]; omega) (by omega)
  rw [Int.toNat_natCast, hz1, show (Value.agg (slotCs none)).cells = slotCs none from rfl, slotsA_none] at hmk
  go_enter Try.func8, Try.ntmps8
  go_wp2
  go_ret2
  refine ⟨W.heap.size + 1, rfl, W.heap.size, ⟨Blk.new _ _ _ (by simp), (Blk.new W 62 _ rfl).alloc _, h1, h2, by omega⟩, Nat.le_succ _, Nat.le_refl _, (below_new _ _).alloc (by rw [World.size_alloc]; exact Nat.le_succ _) _⟩
set_option maxHeartbeats 2000000 in
theorem clear_nil (W : World) : Calls Try.prog 16 #[.pointer none] W fun e w' => e = .returned (.tuple #[]) ∧ w' = W := by
  go_enter Try.func16, Try.ntmps16
  go_wp2
  exact bodyPost_end (results_none rfl _ _ _) rfl ⟨rfl, rfl⟩
/-- Cells stored one behind the other. -/
def setAll (cs : Array Value) : Nat → List Value → Array Value
  | _, [] => cs
  | o, v :: r => setAll (cs.setIfInBounds o v) (o + 1) r
theorem setAll_size : ∀ (vs : List Value) (o : Nat) (cs : Array Value), (setAll cs o vs).size = cs.size
  | [], _, _ => rfl
  | v :: r, o, cs => by
    unfold setAll
    rw [setAll_size r, Array.size_setIfInBounds]
theorem setAll_at : ∀ (vs : List Value) (o : Nat) (cs : Array Value) (j : Nat), j < cs.size → (setAll cs o vs)[j]? = if o ≤ j ∧ j < o + vs.length then vs[j - o]? else cs[j]?
  | [], o, cs, j, _ => by
    rw [if_neg (by simp only [List.length_nil]; omega)]
    rfl
  | v :: r, o, cs, j, hj => by
    unfold setAll
    rw [setAll_at r (o + 1) _ j (by rw [Array.size_setIfInBounds]; exact hj), List.length_cons]
    by_cases h1 : o + 1 ≤ j ∧ j < o + 1 + r.length
    · rw [if_pos h1, if_pos (by omega), show j - o = (j - (o + 1)) + 1 by omega, List.getElem?_cons_succ]
    · rw [if_neg h1]
      by_cases h2 : o = j
      · subst h2
        rw [if_pos (by omega), Array.getElem?_setIfInBounds_self_of_lt hj, Nat.sub_self, List.getElem?_cons_zero]
      · rw [if_neg (by omega), Array.getElem?_setIfInBounds_ne h2]
theorem setAll_whole (cs ds : Array Value) (h : ds.size = cs.size) : setAll cs 0 ds.toList = ds := by
  apply Array.ext_getElem?
  intro j
  by_cases hj : j < cs.size
  · rw [setAll_at _ _ _ _ hj, if_pos (by simp only [Array.length_toList]; omega), Nat.sub_zero, Array.getElem?_toList]
  · rw [Array.getElem?_eq_none (by rw [setAll_size]; omega), Array.getElem?_eq_none (by omega)]
theorem Blk.setCells {g : Nat} {t : TypeId} : ∀ (vs : List Value) (o : Nat) {_W : World} {_cs : Array Value}, Blk _W g t _cs → Blk (_W.setCells g o vs) g t (setAll _cs o vs)
  | [], _, _, _, h => h
  | v :: r, o, _, _, h => Blk.setCells r (o + 1) (h.set_ o v)
theorem far_cells (g : Nat) : ∀ (vs : List Value) (o : Nat) (W : World), Far (· = g) W (W.setCells g o vs)
  | [], _, _ => Far.of (Below.refl _ _)
  | v :: r, o, W => (Far.set (X := fun x => x = g) (p := ⟨g, o, none⟩) rfl v).trans (far_cells g r (o + 1) (W.setCell ⟨g, o, none⟩ v))
theorem zero_slots (n : Nat) : Builtin.zeroCells (slotCs none) n = slotsA n fun _ => none := by
  unfold Builtin.zeroCells slotsA
  rw [slotCs_size]
theorem one_slots (n : Nat) : ∀ v ∈ (slotsA n fun _ => none).toList, v.oneCell' = true := by
  intro v hv
  obtain ⟨j, hj, rfl⟩ := List.getElem_of_mem hv
  rw [Array.length_toList, slotsA_size] at hj
  have e := slotsA_at (n := n) (f := fun _ => none) (i := j / 7) (j := j % 7) (by omega) (by omega)
  rw [show j / 7 * 7 + j % 7 = j by omega] at e
  rw [Array.getElem_toList]
  rw [Array.getElem?_eq_getElem (by rw [slotsA_size]; exact hj)] at e
  have h7 : j % 7 < 7 := Nat.mod_lt _ (by decide)
  generalize j % 7 = r at e h7
  generalize (slotsA n fun _ => none)[j]'(by rw [slotsA_size]; exact hj) = v at e ⊢
  rcases r with _ | _ | _ | _ | _ | _ | _ | r
  all_goals first
    | (injection e with e; rw [e]; rfl)
    | omega
theorem run_clear {W : World} {tb sb n : Nat} {f : Nat → Option Ent} (h : TabAt W tb sb n f) : (Builtin.clear_ #[55] 0 #[.slice (some ⟨sb, 0, none⟩) n n]).run Try.prog W = .ok (.tuple #[]) (W.setCells sb 0 (slotsA n fun _ => none).toList) := by
  obtain ⟨i0, hi, hz0, hz1, hz2⟩ := info_slot3
  have hst := run_storeCells_cells (P := Try.prog) sb 0 (slotsA n fun _ => none).toList 0 W (fun j hj => by
    rw [Array.length_toList, slotsA_size] at hj
    simp only [Nat.zero_add]
    rw [h.slots.cell, Array.getElem?_eq_getElem (by rw [slotsA_size]; exact hj)]
    rfl) (fun j _ => h.slots.frozen _) (one_slots n)
  have hv : ∀ w, (zeroValue 62).run Try.prog w = .ok (.agg (slotCs none)) w := fun w => by simp [zeroValue, typeInfo, hi, hz0]
  have hn := h.pos
  obtain ⟨m, rfl⟩ : ∃ m, n = m + 1 := ⟨n - 1, by omega⟩
  rw [← zero_slots] at hst ⊢
  simp [Builtin.clear_, run_underlying Try.underlying55, hv, hst, show (Value.agg (slotCs none)).cells = slotCs none from rfl]
set_option maxRecDepth 100000 in
set_option maxHeartbeats 4000000 in
theorem clear_is {W : World} {tb sb n : Nat} {f : Nat → Option Ent} (h : TabAt W tb sb n f) : Calls Try.prog 16 #[.pointer (some ⟨tb, 0, none⟩)] W fun e w' => e = .returned (.tuple #[]) ∧ TabAt w' tb sb n (fun _ => none) ∧ Far (· = sb) W w' := by
  have hc : W.cell? ⟨tb, 0, none⟩ = some (.slice (some ⟨sb, 0, none⟩) n n) := h.tab.cell 0
  have hrun := run_clear h
  have hf := far_cells sb (slotsA n fun _ => none).toList 0 W
  have hs := Blk.setCells (slotsA n fun _ => none).toList 0 h.slots
  rw [setAll_whole _ _ (by rw [slotsA_size, slotsA_size])] at hs
  go_enter Try.func16, Try.ntmps16
  go_wp2
  exact bodyPost_end (results_none rfl _ _ _) rfl ⟨rfl, ⟨hf.blk h.tab h.ne, hs, h.pos, h.max, h.ne⟩, hf⟩
set_option maxHeartbeats 2000000 in
theorem tcount_nil (W : World) : Calls Try.prog 17 #[.pointer none] W (Gives W (.int .i64 0)) := by
  unfold Gives
  go_enter Try.func17, Try.ntmps17
  go_wp2
  go_ret
  exact ⟨rfl, (by repeat (first | exact Below.refl _ _ | (refine Below.setCell ?_ (by first | omega | (simp; done) | (simp; omega) | (simp at *; omega)) _) | (refine Below.alloc ?_ (by first | omega | (simp; done) | (simp; omega) | (simp at *; omega)) _) | refine Below.drew ?_ | (refine below_drewN ?_ _) | (refine Below.trans ?_ (Below.mono (by assumption) (by first | omega | (simp; done) | (simp; omega) | (simp at *; omega))))))⟩
/-- How many of the first slots have an entry. -/
def cntO (f : Nat → Option Ent) : Nat → Nat
  | 0 => 0
  | i + 1 => cntO f i + (if (f i).isSome then 1 else 0)
theorem cntO_le (f : Nat → Option Ent) : ∀ i, cntO f i ≤ i
  | 0 => Nat.le_refl _
  | i + 1 => by
    have := cntO_le f i
    unfold cntO
    split <;> omega
set_option maxRecDepth 100000 in
set_option maxHeartbeats 4000000 in
theorem tcount_is {W : World} {tb sb n : Nat} {f : Nat → Option Ent} (h : TabAt W tb sb n f) : Calls Try.prog 17 #[.pointer (some ⟨tb, 0, none⟩)] W (Gives W (.int .i64 (cntO f n))) := by
  unfold Gives
  have hc : W.cell? ⟨tb, 0, none⟩ = some (.slice (some ⟨sb, 0, none⟩) n n) := h.tab.cell 0
  go_enter Try.func17, Try.ntmps17
  go_wp2
  go_loopw [13, 3] (fun i c wr => ∃ k : Nat, k ≤ n ∧ i = .int .i64 (k : Int) ∧ c = .int .i64 (cntO f k : Int) ∧ Below W.heap.size W wr) (fun i _ _ => n - (intOf i).toNat)
  case atStart => exact ⟨0, Nat.zero_le _, rfl, rfl, Below.refl _ _⟩
  case round =>
    obtain ⟨k, hk, rfl, rfl, hB⟩ := hrel
    have hc1 := (hB.cell (p := ⟨tb, 0, none⟩) (cell_lt hc)).trans hc
    by_cases hlt : k < n
    · have bk : (k : Int) < (n : Int) := by omega
      have hcn := cntO_le f k
      have hm := h.max
      obtain ⟨o, ho⟩ : ∃ o, f k = o := ⟨_, rfl⟩
      obtain ⟨c0, c1, c2, c3, c4, c5, c6⟩ := (h.next hB).seven hlt ho
      have hsz := hB.size
      cases o with
      | none =>
        have hs : (cntO f (k + 1) : Int) = cntO f k := by
          rw [cntO, ho]
          rfl
        replace c0 : wr.cell? ⟨sb, k * 7, none⟩ = some (.int .u64 0) := c0
        replace c1 : wr.cell? ⟨sb, k * 7 + 1, none⟩ = some (.int .i64 0) := c1
        replace c2 : wr.cell? ⟨sb, k * 7 + 2, none⟩ = some (.int .i64 0) := c2
        replace c3 : wr.cell? ⟨sb, k * 7 + 3, none⟩ = some (.int .i64 0) := c3
        replace c4 : wr.cell? ⟨sb, k * 7 + 4, none⟩ = some (.int .i64 0) := c4
        replace c5 : wr.cell? ⟨sb, k * 7 + 5, none⟩ = some (.int .i64 0) := c5
        replace c6 : wr.cell? ⟨sb, k * 7 + 6, none⟩ = some (.bool false) := c6
        have HS := Lib.hid hs
        clear hs h ho
        go_wp2_with fail
        go_roundw
        case rel => exact ⟨k + 1, by omega, by go_num, by rw [HS.out], hB.alloc hsz _⟩
        case measure => simp [intOf]; omega
      | some y =>
        have hs : (cntO f (k + 1) : Int) = cntO f k + 1 := by
          rw [cntO, ho]
          rfl
        obtain ⟨k', d', s', u', a', b'⟩ := y
        replace c0 : wr.cell? ⟨sb, k * 7, none⟩ = some (.int .u64 k') := c0
        replace c1 : wr.cell? ⟨sb, k * 7 + 1, none⟩ = some (.int .i64 d') := c1
        replace c2 : wr.cell? ⟨sb, k * 7 + 2, none⟩ = some (.int .i64 s') := c2
        replace c3 : wr.cell? ⟨sb, k * 7 + 3, none⟩ = some (.int .i64 u') := c3
        replace c4 : wr.cell? ⟨sb, k * 7 + 4, none⟩ = some (.int .i64 a') := c4
        replace c5 : wr.cell? ⟨sb, k * 7 + 5, none⟩ = some (.int .i64 b') := c5
        replace c6 : wr.cell? ⟨sb, k * 7 + 6, none⟩ = some (.bool true) := c6
        have HS := Lib.hid hs
        clear hs h ho
        go_wp2_with fail
        go_roundw
        case rel => exact ⟨k + 1, by omega, by go_num, by rw [HS.out], hB.alloc hsz _⟩
        case measure => simp [intOf]; omega
    · obtain rfl : k = n := by omega
      have bk : ¬ (k : Int) < (k : Int) := by omega
      go_wp2
      go_ret
      exact ⟨rfl, hB⟩
set_option maxHeartbeats 2000000 in
theorem own_is (x : Ent) (W : World) : Calls Try.prog 10 #[x.v] W (Gives W x.v) := by
  unfold Gives Ent.v
  go_enter Try.func10, Try.ntmps10
  go_wp2
  have hr : Blk ((W.alloc (.cells #[.int .u64 x.k, .int .i64 x.d, .int .i64 x.s, .int .i64 x.u, .int .i64 x.a, .int .i64 x.b] 36)).alloc (.cells #[.int .u64 x.k, .int .i64 x.d, .int .i64 x.s, .int .i64 x.u, .int .i64 x.a, .int .i64 x.b] 40)) (W.heap.size + 1) 40 x.cs := Blk.new _ _ _ (by rw [World.size_alloc])
  obtain ⟨e0, e1, e2, e3, e4, e5⟩ := ent_cells hr
  exact bodyPost_ret (v := x.v) (by simp [results, Try.results10, go_sem, Ent.v, e0, e1, e2, e3, e4, e5]) rfl ⟨rfl, (below_new _ _).alloc (by rw [World.size_alloc]; exact Nat.le_succ _) _⟩
end Go.Proofs.Ytgmbigdkipkibaa
