/- The squares of a set, one after the other: the iterator, for every loop body that keeps what it must. -/
import Derived.Test.YtbfkkedcjodceaaGreatDoorBits
import Derived.Test.YtbfkkedcjodceaaGreatDoorSq
import Derived.RangeFuncBox
import Derived.RangeFuncCalls
import Derived.RangeFuncLeaves
import Derived.Shelf.Abstract
import Derived.OwnWalkIn
import Derived.TacticsInMore
import Derived.LoopNIn
import Derived.LoopIn
import Derived.Maps.AppendAt
import Derived.Lib.Hide
namespace Go.Proofs.YtbfkkedcjodceaaGreatDoor
open Go.RowKit Go.Shelf
open M (S)

theorem tz_key (x a : Nat) (hx : x < 18446744073709551616) (hx0 : x ≠ 0) (hlow : x &&& (18446744073709551616 - x) = a) :
    IntKind.u64.wrap (bits BinOp.and IntKind.u64 (x : Int) (IntKind.u64.wrap (-(x : Int))) * 285870213051353865) / 288230376151711744 = ((a * 285870213051353865 % 18446744073709551616 / 288230376151711744 : Nat) : Int) := by
  have e1 : IntKind.u64.wrap (-(x : Int)) = ((18446744073709551616 - x : Nat) : Int) := by rw [IntKind.wrap_u64]; omega
  rw [e1, u64_and_nat x _ hx (by omega), hlow, IntKind.wrap_u64]
  omega

set_option maxHeartbeats 400000 in
theorem tz_core (x k idx : Nat) (w : World) (hx0 : ((x : Int) == 0) = false)
    (key : IntKind.u64.wrap (bits BinOp.and IntKind.u64 (x : Int) (IntKind.u64.wrap (-(x : Int))) * 285870213051353865) / 288230376151711744 = (idx : Int))
    (hi : idx < 64) (hk : k < 64) (hcell : w.cell? ⟨1, idx, none⟩ = some (.int .u8 k)) :
    Calls Tryz.prog 143 #[.int .u64 x] w fun e w' => e = .returned (.int .i64 k) ∧ w = w' := by
  go_enter Tryz.func143, Tryz.ntmps143
  go_wp2_with (simp only [key])
  go_ret
  exact ⟨rfl, rfl⟩

/-- The number of the lowest bit of a word that is not 0. -/
theorem tz_any (x : Nat) (w : World) (hx : x < 18446744073709551616) (hx0 : x ≠ 0) (hT : Tab w) :
    Calls Tryz.prog 143 #[.int .u64 x] w fun e w' => e = .returned (.int .i64 (Lib.ctz 64 x)) ∧ w = w' := by
  obtain ⟨hlow, hk⟩ := Lib.lowest_bit 64 x hx0 hx
  obtain ⟨hi, htab⟩ := Lib.deBruijn64_at _ hk
  have hcell := hT _ hi
  rw [htab] at hcell
  exact tz_core x _ _ w (by simp; omega) (tz_key x _ hx hx0 hlow) hi hk hcell

/-- What a round keeps: what lay below n₀, and the sets in variables that were made at or behind B. -/
def Kept (n₀ B : Nat) (W W' : World) : Prop := Below n₀ W W' ∧ ∀ b c f, B ≤ b → W.heap[b]? = some (.cells c 99 f) → W'.heap[b]? = some (.cells c 99 f)
theorem Kept.trans {n₀ B : Nat} {a b c : World} (h : Kept n₀ B a b) (k : Kept n₀ B b c) : Kept n₀ B a c :=
  ⟨h.1.trans k.1, fun g c f hg e => k.2 g c f hg (h.2 g c f hg e)⟩
theorem Kept.refl (n₀ B : Nat) (a : World) : Kept n₀ B a a := ⟨Below.refl _ _, fun _ _ _ _ h => h⟩
theorem Kept.put {n₀ B : Nat} {w : World} (hn : n₀ ≤ w.heap.size) (W : World) (l : Nat) (o o' : Obj) (hl : w.heap.size ≤ l) (h : W.heap[l]? = some o) (ho : o.isCells = false) (hw : o.isWalk = false) : Kept n₀ B W (W.putObj l o') :=
  ⟨belowK_b hn W l o o' hl h ho hw, fun b _ _ _ e => by
    have hne : b ≠ l := by
      rintro rfl
      rw [h] at e
      cases e
      cases ho
    have hlt : b < W.heap.size := (Array.getElem?_eq_some_iff.1 e).1
    exact ((grownBy_putObj' W l o').block b hlt (fun x => hne (by injection x))).trans e⟩
theorem Kept.next {n₀ B : Nat} {W W' : World} (hn : n₀ ≤ W.heap.size) (h : Below W.heap.size W W') : Kept n₀ B W W' :=
  ⟨h.mono hn, fun b _ _ _ e => (h.block b (Array.getElem?_eq_some_iff.1 e).1).trans e⟩
theorem Kept.set {n₀ B : Nat} {W : World} {p : Addr} (h1 : n₀ ≤ p.block) (h2 : p.block < B) (u : Value) : Kept n₀ B W (W.setCell p u) :=
  ⟨(Below.refl _ _).setCell h1 u, fun b _ _ hb e => (Below.heap_setCell W p u b (by omega)).trans e⟩

/-- A round that appends to a slice of its own, whose elements are no sets, and stores that into a variable ahead of the loop. -/
theorem Kept.append {n₀ B b : Nat} {W w1 : World} {e : TypeId} {size k : Nat} {v v' : Value} {xs : List Value} {tmp : Obj} (hb : Below n₀ W (w1.setCell ⟨b, 0, none⟩ v')) (hbB : b < B) (he : e ≠ 99)
    (hrow : W.ownsRow n₀ e size v k xs) (hgrow : (W.alloc tmp).grownBy w1 v.ownBlock) : Kept n₀ B W (w1.setCell ⟨b, 0, none⟩ v') :=
  ⟨hb, fun g c f hg h => by
    have hlt : g < W.heap.size := (Array.getElem?_eq_some_iff.1 h).1
    have h1 : (W.alloc tmp).heap[g]? = some (.cells c 99 f) := (Below.heap_alloc W tmp g hlt).trans h
    have hne : some g ≠ v.ownBlock := by
      rcases hrow.2 with ⟨rfl, _⟩ | ⟨g', cap, cur, rfl, _, hgb, _⟩
      · simp [Value.ownBlock]
      · intro e'
        obtain rfl : g = g' := by simpa [Value.ownBlock] using e'
        rw [hgb] at h
        injection h with h
        injection h with _ h2 _
        exact he h2
    have h2 : w1.heap[g]? = some (.cells c 99 f) := (hgrow.block g (by simp; omega) hne).trans h1
    exact (Below.heap_setCell w1 ⟨b, 0, none⟩ v' g (by simp; omega)).trans h2⟩

abbrev encs (x : Fin 90) : Array Value := #[.int .i64 (x.val : Int)]

theorem dec_and (x : Nat) (h0 : x ≠ 0) (hx : x < 18446744073709551616) : bits .and .u64 (x : Int) ((x : Int) - 1) = ((x &&& (x - 1) : Nat) : Int) := by
  rw [show (x : Int) - 1 = ((x - 1 : Nat) : Int) by omega]
  exact u64_and_nat x (x - 1) hx (by omega)

set_option maxRecDepth 100000 in
set_option maxHeartbeats 1000000 in
theorem squares1_in (n : Nat) (hn : 1 ≤ n) (l Bn n₀ B : Nat) (s : S) (J Jx : List (Fin 90) → World → Prop) (W : World) (hJ : AbidesFrom W.heap.size J)
    (hY : ∀ pre x W1, J pre W1 → pre.length < s.sqs.length → YieldAt Fence.wide (n - 1) Tryz.prog l (encs x) W1 fun e W' =>
      (e = .returned (.bool true) ∧ J (pre ++ [x]) W' ∧ Kept n₀ B W1 W') ∨ (e = .returned (.bool false) ∧ Jx (pre ++ [x]) W'))
    (hBn : W.cell? ⟨Bn, 0, none⟩ = some (.int .u64 s.lo)) (hBn' : W.cell? ⟨Bn, 1, none⟩ = some (.int .u64 s.hi)) (hB : B ≤ W.heap.size) (hT : Tab W) (hg : 1 < n₀) (h0 : J [] W) :
    CallsIn Fence.wide n Tryz.prog 142 #[.func (.yield l) #[] #[], .pointer (some ⟨Bn, 0, none⟩)] W fun e W' => (∃ v, e = .returned v) ∧
      ((∃ ys, ys = s.sqs ∧ J ys W') ∨ (∃ pre, pre <+: s.sqs ∧ Jx pre W')) := by
  refine callsIn_of_wp Tryz.func142 rfl trivial ?_ rfl
  simp only [Tryz.ntmps142, List.size_toArray, List.length_cons, List.length_nil, Nat.reduceAdd, Nat.reduceSub, Array.replicate_succ, Array.replicate_zero, List.push_toArray, List.append_toArray, List.nil_append, List.cons_append]
  gi_wp2_with (refine ⟨trivial, ?_⟩; gi_at_call 141; refine (callsIn_wide.2 (clean_any s _)).mono ?_; rintro e w1 ⟨rfl, hb⟩)
  have hz := hb.size
  have hl : s.clean.lo < 35184372088832 := M.cl_lt _
  have hh : s.clean.hi < 35184372088832 := M.cl_lt _
  have hT1 : Tab w1 := hT.next hb
  have hJ1 : J [] (w1.alloc (.cells #[.int .u64 s.clean.lo, .int .u64 s.clean.hi] 99)) :=
    hJ _ _ _ none (hJ _ _ _ none h0 ⟨hb.os, hb.tape, hb.output, hb.size, fun i hi _ => hb.block i hi⟩ (by simp)) (World.grownBy_alloc _ _ none) (by simp)
  obtain ⟨W1, hW1⟩ : ∃ W1, w1.alloc (.cells #[.int .u64 s.clean.lo, .int .u64 s.clean.hi] 99) = W1 := ⟨_, rfl⟩
  have hc1 : W1.heap[w1.heap.size]? = some (.cells #[.int .u64 s.clean.lo, .int .u64 s.clean.hi] 99 (0, 0)) := by rw [← hW1]; exact World.alloc_heap_new _ _
  have hT2 : Tab W1 := by rw [← hW1]; exact hT1.next ((Below.refl _ _).alloc (Nat.le_refl _) _)
  rw [hW1] at hJ1 ⊢
  obtain ⟨Bc, hBc⟩ : ∃ Bc, w1.heap.size = Bc := ⟨_, rfl⟩
  rw [hBc] at hc1 ⊢
  have hBBc : B ≤ Bc := by omega
  clear hW1 hBc hT1 hb hz h0 hBn hBn' hT hJ
  gi_loopw [4] (fun p wr => ∃ (pre : List (Fin 90)) (x : Nat), p = .int .u64 x ∧ x < 35184372088832 ∧ s.sqs = pre ++ M.sqw x s.clean.hi ∧ wr.heap[Bc]? = some (.cells #[.int .u64 s.clean.lo, .int .u64 s.clean.hi] 99 (0, 0)) ∧ Tab wr ∧ J pre wr)
    (fun p _ => (intOf p).toNat)
  case atStart => exact ⟨[], s.clean.lo, rfl, hl, rfl, hc1, hT2, hJ1⟩
  case round =>
    obtain ⟨pre, x, rfl, hx, hs, hc, hTr, hJr⟩ := hrel
    have hcell : wr.cell? ⟨Bc, 1, none⟩ = some (.int .u64 s.clean.hi) := by simp [World.cell?, hc]
    by_cases h0 : x = 0
    · have hne : ((x : Int) != 0) = false := by rw [h0]; rfl
      have Hs0 : Hid (s.sqs = pre ++ M.sqw 0 s.clean.hi) := by rw [h0] at hs; exact hs
      clear hs h0 hJ1 hT2 hc1 hl hc
      gi_wp2
      gi_loopw [5] (fun p wq => ∃ (pre2 : List (Fin 90)) (y : Nat), p = .int .u64 y ∧ y < 35184372088832 ∧ s.sqs = pre2 ++ M.sqw 0 y ∧ Tab wq ∧ J pre2 wq)
        (fun p _ => (intOf p).toNat)
      case atStart => exact ⟨pre, s.clean.hi, rfl, hh, Hs0.out, hTr, hJr⟩
      case round =>
        obtain ⟨pre2, y, rfl, hyx, hs, hTq, hJq⟩ := hrel
        by_cases h0 : y = 0
        · have hne2 : ((y : Int) != 0) = false := by rw [h0]; rfl
          have Hs : Hid (s.sqs = pre2) := by rw [h0, M.sqw_zero, List.append_nil] at hs; exact hs
          clear hs h0
          gi_wp2
          go_end0
          exact ⟨⟨_, rfl⟩, .inl ⟨pre2, Hs.out.symm, hJq⟩⟩
        · have hne2 : ((y : Int) != 0) = true := by rw [bne_iff_ne]; omega
          obtain ⟨k, hk, hq, hlt⟩ := M.sq_high hyx h0
          have hz64 : Lib.ctz 64 y < 64 := (M.low_bit y (by omega) h0).2.2.2
          have htz : Calls Tryz.prog 143 #[.int .u64 y] wr fun e w' => e = .returned (.int .i64 (Lib.ctz 64 y)) ∧ wr = w' := tz_any y wr (by omega) h0 hTq
          have hda := dec_and y h0 (by omega)
          have h1y : 1 ≤ y := by omega
          obtain ⟨fn, tmps, assign, body, hy, hR⟩ := hY pre2 k wr hJq (by rw [hs, hq]; simp)
          simp only [encs, hk] at hy
          rw [show ((45 + Lib.ctz 64 y : Nat) : Int) = 45 + (Lib.ctz 64 y : Int) from by omega] at hy
          have Hs : Hid (s.sqs = (pre2 ++ [k]) ++ M.sqw 0 (y &&& (y - 1))) := by rw [hs, hq]; show _ = _; simp
          have Htz := Lib.hid htz
          clear hs hq h0 hcell hk htz hY
          gi_wp2_with (refine ⟨trivial, ?_⟩; gi_at_call 143; refine (callsIn_wide.2 Htz.out).mono ?_; rintro e w' ⟨rfl, rfl⟩)
          refine hR.mono ?_
          rintro e W3 (⟨rfl, hJ3, hk3⟩ | ⟨rfl, hJx3⟩)
          · gi_wp2
            go_roundw
            case rel => exact ⟨pre2 ++ [k], y &&& (y - 1), rfl, by omega, Hs.out, hTq.below hk3.1 hg, hJ3⟩
            case measure => simp [intOf]; omega
          · gi_wp2
            refine bodyPost_ret (results_none rfl _ _ _) rfl ?_
            exact ⟨⟨_, rfl⟩, .inr ⟨pre2 ++ [k], ⟨_, Hs.out.symm⟩, hJx3⟩⟩
    · have hne : ((x : Int) != 0) = true := by rw [bne_iff_ne]; omega
      obtain ⟨k, hk, hq, hlt⟩ := M.sq_low (hi := s.clean.hi) hx h0
      have htz : Calls Tryz.prog 143 #[.int .u64 x] wr fun e w' => e = .returned (.int .i64 (k.val : Int)) ∧ wr = w' := by
        rw [hk]; exact tz_any x wr (by omega) h0 hTr
      have hda := dec_and x h0 (by omega)
      have h1x : 1 ≤ x := by omega
      obtain ⟨fn, tmps, assign, body, hy, hR⟩ := hY pre k wr hJr (by rw [hs, hq]; simp)
      have Hs : Hid (s.sqs = (pre ++ [k]) ++ M.sqw (x &&& (x - 1)) s.clean.hi) := by rw [hs, hq]; show _ = _; simp
      have Htz := Lib.hid htz
      have Hc := Lib.hid hc
      clear hs hq h0 hJ1 hT2 hc1 hl hc hcell hk htz hY
      gi_wp2_with (refine ⟨trivial, ?_⟩; gi_at_call 143; refine (callsIn_wide.2 Htz.out).mono ?_; rintro e w' ⟨rfl, rfl⟩)
      refine hR.mono ?_
      rintro e W3 (⟨rfl, hJ3, hk3⟩ | ⟨rfl, hJx3⟩)
      · gi_wp2
        go_roundw
        case rel => exact ⟨pre ++ [k], x &&& (x - 1), rfl, by omega, Hs.out, hk3.2 Bc _ _ hBBc Hc.out, hTr.below hk3.1 hg, hJ3⟩
        case measure => simp [intOf]; omega
      · gi_wp2
        refine bodyPost_ret (results_none rfl _ _ _) rfl ?_
        exact ⟨⟨_, rfl⟩, .inr ⟨pre ++ [k], ⟨_, Hs.out.symm⟩, hJx3⟩⟩

set_option maxHeartbeats 400000 in
theorem squares_any (s : S) (w : World) :
    Calls Tryz.prog 138 #[.agg #[.int .u64 s.lo, .int .u64 s.hi]] w fun e w' => e = .returned (.func (.func 142) #[] #[.pointer (some ⟨w.heap.size, 0, none⟩)]) ∧ w.alloc (.cells #[.int .u64 s.lo, .int .u64 s.hi] 99) = w' := by
  go_enter Tryz.func138, Tryz.ntmps138
  go_wp2
  go_ret
  exact ⟨rfl, rfl⟩

/-- **The iterator's contract**: all squares of the set, rising; or some of them, from the first on, where a round has said 'no more'. -/
theorem squares_stops (n : Nat) (hn : 1 ≤ n) (Bn n₀ B : Nat) (s : S) (w : World) (hlt : Bn < w.heap.size) (hBn : w.cell? ⟨Bn, 0, none⟩ = some (.int .u64 s.lo)) (hBn' : w.cell? ⟨Bn, 1, none⟩ = some (.int .u64 s.hi))
    (hB : B ≤ w.heap.size) (hT : Tab w) (hg : 1 < n₀) :
    SeqStopsK Fence.wide n Tryz.prog 142 #[.pointer (some ⟨Bn, 0, none⟩)] encs (Kept n₀ B) (fun ys => ys = s.sqs) (fun pre => pre <+: s.sqs) s.sqs.length w := fun l J Jx W hW hJ _ hY h0 =>
  squares1_in n hn l Bn n₀ B s J Jx W hJ hY ((hW.cell (p := ⟨Bn, 0, none⟩) hlt).trans hBn) ((hW.cell (p := ⟨Bn, 1, none⟩) hlt).trans hBn') (Nat.le_trans hB hW.size) (hT.next hW) hg h0
end Go.Proofs.YtbfkkedcjodceaaGreatDoor
