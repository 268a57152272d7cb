/- Merged: Bits BitsC BitsD BitsE BitsF. -/
import Derived.Test.YtbdgbihdhbjljaaGreatDoorBase
import Derived.WalkKit
import Derived.WalkSpells
import Derived.WalkLawsBesides
import Derived.Outline
import Derived.Laws.BitsAllLaws
import Derived.Deep.RegionWith
import Derived.Deep.RegionHeld3
import Derived.Test.YtbdgbihdhbjljaaGreatDoorSq
import Derived.RangeFuncBox
import Derived.RangeFuncCalls
import Derived.RangeFuncLeaves
import Derived.Shelf.Abstract
import Derived.OwnWalkIn
import Derived.TacticsInMore
import Derived.LoopNIn
import Derived.LoopIn
import Derived.Maps.AppendAt
import Derived.Lib.Hide
import Derived.Laws.OwnMore
import Derived.RangeFuncNested
import Derived.Deep.QuietTactic
import Derived.BigQuiet

namespace Go.Proofs.YtbdgbihdhbjljaaGreatDoor
open Go.RowKit
open M (S)

theorem w_and (x : Nat) (hx : x < 18446744073709551616) : bits .and .u64 (x : Int) 35184372088831 = ((M.cl x : Nat) : Int) := by
  rw [← M.cl_and_mask]
  exact u64_and_nat x 35184372088831 hx (by decide)

theorem w_not (x : Nat) (hx : x < 18446744073709551616) : bits .xor .u64 IntKind.u64.max (x : Int) = ((18446744073709551615 - x : Nat) : Int) := by
  have h := u64_xor_nat 18446744073709551615 x (by decide) hx
  have e : (18446744073709551615 : Nat) ^^^ x = 18446744073709551615 - x := by
    apply Nat.eq_of_testBit_eq
    intro i
    rw [M.not_testBit x i hx, Nat.testBit_xor, show (18446744073709551615 : Nat) = 2 ^ 64 - 1 from by decide, Nat.testBit_two_pow_sub_one]
    by_cases hi : i < 64
    · simp [hi]
    · have : x.testBit i = false := Nat.testBit_lt_two_pow (Nat.lt_of_lt_of_le hx (show (2 : Nat) ^ 64 ≤ 2 ^ i from Nat.pow_le_pow_right (by decide) (by omega)))
      simp [hi, this]
  rw [e] at h
  exact h

set_option maxHeartbeats 400000 in
theorem clean_any (s : S) (w : World) :
    Calls Tryz.prog 248 #[.agg #[.int .u64 s.lo, .int .u64 s.hi]] w fun e w' => e = .returned (.agg #[.int .u64 s.clean.lo, .int .u64 s.clean.hi]) ∧ Below w.heap.size w w' := by
  have e1 := w_and s.lo s.hlo
  have e2 := w_and s.hi s.hhi
  go_enter Tryz.func248, Tryz.ntmps248
  go_wp2
  exact bodyPost_ret (v := .agg #[.int .u64 s.clean.lo, .int .u64 s.clean.hi]) (by simp [results, Tryz.results248, go_sem, S.clean]) rfl ⟨rfl, ((Below.refl _ _).alloc (Nat.le_refl _) _).alloc (by simp) _⟩

set_option maxHeartbeats 400000 in
theorem or_any (s t : S) (w : World) :
    Calls Tryz.prog 221 #[.agg #[.int .u64 s.lo, .int .u64 s.hi], .agg #[.int .u64 t.lo, .int .u64 t.hi]] w fun e w' => e = .returned (.agg #[.int .u64 (s.or t).lo, .int .u64 (s.or t).hi]) ∧ Below w.heap.size w w' := by
  have e1 : bits .or .u64 (s.lo : Int) (t.lo : Int) = ((s.lo ||| t.lo : Nat) : Int) := u64_or_nat _ _ s.hlo t.hlo
  have e2 : bits .or .u64 (s.hi : Int) (t.hi : Int) = ((s.hi ||| t.hi : Nat) : Int) := u64_or_nat _ _ s.hhi t.hhi
  have k1 : s.lo ||| t.lo < 18446744073709551616 := Nat.or_lt_two_pow (n := 64) s.hlo t.hlo
  have k2 : s.hi ||| t.hi < 18446744073709551616 := Nat.or_lt_two_pow (n := 64) s.hhi t.hhi
  go_enter Tryz.func221, Tryz.ntmps221
  go_wp2_with fail
  refine (clean_any ⟨s.lo ||| t.lo, s.hi ||| t.hi, k1, k2⟩ _).mono ?_
  rintro e w1 ⟨rfl, hb⟩
  obtain ⟨hc, hf⟩ := bcell hb
  have hz := hb.size
  simp at hz
  go_wp2
  exact bodyPost_ret (v := .agg #[.int .u64 (s.or t).lo, .int .u64 (s.or t).hi]) (by simp [results, Tryz.results221, go_sem, S.or, S.clean, M.orW, hc]) rfl ⟨rfl, (by repeat (first | exact Below.refl _ _ | (refine Below.setCell ?_ (by first | omega | (simp; done) | (simp; omega) | (simp at *; omega)) _) | (refine Below.alloc ?_ (by first | omega | (simp; done) | (simp; omega) | (simp at *; omega)) _) | refine Below.drew ?_ | (refine below_drewN ?_ _) | (refine Below.trans ?_ (Below.mono (by assumption) (by first | omega | (simp; done) | (simp; omega) | (simp at *; omega))))))⟩




set_option maxHeartbeats 400000 in
theorem single_any (n : Int) (w : World) :
    Calls Tryz.prog 222 #[.int .i64 n] w fun e w' => e = .returned (.agg #[.int .u64 (S.single n).lo, .int .u64 (S.single n).hi]) ∧ Below w.heap.size w w' := by
  by_cases h0 : 0 ≤ n ∧ n < 90
  · have e1 : decide (n < 0) = false := by simp; omega
    have e2 : decide (90 ≤ n) = false := by simp; omega
    by_cases h1 : n < 45
    · have k := M.sgLo_lt n
      have q : IntKind.u64.wrap (2 ^ n.toNat) = ((S.single n).lo : Int) := by
        rw [IntKind.wrap_u64]
        show _ = ((M.sgLo n : Nat) : Int)
        unfold M.sgLo at k ⊢
        rw [if_pos ⟨h0.1, h1⟩] at k ⊢
        rw [show (2 : Int) ^ n.toNat = ((2 ^ n.toNat : Nat) : Int) from by simp]
        generalize 2 ^ n.toNat = p at k ⊢
        omega
      have Q0 : Hid ((S.single n).hi = 0) := by show _ = _; simp only [S.single, M.sgHi]; rw [if_neg (by omega)]
      go_enter Tryz.func222, Tryz.ntmps222
      go_wp2
      exact bodyPost_ret (v := .agg #[.int .u64 (S.single n).lo, .int .u64 (S.single n).hi]) (by simp [results, Tryz.results222, go_sem, Q0.out]) rfl ⟨rfl, (by repeat (first | exact Below.refl _ _ | (refine Below.setCell ?_ (by first | omega | (simp; done) | (simp; omega) | (simp at *; omega)) _) | (refine Below.alloc ?_ (by first | omega | (simp; done) | (simp; omega) | (simp at *; omega)) _) | refine Below.drew ?_ | (refine below_drewN ?_ _) | (refine Below.trans ?_ (Below.mono (by assumption) (by first | omega | (simp; done) | (simp; omega) | (simp at *; omega))))))⟩
    · have k := M.sgHi_lt n
      have h2 : 45 ≤ n := by omega
      have q : IntKind.u64.wrap (2 ^ (n - 45).toNat) = ((S.single n).hi : Int) := by
        rw [IntKind.wrap_u64]
        show _ = ((M.sgHi n : Nat) : Int)
        unfold M.sgHi at k ⊢
        rw [if_pos ⟨h2, h0.2⟩] at k ⊢
        rw [show (2 : Int) ^ (n - 45).toNat = ((2 ^ (n - 45).toNat : Nat) : Int) from by simp]
        generalize 2 ^ (n - 45).toNat = p at k ⊢
        omega
      have Q0 : Hid ((S.single n).lo = 0) := by show _ = _; simp only [S.single, M.sgLo]; rw [if_neg (by omega)]
      go_enter Tryz.func222, Tryz.ntmps222
      go_wp2
      exact bodyPost_ret (v := .agg #[.int .u64 (S.single n).lo, .int .u64 (S.single n).hi]) (by simp [results, Tryz.results222, go_sem, Q0.out]) rfl ⟨rfl, (by repeat (first | exact Below.refl _ _ | (refine Below.setCell ?_ (by first | omega | (simp; done) | (simp; omega) | (simp at *; omega)) _) | (refine Below.alloc ?_ (by first | omega | (simp; done) | (simp; omega) | (simp at *; omega)) _) | refine Below.drew ?_ | (refine below_drewN ?_ _) | (refine Below.trans ?_ (Below.mono (by assumption) (by first | omega | (simp; done) | (simp; omega) | (simp at *; omega))))))⟩
  · have Q0 : Hid ((S.single n).lo = 0) := by show _ = _; simp only [S.single, M.sgLo]; rw [if_neg (by omega)]
    have Q1 : Hid ((S.single n).hi = 0) := by show _ = _; simp only [S.single, M.sgHi]; rw [if_neg (by omega)]
    by_cases h1 : n < 0
    · go_enter Tryz.func222, Tryz.ntmps222
      go_wp2
      exact bodyPost_ret (v := .agg #[.int .u64 (S.single n).lo, .int .u64 (S.single n).hi]) (by simp [results, Tryz.results222, go_sem, Q0.out, Q1.out]) rfl ⟨rfl, (by repeat (first | exact Below.refl _ _ | (refine Below.setCell ?_ (by first | omega | (simp; done) | (simp; omega) | (simp at *; omega)) _) | (refine Below.alloc ?_ (by first | omega | (simp; done) | (simp; omega) | (simp at *; omega)) _) | refine Below.drew ?_ | (refine below_drewN ?_ _) | (refine Below.trans ?_ (Below.mono (by assumption) (by first | omega | (simp; done) | (simp; omega) | (simp at *; omega))))))⟩
    · have h2 : 90 ≤ n := by omega
      go_enter Tryz.func222, Tryz.ntmps222
      go_wp2
      exact bodyPost_ret (v := .agg #[.int .u64 (S.single n).lo, .int .u64 (S.single n).hi]) (by simp [results, Tryz.results222, go_sem, Q0.out, Q1.out]) rfl ⟨rfl, (by repeat (first | exact Below.refl _ _ | (refine Below.setCell ?_ (by first | omega | (simp; done) | (simp; omega) | (simp at *; omega)) _) | (refine Below.alloc ?_ (by first | omega | (simp; done) | (simp; omega) | (simp at *; omega)) _) | refine Below.drew ?_ | (refine below_drewN ?_ _) | (refine Below.trans ?_ (Below.mono (by assumption) (by first | omega | (simp; done) | (simp; omega) | (simp at *; omega))))))⟩

set_option maxHeartbeats 400000 in
theorem with_any (s : S) (n : Int) (w : World) :
    Calls Tryz.prog 197 #[.agg #[.int .u64 s.lo, .int .u64 s.hi], .int .i64 n] w fun e w' => e = .returned (.agg #[.int .u64 (s.put n).lo, .int .u64 (s.put n).hi]) ∧ Below w.heap.size w w' := by
  go_enter Tryz.func197, Tryz.ntmps197
  go_wp2
  go_region_with (first | (go_at_call 222; refine (single_any _ _).mono ?_; rintro e w1 ⟨rfl, hb1⟩; obtain ⟨hc1, hf1⟩ := bcell hb1; (have hz1 : w.heap.size + 1 < w1.heap.size := by (have := hb1.size; simp at this; omega)); have hy1 : w.heap.size < w1.heap.size := by omega) | (go_at_call 221; refine (or_any s (S.single n) _).mono ?_; rintro e w2 ⟨rfl, hb2⟩; obtain ⟨hc2, hf2⟩ := bcell hb2; have hz2 := hb2.size))
  all_goals go_wp2
  all_goals exact bodyPost_ret (v := .agg #[.int .u64 (s.put n).lo, .int .u64 (s.put n).hi]) (by simp [results, Tryz.results197, go_sem, S.put, hc1, hc2, hz1]) rfl ⟨rfl, (by repeat (first | exact Below.refl _ _ | (refine Below.setCell ?_ (by first | omega | (simp; done) | (simp; omega) | (simp at *; omega)) _) | (refine Below.alloc ?_ (by first | omega | (simp; done) | (simp; omega) | (simp at *; omega)) _) | refine Below.drew ?_ | (refine below_drewN ?_ _) | (refine Below.trans ?_ (Below.mono (by assumption) (by first | omega | (simp; done) | (simp; omega) | (simp at *; omega))))))⟩


theorem eql_set (a b c d : Int) (W : World) : (binOp .eql 155 (.agg #[.int .u64 a, .int .u64 b]) (.agg #[.int .u64 c, .int .u64 d])).run Tryz.prog W = .ok (.bool (a == c && b == d)) W := by
  cases h1 : (a == c) <;> cases h2 : (b == d) <;> go_simp
theorem neq_set (a b c d : Int) (W : World) : (binOp .neq 155 (.agg #[.int .u64 a, .int .u64 b]) (.agg #[.int .u64 c, .int .u64 d])).run Tryz.prog W = .ok (.bool (!(a == c && b == d))) W := by
  cases h1 : (a == c) <;> cases h2 : (b == d) <;> go_simp

end Go.Proofs.YtbdgbihdhbjljaaGreatDoor

namespace Go.Proofs.YtbdgbihdhbjljaaGreatDoor
open Go.RowKit Go.Shelf
open M (S)

theorem tz_key (x a : Nat) (hx : x < 18446744073709551616) (hx0 : x ≠ 0) (hlow : x &&& (18446744073709551616 - x) = a) :
    IntKind.u64.wrap (bits BinOp.and IntKind.u64 (x : Int) (IntKind.u64.wrap (-(x : Int))) * 285870213051353865) / 288230376151711744 = ((a * 285870213051353865 % 18446744073709551616 / 288230376151711744 : Nat) : Int) := by
  have e1 : IntKind.u64.wrap (-(x : Int)) = ((18446744073709551616 - x : Nat) : Int) := by rw [IntKind.wrap_u64]; omega
  rw [e1, u64_and_nat x _ hx (by omega), hlow, IntKind.wrap_u64]
  omega

set_option maxHeartbeats 400000 in
theorem tz_core (x k idx : Nat) (w : World) (hx0 : ((x : Int) == 0) = false)
    (key : IntKind.u64.wrap (bits BinOp.and IntKind.u64 (x : Int) (IntKind.u64.wrap (-(x : Int))) * 285870213051353865) / 288230376151711744 = (idx : Int))
    (hi : idx < 64) (hk : k < 64) (hcell : w.cell? ⟨1, idx, none⟩ = some (.int .u8 k)) :
    Calls Tryz.prog 250 #[.int .u64 x] w fun e w' => e = .returned (.int .i64 k) ∧ w = w' := by
  go_enter Tryz.func250, Tryz.ntmps250
  go_wp2_with (simp only [key])
  go_ret
  exact ⟨rfl, rfl⟩

/-- The number of the lowest bit of a word that is not 0. -/
theorem tz_any (x : Nat) (w : World) (hx : x < 18446744073709551616) (hx0 : x ≠ 0) (hT : Tab w) :
    Calls Tryz.prog 250 #[.int .u64 x] w fun e w' => e = .returned (.int .i64 (Lib.ctz 64 x)) ∧ w = w' := by
  obtain ⟨hlow, hk⟩ := Lib.lowest_bit 64 x hx0 hx
  obtain ⟨hi, htab⟩ := Lib.deBruijn64_at _ hk
  have hcell := hT _ hi
  rw [htab] at hcell
  exact tz_core x _ _ w (by simp; omega) (tz_key x _ hx hx0 hlow) hi hk hcell

/-- What a round keeps: what lay below n₀, and the sets in variables that were made at or behind B. -/
def Kept (n₀ B : Nat) (W W' : World) : Prop := Below n₀ W W' ∧ ∀ b c f, B ≤ b → W.heap[b]? = some (.cells c 155 f) → W'.heap[b]? = some (.cells c 155 f)
theorem Kept.trans {n₀ B : Nat} {a b c : World} (h : Kept n₀ B a b) (k : Kept n₀ B b c) : Kept n₀ B a c :=
  ⟨h.1.trans k.1, fun g c f hg e => k.2 g c f hg (h.2 g c f hg e)⟩
theorem Kept.refl (n₀ B : Nat) (a : World) : Kept n₀ B a a := ⟨Below.refl _ _, fun _ _ _ _ h => h⟩
theorem Kept.put {n₀ B : Nat} {w : World} (hn : n₀ ≤ w.heap.size) (W : World) (l : Nat) (o o' : Obj) (hl : w.heap.size ≤ l) (h : W.heap[l]? = some o) (ho : o.isCells = false) (hw : o.isWalk = false) : Kept n₀ B W (W.putObj l o') :=
  ⟨belowK_b hn W l o o' hl h ho hw, fun b _ _ _ e => by
    have hne : b ≠ l := by
      rintro rfl
      rw [h] at e
      cases e
      cases ho
    have hlt : b < W.heap.size := (Array.getElem?_eq_some_iff.1 e).1
    exact ((grownBy_putObj' W l o').block b hlt (fun x => hne (by injection x))).trans e⟩
theorem Kept.next {n₀ B : Nat} {W W' : World} (hn : n₀ ≤ W.heap.size) (h : Below W.heap.size W W') : Kept n₀ B W W' :=
  ⟨h.mono hn, fun b _ _ _ e => (h.block b (Array.getElem?_eq_some_iff.1 e).1).trans e⟩
theorem Kept.set {n₀ B : Nat} {W : World} {p : Addr} (h1 : n₀ ≤ p.block) (h2 : p.block < B) (u : Value) : Kept n₀ B W (W.setCell p u) :=
  ⟨(Below.refl _ _).setCell h1 u, fun b _ _ hb e => (Below.heap_setCell W p u b (by omega)).trans e⟩

/-- A round that appends to a slice of its own, whose elements are no sets, and stores that into a variable ahead of the loop. -/
theorem Kept.append {n₀ B b : Nat} {W w1 : World} {e : TypeId} {size k : Nat} {v v' : Value} {xs : List Value} {tmp : Obj} (hb : Below n₀ W (w1.setCell ⟨b, 0, none⟩ v')) (hbB : b < B) (he : e ≠ 155)
    (hrow : W.ownsRow n₀ e size v k xs) (hgrow : (W.alloc tmp).grownBy w1 v.ownBlock) : Kept n₀ B W (w1.setCell ⟨b, 0, none⟩ v') :=
  ⟨hb, fun g c f hg h => by
    have hlt : g < W.heap.size := (Array.getElem?_eq_some_iff.1 h).1
    have h1 : (W.alloc tmp).heap[g]? = some (.cells c 155 f) := (Below.heap_alloc W tmp g hlt).trans h
    have hne : some g ≠ v.ownBlock := by
      rcases hrow.2 with ⟨rfl, _⟩ | ⟨g', cap, cur, rfl, _, hgb, _⟩
      · simp [Value.ownBlock]
      · intro e'
        obtain rfl : g = g' := by simpa [Value.ownBlock] using e'
        rw [hgb] at h
        injection h with h
        injection h with _ h2 _
        exact he h2
    have h2 : w1.heap[g]? = some (.cells c 155 f) := (hgrow.block g (by simp; omega) hne).trans h1
    exact (Below.heap_setCell w1 ⟨b, 0, none⟩ v' g (by simp; omega)).trans h2⟩

abbrev encs (x : Fin 90) : Array Value := #[.int .i64 (x.val : Int)]

theorem dec_and (x : Nat) (h0 : x ≠ 0) (hx : x < 18446744073709551616) : bits .and .u64 (x : Int) ((x : Int) - 1) = ((x &&& (x - 1) : Nat) : Int) := by
  rw [show (x : Int) - 1 = ((x - 1 : Nat) : Int) by omega]
  exact u64_and_nat x (x - 1) hx (by omega)

set_option maxRecDepth 100000 in
set_option maxHeartbeats 1000000 in
theorem squares1_in (n : Nat) (hn : 1 ≤ n) (l Bn n₀ B : Nat) (s : S) (J Jx : List (Fin 90) → World → Prop) (W : World) (hJ : AbidesFrom W.heap.size J)
    (hY : ∀ pre x W1, J pre W1 → pre.length < s.sqs.length → YieldAt Fence.wide (n - 1) Tryz.prog l (encs x) W1 fun e W' =>
      (e = .returned (.bool true) ∧ J (pre ++ [x]) W' ∧ Kept n₀ B W1 W') ∨ (e = .returned (.bool false) ∧ Jx (pre ++ [x]) W'))
    (hBn : W.cell? ⟨Bn, 0, none⟩ = some (.int .u64 s.lo)) (hBn' : W.cell? ⟨Bn, 1, none⟩ = some (.int .u64 s.hi)) (hB : B ≤ W.heap.size) (hT : Tab W) (hg : 1 < n₀) (h0 : J [] W) :
    CallsIn Fence.wide n Tryz.prog 249 #[.func (.yield l) #[] #[], .pointer (some ⟨Bn, 0, none⟩)] W fun e W' => (∃ v, e = .returned v) ∧
      ((∃ ys, ys = s.sqs ∧ J ys W') ∨ (∃ pre, pre <+: s.sqs ∧ Jx pre W')) := by
  refine callsIn_of_wp Tryz.func249 rfl trivial ?_ rfl
  simp only [Tryz.ntmps249, List.size_toArray, List.length_cons, List.length_nil, Nat.reduceAdd, Nat.reduceSub, Array.replicate_succ, Array.replicate_zero, List.push_toArray, List.append_toArray, List.nil_append, List.cons_append]
  gi_wp2_with (refine ⟨trivial, ?_⟩; gi_at_call 248; refine (callsIn_wide.2 (clean_any s _)).mono ?_; rintro e w1 ⟨rfl, hb⟩)
  have hz := hb.size
  have hl : s.clean.lo < 35184372088832 := M.cl_lt _
  have hh : s.clean.hi < 35184372088832 := M.cl_lt _
  have hT1 : Tab w1 := hT.next hb
  have hJ1 : J [] (w1.alloc (.cells #[.int .u64 s.clean.lo, .int .u64 s.clean.hi] 155)) :=
    hJ _ _ _ none (hJ _ _ _ none h0 ⟨hb.os, hb.tape, hb.output, hb.size, fun i hi _ => hb.block i hi⟩ (by simp)) (World.grownBy_alloc _ _ none) (by simp)
  obtain ⟨W1, hW1⟩ : ∃ W1, w1.alloc (.cells #[.int .u64 s.clean.lo, .int .u64 s.clean.hi] 155) = W1 := ⟨_, rfl⟩
  have hc1 : W1.heap[w1.heap.size]? = some (.cells #[.int .u64 s.clean.lo, .int .u64 s.clean.hi] 155 (0, 0)) := by rw [← hW1]; exact World.alloc_heap_new _ _
  have hT2 : Tab W1 := by rw [← hW1]; exact hT1.next ((Below.refl _ _).alloc (Nat.le_refl _) _)
  rw [hW1] at hJ1 ⊢
  obtain ⟨Bc, hBc⟩ : ∃ Bc, w1.heap.size = Bc := ⟨_, rfl⟩
  rw [hBc] at hc1 ⊢
  have hBBc : B ≤ Bc := by omega
  clear hW1 hBc hT1 hb hz h0 hBn hBn' hT hJ
  gi_loopw [4] (fun p wr => ∃ (pre : List (Fin 90)) (x : Nat), p = .int .u64 x ∧ x < 35184372088832 ∧ s.sqs = pre ++ M.sqw x s.clean.hi ∧ wr.heap[Bc]? = some (.cells #[.int .u64 s.clean.lo, .int .u64 s.clean.hi] 155 (0, 0)) ∧ Tab wr ∧ J pre wr)
    (fun p _ => (intOf p).toNat)
  case atStart => exact ⟨[], s.clean.lo, rfl, hl, rfl, hc1, hT2, hJ1⟩
  case round =>
    obtain ⟨pre, x, rfl, hx, hs, hc, hTr, hJr⟩ := hrel
    have hcell : wr.cell? ⟨Bc, 1, none⟩ = some (.int .u64 s.clean.hi) := by simp [World.cell?, hc]
    by_cases h0 : x = 0
    · have hne : ((x : Int) != 0) = false := by rw [h0]; rfl
      have Hs0 : Hid (s.sqs = pre ++ M.sqw 0 s.clean.hi) := by rw [h0] at hs; exact hs
      clear hs h0 hJ1 hT2 hc1 hl hc
      gi_wp2
      gi_loopw [5] (fun p wq => ∃ (pre2 : List (Fin 90)) (y : Nat), p = .int .u64 y ∧ y < 35184372088832 ∧ s.sqs = pre2 ++ M.sqw 0 y ∧ Tab wq ∧ J pre2 wq)
        (fun p _ => (intOf p).toNat)
      case atStart => exact ⟨pre, s.clean.hi, rfl, hh, Hs0.out, hTr, hJr⟩
      case round =>
        obtain ⟨pre2, y, rfl, hyx, hs, hTq, hJq⟩ := hrel
        by_cases h0 : y = 0
        · have hne2 : ((y : Int) != 0) = false := by rw [h0]; rfl
          have Hs : Hid (s.sqs = pre2) := by rw [h0, M.sqw_zero, List.append_nil] at hs; exact hs
          clear hs h0
          gi_wp2
          go_end0
          exact ⟨⟨_, rfl⟩, .inl ⟨pre2, Hs.out.symm, hJq⟩⟩
        · have hne2 : ((y : Int) != 0) = true := by rw [bne_iff_ne]; omega
          obtain ⟨k, hk, hq, hlt⟩ := M.sq_high hyx h0
          have hz64 : Lib.ctz 64 y < 64 := (M.low_bit y (by omega) h0).2.2.2
          have htz : Calls Tryz.prog 250 #[.int .u64 y] wr fun e w' => e = .returned (.int .i64 (Lib.ctz 64 y)) ∧ wr = w' := tz_any y wr (by omega) h0 hTq
          have hda := dec_and y h0 (by omega)
          have h1y : 1 ≤ y := by omega
          obtain ⟨fn, tmps, assign, body, hy, hR⟩ := hY pre2 k wr hJq (by rw [hs, hq]; simp)
          simp only [encs, hk] at hy
          rw [show ((45 + Lib.ctz 64 y : Nat) : Int) = 45 + (Lib.ctz 64 y : Int) from by omega] at hy
          have Hs : Hid (s.sqs = (pre2 ++ [k]) ++ M.sqw 0 (y &&& (y - 1))) := by rw [hs, hq]; show _ = _; simp
          have Htz := Lib.hid htz
          clear hs hq h0 hcell hk htz hY
          gi_wp2_with (refine ⟨trivial, ?_⟩; gi_at_call 250; refine (callsIn_wide.2 Htz.out).mono ?_; rintro e w' ⟨rfl, rfl⟩)
          refine hR.mono ?_
          rintro e W3 (⟨rfl, hJ3, hk3⟩ | ⟨rfl, hJx3⟩)
          · gi_wp2
            go_roundw
            case rel => exact ⟨pre2 ++ [k], y &&& (y - 1), rfl, by omega, Hs.out, hTq.below hk3.1 hg, hJ3⟩
            case measure => simp [intOf]; omega
          · gi_wp2
            refine bodyPost_ret (results_none rfl _ _ _) rfl ?_
            exact ⟨⟨_, rfl⟩, .inr ⟨pre2 ++ [k], ⟨_, Hs.out.symm⟩, hJx3⟩⟩
    · have hne : ((x : Int) != 0) = true := by rw [bne_iff_ne]; omega
      obtain ⟨k, hk, hq, hlt⟩ := M.sq_low (hi := s.clean.hi) hx h0
      have htz : Calls Tryz.prog 250 #[.int .u64 x] wr fun e w' => e = .returned (.int .i64 (k.val : Int)) ∧ wr = w' := by
        rw [hk]; exact tz_any x wr (by omega) h0 hTr
      have hda := dec_and x h0 (by omega)
      have h1x : 1 ≤ x := by omega
      obtain ⟨fn, tmps, assign, body, hy, hR⟩ := hY pre k wr hJr (by rw [hs, hq]; simp)
      have Hs : Hid (s.sqs = (pre ++ [k]) ++ M.sqw (x &&& (x - 1)) s.clean.hi) := by rw [hs, hq]; show _ = _; simp
      have Htz := Lib.hid htz
      have Hc := Lib.hid hc
      clear hs hq h0 hJ1 hT2 hc1 hl hc hcell hk htz hY
      gi_wp2_with (refine ⟨trivial, ?_⟩; gi_at_call 250; refine (callsIn_wide.2 Htz.out).mono ?_; rintro e w' ⟨rfl, rfl⟩)
      refine hR.mono ?_
      rintro e W3 (⟨rfl, hJ3, hk3⟩ | ⟨rfl, hJx3⟩)
      · gi_wp2
        go_roundw
        case rel => exact ⟨pre ++ [k], x &&& (x - 1), rfl, by omega, Hs.out, hk3.2 Bc _ _ hBBc Hc.out, hTr.below hk3.1 hg, hJ3⟩
        case measure => simp [intOf]; omega
      · gi_wp2
        refine bodyPost_ret (results_none rfl _ _ _) rfl ?_
        exact ⟨⟨_, rfl⟩, .inr ⟨pre ++ [k], ⟨_, Hs.out.symm⟩, hJx3⟩⟩

set_option maxHeartbeats 400000 in
theorem squares_any (s : S) (w : World) :
    Calls Tryz.prog 223 #[.agg #[.int .u64 s.lo, .int .u64 s.hi]] w fun e w' => e = .returned (.func (.func 249) #[] #[.pointer (some ⟨w.heap.size, 0, none⟩)]) ∧ w.alloc (.cells #[.int .u64 s.lo, .int .u64 s.hi] 155) = w' := by
  go_enter Tryz.func223, Tryz.ntmps223
  go_wp2
  go_ret
  exact ⟨rfl, rfl⟩

/-- **The iterator's contract**: all squares of the set, rising; or some of them, from the first on, where a round has said 'no more'. -/
theorem squares_stops (n : Nat) (hn : 1 ≤ n) (Bn n₀ B : Nat) (s : S) (w : World) (hlt : Bn < w.heap.size) (hBn : w.cell? ⟨Bn, 0, none⟩ = some (.int .u64 s.lo)) (hBn' : w.cell? ⟨Bn, 1, none⟩ = some (.int .u64 s.hi))
    (hB : B ≤ w.heap.size) (hT : Tab w) (hg : 1 < n₀) :
    SeqStopsK Fence.wide n Tryz.prog 249 #[.pointer (some ⟨Bn, 0, none⟩)] encs (Kept n₀ B) (fun ys => ys = s.sqs) (fun pre => pre <+: s.sqs) s.sqs.length w := fun l J Jx W hW hJ _ hY h0 =>
  squares1_in n hn l Bn n₀ B s J Jx W hJ hY ((hW.cell (p := ⟨Bn, 0, none⟩) hlt).trans hBn) ((hW.cell (p := ⟨Bn, 1, none⟩) hlt).trans hBn') (Nat.le_trans hB hW.size) (hT.next hW) hg h0
end Go.Proofs.YtbdgbihdhbjljaaGreatDoor

namespace Go.Proofs.YtbdgbihdhbjljaaGreatDoor
open Go.RowKit Go.Shelf
open M (S)
attribute [local go_sem] Oper.semAt_some

abbrev sqv (x : Fin 90) : Value := .int .i64 (x.val : Int)

set_option maxRecDepth 100000 in
set_option maxHeartbeats 2000000 in
theorem list_in (s : S) (w : World) (hT : Tab w) :
    CallsIn Fence.wide 5 Tryz.prog 198 #[.agg #[.int .u64 s.lo, .int .u64 s.hi]] w fun e W' => ∃ v, e = .returned v ∧ W'.ownsRow w.heap.size 3 1 v s.sqs.length (s.sqs.map sqv) ∧ Below w.heap.size w W' := by
  have hro : Fence.wide.round = none := rfl
  have hlen : s.sqs.length ≤ 90 := by rw [S.sqs_length]; exact S.count_le s
  have hg := hT.lt
  obtain ⟨i0, hi, hz0, hz1, hz2⟩ := info_parts info_int
  refine callsIn_of_wp_marks Tryz.func198 rfl trivial ?_ hro
  simp only [Tryz.ntmps198, List.size_toArray, List.length_cons, List.length_nil, Nat.reduceAdd, Nat.reduceSub, Array.replicate_succ, Array.replicate_zero, List.push_toArray, List.append_toArray, List.nil_append, List.cons_append]
  gi_wp2_with (refine ⟨trivial, ?_⟩; gi_at_call 223; refine (callsIn_wide.2 (squares_any s _)).mono ?_; rintro e w' ⟨rfl, rfl⟩)
  have bO := (Boxed.new (w.alloc (.cells #[.int .u64 s.lo, .int .u64 s.hi] 155)) 106 (.slice none 0 0)).alloc (.cells #[.int .u64 s.lo, .int .u64 s.hi] 155)
  rw [World.size_alloc] at bO
  obtain ⟨W0, hW0⟩ : ∃ W0, ((w.alloc (.cells #[.int .u64 s.lo, .int .u64 s.hi] 155)).alloc (.cells #[.slice none 0 0] 106)).alloc (.cells #[.int .u64 s.lo, .int .u64 s.hi] 155) = W0 := ⟨_, rfl⟩
  have hB0 : Below w.heap.size w W0 := by rw [← hW0]; exact (((Below.refl _ w).alloc (Nat.le_refl _) _).alloc (by simp) _).alloc (by simp; omega) _
  have hsz : W0.heap.size = w.heap.size + 3 := by rw [← hW0]; simp
  have hblk : W0.heap[w.heap.size + 2]? = some (.cells #[.int .u64 s.lo, .int .u64 s.hi] 155 (0, 0)) := by
    have h := World.alloc_heap_new ((w.alloc (.cells #[.int .u64 s.lo, .int .u64 s.hi] 155)).alloc (.cells #[.slice none 0 0] 106)) (.cells #[.int .u64 s.lo, .int .u64 s.hi] 155)
    rw [World.size_alloc, World.size_alloc, hW0] at h
    exact h
  have c0 : W0.cell? ⟨w.heap.size + 2, 0, none⟩ = some (.int .u64 s.lo) := by simp [World.cell?, hblk]
  have c1 : W0.cell? ⟨w.heap.size + 2, 1, none⟩ = some (.int .u64 s.hi) := by simp [World.cell?, hblk]
  rw [hW0] at bO ⊢
  refine wpIn_rangeFunc_ownG hro (by decide) (gf := 249) (lb := #[.pointer (some ⟨w.heap.size + 2, 0, none⟩)]) rfl trivial (enters_of Tryz.func249 (by kernel_rfl) rfl)
    (squares_stops 4 (by decide) (w.heap.size + 2) w.heap.size W0.heap.size s W0 (by omega) c0 c1 (Nat.le_refl _) (hT.below hB0 hg) hg) Kept.trans (Kept.put (by omega)) (Below.refl _ _) (fun _ => rfl)
    (fun pre W => (∃ v, Boxed W (w.heap.size + 1) 106 v ∧ W.ownsRow w.heap.size 3 1 v pre.length (pre.map sqv) ∧ (v = .slice none 0 0 ↔ pre = [])) ∧ Below w.heap.size w W)
    (fun _ _ _ => False)
    (OwnFrom.and (Own.from (holdsRow_own w.heap.size (w.heap.size + 1) 106 3 1 (fun pre => pre.length) (fun pre => pre.map sqv) (fun pre v => v = .slice none 0 0 ↔ pre = [])) _) (ownFrom_below (Nat.le_refl _) (by omega)))
    (fun _ _ _ _ _ hs _ _ => hs)
    ⟨⟨_, bO, World.ownsRow_nil _ _ _ _, by simp⟩, hB0⟩
    (fun x => { tmps := #[.agg #[.int .u64 s.lo, .int .u64 s.hi], .pointer (some ⟨w.heap.size, 0, none⟩), .slice none 0 0, .pointer (some ⟨w.heap.size + 1, 0, none⟩), sqv x, .agg #[.int .u64 s.lo, .int .u64 s.hi], .func (.func 249) #[] #[.pointer (some ⟨w.heap.size + 2, 0, none⟩)], sqv x, undef, undef, undef, undef, undef], defers := [] }) ?assign ?body ?done ?stop
  case assign =>
    intro l x W K hK
    gi_wp2
    exact hK
  case body =>
    rintro l pre x W ⟨⟨v, hv, hrow, hnil⟩, hB⟩ hlt
    have hc := hv.cell
    have hbs := hB.size
    gi_wp2_with (gi_at_builtin; refine wpListIn_append_own _ rfl _ _ 106 rfl w.heap.size 3 i0 (.int .i64 0) 1 8 Tryz.underlying106 hi hz0 hz1 hz2 rfl (by decide) _ _ _ rfl (hrow.alloc _) ⟨W.heap.size, 0, none⟩ 1 1 [sqv x] rfl rfl (cell_one_new _ _ _) (by simp [Value.oneCell']) (by unfold maxLen; omega) (by omega) (by simp; omega) ?_; intro v' w1 hown' hgrow _; obtain ⟨g', cap', rfl⟩ := ownsRow_succ hown'; obtain ⟨hv1, hv2, hr2, hk2, hb2⟩ := hv.appended (by decide) hrow hB.size (by omega) hown' hgrow; have hc1 := hv1.cell; have hf1 := hv1.frozen)
    exact ⟨hk2.from _, Kept.append hb2 (by omega) (by decide) hrow hgrow, ⟨_, hv2, by simpa using hr2, by simp⟩, hB.trans hb2⟩
  case done =>
    rintro D ys W hD rfl ⟨⟨v, hv, hrow, hnil⟩, hB⟩ hK
    have hc := hv.cell
    gi_wp2
    refine ⟨by simp, .inl ⟨_, _, rfl, run_takeDeferred hK, ?_⟩⟩
    exact ⟨_, results_tmp rfl _ _ _, v, rfl, ownsRow_putObj hrow _ hK rfl, hB.trans (belowK_b (w := w) (Nat.le_refl _) W D _ _ (by omega) hK rfl rfl)⟩
  case stop =>
    rintro D c pre W _ _ h _
    exact h.elim
end Go.Proofs.YtbdgbihdhbjljaaGreatDoor

namespace Go.Proofs.YtbdgbihdhbjljaaGreatDoor
open Go.RowKit Go.Shelf
open M (S)
attribute [local go_sem] Oper.semAt_some

abbrev svc (s : S) : Array Value := #[.int .u64 s.lo, .int .u64 s.hi]



theorem blk_two {w : World} {g : Nat} {t : TypeId} {a b : Value} (h : Blk w g t #[a, b]) (c d : Value) : Blk ((w.setCell ⟨g, 0, none⟩ c).setCell ⟨g, 1, none⟩ d) g t #[c, d] := by
  simpa using (h.set_ 0 c).set_ 1 d
theorem Kept.two {n₀ B g : Nat} {W w1 : World} (hn : n₀ ≤ W.heap.size) (hb : Below W.heap.size W w1) (h1 : n₀ ≤ g) (h2 : g < B) (c d : Value) : Kept n₀ B W ((w1.setCell ⟨g, 0, none⟩ c).setCell ⟨g, 1, none⟩ d) :=
  ((Kept.next hn hb).trans (Kept.set (p := ⟨g, 0, none⟩) h1 h2 c)).trans (Kept.set (p := ⟨g, 1, none⟩) h1 h2 d)
theorem keeps_two {W w1 : World} (hb : Below W.heap.size W w1) (p q : Addr) (c d : Value) : KeepsOthers W ((w1.setCell p c).setCell q d) :=
  ((keeps_next hb).trans (KeepsOthers.setCell _ _ _)).trans (KeepsOthers.setCell _ _ _)




/-- List's answer: a slice that reads as the squares. -/
def ListPost (w : World) (l : List (Fin 90)) (e : Ending) (w' : World) : Prop := ∃ A c, e = .returned (.slice A l.length c) ∧ Rd w' A (l.map sqv) ∧ Below w.heap.size w w'
theorem list_any (s : S) (w : World) (hT : Tab w) : Calls Tryz.prog 198 #[.agg #[.int .u64 s.lo, .int .u64 s.hi]] w (ListPost w s.sqs) :=
  (callsIn_wide.1 (list_in s w hT)).mono fun _ _ ⟨v, he, ho, hb⟩ => by
    obtain ⟨A, c, rfl⟩ := own_slice ho
    exact ⟨A, c, he, Rd.own ho, hb⟩
end Go.Proofs.YtbdgbihdhbjljaaGreatDoor

namespace Go.Proofs.YtbdgbihdhbjljaaGreatDoor
open Go.RowKit Go.Shelf
open M (S)



end Go.Proofs.YtbdgbihdhbjljaaGreatDoor
