/- What the functions of package bits that only combine words answer, for all sets. -/
import Derived.Test.YtbfkkedcjodceaaGreatDoorBase
import Derived.WalkKit
import Derived.WalkSpells
import Derived.WalkLawsBesides
import Derived.Outline
import Derived.Laws.BitsAllLaws
import Derived.Deep.RegionWith
import Derived.Deep.RegionHeld3
namespace Go.Proofs.YtbfkkedcjodceaaGreatDoor
open Go.RowKit
open M (S)

theorem w_and (x : Nat) (hx : x < 18446744073709551616) : bits .and .u64 (x : Int) 35184372088831 = ((M.cl x : Nat) : Int) := by
  rw [← M.cl_and_mask]
  exact u64_and_nat x 35184372088831 hx (by decide)

theorem w_not (x : Nat) (hx : x < 18446744073709551616) : bits .xor .u64 IntKind.u64.max (x : Int) = ((18446744073709551615 - x : Nat) : Int) := by
  have h := u64_xor_nat 18446744073709551615 x (by decide) hx
  have e : (18446744073709551615 : Nat) ^^^ x = 18446744073709551615 - x := by
    apply Nat.eq_of_testBit_eq
    intro i
    rw [M.not_testBit x i hx, Nat.testBit_xor, show (18446744073709551615 : Nat) = 2 ^ 64 - 1 from by decide, Nat.testBit_two_pow_sub_one]
    by_cases hi : i < 64
    · simp [hi]
    · have : x.testBit i = false := Nat.testBit_lt_two_pow (Nat.lt_of_lt_of_le hx (show (2 : Nat) ^ 64 ≤ 2 ^ i from Nat.pow_le_pow_right (by decide) (by omega)))
      simp [hi, this]
  rw [e] at h
  exact h

set_option maxHeartbeats 400000 in
theorem clean_any (s : S) (w : World) :
    Calls Tryz.prog 141 #[.agg #[.int .u64 s.lo, .int .u64 s.hi]] w fun e w' => e = .returned (.agg #[.int .u64 s.clean.lo, .int .u64 s.clean.hi]) ∧ Below w.heap.size w w' := by
  have e1 := w_and s.lo s.hlo
  have e2 := w_and s.hi s.hhi
  go_enter Tryz.func141, Tryz.ntmps141
  go_wp2
  exact bodyPost_ret (v := .agg #[.int .u64 s.clean.lo, .int .u64 s.clean.hi]) (by simp [results, Tryz.results141, go_sem, S.clean]) rfl ⟨rfl, ((Below.refl _ _).alloc (Nat.le_refl _) _).alloc (by simp) _⟩

set_option maxHeartbeats 400000 in
theorem or_any (s t : S) (w : World) :
    Calls Tryz.prog 136 #[.agg #[.int .u64 s.lo, .int .u64 s.hi], .agg #[.int .u64 t.lo, .int .u64 t.hi]] w fun e w' => e = .returned (.agg #[.int .u64 (s.or t).lo, .int .u64 (s.or t).hi]) ∧ Below w.heap.size w w' := by
  have e1 : bits .or .u64 (s.lo : Int) (t.lo : Int) = ((s.lo ||| t.lo : Nat) : Int) := u64_or_nat _ _ s.hlo t.hlo
  have e2 : bits .or .u64 (s.hi : Int) (t.hi : Int) = ((s.hi ||| t.hi : Nat) : Int) := u64_or_nat _ _ s.hhi t.hhi
  have k1 : s.lo ||| t.lo < 18446744073709551616 := Nat.or_lt_two_pow (n := 64) s.hlo t.hlo
  have k2 : s.hi ||| t.hi < 18446744073709551616 := Nat.or_lt_two_pow (n := 64) s.hhi t.hhi
  go_enter Tryz.func136, Tryz.ntmps136
  go_wp2_with fail
  refine (clean_any ⟨s.lo ||| t.lo, s.hi ||| t.hi, k1, k2⟩ _).mono ?_
  rintro e w1 ⟨rfl, hb⟩
  obtain ⟨hc, hf⟩ := bcell hb
  have hz := hb.size
  simp at hz
  go_wp2
  exact bodyPost_ret (v := .agg #[.int .u64 (s.or t).lo, .int .u64 (s.or t).hi]) (by simp [results, Tryz.results136, go_sem, S.or, S.clean, M.orW, hc]) rfl ⟨rfl, (by repeat (first | exact Below.refl _ _ | (refine Below.setCell ?_ (by first | omega | (simp; done) | (simp; omega) | (simp at *; omega)) _) | (refine Below.alloc ?_ (by first | omega | (simp; done) | (simp; omega) | (simp at *; omega)) _) | refine Below.drew ?_ | (refine below_drewN ?_ _) | (refine Below.trans ?_ (Below.mono (by assumption) (by first | omega | (simp; done) | (simp; omega) | (simp at *; omega))))))⟩




set_option maxHeartbeats 400000 in
theorem single_any (n : Int) (w : World) :
    Calls Tryz.prog 137 #[.int .i64 n] w fun e w' => e = .returned (.agg #[.int .u64 (S.single n).lo, .int .u64 (S.single n).hi]) ∧ Below w.heap.size w w' := by
  by_cases h0 : 0 ≤ n ∧ n < 90
  · have e1 : decide (n < 0) = false := by simp; omega
    have e2 : decide (90 ≤ n) = false := by simp; omega
    by_cases h1 : n < 45
    · have k := M.sgLo_lt n
      have q : IntKind.u64.wrap (2 ^ n.toNat) = ((S.single n).lo : Int) := by
        rw [IntKind.wrap_u64]
        show _ = ((M.sgLo n : Nat) : Int)
        unfold M.sgLo at k ⊢
        rw [if_pos ⟨h0.1, h1⟩] at k ⊢
        rw [show (2 : Int) ^ n.toNat = ((2 ^ n.toNat : Nat) : Int) from by simp]
        generalize 2 ^ n.toNat = p at k ⊢
        omega
      have Q0 : Hid ((S.single n).hi = 0) := by show _ = _; simp only [S.single, M.sgHi]; rw [if_neg (by omega)]
      go_enter Tryz.func137, Tryz.ntmps137
      go_wp2
      exact bodyPost_ret (v := .agg #[.int .u64 (S.single n).lo, .int .u64 (S.single n).hi]) (by simp [results, Tryz.results137, go_sem, Q0.out]) rfl ⟨rfl, (by repeat (first | exact Below.refl _ _ | (refine Below.setCell ?_ (by first | omega | (simp; done) | (simp; omega) | (simp at *; omega)) _) | (refine Below.alloc ?_ (by first | omega | (simp; done) | (simp; omega) | (simp at *; omega)) _) | refine Below.drew ?_ | (refine below_drewN ?_ _) | (refine Below.trans ?_ (Below.mono (by assumption) (by first | omega | (simp; done) | (simp; omega) | (simp at *; omega))))))⟩
    · have k := M.sgHi_lt n
      have h2 : 45 ≤ n := by omega
      have q : IntKind.u64.wrap (2 ^ (n - 45).toNat) = ((S.single n).hi : Int) := by
        rw [IntKind.wrap_u64]
        show _ = ((M.sgHi n : Nat) : Int)
        unfold M.sgHi at k ⊢
        rw [if_pos ⟨h2, h0.2⟩] at k ⊢
        rw [show (2 : Int) ^ (n - 45).toNat = ((2 ^ (n - 45).toNat : Nat) : Int) from by simp]
        generalize 2 ^ (n - 45).toNat = p at k ⊢
        omega
      have Q0 : Hid ((S.single n).lo = 0) := by show _ = _; simp only [S.single, M.sgLo]; rw [if_neg (by omega)]
      go_enter Tryz.func137, Tryz.ntmps137
      go_wp2
      exact bodyPost_ret (v := .agg #[.int .u64 (S.single n).lo, .int .u64 (S.single n).hi]) (by simp [results, Tryz.results137, go_sem, Q0.out]) rfl ⟨rfl, (by repeat (first | exact Below.refl _ _ | (refine Below.setCell ?_ (by first | omega | (simp; done) | (simp; omega) | (simp at *; omega)) _) | (refine Below.alloc ?_ (by first | omega | (simp; done) | (simp; omega) | (simp at *; omega)) _) | refine Below.drew ?_ | (refine below_drewN ?_ _) | (refine Below.trans ?_ (Below.mono (by assumption) (by first | omega | (simp; done) | (simp; omega) | (simp at *; omega))))))⟩
  · have Q0 : Hid ((S.single n).lo = 0) := by show _ = _; simp only [S.single, M.sgLo]; rw [if_neg (by omega)]
    have Q1 : Hid ((S.single n).hi = 0) := by show _ = _; simp only [S.single, M.sgHi]; rw [if_neg (by omega)]
    by_cases h1 : n < 0
    · go_enter Tryz.func137, Tryz.ntmps137
      go_wp2
      exact bodyPost_ret (v := .agg #[.int .u64 (S.single n).lo, .int .u64 (S.single n).hi]) (by simp [results, Tryz.results137, go_sem, Q0.out, Q1.out]) rfl ⟨rfl, (by repeat (first | exact Below.refl _ _ | (refine Below.setCell ?_ (by first | omega | (simp; done) | (simp; omega) | (simp at *; omega)) _) | (refine Below.alloc ?_ (by first | omega | (simp; done) | (simp; omega) | (simp at *; omega)) _) | refine Below.drew ?_ | (refine below_drewN ?_ _) | (refine Below.trans ?_ (Below.mono (by assumption) (by first | omega | (simp; done) | (simp; omega) | (simp at *; omega))))))⟩
    · have h2 : 90 ≤ n := by omega
      go_enter Tryz.func137, Tryz.ntmps137
      go_wp2
      exact bodyPost_ret (v := .agg #[.int .u64 (S.single n).lo, .int .u64 (S.single n).hi]) (by simp [results, Tryz.results137, go_sem, Q0.out, Q1.out]) rfl ⟨rfl, (by repeat (first | exact Below.refl _ _ | (refine Below.setCell ?_ (by first | omega | (simp; done) | (simp; omega) | (simp at *; omega)) _) | (refine Below.alloc ?_ (by first | omega | (simp; done) | (simp; omega) | (simp at *; omega)) _) | refine Below.drew ?_ | (refine below_drewN ?_ _) | (refine Below.trans ?_ (Below.mono (by assumption) (by first | omega | (simp; done) | (simp; omega) | (simp at *; omega))))))⟩

set_option maxHeartbeats 400000 in
theorem with_any (s : S) (n : Int) (w : World) :
    Calls Tryz.prog 121 #[.agg #[.int .u64 s.lo, .int .u64 s.hi], .int .i64 n] w fun e w' => e = .returned (.agg #[.int .u64 (s.put n).lo, .int .u64 (s.put n).hi]) ∧ Below w.heap.size w w' := by
  go_enter Tryz.func121, Tryz.ntmps121
  go_wp2
  go_region_with (first | (go_at_call 137; refine (single_any _ _).mono ?_; rintro e w1 ⟨rfl, hb1⟩; obtain ⟨hc1, hf1⟩ := bcell hb1; (have hz1 : w.heap.size + 1 < w1.heap.size := by (have := hb1.size; simp at this; omega)); have hy1 : w.heap.size < w1.heap.size := by omega) | (go_at_call 136; refine (or_any s (S.single n) _).mono ?_; rintro e w2 ⟨rfl, hb2⟩; obtain ⟨hc2, hf2⟩ := bcell hb2; have hz2 := hb2.size))
  all_goals go_wp2
  all_goals exact bodyPost_ret (v := .agg #[.int .u64 (s.put n).lo, .int .u64 (s.put n).hi]) (by simp [results, Tryz.results121, go_sem, S.put, hc1, hc2, hz1]) rfl ⟨rfl, (by repeat (first | exact Below.refl _ _ | (refine Below.setCell ?_ (by first | omega | (simp; done) | (simp; omega) | (simp at *; omega)) _) | (refine Below.alloc ?_ (by first | omega | (simp; done) | (simp; omega) | (simp at *; omega)) _) | refine Below.drew ?_ | (refine below_drewN ?_ _) | (refine Below.trans ?_ (Below.mono (by assumption) (by first | omega | (simp; done) | (simp; omega) | (simp at *; omega))))))⟩


theorem eql_set (a b c d : Int) (W : World) : (binOp .eql 99 (.agg #[.int .u64 a, .int .u64 b]) (.agg #[.int .u64 c, .int .u64 d])).run Tryz.prog W = .ok (.bool (a == c && b == d)) W := by
  cases h1 : (a == c) <;> cases h2 : (b == d) <;> go_simp
theorem neq_set (a b c d : Int) (W : World) : (binOp .neq 99 (.agg #[.int .u64 a, .int .u64 b]) (.agg #[.int .u64 c, .int .u64 d])).run Tryz.prog W = .ok (.bool (!(a == c && b == d))) W := by
  cases h1 : (a == c) <;> cases h2 : (b == d) <;> go_simp

end Go.Proofs.YtbfkkedcjodceaaGreatDoor
