/- Whether a set has a square, how many it has: for all sets. -/
import Derived.Test.YtdfjmchkpoobdaaDoorBits
import Derived.Test.YtdfjmchkpoobdaaDoorPop
import Derived.Deep.QuietTactic
import Derived.BigQuiet
namespace Go.Proofs.YtdfjmchkpoobdaaDoor
open Go.RowKit
open M (S)

theorem neq_single (s : S) (n : Int) (W : World) : (binOp .neq 24 (.agg #[.int .u64 (s.and (S.single n)).lo, .int .u64 (s.and (S.single n)).hi]) (.agg #[.int .u64 0, .int .u64 0])).run Tryd.prog W = .ok (.bool (s.hasI n)) W := by
  rw [neq_set]
  congr 2
  rw [S.hasI]
  congr 2 <;> (rw [Bool.eq_iff_iff]; simp)

attribute [local go_sem ↓] neq_single in
set_option maxHeartbeats 400000 in
theorem has_any (s : S) (n : Int) (w : World) :
    Calls Tryd.prog 25 #[.agg #[.int .u64 s.lo, .int .u64 s.hi], .int .i64 n] w fun e w' => e = .returned (.bool (s.hasI n)) ∧ Below w.heap.size w w' := by
  go_enter Tryd.func25, Tryd.ntmps25
  go_wp2
  go_region_with (first | (go_at_call 39; refine (single_any _ _).mono ?_; rintro e w1 ⟨rfl, hb1⟩; obtain ⟨hc1, hf1⟩ := bcell hb1; (have hz1 : w.heap.size < w1.heap.size := by (have := hb1.size; simp at this; omega))) | (go_at_call 14; refine (and_any s (S.single n) _).mono ?_; rintro e w2 ⟨rfl, hb2⟩))
  all_goals go_wp2
  all_goals go_ret
  all_goals exact ⟨rfl, (by repeat (first | exact Below.refl _ _ | (refine Below.setCell ?_ (by first | omega | (simp; done) | (simp; omega) | (simp at *; omega)) _) | (refine Below.alloc ?_ (by first | omega | (simp; done) | (simp; omega) | (simp at *; omega)) _) | refine Below.drew ?_ | (refine below_drewN ?_ _) | (refine Below.trans ?_ (Below.mono (by assumption) (by first | omega | (simp; done) | (simp; omega) | (simp at *; omega))))))⟩

set_option maxHeartbeats 400000 in
theorem ones_core (x x1 x2 x3 x4 x5 x6 n : Nat) (w : World)
    (k1 : IntKind.u64.wrap (bits .and .u64 ((x : Int) / 2) 6148914691236517205 + bits .and .u64 (x : Int) 6148914691236517205) = (x1 : Int))
    (k2 : IntKind.u64.wrap (bits .and .u64 ((x1 : Int) / 4) 3689348814741910323 + bits .and .u64 (x1 : Int) 3689348814741910323) = (x2 : Int))
    (k3 : bits .and .u64 (IntKind.u64.wrap ((x2 : Int) / 16 + (x2 : Int))) 1085102592571150095 = (x3 : Int))
    (k4 : IntKind.u64.wrap ((x3 : Int) + (x3 : Int) / 256) = (x4 : Int))
    (k5 : IntKind.u64.wrap ((x4 : Int) + (x4 : Int) / 65536) = (x5 : Int))
    (k6 : IntKind.u64.wrap ((x5 : Int) + (x5 : Int) / 4294967296) = (x6 : Int))
    (k7 : bits .and .i64 (wrap64 (x6 : Int)) 127 = (n : Int)) :
    Calls Tryd.prog 38 #[.int .u64 x] w fun e w' => e = .returned (.int .i64 n) ∧ w = w' := by
  go_enter Tryd.func38, Tryd.ntmps38
  go_wp2
  go_ret
  exact ⟨rfl, rfl⟩

theorem and_i64 (a b : Nat) (ha : a < 9223372036854775808) (hb : b < 9223372036854775808) : bits .and .i64 (a : Int) (b : Int) = ((a &&& b : Nat) : Int) := by
  have h : ∀ n : Nat, n < 9223372036854775808 → (BitVec.ofInt 64 (n : Int)).toNat = n := fun n hn => by
    rw [BitVec.ofInt_natCast, BitVec.toNat_ofNat]; exact Nat.mod_eq_of_lt (by omega)
  have hx : a &&& b < 2 ^ 63 := Nat.and_lt_two_pow _ hb
  show IntKind.i64.wrap ((BitVec.ofInt 64 (a : Int) &&& BitVec.ofInt 64 (b : Int)).toNat : Int) = _
  rw [BitVec.toNat_and, h a ha, h b hb, IntKind.wrap_i64]
  omega
theorem wr64 (n : Nat) (h : n < 18446744073709551616) : IntKind.u64.wrap (n : Int) = (n : Int) := by rw [IntKind.wrap_u64]; omega
theorem ones_any (x : Nat) (w : World) (hx : x < 18446744073709551616) :
    Calls Tryd.prog 38 #[.int .u64 x] w fun e w' => e = .returned (.int .i64 (M.cnt 64 x.testBit : Nat)) ∧ w = w' := by
  obtain ⟨x1, x2, c, hc, e1, l1, e2, l2, e3, hs⟩ := M.three x hx
  obtain ⟨x3, x4, x5, x6, f3, f4, f5, f6, l6, l63, hn⟩ := M.fold8 c hc
  refine ones_core x x1 x2 x3 x4 x5 x6 _ w ?_ ?_ ?_ ?_ ?_ ?_ ?_
  · rw [show (x : Int) / 2 = ((x / 2 : Nat) : Int) by omega]
    have h1 := u64_and_nat (x / 2) 6148914691236517205 (by omega) (by decide)
    have h2 := u64_and_nat x 6148914691236517205 hx (by decide)
    rw [show ((6148914691236517205 : Nat) : Int) = 6148914691236517205 from rfl] at h1 h2
    rw [h1, h2, ← Int.natCast_add, e1, wr64 _ l1]
  · rw [show (x1 : Int) / 4 = ((x1 / 4 : Nat) : Int) by omega]
    have h1 := u64_and_nat (x1 / 4) 3689348814741910323 (by omega) (by decide)
    have h2 := u64_and_nat x1 3689348814741910323 l1 (by decide)
    rw [show ((3689348814741910323 : Nat) : Int) = 3689348814741910323 from rfl] at h1 h2
    rw [h1, h2, ← Int.natCast_add, e2, wr64 _ (by omega)]
  · rw [show (x2 : Int) / 16 + (x2 : Int) = ((x2 / 16 + x2 : Nat) : Int) by omega, wr64 _ l2]
    have h1 := u64_and_nat (x2 / 16 + x2) 1085102592571150095 l2 (by decide)
    rw [show ((1085102592571150095 : Nat) : Int) = 1085102592571150095 from rfl] at h1
    rw [h1, e3, f3]
  · rw [show (x3 : Int) + (x3 : Int) / 256 = ((x3 + x3 / 256 : Nat) : Int) by omega, f4, wr64 _ (by omega)]
  · rw [show (x4 : Int) + (x4 : Int) / 65536 = ((x4 + x4 / 65536 : Nat) : Int) by omega, f5, wr64 _ (by omega)]
  · rw [show (x5 : Int) + (x5 : Int) / 4294967296 = ((x5 + x5 / 4294967296 : Nat) : Int) by omega, f6, wr64 _ (by omega)]
  · have hw : wrap64 (x6 : Int) = (x6 : Int) := IntWalk.wrap64_in _ ⟨by omega, by omega⟩
    have h1 := and_i64 x6 127 l63 (by decide)
    rw [show ((127 : Nat) : Int) = 127 from rfl] at h1
    rw [hw, h1, nat_mask7, hn, hs]

theorem ones_same (x : Nat) (w : World) (hx : x < 18446744073709551616) :
    Calls Tryd.prog 38 #[.int .u64 x] w fun e w' => e = .returned (.int .i64 (M.cnt 64 x.testBit : Nat)) ∧ w' = w :=
  (ones_any x w hx).mono fun _ _ ⟨h, k⟩ => ⟨h, k.symm⟩

set_option maxHeartbeats 400000 in
theorem count_any (s : S) (w : World) :
    Calls Tryd.prog 22 #[.agg #[.int .u64 s.lo, .int .u64 s.hi]] w fun e w' => e = .returned (.int .i64 (s.count : Nat)) ∧ Below w.heap.size w w' := by
  have hk : s.clean.lo < 18446744073709551616 := s.clean.hlo
  have hk' : s.clean.hi < 18446744073709551616 := s.clean.hhi
  have hq : IntKind.i64.wrap ((M.cnt 64 s.clean.lo.testBit : Nat) + (M.cnt 64 s.clean.hi.testBit : Nat) : Int) = ((s.count : Nat) : Int) := by
    have h1 := S.count_words s
    have h2 := S.count_le s
    rw [← Int.natCast_add, ← h1]
    exact IntWalk.i64_in _ (by omega)
  go_enter Tryd.func22, Tryd.ntmps22
  go_wp2_with (go_at_call 36; refine (clean_any s _).mono ?_; rintro e w1 ⟨rfl, hb⟩)
  have hz := hb.size
  simp at hz
  go_quiet ((go_at_call 38; exact Calls.quiet_of_same (ones_same _ _ (by omega))))
  go_wp2
  go_ret
  exact ⟨rfl, (by repeat (first | exact Below.refl _ _ | (refine Below.setCell ?_ (by first | omega | (simp; done) | (simp; omega) | (simp at *; omega)) _) | (refine Below.alloc ?_ (by first | omega | (simp; done) | (simp; omega) | (simp at *; omega)) _) | refine Below.drew ?_ | (refine below_drewN ?_ _) | (refine Below.trans ?_ (Below.mono (by assumption) (by first | omega | (simp; done) | (simp; omega) | (simp at *; omega))))))⟩
end Go.Proofs.YtdfjmchkpoobdaaDoor
