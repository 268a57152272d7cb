/- What the calls of package key answer, for all inputs. -/
import Derived.Test.YtocdmnkmepplcaaBoardM
import Derived.Test.YtocdmnkmepplcaaPlaceM
import Derived.Test.YtocdmnkmepplcaaKeyA
import Derived.Lib.Bytealg
import Derived.Laws.EntriesVeiled
namespace Go.Proofs.Ytocdmnkmepplcaa
open Go.RowKit Go.Shelf
open M (S)
attribute [local go_sem] Oper.semAt_some

theorem kpos_cells {W : World} {g : Nat} {t : TypeId} {s : ByteArray} {a b c : Int} (h : Blk W g t #[.string s, .int .i64 a, .int .i64 b, .int .i64 c]) : W.cell? ⟨g, 0, none⟩ = some (.string s) ∧ W.cell? ⟨g, 1, none⟩ = some (.int .i64 a) ∧ W.cell? ⟨g, 2, none⟩ = some (.int .i64 b) ∧ W.cell? ⟨g, 3, none⟩ = some (.int .i64 c) := ⟨h.cell 0, h.cell 1, h.cell 2, h.cell 3⟩
theorem next_parts {x : Nat} (hx : x < 18446744073709551616) : ∃ a b : Nat, a < 18446744073709551616 ∧ b < 18446744073709551616 ∧
    bits .xor .u64 (x : Int) (IntKind.u64.wrap ((x : Int) * 8192)) = (a : Int) ∧ bits .xor .u64 (a : Int) ((a : Int) / 128) = (b : Int) ∧ bits .xor .u64 (b : Int) (IntKind.u64.wrap ((b : Int) * 131072)) = ((nextK x : Nat) : Int) := by
  have xm : ∀ u v : Nat, u < 18446744073709551616 → (u ^^^ v) % 18446744073709551616 = u ^^^ (v % 18446744073709551616) := fun u v hu => by
    have h := Nat.xor_mod_two_pow (a := u) (b := v) (n := 64)
    rw [show (2 : Nat) ^ 64 = 18446744073709551616 by decide] at h
    rw [h, Nat.mod_eq_of_lt hu]
  have w13 : IntKind.u64.wrap ((x : Int) * 8192) = ((x * 8192 % 18446744073709551616 : Nat) : Int) := by rw [IntKind.wrap_u64]; omega
  obtain ⟨a, ha⟩ : ∃ a, (x ^^^ (x <<< 13)) % 18446744073709551616 = a := ⟨_, rfl⟩
  have la : a < 18446744073709551616 := by rw [← ha]; exact Nat.mod_lt _ (by decide)
  have lb : a ^^^ (a / 128) < 18446744073709551616 := Nat.xor_lt_two_pow (n := 64) la (by omega)
  refine ⟨a, a ^^^ (a / 128), la, lb, ?_, ?_, ?_⟩
  · rw [w13, u64_xor_nat _ _ hx (Nat.mod_lt _ (by decide)), ← ha, xm _ _ hx, Nat.shiftLeft_eq]
  · rw [show (a : Int) / 128 = ((a / 128 : Nat) : Int) by omega, u64_xor_nat _ _ la (by omega)]
  · have w17 : ∀ b : Nat, IntKind.u64.wrap ((b : Int) * 131072) = ((b * 131072 % 18446744073709551616 : Nat) : Int) := fun b => by rw [IntKind.wrap_u64]; omega
    rw [w17, u64_xor_nat _ _ lb (Nat.mod_lt _ (by decide))]
    unfold nextK
    simp only []
    rw [ha, show a >>> 7 = a / 128 by rw [Nat.shiftRight_eq_div_pow], xm _ _ lb, Nat.shiftLeft_eq]

set_option maxHeartbeats 400000 in
theorem next_any (x : Nat) (w : World) (hx : x < 18446744073709551616) :
    Calls Try.prog 10 #[.int .u64 x] w fun e w' => e = .returned (.int .u64 (nextK x : Nat)) ∧ w = w' := by
  obtain ⟨a, b, _, _, e1, e2, e3⟩ := next_parts hx
  go_enter Try.func10, Try.ntmps10
  go_wp2
  go_ret
  exact ⟨rfl, rfl⟩
set_option maxHeartbeats 400000 in
theorem rnext_any (x : Nat) (w : World) (hx : x < 18446744073709551616) :
    Calls Try.prog 11 #[.int .u64 x] w fun e w' => e = .returned (.int .u64 (nextK x : Nat)) ∧ w = w' := by
  obtain ⟨a, b, _, _, e1, e2, e3⟩ := next_parts hx
  go_enter Try.func11, Try.ntmps11
  go_wp2
  go_ret
  exact ⟨rfl, rfl⟩

/-- The places of the row, up to Turn's. -/
def FR : List (Fin 1262) := List.finRange 1262
theorem FR_len : FR.length = 1262 := List.length_finRange
theorem FR_at (k : Nat) (hk : k < FR.length) : FR[k] = ⟨k, by rw [FR_len] at hk; exact hk⟩ := List.getElem_finRange (by rw [FR_len] at hk; rw [List.length_finRange]; exact hk)
theorem FR_take (k : Nat) (hk : k < 1262) : FR.take (k + 1) = FR.take k ++ [⟨k, hk⟩] := by
  rw [List.take_succ_eq_append_getElem (by rw [FR_len]; exact hk), FR_at]
theorem FR_full : FR.take 1262 = FR := List.take_of_length_le (by rw [FR_len]; exact Nat.le_refl _)
theorem FR_mem (x : Fin 1262) : x ∈ FR := List.mem_finRange x
abbrev encK (x : Fin 1262) : Array Value := #[.int .i64 (x.val : Int), .int .u64 ((rowK x.val : Nat) : Int)]
def KAll (_ _ : World) : Prop := True

set_option maxRecDepth 100000 in
set_option maxHeartbeats 1000000 in
theorem row1_in (n : Nat) (hn : 1 ≤ n) (l : Nat) (J Jx : List (Fin 1262) → World → Prop) (W : World)
    (hY : ∀ pre x W1, J pre W1 → pre.length < 1262 → YieldAt Fence.wide (n - 1) Try.prog l (encK x) W1 fun e W' =>
      (e = .returned (.bool true) ∧ J (pre ++ [x]) W' ∧ KAll W1 W') ∨ (e = .returned (.bool false) ∧ Jx (pre ++ [x]) W'))
    (h0 : J [] W) :
    CallsIn Fence.wide n Try.prog 41 #[.func (.yield l) #[] #[]] W fun e W' => (∃ v, e = .returned v) ∧
      ((∃ ys, ys = FR ∧ J ys W') ∨ (∃ pre, pre <+: FR ∧ Jx pre W')) := by
  refine callsIn_of_wp Try.func41 rfl trivial ?_ rfl
  simp only [Try.ntmps41, List.size_toArray, List.length_cons, List.length_nil, Nat.reduceAdd, Nat.reduceSub, Array.replicate_succ, Array.replicate_zero, List.push_toArray, List.append_toArray, List.nil_append, List.cons_append]
  gi_wp2
  gi_loopw [2, 4] (fun p q wr => ∃ k : Nat, k ≤ 1262 ∧ p = .int .u64 ((rowK k : Nat) : Int) ∧ q = .int .i64 k ∧ J (FR.take k) wr)
    (fun _ q _ => 1262 - (intOf q).toNat)
  case atStart => exact ⟨0, by omega, rfl, rfl, h0⟩
  case round =>
    obtain ⟨k, hk, rfl, rfl, hJr⟩ := hrel
    by_cases hlt : k < 1262
    · have b1 : (k : Int) < 1262 := by omega
      obtain ⟨fn, tmps, assign, body, hy, hR⟩ := hY (FR.take k) ⟨k, hlt⟩ wr hJr (by rw [List.length_take, FR_len]; omega)
      simp only [encK] at hy
      obtain ⟨x, hx⟩ : ∃ x, rowK k = x := ⟨_, rfl⟩
      have hlx : x < 18446744073709551616 := by rw [← hx]; exact row_lt k
      have hnx : nextK x = rowK (k + 1) := by rw [← hx]; rfl
      rw [hx] at hy ⊢
      rw [← FR_take k hlt] at hR
      have HX := Lib.hid hnx
      clear hnx hx hY
      gi_wp2
      refine hR.mono ?_
      rintro e W3 (⟨rfl, hJ3, hk3⟩ | ⟨rfl, hJx3⟩)
      · gi_wp2_with (refine ⟨trivial, ?_⟩; gi_at_call 10; refine (callsIn_wide.2 (next_any x _ hlx)).mono ?_; rintro e w' ⟨rfl, rfl⟩)
        go_roundw
        case rel => exact ⟨k + 1, by omega, by rw [HX.out], by go_num, hJ3⟩
        case measure => simp [intOf]; omega
      · gi_wp2
        refine bodyPost_ret (results_none rfl _ _ _) rfl ?_
        exact ⟨⟨_, rfl⟩, .inr ⟨_, List.take_prefix _ _, hJx3⟩⟩
    · have b1 : ¬ (k : Int) < 1262 := by omega
      obtain rfl : k = 1262 := by omega
      rw [FR_full] at hJr
      gi_wp2
      go_end0
      exact ⟨⟨_, rfl⟩, by first | exact .inl hJr | exact .inl ⟨FR, rfl, hJr⟩⟩

theorem rows_stops (n : Nat) (hn : 1 ≤ n) (w : World) :
    SeqStopsK Fence.wide n Try.prog 41 #[] encK KAll (fun ys => ys = FR) (fun pre => pre <+: FR) 1262 w := fun l J Jx W _ _ _ hY h0 =>
  row1_in n hn l J Jx W hY h0
set_option maxHeartbeats 400000 in
theorem row_any (w : World) :
    Calls Try.prog 32 #[] w fun e w' => e = .returned (.func (.func 41) #[] #[]) ∧ w = w' := by
  go_enter Try.func32, Try.ntmps32
  go_wp2
  go_ret
  exact ⟨rfl, rfl⟩
set_option maxRecDepth 100000 in
set_option maxHeartbeats 2000000 in
theorem number_in (p : Nat) (hp : p < 1262) (w : World) :
    CallsIn Fence.wide 5 Try.prog 28 #[.int .i64 p] w fun e W' => e = .returned (.int .u64 ((rowK p : Nat) : Int)) ∧ Below w.heap.size w W' := by
  have hro : Fence.wide.round = none := rfl
  refine callsIn_of_wp_marks Try.func28 rfl trivial ?_ hro
  simp only [Try.ntmps28, List.size_toArray, List.length_cons, List.length_nil, Nat.reduceAdd, Nat.reduceSub, Array.replicate_succ, Array.replicate_zero, List.push_toArray, List.append_toArray, List.nil_append, List.cons_append]
  gi_wp2_with (refine ⟨trivial, ?_⟩; gi_at_call 32; refine (callsIn_wide.2 (row_any _)).mono ?_; rintro e w' ⟨rfl, rfl⟩)
  obtain ⟨W0, hW0⟩ : ∃ W0, (w.alloc (.cells #[.int .i64 p] 3)).alloc (.cells #[.int .u64 0] 22) = W0 := ⟨_, rfl⟩
  have bP : Blk W0 w.heap.size 3 #[.int .i64 p] := by rw [← hW0]; exact (Blk.new _ _ _ rfl).alloc _
  have bR : Blk W0 (w.heap.size + 1) 22 #[.int .u64 0] := by rw [← hW0]; exact Blk.new _ _ _ (by simp)
  have hB0 : Below w.heap.size w W0 := by rw [← hW0]; exact (by repeat (first | exact Below.refl _ _ | (refine Below.setCell ?_ (by first | omega | (simp; done) | (simp; omega) | (simp at *; omega)) _) | (refine Below.alloc ?_ (by first | omega | (simp; done) | (simp; omega) | (simp at *; omega)) _) | refine Below.drew ?_ | (refine below_drewN ?_ _) | (refine Below.trans ?_ (Below.mono (by assumption) (by first | omega | (simp; done) | (simp; omega) | (simp at *; omega))))))
  have hsz : W0.heap.size = w.heap.size + 2 := by rw [← hW0]; simp
  rw [hW0]
  refine wpIn_rangeFunc_ownG hro (by decide) (gf := 41) (lb := #[]) rfl trivial (enters_of Try.func41 (by kernel_rfl) rfl)
    (rows_stops 4 (by decide) W0) (fun _ _ => trivial) (fun _ _ _ _ _ _ _ _ => trivial) (Below.refl _ _) (fun _ => rfl)
    (fun pre W => (∀ x ∈ pre, x.val ≠ p) ∧ Blk W w.heap.size 3 #[.int .i64 p] ∧ Blk W (w.heap.size + 1) 22 #[.int .u64 0] ∧ Below w.heap.size w W)
    (fun c _ W => c = .ret ∧ Blk W (w.heap.size + 1) 22 #[.int .u64 ((rowK p : Nat) : Int)] ∧ Below w.heap.size w W)
    (OwnFrom.and (ownFrom_pure _ _) (OwnFrom.and (Own.from (blk_own _ _ _) _) (OwnFrom.and (Own.from (blk_own _ _ _) _) (ownFrom_below (Nat.le_refl _) (by omega)))))
    (fun c => OwnFrom.and (ownFrom_pure _ _) (OwnFrom.and (Own.from (blk_own _ _ _) _) (ownFrom_below (Nat.le_refl _) (by omega))))
    ⟨fun x hx => absurd hx List.not_mem_nil, bP, bR, hB0⟩
    (fun x => { tmps := #[.int .i64 p, .pointer (some ⟨w.heap.size, 0, none⟩), .pointer (some ⟨w.heap.size + 1, 0, none⟩), .int .i64 (x.val : Int), .int .u64 ((rowK x.val : Nat) : Int), .func (.func 41) #[] #[], .int .i64 (x.val : Int), .int .u64 ((rowK x.val : Nat) : Int), undef, undef, undef, undef], defers := [] }) ?assign ?body ?done ?stop
  case assign =>
    intro l x W K hK
    gi_wp2
    exact hK
  case body =>
    rintro l pre x W ⟨hno, bP, bR, hB⟩ hlt
    have hc := bP.cell 0
    have hr := bR.cell 0
    have hf := bR.frozen 0
    simp only [List.getElem?_toArray, List.getElem?_cons_zero] at hc hr
    by_cases he : x.val = p
    · have h1 : ((x.val : Int) == (p : Int)) = true := by rw [he]; simp
      have HE := Lib.hid he
      clear he
      gi_wp2
      exact ⟨(KeepsOthers.setCell _ _ _).from _, rfl, by rw [← HE.out]; exact bR.set_ 0 (.int .u64 ((rowK x.val : Nat) : Int)), hB.setCell (p := ⟨w.heap.size + 1, 0, none⟩) (by simp) _⟩
    · have h1 : ((x.val : Int) == (p : Int)) = false := by simp; omega
      gi_wp2
      refine ⟨KeepsFrom.refl _ _, trivial, ?_, bP, bR, hB⟩
      intro y hy
      rcases List.mem_append.1 hy with h | h
      · exact hno y h
      · rw [List.mem_singleton.1 h]; exact he
  case done =>
    rintro D ys W hD rfl ⟨hno, bP, bR, hB⟩ hK
    exact absurd rfl (hno ⟨p, hp⟩ (FR_mem _))
  case stop =>
    rintro D c pre W hD hpre ⟨rfl, bR, hB⟩ hK
    have hc := bR.cell 0
    simp only [List.getElem?_toArray, List.getElem?_cons_zero] at hc
    gi_wp2
    have bR2 := bR.put (.deferred none) hK rfl
    refine ⟨by simp, .inl ⟨_, _, rfl, run_takeDeferred hK, ?_⟩⟩
    refine ⟨.int .u64 ((rowK p : Nat) : Int), by simp [results, Try.results28, go_sem, bR2.cell 0], rfl, ?_⟩
    exact hB.trans (belowK_b (w := w) (Nat.le_refl _) _ D _ _ (by omega) hK rfl rfl)
theorem number_any (p : Nat) (hp : p < 1262) (w : World) :
    Calls Try.prog 28 #[.int .i64 p] w (Gives w (.int .u64 ((rowK p : Nat) : Int))) := callsIn_wide.1 (number_in p hp w)
def LT : ByteArray := ⟨#[75, 65, 66, 78, 82, 67, 80, 107, 97, 98, 110, 114, 99, 112]⟩
/-- Is the number at a place of the row one of those that a position's key is made of? -/
def kcountB (s : ByteArray) (side : Int) (i : Nat) : Bool := if i = 0 then false else if i = 1261 then side == 1 else bAt s ((i - 1) % 90) == bAt LT ((i - 1) / 90)
theorem place_facts {i q n : Nat} (hi : i < 1262) (h0 : i ≠ 0) (hq : (i - 1) / 90 = q) (hn : (i - 1) % 90 = n) :
    IntKind.i64.wrap ((i : Int) - 1) = ((i - 1 : Nat) : Int) ∧ (((i - 1 : Nat) : Int)).tdiv 90 = (q : Int) ∧ (((i - 1 : Nat) : Int)).tmod 90 = (n : Int) ∧ wrap64 (q : Int) = (q : Int) := by
  refine ⟨?_, ?_, ?_, IntWalk.wrap64_in _ ⟨by omega, by omega⟩⟩
  · rw [show (i : Int) - 1 = ((i - 1 : Nat) : Int) by omega]; exact IntWalk.i64_in _ (by omega)
  · rw [Int.tdiv_eq_ediv_of_nonneg (Int.natCast_nonneg _)]; omega
  · rw [Int.tmod_eq_emod_of_nonneg (Int.natCast_nonneg _)]; omega
set_option maxHeartbeats 1000000 in
theorem counts_any (s : ByteArray) (side clock full : Int) (i : Nat) (w : World) (hs : isB s = true) (hi : i < 1262) :
    Calls Try.prog 33 #[.agg #[.string s, .int .i64 side, .int .i64 clock, .int .i64 full], .int .i64 i] w (Gives w (.bool (kcountB s side i))) := by
  unfold Gives
  obtain ⟨r, hr⟩ : ∃ r, kcountB s side i = r := ⟨_, rfl⟩
  rw [hr]
  obtain ⟨W0, hW0⟩ : ∃ W0, w.alloc (.cells #[.string s, .int .i64 side, .int .i64 clock, .int .i64 full] 29) = W0 := ⟨_, rfl⟩
  have hB : Below w.heap.size w W0 := by rw [← hW0]; exact (by repeat (first | exact Below.refl _ _ | (refine Below.setCell ?_ (by first | omega | (simp; done) | (simp; omega) | (simp at *; omega)) _) | (refine Below.alloc ?_ (by first | omega | (simp; done) | (simp; omega) | (simp at *; omega)) _) | refine Below.drew ?_ | (refine below_drewN ?_ _) | (refine Below.trans ?_ (Below.mono (by assumption) (by first | omega | (simp; done) | (simp; omega) | (simp at *; omega))))))
  have bP : Blk W0 w.heap.size 29 #[.string s, .int .i64 side, .int .i64 clock, .int .i64 full] := by rw [← hW0]; exact Blk.new _ _ _ rfl
  have p0 : W0.cell? ⟨w.heap.size, 0, none⟩ = some (.string s) := bP.cell 0
  have p1 : W0.cell? ⟨w.heap.size, 1, none⟩ = some (.int .i64 side) := bP.cell 1
  have HW := Lib.hid hW0
  clear hW0
  by_cases h0 : i = 0
  · have e0 : ((i : Int) == 0) = true := by rw [h0]; rfl
    have HR : Hid (r = false) := by show _ = _; rw [← hr, kcountB, if_pos h0]
    clear hr h0
    go_enter Try.func33, Try.ntmps33
    go_wp2
    rw [HW.out]
    go_ret
    exact ⟨by rw [HR.out]; rfl, hB⟩
  · have e0 : ((i : Int) == 0) = false := by simp; omega
    by_cases h1 : i = 1261
    · have e1 : ((i : Int) == 1261) = true := by rw [h1]; rfl
      have HR : Hid (r = (side == 1)) := by show _ = _; rw [← hr, kcountB, if_neg h0, if_pos h1]
      clear hr h0 h1
      go_enter Try.func33, Try.ntmps33
      go_wp2_with fail
      rw [HW.out]
      go_wp2
      go_ret
      exact ⟨by rw [HR.out]; rfl, hB⟩
    · have e1 : ((i : Int) == 1261) = false := by simp; omega
      obtain ⟨q, hq⟩ : ∃ q, (i - 1) / 90 = q := ⟨_, rfl⟩
      obtain ⟨n, hn⟩ : ∃ n, (i - 1) % 90 = n := ⟨_, rfl⟩
      obtain ⟨x, hx⟩ : ∃ x, bAt s n = x := ⟨_, rfl⟩
      obtain ⟨y, hy⟩ : ∃ y, bAt LT q = y := ⟨_, rfl⟩
      obtain ⟨B, hLB⟩ : ∃ B, LT = B := ⟨_, rfl⟩
      have lq : q < B.size := by rw [← hLB]; show q < 14; omega
      have ln : n < s.size := by rw [isB_size hs]; omega
      have c1 : (0 : Int) ≤ (q : Int) := Int.natCast_nonneg q
      have c2 : (q : Int) < (B.size : Int) := Int.ofNat_lt.2 lq
      have c3 : (0 : Int) ≤ (n : Int) := Int.natCast_nonneg n
      have c4 : (n : Int) < (s.size : Int) := Int.ofNat_lt.2 ln
      have bx : s[n].toNat = x := (bAt_eq s n ln).trans hx
      have bY : B[q].toNat = y := (bAt_eq B q lq).trans (by rw [← hLB]; exact hy)
      obtain ⟨i1, i2, i3, i4⟩ := place_facts hi h0 hq hn
      have HR : Hid (r = ((x : Int) == (y : Int))) := by
        show _ = _
        rw [← hr, kcountB, if_neg h0, if_neg h1, hq, hn, hx, hy, Bool.eq_iff_iff, beq_iff_eq, beq_iff_eq]
        exact Int.ofNat_inj.symm
      clear hr h0 h1 hq hn hx hy hs
      go_enter Try.func33, Try.ntmps33
      rw [show (⟨#[75, 65, 66, 78, 82, 67, 80, 107, 97, 98, 110, 114, 99, 112]⟩ : ByteArray) = B from hLB]
      clear hLB
      go_wp2_with fail
      rw [HW.out]
      go_quiet (fail)
      go_wp2
      go_ret
      exact ⟨by rw [HR.out]; rfl, below_drewN hB _⟩
def cK (s : ByteArray) (side : Int) (i : Nat) : Nat := if kcountB s side i then rowK i else 0
/-- What is xored of the first places. -/
def sumK (s : ByteArray) (side : Int) (l : List (Fin 1262)) : Nat := l.foldl (fun k x => k ^^^ cK s side x.val) 0
theorem sumK_snoc (s : ByteArray) (side : Int) (l : List (Fin 1262)) (x : Fin 1262) : sumK s side (l ++ [x]) = sumK s side l ^^^ cK s side x.val := by simp [sumK]
theorem cK_lt (s : ByteArray) (side : Int) (i : Nat) : cK s side i < 18446744073709551616 := by
  unfold cK
  split
  · exact row_lt i
  · decide
theorem sumK_lt (s : ByteArray) (side : Int) (l : List (Fin 1262)) : sumK s side l < 18446744073709551616 := by
  unfold sumK
  have : ∀ (l : List (Fin 1262)) (k : Nat), k < 18446744073709551616 → l.foldl (fun k x => k ^^^ cK s side x.val) k < 18446744073709551616 := fun l => by
    induction l with
    | nil => exact fun k h => h
    | cons x r ih => exact fun k h => ih _ (Nat.xor_lt_two_pow (n := 64) h (cK_lt s side x.val))
  exact this l 0 (by decide)
set_option maxRecDepth 100000 in
set_option maxHeartbeats 2000000 in
theorem of_in (s : ByteArray) (side clock full : Int) (w : World) (hs : isB s = true) :
    CallsIn Fence.wide 5 Try.prog 17 #[.agg #[.string s, .int .i64 side, .int .i64 clock, .int .i64 full]] w fun e W' => e = .returned (.int .u64 ((sumK s side FR : Nat) : Int)) ∧ Below w.heap.size w W' := by
  have hro : Fence.wide.round = none := rfl
  have HS := Lib.hid hs
  clear hs
  obtain ⟨Wp, hWp⟩ : ∃ Wp, w.alloc (.cells #[.string s, .int .i64 side, .int .i64 clock, .int .i64 full] 29) = Wp := ⟨_, rfl⟩
  have bP0 : Blk Wp w.heap.size 29 #[.string s, .int .i64 side, .int .i64 clock, .int .i64 full] := by rw [← hWp]; exact Blk.new _ _ _ rfl
  have hBp : Below w.heap.size w Wp := by rw [← hWp]; exact (by repeat (first | exact Below.refl _ _ | (refine Below.setCell ?_ (by first | omega | (simp; done) | (simp; omega) | (simp at *; omega)) _) | (refine Below.alloc ?_ (by first | omega | (simp; done) | (simp; omega) | (simp at *; omega)) _) | refine Below.drew ?_ | (refine below_drewN ?_ _) | (refine Below.trans ?_ (Below.mono (by assumption) (by first | omega | (simp; done) | (simp; omega) | (simp at *; omega))))))
  have hszp : Wp.heap.size = w.heap.size + 1 := by rw [← hWp]; simp
  have p0 : Wp.cell? ⟨w.heap.size, 0, none⟩ = some (.string s) := bP0.cell 0
  have HW := Lib.hid hWp
  have HZ := Lib.hid hszp
  clear hWp hszp
  refine callsIn_of_wp_marks Try.func17 rfl trivial ?_ hro
  simp only [Try.ntmps17, List.size_toArray, List.length_cons, List.length_nil, Nat.reduceAdd, Nat.reduceSub, Array.replicate_succ, Array.replicate_zero, List.push_toArray, List.append_toArray, List.nil_append, List.cons_append]
  gi_wp2_with fail
  refine ⟨trivial, ?_⟩
  rw [HW.out]
  refine (callsIn_wide.2 (is_is s true _ HS.out)).mono ?_
  rintro e w1 ⟨rfl, rfl⟩
  gi_wp2_with (refine ⟨trivial, ?_⟩; gi_at_call 32; refine (callsIn_wide.2 (row_any _)).mono ?_; rintro e w' ⟨rfl, rfl⟩)
  obtain ⟨W0, hW0⟩ : ∃ W0, Wp.alloc (.cells #[.int .u64 0] 22) = W0 := ⟨_, rfl⟩
  have bP : Blk W0 w.heap.size 29 #[.string s, .int .i64 side, .int .i64 clock, .int .i64 full] := by rw [← hW0]; exact bP0.alloc _
  have bR : Blk W0 (w.heap.size + 1) 22 #[.int .u64 0] := by rw [← hW0]; exact Blk.new _ _ _ HZ.out.symm
  have hsz : W0.heap.size = w.heap.size + 2 := by rw [← hW0, World.size_alloc, HZ.out]
  have hB0 : Below w.heap.size w W0 := by rw [← hW0]; exact hBp.alloc hBp.size _
  simp only [HZ.out]
  rw [hW0]
  clear bP0 hBp p0 HW HZ hW0
  refine wpIn_rangeFunc_ownG hro (by decide) (gf := 41) (lb := #[]) rfl trivial (enters_of Try.func41 (by kernel_rfl) rfl)
    (rows_stops 4 (by decide) W0) (fun _ _ => trivial) (fun _ _ _ _ _ _ _ _ => trivial) (Below.refl _ _) (fun _ => rfl)
    (fun pre W => Blk W w.heap.size 29 #[.string s, .int .i64 side, .int .i64 clock, .int .i64 full] ∧ Blk W (w.heap.size + 1) 22 #[.int .u64 ((sumK s side pre : Nat) : Int)] ∧ Below w.heap.size w W)
    (fun _ _ _ => False)
    (OwnFrom.and (Own.from (blk_own _ _ _) _) (OwnFrom.and (Own.from (blk_own _ _ (fun pre => #[.int .u64 ((sumK s side pre : Nat) : Int)])) _) (ownFrom_below (Nat.le_refl _) (by omega))))
    (fun _ _ _ _ _ hs _ _ => hs)
    ⟨bP, bR, hB0⟩
    (fun x => { tmps := #[.agg #[.string s, .int .i64 side, .int .i64 clock, .int .i64 full], .pointer (some ⟨w.heap.size, 0, none⟩), .int .u64 0, .pointer (some ⟨w.heap.size + 1, 0, none⟩), .int .i64 (x.val : Int), .int .u64 ((rowK x.val : Nat) : Int), .pointer (some ⟨w.heap.size, 0, none⟩), .string s, .bool true, .bool false, .func (.func 41) #[] #[], .int .i64 (x.val : Int), .int .u64 ((rowK x.val : Nat) : Int), undef, undef, undef, undef, undef, undef, undef], defers := [] }) ?assign ?body ?done ?stop
  case assign =>
    intro l x W K hK
    gi_wp2
    exact hK
  case body =>
    rintro l pre x W ⟨bP, bR, hB⟩ hlt
    have hbs := hB.size
    obtain ⟨p0, p1, p2, p3⟩ := kpos_cells bP
    obtain ⟨c, hcn⟩ : ∃ c, kcountB s side x.val = c := ⟨_, rfl⟩
    have hC : ∀ W', Calls Try.prog 33 #[.agg #[.string s, .int .i64 side, .int .i64 clock, .int .i64 full], .int .i64 (x.val : Int)] W' (Gives W' (.bool c)) := fun W' => by rw [← hcn]; exact counts_any s side clock full x.val W' HS.out x.isLt
    have HC := Lib.hid hC
    have hsum : sumK s side (pre ++ [x]) = sumK s side pre ^^^ (if c then rowK x.val else 0) := by rw [sumK_snoc, ← hcn]; rfl
    obtain ⟨k, hk⟩ : ∃ k, sumK s side pre = k := ⟨_, rfl⟩
    obtain ⟨y, hy⟩ : ∃ y, rowK x.val = y := ⟨_, rfl⟩
    have lk : k < 18446744073709551616 := by rw [← hk]; exact sumK_lt s side pre
    have ly : y < 18446744073709551616 := by rw [← hy]; exact row_lt _
    have hxor : bits .xor .u64 (k : Int) (y : Int) = ((k ^^^ y : Nat) : Int) := u64_xor_nat _ _ lk ly
    rw [hk] at bR hsum
    rw [hy] at hsum ⊢
    have HSUM := Lib.hid hsum
    clear hsum hk hy hcn lk ly hC
    cases c
    · gi_wp2_with (refine ⟨trivial, ?_⟩; gi_at_call 33; refine (CallsIn.inRound l (callsIn_wide.2 (HC.out _))).mono ?_; rintro e w1 ⟨rfl, hb1⟩)
      refine ⟨(keeps_next hb1).from _, trivial, bP.next hb1, ?_, hB.trans (hb1.mono hbs)⟩
      rw [HSUM.out]
      simpa using bR.next hb1
    · gi_wp2_with (refine ⟨trivial, ?_⟩; gi_at_call 33; refine (CallsIn.inRound l (callsIn_wide.2 (HC.out _))).mono ?_; rintro e w1 ⟨rfl, hb1⟩; have bR1 := bR.next hb1; have r0 : w1.cell? ⟨w.heap.size + 1, 0, none⟩ = some (.int .u64 (k : Int)) := bR1.cell 0; have f0 := bR1.frozen 0)
      have hb2 := (hB.trans (hb1.mono hbs)).setCell (p := ⟨w.heap.size + 1, 0, none⟩) (by simp) (.int .u64 ((k ^^^ y : Nat) : Int))
      refine ⟨((keeps_next hb1).trans (KeepsOthers.setCell _ _ _)).from _, trivial, (bP.next hb1).far (by simp) _, ?_, hb2⟩
      rw [HSUM.out]
      exact bR1.set_ 0 _
  case done =>
    rintro D ys W hD rfl ⟨bP, bR, hB⟩ hK
    have r0 : W.cell? ⟨w.heap.size + 1, 0, none⟩ = some (.int .u64 ((sumK s side FR : Nat) : Int)) := bR.cell 0
    gi_wp2
    refine ⟨by simp, .inl ⟨_, _, rfl, run_takeDeferred hK, ?_⟩⟩
    exact ⟨_, results_tmp rfl _ _ _, rfl, hB.trans (belowK_b (w := w) (Nat.le_refl _) W D _ _ (by omega) hK rfl rfl)⟩
  case stop =>
    rintro D c pre W _ _ h _
    exact h.elim
set_option maxHeartbeats 1000000 in
theorem of_bad (s : ByteArray) (side clock full : Int) (w : World) (hs : isB s = false) :
    Calls Try.prog 17 #[.agg #[.string s, .int .i64 side, .int .i64 clock, .int .i64 full]] w (Gives w (.int .u64 0)) := by
  unfold Gives
  obtain ⟨W0, hW0⟩ : ∃ W0, w.alloc (.cells #[.string s, .int .i64 side, .int .i64 clock, .int .i64 full] 29) = W0 := ⟨_, rfl⟩
  have hB : Below w.heap.size w W0 := by rw [← hW0]; exact (by repeat (first | exact Below.refl _ _ | (refine Below.setCell ?_ (by first | omega | (simp; done) | (simp; omega) | (simp at *; omega)) _) | (refine Below.alloc ?_ (by first | omega | (simp; done) | (simp; omega) | (simp at *; omega)) _) | refine Below.drew ?_ | (refine below_drewN ?_ _) | (refine Below.trans ?_ (Below.mono (by assumption) (by first | omega | (simp; done) | (simp; omega) | (simp at *; omega))))))
  have HW := Lib.hid hW0
  have HS := Lib.hid hs
  clear hW0 hs
  go_enter Try.func17, Try.ntmps17
  go_wp2_with fail
  rw [HW.out]
  refine (is_is s false _ HS.out).mono ?_
  rintro e w1 ⟨rfl, rfl⟩
  go_wp2
  go_ret
  exact ⟨rfl, hB⟩
/-! The sum along the row is the sum over the squares. -/
theorem xsum_add (f : Nat → Nat) (m : Nat) : ∀ n, xsum f (m + n) = xsum f m ^^^ xsum (fun k => f (m + k)) n
  | 0 => by simp [xsum]
  | n + 1 => by
    show xsum f (m + n) ^^^ f (m + n) = _
    rw [xsum_add f m n, xsum, Nat.xor_assoc]
theorem xsum_mul (f : Nat → Nat) (b : Nat) : ∀ a, xsum f (a * b) = xsum (fun l => xsum (fun n => f (l * b + n)) b) a
  | 0 => by rw [Nat.zero_mul]; rfl
  | a + 1 => by rw [Nat.succ_mul, xsum_add, xsum_mul f b a]; rfl
theorem xsum_xor (f g : Nat → Nat) : ∀ n, xsum (fun k => f k ^^^ g k) n = xsum f n ^^^ xsum g n
  | 0 => by simp [xsum]
  | n + 1 => by
    show xsum (fun k => f k ^^^ g k) n ^^^ (f n ^^^ g n) = (xsum f n ^^^ f n) ^^^ (xsum g n ^^^ g n)
    rw [xsum_xor f g n]
    generalize xsum f n = p
    generalize xsum g n = q
    rw [Nat.xor_assoc, Nat.xor_assoc, ← Nat.xor_assoc q, Nat.xor_comm q (f n), Nat.xor_assoc (f n)]
theorem xsum_zero : ∀ n, xsum (fun _ => 0) n = 0
  | 0 => rfl
  | n + 1 => by rw [xsum, xsum_zero n]; rfl
theorem xsum_swap (f : Nat → Nat → Nat) (b : Nat) : ∀ a, xsum (fun l => xsum (fun n => f l n) b) a = xsum (fun n => xsum (fun l => f l n) a) b
  | 0 => by
    show (0 : Nat) = xsum (fun _ => 0) b
    rw [xsum_zero]
  | a + 1 => by
    show xsum (fun l => xsum (fun n => f l n) b) a ^^^ xsum (fun n => f a n) b = _
    rw [xsum_swap f b a, ← xsum_xor]
    rfl
theorem sumK_at (s : ByteArray) (side : Int) (k : Nat) (hk : k ≤ 1262) : sumK s side (FR.take k) = xsum (cK s side) k := by
  induction k with
  | zero => rfl
  | succ k ih => rw [FR_take k (by omega), sumK_snoc, ih (by omega)]; rfl
set_option maxRecDepth 100000 in
theorem letters_cell (c : Nat) (n : Nat) (hn : n < 90) : xsum (fun l => if c == bAt LT l then rowK (1 + (l * 90 + n)) else 0) 14 = cellK c (n : Int) := by
  unfold cellK
  rw [if_pos ⟨Int.natCast_nonneg n, by omega⟩, Int.toNat_natCast]
  have hL : ∀ l, l < 14 → bAt LT l = [75, 65, 66, 78, 82, 67, 80, 107, 97, 98, 110, 114, 99, 112].getD l 0 := by decide
  have h1 : xsum (fun l => if c == bAt LT l then rowK (1 + (l * 90 + n)) else 0) 14 = xsum (fun l => if c == [75, 65, 66, 78, 82, 67, 80, 107, 97, 98, 110, 114, 99, 112].getD l 0 then rowK (1 + 90 * l + n) else 0) 14 := (xsum_same 14 fun l hl => by rw [hL l hl, show 1 + (l * 90 + n) = 1 + 90 * l + n by omega])
  rw [h1]
  have h2 : ∀ g : Nat → Nat, xsum g 14 = 0 ^^^ g 0 ^^^ g 1 ^^^ g 2 ^^^ g 3 ^^^ g 4 ^^^ g 5 ^^^ g 6 ^^^ g 7 ^^^ g 8 ^^^ g 9 ^^^ g 10 ^^^ g 11 ^^^ g 12 ^^^ g 13 := fun _ => rfl
  rw [h2]
  by_cases hc : c ∈ [75, 65, 66, 78, 82, 67, 80, 107, 97, 98, 110, 114, 99, 112]
  · simp only [List.mem_cons, List.not_mem_nil, or_false] at hc
    rcases hc with rfl | rfl | rfl | rfl | rfl | rfl | rfl | rfl | rfl | rfl | rfl | rfl | rfl | rfl <;> simp [placeK, List.findIdx?_cons]
  · have hp : placeK c = none := by
      unfold placeK
      rw [List.findIdx?_eq_none_iff]
      intro x hx
      simp only [beq_eq_false_iff_ne]
      rintro rfl
      exact hc hx
    rw [hp]
    simp only [List.mem_cons, List.not_mem_nil, or_false, not_or] at hc
    obtain ⟨h0, h3, h4, h5, h6, h7, h8, h9, h10, h11, h12, h13, h14, h15⟩ := hc
    simp [h0, h3, h4, h5, h6, h7, h8, h9, h10, h11, h12, h13, h14, h15]
theorem sum_key (s : ByteArray) (side : Int) (hs : isB s = true) : sumK s side FR = keyB s side := by
  have h0 := sumK_at s side 1262 (Nat.le_refl _)
  rw [FR_full] at h0
  rw [h0]
  show xsum (cK s side) 1261 ^^^ cK s side 1261 = _
  rw [show 1261 = 1 + 14 * 90 from rfl, xsum_add, xsum_mul]
  unfold keyB
  rw [hs, if_pos rfl]
  have h1 : xsum (cK s side) 1 = 0 := by
    show 0 ^^^ cK s side 0 = 0
    unfold cK kcountB
    simp
  have h2 : cK s side (1 + 14 * 90) = if side = 1 then turnK else 0 := by
    show cK s side 1261 = _
    have h3 : kcountB s side 1261 = (side == 1) := by unfold kcountB; rw [if_neg (by decide), if_pos rfl]
    unfold cK
    rw [h3]
    show _ = if side = 1 then rowK 1261 else 0
    by_cases h : side = 1
    · rw [if_pos h, if_pos (by simp [h])]
    · rw [if_neg h, if_neg (by simp [h])]
  rw [h1, h2, Nat.zero_xor]
  have h3 : ∀ l n, l < 14 → n < 90 → cK s side (1 + (l * 90 + n)) = if bAt s n == bAt LT l then rowK (1 + (l * 90 + n)) else 0 := fun l n hl hn => by
    have h5 : kcountB s side (1 + (l * 90 + n)) = (bAt s n == bAt LT l) := by
      unfold kcountB
      rw [if_neg (by omega), if_neg (by omega), show (1 + (l * 90 + n) - 1) % 90 = n by omega, show (1 + (l * 90 + n) - 1) / 90 = l by omega]
    unfold cK
    rw [h5]
  have h4 : xsum (fun l => xsum (fun n => cK s side (1 + (l * 90 + n))) 90) 14 = xsum (fun k => cellK (bAt s k) (k : Int)) 90 := by
    rw [xsum_same (f := fun l => xsum (fun n => if bAt s n == bAt LT l then rowK (1 + (l * 90 + n)) else 0) 90) 14 fun l hl => xsum_same 90 fun n hn => h3 l n hl hn]
    rw [xsum_swap (fun l n => if bAt s n == bAt LT l then rowK (1 + (l * 90 + n)) else 0) 90 14]
    exact xsum_same 90 fun n hn => letters_cell (bAt s n) n hn
  rw [h4]
theorem kof_any (s : ByteArray) (side clock full : Int) (w : World) :
    Calls Try.prog 17 #[.agg #[.string s, .int .i64 side, .int .i64 clock, .int .i64 full]] w (Gives w (.int .u64 ((keyB s side : Nat) : Int))) := by
  cases hs : isB s
  · have := of_bad s side clock full w hs
    unfold keyB
    rw [hs]
    exact this
  · rw [← sum_key s side hs]
    exact callsIn_wide.1 (of_in s side clock full w hs)
theorem kof_is (s : ByteArray) (side clock full : Int) (k : Nat) (w : World) (h : keyB s side = k) :
    Calls Try.prog 17 #[.agg #[.string s, .int .i64 side, .int .i64 clock, .int .i64 full]] w (Gives w (.int .u64 (k : Int))) := by subst h; exact kof_any s side clock full w
theorem ksquare_any (n : Int) (w : World) : Calls Try.prog 27 #[.int .i64 n] w fun e w' => e = .returned (.bool (decide (0 ≤ n ∧ n < 90))) ∧ w = w' := by
  obtain ⟨r, hr⟩ : ∃ r, decide (0 ≤ n ∧ n < 90) = r := ⟨_, rfl⟩
  rw [hr]
  by_cases h : 0 ≤ n
  · by_cases h2 : n < 90
    · have HR : Hid (r = true) := by show _ = _; rw [← hr]; simp; omega
      clear hr
      go_enter Try.func27, Try.ntmps27
      go_wp2
      go_ret
      exact ⟨by rw [HR.out]; rfl, rfl⟩
    · have HR : Hid (r = false) := by show _ = _; rw [← hr]; simp; omega
      clear hr
      go_enter Try.func27, Try.ntmps27
      go_wp2
      go_ret
      exact ⟨by rw [HR.out]; rfl, rfl⟩
  · have HR : Hid (r = false) := by show _ = _; rw [← hr]; simp; omega
    clear hr
    go_enter Try.func27, Try.ntmps27
    go_wp2
    go_ret
    exact ⟨by rw [HR.out]; rfl, rfl⟩
theorem ksquare_is (n : Int) (b : Bool) (w : World) (h : decide (0 ≤ n ∧ n < 90) = b) : Calls Try.prog 27 #[.int .i64 n] w fun e w' => e = .returned (.bool b) ∧ w = w' := by subst h; exact ksquare_any n w
theorem letter_index : ∀ c : Fin 256, Lib.indexByte LT.data.toList ((c.val : Int)).toNat.toUInt8 = (match placeK c.val with | some i => (i : Int) | none => -1) := by decide +kernel
theorem place_lt {c i : Nat} (h : placeK c = some i) : i < 14 := by
  unfold placeK at h
  have := (List.findIdx?_eq_some_iff_getElem.1 h).1
  simpa using this
theorem kindex_is (c : Nat) (k : Int) (w : World) (h : Lib.indexByte LT.data.toList ((c : Int)).toNat.toUInt8 = k) :
    Calls Try.prog 26 #[.string ⟨#[75, 65, 66, 78, 82, 67, 80, 107, 97, 98, 110, 114, 99, 112]⟩, .int .u8 (c : Int)] w (Says w (.int .i64 k)) := by subst h; exact indexByte_any LT (c : Int) w
set_option maxHeartbeats 1000000 in
theorem cell_any (c : Nat) (n : Int) (w : World) (hc : c < 256) :
    Calls Try.prog 12 #[.int .u8 (c : Int), .int .i64 n] w (Gives w (.int .u64 ((cellK c n : Nat) : Int))) := by
  unfold Gives
  have hI := letter_index ⟨c, hc⟩
  simp only [] at hI
  cases hp : placeK c with
  | none =>
    rw [hp] at hI
    have HI := Lib.hid hI
    have HR : Hid (cellK c n = 0) := by show _ = _; unfold cellK; rw [hp]; simp
    clear hI hp
    go_enter Try.func12, Try.ntmps12
    go_wp2_with fail
    refine (kindex_is c (-1) _ HI.out).mono ?_
    rintro e w1 ⟨rfl, rfl⟩
    go_wp2
    go_ret
    exact ⟨by rw [HR.out]; rfl, Below.refl _ _⟩
  | some i =>
    rw [hp] at hI
    have li := place_lt hp
    have HI : Hid (Lib.indexByte LT.data.toList ((c : Int)).toNat.toUInt8 = (i : Int)) := hI
    have b0 : decide ((i : Int) < 0) = false := by simp
    by_cases hn : 0 ≤ n ∧ n < 90
    · have hsq : Hid (decide (0 ≤ n ∧ n < 90) = true) := by show _ = _; simpa using hn
      obtain ⟨m, rfl⟩ : ∃ m : Nat, n = m := ⟨n.toNat, by omega⟩
      have i1 : IntKind.i64.wrap ((i : Int) * 90) = ((i * 90 : Nat) : Int) := by rw [show (i : Int) * 90 = ((i * 90 : Nat) : Int) by omega]; exact IntWalk.i64_in _ (by omega)
      have i2 : IntKind.i64.wrap (1 + ((i * 90 : Nat) : Int)) = ((1 + i * 90 : Nat) : Int) := by rw [show 1 + ((i * 90 : Nat) : Int) = ((1 + i * 90 : Nat) : Int) by omega]; exact IntWalk.i64_in _ (by omega)
      have i3 : IntKind.i64.wrap (((1 + i * 90 : Nat) : Int) + (m : Int)) = ((1 + i * 90 + m : Nat) : Int) := by rw [show ((1 + i * 90 : Nat) : Int) + (m : Int) = ((1 + i * 90 + m : Nat) : Int) by omega]; exact IntWalk.i64_in _ (by omega)
      have hlt : 1 + i * 90 + m < 1262 := by omega
      have HR : Hid (cellK c (m : Int) = rowK (1 + i * 90 + m)) := by
        show _ = _
        unfold cellK
        rw [hp, if_pos hn, Int.toNat_natCast]
        show rowK (1 + 90 * i + m) = _
        rw [Nat.mul_comm 90 i]
      clear hI hp hn
      go_enter Try.func12, Try.ntmps12
      go_wp2_with fail
      refine (kindex_is c (i : Int) _ HI.out).mono ?_
      rintro e w1 ⟨rfl, rfl⟩
      go_wp2_with fail
      refine (ksquare_is (m : Int) true _ hsq.out).mono ?_
      rintro e w2 ⟨rfl, rfl⟩
      go_wp2_with fail
      refine (number_any (1 + i * 90 + m) hlt _).mono ?_
      rintro e w3 ⟨rfl, hb⟩
      go_wp2
      go_ret
      exact ⟨by rw [HR.out]; rfl, hb⟩
    · have hsq : Hid (decide (0 ≤ n ∧ n < 90) = false) := by show _ = _; simpa using hn
      have HR : Hid (cellK c n = 0) := by show _ = _; unfold cellK; rw [if_neg hn]
      clear hI hp hn
      go_enter Try.func12, Try.ntmps12
      go_wp2_with fail
      refine (kindex_is c (i : Int) _ HI.out).mono ?_
      rintro e w1 ⟨rfl, rfl⟩
      go_wp2_with fail
      refine (ksquare_is n false _ hsq.out).mono ?_
      rintro e w2 ⟨rfl, rfl⟩
      go_wp2
      go_ret
      exact ⟨by rw [HR.out]; rfl, Below.refl _ _⟩
theorem cell_is (c : Nat) (n : Int) (k : Nat) (w : World) (hc : c < 256) (h : cellK c n = k) :
    Calls Try.prog 12 #[.int .u8 (c : Int), .int .i64 n] w (Gives w (.int .u64 (k : Int))) := by subst h; exact cell_any c n w hc
set_option maxHeartbeats 1000000 in
theorem kturn_is (t : Nat) (w : World) (h : turnK = t) : Calls Try.prog 14 #[] w (Gives w (.int .u64 (t : Int))) := by
  unfold Gives
  have h1 : rowK 1261 = t := h
  have H := Lib.hid h1
  clear h h1
  go_enter Try.func14, Try.ntmps14
  go_wp2_with fail
  have hn := number_any 1261 (by decide) w
  rw [H.out] at hn
  refine hn.mono ?_
  rintro e w3 ⟨rfl, hb⟩
  go_wp2
  go_ret
  exact ⟨rfl, hb⟩
theorem cell_lt64 (c : Nat) (n : Int) : cellK c n < 18446744073709551616 := by
  unfold cellK
  split
  · split
    · exact row_lt _
    · decide
  · decide
theorem turn_lt : turnK < 18446744073709551616 := row_lt _
theorem key_lt (s : ByteArray) (side : Int) : keyB s side < 18446744073709551616 := by
  cases hs : isB s
  · unfold keyB; rw [hs]; show 0 < 18446744073709551616; decide
  · rw [← sum_key s side hs]; exact sumK_lt s side FR
theorem moved_lt (k c : Nat) (a b : Int) (t : Nat) (hk : k < 18446744073709551616) : movedK k c a b t < 18446744073709551616 :=
  Nat.xor_lt_two_pow (n := 64) (Nat.xor_lt_two_pow (n := 64) (Nat.xor_lt_two_pow (n := 64) (Nat.xor_lt_two_pow (n := 64) hk (cell_lt64 c a)) (cell_lt64 c b)) (cell_lt64 t b)) turn_lt
theorem mvS_keep {g : Nat} {a b : Int} {w W W' : World} (h : W.cell? ⟨g, 0, none⟩ = some (.int .i64 a) ∧ W.cell? ⟨g, 1, none⟩ = some (.int .i64 b) ∧ Below w.heap.size w W) (hb : Below W.heap.size W W') : W'.cell? ⟨g, 0, none⟩ = some (.int .i64 a) ∧ W'.cell? ⟨g, 1, none⟩ = some (.int .i64 b) ∧ Below w.heap.size w W' :=
  ⟨(hb.cell (p := ⟨g, 0, none⟩) (cell_lt h.1)).trans h.1, (hb.cell (p := ⟨g, 1, none⟩) (cell_lt h.2.1)).trans h.2.1, h.2.2.trans (hb.mono h.2.2.size)⟩
theorem mvS_below {g : Nat} {a b : Int} {w W : World} (h : W.cell? ⟨g, 0, none⟩ = some (.int .i64 a) ∧ W.cell? ⟨g, 1, none⟩ = some (.int .i64 b) ∧ Below w.heap.size w W) : Below w.heap.size w W := h.2.2
set_option maxHeartbeats 2000000 in
theorem kmoved_any (k c : Nat) (a b : Int) (t : Nat) (w : World) (hk : k < 18446744073709551616) (hc : c < 256) (ht : t < 256) :
    Calls Try.prog 19 #[.int .u64 (k : Int), .int .u8 (c : Int), .agg #[.int .i64 a, .int .i64 b], .int .u8 (t : Int)] w (Gives w (.int .u64 ((movedK k c a b t : Nat) : Int))) := by
  unfold Gives
  obtain ⟨p, hp⟩ : ∃ p, cellK c a = p := ⟨_, rfl⟩
  obtain ⟨q, hq⟩ : ∃ q, cellK c b = q := ⟨_, rfl⟩
  obtain ⟨r, hr⟩ : ∃ r, cellK t b = r := ⟨_, rfl⟩
  obtain ⟨u, hu⟩ : ∃ u, turnK = u := ⟨_, rfl⟩
  obtain ⟨k1, e1⟩ : ∃ k1, k ^^^ p = k1 := ⟨_, rfl⟩
  obtain ⟨k2, e2⟩ : ∃ k2, k1 ^^^ q = k2 := ⟨_, rfl⟩
  obtain ⟨k3, e3⟩ : ∃ k3, k2 ^^^ r = k3 := ⟨_, rfl⟩
  obtain ⟨k4, e4⟩ : ∃ k4, k3 ^^^ u = k4 := ⟨_, rfl⟩
  have lp : p < 18446744073709551616 := by rw [← hp]; exact cell_lt64 c a
  have lq : q < 18446744073709551616 := by rw [← hq]; exact cell_lt64 c b
  have lr : r < 18446744073709551616 := by rw [← hr]; exact cell_lt64 t b
  have lu : u < 18446744073709551616 := by rw [← hu]; exact turn_lt
  have l1 : k1 < 18446744073709551616 := by rw [← e1]; exact Nat.xor_lt_two_pow (n := 64) hk lp
  have l2 : k2 < 18446744073709551616 := by rw [← e2]; exact Nat.xor_lt_two_pow (n := 64) l1 lq
  have l3 : k3 < 18446744073709551616 := by rw [← e3]; exact Nat.xor_lt_two_pow (n := 64) l2 lr
  have x1 : bits .xor .u64 (k : Int) ((cellK c a : Nat) : Int) = (k1 : Int) := by rw [hp, u64_xor_nat _ _ hk lp, e1]
  have x2 : bits .xor .u64 (k1 : Int) ((cellK c b : Nat) : Int) = (k2 : Int) := by rw [hq, u64_xor_nat _ _ l1 lq, e2]
  have x3 : bits .xor .u64 (k2 : Int) ((cellK t b : Nat) : Int) = (k3 : Int) := by rw [hr, u64_xor_nat _ _ l2 lr, e3]
  have x4 : bits .xor .u64 (k3 : Int) (u : Int) = (k4 : Int) := by rw [u64_xor_nat _ _ l3 lu, e4]
  have HK : Hid (movedK k c a b t = k4) := by
    show _ = _
    unfold movedK
    rw [hp, hq, hr, hu, e1, e2, e3, e4]
  have HP := Lib.hid hp
  have HQ := Lib.hid hq
  have HR := Lib.hid hr
  have HU := Lib.hid hu
  obtain ⟨W0, hW0⟩ : ∃ W0, w.alloc (.cells #[.int .i64 a, .int .i64 b] 33) = W0 := ⟨_, rfl⟩
  have hB : Below w.heap.size w W0 := by rw [← hW0]; exact (by repeat (first | exact Below.refl _ _ | (refine Below.setCell ?_ (by first | omega | (simp; done) | (simp; omega) | (simp at *; omega)) _) | (refine Below.alloc ?_ (by first | omega | (simp; done) | (simp; omega) | (simp at *; omega)) _) | refine Below.drew ?_ | (refine below_drewN ?_ _) | (refine Below.trans ?_ (Below.mono (by assumption) (by first | omega | (simp; done) | (simp; omega) | (simp at *; omega))))))
  have bM : Blk W0 w.heap.size 33 #[.int .i64 a, .int .i64 b] := by rw [← hW0]; exact Blk.new _ _ _ rfl
  have hS : W0.drew.cell? ⟨w.heap.size, 0, none⟩ = some (.int .i64 a) ∧ W0.drew.cell? ⟨w.heap.size, 1, none⟩ = some (.int .i64 b) ∧ Below w.heap.size w W0.drew := ⟨bM.cell 0, bM.cell 1, hB.drew⟩
  clear hp hq hr hu e1 e2 e3 e4 lp lq lr lu l1 l2 l3 hk hB bM
  have HW := Lib.hid hW0
  clear hW0
  go_enter Try.func19, Try.ntmps19
  go_wp2_with fail
  rw [HW.out]
  go_region_held3 (fun W => W.cell? ⟨w.heap.size, 0, none⟩ = some (.int .i64 a) ∧ W.cell? ⟨w.heap.size, 1, none⟩ = some (.int .i64 b) ∧ Below w.heap.size w W)
    (first | exact hS | with_reducible assumption | exact mvS_keep (by assumption) hb)
    (first
      | (go_at_call 14; refine (kturn_is u _ HU.out).mono ?_; rintro e w1 ⟨rfl, hb⟩)
      | (go_at_call 12; refine (cell_any _ _ _ (by assumption)).mono ?_; rintro e w1 ⟨rfl, hb⟩))
  all_goals go_wp2
  all_goals (go_ret; exact ⟨by rw [HK.out]; rfl, mvS_below (by assumption)⟩)
theorem kmoved_is (k c : Nat) (a b : Int) (t m : Nat) (w : World) (hk : k < 18446744073709551616) (hc : c < 256) (ht : t < 256) (h : movedK k c a b t = m) :
    Calls Try.prog 19 #[.int .u64 (k : Int), .int .u8 (c : Int), .agg #[.int .i64 a, .int .i64 b], .int .u8 (t : Int)] w (Gives w (.int .u64 (m : Int))) := by subst h; exact kmoved_any k c a b t w hk hc ht
end Go.Proofs.Ytocdmnkmepplcaa
