/- What the document's own answers of layer 10 come to, for all inputs. -/
import Derived.Test.YtocdmnkmepplcaaKeyB
import Derived.Laws.OwnMore
namespace Go.Proofs.Ytocdmnkmepplcaa
open Go.RowKit Go.Shelf
open M (S)
attribute [local go_sem] Oper.semAt_some

abbrev kv (x : Nat) : Value := .int .u64 ((x : Nat) : Int)
/-- The row's first numbers. -/
def rowL (n : Nat) : List Nat := (List.range n).map rowK
theorem rowL_len (n : Nat) : (rowL n).length = n := by simp [rowL]
theorem rowL_succ (n : Nat) : rowL (n + 1) = rowL n ++ [rowK n] := by simp [rowL, List.range_succ]
theorem rowL_at {n k : Nat} (h : k < n) : ((rowL n).map kv)[k]? = some (kv (rowK k)) := by simp [rowL, h]
theorem info_u64 : (Try.prog.info? 22).map (fun i => (i.zero, i.size, i.bytes)) = some (some (.int .u64 0), 1, 8) := by kernel_rfl
/-- What a list of numbers gives. -/
def GivesR (w : World) (n : Nat) (e : Ending) (w' : World) : Prop := ∃ A c, e = .returned (.slice A n c) ∧ Rd w' A ((rowL n).map kv) ∧ Below w.heap.size w w'
set_option maxRecDepth 100000 in
set_option maxHeartbeats 2000000 in
theorem rkrow_any (m : Nat) (w : World) (hm : m ≤ 1000000) : Calls Try.prog 30 #[.int .i64 m] w (GivesR w m) := by
  unfold GivesR
  obtain ⟨i0, hi, hz0, hz1, hz2⟩ := info_parts info_u64
  go_enter Try.func30, Try.ntmps30
  go_wp2_with fail
  go_loopw [3, 4, 5] (fun x v i wr => ∃ k : Nat, k ≤ m ∧ x = kv (rowK k) ∧ i = .int .i64 k ∧ wr.ownsRow w.heap.size 22 1 v (rowL k).length ((rowL k).map kv) ∧ Below w.heap.size w wr) (fun _ _ i _ => m - (intOf i).toNat)
  case atStart => exact ⟨0, by omega, rfl, rfl, by simpa [rowL] using World.ownsRow_nil w w.heap.size 22 1, Below.refl _ _⟩
  case round =>
    obtain ⟨k, hk, rfl, rfl, hown, hB⟩ := hrel
    have hbs := hB.size
    by_cases hlt : k < m
    · have hst := rowL_succ k
      have hlen := rowL_len k
      have hnx : nextK (rowK k) = rowK (k + 1) := rfl
      have hl := row_lt k
      obtain ⟨x, hx⟩ : ∃ x, rowK k = x := ⟨_, rfl⟩
      rw [hx] at hst hnx hl
      simp only [hx]
      have Hs := Lib.hid hst
      have HX := Lib.hid hnx
      have b1 : (k : Int) < (m : Int) := by omega
      have HL : Hid ((rowL k).length = k) := hlen
      have hbd : (rowL k).length ≤ 1000000 := by omega
      clear hst hnx hx hlen
      go_wp2_with (at_builtin; refine wpList_append_own _ rfl _ _ 56 rfl w.heap.size 22 i0 (.int .u64 0) 1 8 Try.underlying56 hi hz0 hz1 hz2 rfl (by decide) _ _ _ rfl (hown.alloc _) ⟨wr.heap.size, 0, none⟩ 1 1 [kv x] rfl rfl (cell_one_new _ _ _) (by simp [Value.oneCell']) (by unfold maxLen; omega) (by omega) (by simp; omega) ?_; intro v' w1 hown' hgrow _)
      refine (rnext_any x _ hl).mono ?_
      rintro e w2 ⟨rfl, rfl⟩
      go_wp2
      go_roundw
      case rel => exact ⟨k + 1, by omega, by rw [HX.out], by go_num, by rw [Hs.out]; simpa using hown', below_app hB hbs hown hgrow⟩
      case measure => simp [intOf]; omega
    · obtain rfl : k = m := by omega
      obtain ⟨A', c', rfl⟩ := own_slice hown
      have HL : Hid ((rowL k).length = k) := rowL_len k
      have hr := Rd.own hown
      rw [HL.out]
      clear hown
      go_wp2
      go_ret
      exact ⟨A', c', rfl, hr, hB⟩
theorem place_of {c k : Nat} (hk : k < 14) (hc : bAt LT k = c) (_hno : ∀ j, j < k → bAt LT j ≠ c) : placeK c = some k := by
  have hL : ∀ l, l < 14 → bAt LT l = [75, 65, 66, 78, 82, 67, 80, 107, 97, 98, 110, 114, 99, 112].getD l 0 := by decide
  have hD : ∀ k : Fin 14, placeK ([75, 65, 66, 78, 82, 67, 80, 107, 97, 98, 110, 114, 99, 112].getD k.val 0) = some k.val := by decide
  rw [← hc, hL k hk]
  exact hD ⟨k, hk⟩
theorem place_no {c : Nat} (hno : ∀ j, j < 14 → bAt LT j ≠ c) : placeK c = none := by
  have hL : ∀ l, l < 14 → bAt LT l = [75, 65, 66, 78, 82, 67, 80, 107, 97, 98, 110, 114, 99, 112].getD l 0 := by decide
  unfold placeK
  rw [List.findIdx?_eq_none_iff]
  intro x hx
  obtain ⟨l, hl, rfl⟩ := List.mem_iff_getElem.1 hx
  have h14 : l < 14 := by simpa using hl
  have := hno l h14
  rw [hL l h14] at this
  simp only [beq_eq_false_iff_ne]
  rw [List.getD_eq_getElem?_getD, List.getElem?_eq_getElem hl] at this
  exact this
def placeI (c : Nat) : Int := match placeK c with | some i => (i : Int) | none => -1
set_option maxHeartbeats 1000000 in
theorem rplace_any (c : Nat) (w : World) : Calls Try.prog 39 #[.int .u8 (c : Int)] w (Says w (.int .i64 (placeI c))) := by
  unfold Says
  obtain ⟨r, hr⟩ : ∃ r, placeI c = r := ⟨_, rfl⟩
  rw [hr]
  have HR := Lib.hid hr
  clear hr
  obtain ⟨B, hLB⟩ : ∃ B, LT = B := ⟨_, rfl⟩
  have hB14 : B.size = 14 := by rw [← hLB]; rfl
  have HB := Lib.hid hLB
  have HS := Lib.hid hB14
  go_enter Try.func39, Try.ntmps39
  rw [show (⟨#[75, 65, 66, 78, 82, 67, 80, 107, 97, 98, 110, 114, 99, 112]⟩ : ByteArray) = B from hLB]
  clear hLB hB14
  go_wp2_with fail
  go_loopw [4] (fun i wr => ∃ k : Nat, k ≤ B.size ∧ i = .int .i64 k ∧ Hid (∀ j, j < k → bAt B j ≠ c) ∧ w = wr) (fun i _ => B.size - (intOf i).toNat)
  case atStart => exact ⟨0, by omega, rfl, fun j h => absurd h (Nat.not_lt_zero _), rfl⟩
  case round =>
    obtain ⟨k, hk, rfl, hno, rfl⟩ := hrel
    by_cases hlt : k < B.size
    · obtain ⟨x, hx⟩ : ∃ x, bAt B k = x := ⟨_, rfl⟩
      have hbk : B[k].toNat = x := (bAt_eq B k hlt).trans hx
      have b1 : (k : Int) < (B.size : Int) := Int.ofNat_lt.2 hlt
      have b0 : (0 : Int) ≤ (k : Int) := Int.natCast_nonneg k
      have HX := Lib.hid hx
      have k14 : k < 14 := by rw [← HS.out]; exact hlt
      by_cases he : x = c
      · have e0 : ((x : Int) == (c : Int)) = true := by rw [he]; simp
        have HE := Lib.hid he
        have h14 : k < 14 := by rw [← HS.out]; exact hlt
        clear hx he
        go_wp2
        go_ret
        refine ⟨?_, rfl⟩
        rw [← HR.out, placeI, place_of h14 (by rw [HB.out, HX.out, HE.out]) (fun j hj => by rw [HB.out]; exact hno.out j hj)]
        rfl
      · have e0 : ((x : Int) == (c : Int)) = false := by simp; omega
        have hno2 : Hid (∀ j, j < k + 1 → bAt B j ≠ c) := by
          show ∀ j, _
          intro j hj
          rcases Nat.lt_succ_iff_lt_or_eq.1 hj with h | rfl
          · exact hno.out j h
          · rw [HX.out]; exact he
        clear hx he
        go_wp2
        go_roundw
        case rel => exact ⟨k + 1, by omega, by go_num, hno2, by trivial⟩
        case measure => simp [intOf]; omega
    · obtain rfl : k = B.size := by omega
      have HN : Hid (r = -1) := by
        show _ = _
        rw [← HR.out, placeI, place_no (fun j hj => by rw [HB.out]; exact hno.out j (by rw [HS.out]; exact hj))]
      go_wp2
      go_ret
      exact ⟨by rw [HN.out]; rfl, rfl⟩
theorem rplace_is (c : Nat) (k : Int) (w : World) (h : placeI c = k) : Calls Try.prog 39 #[.int .u8 (c : Int)] w (Says w (.int .i64 k)) := by subst h; exact rplace_any c w
set_option maxHeartbeats 1000000 in
theorem rcell_any (A : Option Addr) (cp c : Nat) (n : Int) (w : World) (hr : Rd w A ((rowL 1262).map kv)) :
    Calls Try.prog 29 #[.slice A 1262 cp, .int .u8 (c : Int), .int .i64 n] w (Gives w (.int .u64 ((cellK c n : Nat) : Int))) := by
  unfold Gives
  cases hp : placeK c with
  | none =>
    have HI : Hid (placeI c = -1) := by show _ = _; unfold placeI; rw [hp]
    have HR : Hid (cellK c n = 0) := by show _ = _; unfold cellK; rw [hp]; simp
    clear hp
    go_enter Try.func29, Try.ntmps29
    go_wp2_with fail
    refine (rplace_is c (-1) _ HI.out).mono ?_
    rintro e w1 ⟨rfl, rfl⟩
    go_wp2
    go_ret
    exact ⟨by rw [HR.out]; rfl, Below.refl _ _⟩
  | some i =>
    have li := place_lt hp
    have HI : Hid (placeI c = (i : Int)) := by show _ = _; unfold placeI; rw [hp]
    have b0 : decide ((i : Int) < 0) = false := by simp
    by_cases h0 : n < 0
    · have HR : Hid (cellK c n = 0) := by show _ = _; unfold cellK; rw [if_neg (by omega)]
      clear hp
      go_enter Try.func29, Try.ntmps29
      go_wp2_with fail
      refine (rplace_is c (i : Int) _ HI.out).mono ?_
      rintro e w1 ⟨rfl, rfl⟩
      go_wp2
      go_ret
      exact ⟨by rw [HR.out]; rfl, Below.refl _ _⟩
    · by_cases h9 : 89 < n
      · have HR : Hid (cellK c n = 0) := by show _ = _; unfold cellK; rw [if_neg (by omega)]
        clear hp
        go_enter Try.func29, Try.ntmps29
        go_wp2_with fail
        refine (rplace_is c (i : Int) _ HI.out).mono ?_
        rintro e w1 ⟨rfl, rfl⟩
        go_wp2
        go_ret
        exact ⟨by rw [HR.out]; rfl, Below.refl _ _⟩
      · obtain ⟨m, rfl⟩ : ∃ m : Nat, n = m := ⟨n.toNat, by omega⟩
        have hlt : 1 + 90 * i + m < 1262 := by omega
        have HR : Hid (cellK c (m : Int) = rowK (1 + 90 * i + m)) := by
          show _ = _
          unfold cellK
          rw [hp, if_pos (by omega), Int.toNat_natCast]
        obtain ⟨ad, rfl, hc⟩ := hr (1 + 90 * i + m) _ (rowL_at hlt)
        clear hp
        go_enter Try.func29, Try.ntmps29
        go_wp2_with fail
        refine (rplace_is c (i : Int) _ HI.out).mono ?_
        rintro e w1 ⟨rfl, rfl⟩
        go_wp2_with fail
        go_ret
        exact ⟨by rw [HR.out]; rfl, Below.refl _ _⟩
theorem rcell_is (A : Option Addr) (cp c k : Nat) (n : Int) (w : World) (hr : Rd w A ((rowL 1262).map kv)) (h : cellK c n = k) :
    Calls Try.prog 29 #[.slice A 1262 cp, .int .u8 (c : Int), .int .i64 n] w (Gives w (.int .u64 (k : Int))) := by subst h; exact rcell_any A cp c n w hr
set_option maxHeartbeats 1000000 in
theorem rCell_is (c k : Nat) (n : Int) (w : World) (h : cellK c n = k) :
    Calls Try.prog 13 #[.int .u8 (c : Int), .int .i64 n] w (Gives w (.int .u64 (k : Int))) := by
  unfold Gives
  have HK := Lib.hid h
  clear h
  go_enter Try.func13, Try.ntmps13
  go_wp2_with fail
  refine (rkrow_any 1262 _ (by decide)).mono ?_
  rintro e w1 ⟨A1, cp, rfl, hr, hb⟩
  go_wp2_with fail
  refine (rcell_is A1 cp c k n _ hr HK.out).mono ?_
  rintro e w2 ⟨rfl, hb2⟩
  go_wp2
  go_ret
  exact ⟨rfl, hb.trans (hb2.mono hb.size)⟩
set_option maxRecDepth 100000 in
set_option maxHeartbeats 1000000 in
theorem rTurn_is (t : Nat) (w : World) (h : turnK = t) : Calls Try.prog 15 #[] w (Gives w (.int .u64 (t : Int))) := by
  unfold Gives
  have h1 : rowK 1261 = t := h
  have H := Lib.hid h1
  clear h h1
  go_enter Try.func15, Try.ntmps15
  go_wp2_with fail
  refine (rkrow_any 1262 _ (by decide)).mono ?_
  rintro e w1 ⟨A1, cp, rfl, hr, hb⟩
  obtain ⟨ad, rfl, hc⟩ := hr 1261 _ (rowL_at (by decide))
  rw [H.out] at hc
  have hc2 : w1.cell? ⟨ad.block, ad.off + 1261, none⟩ = some (kv t) := hc
  go_wp2
  go_ret
  exact ⟨rfl, hb⟩
theorem keyB_board {s : ByteArray} (side : Int) (hs : isB s = true) : keyB s side = xsum (fun k => cellK (bAt s k) (k : Int)) 90 ^^^ (if side = 1 then turnK else 0) := by unfold keyB; rw [hs, if_pos rfl]
theorem xsum_lt {f : Nat → Nat} (h : ∀ k, f k < 18446744073709551616) : ∀ n, xsum f n < 18446744073709551616
  | 0 => by show 0 < 18446744073709551616; decide
  | n + 1 => Nat.xor_lt_two_pow (n := 64) (xsum_lt h n) (h n)
set_option maxRecDepth 100000 in
set_option maxHeartbeats 2000000 in
theorem rof10_any (s : ByteArray) (side clock full : Int) (w : World) :
    Calls Try.prog 18 #[.agg #[.string s, .int .i64 side, .int .i64 clock, .int .i64 full]] w (Gives w (.int .u64 ((keyB s side : Nat) : Int))) := by
  unfold Gives
  obtain ⟨W0, hW0⟩ : ∃ W0, w.alloc (.cells #[.string s, .int .i64 side, .int .i64 clock, .int .i64 full] 29) = W0 := ⟨_, rfl⟩
  have hB : Below w.heap.size w W0 := by rw [← hW0]; exact (by repeat (first | exact Below.refl _ _ | (refine Below.setCell ?_ (by first | omega | (simp; done) | (simp; omega) | (simp at *; omega)) _) | (refine Below.alloc ?_ (by first | omega | (simp; done) | (simp; omega) | (simp at *; omega)) _) | refine Below.drew ?_ | (refine below_drewN ?_ _) | (refine Below.trans ?_ (Below.mono (by assumption) (by first | omega | (simp; done) | (simp; omega) | (simp at *; omega))))))
  have bP : Blk W0 w.heap.size 29 #[.string s, .int .i64 side, .int .i64 clock, .int .i64 full] := by rw [← hW0]; exact Blk.new _ _ _ rfl
  have HW := Lib.hid hW0
  clear hW0
  obtain ⟨p0, p1, p2, p3⟩ := kpos_cells bP
  obtain ⟨r, hr⟩ : ∃ r, keyB s side = r := ⟨_, rfl⟩
  rw [hr]
  cases hs : isB s
  · have HR : Hid (r = 0) := by show _ = _; rw [← hr]; unfold keyB; rw [hs]; rfl
    have HS := Lib.hid hs
    clear hs hr
    go_enter Try.func18, Try.ntmps18
    go_wp2_with fail
    rw [HW.out]
    refine (ris_any s _).mono ?_
    rintro e w1 ⟨rfl, rfl⟩
    rw [HS.out]
    go_wp2
    go_ret
    exact ⟨by rw [HR.out]; rfl, hB⟩
  · have hz := isB_size hs
    rw [keyB_board side hs] at hr
    have HR := Lib.hid hr
    have HS := Lib.hid hs
    have HZ : Hid (90 ≤ s.size) := by show _ ≤ _; omega
    clear hs hr hz
    go_enter Try.func18, Try.ntmps18
    go_wp2_with fail
    rw [HW.out]
    refine (ris_any s _).mono ?_
    rintro e w1 ⟨rfl, rfl⟩
    rw [HS.out]
    go_wp2_with fail
    refine (rkrow_any 1262 _ (by decide)).mono ?_
    rintro e w2 ⟨A1, cp, rfl, hrow, hb⟩
    have bP2 := bP.next hb
    have hB2 := hB.trans (hb.mono hB.size)
    clear bP hB hb HW p0 p1 p2 p3
    go_wp2_with fail
    go_loopw [4, 5] (fun x i wr => ∃ k : Nat, k ≤ 90 ∧ x = kv (xsum (fun k => cellK (bAt s k) (k : Int)) k) ∧ i = .int .i64 k ∧ Below w2.heap.size w2 wr) (fun _ i _ => 90 - (intOf i).toNat)
    case atStart => exact ⟨0, by omega, rfl, rfl, Below.refl _ _⟩
    case round =>
      obtain ⟨k, hk, rfl, rfl, hR⟩ := hrel
      obtain ⟨p0, p1, p2, p3⟩ := kpos_cells (bP2.next hR)
      have hxs : xsum (fun k => cellK (bAt s k) (k : Int)) k < 18446744073709551616 := xsum_lt (fun k => cell_lt64 _ _) k
      by_cases hlt : k < 90
      · obtain ⟨c, hc⟩ : ∃ c, bAt s k = c := ⟨_, rfl⟩
        obtain ⟨u, hu⟩ : ∃ u, cellK c (k : Int) = u := ⟨_, rfl⟩
        obtain ⟨x, hx⟩ : ∃ x, xsum (fun k => cellK (bAt s k) (k : Int)) k = x := ⟨_, rfl⟩
        have hlu : u < 18446744073709551616 := by rw [← hu]; exact cell_lt64 c k
        have hnx : xsum (fun k => cellK (bAt s k) (k : Int)) (k + 1) = x ^^^ u := by
          show xsum (fun k => cellK (bAt s k) (k : Int)) k ^^^ cellK (bAt s k) (k : Int) = _
          rw [hx, hc, hu]
        rw [hx] at hxs
        simp only [hx]
        have hxor : bits .xor .u64 (x : Int) (u : Int) = ((x ^^^ u : Nat) : Int) := u64_xor_nat _ _ hxs hlu
        have HN := Lib.hid hnx
        have HU := Lib.hid hu
        have hks : k < s.size := Nat.lt_of_lt_of_le hlt HZ.out
        have hbk : s[k].toNat = c := (bAt_eq s k hks).trans hc
        have b0 : (0 : Int) ≤ (k : Int) := Int.natCast_nonneg k
        have b1 : (k : Int) < (s.size : Int) := Int.ofNat_lt.2 hks
        have b2 : (k : Int) < 90 := by omega
        clear hnx hu hx hc hlu hxs
        go_wp2_with fail
        refine (rcell_is A1 cp c u (k : Int) _ (hrow.next hR) HU.out).mono ?_
        rintro e w3 ⟨rfl, hb⟩
        go_wp2
        go_roundw
        case rel => exact ⟨k + 1, by omega, by rw [HN.out], by go_num, hR.trans (hb.mono hR.size)⟩
        case measure => simp [intOf]; omega
      · obtain rfl : k = 90 := by omega
        obtain ⟨x, hx⟩ : ∃ x, xsum (fun k => cellK (bAt s k) (k : Int)) 90 = x := ⟨_, rfl⟩
        have hr := HR.out
        rw [hx] at hxs hr
        simp only [hx]
        clear hx HR
        by_cases h1 : side = 1
        · have e1 : (side == 1) = true := by rw [h1]; rfl
          rw [if_pos h1] at hr
          obtain ⟨ad, rfl, hc⟩ := (hrow.next hR) 1261 _ (rowL_at (by decide))
          have hc' : wr.cell? ⟨ad.block, ad.off + 1261, none⟩ = some (kv turnK) := hc
          have hxor : bits .xor .u64 (x : Int) ((turnK : Nat) : Int) = (r : Int) := by rw [u64_xor_nat _ _ hxs turn_lt, hr]
          clear hc hr h1 hrow
          go_wp2
          go_ret
          exact ⟨rfl, hB2.trans (hR.mono hB2.size)⟩
        · have e1 : (side == 1) = false := by rw [beq_eq_false_iff_ne]; exact h1
          rw [if_neg h1, Nat.xor_zero] at hr
          subst hr
          clear h1
          go_wp2
          go_ret
          exact ⟨rfl, hB2.trans (hR.mono hB2.size)⟩
set_option maxHeartbeats 2000000 in
theorem rkmoved_any (k c : Nat) (a b : Int) (t : Nat) (w : World) (hk : k < 18446744073709551616) :
    Calls Try.prog 20 #[.int .u64 (k : Int), .int .u8 (c : Int), .agg #[.int .i64 a, .int .i64 b], .int .u8 (t : Int)] w (Gives w (.int .u64 ((movedK k c a b t : Nat) : Int))) := by
  unfold Gives
  obtain ⟨p, hp⟩ : ∃ p, cellK c a = p := ⟨_, rfl⟩
  obtain ⟨q, hq⟩ : ∃ q, cellK c b = q := ⟨_, rfl⟩
  obtain ⟨r, hr⟩ : ∃ r, cellK t b = r := ⟨_, rfl⟩
  obtain ⟨u, hu⟩ : ∃ u, turnK = u := ⟨_, rfl⟩
  obtain ⟨k1, e1⟩ : ∃ k1, k ^^^ p = k1 := ⟨_, rfl⟩
  obtain ⟨k2, e2⟩ : ∃ k2, k1 ^^^ q = k2 := ⟨_, rfl⟩
  obtain ⟨k3, e3⟩ : ∃ k3, k2 ^^^ r = k3 := ⟨_, rfl⟩
  obtain ⟨k4, e4⟩ : ∃ k4, k3 ^^^ u = k4 := ⟨_, rfl⟩
  have lp : p < 18446744073709551616 := by rw [← hp]; exact cell_lt64 c a
  have lq : q < 18446744073709551616 := by rw [← hq]; exact cell_lt64 c b
  have lr : r < 18446744073709551616 := by rw [← hr]; exact cell_lt64 t b
  have lu : u < 18446744073709551616 := by rw [← hu]; exact turn_lt
  have l1 : k1 < 18446744073709551616 := by rw [← e1]; exact Nat.xor_lt_two_pow (n := 64) hk lp
  have l2 : k2 < 18446744073709551616 := by rw [← e2]; exact Nat.xor_lt_two_pow (n := 64) l1 lq
  have l3 : k3 < 18446744073709551616 := by rw [← e3]; exact Nat.xor_lt_two_pow (n := 64) l2 lr
  have x1 : bits .xor .u64 (k : Int) ((cellK c a : Nat) : Int) = (k1 : Int) := by rw [hp, u64_xor_nat _ _ hk lp, e1]
  have x2 : bits .xor .u64 (k1 : Int) ((cellK c b : Nat) : Int) = (k2 : Int) := by rw [hq, u64_xor_nat _ _ l1 lq, e2]
  have x3 : bits .xor .u64 (k2 : Int) ((cellK t b : Nat) : Int) = (k3 : Int) := by rw [hr, u64_xor_nat _ _ l2 lr, e3]
  have x4 : bits .xor .u64 (k3 : Int) (u : Int) = (k4 : Int) := by rw [u64_xor_nat _ _ l3 lu, e4]
  have HK : Hid (movedK k c a b t = k4) := by
    show _ = _
    unfold movedK
    rw [hp, hq, hr, hu, e1, e2, e3, e4]
  have HU := Lib.hid hu
  obtain ⟨W0, hW0⟩ : ∃ W0, w.alloc (.cells #[.int .i64 a, .int .i64 b] 33) = W0 := ⟨_, rfl⟩
  have hB : Below w.heap.size w W0 := by rw [← hW0]; exact (by repeat (first | exact Below.refl _ _ | (refine Below.setCell ?_ (by first | omega | (simp; done) | (simp; omega) | (simp at *; omega)) _) | (refine Below.alloc ?_ (by first | omega | (simp; done) | (simp; omega) | (simp at *; omega)) _) | refine Below.drew ?_ | (refine below_drewN ?_ _) | (refine Below.trans ?_ (Below.mono (by assumption) (by first | omega | (simp; done) | (simp; omega) | (simp at *; omega))))))
  have bM : Blk W0 w.heap.size 33 #[.int .i64 a, .int .i64 b] := by rw [← hW0]; exact Blk.new _ _ _ rfl
  have hS : W0.drew.cell? ⟨w.heap.size, 0, none⟩ = some (.int .i64 a) ∧ W0.drew.cell? ⟨w.heap.size, 1, none⟩ = some (.int .i64 b) ∧ Below w.heap.size w W0.drew := ⟨bM.cell 0, bM.cell 1, hB.drew⟩
  clear hp hq hr hu e1 e2 e3 e4 lp lq lr lu l1 l2 l3 hk hB bM
  have HW := Lib.hid hW0
  clear hW0
  go_enter Try.func20, Try.ntmps20
  go_wp2_with fail
  rw [HW.out]
  go_region_held3 (fun W => W.cell? ⟨w.heap.size, 0, none⟩ = some (.int .i64 a) ∧ W.cell? ⟨w.heap.size, 1, none⟩ = some (.int .i64 b) ∧ Below w.heap.size w W)
    (first | exact hS | with_reducible assumption | exact mvS_keep (by assumption) hb)
    (first
      | (go_at_call 15; refine (rTurn_is u _ HU.out).mono ?_; rintro e w1 ⟨rfl, hb⟩)
      | (go_at_call 13; refine (rCell_is _ _ _ _ rfl).mono ?_; rintro e w1 ⟨rfl, hb⟩))
  all_goals go_wp2
  all_goals (go_ret; exact ⟨by rw [HK.out]; rfl, mvS_below (by assumption)⟩)
end Go.Proofs.Ytocdmnkmepplcaa
