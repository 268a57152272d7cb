/- Merged: Place1 Place2 Place3 Place4 Place5 Place6. -/
import Derived.Test.YtkejhebicibjlaaDoorBoardM
import Derived.Deep.RegionHeld3
import Derived.Laws.EntriesVeiled
import Derived.Lib.Strings
import Derived.Lib.Walk
import Derived.Lib.Bytealg

namespace Go.Proofs.YtkejhebicibjlaaDoor
open Go.RowKit Go.Shelf
open M (S)

/-- Of a file and a rank from a side's own: is it in the palace; an advisor's, an elephant's, a pawn's? -/
def inP (f r : Int) : Bool := decide (3 ≤ f) && decide (f ≤ 5) && decide (r ≤ 2)
def advP (f r : Int) : Bool := inP f r && ((f + r) % 2 == 1)
def eleP (f r : Int) : Bool := if r = 0 ∨ r = 4 then f == 2 || f == 6 else if r = 2 then f == 0 || f == 4 || f == 8 else false
def pawnP (f r : Int) : Bool := decide (5 ≤ r) || (decide (3 ≤ r) && (f % 2 == 0))
def kindP (k : Nat) (f r : Int) : Bool := if k = 75 then inP f r else if k = 65 then advP f r else if k = 66 then eleP f r else if k = 80 then pawnP f r else true
/-- A square's file and rank, as a side sees them. -/
def seenF (n side : Int) : Int := if side = 1 then 8 - n % 9 else n % 9
def seenR (n side : Int) : Int := if side = 1 then 9 - n / 9 else n / 9
/-- Is there such a square, such a side? -/
def realB (n side : Int) : Bool := sqI n && (side == 0 || side == 1)
def palaceB (n side : Int) : Bool := realB n side && inP (seenF n side) (seenR n side)
def overB (n side : Int) : Bool := realB n side && decide (5 ≤ seenR n side)
def mayB (c : Nat) (n : Int) : Bool := realB n (sideN c) && kindP (kindN c) (seenF n (sideN c)) (seenR n (sideN c))
def mostN (c : Nat) : Nat := if kindN c = 0 then 0 else if kindN c = 75 then 1 else if kindN c = 80 then 5 else 2
theorem sqI_in {n : Int} (h : sqI n = true) : 0 ≤ n ∧ n < 90 := by
  by_cases h' : 0 ≤ n ∧ n < 90
  · exact h'
  · rw [sqI_false h'] at h; cases h
theorem seen_in {n side : Int} (h : 0 ≤ n ∧ n < 90) : 0 ≤ seenF n side ∧ seenF n side ≤ 8 ∧ 0 ≤ seenR n side ∧ seenR n side ≤ 9 := by
  unfold seenF seenR
  split <;> omega

theorem inP_true {f r : Int} (h0 : 3 ≤ f) (h1 : f ≤ 5) (h2 : r ≤ 2) : inP f r = true := by simp [inP, h0, h1, h2]
theorem inP_false {f r : Int} (h : f < 3 ∨ 5 < f ∨ 2 < r) : inP f r = false := by
  cases e : inP f r
  · rfl
  · simp only [inP, Bool.and_eq_true, decide_eq_true_eq] at e
    omega
theorem pal_cases (f r : Int) : (f < 3) ∨ (3 ≤ f ∧ 5 < f) ∨ (3 ≤ f ∧ f ≤ 5 ∧ 2 < r) ∨ (3 ≤ f ∧ f ≤ 5 ∧ r ≤ 2) := by omega
theorem isOver_any (f r : Int) (w : World) : Calls Tryd.prog 60 #[.agg #[.int .i64 f, .int .i64 r]] w (Gives w (.bool (decide (5 ≤ r)))) := by
  unfold Gives
  go_enter Tryd.func60, Tryd.ntmps60
  go_wp2
  go_ret
  exact ⟨rfl, (by repeat (first | exact Below.refl _ _ | (refine Below.setCell ?_ (by first | omega | (simp; done) | (simp; omega) | (simp at *; omega)) _) | (refine Below.alloc ?_ (by first | omega | (simp; done) | (simp; omega) | (simp at *; omega)) _) | refine Below.drew ?_ | (refine below_drewN ?_ _) | (refine Below.trans ?_ (Below.mono (by assumption) (by first | omega | (simp; done) | (simp; omega) | (simp at *; omega))))))⟩
end Go.Proofs.YtkejhebicibjlaaDoor

namespace Go.Proofs.YtkejhebicibjlaaDoor
open Go.RowKit Go.Shelf
open M (S)

theorem isSide_any (side : Int) (w : World) : Calls Tryd.prog 70 #[.int .i64 side] w (Says w (.bool (side == 0 || side == 1))) := by
  unfold Says
  by_cases h0 : side = 0
  · subst h0
    go_enter Tryd.func70, Tryd.ntmps70
    go_wp2
    go_ret
    exact ⟨rfl, rfl⟩
  · have e0 : (side == 0) = false := by rw [beq_eq_false_iff_ne]; exact h0
    clear h0
    go_enter Tryd.func70, Tryd.ntmps70
    go_wp2
    go_ret
    exact ⟨by first | rfl | simp [e0], rfl⟩
def seenV (n side : Int) : Value := if realB n side then .tuple #[.agg #[.int .i64 (seenF n side), .int .i64 (seenR n side)], .bool true] else .tuple #[.agg #[.int .i64 0, .int .i64 0], .bool false]
set_option maxHeartbeats 1000000 in
theorem seen_no (n side : Int) (w : World) (h : realB n side = false) : Calls Tryd.prog 59 #[.int .i64 n, .int .i64 side] w (Gives w (.tuple #[.agg #[.int .i64 0, .int .i64 0], .bool false])) := by
  unfold Gives
  by_cases hq : 0 ≤ n ∧ n < 90
  · have F : Hid (fileI n = n % 9) := by show _ = _; rw [fileI, if_pos hq]
    have R : Hid (rankI n = n / 9) := by show _ = _; rw [rankI, if_pos hq]
    rw [realB, sqI_true hq, Bool.true_and, Bool.or_eq_false_iff] at h
    obtain ⟨h0, h1⟩ := h
    obtain ⟨q0, q1⟩ := hq
    go_enter Tryd.func59, Tryd.ntmps59
    go_wp2_with fail
    refine (file_any n _).mono ?_
    rintro e w' ⟨rfl, rfl⟩
    rw [F.out]
    go_wp2_with fail
    refine (rank_any n _).mono ?_
    rintro e w' ⟨rfl, rfl⟩
    rw [R.out]
    go_wp2_with fail
    refine (isSide_any side _).mono ?_
    rintro e w' ⟨rfl, rfl⟩
    go_wp2
    exact bodyPost_ret (v := .tuple #[.agg #[.int .i64 0, .int .i64 0], .bool false]) (by simp [results, Tryd.results59, go_sem]) rfl ⟨rfl, (by repeat (first | exact Below.refl _ _ | (refine Below.setCell ?_ (by first | omega | (simp; done) | (simp; omega) | (simp at *; omega)) _) | (refine Below.alloc ?_ (by first | omega | (simp; done) | (simp; omega) | (simp at *; omega)) _) | refine Below.drew ?_ | (refine below_drewN ?_ _) | (refine Below.trans ?_ (Below.mono (by assumption) (by first | omega | (simp; done) | (simp; omega) | (simp at *; omega))))))⟩
  · have F : Hid (fileI n = -1) := by show _ = _; rw [fileI, if_neg hq]
    have R : Hid (rankI n = -1) := by show _ = _; rw [rankI, if_neg hq]
    clear hq h
    go_enter Tryd.func59, Tryd.ntmps59
    go_wp2_with fail
    refine (file_any n _).mono ?_
    rintro e w' ⟨rfl, rfl⟩
    rw [F.out]
    go_wp2_with fail
    refine (rank_any n _).mono ?_
    rintro e w' ⟨rfl, rfl⟩
    rw [R.out]
    go_wp2
    exact bodyPost_ret (v := .tuple #[.agg #[.int .i64 0, .int .i64 0], .bool false]) (by simp [results, Tryd.results59, go_sem]) rfl ⟨rfl, (by repeat (first | exact Below.refl _ _ | (refine Below.setCell ?_ (by first | omega | (simp; done) | (simp; omega) | (simp at *; omega)) _) | (refine Below.alloc ?_ (by first | omega | (simp; done) | (simp; omega) | (simp at *; omega)) _) | refine Below.drew ?_ | (refine below_drewN ?_ _) | (refine Below.trans ?_ (Below.mono (by assumption) (by first | omega | (simp; done) | (simp; omega) | (simp at *; omega))))))⟩
theorem real_parts {n side : Int} (h : realB n side = true) : (0 ≤ n ∧ n < 90) ∧ (side = 0 ∨ side = 1) := by
  simp only [realB, Bool.and_eq_true, Bool.or_eq_true, beq_iff_eq] at h
  exact ⟨sqI_in h.1, h.2⟩
set_option maxHeartbeats 1000000 in
theorem seen_yes (n side : Int) (w : World) (h : realB n side = true) : Calls Tryd.prog 59 #[.int .i64 n, .int .i64 side] w (Gives w (.tuple #[.agg #[.int .i64 (seenF n side), .int .i64 (seenR n side)], .bool true])) := by
  unfold Gives
  obtain ⟨hq, hs⟩ := real_parts h
  have F : Hid (fileI n = n % 9) := by show _ = _; rw [fileI, if_pos hq]
  have R : Hid (rankI n = n / 9) := by show _ = _; rw [rankI, if_pos hq]
  have b := seen_in (side := 0) hq
  simp only [seenF, seenR] at b
  rw [if_neg (by decide), if_neg (by decide)] at b
  obtain ⟨b0, b1, b2, b3⟩ := b
  obtain ⟨q0, q1⟩ := hq
  clear h
  rcases hs with rfl | rfl
  · rw [show seenF n 0 = n % 9 from rfl, show seenR n 0 = n / 9 from rfl]
    go_enter Tryd.func59, Tryd.ntmps59
    go_wp2_with fail
    refine (file_any n _).mono ?_
    rintro e w' ⟨rfl, rfl⟩
    rw [F.out]
    go_wp2_with fail
    refine (rank_any n _).mono ?_
    rintro e w' ⟨rfl, rfl⟩
    rw [R.out]
    go_wp2_with fail
    refine (isSide_any 0 _).mono ?_
    rintro e w' ⟨rfl, rfl⟩
    go_wp2
    exact bodyPost_ret (v := .tuple #[.agg #[.int .i64 (n % 9), .int .i64 (n / 9)], .bool true]) (by simp [results, Tryd.results59, go_sem]) rfl ⟨rfl, (by repeat (first | exact Below.refl _ _ | (refine Below.setCell ?_ (by first | omega | (simp; done) | (simp; omega) | (simp at *; omega)) _) | (refine Below.alloc ?_ (by first | omega | (simp; done) | (simp; omega) | (simp at *; omega)) _) | refine Below.drew ?_ | (refine below_drewN ?_ _) | (refine Below.trans ?_ (Below.mono (by assumption) (by first | omega | (simp; done) | (simp; omega) | (simp at *; omega))))))⟩
  · rw [show seenF n 1 = 8 - n % 9 from rfl, show seenR n 1 = 9 - n / 9 from rfl]
    go_enter Tryd.func59, Tryd.ntmps59
    go_wp2_with fail
    refine (file_any n _).mono ?_
    rintro e w' ⟨rfl, rfl⟩
    rw [F.out]
    go_wp2_with fail
    refine (rank_any n _).mono ?_
    rintro e w' ⟨rfl, rfl⟩
    rw [R.out]
    go_wp2_with fail
    refine (isSide_any 1 _).mono ?_
    rintro e w' ⟨rfl, rfl⟩
    go_wp2
    exact bodyPost_ret (v := .tuple #[.agg #[.int .i64 (8 - n % 9), .int .i64 (9 - n / 9)], .bool true]) (by simp [results, Tryd.results59, go_sem]) rfl ⟨rfl, (by repeat (first | exact Below.refl _ _ | (refine Below.setCell ?_ (by first | omega | (simp; done) | (simp; omega) | (simp at *; omega)) _) | (refine Below.alloc ?_ (by first | omega | (simp; done) | (simp; omega) | (simp at *; omega)) _) | refine Below.drew ?_ | (refine below_drewN ?_ _) | (refine Below.trans ?_ (Below.mono (by assumption) (by first | omega | (simp; done) | (simp; omega) | (simp at *; omega))))))⟩
end Go.Proofs.YtkejhebicibjlaaDoor

namespace Go.Proofs.YtkejhebicibjlaaDoor
open Go.RowKit Go.Shelf
open M (S)

set_option maxHeartbeats 1000000 in
set_option maxRecDepth 100000 in
theorem sIndexByte_any (s : ByteArray) (c : Int) (w : World) :
    Calls Tryd.prog 45 #[.string s, .int .u8 c] w fun e w' => e = .returned (.int .i64 (Lib.indexByte s.data.toList c.toNat.toUInt8)) ∧ w = w' := by
  go_enter Tryd.func45, Tryd.ntmps45
  go_wp2
  rw [run_callFunc_extern Tryd.func58 (by kernel_rfl) (by kernel_rfl) (by kernel_rfl) (e := Extern.BytealgIndexByte.indexByte) (by kernel_rfl), Lib.run_indexByteString]
  simp only [Result.andThen]
  rw [Oper.upon_value]
  go_wp2
  go_ret
  exact ⟨rfl, rfl⟩
theorem indexByte_any (s : ByteArray) (c : Int) (w : World) :
    Calls Tryd.prog 26 #[.string s, .int .u8 c] w fun e w' => e = .returned (.int .i64 (Lib.indexByte s.data.toList c.toNat.toUInt8)) ∧ w = w' := by
  go_enter Tryd.func26, Tryd.ntmps26
  go_wp2_with fail
  refine (sIndexByte_any _ _ _).mono ?_
  rintro e w' ⟨rfl, rfl⟩
  go_wp2
  go_ret
  exact ⟨rfl, rfl⟩
/-- The letters of the kinds, in the order of places. -/
def kindsS : ByteArray := ⟨#[75, 65, 66, 78, 82, 67, 80]⟩
theorem real_none {c : Nat} {n : Int} (h : sideN c < 0) : realB n (sideN c) = false := by
  have h0 : (sideN c == 0) = false := by rw [beq_eq_false_iff_ne]; omega
  have h1 : (sideN c == 1) = false := by rw [beq_eq_false_iff_ne]; omega
  rw [realB, h0, h1]
  simp
theorem spot_keep {w : World} {g : Nat} {f r : Int} {W W' : World} (h : W.cell? ⟨g, 0, none⟩ = some (.int .i64 f) ∧ W.cell? ⟨g, 1, none⟩ = some (.int .i64 r) ∧ Below w.heap.size w W) (hb : Below W.heap.size W W') :
    W'.cell? ⟨g, 0, none⟩ = some (.int .i64 f) ∧ W'.cell? ⟨g, 1, none⟩ = some (.int .i64 r) ∧ Below w.heap.size w W' := by
  obtain ⟨h0, h1, h2⟩ := h
  have hg : g < W.heap.size := World.block_lt_of_cell? _ _ h0
  exact ⟨(hb.cell (p := ⟨g, 0, none⟩) hg).trans h0, (hb.cell (p := ⟨g, 1, none⟩) hg).trans h1, h2.trans (hb.mono h2.size)⟩
theorem spot_below {w : World} {g : Nat} {f r : Int} {W : World} (h : W.cell? ⟨g, 0, none⟩ = some (.int .i64 f) ∧ W.cell? ⟨g, 1, none⟩ = some (.int .i64 r) ∧ Below w.heap.size w W) : Below w.heap.size w W := h.2.2
end Go.Proofs.YtkejhebicibjlaaDoor

namespace Go.Proofs.YtkejhebicibjlaaDoor
open Go.RowKit Go.Shelf
open M (S)

theorem side_kind {c : Nat} (h : 0 ≤ sideN c) : kindN c = 75 ∨ kindN c = 65 ∨ kindN c = 66 ∨ kindN c = 78 ∨ kindN c = 82 ∨ kindN c = 67 ∨ kindN c = 80 := by
  rcases byte_cases c with ⟨kb, kr, _⟩ | rfl | rfl | rfl | rfl | rfl | rfl | rfl | rfl | rfl | rfl | rfl | rfl | rfl | rfl
  · have : sideN c = -1 := by simp [sideN, kb, kr]
    omega
  all_goals decide
set_option maxHeartbeats 1000000 in
theorem over_any (n side : Int) (w : World) : Calls Tryd.prog 46 #[.int .i64 n, .int .i64 side] w (Gives w (.bool (overB n side))) := by
  cases h : realB n side
  · have K : Hid (overB n side = false) := by show _ = _; rw [overB, h]; rfl
    have H := Lib.hid h
    clear h
    rw [K.out]
    unfold Gives
    go_enter Tryd.func46, Tryd.ntmps46
    go_wp2_with fail
    refine (seen_no n side _ H.out).mono ?_
    rintro e w1 ⟨rfl, hb⟩
    have hz := hb.size
    go_wp2
    go_ret
    exact ⟨rfl, (by repeat (first | exact Below.refl _ _ | (refine Below.setCell ?_ (by first | omega | (simp; done) | (simp; omega) | (simp at *; omega)) _) | (refine Below.alloc ?_ (by first | omega | (simp; done) | (simp; omega) | (simp at *; omega)) _) | refine Below.drew ?_ | (refine below_drewN ?_ _) | (refine Below.trans ?_ (Below.mono (by assumption) (by first | omega | (simp; done) | (simp; omega) | (simp at *; omega))))))⟩
  · have K : Hid (overB n side = decide (5 ≤ seenR n side)) := by show _ = _; rw [overB, h]; rfl
    have H := Lib.hid h
    clear h
    rw [K.out]
    unfold Gives
    go_enter Tryd.func46, Tryd.ntmps46
    go_wp2_with fail
    refine (seen_yes n side _ H.out).mono ?_
    rintro e w1 ⟨rfl, hb⟩
    have hz := hb.size
    go_wp2_with fail
    refine (isOver_any _ _ _).mono ?_
    rintro e w2 ⟨rfl, hb2⟩
    go_wp2
    go_ret
    exact ⟨rfl, (hb.alloc hz _).trans (hb2.mono (by simp; omega))⟩
theorem over_is (n side : Int) (b : Bool) (w : World) (h : overB n side = b) : Calls Tryd.prog 46 #[.int .i64 n, .int .i64 side] w (Gives w (.bool b)) := by subst h; exact over_any n side w
theorem most_cases (c : Nat) : kindN c = 0 ∨ kindN c = 75 ∨ kindN c = 80 ∨ (kindN c ≠ 0 ∧ kindN c ≠ 75 ∧ kindN c ≠ 80) := by omega
/-- The squares on which a piece may stand. -/
def pointsL (c : Nat) : List Int := trues (fun k => mayB c k) 90
end Go.Proofs.YtkejhebicibjlaaDoor

namespace Go.Proofs.YtkejhebicibjlaaDoor
open Go.RowKit Go.Shelf
open M (S)

/-- How many of the first k bytes of a text are b. -/
def cntN (s : ByteArray) (k b : Nat) : Nat := (trues (fun i => bAt s i == b) k).length
theorem cntN_succ (s : ByteArray) (k b : Nat) : cntN s (k + 1) b = if bAt s k = b then cntN s k b + 1 else cntN s k b := by
  unfold cntN
  rw [trues_succ]
  by_cases h : bAt s k = b
  · rw [if_pos h, if_pos (by simpa using h), List.length_append]; rfl
  · rw [if_neg h, if_neg (by simpa using h)]
theorem cntN_le (s : ByteArray) (k b : Nat) : cntN s k b ≤ k := trues_le _ k
/-- 256 counts in memory. -/
def cntC (s : ByteArray) (k : Nat) : Array Value := ((List.range 256).map fun b => Value.int .i64 (cntN s k b : Nat)).toArray
theorem cntC_at (s : ByteArray) (k b : Nat) (h : b < 256) : (cntC s k)[b]? = some (.int .i64 (cntN s k b : Nat)) := by simp [cntC, h]
theorem cntC_set (s : ByteArray) (k : Nat) : (cntC s k).setIfInBounds (bAt s k) (.int .i64 ((cntN s k (bAt s k) + 1 : Nat) : Int)) = cntC s (k + 1) := by
  apply Array.ext
  · simp [cntC]
  · intro i h1 h2
    simp only [cntC, List.size_toArray, List.length_map, List.length_range] at h2
    rw [Array.getElem_setIfInBounds (by simpa [cntC] using h2)]
    simp only [cntC, List.getElem_toArray, List.getElem_map, List.getElem_range]
    rw [cntN_succ]
    by_cases e : bAt s k = i
    · rw [if_pos e, if_pos e, e]
    · rw [if_neg e, if_neg e]
theorem cntC_zero (s t : ByteArray) : cntC s 0 = cntC t 0 := rfl
/-- Not more than there may be of a kind, of either side. -/
def fewB (s : ByteArray) (n c : Nat) : Bool := decide (cntN s n c ≤ mostN c) && decide (cntN s n (c + 32) ≤ mostN (c + 32))
def kindsL : List Nat := [75, 65, 66, 78, 82, 67, 80]
/-- As many of each piece as there may be? -/
def countsB (s : ByteArray) (n : Nat) : Bool := kindsL.all (fewB s n) && (cntN s n 75 == 1) && (cntN s n 107 == 1)
theorem counts_no {s : ByteArray} {n c : Nat} (hc : c ∈ kindsL) (h : fewB s n c = false) : countsB s n = false := by
  unfold countsB
  rw [List.all_eq_false.2 ⟨c, hc, by simp [h]⟩]
  rfl
theorem counts_yes {s : ByteArray} {n : Nat} (h : ∀ j, j < 7 → fewB s n (kindsL.getD j 0) = true) : countsB s n = ((cntN s n 75 == 1) && (cntN s n 107 == 1)) := by
  have ha : kindsL.all (fewB s n) = true := by
    rw [List.all_eq_true]
    intro c hc
    simp only [kindsL, List.mem_cons, List.not_mem_nil, or_false] at hc
    rcases hc with rfl | rfl | rfl | rfl | rfl | rfl | rfl
    · exact h 0 (by decide)
    · exact h 1 (by decide)
    · exact h 2 (by decide)
    · exact h 3 (by decide)
    · exact h 4 (by decide)
    · exact h 5 (by decide)
    · exact h 6 (by decide)
  unfold countsB
  rw [ha, Bool.true_and]
theorem few_red {s : ByteArray} {n c x m : Nat} (hx : cntN s n c = x) (hm : mostN c = m) (h : m < x) : fewB s n c = false := by
  unfold fewB
  rw [hx, hm, decide_eq_false (by omega), Bool.false_and]
theorem few_black {s : ByteArray} {n c x m : Nat} (hx : cntN s n (c + 32) = x) (hm : mostN (c + 32) = m) (h : m < x) : fewB s n c = false := by
  unfold fewB
  rw [hx, hm, decide_eq_false (p := x ≤ m) (by omega), Bool.and_false]
theorem few_ok {s : ByteArray} {n c x y m : Nat} (hx : cntN s n c = x) (hy : cntN s n (c + 32) = y) (hm : mostN c = m) (hm' : mostN (c + 32) = m) (h : x ≤ m) (h' : y ≤ m) : fewB s n c = true := by
  unfold fewB
  rw [hx, hy, hm, hm', decide_eq_true h, decide_eq_true h']
  rfl

end Go.Proofs.YtkejhebicibjlaaDoor

namespace Go.Proofs.YtkejhebicibjlaaDoor
open Go.RowKit Go.Shelf
open M (S)

/-- Do all pieces among the first n stand where they may? -/
def placesB (s : ByteArray) (n : Nat) : Bool := (List.range n).all fun k => (kindN (bAt s k) == 0) || mayB (bAt s k) k
theorem places_no {s : ByteArray} {n k : Nat} (hk : k < n) (h0 : kindN (bAt s k) ≠ 0) (h : mayB (bAt s k) k = false) : placesB s n = false := by
  unfold placesB
  rw [List.all_eq_false.2 ⟨k, List.mem_range.2 hk, by simp [h0, h]⟩]
theorem places_yes {s : ByteArray} {n : Nat} (h : ∀ k, k < n → ((kindN (bAt s k) == 0) || mayB (bAt s k) k) = true) : placesB s n = true := by
  unfold placesB
  rw [List.all_eq_true]
  exact fun k hk => h k (List.mem_range.1 hk)
/-- Are a position's parts what they may be? -/
def partsB (s : ByteArray) (side clock full : Int) : Bool := isB s && (side == 0 || side == 1) && decide (0 ≤ clock) && decide (clock ≤ 120) && decide (1 ≤ full) && decide (full ≤ 9999)
/-- What Check tells: 0, or an error. -/
def checkN (s : ByteArray) (side clock full : Int) : Nat := if partsB s side clock full then (if countsB s 90 then (if placesB s 90 then 0 else 2) else 3) else 1
theorem parts_false {s : ByteArray} {side clock full : Int} (h : isB s = false ∨ (side == 0 || side == 1) = false ∨ clock < 0 ∨ 120 < clock ∨ full < 1 ∨ 9999 < full) : checkN s side clock full = 1 := by
  have : partsB s side clock full = false := by
    cases e : partsB s side clock full
    · rfl
    · simp only [partsB, Bool.and_eq_true, decide_eq_true_eq] at e
      rcases h with h | h | h
      · rw [h] at e; simp at e
      · rw [h] at e; simp at e
      · omega
  rw [checkN, this]
  rfl
theorem parts_true {s : ByteArray} {side clock full : Int} (h1 : isB s = true) (h2 : (side == 0 || side == 1) = true) (h3 : 0 ≤ clock) (h4 : clock ≤ 120) (h5 : 1 ≤ full) (h6 : full ≤ 9999) : partsB s side clock full = true := by
  simp only [partsB, Bool.and_eq_true, decide_eq_true_eq]
  exact ⟨⟨⟨⟨⟨h1, h2⟩, h3⟩, h4⟩, h5⟩, h6⟩
/-- A position's value. -/
def posV (s : ByteArray) (side clock full : Int) : Value := .agg #[.string s, .int .i64 side, .int .i64 clock, .int .i64 full]
end Go.Proofs.YtkejhebicibjlaaDoor
