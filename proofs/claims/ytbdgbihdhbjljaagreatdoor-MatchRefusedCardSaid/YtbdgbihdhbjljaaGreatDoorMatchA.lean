/- Rows of moves and the library's calls on them: whether one is in, those that are wanted. -/
import Derived.Test.YtbdgbihdhbjljaaGreatDoorLegalM
import Derived.Test.YtbdgbihdhbjljaaGreatDoorCycleM
import Derived.Lib.SliceRun
namespace Go.Proofs.YtbdgbihdhbjljaaGreatDoor
open Go.RowKit Go.Shelf
open M (S)

/-- The place of the first one that is wanted. -/
def FirstIs (xs : List (Int × Int)) (p : Int × Int → Bool) : Option Nat → Prop
  | none => ∀ j (h : j < xs.length), p xs[j] = false
  | some i => ∃ h : i < xs.length, p xs[i] = true ∧ ∀ j (hj : j < i), p (xs[j]'(by omega)) = false
def placeV : Option Nat → Int
  | none => -1
  | some i => i
set_option maxRecDepth 100000 in
set_option maxHeartbeats 4000000 in
theorem mindex_any (A : Option Addr) (n c : Nat) (xs : List (Int × Int)) (a b : Int) (w : World) (hr : Rd w A (mzL xs)) (hn : xs.length = n) (h9 : n ≤ 1000000) :
    Calls Tryz.prog 92 #[.slice A n c, .agg #[.int .i64 a, .int .i64 b]] w fun e w' => ∃ o, e = .returned (.int .i64 (placeV o)) ∧ FirstIs xs (fun x => (x.1 == a) && (x.2 == b)) o ∧ Below w.heap.size w w' := by
  have HN := Lib.hid hn
  obtain ⟨W0, hW0⟩ : ∃ W0, w.alloc (.cells #[.int .i64 a, .int .i64 b] 48) = W0 := ⟨_, rfl⟩
  have hB0 : Below w.heap.size w W0 := by rw [← hW0]; exact below_new _ _
  have bV : Blk W0 w.heap.size 48 #[.int .i64 a, .int .i64 b] := by rw [← hW0]; exact Blk.new _ _ _ rfl
  have HR := Lib.hid (hr.next hB0)
  have HW := Lib.hid hW0
  have HV := Lib.hid bV
  have HB0 := Lib.hid hB0
  clear hn hr hW0 bV hB0
  go_enter Tryz.func92, Tryz.ntmps92
  go_wp2
  (try rw [HW.out])
  go_loopw [8] (fun i wr => ∃ j : Nat, j ≤ n ∧ i = .int .i64 (j : Int) ∧ (∀ q (hq : q < xs.length), q < j → ((xs[q].1 == a) && (xs[q].2 == b)) = false) ∧ Below W0.heap.size W0 wr) (fun i _ => n - (intOf i).toNat)
  case atStart => exact ⟨0, Nat.zero_le _, rfl, fun q _ h => absurd h (Nat.not_lt_zero q), Below.refl _ _⟩
  case round =>
    obtain ⟨j, hj, rfl, hno, hB⟩ := hrel
    have HNO := Lib.hid hno
    clear hno
    have hBB := HB0.out.trans (hB.mono HB0.out.size)
    by_cases hlt : j < n
    · have bj : (j : Int) < (n : Int) := by omega
      have hjl : j < xs.length := by rw [HN.out]; exact hlt
      obtain ⟨g1, b1, rfl, m0, m1⟩ := (HR.out.next hB).mz hjl
      have v0 : wr.cell? ⟨w.heap.size, 0, none⟩ = some (.int .i64 a) := (HV.out.next hB).cell 0
      have v1 : wr.cell? ⟨w.heap.size, 1, none⟩ = some (.int .i64 b) := (HV.out.next hB).cell 1
      obtain ⟨⟨x, y⟩, hq⟩ : ∃ q, xs[j]'hjl = q := ⟨_, rfl⟩
      rw [hq] at m0 m1
      simp only at m0 m1
      have HQ := Lib.hid hq
      clear hq
      by_cases he : a = x ∧ b = y
      · obtain ⟨rfl, rfl⟩ := he
        have e0 : (a == a) = true := by simp
        have e1 : (b == b) = true := by simp
        have HO : Hid (FirstIs xs (fun x => (x.1 == a) && (x.2 == b)) (some j)) := by
          show FirstIs _ _ _
          refine ⟨hjl, by rw [HQ.out]; simp, fun q hq' => HNO.out q (by omega) hq'⟩
        go_wp2
        go_quiet (fail)
        go_wp2
        go_ret
        exact ⟨some j, rfl, HO.out, below_drewN hBB _⟩
      · have hne : ((x == a) && (y == b)) = false := by
          rw [Bool.and_eq_false_iff, beq_eq_false_iff_ne, beq_eq_false_iff_ne]
          omega
        have hne2 : ((a == x) && (b == y)) = false := by
          rw [Bool.and_eq_false_iff, beq_eq_false_iff_ne, beq_eq_false_iff_ne]
          omega
        have HNE := Lib.hid hne
        have hc : ((a == x) = false) ∨ ((a == x) = true ∧ (b == y) = false) := by
          rw [beq_eq_false_iff_ne, beq_eq_false_iff_ne, beq_iff_eq]
          omega
        clear hne hne2 he
        rcases hc with e0 | ⟨e0, e1⟩
        all_goals
          go_wp2
          go_quiet (fail)
          go_wp2
          go_roundw
          case rel =>
            refine ⟨j + 1, by omega, by go_num, fun q hq h => ?_, below_drewN hB _⟩
            rcases Nat.lt_or_ge q j with h' | h'
            · exact HNO.out q hq h'
            · obtain rfl : q = j := by omega
              rw [HQ.out]
              exact HNE.out
          case measure => simp [intOf]; omega
    · obtain rfl : j = n := by omega
      have bj : ¬ (j : Int) < (j : Int) := by omega
      have HO : Hid (FirstIs xs (fun x => (x.1 == a) && (x.2 == b)) none) := by
        show FirstIs _ _ _
        exact fun q hq => HNO.out q hq (by have := HN.out; omega)
      go_wp2
      go_ret
      exact ⟨none, rfl, HO.out, hBB⟩
/-- What a wish answers, wherever it is asked. -/
def Wish (g : FuncId) (lb : Array Value) (p : Int × Int → Bool) (B : Nat) (w : World) : Prop := ∀ W (a b : Int), Below B w W → Calls Tryz.prog g (#[.agg #[.int .i64 a, .int .i64 b]] ++ lb) W (Gives W (.bool (p (a, b))))
set_option maxRecDepth 100000 in
set_option maxHeartbeats 4000000 in
theorem mindexf_any (g : FuncId) (lb : Array Value) (eg : ∀ args w, (callFunc g args).run Tryz.prog w = .ok (.enter g args) w) (A : Option Addr) (n c : Nat) (xs : List (Int × Int)) (p : Int × Int → Bool) (B : Nat) (w : World) (hp : Wish g lb p B w) (hBw : B ≤ w.heap.size) (hr : Rd w A (mzL xs)) (hn : xs.length = n) (h9 : n ≤ 1000000) :
    Calls Tryz.prog 89 #[.slice A n c, .func (.func g) #[] lb] w fun e w' => ∃ o, e = .returned (.int .i64 (placeV o)) ∧ FirstIs xs p o ∧ Below w.heap.size w w' := by
  have HN := Lib.hid hn
  have HP := Lib.hid hp
  have HR := Lib.hid hr
  clear hn hp hr
  go_enter Tryz.func89, Tryz.ntmps89
  go_wp2
  go_loopw [8] (fun i wr => ∃ j : Nat, j ≤ n ∧ i = .int .i64 (j : Int) ∧ (∀ q (hq : q < xs.length), q < j → p xs[q] = false) ∧ Below w.heap.size w wr) (fun i _ => n - (intOf i).toNat)
  case atStart => exact ⟨0, Nat.zero_le _, rfl, fun q _ h => absurd h (Nat.not_lt_zero q), Below.refl _ _⟩
  case round =>
    obtain ⟨j, hj, rfl, hno, hB⟩ := hrel
    have HNO := Lib.hid hno
    clear hno
    by_cases hlt : j < n
    · have bj : (j : Int) < (n : Int) := by omega
      have hjl : j < xs.length := by rw [HN.out]; exact hlt
      obtain ⟨g1, b1, rfl, m0, m1⟩ := (HR.out.next hB).mz hjl
      obtain ⟨⟨x, y⟩, hq⟩ : ∃ q, xs[j]'hjl = q := ⟨_, rfl⟩
      rw [hq] at m0 m1
      simp only at m0 m1
      have HQ := Lib.hid hq
      clear hq
      have HPX := Lib.hid (HP.out wr x y (hB.mono hBw))
      cases hpx : p (x, y) with
      | true =>
        rw [hpx] at HPX
        have HO : Hid (FirstIs xs p (some j)) := by
          show FirstIs _ _ _
          exact ⟨hjl, by rw [HQ.out]; exact hpx, fun q hq' => HNO.out q (by omega) hq'⟩
        clear hpx
        go_wp2_with fail
        refine (HPX.out).mono ?_
        rintro e w1 ⟨rfl, hb1⟩
        have hB1 := hB.trans (hb1.mono hB.size)
        go_wp2
        go_ret
        exact ⟨some j, rfl, HO.out, hB1⟩
      | false =>
        rw [hpx] at HPX
        have HF := Lib.hid hpx
        clear hpx
        go_wp2_with fail
        refine (HPX.out).mono ?_
        rintro e w1 ⟨rfl, hb1⟩
        have hB1 := hB.trans (hb1.mono hB.size)
        go_wp2
        go_roundw
        case rel =>
          refine ⟨j + 1, by omega, by go_num, fun q hq h => ?_, hB1⟩
          rcases Nat.lt_or_ge q j with h' | h'
          · exact HNO.out q hq h'
          · obtain rfl : q = j := by omega
            rw [HQ.out]
            exact HF.out
        case measure => simp [intOf]; omega
    · obtain rfl : j = n := by omega
      have bj : ¬ (j : Int) < (j : Int) := by omega
      have HO : Hid (FirstIs xs p none) := by
        show FirstIs _ _ _
        exact fun q hq => HNO.out q hq (by have := HN.out; omega)
      go_wp2
      go_ret
      exact ⟨none, rfl, HO.out, hB⟩
set_option maxHeartbeats 1000000 in
theorem mcontains_any (A : Option Addr) (n c : Nat) (xs : List (Int × Int)) (a b : Int) (v : Bool) (w : World) (hr : Rd w A (mzL xs)) (hn : xs.length = n) (h9 : n ≤ 1000000) (hv : xs.any (fun x => (x.1 == a) && (x.2 == b)) = v) :
    Calls Tryz.prog 55 #[.slice A n c, .agg #[.int .i64 a, .int .i64 b]] w (Gives w (.bool v)) := by
  unfold Gives
  obtain ⟨W0, hW0⟩ : ∃ W0, w.alloc (.cells #[.int .i64 a, .int .i64 b] 48) = W0 := ⟨_, rfl⟩
  have hB0 : Below w.heap.size w W0 := by rw [← hW0]; exact below_new _ _
  have HI := Lib.hid (mindex_any A n c xs a b W0 (hr.next hB0) hn h9)
  have HV := Lib.hid hv
  have HW := Lib.hid hW0
  clear hr hn hv hW0
  go_enter Tryz.func55, Tryz.ntmps55
  go_wp2_with fail
  (try rw [HW.out])
  refine HI.out.mono ?_
  rintro e w1 ⟨o, rfl, ho, hb⟩
  replace hb := hB0.trans (hb.mono hB0.size)
  cases o with
  | none =>
    have hv : v = false := by
      rw [← HV.out, List.any_eq_false]
      intro x hx
      obtain ⟨j, hj, rfl⟩ := List.getElem_of_mem hx
      have h := ho j hj
      simp only at h
      rw [h]
      simp
    subst hv
    unfold placeV
    clear ho
    go_wp2
    go_ret
    exact ⟨rfl, hb⟩
  | some i =>
    have hv : v = true := by
      rw [← HV.out, List.any_eq_true]
      obtain ⟨h1, h2, _⟩ := ho
      exact ⟨_, List.getElem_mem h1, h2⟩
    subst hv
    unfold placeV
    have hi : (0 : Int) ≤ (i : Int) := by omega
    clear ho
    go_wp2
    go_ret
    exact ⟨rfl, hb⟩
set_option maxHeartbeats 1000000 in
theorem mcontainsf_any (g : FuncId) (lb : Array Value) (eg : ∀ args w, (callFunc g args).run Tryz.prog w = .ok (.enter g args) w) (A : Option Addr) (n c : Nat) (xs : List (Int × Int)) (p : Int × Int → Bool) (B : Nat) (v : Bool) (w : World) (hp : Wish g lb p B w) (hBw : B ≤ w.heap.size) (hr : Rd w A (mzL xs)) (hn : xs.length = n) (h9 : n ≤ 1000000) (hv : xs.any p = v) :
    Calls Tryz.prog 49 #[.slice A n c, .func (.func g) #[] lb] w (Gives w (.bool v)) := by
  unfold Gives
  have HI := Lib.hid (mindexf_any g lb eg A n c xs p B w hp hBw hr hn h9)
  have HV := Lib.hid hv
  clear hr hn hv hp
  go_enter Tryz.func49, Tryz.ntmps49
  go_wp2_with fail
  refine HI.out.mono ?_
  rintro e w1 ⟨o, rfl, ho, hb⟩
  cases o with
  | none =>
    have hv : v = false := by
      rw [← HV.out, List.any_eq_false]
      intro x hx
      obtain ⟨j, hj, rfl⟩ := List.getElem_of_mem hx
      rw [ho j hj]
      simp
    subst hv
    unfold placeV
    clear ho
    go_wp2
    go_ret
    exact ⟨rfl, hb⟩
  | some i =>
    have hv : v = true := by
      rw [← HV.out, List.any_eq_true]
      obtain ⟨h1, h2, _⟩ := ho
      exact ⟨_, List.getElem_mem h1, h2⟩
    subst hv
    unfold placeV
    have hi : (0 : Int) ≤ (i : Int) := by omega
    clear ho
    go_wp2
    go_ret
    exact ⟨rfl, hb⟩
theorem mzL_set : ∀ (L : List (Int × Int)) (i : Nat) (x : Int × Int), i < L.length → ((mzL L).set (i * 2) (iv x.1)).set (i * 2 + 1) (iv x.2) = mzL (L.set i x)
  | y :: l, 0, x, _ => rfl
  | y :: l, i + 1, x, h => by
    have ih := mzL_set l i x (by simpa using h)
    rw [List.set_cons_succ]
    show _ = iv y.1 :: iv y.2 :: mzL (l.set i x)
    rw [← ih, show (i + 1) * 2 = i * 2 + 2 by omega]
    rfl
theorem own_frozen {w : World} {base : Nat} {e : TypeId} {size g n c : Nat} {xs : List Value} (h : w.ownsRow base e size (.slice (some ⟨g, 0, none⟩) n c) n xs) (i : Nat) : w.frozen? ⟨g, i, none⟩ = false := by
  rcases h.2 with ⟨h0, _⟩ | ⟨g', cap, cur, hv, _, hc, _⟩
  · cases h0
  · injection hv with e1
    injection e1 with e1
    injection e1 with e1
    subst e1
    simp [World.frozen?, hc]
theorem mfilter_none {xs : List (Int × Int)} {p : Int × Int → Bool} (h : FirstIs xs p none) : xs.filter (fun x => !p x) = xs := by
  rw [List.filter_eq_self]
  intro x hx
  obtain ⟨j, hj, rfl⟩ := List.getElem_of_mem hx
  rw [h j hj]
  rfl
theorem mfilter_first {xs : List (Int × Int)} {p : Int × Int → Bool} {i : Nat} (h : FirstIs xs p (some i)) : (xs.take (i + 1)).filter (fun x => !p x) = xs.take i := by
  obtain ⟨h1, h2, h3⟩ := h
  rw [List.take_succ_eq_append_getElem h1, List.filter_append, List.filter_cons, h2]
  simp only [Bool.not_true, Bool.false_eq_true, if_false, List.filter_nil, List.append_nil]
  rw [List.filter_eq_self]
  intro x hx
  obtain ⟨j, hj, rfl⟩ := List.getElem_of_mem hx
  rw [List.length_take] at hj
  rw [List.getElem_take, h3 j (by omega)]
  rfl
theorem mzL_take (l : List (Int × Int)) (k : Nat) : mzL (l.take k) = (mzL l).take (k * 2) := by
  induction l generalizing k with
  | nil => cases k <;> rfl
  | cons x l ih =>
    cases k with
    | zero => rfl
    | succ k =>
      rw [List.take_succ_cons, show (k + 1) * 2 = k * 2 + 1 + 1 by omega]
      show iv x.1 :: iv x.2 :: mzL (l.take k) = (iv x.1 :: iv x.2 :: mzL l).take (k * 2 + 1 + 1)
      rw [List.take_succ_cons, List.take_succ_cons, ih]
theorem row_cells {g k n c : Nat} {B : Nat} {e : TypeId} : ∀ (vs : List Value) (o : Nat) (_ : k * 2 ≤ o) (_ : k ≤ n) {w : World} {xs : List Value}, w.ownsRow B e 2 (.slice (some ⟨g, 0, none⟩) n c) n xs → (w.setCells g o vs).ownsRow B e 2 (.slice (some ⟨g, 0, none⟩) k c) k (xs.take (k * 2))
  | [], o, _, hk, w, xs, h => by
    refine ⟨by rw [List.length_take, h.1]; omega, ?_⟩
    rcases h.2 with ⟨h0, _⟩ | ⟨g', cap, cur, hv, hg, hc, h1, h2, h3, h4⟩
    · cases h0
    · injection hv with e1 e2 e3
      injection e1 with e1
      injection e1 with e1
      subst e1 e3
      exact .inr ⟨g, c, cur, rfl, hg, hc, by omega, h2, h3, by rw [← h4, List.take_take, Nat.min_eq_left (by omega)]⟩
  | v :: r, o, ho, hk, w, xs, h => by
    have h1 := (World.ownsRow.stored h o v).1
    have h2 := row_cells r (o + 1) (by omega) hk h1
    rw [List.take_set_of_le ho] at h2
    exact h2
theorem below_cells {B g : Nat} {w : World} (hg : B ≤ g) : ∀ (vs : List Value) (o : Nat) {W : World}, Below B w W → Below B w (W.setCells g o vs)
  | [], _, _, h => h
  | v :: r, o, _, h => below_cells hg r (o + 1) (h.setCell (p := ⟨g, o, none⟩) hg v)
theorem own_cells {w : World} {B g n c : Nat} {e : TypeId} {xs : List Value} (h : w.ownsRow B e 2 (.slice (some ⟨g, 0, none⟩) n c) n xs) (k : Nat) (hk : k ≤ n) : ∀ j, j < (n - k) * 2 → (w.cell? ⟨g, k * 2 + j, none⟩).isSome = true := fun j hj => by
  have hl := h.1
  have := World.ownsRow.cellAt h (k * 2 + j) (by omega)
  rw [this, List.getElem?_eq_getElem (by omega)]
  rfl
theorem info_move2 : ∃ i0, Tryz.prog.info? 48 = some i0 ∧ i0.zero = some (.agg #[.int .i64 0, .int .i64 0]) := by
  have h : (Tryz.prog.info? 48).map (fun i => i.zero) = some (some (.agg #[.int .i64 0, .int .i64 0])) := by kernel_rfl
  cases e : Tryz.prog.info? 48 with
  | none => rw [e] at h; cases h
  | some i0 =>
    rw [e] at h
    simp only [Option.map_some, Option.some.injEq] at h
    exact ⟨i0, rfl, h⟩
theorem mclear_run {w : World} {gb o m c : Nat} (hm : 0 < m) (hc : ∀ j, j < m * 2 → (w.cell? ⟨gb, o + j, none⟩).isSome = true) (hf : ∀ j, j < m * 2 → w.frozen? ⟨gb, o + j, none⟩ = false) :
    (Builtin.clear_ #[24] 0 #[.slice (some ⟨gb, o, none⟩) m c]).run Tryz.prog w = .ok (.tuple #[]) (w.setCells gb o (Builtin.zeroCells #[.int .i64 0, .int .i64 0] m).toList) := by
  obtain ⟨i0, hi, hz0⟩ := info_move2
  have hlen : (Builtin.zeroCells #[.int .i64 0, .int .i64 0] m).toList.length = m * 2 := by simp [Builtin.zeroCells]
  have hst := run_storeCells_cells (P := Tryz.prog) gb o (Builtin.zeroCells #[.int .i64 0, .int .i64 0] m).toList 0 w (fun j hj => by rw [Nat.add_zero]; exact hc j (by omega)) (fun j hj => by rw [Nat.add_zero]; exact hf j (by omega)) (fun v hv => by
    simp only [Builtin.zeroCells, Array.toList_map, List.mem_map] at hv
    obtain ⟨j, _, rfl⟩ := hv
    have h2 : j % 2 < 2 := Nat.mod_lt _ (by decide)
    show (#[Value.int .i64 0, Value.int .i64 0][j % 2]!).oneCell' = true
    generalize j % 2 = r at h2
    rcases r with _ | _ | r
    · rfl
    · rfl
    · omega)
  rw [Nat.add_zero] at hst
  have hv : ∀ w, (zeroValue 48).run Tryz.prog w = .ok (.agg #[.int .i64 0, .int .i64 0]) w := fun w => by simp [zeroValue, typeInfo, hi, hz0]
  obtain ⟨q, rfl⟩ : ∃ q, m = q + 1 := ⟨m - 1, by omega⟩
  simp [Builtin.clear_, run_underlying Tryz.underlying24, hv, hst, show (Value.agg #[.int .i64 0, .int .i64 0]).cells = #[.int .i64 0, .int .i64 0] from rfl]
set_option maxRecDepth 100000 in
set_option maxHeartbeats 4000000 in
theorem mdelete_any (g : FuncId) (lb : Array Value) (eg : ∀ args w, (callFunc g args).run Tryz.prog w = .ok (.enter g args) w) (gb n c : Nat) (xs : List (Int × Int)) (p : Int × Int → Bool) (B : Nat) (w : World) (hp : Wish g lb p B w) (hrow : w.ownsRow B 48 2 (.slice (some ⟨gb, 0, none⟩) n c) n (mzL xs)) (hn : xs.length = n) (h9 : n ≤ 1000000) :
    Calls Tryz.prog 52 #[.slice (some ⟨gb, 0, none⟩) n c, .func (.func g) #[] lb] w fun e w' => e = .returned (.slice (some ⟨gb, 0, none⟩) (xs.filter fun x => !p x).length c) ∧ w'.ownsRow B 48 2 (.slice (some ⟨gb, 0, none⟩) (xs.filter fun x => !p x).length c) (xs.filter fun x => !p x).length (mzL (xs.filter fun x => !p x)) ∧ Below B w w' := by
  have hgB : B ≤ gb ∧ gb < w.heap.size ∧ n ≤ c := by
    rcases hrow.2 with ⟨h0, _⟩ | ⟨g', cap, cur, hv, hg, hc, h1, _⟩
    · cases h0
    · injection hv with e1 e2 e3
      injection e1 with e1
      injection e1 with e1
      subst e1 e3
      exact ⟨hg, (Array.getElem?_eq_some_iff.1 hc).1, h1⟩
  have hBw : B ≤ w.heap.size := by omega
  have HI := Lib.hid (mindexf_any g lb eg (some ⟨gb, 0, none⟩) n c xs p B w hp hBw (Rd.owns hrow) hn h9)
  have HN := Lib.hid hn
  have HP := Lib.hid hp
  have HROW := Lib.hid hrow
  obtain ⟨ys, hys⟩ : ∃ ys, (xs.filter fun x => !p x) = ys := ⟨_, rfl⟩
  rw [hys]
  have HYS := Lib.hid hys
  clear hrow hn hp hys
  go_enter Tryz.func52, Tryz.ntmps52
  go_wp2_with fail
  refine HI.out.mono ?_
  rintro e w1 ⟨o, rfl, ho, hb⟩
  have HB1 := Lib.hid hb
  have HR1 := Lib.hid (own_next HROW.out hb)
  clear hb
  cases o with
  | none =>
    have hx : xs = ys := by rw [← HYS.out]; exact (mfilter_none ho).symm
    have HX := Lib.hid hx
    clear hx ho
    unfold placeV
    go_wp2
    go_ret
    refine ⟨by rw [← HX.out, HN.out]; rfl, by rw [← HX.out, HN.out]; exact HR1.out, HB1.out.mono hBw⟩
  | some i =>
    obtain ⟨h1, h2, h3⟩ := id ho
    have HF := Lib.hid (mfilter_first ho)
    have hin : i < n := by rw [← HN.out]; exact h1
    have hne : ((i : Int) == -1) = false := by rw [beq_eq_false_iff_ne]; omega
    have wi : IntKind.i64.wrap ((i : Int) + 1) = ((i + 1 : Nat) : Int) := by rw [IntWalk.i64_in _ (by omega)]; rfl
    unfold placeV
    clear ho h1 h2 h3
    go_wp2
    go_loopw [5, 6] (fun i' j' wr => ∃ (k q : Nat) (zs : List (Int × Int)), k < q ∧ q ≤ n ∧ i' = .int .i64 (k : Int) ∧ j' = .int .i64 (q : Int) ∧ zs.length = n ∧ zs.take k = (xs.take q).filter (fun x => !p x) ∧ zs.drop q = xs.drop q ∧ wr.ownsRow B 48 2 (.slice (some ⟨gb, 0, none⟩) n c) n (mzL zs) ∧ Below B w wr) (fun _ j' _ => n - (intOf j').toNat)
    case atStart => exact ⟨i, i + 1, xs, Nat.lt_succ_self _, hin, rfl, rfl, HN.out, HF.out.symm, rfl, HR1.out, HB1.out.mono hBw⟩
    case round =>
      obtain ⟨k, q, zs, hkq, hq, rfl, rfl, hzl, hz1, hz2, hown, hB⟩ := hrel
      have hsz : w.heap.size ≤ wr.heap.size := hB.size
      by_cases hlt : q < n
      · have bq : (q : Int) < (n : Int) := by omega
        have hqz : q < zs.length := by omega
        have hqx : q < xs.length := by rw [HN.out]; exact hlt
        have hxq : zs[q] = xs[q] := by
          have h := congrArg (fun l => l[0]?) hz2
          simp only [List.getElem?_drop, Nat.add_zero, List.getElem?_eq_getElem hqz, List.getElem?_eq_getElem hqx] at h
          exact Option.some.inj h
        obtain ⟨g1, b1, hA, m0, m1⟩ := (Rd.owns hown).mz hqz
        injection hA with hA
        injection hA with hA1 hA2
        subst hA1 hA2
        obtain ⟨⟨x, y⟩, hxy⟩ : ∃ u, xs[q]'hqx = u := ⟨_, rfl⟩
        rw [hxq, hxy] at m0 m1
        simp only [Nat.zero_add] at m0 m1
        have HXY := Lib.hid hxy
        have HZ1 := Lib.hid hz1
        have HZ2 := Lib.hid hz2
        have HZL := Lib.hid hzl
        have HOW := Lib.hid hown
        have hBa : Below B w (wr.alloc (.cells #[.int .i64 x, .int .i64 y] 48)) := hB.alloc (by omega) _
        have HPX := Lib.hid (HP.out _ x y hBa)
        have HBB := Lib.hid hB
        clear hxy hz1 hz2 hzl hown hxq hBa hB
        cases hpx : p (x, y) with
        | true =>
          rw [hpx] at HPX
          have HPT := Lib.hid hpx
          clear hpx
          go_wp2_with fail
          refine HPX.out.mono ?_
          rintro e w2 ⟨rfl, hb2⟩
          have hb3 := (below_new wr (.cells #[.int .i64 x, .int .i64 y] 48)).trans (hb2.mono (by rw [World.size_alloc]; exact Nat.le_succ _))
          have HB3 := Lib.hid (HBB.out.trans (hb3.mono (Nat.le_trans hBw hsz)))
          have HO3 := Lib.hid (own_next HOW.out hb3)
          clear hb2 hb3 m0 m1
          go_wp2
          go_roundw
          case rel =>
            refine ⟨k, q + 1, zs, by omega, by omega, rfl, by go_num, HZL.out, ?_, ?_, HO3.out, HB3.out⟩
            · rw [HZ1.out, List.take_succ_eq_append_getElem hqx, HXY.out, List.filter_append, List.filter_cons, HPT.out]
              simp
            · rw [← List.drop_drop, HZ2.out, List.drop_drop]
          case measure => simp [intOf]; omega
        | false =>
          rw [hpx] at HPX
          have HPT := Lib.hid hpx
          clear hpx
          go_wp2_with fail
          refine HPX.out.mono ?_
          rintro e w2 ⟨rfl, hb2⟩
          have hb3 := (below_new wr (.cells #[.int .i64 x, .int .i64 y] 48)).trans (hb2.mono (by rw [World.size_alloc]; exact Nat.le_succ _))
          have bV : Blk w2 wr.heap.size 48 #[.int .i64 x, .int .i64 y] := (Blk.new wr 48 #[.int .i64 x, .int .i64 y] rfl).next hb2
          have HB3 := Lib.hid (HBB.out.trans (hb3.mono (Nat.le_trans hBw hsz)))
          have HO3 := Lib.hid (own_next HOW.out hb3)
          have v0 : w2.cell? ⟨wr.heap.size, 0, none⟩ = some (.int .i64 x) := bV.cell 0
          have v1 : w2.cell? ⟨wr.heap.size, 1, none⟩ = some (.int .i64 y) := bV.cell 1
          have hkz : k < zs.length := by rw [HZL.out]; omega
          have bk : (k : Int) < (n : Int) := by omega
          obtain ⟨g1, b1, hA, s0, s1⟩ := (Rd.owns HO3.out).mz hkz
          injection hA with hA
          injection hA with hA1 hA2
          subst hA1 hA2
          simp only [Nat.zero_add] at s0 s1
          have f0 := own_frozen HO3.out (k * 2)
          have f1 := own_frozen HO3.out (k * 2 + 1)
          clear hb2 hb3 m0 m1 bV
          go_wp2_with fail
          go_roundw
          case rel =>
            refine ⟨k + 1, q + 1, zs.set k (x, y), by omega, by omega, by go_num, by go_num, by rw [List.length_set]; exact HZL.out, ?_, ?_, ?_, ?_⟩
            · rw [List.take_succ_eq_append_getElem hqx, HXY.out, List.filter_append, List.filter_cons, HPT.out, ← HZ1.out]
              rw [List.take_succ_eq_append_getElem (by rw [List.length_set]; exact hkz), List.take_set_of_le (Nat.le_refl _)]
              simp
            · rw [List.drop_set_of_lt (by omega), ← List.drop_drop, HZ2.out, List.drop_drop]
            · have h1 := (World.ownsRow.stored HO3.out (k * 2) (iv x)).1
              have h2 := (World.ownsRow.stored h1 (k * 2 + 1) (iv y)).1
              have e := mzL_set zs k (x, y) hkz
              simp only at e
              rw [e] at h2
              exact h2
            · exact (HB3.out.setCell (p := ⟨gb, k * 2, none⟩) hgB.1 _).setCell (p := ⟨gb, k * 2 + 1, none⟩) hgB.1 _
          case measure => simp [intOf]; omega
      · obtain rfl : q = n := by omega
        have bq : ¬ (q : Int) < (q : Int) := by omega
        replace hz1 : zs.take k = ys := by rw [hz1, List.take_of_length_le (l := xs) (by rw [HN.out]; exact Nat.le_refl _), HYS.out]
        have hkc : ¬ c = k := by omega
        have HZ1 := Lib.hid hz1
        have HOW := Lib.hid hown
        have HBB := Lib.hid hB
        have hrun := mclear_run (gb := gb) (o := k * 2) (m := q - k) (c := c - k) (w := wr) (by omega) (own_cells HOW.out k (by omega)) (fun j _ => own_frozen HOW.out _)
        have hrow2 := row_cells (g := gb) (k := k) (Builtin.zeroCells #[.int .i64 0, .int .i64 0] (q - k)).toList (k * 2) (Nat.le_refl _) (Nat.le_of_lt hkq) HOW.out
        have hB2 := below_cells hgB.1 (Builtin.zeroCells #[.int .i64 0, .int .i64 0] (q - k)).toList (k * 2) HBB.out
        have hle : k ≤ zs.length := by omega
        have hzk : (mzL zs).take (k * 2) = mzL ys := by rw [← HZ1.out]; exact (mzL_take zs k).symm
        have hyl : ys.length = k := by rw [← HZ1.out, List.length_take]; omega
        rw [hzk] at hrow2
        have HRW := Lib.hid hrow2
        have HB2 := Lib.hid hB2
        have HYL := Lib.hid hyl
        have kk : (k : Int) ≤ (c : Int) := by omega
        clear hz1 hz2 hown hB hzk hle hyl hrow2 hB2
        go_wp2_with fail
        go_ret
        exact ⟨by rw [HYL.out]; rfl, by rw [HYL.out]; exact HRW.out, HB2.out⟩
end Go.Proofs.YtbdgbihdhbjljaaGreatDoor
