/- The parts of Parse: how many words tell the position; a position; how deep. -/
import Derived.Test.YtpogpjebhnoncabGreatDoorLineC
namespace Go.Proofs.YtpogpjebhnoncabGreatDoor
open Go.RowKit Go.Shelf Go.Proofs.YtpogpjebhnoncabGreatDoor.Ln
open M (S)

def lensL : List (List UInt8) → List Nat
  | [] => []
  | w :: _ => if w = startW then [1] else if w = fenW then [3, 7] else []
theorem place_first (l : List (List UInt8)) : placeN l = ((lensL l).find? (endsN l)).getD 0 := by
  cases l with
  | nil => rfl
  | cons x r =>
    rw [placeN, lensL]
    split
    · cases h : endsN (x :: r) 1 <;> simp [h]
    · split
      · cases h : endsN (x :: r) 3
        · cases h2 : endsN (x :: r) 7 <;> simp [h, h2]
        · simp [h]
      · rfl
theorem lens_le (l : List (List UInt8)) : (lensL l).length ≤ 2 ∧ ∀ m ∈ lensL l, 1 ≤ m ∧ m ≤ 7 := by
  cases l with
  | nil => exact ⟨by decide, fun m hm => by cases hm⟩
  | cons x r =>
    rw [lensL]
    split
    · exact ⟨by decide, by decide⟩
    · split
      · exact ⟨by decide, by decide⟩
      · exact ⟨by decide, by decide⟩
/-- Numbers of words, as they lie. -/
def Lens (w : World) (L : List Nat) (e : Ending) (w' : World) : Prop := ∃ A c, e = .returned (.slice A L.length c) ∧ (∀ (j : Nat) (m : Nat), L[j]? = some m → ∃ g b, A = some ⟨g, b, none⟩ ∧ w'.cell? ⟨g, b + j, none⟩ = some (.int .i64 (m : Int))) ∧ Below w.heap.size w w'
set_option maxRecDepth 100000 in
set_option maxHeartbeats 4000000 in
theorem placeLens_is (A : Option Addr) (n c : Nat) (l : List (List UInt8)) (w : World) (hr : Rd w A (l.map sv)) (hn : l.length = n) : Calls Tryz.prog 68 #[.slice A n c] w (Lens w (lensL l)) := by
  cases l with
  | nil =>
    obtain rfl : n = 0 := hn.symm
    go_enter Tryz.func68, Tryz.ntmps68
    go_wp2_with fail
    go_ret
    exact ⟨none, 0, rfl, fun j m h => (by cases h), Below.refl _ _⟩
  | cons x r =>
    obtain ⟨g, b, rfl, hc⟩ := rd_form hr (by simp)
    have e0 : w.cell? ⟨g, b, none⟩ = some (.string (bs x)) := hc 0 x rfl
    have n0 : ((n : Int) == 0) = false := by rw [beq_eq_false_iff_ne, ← hn, List.length_cons]; omega
    have n1 : (0 : Int) < (n : Int) := by rw [← hn, List.length_cons]; omega
    clear hr hc hn
    by_cases h1 : x = startW
    · have e1 : ((bs x).toList == [115, 116, 97, 114, 116, 112, 111, 115]) = true := by rw [bs_eqR]; exact decide_eq_true h1
      have hL : lensL (x :: r) = [1] := by rw [lensL, if_pos h1]
      rw [hL]
      clear h1 hL
      go_enter Tryz.func68, Tryz.ntmps68
      go_wp2_with fail
      go_ret
      have hB := (Blk.new w 3 #[.int .i64 1] rfl)
      refine ⟨some ⟨w.heap.size, 0, none⟩, 1, rfl, fun j m h => ⟨w.heap.size, 0, rfl, ?_⟩, (by repeat (first | exact Below.refl _ _ | (refine Below.setCell ?_ (by first | omega | (simp; done) | (simp; omega) | (simp at *; omega)) _) | (refine Below.alloc ?_ (by first | omega | (simp; done) | (simp; omega) | (simp at *; omega)) _) | refine Below.drew ?_ | (refine below_drewN ?_ _) | (refine Below.trans ?_ (Below.mono (by assumption) (by first | omega | (simp; done) | (simp; omega) | (simp at *; omega))))))⟩
      rw [Nat.zero_add, hB.cell j]
      match j, h with
      | 0, h => injection h with h; subst h; rfl
    · have e1 : ((bs x).toList == [115, 116, 97, 114, 116, 112, 111, 115]) = false := by rw [bs_eqR]; exact decide_eq_false h1
      by_cases h2 : x = fenW
      · have e2 : ((bs x).toList == [102, 101, 110]) = true := by rw [bs_eqR]; exact decide_eq_true h2
        have hL : lensL (x :: r) = [3, 7] := by rw [lensL, if_neg h1, if_pos h2]
        rw [hL]
        clear h1 h2 hL
        go_enter Tryz.func68, Tryz.ntmps68
        go_wp2_with fail
        go_ret
        have hB := (Blk.new w 3 #[.int .i64 3, .int .i64 7] rfl)
        refine ⟨some ⟨w.heap.size, 0, none⟩, 2, rfl, fun j m h => ⟨w.heap.size, 0, rfl, ?_⟩, (by repeat (first | exact Below.refl _ _ | (refine Below.setCell ?_ (by first | omega | (simp; done) | (simp; omega) | (simp at *; omega)) _) | (refine Below.alloc ?_ (by first | omega | (simp; done) | (simp; omega) | (simp at *; omega)) _) | refine Below.drew ?_ | (refine below_drewN ?_ _) | (refine Below.trans ?_ (Below.mono (by assumption) (by first | omega | (simp; done) | (simp; omega) | (simp at *; omega))))))⟩
        rw [Nat.zero_add, hB.cell j]
        match j, h with
        | 0, h => injection h with h; subst h; rfl
        | 1, h => injection h with h; subst h; rfl
      · have e2 : ((bs x).toList == [102, 101, 110]) = false := by rw [bs_eqR]; exact decide_eq_false h2
        have hL : lensL (x :: r) = [] := by rw [lensL, if_neg h1, if_neg h2]
        rw [hL]
        clear h1 h2 hL
        go_enter Tryz.func68, Tryz.ntmps68
        go_wp2_with fail
        go_ret
        exact ⟨none, 0, rfl, fun j m h => (by cases h), Below.refl _ _⟩
theorem ends_cases (l : List (List UInt8)) (n m : Nat) (hn : l.length = n) : (n = m ∧ endsN l m = true) ∨ (m < n ∧ n ≠ m ∧ ∃ x, l[m]? = some x ∧ ((x = movesW ∧ endsN l m = true) ∨ (x ≠ movesW ∧ endsN l m = false))) ∨ (n < m ∧ endsN l m = false) := by
  unfold endsN
  rw [hn]
  rcases Nat.lt_trichotomy n m with h | h | h
  · right; right
    refine ⟨h, ?_⟩
    rw [List.getElem?_eq_none (by omega), beq_eq_false_iff_ne.2 (by omega)]
    rfl
  · left
    exact ⟨h, by rw [h]; simp⟩
  · right; left
    have hm : m < l.length := by omega
    refine ⟨h, by omega, l[m], List.getElem?_eq_getElem hm, ?_⟩
    rw [List.getElem?_eq_getElem hm, beq_eq_false_iff_ne.2 (show n ≠ m by omega), Bool.false_or]
    by_cases e : l[m] = movesW
    · exact .inl ⟨e, by rw [e]; simp⟩
    · exact .inr ⟨e, by rw [beq_eq_false_iff_ne]; exact fun h => e (Option.some.inj h)⟩
theorem find_at {L : List Nat} {p : Nat → Bool} {k m : Nat} (h : L[k]? = some m) (hno : ∀ j x, j < k → L[j]? = some x → p x = false) (hp : p m = true) : L.find? p = some m := by
  induction L generalizing k with
  | nil => cases h
  | cons y r ih =>
    cases k with
    | zero =>
      injection h with h
      subst h
      rw [List.find?_cons_of_pos hp]
    | succ k =>
      rw [List.find?_cons_of_neg (by rw [hno 0 y (by omega) rfl]; simp)]
      exact ih (k := k) h (fun j x hj hx => hno (j + 1) x (by omega) hx)
theorem find_no {L : List Nat} {p : Nat → Bool} (hno : ∀ j x, j < L.length → L[j]? = some x → p x = false) : L.find? p = none := by
  rw [List.find?_eq_none]
  intro x hx
  obtain ⟨j, hj, rfl⟩ := List.getElem_of_mem hx
  rw [hno j _ hj (List.getElem?_eq_getElem hj)]
  simp
set_option maxRecDepth 100000 in
set_option maxHeartbeats 4000000 in
theorem placeLen_is (A : Option Addr) (n c : Nat) (l : List (List UInt8)) (w : World) (hr : Rd w A (l.map sv)) (hn : l.length = n) (k : Nat) (hk : placeN l = k) : Calls Tryz.prog 44 #[.slice A n c] w (Gives w (.int .i64 (k : Int))) := by
  subst hk
  have HF := Lib.hid (place_first l)
  obtain ⟨L, hL⟩ : ∃ L, lensL l = L := ⟨_, rfl⟩
  obtain ⟨q, hq⟩ : ∃ q, L.length = q := ⟨_, rfl⟩
  have hle := lens_le l
  have hp := placeLens_is A n c l w hr hn
  rw [hL] at hle hp
  rw [hL] at HF
  unfold Lens at hp
  rw [hq] at hp hle
  have HP := Lib.hid hp
  have HR := Lib.hid hr
  have HN := Lib.hid hn
  have HL := Lib.hid hle
  have HQ := Lib.hid hq
  have hq2 := hle.1
  clear hr hn hp hL hle hq
  unfold Gives
  go_enter Tryz.func44, Tryz.ntmps44
  go_wp2_with fail
  refine HP.out.mono ?_
  rintro e w1 ⟨A1, c1, rfl, hc, hb1⟩
  have HC := Lib.hid hc
  have hr1 := HR.out.next hb1
  have HR1 := Lib.hid hr1
  clear hc hr1
  go_wp2_with fail
  go_loopw [8] (fun i wr => ∃ j : Nat, i = .int .i64 j ∧ j ≤ q ∧ wr = w1 ∧ ∀ t x, t < j → L[t]? = some x → endsN l x = false) (fun i _ => q - (intOf i).toNat)
  case atStart => exact ⟨0, rfl, Nat.zero_le _, rfl, fun t x h => absurd h (Nat.not_lt_zero _)⟩
  case round =>
    obtain ⟨j, rfl, hj, rfl, hno⟩ := hrel
    have HNO := Lib.hid hno
    clear hno
    by_cases hlt : j < q
    · have hjl : j < L.length := by rw [HQ.out]; exact hlt
      obtain ⟨m, hm⟩ : ∃ m, L[j] = m := ⟨_, rfl⟩
      have hm? : L[j]? = some m := by rw [List.getElem?_eq_getElem hjl, hm]
      obtain ⟨g, b, rfl, e0⟩ := HC.out j m hm?
      obtain ⟨m1, m7⟩ := HL.out.2 m (List.mem_of_getElem? hm?)
      have HM := Lib.hid hm?
      have bj : (j : Int) < (q : Int) := by omega
      clear hm hm? hjl
      rcases ends_cases l n m HN.out with ⟨h1, h2⟩ | ⟨h1, h1', x, hx, ⟨h2, h3⟩ | ⟨h2, h3⟩⟩ | ⟨h1, h2⟩
      · have hfin := find_at HM.out HNO.out h2
        have HG := Lib.hid hfin
        have e1 : ((n : Int) == (m : Int)) = true := by rw [beq_iff_eq]; omega
        clear h1 h2 hfin
        go_wp2_with fail
        go_ret
        exact ⟨by rw [HF.out, HG.out]; rfl, hb1⟩
      · have hfin := find_at HM.out HNO.out h3
        have HG := Lib.hid hfin
        obtain ⟨g2, b2, rfl, hcw⟩ := rd_form HR1.out (by rw [HN.out]; omega)
        have e1 : ((n : Int) == (m : Int)) = false := by rw [beq_eq_false_iff_ne]; omega
        have e2 : (m : Int) < (n : Int) := by omega
        have e3 : decide ((m : Int) < (n : Int)) = true := decide_eq_true e2
        have e4 := hcw m x hx
        have e5 : ((bs x).toList == [109, 111, 118, 101, 115]) = true := by rw [bs_eqR]; exact decide_eq_true h2
        clear h1 h1' h2 h3 hx hfin hcw
        go_wp2_with fail
        go_ret
        exact ⟨by rw [HF.out, HG.out]; rfl, hb1⟩
      · obtain ⟨g2, b2, rfl, hcw⟩ := rd_form HR1.out (by rw [HN.out]; omega)
        have e1 : ((n : Int) == (m : Int)) = false := by rw [beq_eq_false_iff_ne]; omega
        have e2 : (m : Int) < (n : Int) := by omega
        have e3 : decide ((m : Int) < (n : Int)) = true := decide_eq_true e2
        have e4 := hcw m x hx
        have e5 : ((bs x).toList == [109, 111, 118, 101, 115]) = false := by rw [bs_eqR]; exact decide_eq_false h2
        have H3 := Lib.hid h3
        clear h1 h1' h2 h3 hx hcw
        go_wp2_with fail
        go_roundw
        case rel =>
          refine ⟨j + 1, by go_num, by omega, by trivial, fun t x ht hx => ?_⟩
          rcases Nat.lt_succ_iff_lt_or_eq.1 ht with h | h
          · exact HNO.out t x h hx
          · subst h
            rw [HM.out] at hx
            injection hx with hx
            rw [← hx]
            exact H3.out
        case measure => simp [intOf]; omega
      · have e1 : ((n : Int) == (m : Int)) = false := by rw [beq_eq_false_iff_ne]; omega
        have e2 : ¬ (m : Int) < (n : Int) := by omega
        have e3 : decide ((m : Int) < (n : Int)) = false := decide_eq_false e2
        have H3 := Lib.hid h2
        clear h1 h2
        go_wp2_with fail
        go_roundw
        case rel =>
          refine ⟨j + 1, by go_num, by omega, by trivial, fun t x ht hx => ?_⟩
          rcases Nat.lt_succ_iff_lt_or_eq.1 ht with h | h
          · exact HNO.out t x h hx
          · subst h
            rw [HM.out] at hx
            injection hx with hx
            rw [← hx]
            exact H3.out
        case measure => simp [intOf]; omega
    · obtain rfl : j = q := by omega
      have bj : ¬ (j : Int) < (j : Int) := by omega
      have hfin := find_no (p := endsN l) (L := L) fun t x ht hx => HNO.out t x (by rw [← HQ.out]; exact ht) hx
      have HG := Lib.hid hfin
      clear hfin
      go_wp2_with fail
      go_ret
      exact ⟨by rw [HF.out, HG.out]; rfl, hb1⟩
-- a command as it lies: seven cells
theorem c_cells {W : World} {g : Nat} {t : TypeId} {v0 v1 v2 v3 v4 v5 v6 : Value} (h : Blk W g t #[v0, v1, v2, v3, v4, v5, v6]) : W.cell? ⟨g, 0, none⟩ = some v0 ∧ W.cell? ⟨g, 1, none⟩ = some v1 ∧ W.cell? ⟨g, 2, none⟩ = some v2 ∧ W.cell? ⟨g, 3, none⟩ = some v3 ∧ W.cell? ⟨g, 4, none⟩ = some v4 ∧ W.cell? ⟨g, 5, none⟩ = some v5 ∧ W.cell? ⟨g, 6, none⟩ = some v6 := ⟨h.cell 0, h.cell 1, h.cell 2, h.cell 3, h.cell 4, h.cell 5, h.cell 6⟩
theorem c_frozen {W : World} {g : Nat} {t : TypeId} {cs : Array Value} (h : Blk W g t cs) : W.frozen? ⟨g, 0, none⟩ = false ∧ W.frozen? ⟨g, 1, none⟩ = false ∧ W.frozen? ⟨g, 2, none⟩ = false ∧ W.frozen? ⟨g, 3, none⟩ = false ∧ W.frozen? ⟨g, 4, none⟩ = false ∧ W.frozen? ⟨g, 5, none⟩ = false ∧ W.frozen? ⟨g, 6, none⟩ = false := ⟨h.frozen 0, h.frozen 1, h.frozen 2, h.frozen 3, h.frozen 4, h.frozen 5, h.frozen 6⟩
theorem blk_cmd {W : World} {g : Nat} {t : TypeId} {u0 u1 u2 u3 u4 u5 u6 : Value} (h : Blk W g t #[u0, u1, u2, u3, u4, u5, u6]) (v0 v1 v2 v3 v4 v5 v6 : Value) : Blk (((((((W.setCell ⟨g, 0, none⟩ v0).setCell ⟨g, 1, none⟩ v1).setCell ⟨g, 2, none⟩ v2).setCell ⟨g, 3, none⟩ v3).setCell ⟨g, 4, none⟩ v4).setCell ⟨g, 5, none⟩ v5).setCell ⟨g, 6, none⟩ v6) g t #[v0, v1, v2, v3, v4, v5, v6] := by
  have h1 : Blk _ g t #[v0, u1, u2, u3, u4, u5, u6] := h.set_ 0 v0
  have h2 : Blk _ g t #[v0, v1, u2, u3, u4, u5, u6] := h1.set_ 1 v1
  have h3 : Blk _ g t #[v0, v1, v2, u3, u4, u5, u6] := h2.set_ 2 v2
  have h4 : Blk _ g t #[v0, v1, v2, v3, u4, u5, u6] := h3.set_ 3 v3
  have h5 : Blk _ g t #[v0, v1, v2, v3, v4, u5, u6] := h4.set_ 4 v4
  have h6 : Blk _ g t #[v0, v1, v2, v3, v4, v5, u6] := h5.set_ 5 v5
  exact h6.set_ 6 v6
theorem below_cmd {B : Nat} {w W : World} (h : Below B w W) {g : Nat} (hg : B ≤ g) (v0 v1 v2 v3 v4 v5 v6 : Value) : Below B w (((((((W.setCell ⟨g, 0, none⟩ v0).setCell ⟨g, 1, none⟩ v1).setCell ⟨g, 2, none⟩ v2).setCell ⟨g, 3, none⟩ v3).setCell ⟨g, 4, none⟩ v4).setCell ⟨g, 5, none⟩ v5).setCell ⟨g, 6, none⟩ v6) := ((((((h.setCell (p := ⟨g, 0, none⟩) hg v0).setCell (p := ⟨g, 1, none⟩) hg v1).setCell (p := ⟨g, 2, none⟩) hg v2).setCell (p := ⟨g, 3, none⟩) hg v3).setCell (p := ⟨g, 4, none⟩) hg v4).setCell (p := ⟨g, 5, none⟩) hg v5).setCell (p := ⟨g, 6, none⟩) hg v6
theorem res_cmd {fn : Func} {p u : Tmp} (h : fn.results = #[.cell p 29, .tmp u]) (tmps : Array Value) (w : World) {g : Nat} (hp : tmps.getD p undef = .pointer (some ⟨g, 0, none⟩)) {v0 v1 v2 v3 v4 v5 v6 : Value} (hb : Blk w g 29 #[v0, v1, v2, v3, v4, v5, v6]) :
    (results fn tmps).run Tryz.prog w = .ok (.tuple #[.agg #[v0, v1, v2, v3, v4, v5, v6], tmps.getD u undef]) w := by
  rw [results_cell_tmp h, hp]
  have h1 := run_loadVar_row (P := Tryz.prog) w g 29 29 #[v0, v1, v2, v3, v4, v5, v6] (0, 0) _ hb Tryz.underlying29 rfl (by kernel_rfl)
  simp [asAddr, h1, Result.andThen]
abbrev cmdZ : Array Value := #[.int .i64 0, .string ⟨#[]⟩, .int .i64 0, .int .i64 0, .int .i64 0, .slice none 0 0, .int .i64 0]
/-- A command's block, behind its making and a call. -/
theorem cmd_start {w W : World} (hb : Below (w.alloc (.cells cmdZ 29)).heap.size (w.alloc (.cells cmdZ 29)) W) : Blk W w.heap.size 29 cmdZ ∧ Below w.heap.size w W := by
  have h0 : Below w.heap.size w (w.alloc (.cells cmdZ 29)) := (by repeat (first | exact Below.refl _ _ | (refine Below.setCell ?_ (by first | omega | (simp; done) | (simp; omega) | (simp at *; omega)) _) | (refine Below.alloc ?_ (by first | omega | (simp; done) | (simp; omega) | (simp at *; omega)) _) | refine Below.drew ?_ | (refine below_drewN ?_ _) | (refine Below.trans ?_ (Below.mono (by assumption) (by first | omega | (simp; done) | (simp; omega) | (simp at *; omega))))))
  exact ⟨(Blk.new _ _ _ rfl).next hb, h0.trans (hb.mono h0.size)⟩
theorem start_is (w : World) : Calls Tryz.prog 53 #[] w (Gives w (.agg #[.string (bs startL), .int .i64 0, .int .i64 0, .int .i64 1])) := by
  unfold Gives
  go_enter Tryz.func53, Tryz.ntmps53
  go_wp2_with fail
  refine bodyPost_ret (v := .agg #[.string (bs startL), .int .i64 0, .int .i64 0, .int .i64 1]) (by simp [results, Tryz.results53, go_sem]; rfl) rfl ⟨rfl, (by repeat (first | exact Below.refl _ _ | (refine Below.setCell ?_ (by first | omega | (simp; done) | (simp; omega) | (simp at *; omega)) _) | (refine Below.alloc ?_ (by first | omega | (simp; done) | (simp; omega) | (simp at *; omega)) _) | refine Below.drew ?_ | (refine below_drewN ?_ _) | (refine Below.trans ?_ (Below.mono (by assumption) (by first | omega | (simp; done) | (simp; omega) | (simp at *; omega))))))⟩
theorem isDepth_is (n : Int) (v : Bool) (w : World) (hv : (decide (1 ≤ n) && decide (n ≤ 64)) = v) : Calls Tryz.prog 33 #[.int .i64 n] w (Says w (.bool v)) := by
  by_cases h : 1 ≤ n
  · have h1 : decide (1 ≤ n) = true := decide_eq_true h
    go_enter Tryz.func33, Tryz.ntmps33
    go_wp2_with fail
    go_ret
    exact ⟨by rw [← hv, h1]; rfl, rfl⟩
  · have h1 : decide (1 ≤ n) = false := decide_eq_false h
    go_enter Tryz.func33, Tryz.ntmps33
    go_wp2_with fail
    go_ret
    exact ⟨by rw [← hv, h1]; rfl, rfl⟩
theorem join_off (bk o c : Nat) (xs : List (List UInt8)) (n : Nat) (sep r : List UInt8) (w : World) (hc : ∀ j x, xs[j]? = some x → w.cell? ⟨bk, o + j, none⟩ = some (.string (bs x))) (hbk : bk < w.heap.size) (hn : xs.length = n) (hN : n ≤ c) (hr : Lib.join xs sep = r) (hl : r.length ≤ 1000000) (hxs : n ≤ 1000000) :
    Calls Tryz.prog 36 #[.slice (some ⟨bk, o, none⟩) n c, .string (bs sep)] w (Gives w (.string (bs r))) := by
  have e : (xs.map bs).map (·.data.toList) = xs := by
    rw [List.map_map]
    conv => rhs; rw [← List.map_id xs]
    exact List.map_congr_left fun x _ => bs_data x
  subst hn
  have h := Tryz.strings_Join bk o c (xs.map bs) (bs sep) w (fun j x hx => by
    rw [List.getElem?_map] at hx
    obtain ⟨y, hy, rfl⟩ := Option.map_eq_some_iff.1 hx
    exact hc j y hy) hbk (by simp; omega) (by simpa using hN) (by rw [e, bs_data, hr]; omega)
  rw [e, bs_data, hr, List.length_map] at h
  exact h
set_option maxRecDepth 100000 in
set_option maxHeartbeats 4000000 in
theorem readPlace_start (g b n c : Nat) (w : World) (e0 : w.cell? ⟨g, b, none⟩ = some (.string (bs startW))) (h0 : 0 < n) : Calls Tryz.prog 45 #[.slice (some ⟨g, b, none⟩) n c] w (Gives w (.tuple #[posVP startP, .int .i64 0])) := by
  have n1 : (0 : Int) < (n : Int) := by omega
  have e1 : ((bs startW).toList == [115, 116, 97, 114, 116, 112, 111, 115]) = true := by rw [bs_eqR]; exact decide_eq_true rfl
  have hA : Below w.heap.size w (w.alloc (.cells #[.string ⟨#[]⟩, .int .i64 0, .int .i64 0, .int .i64 0] 23)) := (by repeat (first | exact Below.refl _ _ | (refine Below.setCell ?_ (by first | omega | (simp; done) | (simp; omega) | (simp at *; omega)) _) | (refine Below.alloc ?_ (by first | omega | (simp; done) | (simp; omega) | (simp at *; omega)) _) | refine Below.drew ?_ | (refine below_drewN ?_ _) | (refine Below.trans ?_ (Below.mono (by assumption) (by first | omega | (simp; done) | (simp; omega) | (simp at *; omega))))))
  replace e0 := (hA.cell (cell_lt e0)).trans e0
  unfold Gives
  go_enter Tryz.func45, Tryz.ntmps45
  go_wp2_with fail
  refine (start_is _).mono ?_
  rintro e w1 ⟨rfl, hb⟩
  obtain ⟨bR, hB⟩ := one_zero hb
  obtain ⟨r0, r1, r2, r3⟩ := pos_cells bR
  obtain ⟨f0, f1, f2, f3⟩ := pos_frozen bR
  clear hb
  go_wp2_with fail
  refine bodyPost_ret (res_pos rfl _ _ rfl (blk_four bR)) rfl ⟨rfl, below_four hB⟩
set_option maxRecDepth 100000 in
set_option maxHeartbeats 4000000 in
theorem readPlace_fen (g b n c : Nat) (x : List UInt8) (l : List (List UInt8)) (T : List UInt8) (ps : ByteArray) (pa pb pc er : Int) (w : World) (hE : Env w) (hc : ∀ j y, (x :: l)[j]? = some y → w.cell? ⟨g, b + j, none⟩ = some (.string (bs y))) (hn : (x :: l).length = n) (hnc : n ≤ c) (hl : l ≠ []) (hx : x ≠ startW) (hT : Lib.join l [32] = T) (hTl : T.length ≤ 1000000) (hv : parseV T = .tuple #[.agg #[.string ps, .int .i64 pa, .int .i64 pb, .int .i64 pc], .int .i64 er]) (hl9 : n ≤ 100000) : Calls Tryz.prog 45 #[.slice (some ⟨g, b, none⟩) n c] w (Gives w (.tuple #[.agg #[.string ps, .int .i64 pa, .int .i64 pb, .int .i64 pc], .int .i64 er])) := by
  have n1 : (0 : Int) < (n : Int) := by rw [← hn, List.length_cons]; omega
  have n2 : ¬ c = 1 := fun e => by
    cases l with
    | nil => exact hl rfl
    | cons y r => rw [List.length_cons, List.length_cons] at hn; omega
  have n3 : (1 : Int) ≤ (n : Int) := by omega
  have n4 : (n : Int) ≤ (c : Int) := by omega
  have e1 : ((bs x).toList == [115, 116, 97, 114, 116, 112, 111, 115]) = false := by rw [bs_eqR]; exact decide_eq_false hx
  have hA : Below w.heap.size w (w.alloc (.cells #[.string ⟨#[]⟩, .int .i64 0, .int .i64 0, .int .i64 0] 23)) := (by repeat (first | exact Below.refl _ _ | (refine Below.setCell ?_ (by first | omega | (simp; done) | (simp; omega) | (simp at *; omega)) _) | (refine Below.alloc ?_ (by first | omega | (simp; done) | (simp; omega) | (simp at *; omega)) _) | refine Below.drew ?_ | (refine below_drewN ?_ _) | (refine Below.trans ?_ (Below.mono (by assumption) (by first | omega | (simp; done) | (simp; omega) | (simp at *; omega))))))
  have e0 := hc 0 x rfl
  rw [Nat.add_zero] at e0
  replace e0 := (hA.cell (cell_lt e0)).trans e0
  unfold Gives
  go_enter Tryz.func45, Tryz.ntmps45
  go_wp2_with fail
  have hj : Calls Tryz.prog 36 #[.slice (some ⟨g, b + 1, none⟩) (n - 1) (c - 1), .string ⟨#[32]⟩] (w.alloc (.cells #[.string ⟨#[]⟩, .int .i64 0, .int .i64 0, .int .i64 0] 23)) (Gives (w.alloc (.cells #[.string ⟨#[]⟩, .int .i64 0, .int .i64 0, .int .i64 0] 23)) (.string (bs T))) := by
    refine join_off g (b + 1) (c - 1) l (n - 1) [32] T _ (fun j y hy => ?_) (cell_lt e0) (by rw [← hn]; rfl) (by omega) hT hTl (by omega)
    have e2 := hc (j + 1) y hy
    rw [show b + 1 + j = b + (j + 1) by omega]
    exact (hA.cell (cell_lt e2)).trans e2
  refine hj.mono ?_
  rintro e w1 ⟨rfl, hb1⟩
  have hB1 := hA.trans (hb1.mono hA.size)
  have bR := ((Blk.new w 23 #[.string ⟨#[]⟩, .int .i64 0, .int .i64 0, .int .i64 0] rfl).next hb1)
  go_wp2_with fail
  refine (parse_is T _ w1 (hE.next hB1) (by omega) hv).mono ?_
  rintro e w2 ⟨rfl, hb2⟩
  replace bR := bR.next hb2
  have hB := hB1.trans (hb2.mono hB1.size)
  clear hb1 hb2 hB1 hA
  obtain ⟨r0, r1, r2, r3⟩ := pos_cells bR
  obtain ⟨f0, f1, f2, f3⟩ := pos_frozen bR
  go_wp2_with fail
  refine bodyPost_ret (res_pos rfl _ _ rfl (blk_four bR)) rfl ⟨rfl, below_four hB⟩
end Go.Proofs.YtpogpjebhnoncabGreatDoor
