/- What Print answers: a position's line, and all. -/
import Derived.Test.YtpogpjebhnoncabGreatDoorLineI
namespace Go.Proofs.YtpogpjebhnoncabGreatDoor
open Go.RowKit Go.Shelf Go.Proofs.YtpogpjebhnoncabGreatDoor.Ln
open M (S)

open Classical in
noncomputable def placeT (p : F.P) : List UInt8 := if p = startP then startW else if (checkP p : Int) = 0 then [102, 101, 110, 32] ++ F.printL p else []
theorem place_keep {p : F.P} {w W W' : World} (h : W.cell? ⟨w.heap.size, 0, none⟩ = some (.string (bs p.cells)) ∧ W.cell? ⟨w.heap.size, 1, none⟩ = some (.int .i64 p.side) ∧ W.cell? ⟨w.heap.size, 2, none⟩ = some (.int .i64 p.clock) ∧ W.cell? ⟨w.heap.size, 3, none⟩ = some (.int .i64 p.full) ∧ Env W ∧ Below w.heap.size w W) (hb : Below W.heap.size W W') : W'.cell? ⟨w.heap.size, 0, none⟩ = some (.string (bs p.cells)) ∧ W'.cell? ⟨w.heap.size, 1, none⟩ = some (.int .i64 p.side) ∧ W'.cell? ⟨w.heap.size, 2, none⟩ = some (.int .i64 p.clock) ∧ W'.cell? ⟨w.heap.size, 3, none⟩ = some (.int .i64 p.full) ∧ Env W' ∧ Below w.heap.size w W' :=
  ⟨(hb.cell (cell_lt h.1)).trans h.1, (hb.cell (cell_lt h.2.1)).trans h.2.1, (hb.cell (cell_lt h.2.2.1)).trans h.2.2.1, (hb.cell (cell_lt h.2.2.2.1)).trans h.2.2.2.1, h.2.2.2.2.1.next hb, h.2.2.2.2.2.trans (hb.mono h.2.2.2.2.2.size)⟩
theorem printV_yes {p : F.P} (h : (checkP p : Int) = 0) : printV (bs p.cells) p.side p.clock p.full = .tuple #[.string (bs (F.printL p)), .int .i64 0] := by
  unfold printV
  rw [posP_bs]
  exact if_pos h
theorem printV_no {p : F.P} (h : ¬ (checkP p : Int) = 0) : printV (bs p.cells) p.side p.clock p.full = .tuple #[.string ⟨#[]⟩, .int .i64 (checkP p : Nat)] := if_neg h
theorem printL_len {p : F.P} (h : (checkP p : Int) = 0) : (F.printL p).length ≤ 1001 := by
  have h1 := fields_sum h
  have h2 := join_sum (F.fields p) (by simp [F.fields])
  have h3 : (F.printL p).length + 1 = sumL (F.fields p) := h2
  omega
theorem start_not {p : F.P} (h : p ≠ startP) : ((bs p.cells).toList == (bs startL).toList) = false ∨ (((bs p.cells).toList == (bs startL).toList) = true ∧ (p.side == 0) = false) ∨ (((bs p.cells).toList == (bs startL).toList) = true ∧ (p.side == 0) = true ∧ (p.clock == 0) = false) ∨ (((bs p.cells).toList == (bs startL).toList) = true ∧ (p.side == 0) = true ∧ (p.clock == 0) = true ∧ (p.full == 1) = false) := by
  cases h0 : ((bs p.cells).toList == (bs startL).toList)
  · exact .inl rfl
  · cases h1 : (p.side == 0)
    · exact .inr (.inl ⟨rfl, rfl⟩)
    · cases h2 : (p.clock == 0)
      · exact .inr (.inr (.inl ⟨rfl, rfl, rfl⟩))
      · cases h3 : (p.full == 1)
        · exact .inr (.inr (.inr ⟨rfl, rfl, rfl, rfl⟩))
        · exfalso
          rw [ByteArray.toList_eq, ByteArray.toList_eq, bs_data, bs_data, beq_iff_eq] at h0
          rw [beq_iff_eq] at h1 h2 h3
          obtain ⟨a, b, c, d⟩ := p
          simp only at h0 h1 h2 h3
          subst h0 h1 h2 h3
          exact h rfl
set_option maxRecDepth 100000 in
set_option maxHeartbeats 8000000 in
theorem printPlace_yes (p : F.P) (w : World) (hE : Env w) (hp : p = startP) : Calls Tryz.prog 37 #[posVP p] w (Gives w (.string (bs (placeT p)))) := by
  have HP : Hid (placeT p = startW) := by show _ = _; unfold placeT; rw [if_pos hp]
  unfold Gives posVP
  obtain ⟨W0, hW0⟩ : ∃ W0, w.alloc (.cells #[.string (bs p.cells), .int .i64 p.side, .int .i64 p.clock, .int .i64 p.full] 23) = W0 := ⟨_, rfl⟩
  have hB : Below w.heap.size w W0 := by rw [← hW0]; exact (by repeat (first | exact Below.refl _ _ | (refine Below.setCell ?_ (by first | omega | (simp; done) | (simp; omega) | (simp at *; omega)) _) | (refine Below.alloc ?_ (by first | omega | (simp; done) | (simp; omega) | (simp at *; omega)) _) | refine Below.drew ?_ | (refine below_drewN ?_ _) | (refine Below.trans ?_ (Below.mono (by assumption) (by first | omega | (simp; done) | (simp; omega) | (simp at *; omega))))))
  have bP : Blk W0 w.heap.size 23 #[.string (bs p.cells), .int .i64 p.side, .int .i64 p.clock, .int .i64 p.full] := by rw [← hW0]; exact Blk.new _ _ _ rfl
  obtain ⟨c0, c1, c2, c3⟩ := pos_cells bP
  have hS : W0.drew.cell? ⟨w.heap.size, 0, none⟩ = some (.string (bs p.cells)) ∧ W0.drew.cell? ⟨w.heap.size, 1, none⟩ = some (.int .i64 p.side) ∧ W0.drew.cell? ⟨w.heap.size, 2, none⟩ = some (.int .i64 p.clock) ∧ W0.drew.cell? ⟨w.heap.size, 3, none⟩ = some (.int .i64 p.full) ∧ Env W0.drew ∧ Below w.heap.size w W0.drew := place_keep ⟨c0, c1, c2, c3, hE.next hB, hB⟩ (Below.refl _ _).drew
  clear hE hB bP c0 c1 c2 c3
  have q0 : ((bs p.cells).toList == (bs startL).toList) = true := by rw [hp]; exact beq_self_eq_true _
  have q1 : (p.side == 0) = true := by rw [hp]; rfl
  have q2 : (p.clock == 0) = true := by rw [hp]; rfl
  have q3 : (p.full == 1) = true := by rw [hp]; rfl
  clear hp
  go_enter Tryz.func37, Tryz.ntmps37
  go_upto_region 1 with (fail)
  go_region_held3 (fun W => W.cell? ⟨w.heap.size, 0, none⟩ = some (.string (bs p.cells)) ∧ W.cell? ⟨w.heap.size, 1, none⟩ = some (.int .i64 p.side) ∧ W.cell? ⟨w.heap.size, 2, none⟩ = some (.int .i64 p.clock) ∧ W.cell? ⟨w.heap.size, 3, none⟩ = some (.int .i64 p.full) ∧ Env W ∧ Below w.heap.size w W)
    (first | exact hS | with_reducible assumption | exact place_keep (by assumption) hb2)
    (first | (go_at_call 53; refine (start_is _).mono ?_; rintro e w1 ⟨rfl, hb2⟩))
  all_goals
    rename_i hH
    obtain ⟨_, _, _, _, _, hB2⟩ := hH
    clear hS
    go_wp2_with fail
    go_ret
    rw [HP.out]
    exact ⟨rfl, hB2⟩
set_option maxRecDepth 100000 in
set_option maxHeartbeats 8000000 in
theorem printPlace_no (p : F.P) (w : World) (hE : Env w) (x : List UInt8) (k : Int) (hv : printV (bs p.cells) p.side p.clock p.full = .tuple #[.string (bs x), .int .i64 k]) (hk : (k != 0) = false) (hx : x.length ≤ 2000) (hp : p ≠ startP) (HP : Hid (placeT p = [102, 101, 110, 32] ++ x)) : Calls Tryz.prog 37 #[posVP p] w (Gives w (.string (bs (placeT p)))) := by
  have hno := start_not hp
  have hsz : ¬ 9223372036854775807 < 4 + (bs x).size := by
    have : (bs x).size = x.length := rfl
    omega
  clear hp hx
  unfold Gives posVP
  obtain ⟨W0, hW0⟩ : ∃ W0, w.alloc (.cells #[.string (bs p.cells), .int .i64 p.side, .int .i64 p.clock, .int .i64 p.full] 23) = W0 := ⟨_, rfl⟩
  have hB : Below w.heap.size w W0 := by rw [← hW0]; exact (by repeat (first | exact Below.refl _ _ | (refine Below.setCell ?_ (by first | omega | (simp; done) | (simp; omega) | (simp at *; omega)) _) | (refine Below.alloc ?_ (by first | omega | (simp; done) | (simp; omega) | (simp at *; omega)) _) | refine Below.drew ?_ | (refine below_drewN ?_ _) | (refine Below.trans ?_ (Below.mono (by assumption) (by first | omega | (simp; done) | (simp; omega) | (simp at *; omega))))))
  have bP : Blk W0 w.heap.size 23 #[.string (bs p.cells), .int .i64 p.side, .int .i64 p.clock, .int .i64 p.full] := by rw [← hW0]; exact Blk.new _ _ _ rfl
  obtain ⟨c0, c1, c2, c3⟩ := pos_cells bP
  have hS : W0.drew.cell? ⟨w.heap.size, 0, none⟩ = some (.string (bs p.cells)) ∧ W0.drew.cell? ⟨w.heap.size, 1, none⟩ = some (.int .i64 p.side) ∧ W0.drew.cell? ⟨w.heap.size, 2, none⟩ = some (.int .i64 p.clock) ∧ W0.drew.cell? ⟨w.heap.size, 3, none⟩ = some (.int .i64 p.full) ∧ Env W0.drew ∧ Below w.heap.size w W0.drew := place_keep ⟨c0, c1, c2, c3, hE.next hB, hB⟩ (Below.refl _ _).drew
  clear hE hB bP c0 c1 c2 c3
  rcases hno with q0 | ⟨q0, q1⟩ | ⟨q0, q1, q2⟩ | ⟨q0, q1, q2, q3⟩
  all_goals
    go_enter Tryz.func37, Tryz.ntmps37
    go_upto_region 1 with (fail)
    go_region_held3 (fun W => W.cell? ⟨w.heap.size, 0, none⟩ = some (.string (bs p.cells)) ∧ W.cell? ⟨w.heap.size, 1, none⟩ = some (.int .i64 p.side) ∧ W.cell? ⟨w.heap.size, 2, none⟩ = some (.int .i64 p.clock) ∧ W.cell? ⟨w.heap.size, 3, none⟩ = some (.int .i64 p.full) ∧ Env W ∧ Below w.heap.size w W)
      (first | exact hS | with_reducible assumption | exact place_keep (by assumption) hb2)
      (first | (go_at_call 53; refine (start_is _).mono ?_; rintro e w1 ⟨rfl, hb2⟩))
    all_goals
      rename_i hH
      obtain ⟨p0, p1, p2, p3, hE2, hB2⟩ := hH
      clear hS
      have hpr := print_any (bs p.cells) p.side p.clock p.full _ hE2
      rw [hv] at hpr
      go_wp2_with fail
      refine hpr.mono ?_
      rintro e w3 ⟨rfl, hb3⟩
      go_wp2_with fail
      go_ret
      rw [HP.out, ← bs_app]
      exact ⟨rfl, hB2.trans (hb3.mono hB2.size)⟩
set_option maxRecDepth 100000 in
set_option maxHeartbeats 8000000 in
theorem printPlace_bad (p : F.P) (w : World) (hE : Env w) (k : Int) (hv : printV (bs p.cells) p.side p.clock p.full = .tuple #[.string ⟨#[]⟩, .int .i64 k]) (hk : (k != 0) = true) (hp : p ≠ startP) (HP : Hid (placeT p = [])) : Calls Tryz.prog 37 #[posVP p] w (Gives w (.string (bs (placeT p)))) := by
  have hno := start_not hp
  clear hp
  unfold Gives posVP
  obtain ⟨W0, hW0⟩ : ∃ W0, w.alloc (.cells #[.string (bs p.cells), .int .i64 p.side, .int .i64 p.clock, .int .i64 p.full] 23) = W0 := ⟨_, rfl⟩
  have hB : Below w.heap.size w W0 := by rw [← hW0]; exact (by repeat (first | exact Below.refl _ _ | (refine Below.setCell ?_ (by first | omega | (simp; done) | (simp; omega) | (simp at *; omega)) _) | (refine Below.alloc ?_ (by first | omega | (simp; done) | (simp; omega) | (simp at *; omega)) _) | refine Below.drew ?_ | (refine below_drewN ?_ _) | (refine Below.trans ?_ (Below.mono (by assumption) (by first | omega | (simp; done) | (simp; omega) | (simp at *; omega))))))
  have bP : Blk W0 w.heap.size 23 #[.string (bs p.cells), .int .i64 p.side, .int .i64 p.clock, .int .i64 p.full] := by rw [← hW0]; exact Blk.new _ _ _ rfl
  obtain ⟨c0, c1, c2, c3⟩ := pos_cells bP
  have hS : W0.drew.cell? ⟨w.heap.size, 0, none⟩ = some (.string (bs p.cells)) ∧ W0.drew.cell? ⟨w.heap.size, 1, none⟩ = some (.int .i64 p.side) ∧ W0.drew.cell? ⟨w.heap.size, 2, none⟩ = some (.int .i64 p.clock) ∧ W0.drew.cell? ⟨w.heap.size, 3, none⟩ = some (.int .i64 p.full) ∧ Env W0.drew ∧ Below w.heap.size w W0.drew := place_keep ⟨c0, c1, c2, c3, hE.next hB, hB⟩ (Below.refl _ _).drew
  clear hE hB bP c0 c1 c2 c3
  rcases hno with q0 | ⟨q0, q1⟩ | ⟨q0, q1, q2⟩ | ⟨q0, q1, q2, q3⟩
  all_goals
    go_enter Tryz.func37, Tryz.ntmps37
    go_upto_region 1 with (fail)
    go_region_held3 (fun W => W.cell? ⟨w.heap.size, 0, none⟩ = some (.string (bs p.cells)) ∧ W.cell? ⟨w.heap.size, 1, none⟩ = some (.int .i64 p.side) ∧ W.cell? ⟨w.heap.size, 2, none⟩ = some (.int .i64 p.clock) ∧ W.cell? ⟨w.heap.size, 3, none⟩ = some (.int .i64 p.full) ∧ Env W ∧ Below w.heap.size w W)
      (first | exact hS | with_reducible assumption | exact place_keep (by assumption) hb2)
      (first | (go_at_call 53; refine (start_is _).mono ?_; rintro e w1 ⟨rfl, hb2⟩))
    all_goals
      rename_i hH
      obtain ⟨p0, p1, p2, p3, hE2, hB2⟩ := hH
      clear hS
      have hpr := print_any (bs p.cells) p.side p.clock p.full _ hE2
      rw [hv] at hpr
      go_wp2_with fail
      refine hpr.mono ?_
      rintro e w3 ⟨rfl, hb3⟩
      go_wp2_with fail
      go_ret
      rw [HP.out]
      exact ⟨rfl, hB2.trans (hb3.mono hB2.size)⟩
theorem printPlace_is (p : F.P) (w : World) (hE : Env w) : Calls Tryz.prog 37 #[posVP p] w (Gives w (.string (bs (placeT p)))) := by
  by_cases hp : p = startP
  · exact printPlace_yes p w hE hp
  · by_cases hc : (checkP p : Int) = 0
    · exact printPlace_no p w hE _ 0 (printV_yes hc) rfl (by have := printL_len hc; omega) hp (by show _ = _; unfold placeT; rw [if_neg hp, if_pos hc])
    · exact printPlace_bad p w hE _ (printV_no hc) (by rw [bne_iff_ne]; exact hc) hp (by show _ = _; unfold placeT; rw [if_neg hp, if_neg hc])
-- a position's line
noncomputable def setT (p : F.P) (l : List (Int × Int)) : List UInt8 := if placeT p = [] then [] else if l = [] then posW ++ ([32] ++ placeT p) else movesT (posW ++ ([32] ++ placeT p) ++ [32] ++ movesW) l
theorem placeT_len (p : F.P) : (placeT p).length ≤ 1005 := by
  unfold placeT
  split
  · decide
  · split
    · rename_i h
      have := printL_len h
      simp only [List.length_append, List.length_cons, List.length_nil]
      omega
    · exact Nat.zero_le _
set_option maxRecDepth 100000 in
set_option maxHeartbeats 8000000 in
theorem printSet_is (p : F.P) (A : Option Addr) (n c : Nat) (l : List (Int × Int)) (w : World) (hE : Env w) (hr : RdM w A l) (hn : l.length = n) (hl : n ≤ 2000) : Calls Tryz.prog 19 #[posVP p, .slice A n c] w (Gives w (.string (bs (setT p l)))) := by
  have hx := placeT_len p
  unfold Gives posVP
  obtain ⟨W0, hW0⟩ : ∃ W0, w.alloc (.cells #[.string (bs p.cells), .int .i64 p.side, .int .i64 p.clock, .int .i64 p.full] 23) = W0 := ⟨_, rfl⟩
  have hB : Below w.heap.size w W0 := by rw [← hW0]; exact (by repeat (first | exact Below.refl _ _ | (refine Below.setCell ?_ (by first | omega | (simp; done) | (simp; omega) | (simp at *; omega)) _) | (refine Below.alloc ?_ (by first | omega | (simp; done) | (simp; omega) | (simp at *; omega)) _) | refine Below.drew ?_ | (refine below_drewN ?_ _) | (refine Below.trans ?_ (Below.mono (by assumption) (by first | omega | (simp; done) | (simp; omega) | (simp at *; omega))))))
  have bP : Blk W0 w.heap.size 23 #[.string (bs p.cells), .int .i64 p.side, .int .i64 p.clock, .int .i64 p.full] := by rw [← hW0]; exact Blk.new _ _ _ rfl
  obtain ⟨c0, c1, c2, c3⟩ := pos_cells bP
  have hpl := printPlace_is p W0 (hE.next hB)
  unfold posVP at hpl
  have HPL := Lib.hid hpl
  have HR := Lib.hid (hr.next hB)
  have HB := Lib.hid hB
  clear hpl hr hB bP hE
  by_cases h0 : placeT p = []
  · have HT : Hid (setT p l = []) := if_pos h0
    rw [h0] at HPL
    have q0 : (bs []).toList.isEmpty = true := by rw [ByteArray.toList_eq, bs_data]; rfl
    clear h0 hx
    go_enter Tryz.func19, Tryz.ntmps19
    go_wp2_with fail
    refine HPL.out.mono ?_
    rintro e w1 ⟨rfl, hb1⟩
    go_wp2_with fail
    go_ret
    rw [HT.out]
    exact ⟨rfl, HB.out.trans (hb1.mono HB.out.size)⟩
  · have q0 : (bs (placeT p)).toList.isEmpty = false := by
      rw [ByteArray.toList_eq, bs_data]
      cases hh : placeT p with
      | nil => exact absurd hh h0
      | cons => rfl
    have h1 : (⟨#[112, 111, 115, 105, 116, 105, 111, 110, 32]⟩ : ByteArray) ++ bs (placeT p) = bs (posW ++ ([32] ++ placeT p)) := by
      show bs (posW ++ [32]) ++ _ = _
      rw [bs_app, List.append_assoc]
    have HT : Hid (setT p l = if l = [] then posW ++ ([32] ++ placeT p) else movesT (posW ++ ([32] ++ placeT p) ++ [32] ++ movesW) l) := if_neg h0
    have hs1 : (bs (placeT p)).size ≤ 2000 := by
      have : (bs (placeT p)).size = (placeT p).length := rfl
      omega
    have hs0 : ¬ 9223372036854775807 < 9 + (bs (placeT p)).size := by omega
    have hxl : (posW ++ ([32] ++ placeT p)).length ≤ 2000 := by
      simp only [List.length_append]
      have h1 : posW.length = 8 := rfl
      have h2 : [(32 : UInt8)].length = 1 := rfl
      omega
    generalize posW ++ ([32] ++ placeT p) = X at h1 HT hxl
    generalize placeT p = PT at q0 h1 hs1 hs0 HPL
    clear h0 hx
    by_cases hn0 : n = 0
    · subst hn0
      have HT2 := Lib.hid (HT.out.trans (if_pos (List.length_eq_zero_iff.1 hn)))
      clear hn
      go_enter Tryz.func19, Tryz.ntmps19
      go_wp2_with fail
      refine HPL.out.mono ?_
      rintro e w1 ⟨rfl, hb1⟩
      go_wp2_with fail
      go_ret
      rw [HT2.out]
      exact ⟨by first | rfl | (rw [← h1]; rfl), HB.out.trans (hb1.mono HB.out.size)⟩
    · have n1 : ((n : Int) == 0) = false := by rw [beq_eq_false_iff_ne]; omega
      have hl0 : l ≠ [] := fun e => hn0 (by rw [← hn, e]; rfl)
      have HT2 := Lib.hid (HT.out.trans (if_neg hl0))
      have HN := Lib.hid hn
      have h2 : bs X ++ (⟨#[32]⟩ : ByteArray) = bs (X ++ [32]) := bs_app X [32]
      have h3 : bs (X ++ [32]) ++ (⟨#[109, 111, 118, 101, 115]⟩ : ByteArray) = bs (X ++ [32] ++ movesW) := bs_app (X ++ [32]) movesW
      have hs2 : ¬ 9223372036854775807 < 9 + (bs PT).size + 1 := by omega
      have hs3 : ¬ 9223372036854775807 < 9 + (bs PT).size + 1 + 5 := by omega
      have hcat : (⟨#[112, 111, 115, 105, 116, 105, 111, 110, 32]⟩ : ByteArray) ++ bs PT ++ ⟨#[32]⟩ ++ ⟨#[109, 111, 118, 101, 115]⟩ = bs (X ++ [32] ++ movesW) := by rw [h1, h2, h3]
      have hql : (X ++ [32] ++ movesW).length ≤ 100000 := by
        simp only [List.length_append]
        have h1 : movesW.length = 5 := rfl
        have h2 : [(32 : UInt8)].length = 1 := rfl
        omega
      generalize X ++ [32] ++ movesW = Q at hcat hql HT2
      have HC := Lib.hid hcat
      clear hn hn0 hl0 h1 h2 h3 hcat
      go_enter Tryz.func19, Tryz.ntmps19
      go_wp2_with fail
      refine HPL.out.mono ?_
      rintro e w1 ⟨rfl, hb1⟩
      have hm := printMoves_is Q A n c l w1 (HR.out.next hb1) HN.out hl hql
      rw [← HC.out] at hm
      have HM := Lib.hid hm
      clear hm
      go_wp2_with fail
      refine HM.out.mono ?_
      rintro e w2 ⟨rfl, hb2⟩
      go_wp2_with fail
      go_ret
      rw [HT2.out]
      have hB1 := HB.out.trans (hb1.mono HB.out.size)
      exact ⟨rfl, hB1.trans (hb2.mono hB1.size)⟩
-- all of it
theorem movesT_is {h : List UInt8} {l : List (Int × Int)} (hs : allSq l = true) : movesT h l = Lib.join (h :: l.map mvT) [32] := if_pos hs
theorem bare_join (k : Int) : Lib.join (if bareT k = [] then [] else [bareT k]) [32] = bareT k := by
  by_cases h : bareT k = []
  · rw [if_pos h, h]; rfl
  · rw [if_neg h, Lib.join_one]
theorem placeT_join {p : F.P} (h : (checkP p : Int) = 0) : placeT p = Lib.join (placeW p) [32] := by
  unfold placeT placeW
  by_cases hp : p = startP
  · rw [if_pos hp, if_pos hp, Lib.join_one]
  · rw [if_neg hp, if_neg hp, if_pos h]
    unfold F.printL
    rw [Lib.join_cons]
    show fenW ++ [32] ++ Lib.join (F.fields p) [32] = _
    unfold F.fields
    rw [Lib.join_cons]
    simp [Lib.joinTail]
theorem placeT_none {p : F.P} (h : ¬ (checkP p : Int) = 0) : placeT p = [] := by
  unfold placeT
  have hp : p ≠ startP := fun e => h (by rw [e]; exact start_good)
  rw [if_neg hp, if_neg h]
theorem placeT_ne {p : F.P} (h : (checkP p : Int) = 0) : placeT p ≠ [] := by
  unfold placeT
  split
  · intro e; cases e
  · intro e; cases e
theorem placeW_ne (p : F.P) : placeW p ≠ [] := by
  unfold placeW
  split <;> (intro e; cases e)
theorem join_app (a b : List (List UInt8)) (ha : a ≠ []) : Lib.join (a ++ b) [32] = Lib.join a [32] ++ Lib.joinTail [32] b := by
  cases a with
  | nil => exact absurd rfl ha
  | cons x r =>
    rw [List.cons_append, Lib.join_cons, Lib.join_cons]
    unfold Lib.joinTail
    rw [List.map_append, List.flatten_append, List.append_assoc]
theorem setT_is (p : F.P) (l : List (Int × Int)) : setT p l = Lib.join (if (checkP p : Int) = 0 ∧ allSq l = true then posW :: (placeW p ++ tailW l) else []) [32] := by
  unfold setT
  by_cases h : (checkP p : Int) = 0
  · rw [if_neg (placeT_ne h)]
    have hj : posW ++ ([32] ++ placeT p) = Lib.join (posW :: placeW p) [32] := by
      rw [placeT_join h]
      cases hw : placeW p with
      | nil => exact absurd hw (placeW_ne p)
      | cons x r =>
        rw [Lib.join_cons, Lib.join_cons]
        simp [Lib.joinTail]
    rw [hj]
    by_cases hl : l = []
    · subst hl
      rw [if_pos rfl, if_pos ⟨h, rfl⟩]
      simp [tailW]
    · rw [if_neg hl]
      cases hs : allSq l
      · rw [if_neg (fun e => by cases e.2)]
        unfold movesT
        rw [hs]
        rfl
      · rw [if_pos ⟨h, rfl⟩, movesT_is hs]
        unfold tailW
        rw [if_neg hl, ← List.cons_append, join_app _ _ (by simp), Lib.join_cons]
        simp [Lib.joinTail]
  · rw [if_pos (placeT_none h), if_neg (fun e => h e.1)]
    rfl
theorem printC_is (c : Cmd) : printC c = if c.k = 5 then goT c.d else if c.k = 4 then movesT banW c.l else if c.k = 3 then setT c.p c.l else bareT c.k := by
  unfold printC printW
  split
  · rfl
  · split
    · unfold movesT
      split <;> rfl
    · split
      · rw [setT_is]
      · exact bare_join c.k
set_option maxRecDepth 100000 in
set_option maxHeartbeats 8000000 in
theorem printL_any (c : Cmd) (A : Option Addr) (n cap : Nat) (w : World) (hE : Env w) (hr : RdM w A c.l) (hn : c.l.length = n) (hl : n ≤ 2000) : Calls Tryz.prog 9 #[.agg #[.int .i64 c.k, .string (bs c.p.cells), .int .i64 c.p.side, .int .i64 c.p.clock, .int .i64 c.p.full, .slice A n cap, .int .i64 c.d]] w (Gives w (.string (bs (printC c)))) := by
  obtain ⟨k, p, l, d⟩ := c
  unfold Gives
  obtain ⟨W0, hW0⟩ : ∃ W0, w.alloc (.cells #[.int .i64 k, .string (bs p.cells), .int .i64 p.side, .int .i64 p.clock, .int .i64 p.full, .slice A n cap, .int .i64 d] 29) = W0 := ⟨_, rfl⟩
  have hB : Below w.heap.size w W0 := by rw [← hW0]; exact (by repeat (first | exact Below.refl _ _ | (refine Below.setCell ?_ (by first | omega | (simp; done) | (simp; omega) | (simp at *; omega)) _) | (refine Below.alloc ?_ (by first | omega | (simp; done) | (simp; omega) | (simp at *; omega)) _) | refine Below.drew ?_ | (refine below_drewN ?_ _) | (refine Below.trans ?_ (Below.mono (by assumption) (by first | omega | (simp; done) | (simp; omega) | (simp at *; omega))))))
  have bP : Blk W0 w.heap.size 29 #[.int .i64 k, .string (bs p.cells), .int .i64 p.side, .int .i64 p.clock, .int .i64 p.full, .slice A n cap, .int .i64 d] := by rw [← hW0]; exact Blk.new _ _ _ rfl
  obtain ⟨c0, c1, c2, c3, c4, c5, c6⟩ := c_cells bP
  have HE := Lib.hid (hE.next hB)
  have HR := Lib.hid (hr.next hB)
  have HB := Lib.hid hB
  have HN := Lib.hid hn
  clear hB bP hE hr hn
  have hpc := printC_is ⟨k, p, l, d⟩
  by_cases k5 : k = 5
  · subst k5
    have HP : Hid (printC ⟨5, p, l, d⟩ = goT d) := hpc
    clear hpc
    have HG := Lib.hid (printGo_is d W0 HE.out)
    go_enter Tryz.func9, Tryz.ntmps9
    go_wp2_with fail
    refine HG.out.mono ?_
    rintro e w1 ⟨rfl, hb1⟩
    go_wp2_with fail
    go_ret
    rw [HP.out]
    exact ⟨rfl, HB.out.trans (hb1.mono HB.out.size)⟩
  · have k5' : (k == 5) = false := by rw [beq_eq_false_iff_ne]; exact k5
    by_cases k4 : k = 4
    · subst k4
      have HP : Hid (printC ⟨4, p, l, d⟩ = movesT banW l) := hpc
      clear hpc k5
      have HG := Lib.hid (printMoves_is banW A n cap l W0 HR.out HN.out hl (by decide))
      go_enter Tryz.func9, Tryz.ntmps9
      go_wp2_with fail
      refine HG.out.mono ?_
      rintro e w1 ⟨rfl, hb1⟩
      go_wp2_with fail
      go_ret
      rw [HP.out]
      exact ⟨rfl, HB.out.trans (hb1.mono HB.out.size)⟩
    · have k4' : (k == 4) = false := by rw [beq_eq_false_iff_ne]; exact k4
      by_cases k3 : k = 3
      · subst k3
        have HP : Hid (printC ⟨3, p, l, d⟩ = setT p l) := hpc
        clear hpc k5 k4
        have HG := Lib.hid (printSet_is p A n cap l W0 HE.out HR.out HN.out hl)
        unfold posVP at HG
        go_enter Tryz.func9, Tryz.ntmps9
        go_wp2_with fail
        refine HG.out.mono ?_
        rintro e w1 ⟨rfl, hb1⟩
        go_wp2_with fail
        go_ret
        rw [HP.out]
        exact ⟨rfl, HB.out.trans (hb1.mono HB.out.size)⟩
      · have k3' : (k == 3) = false := by rw [beq_eq_false_iff_ne]; exact k3
        have HP : Hid (printC ⟨k, p, l, d⟩ = bareT k) := by
          show _ = _
          rw [hpc, if_neg k5, if_neg k4, if_neg k3]
        clear hpc k5 k4 k3
        go_enter Tryz.func9, Tryz.ntmps9
        go_wp2_with fail
        refine (printBare_is k W0).mono ?_
        rintro e w1 ⟨rfl, hb1⟩
        go_wp2_with fail
        go_ret
        rw [HP.out]
        exact ⟨rfl, HB.out.trans (hb1.mono HB.out.size)⟩
end Go.Proofs.YtpogpjebhnoncabGreatDoor
