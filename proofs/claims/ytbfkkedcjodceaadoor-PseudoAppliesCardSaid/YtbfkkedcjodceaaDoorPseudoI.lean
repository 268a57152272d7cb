/- The document's own answers of layer 6, on: whether a move is one of some; a board behind a move; what is behind a move, and what was taken. -/
import Derived.Test.YtbfkkedcjodceaaDoorPseudoH
namespace Go.Proofs.YtbfkkedcjodceaaDoor
open Go.RowKit Go.Shelf
open M (S)

def hasM (l : List (Nat × Nat)) (a b : Nat) : Bool := l.any fun m => (m.1 == a) && (m.2 == b)
theorem hasM_iff {l : List (Nat × Nat)} {a b : Nat} : hasM l a b = true ↔ (a, b) ∈ l := by
  unfold hasM
  rw [List.any_eq_true]
  constructor
  · rintro ⟨⟨x, y⟩, h, h2⟩
    simp only [Bool.and_eq_true, beq_iff_eq] at h2
    rw [← h2.1, ← h2.2]
    exact h
  · intro h
    exact ⟨(a, b), h, by simp⟩
theorem hasM_yes {l : List (Nat × Nat)} {a b k : Nat} (hk : k < l.length) (h : ((l[k].1 : Int) == (a : Int) && (l[k].2 : Int) == (b : Int)) = true) : hasM l a b = true := by
  rw [hasM_iff]
  simp only [Bool.and_eq_true, beq_iff_eq] at h
  have : (a, b) = l[k] := by
    have h1 : l[k].1 = a := by omega
    have h2 : l[k].2 = b := by omega
    rw [← h1, ← h2]
  rw [this]
  exact List.getElem_mem hk
theorem hasM_no {l : List (Nat × Nat)} {a b : Nat} (h : ∀ k (hk : k < l.length), ((l[k].1 : Int) == (a : Int) && (l[k].2 : Int) == (b : Int)) = false) : hasM l a b = false := by
  rw [Bool.eq_false_iff]
  intro h2
  rw [hasM_iff] at h2
  obtain ⟨k, hk, e⟩ := List.mem_iff_getElem.1 h2
  have := h k hk
  rw [e] at this
  simp at this
set_option maxRecDepth 100000 in
set_option maxHeartbeats 2000000 in
theorem has_any (A : Option Addr) (l : List (Nat × Nat)) (n c a b : Nat) (w : World) (hx : Rd w A (mvs l)) (hn : l.length = n) (hm : n ≤ 1000000) :
    Calls Tryd.prog 30 #[.slice A n c, .agg #[.int .i64 (a : Int), .int .i64 (b : Int)]] w (Gives w (.bool (hasM l a b))) := by
  unfold Gives
  obtain ⟨r, hr⟩ : ∃ r, hasM l a b = r := ⟨_, rfl⟩
  have HR := Lib.hid hr
  have HN := Lib.hid hn
  rw [hr]
  clear hn hr
  obtain ⟨W0, hW0⟩ : ∃ W0, w.alloc (.cells #[.int .i64 (a : Int), .int .i64 (b : Int)] 30) = W0 := ⟨_, rfl⟩
  have hB0 : Below w.heap.size w W0 := by rw [← hW0]; exact (by repeat (first | exact Below.refl _ _ | (refine Below.setCell ?_ (by first | omega | (simp; done) | (simp; omega) | (simp at *; omega)) _) | (refine Below.alloc ?_ (by first | omega | (simp; done) | (simp; omega) | (simp at *; omega)) _) | refine Below.drew ?_ | (refine below_drewN ?_ _) | (refine Below.trans ?_ (Below.mono (by assumption) (by first | omega | (simp; done) | (simp; omega) | (simp at *; omega))))))
  have bM0 : Blk W0 w.heap.size 30 #[.int .i64 (a : Int), .int .i64 (b : Int)] := by rw [← hW0]; exact Blk.new _ _ _ rfl
  have HW := Lib.hid hW0
  clear hW0
  go_enter Tryd.func30, Tryd.ntmps30
  go_wp2
  rw [HW.out]
  go_loopw [5] (fun i wr => ∃ k : Nat, k ≤ n ∧ i = .int .i64 k ∧ Blk wr w.heap.size 30 #[.int .i64 (a : Int), .int .i64 (b : Int)] ∧ Below w.heap.size w wr ∧ Hid (∀ j (hj : j < l.length), j < k → ((l[j].1 : Int) == (a : Int) && (l[j].2 : Int) == (b : Int)) = false)) (fun i _ => n - (intOf i).toNat)
  case atStart => exact ⟨0, Nat.zero_le _, rfl, bM0, hB0, fun j _ h => absurd h (Nat.not_lt_zero _)⟩
  case round =>
    obtain ⟨k, hk, rfl, bM, hB, hno⟩ := hrel
    by_cases hlt : k < n
    · have hkl : k < l.length := by rw [HN.out]; exact hlt
      obtain ⟨g1, o1, rfl, c0, c1⟩ := hx.move hkl
      obtain ⟨u, hu⟩ : ∃ u, l[k].1 = u := ⟨_, rfl⟩
      obtain ⟨v, hv⟩ : ∃ v, l[k].2 = v := ⟨_, rfl⟩
      have HU := Lib.hid hu
      have HV := Lib.hid hv
      rw [hu] at c0
      rw [hv] at c1
      have hc0 := (hB.cell (p := ⟨g1, o1 + k * 2, none⟩) (cell_lt c0)).trans c0
      have hc1 := (hB.cell (p := ⟨g1, o1 + k * 2 + 1, none⟩) (cell_lt c1)).trans c1
      have m0 : wr.cell? ⟨w.heap.size, 0, none⟩ = some (.int .i64 (a : Int)) := bM.cell 0
      have m1 : wr.cell? ⟨w.heap.size, 1, none⟩ = some (.int .i64 (b : Int)) := bM.cell 1
      have b1 : (k : Int) < (n : Int) := by omega
      have hne := eql_move
      clear c0 c1 hu hv
      cases he : ((u : Int) == (a : Int) && (v : Int) == (b : Int))
      · have HE := Lib.hid he
        go_wp2_with fail
        try (go_quiet (fail))
        go_wp2_with fail
        go_roundw
        case rel =>
          refine ⟨k + 1, by omega, by go_num, by first | exact bM | exact bM.next (below_drewN (Below.refl _ _) _), by first | exact hB | exact below_drewN hB _, ?_⟩
          show ∀ j (hj : j < l.length), j < k + 1 → _
          intro j hj hjk
          by_cases e : j = k
          · subst e
            rw [HU.out, HV.out]
            exact HE.out
          · exact hno.out j hj (by omega)
        case measure => simp [intOf]; omega
      · have K : Hid (r = true) := by
          show _ = _
          rw [← HR.out]
          exact hasM_yes hkl (by rw [HU.out, HV.out]; exact he)
        go_wp2_with fail
        try (go_quiet (fail))
        go_wp2_with fail
        go_ret
        exact ⟨by rw [K.out]; rfl, by first | exact hB | exact below_drewN hB _⟩
    · obtain rfl : k = n := by omega
      have K : Hid (r = false) := by
        show _ = _
        rw [← HR.out]
        exact hasM_no fun j hj => hno.out j hj (by rw [← HN.out]; exact hj)
      go_wp2
      go_ret
      exact ⟨by rw [K.out]; rfl, hB⟩
theorem mv6_set {h k a b : Nat} {x y z : Value} {W : World} (hS : W.cell? ⟨h, 0, none⟩ = some x ∧ W.cell? ⟨h, 1, none⟩ = some y ∧ W.cell? ⟨k, a, none⟩ = some z) (hk : h ≠ k) (hab : a ≠ b) (u : Value) : (W.setCell ⟨k, b, none⟩ u).cell? ⟨h, 0, none⟩ = some x ∧ (W.setCell ⟨k, b, none⟩ u).cell? ⟨h, 1, none⟩ = some y ∧ (W.setCell ⟨k, b, none⟩ u).cell? ⟨k, a, none⟩ = some z := by
  obtain ⟨h0, h1, h2⟩ := hS
  refine ⟨?_, ?_, ?_⟩
  · rw [World.cell?_setCell_other _ _ _ _ (by intro e; injection e with e1; exact hk e1.symm)]
    exact h0
  · rw [World.cell?_setCell_other _ _ _ _ (by intro e; injection e with e1; exact hk e1.symm)]
    exact h1
  · rw [World.cell?_setCell_other _ _ _ _ (by intro e; injection e with _ e2; exact hab e2.symm)]
    exact h2
set_option maxRecDepth 100000 in
set_option maxHeartbeats 4000000 in
theorem rmoved_is (s : ByteArray) (a b c : Nat) (w : World) (hs : s.size = 90) (ha : a < 90) (hb : b < 90) (hab : a ≠ b) (hc : bAt s a = c) :
    Calls Tryd.prog 58 #[.string s, .agg #[.int .i64 (a : Int), .int .i64 (b : Int)]] w (Gives w (.string (movedS s a b c))) := by
  unfold Gives
  obtain ⟨W1, hW1⟩ : ∃ W1, w.alloc (.cells #[.int .i64 (a : Int), .int .i64 (b : Int)] 30) = W1 := ⟨_, rfl⟩
  have hB : Below w.heap.size w W1 := by rw [← hW1]; exact (by repeat (first | exact Below.refl _ _ | (refine Below.setCell ?_ (by first | omega | (simp; done) | (simp; omega) | (simp at *; omega)) _) | (refine Below.alloc ?_ (by first | omega | (simp; done) | (simp; omega) | (simp at *; omega)) _) | refine Below.drew ?_ | (refine below_drewN ?_ _) | (refine Below.trans ?_ (Below.mono (by assumption) (by first | omega | (simp; done) | (simp; omega) | (simp at *; omega))))))
  have bM : Blk W1 w.heap.size 30 #[.int .i64 (a : Int), .int .i64 (b : Int)] := by rw [← hW1]; exact Blk.new _ _ _ rfl
  have hsz : W1.heap.size = w.heap.size + 1 := by rw [← hW1]; simp
  have hk1 : w.heap.size ≠ W1.heap.size := by omega
  have hk3 : w.heap.size ≤ W1.heap.size := by omega
  have HW := Lib.hid hW1
  clear hsz hW1
  obtain ⟨C, W2, hconv, hcell, hfr, hbel⟩ := bytes_of s W1 hs
  have bM2 := bM.next hbel
  have ca := hcell a ha
  have cb := hcell b hb
  rw [hc] at ca
  have hba : b ≠ a := fun e => hab e.symm
  have fa := hfr a ha
  have fb := hfr b hb
  have m0 : W2.cell? ⟨w.heap.size, 0, none⟩ = some (.int .i64 (a : Int)) := bM2.cell 0
  have m1 : W2.cell? ⟨w.heap.size, 1, none⟩ = some (.int .i64 (b : Int)) := bM2.cell 1
  have ha0 : (0 : Int) ≤ (a : Int) := by omega
  have hb0 : (0 : Int) ≤ (b : Int) := by omega
  have ha9 : (a : Int) < 90 := by omega
  have hb9 : (b : Int) < 90 := by omega
  go_enter Tryd.func58, Tryd.ntmps58
  go_wp2_with fail
  rw [HW.out, hconv]
  go_wp2_with fail
  have hS : W2.drew.cell? ⟨w.heap.size, 0, none⟩ = some (.int .i64 (a : Int)) ∧ W2.drew.cell? ⟨w.heap.size, 1, none⟩ = some (.int .i64 (b : Int)) ∧ W2.drew.cell? ⟨W1.heap.size, a, none⟩ = some (.int .u8 (c : Int)) := ⟨m0, m1, ca⟩
  have cb' : W2.drew.cell? ⟨W1.heap.size, b, none⟩ = some (.int .u8 (bAt s b : Nat)) := cb
  have fb' : W2.drew.frozen? ⟨W1.heap.size, b, none⟩ = false := fb
  go_region_held3 (fun W => W.cell? ⟨w.heap.size, 0, none⟩ = some (.int .i64 (a : Int)) ∧ W.cell? ⟨w.heap.size, 1, none⟩ = some (.int .i64 (b : Int)) ∧ W.cell? ⟨W1.heap.size, a, none⟩ = some (.int .u8 (c : Int)))
    (first | exact hS | exact mv6_set (by assumption) hk1 hab _)
    (fail)
  obtain ⟨W3, hW3⟩ : ∃ W3, (W2.setCell ⟨W1.heap.size, b, none⟩ (.int .u8 (c : Int))).drew = W3 := ⟨_, rfl⟩
  rename_i hh
  rw [hW3] at hh ⊢
  obtain ⟨n0, n1, na⟩ := hh
  have fa3 : W3.frozen? ⟨W1.heap.size, a, none⟩ = false := by rw [← hW3]; simpa using fa
  clear hS cb' fb'
  go_wp2_with fail
  have hback : (convert 70 9 (.slice (some ⟨W1.heap.size, 0, none⟩) 90 C)).run Tryd.prog (W3.setCell ⟨W1.heap.size, a, none⟩ (.int .u8 46)) = .ok (.string (movedS s a b c)) (W3.setCell ⟨W1.heap.size, a, none⟩ (.int .u8 46)) := by
    have hlen : s.data.toList.length = 90 := by simpa using hs
    have hmv : movedS s a b c = ⟨((s.data.toList.set a (UInt8.ofNat 46)).set b (UInt8.ofNat c)).toArray⟩ := by simp [movedS, putS]
    rw [hmv]
    refine string_of (W3.setCell ⟨W1.heap.size, a, none⟩ (.int .u8 46)) W1.heap.size C _ (by rw [List.length_set, List.length_set]; exact hlen) fun i hi => ?_
    have hc256 : c < 256 := by rw [← hc]; exact bAt_lt s a
    by_cases e2 : i = a
    · subst e2
      rw [World.cell?_setCell_same' _ _ _ (by rw [na]; rfl), List.getElem_set_ne hba, List.getElem_set_self]
      rfl
    · rw [World.cell?_setCell_other _ _ _ _ (by intro e; injection e with _ e3; exact e2 e3.symm), ← hW3]
      show World.cell? (W2.setCell ⟨W1.heap.size, b, none⟩ (.int .u8 (c : Int))) _ = _
      by_cases e1 : i = b
      · subst e1
        rw [World.cell?_setCell_same' _ _ _ (by rw [cb]; rfl), List.getElem_set_self, UInt8.toNat_ofNat_of_lt' (by omega)]
      · rw [World.cell?_setCell_other _ _ _ _ (by intro e; injection e with _ e3; exact e1 e3.symm), hcell i hi, List.getElem_set_ne (fun e => e1 e.symm), List.getElem_set_ne (fun e => e2 e.symm), bAt_list]
  have hBf : Below w.heap.size w (W3.setCell ⟨W1.heap.size, a, none⟩ (.int .u8 46)) := by
    rw [← hW3]
    exact (((hB.trans (hbel.mono hB.size)).setCell (p := ⟨W1.heap.size, b, none⟩) hk3 _).drew).setCell (p := ⟨W1.heap.size, a, none⟩) hk3 _
  rw [hback]
  clear hback hW3 hcell hfr hconv
  go_wp2
  go_ret
  exact ⟨rfl, hBf⟩
theorem rmoved_any (s : ByteArray) (a b c : Nat) (t : ByteArray) (w : World) (hs : s.size = 90) (ha : a < 90) (hb : b < 90) (hab : a ≠ b) (hc : bAt s a = c) (ht : movedS s a b c = t) :
    Calls Tryd.prog 58 #[.string s, .agg #[.int .i64 (a : Int), .int .i64 (b : Int)]] w (Gives w (.string t)) := by subst ht; exact rmoved_is s a b c w hs ha hb hab hc
end Go.Proofs.YtbfkkedcjodceaaDoor
