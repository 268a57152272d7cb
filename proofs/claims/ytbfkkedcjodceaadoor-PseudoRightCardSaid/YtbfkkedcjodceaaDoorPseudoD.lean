/- What pseudo's Moves and Captures answer, for every position. -/
import Derived.Test.YtbfkkedcjodceaaDoorPseudoC
namespace Go.Proofs.YtbfkkedcjodceaaDoor
open Go.RowKit Go.Shelf
open M (S)

theorem goQ_moves {s : ByteArray} {side : Int} {q : Nat → Bool} {a : Nat} (h : sideN (bAt s a) = side) : goQ s q a = (movesOf s side a).filter fun m => q m.2 := by
  have h1 : (finL fun b => canB s a b).map Fin.val = reachN s a := by
    unfold finL reachN
    rw [← (show (List.finRange 90).map Fin.val = List.range 90 by decide +kernel), List.filter_map]
    rfl
  unfold goQ movesOf
  rw [if_pos h, ← h1, List.filter_map, List.filter_map, List.map_map]
  rfl
theorem flat_filter {f : Nat → List (Nat × Nat)} {p : Nat → Bool} {r : Nat × Nat → Bool} {g : Nat → List (Nat × Nat)} (h1 : ∀ a, p a = true → g a = (f a).filter r) (h2 : ∀ a, p a = false → f a = []) : ∀ l : List Nat, (l.filter p).flatMap g = (l.flatMap f).filter r
  | [] => rfl
  | a :: l => by
    rw [List.flatMap_cons, List.filter_append, List.filter_cons, ← flat_filter h1 h2 l]
    cases e : p a
    · rw [if_neg (by simp), h2 a e]
      rfl
    · rw [if_pos rfl, List.flatMap_cons, h1 a e]
theorem of_side6 {c : Nat} {side : Int} (h : 0 ≤ side) : ofSide c side = (sideN c == side) := by
  unfold ofSide
  by_cases e : c = 46
  · subst e
    rw [show sideN 46 = -1 from rfl, show ((-1 : Int) == side) = false by rw [beq_eq_false_iff_ne]; omega]
    rfl
  · rw [show (c != 46) = true by rw [bne_iff_ne]; exact e, Bool.true_and]
theorem preQ_all {s : ByteArray} {side : Int} {q : Nat → Bool} (h0 : 0 ≤ side) : preQ s side q (piecesN s side).length = (movesN s side).filter fun m => q m.2 := by
  unfold preQ
  rw [List.take_of_length_le (Nat.le_refl _)]
  unfold piecesN movesN
  refine flat_filter (fun a ha => ?_) (fun a ha => ?_) _
  · rw [of_side6 h0, beq_iff_eq] at ha
    exact goQ_moves ha
  · rw [of_side6 h0, beq_eq_false_iff_ne] at ha
    exact movesOf_no ha
/-- What Captures answers. -/
def capsV (s : ByteArray) (side clock full : Int) : List (Nat × Nat) := (movesV s side clock full).filter fun m => bAt s m.2 != 46
theorem check_side {s : ByteArray} {side clock full : Int} (h : checkN s side clock full = 0) : side = 0 ∨ side = 1 := by
  have hp := (check_zero (s := s) (side := side) (clock := clock) (full := full) (by rw [h]; rfl)).1
  simp only [partsB, Bool.and_eq_true, Bool.or_eq_true, beq_iff_eq, decide_eq_true_eq] at hp
  exact hp.1.1.1.1.2
theorem true1_any (W : World) (x : Fin 90) : FnGives Tryd.prog 51 #[] #[fqv x] (.bool true) W := by
  show Calls Tryd.prog 51 #[.int .i64 (x.val : Int)] W _
  go_enter Tryd.func51, Tryd.ntmps51
  go_wp2
  go_ret
  exact ⟨rfl, 0, rfl⟩
set_option maxHeartbeats 1000000 in
theorem moves_own (s : ByteArray) (side clock full : Int) (l : List (Nat × Nat)) (n : Nat) (w : World) (hT : Tab w) (h : movesV s side clock full = l) (hn : l.length = n) : Calls Tryd.prog 18 #[.agg #[.string s, .int .i64 side, .int .i64 clock, .int .i64 full]] w (OwnM w l n) := by
  have eg : ∀ args w, (callFunc 51 args).run Tryd.prog w = .ok (.enter 51 args) w := enters_of Tryd.func51 (by kernel_rfl) rfl
  have G : Hid (∀ W, Below w.heap.size w W → Calls Tryd.prog 50 #[.agg #[.string s, .int .i64 side, .int .i64 clock, .int .i64 full], .func (.func 51) #[] #[]] W (OwnM W l n)) := by
    show ∀ W, _
    intro W hb
    by_cases hc : checkN s side clock full = 0
    · have hs := check_side hc
      have hl : preQ s side (fun _ => true) (piecesN s side).length = l := by
        rw [preQ_all (by omega), ← h, movesV, if_pos hc]
        exact List.filter_eq_self.2 fun _ _ => rfl
      have := gathered_yes s side clock full (fun _ => true) 51 #[] eg W (hT.next hb) (fun W' x _ => true1_any W' x) hc _ rfl
      rw [hl, hn] at this
      exact this
    · have hl : l = [] := by rw [← h, movesV, if_neg hc]
      subst hl
      have hn0 : n = 0 := by rw [← hn]; rfl
      subst hn0
      exact gathered_no s side clock full _ _ W rfl (by rw [bne_iff_ne]; omega)
  clear h hn hT eg
  go_enter Tryd.func18, Tryd.ntmps18
  go_wp2_with fail
  refine (G.out _ (by repeat (first | exact Below.refl _ _ | (refine Below.setCell ?_ (by first | omega | (simp; done) | (simp; omega) | (simp at *; omega)) _) | (refine Below.alloc ?_ (by first | omega | (simp; done) | (simp; omega) | (simp at *; omega)) _) | refine Below.drew ?_ | (refine below_drewN ?_ _) | (refine Below.trans ?_ (Below.mono (by assumption) (by first | omega | (simp; done) | (simp; omega) | (simp at *; omega))))))).mono ?_
  rintro e w1 ⟨v, rfl, ho, hb⟩
  go_wp2
  go_ret
  exact ⟨v, rfl, own_mono ho (by simp), below_made hb⟩
theorem moves_is (s : ByteArray) (side clock full : Int) (l : List (Nat × Nat)) (n : Nat) (w : World) (hT : Tab w) (h : movesV s side clock full = l) (hn : l.length = n) : Calls Tryd.prog 18 #[.agg #[.string s, .int .i64 side, .int .i64 clock, .int .i64 full]] w (GivesM w l n) := (moves_own s side clock full l n w hT h hn).mono fun _ _ h => h.gives
theorem caps1_any (s : ByteArray) (k g : Nat) (W : World) (hk : k < s.size) (c0 : W.cell? ⟨g, 0, none⟩ = some (.string s)) :
    Calls Tryd.prog 53 #[.int .i64 (k : Int), .pointer (some ⟨g, 0, none⟩)] W fun e w' => e = .returned (.bool (bAt s k != 46)) ∧ ∃ q, w' = W.drewN q := by
  obtain ⟨c, hc⟩ : ∃ c, bAt s k = c := ⟨_, rfl⟩
  have hbk : s[k].toNat = c := (bAt_eq s k hk).trans hc
  have K : Hid ((bAt s k != 46) = ((c : Int) != 46)) := by
    show _ = _
    rw [hc, Bool.eq_iff_iff, bne_iff_ne, bne_iff_ne]
    omega
  clear hc
  go_enter Tryd.func53, Tryd.ntmps53
  go_wp2_with fail
  first
    | (go_quiet (fail); go_wp2; go_ret; exact ⟨by rw [K.out]; rfl, nq, rfl⟩)
    | (go_wp2; go_ret; exact ⟨by rw [K.out]; rfl, 0, rfl⟩)
set_option maxHeartbeats 1000000 in
theorem caps_own (s : ByteArray) (side clock full : Int) (l : List (Nat × Nat)) (n : Nat) (w : World) (hT : Tab w) (h : capsV s side clock full = l) (hn : l.length = n) : Calls Tryd.prog 20 #[.agg #[.string s, .int .i64 side, .int .i64 clock, .int .i64 full]] w (OwnM w l n) := by
  have eg : ∀ args w, (callFunc 53 args).run Tryd.prog w = .ok (.enter 53 args) w := enters_of Tryd.func53 (by kernel_rfl) rfl
  have G : Hid (Calls Tryd.prog 50 #[.agg #[.string s, .int .i64 side, .int .i64 clock, .int .i64 full], .func (.func 53) #[] #[.pointer (some ⟨w.heap.size, 0, none⟩)]] (w.alloc (.cells #[.string s, .int .i64 side, .int .i64 clock, .int .i64 full] 23)) (OwnM (w.alloc (.cells #[.string s, .int .i64 side, .int .i64 clock, .int .i64 full] 23)) l n)) := by
    obtain ⟨W0, hW0⟩ : ∃ W0, w.alloc (.cells #[.string s, .int .i64 side, .int .i64 clock, .int .i64 full] 23) = W0 := ⟨_, rfl⟩
    have hB : Below w.heap.size w W0 := by rw [← hW0]; exact (by repeat (first | exact Below.refl _ _ | (refine Below.setCell ?_ (by first | omega | (simp; done) | (simp; omega) | (simp at *; omega)) _) | (refine Below.alloc ?_ (by first | omega | (simp; done) | (simp; omega) | (simp at *; omega)) _) | refine Below.drew ?_ | (refine below_drewN ?_ _) | (refine Below.trans ?_ (Below.mono (by assumption) (by first | omega | (simp; done) | (simp; omega) | (simp at *; omega))))))
    have bA : Blk W0 w.heap.size 23 #[.string s, .int .i64 side, .int .i64 clock, .int .i64 full] := by rw [← hW0]; exact Blk.new _ _ _ rfl
    show Calls _ _ _ _ _
    rw [hW0]
    clear hW0
    by_cases hc : checkN s side clock full = 0
    · have hs := check_side hc
      have hz := check_size hc
      have hl : preQ s side (fun k => bAt s k != 46) (piecesN s side).length = l := by
        rw [preQ_all (by omega), ← h, capsV, movesV, if_pos hc]
      have := gathered_yes s side clock full (fun k => bAt s k != 46) 53 #[.pointer (some ⟨w.heap.size, 0, none⟩)] eg W0 (hT.next hB) (fun W' x hb => caps1_any s x.val w.heap.size W' (by omega) ((bA.next hb).cell 0)) hc _ rfl
      rw [hl, hn] at this
      exact this
    · have hl : l = [] := by rw [← h, capsV, movesV, if_neg hc]; rfl
      subst hl
      have hn0 : n = 0 := by rw [← hn]; rfl
      subst hn0
      exact gathered_no s side clock full _ _ W0 rfl (by rw [bne_iff_ne]; omega)
  clear h hn hT eg
  go_enter Tryd.func20, Tryd.ntmps20
  go_wp2_with fail
  refine G.out.mono ?_
  rintro e w1 ⟨v, rfl, ho, hb⟩
  go_wp2
  go_ret
  exact ⟨v, rfl, own_mono ho (by simp), below_made hb⟩
theorem caps_is (s : ByteArray) (side clock full : Int) (l : List (Nat × Nat)) (n : Nat) (w : World) (hT : Tab w) (h : capsV s side clock full = l) (hn : l.length = n) : Calls Tryd.prog 20 #[.agg #[.string s, .int .i64 side, .int .i64 clock, .int .i64 full]] w (GivesM w l n) := (caps_own s side clock full l n w hT h hn).mono fun _ _ h => h.gives
end Go.Proofs.YtbfkkedcjodceaaDoor
