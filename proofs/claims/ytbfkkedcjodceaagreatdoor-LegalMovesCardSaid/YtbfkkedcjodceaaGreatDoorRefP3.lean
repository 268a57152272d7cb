/- What the document's plain Check of layer 3 comes to; a position from the other side. -/
import Derived.Test.YtbfkkedcjodceaaGreatDoorRefP2
namespace Go.Proofs.YtbfkkedcjodceaaGreatDoor
open Go.RowKit Go.Shelf
open M (S)

def lettersL : List Nat := [75, 65, 66, 78, 82, 67, 80, 107, 97, 98, 110, 114, 99, 112]
def lettersS : ByteArray := ⟨#[75, 65, 66, 78, 82, 67, 80, 107, 97, 98, 110, 114, 99, 112]⟩
theorem lettersS_at : ∀ j : Fin 14, bAt lettersS j.val = lettersL.getD j.val 0 := by decide +kernel
theorem letters_in : ∀ j : Fin 14, lettersL.getD j.val 0 ∈ lettersL := by decide +kernel
/-- The count of one letter is what it may be. -/
def okL (s : ByteArray) (c : Nat) : Bool := decide (cntN s 90 c ≤ mostN c) && (kindN c != 75 || cntN s 90 c == 1)
theorem letters_counts (s : ByteArray) : lettersL.all (okL s) = countsB s 90 := by
  unfold lettersL countsB kindsL okL fewB
  simp only [List.all_cons, List.all_nil, Bool.and_true]
  rw [show mostN 75 = 1 from rfl, show mostN 65 = 2 from rfl, show mostN 66 = 2 from rfl, show mostN 78 = 2 from rfl, show mostN 82 = 2 from rfl, show mostN 67 = 2 from rfl, show mostN 80 = 5 from rfl,
    show mostN 107 = 1 from rfl, show mostN 97 = 2 from rfl, show mostN 98 = 2 from rfl, show mostN 110 = 2 from rfl, show mostN 114 = 2 from rfl, show mostN 99 = 2 from rfl, show mostN 112 = 5 from rfl,
    show kindN 75 = 75 from rfl, show kindN 65 = 65 from rfl, show kindN 66 = 66 from rfl, show kindN 78 = 78 from rfl, show kindN 82 = 82 from rfl, show kindN 67 = 67 from rfl, show kindN 80 = 80 from rfl,
    show kindN 107 = 75 from rfl, show kindN 97 = 65 from rfl, show kindN 98 = 66 from rfl, show kindN 110 = 78 from rfl, show kindN 114 = 82 from rfl, show kindN 99 = 67 from rfl, show kindN 112 = 80 from rfl]
  generalize cntN s 90 75 = a1
  generalize cntN s 90 65 = a2
  generalize cntN s 90 66 = a3
  generalize cntN s 90 78 = a4
  generalize cntN s 90 82 = a5
  generalize cntN s 90 67 = a6
  generalize cntN s 90 80 = a7
  rw [show cntN s 90 (75 + 32) = cntN s 90 107 from rfl, show cntN s 90 (65 + 32) = cntN s 90 97 from rfl, show cntN s 90 (66 + 32) = cntN s 90 98 from rfl, show cntN s 90 (78 + 32) = cntN s 90 110 from rfl, show cntN s 90 (82 + 32) = cntN s 90 114 from rfl, show cntN s 90 (67 + 32) = cntN s 90 99 from rfl, show cntN s 90 (80 + 32) = cntN s 90 112 from rfl]
  generalize cntN s 90 107 = b1
  generalize cntN s 90 97 = b2
  generalize cntN s 90 98 = b3
  generalize cntN s 90 110 = b4
  generalize cntN s 90 114 = b5
  generalize cntN s 90 99 = b6
  generalize cntN s 90 112 = b7
  rw [show ((75 : Nat) != 75) = false from rfl, show ((65 : Nat) != 75) = true from rfl, show ((66 : Nat) != 75) = true from rfl, show ((78 : Nat) != 75) = true from rfl, show ((82 : Nat) != 75) = true from rfl, show ((67 : Nat) != 75) = true from rfl, show ((80 : Nat) != 75) = true from rfl, Bool.eq_iff_iff]
  simp only [Bool.true_or, Bool.false_or, Bool.and_true, Bool.and_eq_true, decide_eq_true_eq, beq_iff_eq]
  constructor
  · intro h
    omega
  · intro h
    omega
theorem letters_no {s : ByteArray} {c : Nat} (hc : c ∈ lettersL) (h : okL s c = false) : countsB s 90 = false := by
  rw [← letters_counts, List.all_eq_false.2 ⟨c, hc, by simp [h]⟩]
theorem letters_yes {s : ByteArray} (h : ∀ j, j < 14 → okL s (lettersL.getD j 0) = true) : countsB s 90 = true := by
  rw [← letters_counts, List.all_eq_true]
  intro c hc
  simp only [lettersL, List.mem_cons, List.not_mem_nil, or_false] at hc
  rcases hc with rfl | rfl | rfl | rfl | rfl | rfl | rfl | rfl | rfl | rfl | rfl | rfl | rfl | rfl
  · exact h 0 (by decide)
  · exact h 1 (by decide)
  · exact h 2 (by decide)
  · exact h 3 (by decide)
  · exact h 4 (by decide)
  · exact h 5 (by decide)
  · exact h 6 (by decide)
  · exact h 7 (by decide)
  · exact h 8 (by decide)
  · exact h 9 (by decide)
  · exact h 10 (by decide)
  · exact h 11 (by decide)
  · exact h 12 (by decide)
  · exact h 13 (by decide)
theorem find_cnt {s : ByteArray} (h : isB s = true) (c : Nat) : (findL s c).length = cntN s 90 c := by
  unfold findL cntN
  rw [h]
  rfl
theorem fill_kind {c : Nat} (h : fillB c = true) : (kindN c == 0) = (c == 46) := by
  rcases byte_cases c with ⟨kb, kr, _⟩ | rfl | rfl | rfl | rfl | rfl | rfl | rfl | rfl | rfl | rfl | rfl | rfl | rfl | rfl
  · have h1 : c = 46 := by simpa [fillB, kb, kr] using h
    subst h1
    rfl
  all_goals rfl
theorem pos_keep {w : World} {g : Nat} {s : ByteArray} {W W' : World} (h : W.cell? ⟨g, 0, none⟩ = some (.string s) ∧ Below w.heap.size w W) (hb : Below W.heap.size W W') :
    W'.cell? ⟨g, 0, none⟩ = some (.string s) ∧ Below w.heap.size w W' := by
  obtain ⟨h0, h2⟩ := h
  have hg : g < W.heap.size := World.block_lt_of_cell? _ _ h0
  exact ⟨(hb.cell (p := ⟨g, 0, none⟩) hg).trans h0, h2.trans (hb.mono h2.size)⟩
theorem rfind_is (s : ByteArray) (c n : Nat) (w : World) (hn : (findL s c).length = n) : Calls Tryz.prog 73 #[.string s, .int .u8 (c : Int)] w (GivesN w (findL s c) n) := by subst hn; exact rfind_any s c w
theorem ris_is (s : ByteArray) (b : Bool) (w : World) (h : isB s = b) : Calls Tryz.prog 72 #[.string s] w (Says w (.bool b)) := by subst h; exact ris_any s w
set_option maxRecDepth 100000 in
set_option maxHeartbeats 4000000 in
theorem rcheck_bad (s : ByteArray) (side clock full : Int) (w : World) (h : isB s = false ∨ (isB s = true ∧ (side < 0 ∨ (0 ≤ side ∧ 1 < side) ∨ (0 ≤ side ∧ side ≤ 1 ∧ clock < 0) ∨ (0 ≤ side ∧ side ≤ 1 ∧ 0 ≤ clock ∧ 120 < clock) ∨ (0 ≤ side ∧ side ≤ 1 ∧ 0 ≤ clock ∧ clock ≤ 120 ∧ full < 1) ∨ (0 ≤ side ∧ side ≤ 1 ∧ 0 ≤ clock ∧ clock ≤ 120 ∧ 1 ≤ full ∧ 9999 < full)))) :
    Calls Tryz.prog 40 #[.agg #[.string s, .int .i64 side, .int .i64 clock, .int .i64 full]] w (Gives w (.int .i64 1)) := by
  unfold Gives
  rcases h with hb | ⟨hb, h⟩
  · have B := Lib.hid hb
    clear hb
    go_enter Tryz.func40, Tryz.ntmps40
    go_wp2_with fail
    refine (ris_is s false _ B.out).mono ?_
    rintro e w1 ⟨rfl, rfl⟩
    go_wp2
    go_ret
    exact ⟨rfl, (by repeat (first | exact Below.refl _ _ | (refine Below.setCell ?_ (by first | omega | (simp; done) | (simp; omega) | (simp at *; omega)) _) | (refine Below.alloc ?_ (by first | omega | (simp; done) | (simp; omega) | (simp at *; omega)) _) | refine Below.drew ?_ | (refine below_drewN ?_ _) | (refine Below.trans ?_ (Below.mono (by assumption) (by first | omega | (simp; done) | (simp; omega) | (simp at *; omega))))))⟩
  · have B := Lib.hid hb
    clear hb
    rcases h with h | ⟨h1, h2⟩ | ⟨h1, h2, h3⟩ | ⟨h1, h2, h3, h4⟩ | ⟨h1, h2, h3, h4, h5⟩ | ⟨h1, h2, h3, h4, h5, h6⟩
    all_goals
      go_enter Tryz.func40, Tryz.ntmps40
      go_wp2_with fail
      refine (ris_is s true _ B.out).mono ?_
      rintro e w1 ⟨rfl, rfl⟩
      go_wp2
      go_ret
      exact ⟨rfl, (by repeat (first | exact Below.refl _ _ | (refine Below.setCell ?_ (by first | omega | (simp; done) | (simp; omega) | (simp at *; omega)) _) | (refine Below.alloc ?_ (by first | omega | (simp; done) | (simp; omega) | (simp at *; omega)) _) | refine Below.drew ?_ | (refine below_drewN ?_ _) | (refine Below.trans ?_ (Below.mono (by assumption) (by first | omega | (simp; done) | (simp; omega) | (simp at *; omega))))))⟩
end Go.Proofs.YtbfkkedcjodceaaGreatDoor
