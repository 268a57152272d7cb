/- Merged: RefP1 RefP2 RefP3 RefP4. -/
import Derived.Test.YtmmomgaijgpmmaaGreatDoorPlaceM

namespace Go.Proofs.YtmmomgaijgpmmaaGreatDoor
open Go.RowKit Go.Shelf
open M (S)

def advR (f r : Int) : Bool := (f == 4 && r == 1) || ((f == 3 || f == 5) && (r == 0 || r == 2))
theorem spot_fin : ∀ f : Fin 9, ∀ r : Fin 10, advR (f.val : Int) (r.val : Int) = advP (f.val : Int) (r.val : Int) ∧ advP (8 - (f.val : Int)) (r.val : Int) = advP (f.val : Int) (r.val : Int) ∧ eleP (8 - (f.val : Int)) (r.val : Int) = eleP (f.val : Int) (r.val : Int) ∧
    pawnP (8 - (f.val : Int)) (r.val : Int) = pawnP (f.val : Int) (r.val : Int) ∧ inP (8 - (f.val : Int)) (r.val : Int) = inP (f.val : Int) (r.val : Int) := by decide +kernel
theorem spot_all {f r : Int} (h0 : 0 ≤ f) (h1 : f ≤ 8) (h2 : 0 ≤ r) (h3 : r ≤ 9) : advR f r = advP f r ∧ advP (8 - f) r = advP f r ∧ eleP (8 - f) r = eleP f r ∧ pawnP (8 - f) r = pawnP f r ∧ inP (8 - f) r = inP f r := by
  have h := spot_fin ⟨f.toNat, by omega⟩ ⟨r.toNat, by omega⟩
  simp only [Int.toNat_of_nonneg h0, Int.toNat_of_nonneg h2] at h
  exact h
theorem kind_back (k : Nat) {f r : Int} (h0 : 0 ≤ f) (h1 : f ≤ 8) (h2 : 0 ≤ r) (h3 : r ≤ 9) : kindP k (8 - f) r = kindP k f r := by
  obtain ⟨_, a, b, c, d⟩ := spot_all h0 h1 h2 h3
  unfold kindP
  rw [a, b, c, d]
/-- The rank, counted from a side's own. -/
def ownI (n side : Int) : Int := if side = 1 then 9 - rankI n else rankI n
theorem own_seen {n side : Int} (h : 0 ≤ n ∧ n < 90) : ownI n side = seenR n side := by
  unfold ownI seenR rankI
  rw [if_pos h]
theorem inP_seen {n side : Int} (h : 0 ≤ n ∧ n < 90) : inP (n % 9) (seenR n side) = inP (seenF n side) (seenR n side) := by
  have hb := seen_in (side := side) h
  unfold seenF
  split
  · rw [(spot_all (by omega) (by omega) hb.2.2.1 hb.2.2.2).2.2.2.2]
  · rfl
theorem kindP_seen (k : Nat) {n side : Int} (h : 0 ≤ n ∧ n < 90) : kindP k (n % 9) (seenR n side) = kindP k (seenF n side) (seenR n side) := by
  have hb := seen_in (side := side) h
  unfold seenF
  split
  · rw [kind_back k (by omega) (by omega) hb.2.2.1 hb.2.2.2]
  · rfl

end Go.Proofs.YtmmomgaijgpmmaaGreatDoor

namespace Go.Proofs.YtmmomgaijgpmmaaGreatDoor
open Go.RowKit Go.Shelf
open M (S)

end Go.Proofs.YtmmomgaijgpmmaaGreatDoor

namespace Go.Proofs.YtmmomgaijgpmmaaGreatDoor
open Go.RowKit Go.Shelf
open M (S)

def lettersL : List Nat := [75, 65, 66, 78, 82, 67, 80, 107, 97, 98, 110, 114, 99, 112]
def lettersS : ByteArray := ⟨#[75, 65, 66, 78, 82, 67, 80, 107, 97, 98, 110, 114, 99, 112]⟩
theorem lettersS_at : ∀ j : Fin 14, bAt lettersS j.val = lettersL.getD j.val 0 := by decide +kernel
theorem letters_in : ∀ j : Fin 14, lettersL.getD j.val 0 ∈ lettersL := by decide +kernel
/-- The count of one letter is what it may be. -/
def okL (s : ByteArray) (c : Nat) : Bool := decide (cntN s 90 c ≤ mostN c) && (kindN c != 75 || cntN s 90 c == 1)
theorem letters_counts (s : ByteArray) : lettersL.all (okL s) = countsB s 90 := by
  unfold lettersL countsB kindsL okL fewB
  simp only [List.all_cons, List.all_nil, Bool.and_true]
  rw [show mostN 75 = 1 from rfl, show mostN 65 = 2 from rfl, show mostN 66 = 2 from rfl, show mostN 78 = 2 from rfl, show mostN 82 = 2 from rfl, show mostN 67 = 2 from rfl, show mostN 80 = 5 from rfl,
    show mostN 107 = 1 from rfl, show mostN 97 = 2 from rfl, show mostN 98 = 2 from rfl, show mostN 110 = 2 from rfl, show mostN 114 = 2 from rfl, show mostN 99 = 2 from rfl, show mostN 112 = 5 from rfl,
    show kindN 75 = 75 from rfl, show kindN 65 = 65 from rfl, show kindN 66 = 66 from rfl, show kindN 78 = 78 from rfl, show kindN 82 = 82 from rfl, show kindN 67 = 67 from rfl, show kindN 80 = 80 from rfl,
    show kindN 107 = 75 from rfl, show kindN 97 = 65 from rfl, show kindN 98 = 66 from rfl, show kindN 110 = 78 from rfl, show kindN 114 = 82 from rfl, show kindN 99 = 67 from rfl, show kindN 112 = 80 from rfl]
  generalize cntN s 90 75 = a1
  generalize cntN s 90 65 = a2
  generalize cntN s 90 66 = a3
  generalize cntN s 90 78 = a4
  generalize cntN s 90 82 = a5
  generalize cntN s 90 67 = a6
  generalize cntN s 90 80 = a7
  rw [show cntN s 90 (75 + 32) = cntN s 90 107 from rfl, show cntN s 90 (65 + 32) = cntN s 90 97 from rfl, show cntN s 90 (66 + 32) = cntN s 90 98 from rfl, show cntN s 90 (78 + 32) = cntN s 90 110 from rfl, show cntN s 90 (82 + 32) = cntN s 90 114 from rfl, show cntN s 90 (67 + 32) = cntN s 90 99 from rfl, show cntN s 90 (80 + 32) = cntN s 90 112 from rfl]
  generalize cntN s 90 107 = b1
  generalize cntN s 90 97 = b2
  generalize cntN s 90 98 = b3
  generalize cntN s 90 110 = b4
  generalize cntN s 90 114 = b5
  generalize cntN s 90 99 = b6
  generalize cntN s 90 112 = b7
  rw [show ((75 : Nat) != 75) = false from rfl, show ((65 : Nat) != 75) = true from rfl, show ((66 : Nat) != 75) = true from rfl, show ((78 : Nat) != 75) = true from rfl, show ((82 : Nat) != 75) = true from rfl, show ((67 : Nat) != 75) = true from rfl, show ((80 : Nat) != 75) = true from rfl, Bool.eq_iff_iff]
  simp only [Bool.true_or, Bool.false_or, Bool.and_true, Bool.and_eq_true, decide_eq_true_eq, beq_iff_eq]
  constructor
  · intro h
    omega
  · intro h
    omega
theorem letters_no {s : ByteArray} {c : Nat} (hc : c ∈ lettersL) (h : okL s c = false) : countsB s 90 = false := by
  rw [← letters_counts, List.all_eq_false.2 ⟨c, hc, by simp [h]⟩]
theorem letters_yes {s : ByteArray} (h : ∀ j, j < 14 → okL s (lettersL.getD j 0) = true) : countsB s 90 = true := by
  rw [← letters_counts, List.all_eq_true]
  intro c hc
  simp only [lettersL, List.mem_cons, List.not_mem_nil, or_false] at hc
  rcases hc with rfl | rfl | rfl | rfl | rfl | rfl | rfl | rfl | rfl | rfl | rfl | rfl | rfl | rfl
  · exact h 0 (by decide)
  · exact h 1 (by decide)
  · exact h 2 (by decide)
  · exact h 3 (by decide)
  · exact h 4 (by decide)
  · exact h 5 (by decide)
  · exact h 6 (by decide)
  · exact h 7 (by decide)
  · exact h 8 (by decide)
  · exact h 9 (by decide)
  · exact h 10 (by decide)
  · exact h 11 (by decide)
  · exact h 12 (by decide)
  · exact h 13 (by decide)
theorem find_cnt {s : ByteArray} (h : isB s = true) (c : Nat) : (findL s c).length = cntN s 90 c := by
  unfold findL cntN
  rw [h]
  rfl
theorem fill_kind {c : Nat} (h : fillB c = true) : (kindN c == 0) = (c == 46) := by
  rcases byte_cases c with ⟨kb, kr, _⟩ | rfl | rfl | rfl | rfl | rfl | rfl | rfl | rfl | rfl | rfl | rfl | rfl | rfl | rfl
  · have h1 : c = 46 := by simpa [fillB, kb, kr] using h
    subst h1
    rfl
  all_goals rfl
theorem pos_keep {w : World} {g : Nat} {s : ByteArray} {W W' : World} (h : W.cell? ⟨g, 0, none⟩ = some (.string s) ∧ Below w.heap.size w W) (hb : Below W.heap.size W W') :
    W'.cell? ⟨g, 0, none⟩ = some (.string s) ∧ Below w.heap.size w W' := by
  obtain ⟨h0, h2⟩ := h
  have hg : g < W.heap.size := World.block_lt_of_cell? _ _ h0
  exact ⟨(hb.cell (p := ⟨g, 0, none⟩) hg).trans h0, h2.trans (hb.mono h2.size)⟩
end Go.Proofs.YtmmomgaijgpmmaaGreatDoor

namespace Go.Proofs.YtmmomgaijgpmmaaGreatDoor
open Go.RowKit Go.Shelf
open M (S)

end Go.Proofs.YtmmomgaijgpmmaaGreatDoor
