/- What more of the document's plain answers of layer 1 come to: what lies between two bounds; what is shifted. -/
import Derived.Test.YtdfjmchkpoobdaaDoorRef2
namespace Go.Proofs.YtdfjmchkpoobdaaDoor
open Go.RowKit Go.Shelf
open M (S)

attribute [local go_sem ↓] make90 in
set_option maxRecDepth 100000 in
set_option maxHeartbeats 2000000 in
theorem rbetween_any (A : Option Addr) (c : Nat) (p : Nat → Bool) (n m : Int) (w : World) (hp : Rd w A (bl p)) :
    Calls Tryd.prog 32 #[.slice A 90 c, .int .i64 n, .int .i64 m] w (GivesBools w fun i => p i && decide (min n m < (i : Int)) && decide ((i : Int) < max n m)) := by
  obtain ⟨a1, rfl, h1⟩ := rd_at hp
  have H1 := Lib.hid h1
  clear h1 hp
  obtain ⟨r, hr⟩ : ∃ r : Nat → Bool, r = fun i : Nat => p i && decide (min n m < (i : Int)) && decide ((i : Int) < max n m) := ⟨_, rfl⟩
  rw [← hr]
  have Hr := Lib.hid hr
  clear hr
  obtain ⟨lo, hlo⟩ : ∃ lo, min n m = lo := ⟨_, rfl⟩
  obtain ⟨hi, hhi⟩ : ∃ hi, max n m = hi := ⟨_, rfl⟩
  have hcase : (n < m ∧ lo ≤ n ∧ n ≤ lo ∧ hi ≤ m ∧ m ≤ hi) ∨ (n ≤ m ∧ m ≤ n ∧ lo ≤ n ∧ n ≤ lo ∧ hi ≤ m ∧ m ≤ hi) ∨ (m < n ∧ lo ≤ m ∧ m ≤ lo ∧ hi ≤ n ∧ n ≤ hi) := by omega
  rw [hlo, hhi] at Hr
  clear hlo hhi
  rcases hcase with ⟨k1, k2, k3, k4, k5⟩ | ⟨k1, k0, k2, k3, k4, k5⟩ | ⟨k1, k2, k3, k4, k5⟩
  all_goals
    go_enter Tryd.func32, Tryd.ntmps32
    go_wp2
    obtain ⟨W0, hW0⟩ : ∃ W0, w.alloc (.cells (bl fun _ => false).toArray 4) = W0 := ⟨_, rfl⟩
    have b0 : Blk W0 w.heap.size 4 (bl (sofar r 0)).toArray := by rw [← hW0, sofar_zero]; exact Blk.new _ _ _ rfl
    have hB0 : Below w.heap.size w W0 := by rw [← hW0]; exact (by repeat (first | exact Below.refl _ _ | (refine Below.setCell ?_ (by first | omega | (simp; done) | (simp; omega) | (simp at *; omega)) _) | (refine Below.alloc ?_ (by first | omega | (simp; done) | (simp; omega) | (simp at *; omega)) _) | refine Below.drew ?_ | (refine below_drewN ?_ _) | (refine Below.trans ?_ (Below.mono (by assumption) (by first | omega | (simp; done) | (simp; omega) | (simp at *; omega))))))
    rw [hW0]
    clear hW0
    go_loopw [8] (fun i wr => ∃ k : Nat, k ≤ 90 ∧ i = .int .i64 k ∧ Blk wr w.heap.size 4 (bl (sofar r k)).toArray ∧ Below w.heap.size w wr) (fun i _ => 90 - (intOf i).toNat)
    case atStart => exact ⟨0, by omega, rfl, b0, hB0⟩
    case round =>
      obtain ⟨k, hk, rfl, bR, hB⟩ := hrel
      by_cases hlt : k < 90
      · have c0 := bR.cell k
        have f0 := bR.frozen k
        rw [bl_getA _ k hlt] at c0
        have c1 := cell_on hB rfl (H1.out k hlt)
        have hrk := congrFun Hr.out k
        cases hpk : p k
        · rw [hpk] at c1 hrk
          simp only [Bool.false_and] at hrk
          have Hk := Lib.hid (sofar_step r k _ hrk)
          clear hpk hrk
          go_wp2
          go_roundw
          case rel => exact ⟨k + 1, by omega, by go_num, blk_step bR Hk.out, hB.setCell (p := ⟨w.heap.size, k, none⟩) (Nat.le_refl _) _⟩
          case measure => simp [intOf]; omega
        · rw [hpk] at c1 hrk
          simp only [Bool.true_and] at hrk
          clear hpk
          by_cases g1 : lo < (k : Int)
          · rw [decide_eq_true g1, Bool.true_and] at hrk
            have Hrk := Lib.hid hrk
            clear hrk
            go_wp2
            go_roundw
            case rel => exact ⟨k + 1, by omega, by go_num, blk_step bR (sofar_step r k _ (by rw [Hrk.out]; first | (rw [decide_eq_decide]; omega) | (simp; omega))), hB.setCell (p := ⟨w.heap.size, k, none⟩) (Nat.le_refl _) _⟩
            case measure => simp [intOf]; omega
          · rw [decide_eq_false g1, Bool.false_and] at hrk
            have Hk := Lib.hid (sofar_step r k _ hrk)
            clear hrk
            go_wp2
            go_roundw
            case rel => exact ⟨k + 1, by omega, by go_num, blk_step bR Hk.out, hB.setCell (p := ⟨w.heap.size, k, none⟩) (Nat.le_refl _) _⟩
            case measure => simp [intOf]; omega
      · obtain rfl : k = 90 := by omega
        go_wp2
        go_ret
        refine ⟨_, _, rfl, ?_, hB⟩
        rw [sofar_all] at bR
        exact rd_blk bR

/-- The truths that are n further on, of the first k. -/
def shf (p : Nat → Bool) (n : Int) (k i : Nat) : Bool := decide (-1000 < n ∧ n < 1000) && (decide (0 ≤ (i : Int) - n) && (decide ((i : Int) - n < k) && p ((i : Int) - n).toNat))

attribute [local go_sem ↓] make90 in
set_option maxRecDepth 100000 in
set_option maxHeartbeats 2000000 in
theorem rshift_any (A : Option Addr) (c : Nat) (p : Nat → Bool) (n : Int) (w : World) (hp : Rd w A (bl p)) :
    Calls Tryd.prog 30 #[.slice A 90 c, .int .i64 n] w (GivesBools w (shf p n 90)) := by
  obtain ⟨a1, rfl, h1⟩ := rd_at hp
  have H1 := Lib.hid h1
  clear h1 hp
  go_enter Tryd.func30, Tryd.ntmps30
  go_wp2
  obtain ⟨W0, hW0⟩ : ∃ W0, w.alloc (.cells (bl fun _ => false).toArray 4) = W0 := ⟨_, rfl⟩
  have b0 : Blk W0 w.heap.size 4 (bl (shf p n 0)).toArray := by
    rw [← hW0, show bl (shf p n 0) = bl (fun _ => false) from bl_congr fun i _ => by
      unfold shf
      by_cases h : 0 ≤ (i : Int) - n
      · rw [decide_eq_false (p := (i : Int) - n < ((0 : Nat) : Int)) (by omega)]; simp
      · rw [decide_eq_false h]; simp]
    exact Blk.new _ _ _ rfl
  have hB0 : Below w.heap.size w W0 := by rw [← hW0]; exact (by repeat (first | exact Below.refl _ _ | (refine Below.setCell ?_ (by first | omega | (simp; done) | (simp; omega) | (simp at *; omega)) _) | (refine Below.alloc ?_ (by first | omega | (simp; done) | (simp; omega) | (simp at *; omega)) _) | refine Below.drew ?_ | (refine below_drewN ?_ _) | (refine Below.trans ?_ (Below.mono (by assumption) (by first | omega | (simp; done) | (simp; omega) | (simp at *; omega))))))
  rw [hW0]
  clear hW0
  go_loopw [6] (fun i wr => ∃ k : Nat, k ≤ 90 ∧ i = .int .i64 k ∧ Blk wr w.heap.size 4 (bl (shf p n k)).toArray ∧ Below w.heap.size w wr) (fun i _ => 90 - (intOf i).toNat)
  case atStart => exact ⟨0, by omega, rfl, b0, hB0⟩
  case round =>
    obtain ⟨k, hk, rfl, bR, hB⟩ := hrel
    by_cases hlt : k < 90
    · have c1 := cell_on hB rfl (H1.out k hlt)
      -- what the round leaves where it writes nothing
      have skip : (p k = false ∨ ¬ (-1000 < n ∧ n < 1000) ∨ ¬ (0 ≤ (k : Int) + n ∧ (k : Int) + n < 90)) → bl (shf p n k) = bl (shf p n (k + 1)) := fun h => bl_congr fun i hi => by
        unfold shf
        by_cases e : (i : Int) - n = k
        · rw [e, decide_eq_false (p := (k : Int) < (k : Int)) (by omega)]
          rcases h with h | h | h
          · rw [Int.toNat_natCast, h]; simp
          · rw [decide_eq_false h]; simp
          · exfalso; omega
        · have : decide ((i : Int) - n < (k : Int)) = decide ((i : Int) - n < ((k + 1 : Nat) : Int)) := by rw [decide_eq_decide]; omega
          rw [this]
      cases hpk : p k
      · rw [hpk] at c1
        have Hk := Lib.hid (skip (.inl hpk))
        clear hpk skip
        go_wp2
        go_roundw
        case rel => exact ⟨k + 1, by omega, by go_num, by rw [← Hk.out]; exact bR, hB⟩
        case measure => simp [intOf]; omega
      · rw [hpk] at c1
        by_cases g1 : -1000 < n
        · by_cases g2 : n < 1000
          · by_cases g3 : 0 ≤ (k : Int) + n ∧ (k : Int) + n < 90
            · have hb1 := g3.1
              have hb2 := g3.2
              have c0 := bR.cell ((k : Int) + n).toNat
              have f0 := bR.frozen ((k : Int) + n).toNat
              rw [bl_getA _ _ (by omega)] at c0
              have hsq : sqB ((k : Int) + n) = true := by unfold sqB; rw [decide_eq_true g3.1, decide_eq_true g3.2]; rfl
              have Hk : Hid ((bl (shf p n k)).toArray.setIfInBounds ((k : Int) + n).toNat (.bool true) = (bl (shf p n (k + 1))).toArray) := by
                show _ = _
                rw [bl_set]
                congr 1
                apply bl_congr
                intro i hi
                unfold shf
                by_cases e : i = ((k : Int) + n).toNat
                · have e' : (i : Int) - n = k := by omega
                  rw [if_pos e, e', Int.toNat_natCast, hpk, decide_eq_true (p := -1000 < n ∧ n < 1000) ⟨g1, g2⟩, decide_eq_true (p := (0 : Int) ≤ (k : Int)) (by omega), decide_eq_true (p := (k : Int) < ((k + 1 : Nat) : Int)) (by omega)]
                  rfl
                · rw [if_neg e]
                  have : decide ((i : Int) - n < (k : Int)) = decide ((i : Int) - n < ((k + 1 : Nat) : Int)) := by rw [decide_eq_decide]; omega
                  rw [this]
              have Hsq := Lib.hid hsq
              clear hpk skip hsq
              go_wp2_with (go_at_call 19; refine (square_any _ _).mono ?_; rintro e w' ⟨rfl, rfl⟩; rw [Hsq.out])
              go_roundw
              case rel => exact ⟨k + 1, by omega, by go_num, by have h := bR.set_ ((k : Int) + n).toNat (.bool true); rw [Hk.out] at h; exact h, hB.setCell (p := ⟨w.heap.size, ((k : Int) + n).toNat, none⟩) (Nat.le_refl _) _⟩
              case measure => simp [intOf]; omega
            · have hsq : sqB ((k : Int) + n) = false := by
                unfold sqB
                by_cases h : 0 ≤ (k : Int) + n
                · rw [decide_eq_false (p := (k : Int) + n < 90) (by omega)]; simp
                · rw [decide_eq_false h]; simp
              have Hk := Lib.hid (skip (.inr (.inr g3)))
              have Hsq := Lib.hid hsq
              clear hpk skip hsq g3
              go_wp2_with (go_at_call 19; refine (square_any _ _).mono ?_; rintro e w' ⟨rfl, rfl⟩; rw [Hsq.out])
              go_roundw
              case rel => exact ⟨k + 1, by omega, by go_num, by rw [← Hk.out]; exact bR, hB⟩
              case measure => simp [intOf]; omega
          · have Hk := Lib.hid (skip (.inr (.inl (by omega))))
            clear hpk skip
            go_wp2
            go_roundw
            case rel => exact ⟨k + 1, by omega, by go_num, by rw [← Hk.out]; exact bR, hB⟩
            case measure => simp [intOf]; omega
        · have Hk := Lib.hid (skip (.inr (.inl (by omega))))
          clear hpk skip
          go_wp2
          go_roundw
          case rel => exact ⟨k + 1, by omega, by go_num, by rw [← Hk.out]; exact bR, hB⟩
          case measure => simp [intOf]; omega
    · obtain rfl : k = 90 := by omega
      go_wp2
      go_ret
      exact ⟨_, _, rfl, rd_blk bR, hB⟩
end Go.Proofs.YtdfjmchkpoobdaaDoor
