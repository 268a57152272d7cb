/- What more of the document's plain answers of layer 1 come to. -/
import Derived.Test.YtdfjmchkpoobdaaDoorRef1
namespace Go.Proofs.YtdfjmchkpoobdaaDoor
open Go.RowKit Go.Shelf
open M (S)

theorem rd_at {w : World} {A : Option Addr} {p : Nat → Bool} (hr : Rd w A (bl p)) : ∃ ad, A = some ad ∧ ∀ i, i < 90 → w.cell? (ad.add i) = some (.bool (p i)) := by
  obtain ⟨ad, rfl, _⟩ := hr 0 _ (bl_get p 0 (by decide))
  refine ⟨ad, rfl, fun i hi => ?_⟩
  obtain ⟨ad', e, h⟩ := hr i _ (bl_get p i hi)
  cases e
  exact h
theorem cell_on {w W : World} {B : Nat} {a : Addr} {u : Value} (hB : Below B w W) (hw : w.heap.size = B) (h : w.cell? a = some u) : W.cell? a = some u := (hB.cell (by rw [← hw]; exact cell_lt h)).trans h

/-- The truths so far: those of r below k, none behind. -/
def sofar (r : Nat → Bool) (k i : Nat) : Bool := decide (i < k) && r i
theorem sofar_zero (r : Nat → Bool) : bl (sofar r 0) = bl fun _ => false := bl_congr fun i _ => by simp [sofar]
theorem sofar_all (r : Nat → Bool) : bl (sofar r 90) = bl r := bl_congr fun i hi => by simp [sofar, hi]
theorem sofar_step (r : Nat → Bool) (k : Nat) (b : Bool) (h : r k = b) : (bl (sofar r k)).toArray.setIfInBounds k (.bool b) = (bl (sofar r (k + 1))).toArray := by
  rw [bl_set]
  congr 1
  apply bl_congr
  intro i _
  unfold sofar
  by_cases e : i = k
  · subst e; simp [h]
  · rw [if_neg e]
    congr 1
    rw [decide_eq_decide]; omega

theorem blk_step {w : World} {g : Nat} {t : TypeId} {r : Nat → Bool} {k : Nat} {b : Bool} (h : Blk w g t (bl (sofar r k)).toArray) (e : (bl (sofar r k)).toArray.setIfInBounds k (.bool b) = (bl (sofar r (k + 1))).toArray) : Blk (w.setCell ⟨g, k, none⟩ (.bool b)) g t (bl (sofar r (k + 1))).toArray := by
  rw [← e]
  exact h.set_ k _

def mixF (how : Int) (a b : Bool) : Bool := if how = 0 then a || b else if how = 1 then a && b else a && !b

attribute [local go_sem ↓] make90 in
set_option maxRecDepth 100000 in
set_option maxHeartbeats 2000000 in
theorem mix_any (A B : Option Addr) (c d : Nat) (p q : Nat → Bool) (how : Int) (w : World) (hp : Rd w A (bl p)) (hq : Rd w B (bl q)) (hh : how = 0 ∨ how = 1 ∨ how = 2) :
    Calls Tryd.prog 13 #[.slice A 90 c, .slice B 90 d, .int .i64 how] w (GivesBools w fun i => mixF how (p i) (q i)) := by
  obtain ⟨a1, rfl, h1⟩ := rd_at hp
  obtain ⟨a2, rfl, h2⟩ := rd_at hq
  have H1 := Lib.hid h1
  have H2 := Lib.hid h2
  clear h1 h2 hp hq
  obtain ⟨r, hr⟩ : ∃ r : Nat → Bool, r = fun i => mixF how (p i) (q i) := ⟨_, rfl⟩
  rw [← hr]
  have Hr := Lib.hid hr
  clear hr
  rcases hh with rfl | rfl | rfl
  all_goals
    go_enter Tryd.func13, Tryd.ntmps13
    go_wp2
    obtain ⟨W0, hW0⟩ : ∃ W0, w.alloc (.cells (bl fun _ => false).toArray 4) = W0 := ⟨_, rfl⟩
    have b0 : Blk W0 w.heap.size 4 (bl (sofar r 0)).toArray := by rw [← hW0, sofar_zero]; exact Blk.new _ _ _ rfl
    have hB0 : Below w.heap.size w W0 := by rw [← hW0]; exact (by repeat (first | exact Below.refl _ _ | (refine Below.setCell ?_ (by first | omega | (simp; done) | (simp; omega) | (simp at *; omega)) _) | (refine Below.alloc ?_ (by first | omega | (simp; done) | (simp; omega) | (simp at *; omega)) _) | refine Below.drew ?_ | (refine below_drewN ?_ _) | (refine Below.trans ?_ (Below.mono (by assumption) (by first | omega | (simp; done) | (simp; omega) | (simp at *; omega))))))
    rw [hW0]
    clear hW0
    go_loopw [8] (fun i wr => ∃ k : Nat, k ≤ 90 ∧ i = .int .i64 k ∧ Blk wr w.heap.size 4 (bl (sofar r k)).toArray ∧ Below w.heap.size w wr) (fun i _ => 90 - (intOf i).toNat)
    case atStart => exact ⟨0, by omega, rfl, b0, hB0⟩
    case round =>
      obtain ⟨k, hk, rfl, bR, hB⟩ := hrel
      by_cases hlt : k < 90
      · have c0 := bR.cell k
        have f0 := bR.frozen k
        rw [bl_getA _ k hlt] at c0
        have c1 := cell_on hB rfl (H1.out k hlt)
        have c2 := cell_on hB rfl (H2.out k hlt)
        have hrk := congrFun Hr.out k
        cases hpk : p k <;> cases hqk : q k
        all_goals
          rw [hpk] at c1 hrk
          rw [hqk] at c2 hrk
          simp [mixF] at hrk
          have Hk := Lib.hid (sofar_step r k _ hrk)
          clear hpk hqk hrk
          go_wp2
          go_roundw
          case rel => exact ⟨k + 1, by omega, by go_num, blk_step bR Hk.out, hB.setCell (p := ⟨w.heap.size, k, none⟩) (Nat.le_refl _) _⟩
          case measure => simp [intOf]; omega
      · obtain rfl : k = 90 := by omega
        go_wp2
        go_ret
        refine ⟨_, _, rfl, ?_, hB⟩
        rw [sofar_all] at bR
        exact rd_blk bR

end Go.Proofs.YtdfjmchkpoobdaaDoor
