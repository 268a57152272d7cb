/- Rows of moves in memory: what the texts of layer 21 need of them. -/
import Derived.Test.YtbdgbihdhbjljaaGreatDoorLegalM
import Derived.Test.YtbdgbihdhbjljaaGreatDoorCheckM
import Derived.Test.YtbdgbihdhbjljaaGreatDoorRefP5
import Derived.Test.YtbdgbihdhbjljaaGreatDoorBitsM
import Derived.RangeFuncNested
import Derived.RangeFuncCalls
import Derived.RangeFuncLeaves
import Derived.RangeFuncBox
import Derived.Shelf.Abstract
import Derived.OwnWalkIn
import Derived.TacticsInMore
import Derived.LoopNIn
import Derived.LoopIn
import Derived.Maps.AppendAt
import Derived.Laws.OwnMore
import Derived.Lib.Hide
import Derived.Test.YtbdgbihdhbjljaaGreatDoorBoardO
import Derived.Test.YtbdgbihdhbjljaaGreatDoorPseudoB
import Derived.Test.YtbdgbihdhbjljaaGreatDoorRowA
import Derived.Lib.OwnBridge
import Derived.Test.YtbdgbihdhbjljaaGreatDoorLive3
import Derived.Deep.AppendLies
import Derived.Deep.RegionHeldLaw
import Derived.Lib.SliceRun
namespace Go.Proofs.YtbdgbihdhbjljaaGreatDoor
open Go.RowKit Go.Shelf
open M (S)
theorem below_new (w : World) (o : Obj) : Below w.heap.size w (w.alloc o) := (Below.refl _ _).alloc (Nat.le_refl _) _
def mzL (l : List (Int × Int)) : List Value := l.flatMap fun m => [iv m.1, iv m.2]
theorem mzL_at (l : List (Int × Int)) {k : Nat} (hk : k < l.length) : (mzL l)[k * 2]? = some (iv l[k].1) ∧ (mzL l)[k * 2 + 1]? = some (iv l[k].2) := by
  induction l generalizing k with
  | nil => exact absurd hk (by simp)
  | cons x r ih =>
    show ([iv x.1, iv x.2] ++ mzL r)[k * 2]? = _ ∧ ([iv x.1, iv x.2] ++ mzL r)[k * 2 + 1]? = _
    cases k with
    | zero => exact ⟨rfl, rfl⟩
    | succ k =>
      rw [List.getElem?_append_right (by simp; omega), List.getElem?_append_right (by simp; omega), show (k + 1) * 2 - [iv x.1, iv x.2].length = k * 2 by simp; omega, show (k + 1) * 2 + 1 - [iv x.1, iv x.2].length = k * 2 + 1 by simp; omega]
      exact ih (by simpa using hk)
theorem Rd.mz {w : World} {A : Option Addr} {l : List (Int × Int)} (h : Rd w A (mzL l)) {k : Nat} (hk : k < l.length) : ∃ g b, A = some ⟨g, b, none⟩ ∧ w.cell? ⟨g, b + k * 2, none⟩ = some (iv l[k].1) ∧ w.cell? ⟨g, b + k * 2 + 1, none⟩ = some (iv l[k].2) := by
  obtain ⟨h0, h1⟩ := mzL_at l hk
  obtain ⟨⟨g, b, sp⟩, rfl, hc⟩ := h _ _ h0
  obtain ⟨a1, e1, hc1⟩ := h _ _ h1
  cases e1
  have h00 : 0 < l.length := by omega
  obtain ⟨a2, e2, hc2⟩ := h _ _ (mzL_at l h00).1
  cases e2
  have hsp : sp = none := by simpa [Addr.add] using World.cell?_spot hc2
  subst hsp
  have hadd : ∀ j, (Addr.add ⟨g, b, none⟩ j) = ⟨g, b + j, none⟩ := fun j => by
    simp only [Addr.add]
    split <;> simp_all
  rw [hadd] at hc hc1
  exact ⟨g, b, rfl, hc, hc1⟩
theorem own_any {w : World} {base : Nat} {e : TypeId} {size n : Nat} {v : Value} {xs : List Value} (h : w.ownsRow base e size v n xs) : ∃ A c, v = .slice A n c ∧ Rd w A xs ∧ n ≤ c := by
  have hlen := h.1
  rcases h.2 with ⟨rfl, rfl⟩ | ⟨g, cap, cur, rfl, _, hc, hn, _, hs, ht⟩
  · refine ⟨none, 0, rfl, fun j u hu => ?_, Nat.le_refl _⟩
    rw [List.getElem?_eq_none (by omega)] at hu
    cases hu
  · refine ⟨_, _, rfl, fun j u hu => ⟨_, rfl, ?_⟩, hn⟩
    have hj : j < xs.length := by
      rcases Nat.lt_or_ge j xs.length with h | h
      · exact h
      · rw [List.getElem?_eq_none h] at hu
        cases hu
    have e1 : (⟨g, 0, none⟩ : Addr).add j = ⟨g, j, none⟩ := by
      simp only [Addr.add]
      split <;> simp_all
    rw [e1]
    have hb : Blk w g e cur := hc
    rw [hb.cell j, ← hu, ← ht, List.getElem?_take, if_pos (by omega)]
    simp
theorem mzL_set : ∀ (L : List (Int × Int)) (i : Nat) (x : Int × Int), i < L.length → ((mzL L).set (i * 2) (iv x.1)).set (i * 2 + 1) (iv x.2) = mzL (L.set i x)
  | y :: l, 0, x, _ => rfl
  | y :: l, i + 1, x, h => by
    have ih := mzL_set l i x (by simpa using h)
    rw [List.set_cons_succ]
    show _ = iv y.1 :: iv y.2 :: mzL (l.set i x)
    rw [← ih, show (i + 1) * 2 = i * 2 + 2 by omega]
    rfl
theorem own_frozen {w : World} {base : Nat} {e : TypeId} {size g n c : Nat} {xs : List Value} (h : w.ownsRow base e size (.slice (some ⟨g, 0, none⟩) n c) n xs) (i : Nat) : w.frozen? ⟨g, i, none⟩ = false := by
  rcases h.2 with ⟨h0, _⟩ | ⟨g', cap, cur, hv, _, hc, _⟩
  · cases h0
  · injection hv with e1
    injection e1 with e1
    injection e1 with e1
    subst e1
    simp [World.frozen?, hc]
theorem mvs_mz (l : List (Nat × Nat)) : mvs l = mzL (l.map fun m => ((m.1 : Int), (m.2 : Int))) := by
  induction l with
  | nil => rfl
  | cons x l ih =>
    show iv x.1 :: iv x.2 :: mvs l = iv x.1 :: iv x.2 :: mzL (l.map fun m => ((m.1 : Int), (m.2 : Int)))
    rw [ih]
end Go.Proofs.YtbdgbihdhbjljaaGreatDoor
