/- What a round of a range over guard's moves keeps. -/
import Derived.Test.YtnkbilikkbaeeaaGreatDoorGuardP
import Derived.Test.YtnkbilikkbaeeaaGreatDoorBitsM
import Derived.RangeFuncNested
import Derived.RangeFuncCalls
import Derived.RangeFuncLeaves
import Derived.RangeFuncBox
import Derived.Shelf.Abstract
import Derived.OwnWalkIn
import Derived.TacticsInMore
import Derived.LoopNIn
import Derived.LoopIn
import Derived.Maps.AppendAt
import Derived.Laws.OwnMore
import Derived.Lib.Hide
namespace Go.Proofs.YtnkbilikkbaeeaaGreatDoor
open Go.RowKit Go.Shelf

/-- All that lay below B but block T, and rows of numbers made since, lie as they lay. -/
structure KeptT (T B : Nat) (W W' : World) : Prop where
  os : W'.os = W.os
  tape : W'.tape = W.tape
  output : W'.output = W.output
  size : W.heap.size ≤ W'.heap.size
  low : ∀ k, k < B → k ≠ T → W'.heap[k]? = W.heap[k]?
  rows : ∀ k c f, B ≤ k → W.heap[k]? = some (.cells c 3 f) → W'.heap[k]? = some (.cells c 3 f)
theorem KeptT.refl (T B : Nat) (W : World) : KeptT T B W W := ⟨rfl, rfl, rfl, Nat.le_refl _, fun _ _ _ => rfl, fun _ _ _ _ h => h⟩
theorem KeptT.trans {T B : Nat} {a b c : World} (h : KeptT T B a b) (k : KeptT T B b c) : KeptT T B a c :=
  ⟨k.os.trans h.os, k.tape.trans h.tape, k.output.trans h.output, Nat.le_trans h.size k.size, fun j h1 h2 => (k.low j h1 h2).trans (h.low j h1 h2), fun j c f h1 h2 => k.rows j c f h1 (h.rows j c f h1 h2)⟩
theorem KeptT.next {T B : Nat} {W W' : World} (hB : B ≤ W.heap.size) (h : Below W.heap.size W W') : KeptT T B W W' :=
  ⟨h.os, h.tape, h.output, h.size, fun k hk _ => h.block k (by omega), fun k c f _ e => (h.block k (Array.getElem?_eq_some_iff.1 e).1).trans e⟩
theorem KeptT.grown {T B : Nat} {W W' : World} {r : Option Nat} (hB : B ≤ W.heap.size) (h : W.grownBy W' r) (hr : ∀ k, some k = r → B ≤ k) (hi : ∀ k c f, some k = r → W.heap[k]? ≠ some (.cells c 3 f)) : KeptT T B W W' := by
  have f := Below.grown (B := W.heap.size) (Below.refl _ W) h (Nat.le_refl _)
  refine ⟨?_, ?_, ?_, h.size, fun k hk _ => h.block k (by omega) fun e => ?_, fun k c f hk e => (h.block k (Array.getElem?_eq_some_iff.1 e).1 fun e' => hi k c f e' e).trans e⟩
  · exact h.os
  · exact h.tape
  · exact h.output
  · have := hr k e
    omega
theorem KeptT.put {T B : Nat} (W : World) (l : Nat) (o o' : Obj) (hl : B ≤ l) (h : W.heap[l]? = some o) (ho : o.isCells = false) (_ : o.isWalk = false) : KeptT T B W (W.putObj l o') :=
  KeptT.grown (Nat.le_of_lt (Nat.lt_of_le_of_lt hl (Array.getElem?_eq_some_iff.1 h).1)) (grownBy_putObj' W l o') (fun k e => by cases e; exact hl) fun k c f e e2 => by
    cases e
    rw [h] at e2
    cases e2
    cases ho
theorem KeptT.set {T B : Nat} {W : World} (hT : T < B) (u : Value) (i : Nat) : KeptT T B W (W.setCell ⟨T, i, none⟩ u) := by
  have hb := Below.heap_setCell W ⟨T, i, none⟩ u
  have b := (Below.refl T W).setCell (p := ⟨T, i, none⟩) (Nat.le_refl _) u
  refine ⟨b.os, b.tape, b.output, b.size, fun k _ hk => hb k hk, fun k c f hk e => (hb k ?_).trans e⟩
  show k ≠ T
  omega
theorem KeptT.below {T B n : Nat} {W W' : World} (h : KeptT T B W W') (hn : n ≤ B) (hT : n ≤ T) : Below n W W' :=
  ⟨h.os, h.tape, h.output, h.size, fun k hk => h.low k (by omega) (by omega)⟩
end Go.Proofs.YtnkbilikkbaeeaaGreatDoor
