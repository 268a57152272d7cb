/- What First, Last, Shift and Between answer, for all sets and numbers. -/
import Derived.Test.YtbfkkedcjodceaaGreatDoorBitsD
import Derived.RangeFuncNested
namespace Go.Proofs.YtbfkkedcjodceaaGreatDoor
open Go.RowKit Go.Shelf
open M (S)
attribute [local go_sem] Oper.semAt_some

abbrev svc (s : S) : Array Value := #[.int .u64 s.lo, .int .u64 s.hi]



theorem blk_two {w : World} {g : Nat} {t : TypeId} {a b : Value} (h : Blk w g t #[a, b]) (c d : Value) : Blk ((w.setCell ⟨g, 0, none⟩ c).setCell ⟨g, 1, none⟩ d) g t #[c, d] := by
  simpa using (h.set_ 0 c).set_ 1 d
theorem Kept.two {n₀ B g : Nat} {W w1 : World} (hn : n₀ ≤ W.heap.size) (hb : Below W.heap.size W w1) (h1 : n₀ ≤ g) (h2 : g < B) (c d : Value) : Kept n₀ B W ((w1.setCell ⟨g, 0, none⟩ c).setCell ⟨g, 1, none⟩ d) :=
  ((Kept.next hn hb).trans (Kept.set (p := ⟨g, 0, none⟩) h1 h2 c)).trans (Kept.set (p := ⟨g, 1, none⟩) h1 h2 d)
theorem keeps_two {W w1 : World} (hb : Below W.heap.size W w1) (p q : Addr) (c d : Value) : KeepsOthers W ((w1.setCell p c).setCell q d) :=
  ((keeps_next hb).trans (KeepsOthers.setCell _ _ _)).trans (KeepsOthers.setCell _ _ _)




/-- List's answer: a slice that reads as the squares. -/
def ListPost (w : World) (l : List (Fin 90)) (e : Ending) (w' : World) : Prop := ∃ A c, e = .returned (.slice A l.length c) ∧ Rd w' A (l.map sqv) ∧ Below w.heap.size w w'
theorem list_any (s : S) (w : World) (hT : Tab w) : Calls Tryz.prog 122 #[.agg #[.int .u64 s.lo, .int .u64 s.hi]] w (ListPost w s.sqs) :=
  (callsIn_wide.1 (list_in s w hT)).mono fun _ _ ⟨v, he, ho, hb⟩ => by
    obtain ⟨A, c, rfl⟩ := own_slice ho
    exact ⟨A, c, he, Rd.own ho, hb⟩
end Go.Proofs.YtbfkkedcjodceaaGreatDoor
