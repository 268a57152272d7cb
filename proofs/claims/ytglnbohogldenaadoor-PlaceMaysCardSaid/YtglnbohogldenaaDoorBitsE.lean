/- What First, Last, Shift and Between answer, for all sets and numbers. -/
import Derived.Test.YtglnbohogldenaaDoorBitsD
import Derived.RangeFuncNested
namespace Go.Proofs.YtglnbohogldenaaDoor
open Go.RowKit Go.Shelf
open M (S)
attribute [local go_sem] Oper.semAt_some

/-- A block of cells, known whole. -/
def Blk (w : World) (g : Nat) (t : TypeId) (cs : Array Value) : Prop := w.heap[g]? = some (.cells cs t (0, 0))
section
variable {w w' : World} {g : Nat} {t : TypeId} {cs : Array Value}
theorem Blk.lt (h : Blk w g t cs) : g < w.heap.size := (Array.getElem?_eq_some_iff.1 h).1
theorem Blk.cell (h : Blk w g t cs) (i : Nat) : w.cell? ⟨g, i, none⟩ = cs[i]? := by
  have h' : w.heap[g]? = some (.cells cs t (0, 0)) := h
  simp [World.cell?, h']
theorem Blk.frozen (h : Blk w g t cs) (i : Nat) : w.frozen? ⟨g, i, none⟩ = false := by
  have h' : w.heap[g]? = some (.cells cs t (0, 0)) := h
  simp [World.frozen?, h']
theorem Blk.next (h : Blk w g t cs) (hb : Below w.heap.size w w') : Blk w' g t cs := (hb.block g h.lt).trans h
theorem Blk.new (w : World) (t : TypeId) (cs : Array Value) {g : Nat} (hg : g = w.heap.size) : Blk (w.alloc (.cells cs t)) g t cs := by subst hg; exact World.alloc_heap_new w _
theorem Blk.alloc (h : Blk w g t cs) (o : Obj) : Blk (w.alloc o) g t cs := (Below.heap_alloc w o g h.lt).trans h
theorem Blk.set_ (h : Blk w g t cs) (i : Nat) (u : Value) : Blk (w.setCell ⟨g, i, none⟩ u) g t (cs.setIfInBounds i u) := by
  have h' : w.heap[g]? = some (.cells cs t (0, 0)) := h
  show (w.setCell ⟨g, i, none⟩ u).heap[g]? = _
  simp [World.setCell, Array.getElem?_modify, h']
theorem Blk.far (h : Blk w g t cs) {p : Addr} (hp : g ≠ p.block) (u : Value) : Blk (w.setCell p u) g t cs := (Below.heap_setCell w p u g hp).trans h
theorem Blk.kept {row : Option Nat} (h : Blk w g t cs) (hg : w.grownBy w' row) (hr : ∀ r, row = some r → ∃ o : Obj, w.heap[r]? = some o ∧ o.isCells = false) : Blk w' g t cs := by
  refine (hg.block g h.lt fun e => ?_).trans h
  obtain ⟨o, ho, hc⟩ := hr g e.symm
  have h' : w.heap[g]? = some (.cells cs t (0, 0)) := h
  rw [h'] at ho
  cases ho
  cases hc
theorem Blk.put (h : Blk w g t cs) {l : Nat} {o : Obj} (o' : Obj) (hl : w.heap[l]? = some o) (ho : o.isCells = false) : Blk (w.putObj l o') g t cs :=
  h.kept (grownBy_putObj' w l o') (fun r e => by cases e; exact ⟨o, hl, ho⟩)
theorem keeps_next (hb : Below w.heap.size w w') : KeepsOthers w w' := ⟨hb.size, fun k _ hk _ => (hb.block k (Array.getElem?_eq_some_iff.1 hk).1).trans hk⟩
end
theorem blk_own {β : Type} (g : Nat) (t : TypeId) (f : β → Array Value) : Own (fun s W => Blk W g t (f s)) := fun _ _ _ _ hs hg hr => hs.kept hg hr

abbrev svc (s : S) : Array Value := #[.int .u64 s.lo, .int .u64 s.hi]



theorem blk_two {w : World} {g : Nat} {t : TypeId} {a b : Value} (h : Blk w g t #[a, b]) (c d : Value) : Blk ((w.setCell ⟨g, 0, none⟩ c).setCell ⟨g, 1, none⟩ d) g t #[c, d] := by
  simpa using (h.set_ 0 c).set_ 1 d
theorem Kept.two {n₀ B g : Nat} {W w1 : World} (hn : n₀ ≤ W.heap.size) (hb : Below W.heap.size W w1) (h1 : n₀ ≤ g) (h2 : g < B) (c d : Value) : Kept n₀ B W ((w1.setCell ⟨g, 0, none⟩ c).setCell ⟨g, 1, none⟩ d) :=
  ((Kept.next hn hb).trans (Kept.set (p := ⟨g, 0, none⟩) h1 h2 c)).trans (Kept.set (p := ⟨g, 1, none⟩) h1 h2 d)
theorem keeps_two {W w1 : World} (hb : Below W.heap.size W w1) (p q : Addr) (c d : Value) : KeepsOthers W ((w1.setCell p c).setCell q d) :=
  ((keeps_next hb).trans (KeepsOthers.setCell _ _ _)).trans (KeepsOthers.setCell _ _ _)




/-- List's answer: a slice that reads as the squares. -/
def ListPost (w : World) (l : List (Fin 90)) (e : Ending) (w' : World) : Prop := ∃ A c, e = .returned (.slice A l.length c) ∧ Rd w' A (l.map sqv) ∧ Below w.heap.size w w'
theorem list_any (s : S) (w : World) (hT : Tab w) : Calls Tryd.prog 41 #[.agg #[.int .u64 s.lo, .int .u64 s.hi]] w (ListPost w s.sqs) :=
  (callsIn_wide.1 (list_in s w hT)).mono fun _ _ ⟨v, he, ho, hb⟩ => by
    obtain ⟨A, c, rfl⟩ := own_slice ho
    exact ⟨A, c, he, Rd.own ho, hb⟩
end Go.Proofs.YtglnbohogldenaaDoor
