/- A range over a function whose iterator keeps its state in a cell of its own: the law for one caller's invariant. The iterator is told what its loop's book-keeping abides (M, Mx), and proves its own call for that invariant. -/
import Derived.RangeFuncNested
import Derived.RangeFuncCalls
import Derived.RangeFuncLeaves
import Derived.RangeFuncBound
import Derived.Shelf.Abstract
import Derived.Shelf.RegionOpen
import Derived.WalkKit
import Derived.OwnWalkIn
import Derived.TacticsInMore
import Derived.LoopNIn
import Derived.LoopIn
namespace Go.Proofs.YtmmomgaijgpmmaaGreatDoor
open Go.RowKit Go.Shelf Go

/-- What abides that a block of book-keeping turns. -/
def Abide (B : Nat) (I : World → Prop) : Prop := ∀ (W : World) (l : Nat) (o o' : Obj), I W → B ≤ l → W.heap[l]? = some o → o.isCells = false → I (W.putObj l o')
/-- How a round's body is left: on, to a state; or by a return. -/
def bodyEnds {σ : Type} (B : Nat) (I : σ → World → Prop) (Ix : World → Prop) (T : σ → Prop) (W : World) : Exit → Act → World → Prop
  | .normal, _, W' => KeepsFrom B W W' ∧ ∃ s, T s ∧ I s W'
  | .ret, _, W' => KeepsFrom B W W' ∧ Ix W'
  | .exit _, _, _ => False
  | .goto _, _, _ => False
  | .panic _, _, _ => False
  | .outgrown, _, _ => False

theorem range_own {σ : Type} {P : Program} {n : Nat} {g : Operand} {ps : Array Tmp} {assign body : Code} {Q : Exit → Act → World → Prop} {a : Act} {w : World} {gf : Nat} {lb : Array Value}
    (hg : a.eval g = .func (.func gf) #[] lb) (eg : ∀ args W, (callFunc gf args).run P W = .ok (.enter gf args) W) (hps : ps.size = 1)
    (I : σ → World → Prop) (Ix : World → Prop) (G : σ → Value → Prop) (T : σ → Value → σ → Prop) (E : σ → Prop)
    (hI : ∀ s, Abide w.heap.size (I s)) (hIx : Abide w.heap.size Ix) (hIa : ∀ s W o, I s W → I s (W.alloc o)) (s0 : σ) (h0 : I s0 w)
    (hiter : ∀ (l : Nat) (M Mx : World → Prop) (W : World),
      (∀ V V' : World, M V → Below V.heap.size V V' → M V') → (∀ (V : World) (b : Nat) (v : Value), M V → b < w.heap.size → M (V.setCell ⟨b, 0, none⟩ v)) →
      (∀ s x V, G s x → I s V → M V → YieldAt Fence.wide (n - 1 - 1) P l #[x] V fun e V' => (e = .returned (.bool true) ∧ ∃ s', T s x s' ∧ I s' V' ∧ M V') ∨ (e = .returned (.bool false) ∧ Mx V')) →
      I s0 W → M W → CallsIn Fence.wide (n - 1) P gf (#[.func (.yield l) #[] #[]] ++ lb) W fun e V' => (∃ v, e = .returned v) ∧ ((∃ s, E s ∧ I s V' ∧ M V') ∨ Mx V'))
    (a₁ : Value → Act)
    (hassign : ∀ (l : Nat) (x : Value) (W : World) (K : Act → World → Prop), K (a₁ x) W →
      assign.wpIn (Fence.wide.inRound l) (n - 1 - 1) P (Exit.then K (fun _ _ _ => False)) { tmps := (ps.zip #[x]).foldl (fun t (p, v) => t.setIfInBounds p v) a.tmps, defers := [] } W)
    (hbody : ∀ (l : Nat) (s : σ) (x : Value) (W : World), G s x → I s W → body.wpIn (Fence.wide.inRound l) (n - 1 - 1) P (bodyEnds w.heap.size I Ix (T s x) W) (a₁ x) W)
    (hdone : ∀ (D : Nat) (s : σ) (W : World), w.heap.size ≤ D → E s → I s W → W.heap[D]? = some (.deferred (some [])) → Q .normal { a with defers := { target := .collected D, args := #[] } :: a.defers } W)
    (hstop : ∀ (D : Nat) (W : World), w.heap.size ≤ D → Ix W → W.heap[D]? = some (.deferred (some [])) → Code.ret.wpIn Fence.wide n P Q { a with defers := { target := .collected D, args := #[] } :: a.defers } W) :
    (Code.rangeFunc g ps assign body).wpIn Fence.wide n P Q a w := by
  refine wpIn_rangeFunc fun fn hfn => ?_
  obtain ⟨rc, hrc⟩ : ∃ rc : LoopState → Option Code → Loop, rc = fun st pe => { state := st, pending := pe, fn, tmps := a.tmps, params := ps, assign, body, defers := w.heap.size } := ⟨_, rfl⟩
  obtain ⟨L, hL⟩ : ∃ L, w.heap.size + 1 = L := ⟨_, rfl⟩
  obtain ⟨W1, hW1⟩ : ∃ W1, (w.alloc (.deferred (some []))).alloc (.loop (rc .ready none)) = W1 := ⟨_, rfl⟩
  have b1 : W1.heap[L]? = some (.loop (rc .ready none)) := by
    rw [← hW1, ← hL]
    have := World.alloc_heap_new (w.alloc (.deferred (some []))) (.loop (rc .ready none))
    rwa [World.size_alloc] at this
  have d1 : W1.heap[w.heap.size]? = some (.deferred (some [])) := by
    rw [← hW1]
    exact (Below.heap_alloc _ _ _ (by simp)).trans (World.alloc_heap_new w _)
  have i1 : I s0 W1 := by rw [← hW1]; exact hIa _ _ _ (hIa _ _ _ h0)
  -- what the book-keeping is between rounds, and behind a round that has left
  obtain ⟨M, hM⟩ : ∃ M : World → Prop, M = fun V => V.heap[L]? = some (.loop (rc .ready none)) ∧ V.heap[w.heap.size]? = some (.deferred (some [])) := ⟨_, rfl⟩
  obtain ⟨Mx, hMx⟩ : ∃ Mx : World → Prop, Mx = fun V => Ix V ∧ V.heap[L]? = some (.loop (rc .done (some .ret))) ∧ V.heap[w.heap.size]? = some (.deferred (some [])) := ⟨_, rfl⟩
  have hlt : ∀ {V : World} {k : Nat} {o : Obj}, V.heap[k]? = some o → k < V.heap.size := fun h => (Array.getElem?_eq_some_iff.1 h).1
  refine ⟨L, [{ target := .collected w.heap.size, args := #[] }], W1, { target := .fn (.func gf) lb, args := #[.func (.yield L) #[] #[]] }, W1, gf, #[.func (.yield L) #[] #[]] ++ lb, W1, ?_, ?_, ?_, ?_, ?_, ?_⟩
  · rw [← hW1, ← hL, hrc]
    exact run_enterLoop_outer _ _ _ _ _
  · simp only [resolve, hg]
    simp [go_sem]
  · intro f' _
    trivial
  · simp [invoke, go_sem, eg]
  · intro h
    cases h
  · refine (hiter L M Mx W1 ?_ ?_ ?_ i1 (by rw [hM]; exact ⟨b1, d1⟩)).mono ?_
    · intro V V' m hb
      rw [hM] at m ⊢
      exact ⟨(hb.block _ (hlt m.1)).trans m.1, (hb.block _ (hlt m.2)).trans m.2⟩
    · intro V b v m hb
      rw [hM] at m ⊢
      exact ⟨(Below.heap_setCell V ⟨b, 0, none⟩ v L (by show L ≠ b; omega)).trans m.1, (Below.heap_setCell V ⟨b, 0, none⟩ v w.heap.size (by show w.heap.size ≠ b; omega)).trans m.2⟩
    · -- one round
      intro s x V hG hIs m
      rw [hM] at m
      obtain ⟨m1, m2⟩ := m
      have hy := run_yield (P := P) (args := #[x]) m1 (by rw [hrc]; exact hps.symm)
      rw [hrc] at hy
      refine ⟨fn, _, assign, body, hy, roundIn_of_wpIn hfn (hassign L x V _ ⟨_, run_beginRound m1 (by rw [hrc]), ?_⟩)⟩
      have p1 : (V.putObj L (.loop { rc .ready none with state := .busy })).heap[L]? = some (.loop { rc .ready none with state := .busy }) := World.putObj_heap_same (hlt m1)
      have p2 : (V.putObj L (.loop { rc .ready none with state := .busy })).heap[w.heap.size]? = some (.deferred (some [])) := (World.putObj_heap_other (by omega)).trans m2
      have iV := hI s V L _ (.loop { rc .ready none with state := .busy }) hIs (by omega) m1 rfl
      refine wpIn_mono (hbody L s x _ hG iV) ?_
      intro e a3 V3 hp
      -- the record at the round's end
      have fin : ∀ (jump : Option Code), KeepsFrom w.heap.size (V.putObj L (.loop { rc .ready none with state := .busy })) V3 →
          (Instr.endRound L jump).run P V3 = .ok (.bool jump.isNone) (V3.putObj L (.loop (rc (if jump.isNone then .ready else .done) jump))) ∧
          V3.heap[L]? = some (.loop { rc .ready none with state := .busy }) ∧
          (V3.putObj L (.loop (rc (if jump.isNone then .ready else .done) jump))).heap[L]? = some (.loop (rc (if jump.isNone then .ready else .done) jump)) ∧
          (V3.putObj L (.loop (rc (if jump.isNone then .ready else .done) jump))).heap[w.heap.size]? = some (.deferred (some [])) := fun jump hk => by
        have q1 := hk.same _ _ (by omega) p1 rfl
        have hr := run_endRound (P := P) jump q1
        refine ⟨?_, q1, World.putObj_heap_same (hlt q1), (World.putObj_heap_other (by omega)).trans (hk.same _ _ (Nat.le_refl _) p2 rfl)⟩
        rw [hrc] at hr ⊢
        exact hr
      cases e with
      | normal =>
        obtain ⟨hk, s', hT, hI'⟩ := hp
        obtain ⟨hr, q1, q2, q3⟩ := fin none hk
        refine ⟨_, _, hr, .inl ⟨rfl, s', hT, hI s' V3 L _ _ hI' (by omega) q1 rfl, ?_⟩⟩
        rw [hM]
        exact ⟨q2, q3⟩
      | ret =>
        obtain ⟨hk, hx⟩ := hp
        obtain ⟨hr, q1, q2, q3⟩ := fin (some .ret) hk
        refine ⟨_, _, hr, .inr ⟨rfl, ?_⟩⟩
        rw [hMx]
        exact ⟨hIx V3 L _ _ hx (by omega) q1 rfl, q2, q3⟩
      | exit id => exact hp.elim
      | goto t => exact hp.elim
      | panic ch => exact hp.elim
      | outgrown => exact hp.elim
    · -- behind the iterator
      rintro e V ⟨⟨v, rfl⟩, ⟨s, hE, hIs, m⟩ | m⟩
      · rw [hM] at m
        have hend := run_endLoop (P := P) m.1 (by rw [hrc]; simp)
        have hp : (rc .ready none).pending = none := by rw [hrc]
        rw [hp] at hend
        exact ⟨none, _, hend, hdone _ s _ (Nat.le_refl _) hE (hI s V L _ _ hIs (by omega) m.1 rfl) ((World.putObj_heap_other (by omega)).trans m.2)⟩
      · rw [hMx] at m
        obtain ⟨hx, m1, m2⟩ := m
        have hend := run_endLoop (P := P) m1 (by rw [hrc]; simp)
        have hp : (rc .done (some .ret)).pending = some .ret := by rw [hrc]
        rw [hp] at hend
        exact ⟨some .ret, _, hend, hstop _ _ (Nat.le_refl _) (hIx V L _ _ hx (by omega) m1 rfl) ((World.putObj_heap_other (by omega)).trans m2)⟩
end Go.Proofs.YtmmomgaijgpmmaaGreatDoor
