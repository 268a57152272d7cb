/- The closure where the map has not the node. -/
import Derived.Test.YtelngcfpnbeakaaGreatDoorPerftE
namespace Go.Proofs.YtelngcfpnbeakaaGreatDoor
open Go.RowKit Go.Shelf
open Go.Maps
open M (S)

theorem find_any {l : List (Lit × DataW Unit)} {p : Lit × DataW Unit → Bool} (h : l.any p = false) : l.find? p = none := by
  rw [List.find?_eq_none]
  intro x hx hp
  have := List.any_eq_false.1 h x hx
  exact this hp
theorem atKey_none {w : World} {P : Program} {k : TypeId} {R : Value → Option (DataW Unit × List MemPlace)} {b n : Nat} {D : DataW Unit} (h : w.ownsMap P k R b n D) {kl : Lit} (hh : Maps.has D kl = false) (zd : DataW Unit) : D.atKey kl zd = zd := by
  obtain ⟨es, clock, _, _, _, rfl⟩ := h
  generalize (es.toList.map (WideElems.rg P k R)).foldr DataW.insert [] = E at hh ⊢
  have e : E.find? (fun p => p.1.sameKey kl) = none := find_any hh
  unfold DataW.atKey
  simp only [e]
/-- What the closure may turn: the game's block and row, and the map. -/
def OfL (g H : Nat) (v : Value) (k : Nat) : Prop := k = g ∨ v.ownBlock = some k ∨ k = H + 1
/-- How memory goes on between two words of the closure's: v is the game's row. -/
structure Keeps (g H : Nat) (w : World) (v : Value) (w' : World) (v' : Value) : Prop where
  far : Far (OfL g H v) w w'
  own : ∀ k, v'.ownBlock = some k → v.ownBlock = some k ∨ w.heap.size ≤ k
theorem Keeps.trans {g H : Nat} {w w1 w2 : World} {v v1 v2 : Value} (h : Keeps g H w v w1 v1) (k : Keeps g H w1 v1 w2 v2) : Keeps g H w v w2 v2 where
  far := ⟨k.far.os.trans h.far.os, k.far.tape.trans h.far.tape, k.far.output.trans h.far.output, Nat.le_trans h.far.size k.far.size, fun j hj hx => by
    have a := h.far.size
    refine (k.far.block j (by omega) ?_).trans (h.far.block j hj hx)
    rintro (e | e | e)
    · exact hx (.inl e)
    · rcases h.own j e with e | e
      · exact hx (.inr (.inl e))
      · omega
    · exact hx (.inr (.inr e))⟩
  own := fun j e => by
    have a := h.far.size
    rcases k.own j e with e | e
    · exact h.own j e
    · exact .inr (by omega)
theorem Keeps.below {g H : Nat} {w w' : World} {v : Value} (hb : Below w.heap.size w w') : Keeps g H w v w' v := ⟨Far.of hb, fun _ e => .inl e⟩
theorem Keeps.game {g H : Nat} {w w' : World} {v v' : Value} (hf : Far (OfG g v) w w') (ho : ∀ k, v'.ownBlock = some k → v.ownBlock = some k ∨ w.heap.size ≤ k) : Keeps g H w v w' v' :=
  ⟨hf.mono fun _ _ hx => hx.elim .inl fun e => .inr (.inl e), ho⟩
theorem Keeps.map {g H : Nat} {w w' : World} {v : Value} (hg : w.grownBy w' (some (H + 1))) : Keeps g H w v w' v :=
  ⟨Far.grown hg fun _ e => .inr (.inr (Option.some.inj e)), fun _ e => .inl e⟩
/-- The side that is to move when r moves are left of n, of which Y makes the first. -/
def sideAt (Y : Int) (n r : Nat) : Int := if (n - r) % 2 = 0 then Y else 1 - Y
theorem sideAt_step (Y : Int) {n r : Nat} (h : r < n) : 1 - sideAt Y n (r + 1) = sideAt Y n r := by
  unfold sideAt
  by_cases e : (n - (r + 1)) % 2 = 0
  · rw [if_pos e, if_neg (by omega)]
  · rw [if_neg e, if_pos (by omega)]
    omega
/-- What the map has is right. -/
def MemoOk (Y : Int) (n : Nat) (D : DataW Unit) : Prop := ∀ (s : ByteArray) (r : Nat), s.size ≤ maxLen → r ≤ 64 → Maps.has D (nodeL s r) = true → D.atKey (nodeL s r) (.lit (.int .i64 0)) = .lit (.int .i64 (linesN r s (sideAt Y n r)))
theorem memo_none (Y : Int) (n : Nat) : MemoOk Y n (.map []) := fun s r _ _ h => by cases h
theorem memo_put {Y : Int} {n : Nat} {D : DataW Unit} (h : MemoOk Y n D) (hD : Maps.IsMap D) {s : ByteArray} {r : Nat} (hs : s.size ≤ maxLen) (hr : r ≤ 64) : MemoOk Y n (D.put (nodeL s r) (.lit (.int .i64 (linesN r s (sideAt Y n r))))) := fun t e ht he hh => by
  have w1 : (Lit.int .i64 (r : Int)).wf = true := WalkArith.wf_i64 (by omega)
  have w2 : (Lit.int .i64 (e : Int)).wf = true := WalkArith.wf_i64 (by omega)
  by_cases hk : nodeL t e = nodeL s r
  · obtain ⟨rfl, h2⟩ := node_inj ht hs w2 w1 hk
    obtain rfl : e = r := by omega
    exact atKey_put_same hD (node_law.key (node_key ht w2)) _ _
  · rw [atKey_put_other hk]
    rw [has_put_other hk] at hh
    exact h t e ht he hh
end Go.Proofs.YtelngcfpnbeakaaGreatDoor
