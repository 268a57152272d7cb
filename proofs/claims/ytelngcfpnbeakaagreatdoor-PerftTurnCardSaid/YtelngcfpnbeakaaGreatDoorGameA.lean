/- A game in memory: its block, the row of its steps; what a call on it leaves as it was. What the calls that change nothing answer. -/
import Derived.Test.YtelngcfpnbeakaaGreatDoorLegalM
import Derived.Deep.AppendLies
import Derived.Deep.RegionHeldLaw
namespace Go.Proofs.YtelngcfpnbeakaaGreatDoor
open Go.RowKit Go.Shelf
open M (S)

/-- A position. -/
structure Po where
  s : ByteArray
  y : Int
  z : Int
  u : Int
/-- A move that was made, and the position ahead of it. -/
structure Stp where
  a : Int
  b : Int
  p : Po
def Stp.cs (x : Stp) : List Value := [.int .i64 x.a, .int .i64 x.b, .string x.p.s, .int .i64 x.p.y, .int .i64 x.p.z, .int .i64 x.p.u]
def stepsL (l : List Stp) : List Value := l.flatMap Stp.cs
theorem stepsL_len (l : List Stp) : (stepsL l).length = l.length * 6 := by
  induction l with
  | nil => rfl
  | cons x l ih =>
    show (x.cs ++ stepsL l).length = _
    rw [List.length_append, ih, List.length_cons]
    show 6 + l.length * 6 = _
    omega
theorem stepsL_snoc (l : List Stp) (x : Stp) : stepsL (l ++ [x]) = stepsL l ++ x.cs := by simp [stepsL]

/-- What lies in other blocks is as it was. -/
structure Far (X : Nat → Prop) (w w' : World) : Prop where
  os : w'.os = w.os
  tape : w'.tape = w.tape
  output : w'.output = w.output
  size : w.heap.size ≤ w'.heap.size
  block : ∀ k, k < w.heap.size → ¬ X k → w'.heap[k]? = w.heap[k]?
theorem Far.below {X : Nat → Prop} {w w' : World} (h : Far X w w') {B : Nat} (hX : ∀ k, X k → B ≤ k) (hB : B ≤ w.heap.size) : Below B w w' :=
  ⟨h.os, h.tape, h.output, h.size, fun k hk => h.block k (by omega) fun hx => by have := hX k hx; omega⟩
theorem Far.of {X : Nat → Prop} {w w' : World} (hb : Below w.heap.size w w') : Far X w w' := ⟨hb.os, hb.tape, hb.output, hb.size, fun k hk _ => hb.block k hk⟩
theorem Far.trans {X : Nat → Prop} {w w' w'' : World} (h : Far X w w') (k : Far X w' w'') : Far X w w'' :=
  ⟨k.os.trans h.os, k.tape.trans h.tape, k.output.trans h.output, Nat.le_trans h.size k.size, fun i hi hx => (k.block i (Nat.lt_of_lt_of_le hi h.size) hx).trans (h.block i hi hx)⟩
theorem Far.mono {X Y : Nat → Prop} {w w' : World} (h : Far X w w') (hxy : ∀ k, k < w.heap.size → X k → Y k) : Far Y w w' := ⟨h.os, h.tape, h.output, h.size, fun k hk hy => h.block k hk fun hx => hy (hxy k hk hx)⟩
theorem Far.blk {X : Nat → Prop} {w w' : World} (h : Far X w w') {g : Nat} {t : TypeId} {cs : Array Value} (b : Blk w g t cs) (hx : ¬ X g) : Blk w' g t cs := (h.block g b.lt hx).trans b
theorem Far.set {X : Nat → Prop} {w : World} {p : Addr} (hp : X p.block) (u : Value) : Far X w (w.setCell p u) :=
  ⟨rfl, rfl, rfl, by simp, fun k _ hx => Below.heap_setCell w p u k fun e => hx (by rw [e]; exact hp)⟩
theorem Far.grown {X : Nat → Prop} {w w' : World} {r : Option Nat} (h : w.grownBy w' r) (hX : ∀ k, some k = r → X k) : Far X w w' :=
  ⟨h.os, h.tape, h.output, h.size, fun k hk hx => h.block k hk fun e => hx (hX k e)⟩
theorem row_next {w w1 : World} {base : Nat} {e : TypeId} {size : Nat} {v : Value} {n : Nat} {xs : List Value} (h : w.ownsRow base e size v n xs) (hb : ∀ k, k < w.heap.size → v.ownBlock = some k → w1.heap[k]? = w.heap[k]?) : w1.ownsRow base e size v n xs := by
  refine ⟨h.1, ?_⟩
  rcases h.2 with h0 | ⟨g, cap, cur, rfl, hg, hc, r⟩
  · exact .inl h0
  · exact .inr ⟨g, cap, cur, rfl, hg, (hb g (Array.getElem?_eq_some_iff.1 hc).1 rfl).trans hc, r⟩

/-- A game: its block, and the row of its steps, which lies behind n₀. -/
structure GAt (n₀ : Nat) (w : World) (g : Nat) (v : Value) (st : List Stp) (now : Po) : Prop where
  blk : Blk w g 63 #[v, .string now.s, .int .i64 now.y, .int .i64 now.z, .int .i64 now.u]
  row : w.ownsRow n₀ 83 6 v st.length (stepsL st)
  lt : g < n₀
  le : n₀ ≤ w.heap.size
theorem GAt.far {n₀ : Nat} {w w' : World} {g : Nat} {v : Value} {st : List Stp} {now : Po} (h : GAt n₀ w g v st now) {X : Nat → Prop} (hf : Far X w w') (hg : ¬ X g) (hr : ∀ k, v.ownBlock = some k → ¬ X k) : GAt n₀ w' g v st now :=
  ⟨hf.blk h.blk hg, row_next h.row fun k hk e => hf.block k hk (hr k e), h.lt, Nat.le_trans h.le hf.size⟩
theorem GAt.next {n₀ : Nat} {w w' : World} {g : Nat} {v : Value} {st : List Stp} {now : Po} (h : GAt n₀ w g v st now) (hb : Below w.heap.size w w') : GAt n₀ w' g v st now :=
  h.far (X := fun _ => False) (Far.of hb) (fun x => x) (fun _ _ x => x)
theorem GAt.slice {n₀ : Nat} {w : World} {g : Nat} {v : Value} {st : List Stp} {now : Po} (h : GAt n₀ w g v st now) : ∃ A c, v = .slice A st.length c := by
  rcases h.row.2 with ⟨rfl, h0⟩ | ⟨g', cap, cur, rfl, _⟩
  · exact ⟨none, 0, by rw [h0]⟩
  · exact ⟨_, _, rfl⟩
theorem GAt.own {n₀ : Nat} {w : World} {g : Nat} {v : Value} {st : List Stp} {now : Po} (h : GAt n₀ w g v st now) {k : Nat} (e : v.ownBlock = some k) : n₀ ≤ k ∧ k < w.heap.size := by
  rcases h.row.2 with ⟨rfl, h0⟩ | ⟨g', cap, cur, rfl, hg, hc, _⟩
  · cases e
  · have : g' = k := by simpa [Value.ownBlock] using e
    rw [← this]
    exact ⟨hg, (Array.getElem?_eq_some_iff.1 hc).1⟩
/-- What may be turned by a call on a game: its block and its row. -/
def OfG (g : Nat) (v : Value) (k : Nat) : Prop := k = g ∨ v.ownBlock = some k
/-- How a call on a game ends. -/
def Goes (n₀ : Nat) (w : World) (g : Nat) (v : Value) (st : List Stp) (now : Po) (r : Value) (e : Ending) (w' : World) : Prop :=
  e = .returned r ∧ ∃ v', GAt n₀ w' g v' st now ∧ (∀ k, v'.ownBlock = some k → v.ownBlock = some k ∨ w.heap.size ≤ k) ∧ Far (OfG g v) w w'
theorem Goes.same {n₀ : Nat} {w : World} {g : Nat} {v : Value} {st : List Stp} {now : Po} {r : Value} {e : Ending} {w' : World} (h : GAt n₀ w g v st now) (he : e = .returned r) (hb : Below w.heap.size w w') : Goes n₀ w g v st now r e w' :=
  ⟨he, v, h.next hb, fun _ h => .inl h, Far.of hb⟩
theorem gcells {W : World} {g : Nat} {t : TypeId} {v : Value} {s : ByteArray} {a b c : Int} (h : Blk W g t #[v, .string s, .int .i64 a, .int .i64 b, .int .i64 c]) : W.cell? ⟨g, 0, none⟩ = some v ∧ W.cell? ⟨g, 1, none⟩ = some (.string s) ∧ W.cell? ⟨g, 2, none⟩ = some (.int .i64 a) ∧ W.cell? ⟨g, 3, none⟩ = some (.int .i64 b) ∧ W.cell? ⟨g, 4, none⟩ = some (.int .i64 c) := ⟨h.cell 0, h.cell 1, h.cell 2, h.cell 3, h.cell 4⟩
theorem gfrozen {W : World} {g : Nat} {t : TypeId} {cs : Array Value} (h : Blk W g t cs) : W.frozen? ⟨g, 0, none⟩ = false ∧ W.frozen? ⟨g, 1, none⟩ = false ∧ W.frozen? ⟨g, 2, none⟩ = false ∧ W.frozen? ⟨g, 3, none⟩ = false ∧ W.frozen? ⟨g, 4, none⟩ = false ∧ W.frozen? ⟨g, 5, none⟩ = false := ⟨h.frozen 0, h.frozen 1, h.frozen 2, h.frozen 3, h.frozen 4, h.frozen 5⟩

theorem count_is (g n c : Nat) (A : Option Addr) (w : World) (h : w.cell? ⟨g, 0, none⟩ = some (.slice A n c)) : Calls Tryz.prog 50 #[.pointer (some ⟨g, 0, none⟩)] w fun e w' => e = .returned (.int .i64 n) ∧ w = w' := by
  go_enter Tryz.func50, Tryz.ntmps50
  go_wp2
  go_ret
  exact ⟨rfl, rfl⟩
set_option maxHeartbeats 1000000 in
theorem position_nil (w : World) : Calls Tryz.prog 22 #[.pointer none] w (Gives w (.agg #[.string ⟨#[]⟩, .int .i64 0, .int .i64 0, .int .i64 0])) := by
  unfold Gives
  go_enter Tryz.func22, Tryz.ntmps22
  go_wp2
  refine bodyPost_ret (v := .agg #[.string ⟨#[]⟩, .int .i64 0, .int .i64 0, .int .i64 0]) (by simp [results, Tryz.results22, go_sem]) rfl ⟨rfl, (by repeat (first | exact Below.refl _ _ | (refine Below.setCell ?_ (by first | omega | (simp; done) | (simp; omega) | (simp at *; omega)) _) | (refine Below.alloc ?_ (by first | omega | (simp; done) | (simp; omega) | (simp at *; omega)) _) | refine Below.drew ?_ | (refine below_drewN ?_ _) | (refine Below.trans ?_ (Below.mono (by assumption) (by first | omega | (simp; done) | (simp; omega) | (simp at *; omega))))))⟩
set_option maxHeartbeats 1000000 in
theorem position_is {n₀ : Nat} {w : World} {g : Nat} {v : Value} {st : List Stp} {now : Po} (h : GAt n₀ w g v st now) : Calls Tryz.prog 22 #[.pointer (some ⟨g, 0, none⟩)] w (Gives w (.agg #[.string now.s, .int .i64 now.y, .int .i64 now.z, .int .i64 now.u])) := by
  unfold Gives
  obtain ⟨g0, g1, g2, g3, g4⟩ := gcells (h.blk.alloc (.cells #[.string ⟨#[]⟩, .int .i64 0, .int .i64 0, .int .i64 0] 23))
  go_enter Tryz.func22, Tryz.ntmps22
  go_wp2
  refine bodyPost_ret (v := .agg #[.string now.s, .int .i64 now.y, .int .i64 now.z, .int .i64 now.u]) (by simp [results, Tryz.results22, go_sem]) rfl ⟨rfl, (by repeat (first | exact Below.refl _ _ | (refine Below.setCell ?_ (by first | omega | (simp; done) | (simp; omega) | (simp at *; omega)) _) | (refine Below.alloc ?_ (by first | omega | (simp; done) | (simp; omega) | (simp at *; omega)) _) | refine Below.drew ?_ | (refine below_drewN ?_ _) | (refine Below.trans ?_ (Below.mono (by assumption) (by first | omega | (simp; done) | (simp; omega) | (simp at *; omega))))))⟩
end Go.Proofs.YtelngcfpnbeakaaGreatDoor
