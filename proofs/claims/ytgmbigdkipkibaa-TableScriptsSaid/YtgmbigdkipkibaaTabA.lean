/- A table in memory: its block, its slots; what its calls answer, and how they leave it. -/
import Derived.Test.YtgmbigdkipkibaaBase
namespace Go.Proofs.Ytgmbigdkipkibaa
open Go.RowKit Go.Shelf
attribute [local go_sem] Oper.semAt_some

/-- What a call answers; the world below is as it was. -/
def Gives (w : World) (v : Value) : Ending → World → Prop := fun e w' => e = .returned v ∧ Below w.heap.size w w'
/-- An entry. -/
structure Ent where
  k : Nat
  d : Int
  s : Int
  u : Int
  a : Int
  b : Int
def Ent.cs (x : Ent) : Array Value := #[.int .u64 x.k, .int .i64 x.d, .int .i64 x.s, .int .i64 x.u, .int .i64 x.a, .int .i64 x.b]
/-- An entry as a call's argument or answer. -/
def Ent.v (x : Ent) : Value := .agg #[.int .u64 x.k, .int .i64 x.d, .int .i64 x.s, .int .i64 x.u, .int .i64 x.a, .int .i64 x.b]
def ent0 : Ent := ⟨0, 0, 0, 0, 0, 0⟩
def slotCs : Option Ent → Array Value
  | none => #[.int .u64 0, .int .i64 0, .int .i64 0, .int .i64 0, .int .i64 0, .int .i64 0, .bool false]
  | some x => #[.int .u64 x.k, .int .i64 x.d, .int .i64 x.s, .int .i64 x.u, .int .i64 x.a, .int .i64 x.b, .bool true]
theorem slotCs_size (o : Option Ent) : (slotCs o).size = 7 := by cases o <;> rfl
/-- The cells of n slots. -/
def slotsA (n : Nat) (f : Nat → Option Ent) : Array Value := (Array.range (n * 7)).map fun j => (slotCs (f (j / 7)))[j % 7]!
theorem slotsA_size (n : Nat) (f : Nat → Option Ent) : (slotsA n f).size = n * 7 := by simp [slotsA]
theorem slotsA_at {n : Nat} {f : Nat → Option Ent} {i j : Nat} (_hi : i < n) (hj : j < 7) : (slotsA n f)[i * 7 + j]? = (slotCs (f i))[j]? := by
  have h1 : (i * 7 + j) / 7 = i := by omega
  have h2 : (i * 7 + j) % 7 = j := by omega
  have h3 : i * 7 + j < n * 7 := by omega
  have h4 : j < (slotCs (f i)).size := by rw [slotCs_size]; exact hj
  rw [Array.getElem?_eq_getElem h4]
  simp only [slotsA, Array.getElem?_map, Array.getElem?_range, h3, if_true, Option.map_some, h1, h2]
  rw [getElem!_pos (slotCs (f i)) j h4]
def putF (f : Nat → Option Ent) (i : Nat) (x : Ent) : Nat → Option Ent := fun j => if j = i then some x else f j
theorem slotsA_put {n : Nat} {f : Nat → Option Ent} {i : Nat} (_hi : i < n) (x : Ent) :
    (((((((slotsA n f).setIfInBounds (i * 7) (.int .u64 x.k)).setIfInBounds (i * 7 + 1) (.int .i64 x.d)).setIfInBounds (i * 7 + 2) (.int .i64 x.s)).setIfInBounds (i * 7 + 3) (.int .i64 x.u)).setIfInBounds (i * 7 + 4) (.int .i64 x.a)).setIfInBounds (i * 7 + 5) (.int .i64 x.b)).setIfInBounds (i * 7 + 6) (.bool true) = slotsA n (putF f i x) := by
  apply Array.ext_getElem?
  intro j
  by_cases hj : j < n * 7
  · have ej : j / 7 * 7 + j % 7 = j := by omega
    have e := fun (g : Nat → Option Ent) => slotsA_at (n := n) (f := g) (i := j / 7) (j := j % 7) (by omega) (by omega)
    rw [ej] at e
    rw [e (putF f i x)]
    simp only [Array.getElem?_setIfInBounds, Array.size_setIfInBounds, slotsA_size]
    by_cases hs : j / 7 = i
    · have hp : putF f i x (j / 7) = some x := by simp [putF, hs]
      rw [hp]
      obtain ⟨r, hr, hr7⟩ : ∃ r, j = i * 7 + r ∧ r < 7 := ⟨j % 7, by omega, by omega⟩
      have h7 : j % 7 = r := by omega
      rw [h7]
      rcases r with _ | _ | _ | _ | _ | _ | _ | r
      · rw [if_neg (by omega), if_neg (by omega), if_neg (by omega), if_neg (by omega), if_neg (by omega), if_neg (by omega), if_pos (by omega), if_pos (by omega)]
        rfl
      · rw [if_neg (by omega), if_neg (by omega), if_neg (by omega), if_neg (by omega), if_neg (by omega), if_pos (by omega), if_pos (by omega)]
        rfl
      · rw [if_neg (by omega), if_neg (by omega), if_neg (by omega), if_neg (by omega), if_pos (by omega), if_pos (by omega)]
        rfl
      · rw [if_neg (by omega), if_neg (by omega), if_neg (by omega), if_pos (by omega), if_pos (by omega)]
        rfl
      · rw [if_neg (by omega), if_neg (by omega), if_pos (by omega), if_pos (by omega)]
        rfl
      · rw [if_neg (by omega), if_pos (by omega), if_pos (by omega)]
        rfl
      · rw [if_pos (by omega), if_pos (by omega)]
        rfl
      · omega
    · have hp : putF f i x (j / 7) = f (j / 7) := by simp [putF, hs]
      rw [hp, ← e f, if_neg (by omega), if_neg (by omega), if_neg (by omega), if_neg (by omega), if_neg (by omega), if_neg (by omega), if_neg (by omega)]
  · rw [Array.getElem?_eq_none (by simp only [Array.size_setIfInBounds, slotsA_size]; omega), Array.getElem?_eq_none (by rw [slotsA_size]; omega)]
theorem slotsA_none (n : Nat) : madeCells (slotCs none) (n * 7) = slotsA n fun _ => none := by
  unfold madeCells slotsA
  rw [slotCs_size]

/-- What lies in other blocks is as it was. -/
structure Far (X : Nat → Prop) (w w' : World) : Prop where
  os : w'.os = w.os
  tape : w'.tape = w.tape
  output : w'.output = w.output
  size : w.heap.size ≤ w'.heap.size
  block : ∀ k, k < w.heap.size → ¬ X k → w'.heap[k]? = w.heap[k]?
theorem Far.below {X : Nat → Prop} {w w' : World} (h : Far X w w') {B : Nat} (hX : ∀ k, X k → B ≤ k) (hB : B ≤ w.heap.size) : Below B w w' :=
  ⟨h.os, h.tape, h.output, h.size, fun k hk => h.block k (by omega) fun hx => by have := hX k hx; omega⟩
theorem Far.of {X : Nat → Prop} {w w' : World} (hb : Below w.heap.size w w') : Far X w w' := ⟨hb.os, hb.tape, hb.output, hb.size, fun k hk _ => hb.block k hk⟩
theorem Far.trans {X : Nat → Prop} {w w' w'' : World} (h : Far X w w') (k : Far X w' w'') : Far X w w'' :=
  ⟨k.os.trans h.os, k.tape.trans h.tape, k.output.trans h.output, Nat.le_trans h.size k.size, fun i hi hx => (k.block i (Nat.lt_of_lt_of_le hi h.size) hx).trans (h.block i hi hx)⟩
theorem Far.blk {X : Nat → Prop} {w w' : World} (h : Far X w w') {g : Nat} {t : TypeId} {cs : Array Value} (b : Blk w g t cs) (hx : ¬ X g) : Blk w' g t cs := (h.block g b.lt hx).trans b
theorem Far.set {X : Nat → Prop} {w : World} {p : Addr} (hp : X p.block) (u : Value) : Far X w (w.setCell p u) :=
  ⟨rfl, rfl, rfl, by simp, fun k _ hx => Below.heap_setCell w p u k fun e => hx (by rw [e]; exact hp)⟩

/-- A table of n slots. -/
structure TabAt (W : World) (tb sb n : Nat) (f : Nat → Option Ent) : Prop where
  tab : Blk W tb 57 #[.slice (some ⟨sb, 0, none⟩) n n]
  slots : Blk W sb 62 (slotsA n f)
  pos : 0 < n
  max : n ≤ 4096
  ne : tb ≠ sb
theorem TabAt.next {W W' : World} {tb sb n : Nat} {f : Nat → Option Ent} (h : TabAt W tb sb n f) (hb : Below W.heap.size W W') : TabAt W' tb sb n f := ⟨h.tab.next hb, h.slots.next hb, h.pos, h.max, h.ne⟩
theorem TabAt.cell {W : World} {tb sb n : Nat} {f : Nat → Option Ent} (h : TabAt W tb sb n f) {i j : Nat} (hi : i < n) (hj : j < 7) : W.cell? ⟨sb, i * 7 + j, none⟩ = (slotCs (f i))[j]? := (h.slots.cell _).trans (slotsA_at hi hj)
theorem TabAt.seven {W : World} {tb sb n : Nat} {f : Nat → Option Ent} (h : TabAt W tb sb n f) {i : Nat} (hi : i < n) {o : Option Ent} (ho : f i = o) :
    W.cell? ⟨sb, i * 7, none⟩ = (slotCs o)[0]? ∧ W.cell? ⟨sb, i * 7 + 1, none⟩ = (slotCs o)[1]? ∧ W.cell? ⟨sb, i * 7 + 2, none⟩ = (slotCs o)[2]? ∧ W.cell? ⟨sb, i * 7 + 3, none⟩ = (slotCs o)[3]? ∧ W.cell? ⟨sb, i * 7 + 4, none⟩ = (slotCs o)[4]? ∧ W.cell? ⟨sb, i * 7 + 5, none⟩ = (slotCs o)[5]? ∧ W.cell? ⟨sb, i * 7 + 6, none⟩ = (slotCs o)[6]? := by
  subst ho
  exact ⟨h.cell (j := 0) hi (by decide), h.cell (j := 1) hi (by decide), h.cell (j := 2) hi (by decide), h.cell (j := 3) hi (by decide), h.cell (j := 4) hi (by decide), h.cell (j := 5) hi (by decide), h.cell (j := 6) hi (by decide)⟩
theorem TabAt.frozen {W : World} {tb sb n : Nat} {f : Nat → Option Ent} (h : TabAt W tb sb n f) (i : Nat) : W.frozen? ⟨sb, i, none⟩ = false := h.slots.frozen i

set_option maxHeartbeats 1000000 in
theorem tat_nil (k : Nat) (w : World) : Calls Try.prog 18 #[.pointer none, .int .u64 k] w fun e w' => e = .returned (.pointer none) ∧ w' = w := by
  go_enter Try.func18, Try.ntmps18
  go_wp2
  go_ret
  exact ⟨rfl, rfl⟩
set_option maxHeartbeats 1000000 in
theorem tat_is {W : World} {tb sb n : Nat} {f : Nat → Option Ent} (h : TabAt W tb sb n f) (k i : Nat) (hk : k < 18446744073709551616) (hi : k % n = i) : Calls Try.prog 18 #[.pointer (some ⟨tb, 0, none⟩), .int .u64 k] W (Gives W (.pointer (some ⟨sb, i * 7, none⟩))) := by
  unfold Gives
  have hn := h.pos
  have hm := h.max
  have hc : W.cell? ⟨tb, 0, none⟩ = some (.slice (some ⟨sb, 0, none⟩) n n) := h.tab.cell 0
  have hr : (k : Int) % (n : Int) = (i : Int) := by omega
  have hin : (i : Int) < (n : Int) := by have := Nat.mod_lt k hn; omega
  clear h
  go_enter Try.func18, Try.ntmps18
  go_wp2
  go_quiet (fail)
  go_wp2
  go_ret
  exact ⟨rfl, below_drewN (Below.refl _ _) _⟩
theorem known_is (u : Int) (v : Bool) (w : World) (hv : (decide (0 ≤ u) && decide (u ≤ 2)) = v) : Calls Try.prog 19 #[.int .i64 u] w (Gives w (.bool v)) := by
  unfold Gives
  by_cases h0 : 0 ≤ u
  · by_cases h2 : u ≤ 2
    · obtain rfl : v = true := by rw [← hv]; simp [h0, h2]
      clear hv
      go_enter Try.func19, Try.ntmps19
      go_wp2
      go_ret
      exact ⟨rfl, (by repeat (first | exact Below.refl _ _ | (refine Below.setCell ?_ (by first | omega | (simp; done) | (simp; omega) | (simp at *; omega)) _) | (refine Below.alloc ?_ (by first | omega | (simp; done) | (simp; omega) | (simp at *; omega)) _) | refine Below.drew ?_ | (refine below_drewN ?_ _) | (refine Below.trans ?_ (Below.mono (by assumption) (by first | omega | (simp; done) | (simp; omega) | (simp at *; omega))))))⟩
    · obtain rfl : v = false := by rw [← hv]; simp [h2]
      clear hv
      go_enter Try.func19, Try.ntmps19
      go_wp2
      go_ret
      exact ⟨rfl, (by repeat (first | exact Below.refl _ _ | (refine Below.setCell ?_ (by first | omega | (simp; done) | (simp; omega) | (simp at *; omega)) _) | (refine Below.alloc ?_ (by first | omega | (simp; done) | (simp; omega) | (simp at *; omega)) _) | refine Below.drew ?_ | (refine below_drewN ?_ _) | (refine Below.trans ?_ (Below.mono (by assumption) (by first | omega | (simp; done) | (simp; omega) | (simp at *; omega))))))⟩
  · obtain rfl : v = false := by rw [← hv]; simp [h0]
    clear hv
    go_enter Try.func19, Try.ntmps19
    go_wp2
    go_ret
    exact ⟨rfl, (by repeat (first | exact Below.refl _ _ | (refine Below.setCell ?_ (by first | omega | (simp; done) | (simp; omega) | (simp at *; omega)) _) | (refine Below.alloc ?_ (by first | omega | (simp; done) | (simp; omega) | (simp at *; omega)) _) | refine Below.drew ?_ | (refine below_drewN ?_ _) | (refine Below.trans ?_ (Below.mono (by assumption) (by first | omega | (simp; done) | (simp; omega) | (simp at *; omega))))))⟩
/-- Does a slot keep what it has? -/
def keepsB (o : Option Ent) (x : Ent) : Bool := match o with
  | none => false
  | some y => (y.k != x.k) && decide (x.d < y.d)
/-- Does a score settle a search? -/
def settlesB (x : Ent) (low high : Int) : Bool := if x.u = 1 then decide (high ≤ x.s) else if x.u = 2 then decide (x.s ≤ low) else true
set_option maxHeartbeats 1000000 in
theorem settles_is (x : Ent) (low high : Int) (v : Bool) (w : World) (hv : settlesB x low high = v) : Calls Try.prog 22 #[x.v, .int .i64 low, .int .i64 high] w (Gives w (.bool v)) := by
  unfold Gives Ent.v
  obtain ⟨k, d, s, u, a, b⟩ := x
  unfold settlesB at hv
  simp only at hv ⊢
  by_cases h1 : u = 1
  · subst h1
    rw [if_pos rfl] at hv
    go_enter Try.func22, Try.ntmps22
    go_wp2
    go_ret
    exact ⟨rfl, (by repeat (first | exact Below.refl _ _ | (refine Below.setCell ?_ (by first | omega | (simp; done) | (simp; omega) | (simp at *; omega)) _) | (refine Below.alloc ?_ (by first | omega | (simp; done) | (simp; omega) | (simp at *; omega)) _) | refine Below.drew ?_ | (refine below_drewN ?_ _) | (refine Below.trans ?_ (Below.mono (by assumption) (by first | omega | (simp; done) | (simp; omega) | (simp at *; omega))))))⟩
  · rw [if_neg h1] at hv
    have e1 : (u == 1) = false := by rw [beq_eq_false_iff_ne]; exact h1
    by_cases h2 : u = 2
    · subst h2
      rw [if_pos rfl] at hv
      clear h1
      go_enter Try.func22, Try.ntmps22
      go_wp2
      go_ret
      exact ⟨rfl, (by repeat (first | exact Below.refl _ _ | (refine Below.setCell ?_ (by first | omega | (simp; done) | (simp; omega) | (simp at *; omega)) _) | (refine Below.alloc ?_ (by first | omega | (simp; done) | (simp; omega) | (simp at *; omega)) _) | refine Below.drew ?_ | (refine below_drewN ?_ _) | (refine Below.trans ?_ (Below.mono (by assumption) (by first | omega | (simp; done) | (simp; omega) | (simp at *; omega))))))⟩
    · rw [if_neg h2] at hv
      have e2 : (u == 2) = false := by rw [beq_eq_false_iff_ne]; exact h2
      subst hv
      clear h1 h2
      go_enter Try.func22, Try.ntmps22
      go_wp2
      go_ret
      exact ⟨rfl, (by repeat (first | exact Below.refl _ _ | (refine Below.setCell ?_ (by first | omega | (simp; done) | (simp; omega) | (simp at *; omega)) _) | (refine Below.alloc ?_ (by first | omega | (simp; done) | (simp; omega) | (simp at *; omega)) _) | refine Below.drew ?_ | (refine below_drewN ?_ _) | (refine Below.trans ?_ (Below.mono (by assumption) (by first | omega | (simp; done) | (simp; omega) | (simp at *; omega))))))⟩
theorem ent_cells {W : World} {g : Nat} {t : TypeId} {x : Ent} (h : Blk W g t x.cs) : W.cell? ⟨g, 0, none⟩ = some (.int .u64 x.k) ∧ W.cell? ⟨g, 1, none⟩ = some (.int .i64 x.d) ∧ W.cell? ⟨g, 2, none⟩ = some (.int .i64 x.s) ∧ W.cell? ⟨g, 3, none⟩ = some (.int .i64 x.u) ∧ W.cell? ⟨g, 4, none⟩ = some (.int .i64 x.a) ∧ W.cell? ⟨g, 5, none⟩ = some (.int .i64 x.b) := ⟨h.cell 0, h.cell 1, h.cell 2, h.cell 3, h.cell 4, h.cell 5⟩
theorem below_new (w : World) (o : Obj) : Below w.heap.size w (w.alloc o) := (Below.refl _ _).alloc (Nat.le_refl _) _
theorem keepsB_some (y x : Ent) : keepsB (some y) x = ((y.k != x.k) && decide (x.d < y.d)) := rfl
set_option maxHeartbeats 2000000 in
theorem keeps_is {W : World} {tb sb n : Nat} {f : Nat → Option Ent} (h : TabAt W tb sb n f) (i : Nat) (hi : i < n) (o : Option Ent) (ho : f i = o) (x : Ent) (v : Bool) (hv : keepsB o x = v) : Calls Try.prog 20 #[.pointer (some ⟨sb, i * 7, none⟩), x.v] W (Gives W (.bool v)) := by
  unfold Gives Ent.v
  obtain ⟨W0, hW0⟩ : ∃ W0, W.alloc (.cells x.cs 40) = W0 := ⟨_, rfl⟩
  have hB : Below W.heap.size W W0 := by rw [← hW0]; exact below_new _ _
  obtain ⟨e0, e1, e2, e3, e4, e5⟩ := ent_cells (show Blk W0 W.heap.size 40 x.cs by rw [← hW0]; exact Blk.new _ _ _ rfl)
  obtain ⟨c0, c1, c2, c3, c4, c5, c6⟩ := (h.next hB).seven hi ho
  obtain ⟨k, d, s, u, a, b⟩ := x
  have hW0 : W.alloc (.cells #[.int .u64 k, .int .i64 d, .int .i64 s, .int .i64 u, .int .i64 a, .int .i64 b] 40) = W0 := hW0
  have HW := Lib.hid hW0
  cases o with
  | none =>
    obtain rfl : v = false := hv.symm
    replace c6 : W0.cell? ⟨sb, i * 7 + 6, none⟩ = some (.bool false) := c6
    clear c0 c1 c2 c3 c4 c5 h ho hi hW0
    go_enter Try.func20, Try.ntmps20
    go_wp2_with fail
    (try rw [HW.out])
    go_quiet (fail)
    go_wp2
    go_ret
    exact ⟨rfl, below_drewN hB _⟩
  | some y =>
    obtain ⟨k', d', s', u', a', b'⟩ := y
    replace c0 : W0.cell? ⟨sb, i * 7, none⟩ = some (.int .u64 k') := c0
    replace c1 : W0.cell? ⟨sb, i * 7 + 1, none⟩ = some (.int .i64 d') := c1
    replace c6 : W0.cell? ⟨sb, i * 7 + 6, none⟩ = some (.bool true) := c6
    rw [keepsB_some] at hv
    simp only at hv
    by_cases hk : k' = k
    · subst hk
      obtain rfl : v = false := by rw [← hv]; simp
      have hn : ((k' : Int) != (k' : Int)) = false := by simp
      clear c2 c3 c4 c5 h ho hi hW0 hv
      go_enter Try.func20, Try.ntmps20
      go_wp2_with fail
      (try rw [HW.out])
      go_quiet (fail)
      go_wp2
      go_ret
      exact ⟨rfl, below_drewN hB _⟩
    · have hn : ((k' : Int) != (k : Int)) = true := by rw [bne_iff_ne]; omega
      have hv : decide (d < d') = v := by rw [← hv, show (k' != k) = true by rw [bne_iff_ne]; exact hk, Bool.true_and]
      clear c2 c3 c4 c5 h ho hi hW0 hk
      go_enter Try.func20, Try.ntmps20
      go_wp2_with fail
      (try rw [HW.out])
      go_quiet (fail)
      go_wp2
      go_ret
      exact ⟨rfl, below_drewN hB _⟩
/-- Is an entry put? -/
def putB (n : Nat) (f : Nat → Option Ent) (x : Ent) : Bool := decide (0 ≤ x.u) && decide (x.u ≤ 2) && !(keepsB (f (x.k % n)) x)
/-- How putting ends: what the table has then. -/
def Puts (W : World) (tb sb n : Nat) (f : Nat → Option Ent) (x : Ent) (v : Bool) (e : Ending) (w' : World) : Prop := e = .returned (.bool v) ∧ TabAt w' tb sb n (if v then putF f (x.k % n) x else f) ∧ Far (· = sb) W w'
set_option maxHeartbeats 2000000 in
theorem put_nil (x : Ent) (w : World) : Calls Try.prog 9 #[.pointer none, x.v] w (Gives w (.bool false)) := by
  unfold Gives Ent.v
  obtain ⟨W0, hW0⟩ : ∃ W0, w.alloc (.cells x.cs 40) = W0 := ⟨_, rfl⟩
  have hB : Below w.heap.size w W0 := by rw [← hW0]; exact below_new _ _
  obtain ⟨e0, e1, e2, e3, e4, e5⟩ := ent_cells (show Blk W0 w.heap.size 40 x.cs by rw [← hW0]; exact Blk.new _ _ _ rfl)
  obtain ⟨k, d, s, u, a, b⟩ := x
  have hW0 : w.alloc (.cells #[.int .u64 k, .int .i64 d, .int .i64 s, .int .i64 u, .int .i64 a, .int .i64 b] 40) = W0 := hW0
  go_enter Try.func9, Try.ntmps9
  go_wp2_with fail
  (try rw [hW0])
  refine (tat_nil k _).mono ?_
  rintro e w1 ⟨rfl, rfl⟩
  go_wp2
  go_ret
  exact ⟨rfl, hB⟩
theorem set_seven {W : World} {sb i : Nat} {t : TypeId} {cs : Array Value} (h : Blk W sb t cs) (v0 v1 v2 v3 v4 v5 v6 : Value) :
    Blk (((((((W.setCell ⟨sb, i, none⟩ v0).setCell ⟨sb, i + 1, none⟩ v1).setCell ⟨sb, i + 2, none⟩ v2).setCell ⟨sb, i + 3, none⟩ v3).setCell ⟨sb, i + 4, none⟩ v4).setCell ⟨sb, i + 5, none⟩ v5).setCell ⟨sb, i + 6, none⟩ v6) sb t (((((((cs.setIfInBounds i v0).setIfInBounds (i + 1) v1).setIfInBounds (i + 2) v2).setIfInBounds (i + 3) v3).setIfInBounds (i + 4) v4).setIfInBounds (i + 5) v5).setIfInBounds (i + 6) v6) :=
  ((((((h.set_ i v0).set_ (i + 1) v1).set_ (i + 2) v2).set_ (i + 3) v3).set_ (i + 4) v4).set_ (i + 5) v5).set_ (i + 6) v6
theorem far_seven (W : World) (sb i : Nat) (v0 v1 v2 v3 v4 v5 v6 : Value) :
    Far (· = sb) W (((((((W.setCell ⟨sb, i, none⟩ v0).setCell ⟨sb, i + 1, none⟩ v1).setCell ⟨sb, i + 2, none⟩ v2).setCell ⟨sb, i + 3, none⟩ v3).setCell ⟨sb, i + 4, none⟩ v4).setCell ⟨sb, i + 5, none⟩ v5).setCell ⟨sb, i + 6, none⟩ v6) :=
  by
  have h : ∀ (w : World) (j : Nat) (v : Value), Far (· = sb) w (w.setCell ⟨sb, j, none⟩ v) := fun w j v => Far.set (X := fun x => x = sb) (p := ⟨sb, j, none⟩) rfl v
  refine Far.trans ?_ (h _ _ _)
  refine Far.trans ?_ (h _ _ _)
  refine Far.trans ?_ (h _ _ _)
  refine Far.trans ?_ (h _ _ _)
  refine Far.trans ?_ (h _ _ _)
  refine Far.trans ?_ (h _ _ _)
  exact h _ _ _
theorem seven_some {W : World} {tb sb n : Nat} {f : Nat → Option Ent} (h : TabAt W tb sb n f) {i : Nat} (hi : i < n) : ∃ v0 v1 v2 v3 v4 v5 v6, W.cell? ⟨sb, i * 7, none⟩ = some v0 ∧ W.cell? ⟨sb, i * 7 + 1, none⟩ = some v1 ∧ W.cell? ⟨sb, i * 7 + 2, none⟩ = some v2 ∧ W.cell? ⟨sb, i * 7 + 3, none⟩ = some v3 ∧ W.cell? ⟨sb, i * 7 + 4, none⟩ = some v4 ∧ W.cell? ⟨sb, i * 7 + 5, none⟩ = some v5 ∧ W.cell? ⟨sb, i * 7 + 6, none⟩ = some v6 := by
  obtain ⟨o, ho⟩ : ∃ o, f i = o := ⟨_, rfl⟩
  have := h.seven hi ho
  cases o <;> exact ⟨_, _, _, _, _, _, _, this⟩
set_option maxRecDepth 100000 in
set_option maxHeartbeats 4000000 in
theorem put_is {W : World} {tb sb n : Nat} {f : Nat → Option Ent} (h : TabAt W tb sb n f) (x : Ent) (hk : x.k < 18446744073709551616) (v : Bool) (hv : putB n f x = v) : Calls Try.prog 9 #[.pointer (some ⟨tb, 0, none⟩), x.v] W (Puts W tb sb n f x v) := by
  unfold Puts
  obtain ⟨i, hi⟩ : ∃ i, x.k % n = i := ⟨_, rfl⟩
  have hin : i < n := by rw [← hi]; exact Nat.mod_lt _ h.pos
  unfold putB at hv
  rw [hi] at hv ⊢
  obtain ⟨kb, hkb⟩ : ∃ b, (decide (0 ≤ x.u) && decide (x.u ≤ 2)) = b := ⟨_, rfl⟩
  obtain ⟨eb, heb⟩ : ∃ b, keepsB (f i) x = b := ⟨_, rfl⟩
  rw [hkb, heb] at hv
  obtain ⟨W0, hW0⟩ : ∃ W0, W.alloc (.cells x.cs 40) = W0 := ⟨_, rfl⟩
  have hB : Below W.heap.size W W0 := by rw [← hW0]; exact below_new _ _
  have hE : Blk W0 W.heap.size 40 x.cs := by rw [← hW0]; exact Blk.new _ _ _ rfl
  obtain ⟨e0, e1, e2, e3, e4, e5⟩ := ent_cells hE
  have h0 := h.next hB
  have HP := Lib.hid h0
  have HE := Lib.hid hE
  have HK := Lib.hid hi
  have HB := Lib.hid hB
  have HKB := Lib.hid hkb
  have HEB := Lib.hid heb
  have HIN := Lib.hid hin
  have HKK := Lib.hid hk
  obtain ⟨X, hX⟩ : ∃ X, X = x := ⟨_, rfl⟩
  have HX := Lib.hid hX
  rw [← hX] at HE HEB HKB HK HKK
  obtain ⟨k, d, s, u, a, b⟩ := x
  have hW0 : W.alloc (.cells #[.int .u64 k, .int .i64 d, .int .i64 s, .int .i64 u, .int .i64 a, .int .i64 b] 40) = W0 := hW0
  have HW := Lib.hid hW0
  clear hX hkb heb hi hE h0 hB hW0 h
  unfold Ent.v
  go_enter Try.func9, Try.ntmps9
  go_wp2_with fail
  (try rw [HW.out])
  refine (tat_is HP.out k i hk (by have := HK.out; rw [HX.out] at this; exact this)).mono ?_
  rintro e w1 ⟨rfl, hb1⟩
  have HP1 := Lib.hid (HP.out.next hb1)
  have HE1 := Lib.hid (HE.out.next hb1)
  have HB1 := Lib.hid (HB.out.trans (hb1.mono HB.out.size))
  obtain ⟨e0, e1, e2, e3, e4, e5⟩ := ent_cells HE1.out
  rw [HX.out] at e0 e1 e2 e3 e4 e5
  clear hb1
  go_wp2_with fail
  refine (known_is u kb _ (by have := HKB.out; rw [HX.out] at this; exact this)).mono ?_
  rintro e w2 ⟨rfl, hb2⟩
  have HP2 := Lib.hid (HP1.out.next hb2)
  have HE2 := Lib.hid (HE1.out.next hb2)
  have HB2 := Lib.hid (HB1.out.trans (hb2.mono HB1.out.size))
  cases kb with
  | false =>
    obtain rfl : v = false := hv.symm
    clear hb2 e0 e1 e2 e3 e4 e5
    go_wp2_with fail
    go_ret
    exact ⟨rfl, HP2.out, Far.of HB2.out⟩
  | true =>
    obtain ⟨e0, e1, e2, e3, e4, e5⟩ := ent_cells HE2.out
    rw [HX.out] at e0 e1 e2 e3 e4 e5
    clear hb2
    go_wp2_with fail
    refine (keeps_is HP2.out i HIN.out _ rfl ⟨k, d, s, u, a, b⟩ eb (by have := HEB.out; rw [HX.out] at this; exact this)).mono ?_
    rintro e w3 ⟨rfl, hb3⟩
    have HP3 := Lib.hid (HP2.out.next hb3)
    have HE3 := Lib.hid (HE2.out.next hb3)
    have HB3 := Lib.hid (HB2.out.trans (hb3.mono HB2.out.size))
    cases eb with
    | true =>
      obtain rfl : v = false := hv.symm
      clear hb3 e0 e1 e2 e3 e4 e5
      go_wp2_with fail
      go_ret
      exact ⟨rfl, HP3.out, Far.of HB3.out⟩
    | false =>
      obtain rfl : v = true := hv.symm
      obtain ⟨e0, e1, e2, e3, e4, e5⟩ := ent_cells HE3.out
      rw [HX.out] at e0 e1 e2 e3 e4 e5
      obtain ⟨v0, v1, v2, v3, v4, v5, v6, s0, s1, s2, s3, s4, s5, s6⟩ := seven_some HP3.out HIN.out
      have z0 := HP3.out.frozen (i * 7)
      have z1 := HP3.out.frozen (i * 7 + 1)
      have z2 := HP3.out.frozen (i * 7 + 2)
      have z3 := HP3.out.frozen (i * 7 + 3)
      have z4 := HP3.out.frozen (i * 7 + 4)
      have z5 := HP3.out.frozen (i * 7 + 5)
      have z6 := HP3.out.frozen (i * 7 + 6)
      clear hb3
      go_wp2_with fail
      go_ret
      have hf := far_seven w3 sb (i * 7) (.int .u64 k) (.int .i64 d) (.int .i64 s) (.int .i64 u) (.int .i64 a) (.int .i64 b) (.bool true)
      have hs := set_seven (i := i * 7) HP3.out.slots (.int .u64 k) (.int .i64 d) (.int .i64 s) (.int .i64 u) (.int .i64 a) (.int .i64 b) (.bool true)
      have he := slotsA_put (f := f) HIN.out ⟨k, d, s, u, a, b⟩
      rw [he] at hs
      exact ⟨rfl, ⟨hf.blk HP3.out.tab HP3.out.ne, hs, HP3.out.pos, HP3.out.max, HP3.out.ne⟩, (Far.of HB3.out).trans hf⟩
/-- What a key's slot answers. -/
def getO (n : Nat) (f : Nat → Option Ent) (k : Nat) : Option Ent := match f (k % n) with
  | none => none
  | some y => if y.k = k then some y else none
def getV : Option Ent → Value
  | none => .tuple #[ent0.v, .bool false]
  | some y => .tuple #[y.v, .bool true]
theorem set_six (v0 v1 v2 v3 v4 v5 u0 u1 u2 u3 u4 u5 : Value) : ((((((#[v0, v1, v2, v3, v4, v5] : Array Value).setIfInBounds 0 u0).setIfInBounds 1 u1).setIfInBounds 2 u2).setIfInBounds 3 u3).setIfInBounds 4 u4).setIfInBounds 5 u5 = #[u0, u1, u2, u3, u4, u5] := by simp
theorem ent_result {W : World} {g : Nat} {t : TypeId} {v0 v1 v2 v3 v4 v5 : Value} (h : Blk W g t #[v0, v1, v2, v3, v4, v5]) (x : Ent) : Blk ((((((W.setCell ⟨g, 0, none⟩ (.int .u64 x.k)).setCell ⟨g, 1, none⟩ (.int .i64 x.d)).setCell ⟨g, 2, none⟩ (.int .i64 x.s)).setCell ⟨g, 3, none⟩ (.int .i64 x.u)).setCell ⟨g, 4, none⟩ (.int .i64 x.a)).setCell ⟨g, 5, none⟩ (.int .i64 x.b)) g t x.cs := by
  have := (((((h.set_ 0 (.int .u64 x.k)).set_ 1 (.int .i64 x.d)).set_ 2 (.int .i64 x.s)).set_ 3 (.int .i64 x.u)).set_ 4 (.int .i64 x.a)).set_ 5 (.int .i64 x.b)
  rw [set_six] at this
  exact this
theorem ent_below {w W : World} {g : Nat} (h : Below w.heap.size w W) (hg : w.heap.size ≤ g) (x : Ent) : Below w.heap.size w ((((((W.setCell ⟨g, 0, none⟩ (.int .u64 x.k)).setCell ⟨g, 1, none⟩ (.int .i64 x.d)).setCell ⟨g, 2, none⟩ (.int .i64 x.s)).setCell ⟨g, 3, none⟩ (.int .i64 x.u)).setCell ⟨g, 4, none⟩ (.int .i64 x.a)).setCell ⟨g, 5, none⟩ (.int .i64 x.b)) :=
  (((((h.setCell (p := ⟨g, 0, none⟩) hg _).setCell (p := ⟨g, 1, none⟩) hg _).setCell (p := ⟨g, 2, none⟩) hg _).setCell (p := ⟨g, 3, none⟩) hg _).setCell (p := ⟨g, 4, none⟩) hg _).setCell (p := ⟨g, 5, none⟩) hg _
abbrev E0 : Array Value := #[.int .u64 0, .int .i64 0, .int .i64 0, .int .i64 0, .int .i64 0, .int .i64 0]
theorem e0_cells {W : World} {g : Nat} {t : TypeId} (h : Blk W g t E0) : (W.cell? ⟨g, 0, none⟩ = some (.int .u64 0) ∧ W.cell? ⟨g, 1, none⟩ = some (.int .i64 0) ∧ W.cell? ⟨g, 2, none⟩ = some (.int .i64 0) ∧ W.cell? ⟨g, 3, none⟩ = some (.int .i64 0) ∧ W.cell? ⟨g, 4, none⟩ = some (.int .i64 0) ∧ W.cell? ⟨g, 5, none⟩ = some (.int .i64 0)) ∧ W.frozen? ⟨g, 0, none⟩ = false ∧ W.frozen? ⟨g, 1, none⟩ = false ∧ W.frozen? ⟨g, 2, none⟩ = false ∧ W.frozen? ⟨g, 3, none⟩ = false ∧ W.frozen? ⟨g, 4, none⟩ = false ∧ W.frozen? ⟨g, 5, none⟩ = false :=
  ⟨⟨h.cell 0, h.cell 1, h.cell 2, h.cell 3, h.cell 4, h.cell 5⟩, h.frozen 0, h.frozen 1, h.frozen 2, h.frozen 3, h.frozen 4, h.frozen 5⟩
/-- How Get ends: its answer lies in the result's block. -/
theorem get_end {w W : World} {g : Nat} {t : TypeId} (h : Blk W g t E0) (hb : Below w.heap.size w W) (hg : w.heap.size ≤ g) (k : Nat) (d s u a b : Int) : ∀ W9, W9 = ((((((W.setCell ⟨g, 0, none⟩ (.int .u64 k)).setCell ⟨g, 1, none⟩ (.int .i64 d)).setCell ⟨g, 2, none⟩ (.int .i64 s)).setCell ⟨g, 3, none⟩ (.int .i64 u)).setCell ⟨g, 4, none⟩ (.int .i64 a)).setCell ⟨g, 5, none⟩ (.int .i64 b)) → Blk W9 g t (Ent.mk k d s u a b).cs ∧ Below w.heap.size w W9 := by
  rintro W9 rfl
  exact ⟨ent_result h ⟨k, d, s, u, a, b⟩, ent_below hb hg ⟨k, d, s, u, a, b⟩⟩
set_option maxRecDepth 100000 in
set_option maxHeartbeats 2000000 in
theorem get_nil (k : Nat) (w : World) : Calls Try.prog 12 #[.pointer none, .int .u64 k] w (Gives w (getV none)) := by
  unfold Gives getV
  obtain ⟨W0, hW0⟩ : ∃ W0, w.alloc (.cells E0 40) = W0 := ⟨_, rfl⟩
  have hB : Below w.heap.size w W0 := by rw [← hW0]; exact below_new _ _
  have hE : Blk W0 w.heap.size 40 E0 := by rw [← hW0]; exact Blk.new _ _ _ rfl
  go_enter Try.func12, Try.ntmps12
  go_wp2_with fail
  (try rw [hW0])
  refine (tat_nil k _).mono ?_
  rintro e w1 ⟨rfl, rfl⟩
  obtain ⟨⟨e0, e1, e2, e3, e4, e5⟩, f0, f1, f2, f3, f4, f5⟩ := e0_cells hE
  clear hW0
  go_wp2
  obtain ⟨W9, hW9⟩ : ∃ x, ((((((w1.setCell ⟨w.heap.size, 0, none⟩ (.int .u64 0)).setCell ⟨w.heap.size, 1, none⟩ (.int .i64 0)).setCell ⟨w.heap.size, 2, none⟩ (.int .i64 0)).setCell ⟨w.heap.size, 3, none⟩ (.int .i64 0)).setCell ⟨w.heap.size, 4, none⟩ (.int .i64 0)).setCell ⟨w.heap.size, 5, none⟩ (.int .i64 0)) = x := ⟨_, rfl⟩
  obtain ⟨hr, hb⟩ := get_end hE hB (Nat.le_refl _) 0 0 0 0 0 0 W9 hW9.symm
  rw [hW9]
  clear e0 e1 e2 e3 e4 e5 f0 f1 f2 f3 f4 f5 hW9
  obtain ⟨e0, e1, e2, e3, e4, e5⟩ := ent_cells hr
  simp only at e0 e1 e2 e3 e4 e5
  exact bodyPost_ret (v := .tuple #[ent0.v, .bool false]) (by simp [results, Try.results12, go_sem, Ent.v, ent0, e0, e1, e2, e3, e4, e5]) rfl ⟨rfl, hb⟩
set_option maxRecDepth 100000 in
set_option maxHeartbeats 4000000 in
theorem get_is {W : World} {tb sb n : Nat} {f : Nat → Option Ent} (h : TabAt W tb sb n f) (k : Nat) (hk : k < 18446744073709551616) (o : Option Ent) (ho : getO n f k = o) : Calls Try.prog 12 #[.pointer (some ⟨tb, 0, none⟩), .int .u64 k] W (Gives W (getV o)) := by
  unfold Gives
  obtain ⟨i, hi⟩ : ∃ i, k % n = i := ⟨_, rfl⟩
  have hin : i < n := by rw [← hi]; exact Nat.mod_lt _ h.pos
  unfold getO at ho
  rw [hi] at ho
  obtain ⟨W0, hW0⟩ : ∃ W0, W.alloc (.cells E0 40) = W0 := ⟨_, rfl⟩
  have hB : Below W.heap.size W W0 := by rw [← hW0]; exact below_new _ _
  have hE : Blk W0 W.heap.size 40 E0 := by rw [← hW0]; exact Blk.new _ _ _ rfl
  have HP := Lib.hid (h.next hB)
  have HE := Lib.hid hE
  have HB := Lib.hid hB
  have HI := Lib.hid hi
  have HIN := Lib.hid hin
  have HKK := Lib.hid hk
  have HW := Lib.hid hW0
  clear h hin hk hi hE hB hW0
  obtain ⟨q, hq⟩ : ∃ q, f i = q := ⟨_, rfl⟩
  rw [hq] at ho
  have HQ := Lib.hid hq
  clear hq
  cases q with
  | none =>
    obtain rfl : o = none := ho.symm
    go_enter Try.func12, Try.ntmps12
    go_wp2_with fail
    (try rw [HW.out])
    refine (tat_is HP.out k i HKK.out HI.out).mono ?_
    rintro e w1 ⟨rfl, hb1⟩
    have HB1 := Lib.hid (HB.out.trans (hb1.mono HB.out.size))
    have HE1 := Lib.hid (HE.out.next hb1)
    obtain ⟨⟨e0, e1, e2, e3, e4, e5⟩, f0, f1, f2, f3, f4, f5⟩ := e0_cells HE1.out
    obtain ⟨c0, c1, c2, c3, c4, c5, c6⟩ := (HP.out.next hb1).seven HIN.out HQ.out
    replace c6 : w1.cell? ⟨sb, i * 7 + 6, none⟩ = some (.bool false) := c6
    clear c0 c1 c2 c3 c4 c5 ho hb1
    go_wp2_with fail
    obtain ⟨W9, hW9⟩ : ∃ x, ((((((w1.setCell ⟨W.heap.size, 0, none⟩ (.int .u64 0)).setCell ⟨W.heap.size, 1, none⟩ (.int .i64 0)).setCell ⟨W.heap.size, 2, none⟩ (.int .i64 0)).setCell ⟨W.heap.size, 3, none⟩ (.int .i64 0)).setCell ⟨W.heap.size, 4, none⟩ (.int .i64 0)).setCell ⟨W.heap.size, 5, none⟩ (.int .i64 0)) = x := ⟨_, rfl⟩
    obtain ⟨hr, hb⟩ := get_end HE1.out HB1.out (Nat.le_refl _) 0 0 0 0 0 0 W9 hW9.symm
    rw [hW9]
    clear e0 e1 e2 e3 e4 e5 f0 f1 f2 f3 f4 f5 hW9
    obtain ⟨e0, e1, e2, e3, e4, e5⟩ := ent_cells hr
    simp only at e0 e1 e2 e3 e4 e5
    exact bodyPost_ret (v := .tuple #[ent0.v, .bool false]) (by simp [results, Try.results12, go_sem, Ent.v, ent0, e0, e1, e2, e3, e4, e5]) rfl ⟨rfl, hb⟩
  | some y =>
    obtain ⟨k', d', s', u', a', b'⟩ := y
    simp only at ho
    by_cases hkk : k' = k
    · subst hkk
      rw [if_pos rfl] at ho
      subst ho
      have hn : ((k' : Int) != (k' : Int)) = false := by simp
      go_enter Try.func12, Try.ntmps12
      go_wp2_with fail
      (try rw [HW.out])
      refine (tat_is HP.out k' i HKK.out HI.out).mono ?_
      rintro e w1 ⟨rfl, hb1⟩
      have HB1 := Lib.hid (HB.out.trans (hb1.mono HB.out.size))
      have HE1 := Lib.hid (HE.out.next hb1)
      obtain ⟨⟨e0, e1, e2, e3, e4, e5⟩, f0, f1, f2, f3, f4, f5⟩ := e0_cells HE1.out
      obtain ⟨c0, c1, c2, c3, c4, c5, c6⟩ := (HP.out.next hb1).seven HIN.out HQ.out
      replace c0 : w1.cell? ⟨sb, i * 7, none⟩ = some (.int .u64 k') := c0
      replace c1 : w1.cell? ⟨sb, i * 7 + 1, none⟩ = some (.int .i64 d') := c1
      replace c2 : w1.cell? ⟨sb, i * 7 + 2, none⟩ = some (.int .i64 s') := c2
      replace c3 : w1.cell? ⟨sb, i * 7 + 3, none⟩ = some (.int .i64 u') := c3
      replace c4 : w1.cell? ⟨sb, i * 7 + 4, none⟩ = some (.int .i64 a') := c4
      replace c5 : w1.cell? ⟨sb, i * 7 + 5, none⟩ = some (.int .i64 b') := c5
      replace c6 : w1.cell? ⟨sb, i * 7 + 6, none⟩ = some (.bool true) := c6
      clear hb1
      go_wp2_with fail
      obtain ⟨W9, hW9⟩ : ∃ x, ((((((w1.setCell ⟨W.heap.size, 0, none⟩ (.int .u64 k')).setCell ⟨W.heap.size, 1, none⟩ (.int .i64 d')).setCell ⟨W.heap.size, 2, none⟩ (.int .i64 s')).setCell ⟨W.heap.size, 3, none⟩ (.int .i64 u')).setCell ⟨W.heap.size, 4, none⟩ (.int .i64 a')).setCell ⟨W.heap.size, 5, none⟩ (.int .i64 b')) = x := ⟨_, rfl⟩
      obtain ⟨hr, hb⟩ := get_end HE1.out HB1.out (Nat.le_refl _) k' d' s' u' a' b' W9 hW9.symm
      rw [hW9]
      clear e0 e1 e2 e3 e4 e5 f0 f1 f2 f3 f4 f5 hW9
      obtain ⟨e0, e1, e2, e3, e4, e5⟩ := ent_cells hr
      simp only at e0 e1 e2 e3 e4 e5
      exact bodyPost_ret (v := .tuple #[(Ent.mk k' d' s' u' a' b').v, .bool true]) (by simp [results, Try.results12, go_sem, Ent.v, e0, e1, e2, e3, e4, e5]) rfl ⟨rfl, hb⟩
    · rw [if_neg hkk] at ho
      subst ho
      have hn : ((k' : Int) != (k : Int)) = true := by rw [bne_iff_ne]; omega
      clear hkk
      go_enter Try.func12, Try.ntmps12
      go_wp2_with fail
      (try rw [HW.out])
      refine (tat_is HP.out k i HKK.out HI.out).mono ?_
      rintro e w1 ⟨rfl, hb1⟩
      have HB1 := Lib.hid (HB.out.trans (hb1.mono HB.out.size))
      have HE1 := Lib.hid (HE.out.next hb1)
      obtain ⟨⟨e0, e1, e2, e3, e4, e5⟩, f0, f1, f2, f3, f4, f5⟩ := e0_cells HE1.out
      obtain ⟨c0, c1, c2, c3, c4, c5, c6⟩ := (HP.out.next hb1).seven HIN.out HQ.out
      replace c0 : w1.cell? ⟨sb, i * 7, none⟩ = some (.int .u64 k') := c0
      replace c1 : w1.cell? ⟨sb, i * 7 + 1, none⟩ = some (.int .i64 d') := c1
      replace c2 : w1.cell? ⟨sb, i * 7 + 2, none⟩ = some (.int .i64 s') := c2
      replace c3 : w1.cell? ⟨sb, i * 7 + 3, none⟩ = some (.int .i64 u') := c3
      replace c4 : w1.cell? ⟨sb, i * 7 + 4, none⟩ = some (.int .i64 a') := c4
      replace c5 : w1.cell? ⟨sb, i * 7 + 5, none⟩ = some (.int .i64 b') := c5
      replace c6 : w1.cell? ⟨sb, i * 7 + 6, none⟩ = some (.bool true) := c6
      clear hb1
      go_wp2_with fail
      obtain ⟨W9, hW9⟩ : ∃ x, ((((((w1.setCell ⟨W.heap.size, 0, none⟩ (.int .u64 0)).setCell ⟨W.heap.size, 1, none⟩ (.int .i64 0)).setCell ⟨W.heap.size, 2, none⟩ (.int .i64 0)).setCell ⟨W.heap.size, 3, none⟩ (.int .i64 0)).setCell ⟨W.heap.size, 4, none⟩ (.int .i64 0)).setCell ⟨W.heap.size, 5, none⟩ (.int .i64 0)) = x := ⟨_, rfl⟩
      obtain ⟨hr, hb⟩ := get_end HE1.out HB1.out (Nat.le_refl _) 0 0 0 0 0 0 W9 hW9.symm
      rw [hW9]
      clear e0 e1 e2 e3 e4 e5 f0 f1 f2 f3 f4 f5 hW9
      obtain ⟨e0, e1, e2, e3, e4, e5⟩ := ent_cells hr
      simp only at e0 e1 e2 e3 e4 e5
      exact bodyPost_ret (v := .tuple #[ent0.v, .bool false]) (by simp [results, Try.results12, go_sem, Ent.v, ent0, e0, e1, e2, e3, e4, e5]) rfl ⟨rfl, hb⟩
end Go.Proofs.Ytgmbigdkipkibaa
