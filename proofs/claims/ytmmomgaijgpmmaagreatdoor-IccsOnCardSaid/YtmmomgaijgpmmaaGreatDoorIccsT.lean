/- What the call that reads a line answers. -/
import Derived.Test.YtmmomgaijgpmmaaGreatDoorIccsS
import Derived.Test.YtmmomgaijgpmmaaGreatDoorIccsQ
import Derived.Test.YtmmomgaijgpmmaaGreatDoorIccsE
import Derived.Deep.AppendLies
import Derived.Deep.RegionLaw
namespace Go.Proofs.YtmmomgaijgpmmaaGreatDoor
open Go.RowKit Go.Shelf Go.Proofs.YtmmomgaijgpmmaaGreatDoor.F Go.Proofs.YtmmomgaijgpmmaaGreatDoor.I Go
open M (S)

attribute [local go_sem] Oper.semAt_some

/-- Moves, as they lie in memory. -/
def mvl (l : List (Int × Int)) : List Value := l.flatMap fun m => [.int .i64 m.1, .int .i64 m.2]
theorem mvl_snoc (l : List (Int × Int)) (a b : Int) : mvl (l ++ [(a, b)]) = mvl l ++ [.int .i64 a, .int .i64 b] := by simp [mvl]
theorem mvl_len (l : List (Int × Int)) : (mvl l).length = l.length * 2 := by
  induction l with
  | nil => rfl
  | cons x l ih =>
    show (_ :: _ :: mvl l).length = _
    rw [List.length_cons, List.length_cons, ih, List.length_cons]
    omega
theorem seq_is (s : ByteArray) (w : World) : Calls Tryz.prog 32 #[.string s, .string ⟨#[32]⟩] w fun e w' => e = .returned (.func (.func 66) #[] #[.pointer (some ⟨w.heap.size + 1, 0, none⟩), .pointer (some ⟨w.heap.size, 0, none⟩), .pointer (some ⟨w.heap.size + 2, 0, none⟩)]) ∧
    w' = ((w.alloc (.cells #[.string s] 9)).alloc (.cells #[.string ⟨#[32]⟩] 9)).alloc (.cells #[.int .i64 0] 3) := by
  go_enter Tryz.func32, Tryz.ntmps32
  go_wp2
  go_ret
  exact ⟨rfl, rfl⟩
theorem row_on {w w1 : World} {base : Nat} {e : TypeId} {size : Nat} {v : Value} {n : Nat} {xs : List Value} (h : w.ownsRow base e size v n xs) (hb : ∀ (k : Nat) (cs : Array Value) (t : TypeId) (z : Nat × Nat), w.heap[k]? = some (.cells cs t z) → base ≤ k → v.ownBlock = some k → w1.heap[k]? = w.heap[k]?) : w1.ownsRow base e size v n xs := by
  refine ⟨h.1, ?_⟩
  rcases h.2 with hn | ⟨g, cap, cur, rfl, hbs, hc, hr⟩
  · exact .inl hn
  · exact .inr ⟨g, cap, cur, rfl, hbs, (hb g _ _ _ hc hbs rfl).trans hc, hr⟩
theorem below_put {w W : World} {l : Nat} {o o' : Obj} (hb : Below w.heap.size w W) (hl : w.heap.size ≤ l) (_ : W.heap[l]? = some o) : Below w.heap.size w (W.putObj l o') :=
  hb.trans ((Below.refl w.heap.size W).grown (grownBy_putObj' W l o') hb.size (fun k e => by cases e; exact hl))
theorem blk_put {W : World} {g l : Nat} {t : TypeId} {cs : Array Value} (h : Blk W g t cs) (o' : Obj) (hne : g ≠ l) : Blk (W.putObj l o') g t cs := (World.putObj_heap_other hne).trans h
theorem pk {X : World} {H : Nat} {s : ByteArray} {y z u : Int} (h : X.cell? ⟨H, 0, none⟩ = some (.string s) ∧ X.cell? ⟨H, 1, none⟩ = some (.int .i64 y) ∧ X.cell? ⟨H, 2, none⟩ = some (.int .i64 z) ∧ X.cell? ⟨H, 3, none⟩ = some (.int .i64 u)) (p : Addr) (v : Value) (hne : p.block ≠ H) : (X.setCell p v).cell? ⟨H, 0, none⟩ = some (.string s) ∧ (X.setCell p v).cell? ⟨H, 1, none⟩ = some (.int .i64 y) ∧ (X.setCell p v).cell? ⟨H, 2, none⟩ = some (.int .i64 z) ∧ (X.setCell p v).cell? ⟨H, 3, none⟩ = some (.int .i64 u) := by
  obtain ⟨h0, h1, h2, h3⟩ := h
  exact ⟨(World.cell?_setCell_far _ _ _ _ hne).trans h0, (World.cell?_setCell_far _ _ _ _ hne).trans h1, (World.cell?_setCell_far _ _ _ _ hne).trans h2, (World.cell?_setCell_far _ _ _ _ hne).trans h3⟩
theorem pk_dr {X : World} {H : Nat} {s : ByteArray} {y z u : Int} (h : X.cell? ⟨H, 0, none⟩ = some (.string s) ∧ X.cell? ⟨H, 1, none⟩ = some (.int .i64 y) ∧ X.cell? ⟨H, 2, none⟩ = some (.int .i64 z) ∧ X.cell? ⟨H, 3, none⟩ = some (.int .i64 u)) : X.drew.cell? ⟨H, 0, none⟩ = some (.string s) ∧ X.drew.cell? ⟨H, 1, none⟩ = some (.int .i64 y) ∧ X.drew.cell? ⟨H, 2, none⟩ = some (.int .i64 z) ∧ X.drew.cell? ⟨H, 3, none⟩ = some (.int .i64 u) := h
theorem pk_un {X : World} {H : Nat} {s : ByteArray} {y z u : Int} (h : X.drew.cell? ⟨H, 0, none⟩ = some (.string s) ∧ X.drew.cell? ⟨H, 1, none⟩ = some (.int .i64 y) ∧ X.drew.cell? ⟨H, 2, none⟩ = some (.int .i64 z) ∧ X.drew.cell? ⟨H, 3, none⟩ = some (.int .i64 u)) : X.cell? ⟨H, 0, none⟩ = some (.string s) ∧ X.cell? ⟨H, 1, none⟩ = some (.int .i64 y) ∧ X.cell? ⟨H, 2, none⟩ = some (.int .i64 z) ∧ X.cell? ⟨H, 3, none⟩ = some (.int .i64 u) := h
theorem pg {X : World} {H g : Nat} {s : ByteArray} {y z u : Int} {e : Value} (h : X.cell? ⟨H, 0, none⟩ = some (.string s) ∧ X.cell? ⟨H, 1, none⟩ = some (.int .i64 y) ∧ X.cell? ⟨H, 2, none⟩ = some (.int .i64 z) ∧ X.cell? ⟨H, 3, none⟩ = some (.int .i64 u) ∧ X.cell? ⟨g, 0, none⟩ = some e) (p : Addr) (v : Value) (hne : p.block ≠ H) (hng : p.block ≠ g) : (X.setCell p v).cell? ⟨H, 0, none⟩ = some (.string s) ∧ (X.setCell p v).cell? ⟨H, 1, none⟩ = some (.int .i64 y) ∧ (X.setCell p v).cell? ⟨H, 2, none⟩ = some (.int .i64 z) ∧ (X.setCell p v).cell? ⟨H, 3, none⟩ = some (.int .i64 u) ∧ (X.setCell p v).cell? ⟨g, 0, none⟩ = some e := by
  obtain ⟨h0, h1, h2, h3, h4⟩ := h
  exact ⟨(World.cell?_setCell_far _ _ _ _ hne).trans h0, (World.cell?_setCell_far _ _ _ _ hne).trans h1, (World.cell?_setCell_far _ _ _ _ hne).trans h2, (World.cell?_setCell_far _ _ _ _ hne).trans h3, (World.cell?_setCell_far _ _ _ _ hng).trans h4⟩
theorem pg_dr {X : World} {H g : Nat} {s : ByteArray} {y z u : Int} {e : Value} (h : X.cell? ⟨H, 0, none⟩ = some (.string s) ∧ X.cell? ⟨H, 1, none⟩ = some (.int .i64 y) ∧ X.cell? ⟨H, 2, none⟩ = some (.int .i64 z) ∧ X.cell? ⟨H, 3, none⟩ = some (.int .i64 u) ∧ X.cell? ⟨g, 0, none⟩ = some e) : X.drew.cell? ⟨H, 0, none⟩ = some (.string s) ∧ X.drew.cell? ⟨H, 1, none⟩ = some (.int .i64 y) ∧ X.drew.cell? ⟨H, 2, none⟩ = some (.int .i64 z) ∧ X.drew.cell? ⟨H, 3, none⟩ = some (.int .i64 u) ∧ X.drew.cell? ⟨g, 0, none⟩ = some e := h
theorem pg_un {X : World} {H g : Nat} {s : ByteArray} {y z u : Int} {e : Value} (h : X.drew.cell? ⟨H, 0, none⟩ = some (.string s) ∧ X.drew.cell? ⟨H, 1, none⟩ = some (.int .i64 y) ∧ X.drew.cell? ⟨H, 2, none⟩ = some (.int .i64 z) ∧ X.drew.cell? ⟨H, 3, none⟩ = some (.int .i64 u) ∧ X.drew.cell? ⟨g, 0, none⟩ = some e) : X.cell? ⟨H, 0, none⟩ = some (.string s) ∧ X.cell? ⟨H, 1, none⟩ = some (.int .i64 y) ∧ X.cell? ⟨H, 2, none⟩ = some (.int .i64 z) ∧ X.cell? ⟨H, 3, none⟩ = some (.int .i64 u) ∧ X.cell? ⟨g, 0, none⟩ = some e := h
theorem cell_blk {X Y : World} {k : Nat} (h : Y.heap[k]? = X.heap[k]?) (i : Nat) : Y.cell? ⟨k, i, none⟩ = X.cell? ⟨k, i, none⟩ := by simp [World.cell?, h]
/-- Two boxes that stay. -/
def Two6 (G1 G2 : Nat) (a b : Int) (s : ByteArray) (y z u : Int) (X : World) : Prop := X.cell? ⟨G1, 0, none⟩ = some (.int .i64 a) ∧ X.cell? ⟨G1, 1, none⟩ = some (.int .i64 b) ∧ X.cell? ⟨G2, 0, none⟩ = some (.string s) ∧ X.cell? ⟨G2, 1, none⟩ = some (.int .i64 y) ∧ X.cell? ⟨G2, 2, none⟩ = some (.int .i64 z) ∧ X.cell? ⟨G2, 3, none⟩ = some (.int .i64 u)
theorem Two6.keep {G1 G2 : Nat} {a b : Int} {s : ByteArray} {y z u : Int} {X Y : World} (h : Two6 G1 G2 a b s y z u X) (h1 : Y.heap[G1]? = X.heap[G1]?) (h2 : Y.heap[G2]? = X.heap[G2]?) : Two6 G1 G2 a b s y z u Y := by
  obtain ⟨c0, c1, c2, c3, c4, c5⟩ := h
  exact ⟨(cell_blk h1 0).trans c0, (cell_blk h1 1).trans c1, (cell_blk h2 0).trans c2, (cell_blk h2 1).trans c3, (cell_blk h2 2).trans c4, (cell_blk h2 3).trans c5⟩
theorem row_has {w : World} {base : Nat} {e : TypeId} {size : Nat} {v : Value} {n : Nat} {xs : List Value} (h : w.ownsRow base e size v n xs) {k : Nat} (hk : v.ownBlock = some k) : base ≤ k ∧ k < w.heap.size := by
  rcases h.2 with ⟨rfl, _⟩ | ⟨g, cap, cur, rfl, hb, hc, _⟩
  · cases hk
  · have : g = k := by simpa [Value.ownBlock] using hk
    subst this
    exact ⟨hb, (Array.getElem?_eq_some_iff.1 hc).1⟩
theorem info_mv12 : (Tryz.prog.info? 23).map (fun i => (i.zero, i.size, i.bytes)) = some (some (.agg #[.int .i64 0, .int .i64 0]), 2, 16) := by kernel_rfl
theorem info_parts12 {P : Program} {t : TypeId} {z : Value} {n m : Nat} (h : (P.info? t).map (fun i => (i.zero, i.size, i.bytes)) = some (some z, n, m)) : ∃ i, P.info? t = some i ∧ i.zero = some z ∧ i.size = n ∧ i.bytes = m := by
  obtain ⟨i, hi, he⟩ := Option.map_eq_some_iff.1 h
  simp only [Prod.mk.injEq] at he
  exact ⟨i, hi, he.1, he.2.1, he.2.2⟩
theorem keeps_below {B : Nat} {W W' : World} (hb : Below W.heap.size W W') : KeepsFrom B W W' := ⟨hb.size, fun k _ _ hk _ => (hb.block k (Array.getElem?_eq_some_iff.1 hk).1).trans hk⟩
theorem row_slice {w : World} {base : Nat} {e : TypeId} {size : Nat} {v : Value} {n : Nat} {xs : List Value} (h : w.ownsRow base e size v n xs) : ∃ A c, v = .slice A n c := by
  rcases h.2 with ⟨rfl, h0⟩ | ⟨g, cap, cur, rfl, _⟩
  · exact ⟨none, 0, by rw [h0]⟩
  · exact ⟨_, _, rfl⟩
/-- Where the reading of a line stands. -/
structure LS where
  ms : List (Int × Int)
  p : Pz
  cur : List UInt8
  todo : List (List UInt8)
/-- How memory lies between two words. H: how many blocks there were ahead of the call; p0, ws: the position that came in, the words. -/
structure LI (w : World) (H : Nat) (p0 : Pz) (ws : List (List UInt8)) (s : LS) (W : World) : Prop where
  hH : w.heap.size = H
  pos : Blk W H 32 #[.string s.p.s, .int .i64 s.p.y, .int .i64 s.p.z, .int .i64 s.p.u]
  r1 : Blk W (H + 1) 33 #[.slice none 0 0]
  r2 : Blk W (H + 2) 32 #[.string ⟨#[]⟩, .int .i64 0, .int .i64 0, .int .i64 0]
  r3 : Blk W (H + 3) 42 #[.nilIface]
  mb : ∃ v, Blk W (H + 4) 33 #[v] ∧ W.ownsRow (H + 8) 23 2 v s.ms.length (mvl s.ms)
  sb : Blk W (H + 5) 9 #[.string (bs s.cur)]
  sep : Blk W (H + 6) 9 #[.string ⟨#[32]⟩]
  sav : Blk W (H + 7) 3 #[.int .i64 0]
  bel : Below w.heap.size w W
  sz : H + 8 ≤ W.heap.size
  cl : s.cur.length ≤ 100000
  ml : s.ms.length ≤ 1024
  lin : lineF 0 p0 ws = (lineF s.ms.length s.p s.todo).put s.ms
theorem LI.abide {w : World} {H : Nat} {p0 : Pz} {ws : List (List UInt8)} (s : LS) {B : Nat} (hB : H + 8 ≤ B) : Abide B (LI w H p0 ws s) := by
  intro W l o o' h hl ho hc
  have hne : ∀ k, k < 8 → H + k ≠ l := fun k hk => by omega
  obtain ⟨v, hv, hr⟩ := h.mb
  refine ⟨h.hH, blk_put h.pos _ (by omega), blk_put h.r1 _ (by omega), blk_put h.r2 _ (by omega), blk_put h.r3 _ (by omega), ⟨v, blk_put hv _ (by omega), row_on hr fun k cs t z hk _ _ => World.putObj_heap_other fun e => ?_⟩, blk_put h.sb _ (by omega), blk_put h.sep _ (by omega), blk_put h.sav _ (by omega), below_put h.bel (by have := h.hH; omega) ho, by rw [World.putObj_size]; exact h.sz, h.cl, h.ml, h.lin⟩
  subst e
  rw [ho] at hk
  cases hk
  cases hc
theorem LI.alloc {w : World} {H : Nat} {p0 : Pz} {ws : List (List UInt8)} {s : LS} {W : World} (h : LI w H p0 ws s W) (o : Obj) : LI w H p0 ws s (W.alloc o) := by
  obtain ⟨v, hv, hr⟩ := h.mb
  have hsz : (W.alloc o).heap.size = W.heap.size + 1 := by simp
  exact ⟨h.hH, h.pos.alloc o, h.r1.alloc o, h.r2.alloc o, h.r3.alloc o, ⟨v, hv.alloc o, row_on hr fun k cs t z hk _ _ => Below.heap_alloc W o k (Array.getElem?_eq_some_iff.1 hk).1⟩, h.sb.alloc o, h.sep.alloc o, h.sav.alloc o, h.bel.alloc (by have := h.bel.size; exact this) o, by have := h.sz; omega, h.cl, h.ml, h.lin⟩
/-- The iterator turns its own text. -/
theorem LI.turn {w : World} {H : Nat} {p0 : Pz} {ws : List (List UInt8)} {s : LS} {W : World} (h : LI w H p0 ws s W) (c : List UInt8) (hc : c.length ≤ s.cur.length) : LI w H p0 ws { s with cur := c } (W.setCell ⟨H + 5, 0, none⟩ (.string (bs c))) := by
  obtain ⟨v, hv, hr⟩ := h.mb
  have hH := h.hH
  exact ⟨h.hH, h.pos.far (p := ⟨H + 5, 0, none⟩) (by show H ≠ H + 5; omega) _, h.r1.far (p := ⟨H + 5, 0, none⟩) (by show H + 1 ≠ H + 5; omega) _, h.r2.far (p := ⟨H + 5, 0, none⟩) (by show H + 2 ≠ H + 5; omega) _, h.r3.far (p := ⟨H + 5, 0, none⟩) (by show H + 3 ≠ H + 5; omega) _,
    ⟨v, hv.far (p := ⟨H + 5, 0, none⟩) (by show H + 4 ≠ H + 5; omega) _, row_on hr fun k cs t z hk hb _ => Below.heap_setCell W ⟨H + 5, 0, none⟩ _ k (by show k ≠ H + 5; omega)⟩,
    h.sb.set_ 0 (.string (bs c)), h.sep.far (p := ⟨H + 5, 0, none⟩) (by show H + 6 ≠ H + 5; omega) _, h.sav.far (p := ⟨H + 5, 0, none⟩) (by show H + 7 ≠ H + 5; omega) _, h.bel.setCell (p := ⟨H + 5, 0, none⟩) (by show w.heap.size ≤ H + 5; omega) _, by have := h.sz; simpa using this, Nat.le_trans hc h.cl, h.ml, h.lin⟩
/-- A line that is refused: what the three results hold. -/
structure LX (w : World) (H : Nat) (a0 a1 a2 : Addr) (p0 : Pz) (ws : List (List UInt8)) (k : Int) (t : ByteArray) (q : Pz) (W : World) : Prop where
  hH : w.heap.size = H
  r1 : Blk W (H + 1) 33 #[.slice none 0 0]
  r2 : Blk W (H + 2) 32 #[.string q.s, .int .i64 q.y, .int .i64 q.z, .int .i64 q.u]
  r3 : Blk W (H + 3) 42 #[errA a0 a1 a2 t k]
  bel : Below w.heap.size w W
  sz : H + 8 ≤ W.heap.size
  kk : k = 6 ∨ k = 7 ∨ k = 8
  lin : lineF 0 p0 ws = .no k
theorem LX.abide {w : World} {H : Nat} {a0 a1 a2 : Addr} {p0 : Pz} {ws : List (List UInt8)} {B : Nat} (hB : H + 8 ≤ B) : Abide B (fun W => ∃ k t q, LX w H a0 a1 a2 p0 ws k t q W) := by
  rintro W l o o' ⟨k, t, q, h⟩ hl ho hc
  exact ⟨k, t, q, h.hH, blk_put h.r1 _ (by omega), blk_put h.r2 _ (by omega), blk_put h.r3 _ (by omega), below_put h.bel (by have := h.hH; omega) ho, by rw [World.putObj_size]; exact h.sz, h.kk, h.lin⟩
theorem LI.next {w : World} {H : Nat} {p0 : Pz} {ws : List (List UInt8)} {s : LS} {W W' : World} (h : LI w H p0 ws s W) (hb : Below W.heap.size W W') : LI w H p0 ws s W' := by
  obtain ⟨v, hv, hr⟩ := h.mb
  exact ⟨h.hH, h.pos.next hb, h.r1.next hb, h.r2.next hb, h.r3.next hb, ⟨v, hv.next hb, row_on hr fun k cs t z hk _ _ => hb.block k (Array.getElem?_eq_some_iff.1 hk).1⟩, h.sb.next hb, h.sep.next hb, h.sav.next hb, h.bel.trans (hb.mono h.bel.size), Nat.le_trans h.sz hb.size, h.cl, h.ml, h.lin⟩
/-- The three results are put: the line is refused. -/
theorem LI.refuse {w : World} {H : Nat} {p0 : Pz} {ws : List (List UInt8)} {s : LS} {V : World} (h : LI w H p0 ws s V) (a0 a1 a2 : Addr) (t : ByteArray) (k : Int) (hk : k = 6 ∨ k = 7 ∨ k = 8) (hlin : lineF 0 p0 ws = .no k) (e : Value) (he : errA a0 a1 a2 t k = e) (B : Nat) :
    LX w H a0 a1 a2 p0 ws k t s.p ((((((V.setCell ⟨H + 1, 0, none⟩ (.slice none 0 0)).setCell ⟨H + 2, 0, none⟩ (.string s.p.s)).setCell ⟨H + 2, 1, none⟩ (.int .i64 s.p.y)).setCell ⟨H + 2, 2, none⟩ (.int .i64 s.p.z)).setCell ⟨H + 2, 3, none⟩ (.int .i64 s.p.u)).setCell ⟨H + 3, 0, none⟩ e).drew ∧
    KeepsFrom B V ((((((V.setCell ⟨H + 1, 0, none⟩ (.slice none 0 0)).setCell ⟨H + 2, 0, none⟩ (.string s.p.s)).setCell ⟨H + 2, 1, none⟩ (.int .i64 s.p.y)).setCell ⟨H + 2, 2, none⟩ (.int .i64 s.p.z)).setCell ⟨H + 2, 3, none⟩ (.int .i64 s.p.u)).setCell ⟨H + 3, 0, none⟩ e).drew := by
  subst he
  have hH := h.hH
  have n12 : H + 1 ≠ H + 2 := by omega
  have n13 : H + 1 ≠ H + 3 := by omega
  have n21 : H + 2 ≠ H + 1 := by omega
  have n23 : H + 2 ≠ H + 3 := by omega
  have n31 : H + 3 ≠ H + 1 := by omega
  have n32 : H + 3 ≠ H + 2 := by omega
  refine ⟨⟨h.hH, ?_, ?_, ?_, ?_, ?_, hk, hlin⟩, ?_⟩
  · exact (((((((h.r1.set_ 0 (.slice none 0 0)).far (p := ⟨H + 2, 0, none⟩) n12 _).far (p := ⟨H + 2, 1, none⟩) n12 _).far (p := ⟨H + 2, 2, none⟩) n12 _).far (p := ⟨H + 2, 3, none⟩) n12 _).far (p := ⟨H + 3, 0, none⟩) n13 _)).next (Below.refl _ _).drew
  · exact (((((((h.r2.far (p := ⟨H + 1, 0, none⟩) n21 _).set_ 0 (.string s.p.s)).set_ 1 (.int .i64 s.p.y)).set_ 2 (.int .i64 s.p.z)).set_ 3 (.int .i64 s.p.u)).far (p := ⟨H + 3, 0, none⟩) n23 _)).next (Below.refl _ _).drew
  · exact (((((((h.r3.far (p := ⟨H + 1, 0, none⟩) n31 _).far (p := ⟨H + 2, 0, none⟩) n32 _).far (p := ⟨H + 2, 1, none⟩) n32 _).far (p := ⟨H + 2, 2, none⟩) n32 _).far (p := ⟨H + 2, 3, none⟩) n32 _).set_ 0 (errA a0 a1 a2 t k))).next (Below.refl _ _).drew
  · exact ((((((h.bel.setCell (p := ⟨H + 1, 0, none⟩) (by show _ ≤ H + 1; omega) _).setCell (p := ⟨H + 2, 0, none⟩) (by show _ ≤ H + 2; omega) _).setCell (p := ⟨H + 2, 1, none⟩) (by show _ ≤ H + 2; omega) _).setCell (p := ⟨H + 2, 2, none⟩) (by show _ ≤ H + 2; omega) _).setCell (p := ⟨H + 2, 3, none⟩) (by show _ ≤ H + 2; omega) _).setCell (p := ⟨H + 3, 0, none⟩) (by show _ ≤ H + 3; omega) _).drew
  · simpa using h.sz
  · exact (((((((KeepsOthers.setCell _ _ _).from B).trans ((KeepsOthers.setCell _ _ _).from B)).trans ((KeepsOthers.setCell _ _ _).from B)).trans ((KeepsOthers.setCell _ _ _).from B)).trans ((KeepsOthers.setCell _ _ _).from B)).trans ((KeepsOthers.setCell _ _ _).from B)).trans (keeps_below (Below.refl _ _).drew)
/-- A move is put behind the others, the position becomes that behind it. -/
theorem LI.on {w : World} {H : Nat} {p0 : Pz} {ws : List (List UInt8)} {s : LS} {U w6 : World} (h : LI w H p0 ws s U) {A : Option Addr} {n c : Nat} (hv : Blk U (H + 4) 33 #[.slice A n c]) (hn : s.ms.length = n) {g2 cap2 : Nat} {a b : Int}
    (hr : U.ownsRow (H + 8) 23 2 (.slice A n c) n (mvl s.ms)) (hown : w6.ownsRow (H + 8) 23 2 (.slice (some ⟨g2, 0, none⟩) (n + 1) cap2) (n + 1) (mvl s.ms ++ [.int .i64 a, .int .i64 b])) (hgrow : U.grownBy w6 (Value.slice A n c).ownBlock)
    (q : Pz) (tl : List (List UInt8)) (hlin : lineF 0 p0 ws = (lineF (n + 1) q tl).put (s.ms ++ [(a, b)])) (hml : n + 1 ≤ 1024) (B : Nat) :
    LI w H p0 ws ⟨s.ms ++ [(a, b)], q, s.cur, tl⟩ (((((w6.setCell ⟨H + 4, 0, none⟩ (.slice (some ⟨g2, 0, none⟩) (n + 1) cap2)).setCell ⟨H, 0, none⟩ (.string q.s)).setCell ⟨H, 1, none⟩ (.int .i64 q.y)).setCell ⟨H, 2, none⟩ (.int .i64 q.z)).setCell ⟨H, 3, none⟩ (.int .i64 q.u)) ∧ KeepsFrom B U (((((w6.setCell ⟨H + 4, 0, none⟩ (.slice (some ⟨g2, 0, none⟩) (n + 1) cap2)).setCell ⟨H, 0, none⟩ (.string q.s)).setCell ⟨H, 1, none⟩ (.int .i64 q.y)).setCell ⟨H, 2, none⟩ (.int .i64 q.z)).setCell ⟨H, 3, none⟩ (.int .i64 q.u)) := by
  have hH := h.hH
  have far : ∀ {g : Nat} {t : TypeId} {cs : Array Value}, g < H + 8 → Blk U g t cs → Blk w6 g t cs := fun hg hb => (hgrow.block _ hb.lt fun e => by have := (row_has hr e.symm).1; omega).trans hb
  have nh : ∀ j, 0 < j → H + j ≠ H := fun j hj => by omega
  have n4 : ∀ j, j ≠ 4 → H + j ≠ H + 4 := fun j hj => by omega
  have step : ∀ {g : Nat} {t : TypeId} {cs : Array Value}, g ≠ H + 4 → g ≠ H → Blk w6 g t cs → Blk (((((w6.setCell ⟨H + 4, 0, none⟩ (.slice (some ⟨g2, 0, none⟩) (n + 1) cap2)).setCell ⟨H, 0, none⟩ (.string q.s)).setCell ⟨H, 1, none⟩ (.int .i64 q.y)).setCell ⟨H, 2, none⟩ (.int .i64 q.z)).setCell ⟨H, 3, none⟩ (.int .i64 q.u)) g t cs := fun h4 h0 hb => ((((hb.far (p := ⟨H + 4, 0, none⟩) h4 _).far (p := ⟨H, 0, none⟩) h0 _).far (p := ⟨H, 1, none⟩) h0 _).far (p := ⟨H, 2, none⟩) h0 _).far (p := ⟨H, 3, none⟩) h0 _
  have hg2 := row_has hown (k := g2) rfl
  have hb6 : Below w.heap.size w w6 := h.bel.trans ((Below.refl w.heap.size U).grown hgrow h.bel.size (fun k e => by have := row_has hr (k := k) (by first | exact e | exact e.symm); omega))
  refine ⟨⟨hH, ?_, step (by omega) (by omega) (far (by omega) h.r1), step (by omega) (by omega) (far (by omega) h.r2), step (by omega) (by omega) (far (by omega) h.r3), ⟨.slice (some ⟨g2, 0, none⟩) (n + 1) cap2, ?_, ?_⟩, step (by omega) (by omega) (far (by omega) h.sb), step (by omega) (by omega) (far (by omega) h.sep), step (by omega) (by omega) (far (by omega) h.sav), ?_, ?_, h.cl, by rw [List.length_append, hn]; exact hml, by rw [List.length_append, hn]; exact hlin⟩, ?_⟩
  · exact (((((far (by omega) h.pos).far (p := ⟨H + 4, 0, none⟩) (by show H ≠ H + 4; omega) _).set_ 0 (.string q.s)).set_ 1 (.int .i64 q.y)).set_ 2 (.int .i64 q.z)).set_ 3 (.int .i64 q.u)
  · exact (((((far (by omega) hv).set_ 0 (.slice (some ⟨g2, 0, none⟩) (n + 1) cap2)).far (p := ⟨H, 0, none⟩) (by show H + 4 ≠ H; omega) _).far (p := ⟨H, 1, none⟩) (by show H + 4 ≠ H; omega) _).far (p := ⟨H, 2, none⟩) (by show H + 4 ≠ H; omega) _).far (p := ⟨H, 3, none⟩) (by show H + 4 ≠ H; omega) _
  · rw [List.length_append, hn, mvl_snoc]
    refine row_on hown fun k cs t z hk hb _ => ?_
    rw [Below.heap_setCell _ _ _ _ (by show k ≠ H; omega), Below.heap_setCell _ _ _ _ (by show k ≠ H; omega), Below.heap_setCell _ _ _ _ (by show k ≠ H; omega), Below.heap_setCell _ _ _ _ (by show k ≠ H; omega), Below.heap_setCell _ _ _ _ (by show k ≠ H + 4; omega)]
  · exact ((((hb6.setCell (p := ⟨H + 4, 0, none⟩) (by show _ ≤ H + 4; omega) _).setCell (p := ⟨H, 0, none⟩) (by show _ ≤ H; omega) _).setCell (p := ⟨H, 1, none⟩) (by show _ ≤ H; omega) _).setCell (p := ⟨H, 2, none⟩) (by show _ ≤ H; omega) _).setCell (p := ⟨H, 3, none⟩) (by show _ ≤ H; omega) _
  · have := Nat.le_trans h.sz hgrow.size
    simpa using this
  · refine ((((((KeepsOthers.of_grownBy hgrow fun j o e ho => ?_).from B).trans ((KeepsOthers.setCell _ _ _).from B)).trans ((KeepsOthers.setCell _ _ _).from B)).trans ((KeepsOthers.setCell _ _ _).from B)).trans ((KeepsOthers.setCell _ _ _).from B)).trans ((KeepsOthers.setCell _ _ _).from B)
    rcases hr.2 with ⟨h0, _⟩ | ⟨g, cap, cur, h0, _, hc, _⟩
    · rw [h0] at e
      cases e
    · rw [h0] at e
      have : g = j := by simpa [Value.ownBlock] using e
      subst this
      rw [hc] at ho
      cases ho
      rfl
theorem row_wide {w : World} {base b' : Nat} {e : TypeId} {size : Nat} {v : Value} {n : Nat} {xs : List Value} (h : w.ownsRow base e size v n xs) (hb : b' ≤ base) : w.ownsRow b' e size v n xs := by
  refine ⟨h.1, ?_⟩
  rcases h.2 with hn | ⟨g, cap, cur, hv, hbs, hr⟩
  · exact .inl hn
  · exact .inr ⟨g, cap, cur, hv, Nat.le_trans hb hbs, hr⟩
/-- All words are read: the three results are put. -/
theorem LI.finish {w : World} {H : Nat} {p0 : Pz} {ws : List (List UInt8)} {s : LS} {W : World} (h : LI w H p0 ws s W) {D : Nat} (hD : H + 8 ≤ D) (hK : W.heap[D]? = some (.deferred (some []))) {v : Value} (hrow : W.ownsRow (H + 8) 23 2 v s.ms.length (mvl s.ms)) :
    ((((((W.setCell ⟨H + 1, 0, none⟩ v).setCell ⟨H + 2, 0, none⟩ (.string s.p.s)).setCell ⟨H + 2, 1, none⟩ (.int .i64 s.p.y)).setCell ⟨H + 2, 2, none⟩ (.int .i64 s.p.z)).setCell ⟨H + 2, 3, none⟩ (.int .i64 s.p.u)).setCell ⟨H + 3, 0, none⟩ .nilIface).drew.heap[D]? = some (.deferred (some [])) ∧ Blk (((((((W.setCell ⟨H + 1, 0, none⟩ v).setCell ⟨H + 2, 0, none⟩ (.string s.p.s)).setCell ⟨H + 2, 1, none⟩ (.int .i64 s.p.y)).setCell ⟨H + 2, 2, none⟩ (.int .i64 s.p.z)).setCell ⟨H + 2, 3, none⟩ (.int .i64 s.p.u)).setCell ⟨H + 3, 0, none⟩ .nilIface).drew.putObj D (.deferred none)) (H + 1) 33 #[v] ∧ Blk (((((((W.setCell ⟨H + 1, 0, none⟩ v).setCell ⟨H + 2, 0, none⟩ (.string s.p.s)).setCell ⟨H + 2, 1, none⟩ (.int .i64 s.p.y)).setCell ⟨H + 2, 2, none⟩ (.int .i64 s.p.z)).setCell ⟨H + 2, 3, none⟩ (.int .i64 s.p.u)).setCell ⟨H + 3, 0, none⟩ .nilIface).drew.putObj D (.deferred none)) (H + 2) 32 #[.string s.p.s, .int .i64 s.p.y, .int .i64 s.p.z, .int .i64 s.p.u] ∧ Blk (((((((W.setCell ⟨H + 1, 0, none⟩ v).setCell ⟨H + 2, 0, none⟩ (.string s.p.s)).setCell ⟨H + 2, 1, none⟩ (.int .i64 s.p.y)).setCell ⟨H + 2, 2, none⟩ (.int .i64 s.p.z)).setCell ⟨H + 2, 3, none⟩ (.int .i64 s.p.u)).setCell ⟨H + 3, 0, none⟩ .nilIface).drew.putObj D (.deferred none)) (H + 3) 42 #[.nilIface] ∧ (((((((W.setCell ⟨H + 1, 0, none⟩ v).setCell ⟨H + 2, 0, none⟩ (.string s.p.s)).setCell ⟨H + 2, 1, none⟩ (.int .i64 s.p.y)).setCell ⟨H + 2, 2, none⟩ (.int .i64 s.p.z)).setCell ⟨H + 2, 3, none⟩ (.int .i64 s.p.u)).setCell ⟨H + 3, 0, none⟩ .nilIface).drew.putObj D (.deferred none)).ownsRow w.heap.size 23 2 v s.ms.length (mvl s.ms) ∧ Below w.heap.size w (((((((W.setCell ⟨H + 1, 0, none⟩ v).setCell ⟨H + 2, 0, none⟩ (.string s.p.s)).setCell ⟨H + 2, 1, none⟩ (.int .i64 s.p.y)).setCell ⟨H + 2, 2, none⟩ (.int .i64 s.p.z)).setCell ⟨H + 2, 3, none⟩ (.int .i64 s.p.u)).setCell ⟨H + 3, 0, none⟩ .nilIface).drew.putObj D (.deferred none)) := by
  have hH := h.hH
  have hdr : ∀ Z : World, Z.drew.heap = Z.heap := fun _ => rfl
  have hk : ∀ k, k ≠ H + 1 → k ≠ H + 2 → k ≠ H + 3 → ((((((W.setCell ⟨H + 1, 0, none⟩ v).setCell ⟨H + 2, 0, none⟩ (.string s.p.s)).setCell ⟨H + 2, 1, none⟩ (.int .i64 s.p.y)).setCell ⟨H + 2, 2, none⟩ (.int .i64 s.p.z)).setCell ⟨H + 2, 3, none⟩ (.int .i64 s.p.u)).setCell ⟨H + 3, 0, none⟩ .nilIface).drew.heap[k]? = W.heap[k]? := fun k n1 n2 n3 => by
    rw [hdr, Below.heap_setCell _ _ _ _ n3, Below.heap_setCell _ _ _ _ n2, Below.heap_setCell _ _ _ _ n2, Below.heap_setCell _ _ _ _ n2, Below.heap_setCell _ _ _ _ n2, Below.heap_setCell _ _ _ _ n1]
  have hKX : ((((((W.setCell ⟨H + 1, 0, none⟩ v).setCell ⟨H + 2, 0, none⟩ (.string s.p.s)).setCell ⟨H + 2, 1, none⟩ (.int .i64 s.p.y)).setCell ⟨H + 2, 2, none⟩ (.int .i64 s.p.z)).setCell ⟨H + 2, 3, none⟩ (.int .i64 s.p.u)).setCell ⟨H + 3, 0, none⟩ .nilIface).drew.heap[D]? = some (.deferred (some [])) := (hk D (by omega) (by omega) (by omega)).trans hK
  have n12 : H + 1 ≠ H + 2 := by omega
  have n13 : H + 1 ≠ H + 3 := by omega
  have n21 : H + 2 ≠ H + 1 := by omega
  have n23 : H + 2 ≠ H + 3 := by omega
  have n31 : H + 3 ≠ H + 1 := by omega
  have n32 : H + 3 ≠ H + 2 := by omega
  refine ⟨hKX, blk_put ?_ _ (by omega), blk_put ?_ _ (by omega), blk_put ?_ _ (by omega), ?_, below_put ?_ (by omega) hKX⟩
  · exact (((((((h.r1.set_ 0 v).far (p := ⟨H + 2, 0, none⟩) n12 _).far (p := ⟨H + 2, 1, none⟩) n12 _).far (p := ⟨H + 2, 2, none⟩) n12 _).far (p := ⟨H + 2, 3, none⟩) n12 _).far (p := ⟨H + 3, 0, none⟩) n13 _)).next (Below.refl _ _).drew
  · exact (((((((h.r2.far (p := ⟨H + 1, 0, none⟩) n21 _).set_ 0 (.string s.p.s)).set_ 1 (.int .i64 s.p.y)).set_ 2 (.int .i64 s.p.z)).set_ 3 (.int .i64 s.p.u)).far (p := ⟨H + 3, 0, none⟩) n23 _)).next (Below.refl _ _).drew
  · exact (((((((h.r3.far (p := ⟨H + 1, 0, none⟩) n31 _).far (p := ⟨H + 2, 0, none⟩) n32 _).far (p := ⟨H + 2, 1, none⟩) n32 _).far (p := ⟨H + 2, 2, none⟩) n32 _).far (p := ⟨H + 2, 3, none⟩) n32 _).set_ 0 .nilIface)).next (Below.refl _ _).drew
  · refine row_wide (row_on hrow fun k cs t z hk2 hb _ => ?_) (show w.heap.size ≤ H + 8 by omega)
    have hkD : k ≠ D := fun e => by rw [e, hK] at hk2; cases hk2
    exact (World.putObj_heap_other hkD).trans (hk k (by omega) (by omega) (by omega))
  · exact ((((((h.bel.setCell (p := ⟨H + 1, 0, none⟩) (by show _ ≤ H + 1; omega) _).setCell (p := ⟨H + 2, 0, none⟩) (by show _ ≤ H + 2; omega) _).setCell (p := ⟨H + 2, 1, none⟩) (by show _ ≤ H + 2; omega) _).setCell (p := ⟨H + 2, 2, none⟩) (by show _ ≤ H + 2; omega) _).setCell (p := ⟨H + 2, 3, none⟩) (by show _ ≤ H + 2; omega) _).setCell (p := ⟨H + 3, 0, none⟩) (by show _ ≤ H + 3; omega) _).drew
theorem al_of {W V : World} {t : TypeId} {cs : Array Value} (h : W.alloc (.cells cs t) = V) : V.heap.size = W.heap.size + 1 ∧ Blk V W.heap.size t cs ∧ (∀ g t' cs', Blk W g t' cs' → Blk V g t' cs') ∧ (∀ B w, Below B w W → B ≤ W.heap.size → Below B w V) := by
  subst h
  exact ⟨by simp, Blk.new _ _ _ rfl, fun g t' cs' b => b.alloc _, fun B w b hle => b.alloc hle _⟩
theorem li_start {w : World} (p : Pz) (s : ByteArray) (hs : s.size ≤ 100000) : LI w w.heap.size p (cutL 32 s.data.toList) ⟨[], p, s.data.toList, cutL 32 s.data.toList⟩
    ((((((((w.alloc (.cells #[.string p.s, .int .i64 p.y, .int .i64 p.z, .int .i64 p.u] 32)).alloc (.cells #[.slice none 0 0] 33)).alloc (.cells #[.string ⟨#[]⟩, .int .i64 0, .int .i64 0, .int .i64 0] 32)).alloc (.cells #[.nilIface] 42)).alloc (.cells #[.slice none 0 0] 33)).alloc (.cells #[.string s] 9)).alloc (.cells #[.string ⟨#[32]⟩] 9)).alloc (.cells #[.int .i64 0] 3)) := by
  obtain ⟨V1, h1⟩ : ∃ V, w.alloc (.cells #[.string p.s, .int .i64 p.y, .int .i64 p.z, .int .i64 p.u] 32) = V := ⟨_, rfl⟩
  rw [h1]
  obtain ⟨V2, h2⟩ : ∃ V, V1.alloc (.cells #[.slice none 0 0] 33) = V := ⟨_, rfl⟩
  rw [h2]
  obtain ⟨V3, h3⟩ : ∃ V, V2.alloc (.cells #[.string ⟨#[]⟩, .int .i64 0, .int .i64 0, .int .i64 0] 32) = V := ⟨_, rfl⟩
  rw [h3]
  obtain ⟨V4, h4⟩ : ∃ V, V3.alloc (.cells #[.nilIface] 42) = V := ⟨_, rfl⟩
  rw [h4]
  obtain ⟨V5, h5⟩ : ∃ V, V4.alloc (.cells #[.slice none 0 0] 33) = V := ⟨_, rfl⟩
  rw [h5]
  obtain ⟨V6, h6⟩ : ∃ V, V5.alloc (.cells #[.string s] 9) = V := ⟨_, rfl⟩
  rw [h6]
  obtain ⟨V7, h7⟩ : ∃ V, V6.alloc (.cells #[.string ⟨#[32]⟩] 9) = V := ⟨_, rfl⟩
  rw [h7]
  obtain ⟨V8, h8⟩ : ∃ V, V7.alloc (.cells #[.int .i64 0] 3) = V := ⟨_, rfl⟩
  rw [h8]
  obtain ⟨z1, b1, k1, e1⟩ := al_of h1
  obtain ⟨z2, b2, k2, e2⟩ := al_of h2
  obtain ⟨z3, b3, k3, e3⟩ := al_of h3
  obtain ⟨z4, b4, k4, e4⟩ := al_of h4
  obtain ⟨z5, b5, k5, e5⟩ := al_of h5
  obtain ⟨z6, b6, k6, e6⟩ := al_of h6
  obtain ⟨z7, b7, k7, e7⟩ := al_of h7
  obtain ⟨z8, b8, k8, e8⟩ := al_of h8
  rw [z1] at b2
  rw [z2, z1] at b3
  rw [z3, z2, z1] at b4
  rw [z4, z3, z2, z1] at b5
  rw [z5, z4, z3, z2, z1] at b6
  rw [z6, z5, z4, z3, z2, z1] at b7
  rw [z7, z6, z5, z4, z3, z2, z1] at b8
  have f3 := fun g t' cs' (b : Blk V3 g t' cs') => k8 g t' cs' (k7 _ _ _ (k6 _ _ _ (k5 _ _ _ (k4 _ _ _ b))))
  refine ⟨rfl, f3 _ _ _ (k3 _ _ _ (k2 _ _ _ b1)), f3 _ _ _ (k3 _ _ _ b2), f3 _ _ _ b3, k8 _ _ _ (k7 _ _ _ (k6 _ _ _ (k5 _ _ _ b4))), ⟨.slice none 0 0, k8 _ _ _ (k7 _ _ _ (k6 _ _ _ b5)), ⟨rfl, .inl ⟨rfl, rfl⟩⟩⟩, ?_, k8 _ _ _ b7, b8, ?_, by omega, by simpa using hs, Nat.zero_le _, (Got.put_nil _).symm⟩
  · rw [bs_back]
    exact k8 _ _ _ (k7 _ _ _ b6)
  · exact e8 _ _ (e7 _ _ (e6 _ _ (e5 _ _ (e4 _ _ (e3 _ _ (e2 _ _ (e1 _ _ (Below.refl _ _) (Nat.le_refl _)) (by omega)) (by omega)) (by omega)) (by omega)) (by omega)) (by omega)) (by omega)
/-- How the reading of a line ends. -/
def LineEnds (w : World) (a0 a1 a2 : Addr) (p : Pz) (ws : List (List UInt8)) (e : Ending) (w' : World) : Prop := Below w.heap.size w w' ∧ match lineF 0 p ws with
  | .no k => (k = 6 ∨ k = 7 ∨ k = 8) ∧ ∃ (t : ByteArray) (q : Pz), e = .returned (.tuple #[.slice none 0 0, .agg #[.string q.s, .int .i64 q.y, .int .i64 q.z, .int .i64 q.u], errA a0 a1 a2 t k])
  | .got l q => ∃ v, e = .returned (.tuple #[v, .agg #[.string q.s, .int .i64 q.y, .int .i64 q.z, .int .i64 q.u], .nilIface]) ∧ w'.ownsRow w.heap.size 23 2 v l.length (mvl l)
theorem ends_got {w : World} {a0 a1 a2 : Addr} {p : Pz} {ws : List (List UInt8)} {w' : World} {l : List (Int × Int)} {q : Pz} {v : Value} (hb : Below w.heap.size w w') (hl : lineF 0 p ws = .got l q) (hr : w'.ownsRow w.heap.size 23 2 v l.length (mvl l)) :
    LineEnds w a0 a1 a2 p ws (.returned (.tuple #[v, .agg #[.string q.s, .int .i64 q.y, .int .i64 q.z, .int .i64 q.u], .nilIface])) w' := by
  unfold LineEnds
  rw [hl]
  exact ⟨hb, v, rfl, hr⟩
theorem cell1 {W : World} {g : Nat} {t : TypeId} {a : Value} (h : Blk W g t #[a]) : W.cell? ⟨g, 0, none⟩ = some a := h.cell 0
theorem cell4 {W : World} {g : Nat} {t : TypeId} {a b c d : Value} (h : Blk W g t #[a, b, c, d]) : W.cell? ⟨g, 0, none⟩ = some a ∧ W.cell? ⟨g, 1, none⟩ = some b ∧ W.cell? ⟨g, 2, none⟩ = some c ∧ W.cell? ⟨g, 3, none⟩ = some d := ⟨h.cell 0, h.cell 1, h.cell 2, h.cell 3⟩
set_option maxRecDepth 100000 in
set_option maxHeartbeats 8000000 in
theorem rline_any {w : World} {a0 a1 a2 : Addr} (hE : Errs w a0 a1 a2) (hT : Tab w) (p : Pz) (s : ByteArray) (hs : s.size ≤ 100000) (hs0 : s.size ≠ 0) :
    Calls Tryz.prog 22 #[.agg #[.string p.s, .int .i64 p.y, .int .i64 p.z, .int .i64 p.u], .string s] w (LineEnds w a0 a1 a2 p (cutL 32 s.data.toList)) := by
  refine (callsIn_wide (n := 5)).1 ?_
  refine callsIn_of_wp_marks Tryz.func22 rfl trivial ?_ rfl
  refine wpIn_wide.2 ?_
  simp only [Tryz.ntmps22, List.size_toArray, List.length_cons, List.length_nil, Nat.reduceAdd, Nat.reduceSub, Array.replicate_succ, Array.replicate_zero, List.push_toArray, List.append_toArray, List.nil_append, List.cons_append]
  have hne : ¬ s.toList = [] := by rw [ByteArray.toList_eq]; intro e; exact hs0 (by have := congrArg List.length e; simpa using this)
  have hne1 : s.toList.isEmpty = false := by rw [List.isEmpty_eq_false_iff]; exact hne
  have HNE := Lib.hid (And.intro hne hne1)
  go_wp2_with fail
  refine (seq_is s _).mono ?_
  rintro e w9 ⟨rfl, hw9⟩
  have hI0 : LI w w.heap.size p (cutL 32 s.data.toList) ⟨[], p, s.data.toList, cutL 32 s.data.toList⟩ w9 := by rw [hw9]; exact li_start p s hs
  clear hw9 hne hne1
  go_wp2_with fail
  refine (wpIn_wide (n := 5)).1 ?_
  have hle := hI0.sz
  refine range_own (gf := 66) (lb := #[.pointer (some ⟨w.heap.size + 6, 0, none⟩), .pointer (some ⟨w.heap.size + 5, 0, none⟩), .pointer (some ⟨w.heap.size + 7, 0, none⟩)]) rfl (enters_of Tryz.func66 (by kernel_rfl) rfl) rfl
    (fun (s' : LS) W => LI w w.heap.size p (cutL 32 s.data.toList) s' W)
    (fun W => ∃ k t q, LX w w.heap.size a0 a1 a2 p (cutL 32 s.data.toList) k t q W)
    (fun s' x => ∃ wd t, s'.todo = wd :: t ∧ x = .string (bs wd))
    (fun s' x s'' => s''.cur = s'.cur ∧ ∃ wd, x = .string (bs wd) ∧ s'.todo = wd :: s''.todo)
    (fun s' => s'.todo = [])
    (fun s' => LI.abide s' hle) (LX.abide hle) (fun s' W o h => h.alloc o) ⟨[], p, s.data.toList, cutL 32 s.data.toList⟩ hI0
    ?iter (fun x => { tmps := #[.agg #[.string p.s, .int .i64 p.y, .int .i64 p.z, .int .i64 p.u], .string s, .pointer (some ⟨w.heap.size, 0, none⟩), undef, .pointer (some ⟨w.heap.size + 1, 0, none⟩), .pointer (some ⟨w.heap.size + 2, 0, none⟩), .pointer (some ⟨w.heap.size + 3, 0, none⟩), .pointer (some ⟨w.heap.size + 4, 0, none⟩), x, undef, undef, undef, undef, undef, .string s, .bool false, undef, undef, .string s, .func (.func 66) #[] #[.pointer (some ⟨w.heap.size + 6, 0, none⟩), .pointer (some ⟨w.heap.size + 5, 0, none⟩), .pointer (some ⟨w.heap.size + 7, 0, none⟩)], x, undef, undef, undef, undef, undef, undef, undef, undef, undef, undef, undef, undef, undef, undef, undef, undef, undef, undef, undef, undef, undef, undef, undef, undef, undef, undef, undef, undef, undef, undef, undef, undef, undef, undef, undef, undef, undef, undef], defers := [] }) ?assign ?body ?done ?stop
  case iter =>
    intro l M Mx W hMb hMs hY hI hM
    refine split_iter (n := 5 - 1) LS.cur LS.todo (fun s' c => { s' with cur := c }) (fun _ _ => rfl) (fun _ _ => rfl) _ (w.heap.size + 5) (w.heap.size + 6) (w.heap.size + 7) w9.heap.size (by omega) ?_ (fun s' W c h hc => h.turn c hc) l M Mx hMs hY _ rfl W hI hM
    intro s' W h
    exact ⟨h.sep.cell 0, h.sb.cell 0, h.sb.frozen 0, h.sav.cell 0, Nat.le_trans h.cl (by decide)⟩
  case assign =>
    intro l x W K hK
    gi_wp2
    exact hK
  case body =>
    rintro l s' x W ⟨wd, tl, htd, rfl⟩ hI
    have hEW := hE.next hI.bel
    have hTW : Tab W := hT.below hI.bel hT.lt
    obtain ⟨c0, c1, c2, c3⟩ : W.cell? ⟨w.heap.size, 0, none⟩ = some (.string s'.p.s) ∧ W.cell? ⟨w.heap.size, 1, none⟩ = some (.int .i64 s'.p.y) ∧ W.cell? ⟨w.heap.size, 2, none⟩ = some (.int .i64 s'.p.z) ∧ W.cell? ⟨w.heap.size, 3, none⟩ = some (.int .i64 s'.p.u) := ⟨hI.pos.cell 0, hI.pos.cell 1, hI.pos.cell 2, hI.pos.cell 3⟩
    have hrm := rmove_any hEW (bs wd)
    refine hide_no (by rintro ⟨a, w, h⟩; exact h) (fun _ _ _ h => h) (fun Q' hQ' hno hpn => ?_)
    cases hr : readT (bs wd) with
    | none =>
      rw [moveV_none hr] at hrm
      gi_wp2
      refine ⟨trivial, ?_⟩
      refine (CallsIn.inRound l (callsIn_wide.2 hrm)).mono ?_
      rintro e W1 ⟨rfl, hb1⟩
      gi_wp2
      obtain ⟨V, hV⟩ : ∃ V, W1.alloc (.cells #[.int .i64 0, .int .i64 0] 23) = V := ⟨_, rfl⟩
      have hIV : LI w w.heap.size p (cutL 32 s.data.toList) s' V := by rw [← hV]; exact (hI.next hb1).alloc _
      have hKV : KeepsFrom w9.heap.size W V := by rw [← hV]; exact (keeps_below hb1).trans ((KeepsOthers.alloc _ _).from _)
      rw [hV]
      obtain ⟨r0, g0⟩ : V.cell? ⟨w.heap.size + 1, 0, none⟩ = some (.slice none 0 0) ∧ V.frozen? ⟨w.heap.size + 1, 0, none⟩ = false := ⟨hIV.r1.cell 0, hIV.r1.frozen 0⟩
      obtain ⟨q0, q1, q2, q3⟩ : V.cell? ⟨w.heap.size + 2, 0, none⟩ = some (.string ⟨#[]⟩) ∧ V.cell? ⟨w.heap.size + 2, 1, none⟩ = some (.int .i64 0) ∧ V.cell? ⟨w.heap.size + 2, 2, none⟩ = some (.int .i64 0) ∧ V.cell? ⟨w.heap.size + 2, 3, none⟩ = some (.int .i64 0) := ⟨hIV.r2.cell 0, hIV.r2.cell 1, hIV.r2.cell 2, hIV.r2.cell 3⟩
      obtain ⟨g1, g2, g3, g4⟩ : V.frozen? ⟨w.heap.size + 2, 0, none⟩ = false ∧ V.frozen? ⟨w.heap.size + 2, 1, none⟩ = false ∧ V.frozen? ⟨w.heap.size + 2, 2, none⟩ = false ∧ V.frozen? ⟨w.heap.size + 2, 3, none⟩ = false := ⟨hIV.r2.frozen 0, hIV.r2.frozen 1, hIV.r2.frozen 2, hIV.r2.frozen 3⟩
      obtain ⟨e0, g5⟩ : V.cell? ⟨w.heap.size + 3, 0, none⟩ = some .nilIface ∧ V.frozen? ⟨w.heap.size + 3, 0, none⟩ = false := ⟨hIV.r3.cell 0, hIV.r3.frozen 0⟩
      have hS : V.drew.cell? ⟨w.heap.size, 0, none⟩ = some (.string s'.p.s) ∧ V.drew.cell? ⟨w.heap.size, 1, none⟩ = some (.int .i64 s'.p.y) ∧ V.drew.cell? ⟨w.heap.size, 2, none⟩ = some (.int .i64 s'.p.z) ∧ V.drew.cell? ⟨w.heap.size, 3, none⟩ = some (.int .i64 s'.p.u) := ⟨hIV.pos.cell 0, hIV.pos.cell 1, hIV.pos.cell 2, hIV.pos.cell 3⟩
      have hlin : lineF 0 p (cutL 32 s.data.toList) = .no 6 := by rw [hI.lin, htd, line_form hr]; rfl
      obtain ⟨hX, hKX⟩ := hIV.refuse a0 a1 a2 (bs wd) 6 (.inl rfl) hlin (faultV (bs wd) a0) rfl w9.heap.size
      have HX := Lib.hid (And.intro hX (hKV.trans hKX))
      clear hX hKX hlin hKV hIV c0 c1 c2 c3 hrm hV hEW hTW
      refine wp_region_held_round (S := fun X => X.cell? ⟨w.heap.size, 0, none⟩ = some (.string s'.p.s) ∧ X.cell? ⟨w.heap.size, 1, none⟩ = some (.int .i64 s'.p.y) ∧ X.cell? ⟨w.heap.size, 2, none⟩ = some (.int .i64 s'.p.z) ∧ X.cell? ⟨w.heap.size, 3, none⟩ = some (.int .i64 s'.p.u)) (by kernel_rfl) (noDefer_of (by rfl)) (fun hq => hno (by obtain ⟨aq, wq, h⟩ := hq; exact ⟨aq, wq, h⟩)) (hS) (fun hHeld => ?_)
      refine wpAnyH_take (i := 0) (oi := { dst := some 28, op := Op.load 32 (Operand.tmp 2), type := 32, pos := "iccs.go:99", after := #[], guard := none }) (v := ?_) rfl (by kernel_rfl) (by kernel_rfl) (by kernel_rfl) (fun _ _ _ h => (hpn _ _ _ h).elim) (Or.inl ⟨by rfl, ?_⟩) (by assumption) ?_
      case refine_2 =>
        intro w hSw
        (try dsimp only at hSw)
        (try go_simp)
        all_goals (with_reducible rfl)
      (try dsimp only [Act.put]); (try simp only [List.setIfInBounds_toArray, List.set_cons_zero, List.set_cons_succ])
      refine wpAnyH_take (i := 1) (oi := { dst := some 29, op := Op.move (Operand.tmp 10), type := 42, pos := "iccs.go:99", after := #[{ on := 3, ground := Ground.gcOnly Departure.lateStores }], guard := none }) (v := ?_) rfl (by kernel_rfl) (by kernel_rfl) (by kernel_rfl) (fun _ _ _ h => (hpn _ _ _ h).elim) (Or.inl ⟨by rfl, ?_⟩) (by assumption) ?_
      case refine_2 =>
        intro w hSw
        (try dsimp only at hSw)
        (try go_simp)
        all_goals (with_reducible rfl)
      (try dsimp only [Act.put]); (try simp only [List.setIfInBounds_toArray, List.set_cons_zero, List.set_cons_succ])
      refine wpAnyH_ready (rs := [2]) (by kernel_rfl) (by simp) (AllReadyH.cons (o := { dst := none, op := Op.store 33 (Operand.tmp 4) (Operand.const (Value.slice none 0 0)), type := 0, pos := "iccs.go:99", after := #[{ on := 0, ground := Ground.textOnly Departure.inlinedCapture }, { on := 1, ground := Ground.textOnly Departure.lateStores }], guard := none }) rfl (fun K hK => ?_) AllReadyH.nil)
      go_simp
      refine hK.out _ _ ?_ (fun hHeld => ?_)
      · exact pk_dr (pk (pk_un hHeld) _ _ (by simp))
      clear hK K
      (try dsimp only [Act.put]); (try simp only [List.setIfInBounds_toArray, List.set_cons_zero, List.set_cons_succ])
      refine wpAnyH_ready (rs := [3]) (by kernel_rfl) (by simp) (AllReadyH.cons (o := { dst := none, op := Op.store 32 (Operand.tmp 5) (Operand.tmp 28), type := 0, pos := "iccs.go:99", after := #[{ on := 0, ground := Ground.data }, { on := 2, ground := Ground.chain }, { on := 0, ground := Ground.phase }, { on := 1, ground := Ground.textOnly Departure.lateStores }, { on := 2, ground := Ground.phase }], guard := none }) rfl (fun K hK => ?_) AllReadyH.nil)
      go_simp
      refine hK.out _ _ ?_ (fun hHeld => ?_)
      · exact pk_dr (pk (pk (pk (pk (pk_un hHeld) _ _ (by simp)) _ _ (by simp)) _ _ (by simp)) _ _ (by simp))
      clear hK K
      (try dsimp only [Act.put]); (try simp only [List.setIfInBounds_toArray, List.set_cons_zero, List.set_cons_succ])
      refine wpAnyH_ready (rs := [4]) (by kernel_rfl) (by simp) (AllReadyH.cons (o := { dst := none, op := Op.store 42 (Operand.tmp 6) (Operand.tmp 29), type := 0, pos := "iccs.go:99", after := #[{ on := 1, ground := Ground.data }, { on := 3, ground := Ground.chain }, { on := 0, ground := Ground.phase }, { on := 1, ground := Ground.phase }, { on := 2, ground := Ground.phase }, { on := 3, ground := Ground.phase }], guard := none }) rfl (fun K hK => ?_) AllReadyH.nil)
      go_simp
      refine hK.out _ _ ?_ (fun hHeld => ?_)
      · exact pk_dr (pk (pk_un hHeld) _ _ (by simp))
      clear hK K
      (try dsimp only [Act.put]); (try simp only [List.setIfInBounds_toArray, List.set_cons_zero, List.set_cons_succ])
      refine wpAnyH_done (by kernel_rfl) ?_ _
      gi_wp2
      exact ⟨HX.out.2, 6, bs wd, s'.p, HX.out.1⟩
    | some m =>
      obtain ⟨a, b⟩ := m
      rw [moveV_some hr] at hrm
      gi_wp2
      refine ⟨trivial, ?_⟩
      refine (CallsIn.inRound l (callsIn_wide.2 hrm)).mono ?_
      rintro e W1 ⟨rfl, hb1⟩
      have hIV : LI w w.heap.size p (cutL 32 s.data.toList) s' (W1.alloc (.cells #[.int .i64 a, .int .i64 b] 23)) := (hI.next hb1).alloc _
      have hKV : KeepsFrom w9.heap.size W (W1.alloc (.cells #[.int .i64 a, .int .i64 b] 23)) := (keeps_below hb1).trans ((KeepsOthers.alloc _ _).from _)
      have bMv : Blk (W1.alloc (.cells #[.int .i64 a, .int .i64 b] 23)) W1.heap.size 23 #[.int .i64 a, .int .i64 b] := Blk.new _ _ _ rfl
      obtain ⟨v, hv00, hrow00⟩ := hI.mb
      obtain ⟨A, c, rfl⟩ := row_slice hrow00
      have hv := (hv00.next hb1).alloc (.cells #[.int .i64 a, .int .i64 b] 23)
      have hrow := row_on (row_on hrow00 fun k cs t z hk _ _ => hb1.block k (Array.getElem?_eq_some_iff.1 hk).1) fun k cs t z hk _ _ => Below.heap_alloc W1 (.cells #[.int .i64 a, .int .i64 b] 23) k (Array.getElem?_eq_some_iff.1 hk).1
      have hrowlt : ∀ k, (Value.slice A s'.ms.length c).ownBlock = some k → k < W1.heap.size := fun k hk => Nat.lt_of_lt_of_le (row_has hrow00 hk).2 hb1.size
      clear hv00 hrow00
      have hmc := hv.cell 0
      obtain ⟨n, hn⟩ : ∃ n, s'.ms.length = n := ⟨_, rfl⟩
      have hnm := hI.ml
      rw [hn] at hmc hnm
      by_cases h1024 : n = 1024
      · have hd : decide ((n : Int) = 1024) = true := by simp; omega
        have hd2 : (n : Int) = 1024 := by omega
        gi_wp2
        obtain ⟨V, hV⟩ : ∃ V, W1.alloc (.cells #[.int .i64 a, .int .i64 b] 23) = V := ⟨_, rfl⟩
        rw [hV] at hIV hKV ⊢
        clear c0 c1 c2 c3 hrm hV hEW hTW hmc bMv hrow hv
        obtain ⟨r0, g0⟩ : V.cell? ⟨w.heap.size + 1, 0, none⟩ = some (.slice none 0 0) ∧ V.frozen? ⟨w.heap.size + 1, 0, none⟩ = false := ⟨hIV.r1.cell 0, hIV.r1.frozen 0⟩
        obtain ⟨q0, q1, q2, q3⟩ : V.cell? ⟨w.heap.size + 2, 0, none⟩ = some (.string ⟨#[]⟩) ∧ V.cell? ⟨w.heap.size + 2, 1, none⟩ = some (.int .i64 0) ∧ V.cell? ⟨w.heap.size + 2, 2, none⟩ = some (.int .i64 0) ∧ V.cell? ⟨w.heap.size + 2, 3, none⟩ = some (.int .i64 0) := ⟨hIV.r2.cell 0, hIV.r2.cell 1, hIV.r2.cell 2, hIV.r2.cell 3⟩
        obtain ⟨g1, g2, g3, g4⟩ : V.frozen? ⟨w.heap.size + 2, 0, none⟩ = false ∧ V.frozen? ⟨w.heap.size + 2, 1, none⟩ = false ∧ V.frozen? ⟨w.heap.size + 2, 2, none⟩ = false ∧ V.frozen? ⟨w.heap.size + 2, 3, none⟩ = false := ⟨hIV.r2.frozen 0, hIV.r2.frozen 1, hIV.r2.frozen 2, hIV.r2.frozen 3⟩
        obtain ⟨e0, g5⟩ : V.cell? ⟨w.heap.size + 3, 0, none⟩ = some .nilIface ∧ V.frozen? ⟨w.heap.size + 3, 0, none⟩ = false := ⟨hIV.r3.cell 0, hIV.r3.frozen 0⟩
        have hgl : 1 < w.heap.size := cell_lt hE.g1
        have hS : V.drew.cell? ⟨w.heap.size, 0, none⟩ = some (.string s'.p.s) ∧ V.drew.cell? ⟨w.heap.size, 1, none⟩ = some (.int .i64 s'.p.y) ∧ V.drew.cell? ⟨w.heap.size, 2, none⟩ = some (.int .i64 s'.p.z) ∧ V.drew.cell? ⟨w.heap.size, 3, none⟩ = some (.int .i64 s'.p.u) ∧ V.drew.cell? ⟨1, 0, none⟩ = some (errV a1) := ⟨hIV.pos.cell 0, hIV.pos.cell 1, hIV.pos.cell 2, hIV.pos.cell 3, (hE.next hIV.bel).g1⟩
        have hlin : lineF 0 p (cutL 32 s.data.toList) = .no 8 := by rw [hI.lin, htd, hn, h1024, line_full hr]; rfl
        obtain ⟨hX, hKX⟩ := hIV.refuse a0 a1 a2 (bs wd) 8 (.inr (.inr rfl)) hlin (faultV (bs wd) a1) rfl w9.heap.size
        have HX := Lib.hid (And.intro hX (hKV.trans hKX))
        have d1 : ¬ w.heap.size + 1 = 1 := by omega
        have d2 : ¬ w.heap.size + 2 = 1 := by omega
        have d3 : ¬ w.heap.size + 3 = 1 := by omega
        clear hX hKX hlin hKV hIV
        refine wp_region_held_round (S := fun X => X.cell? ⟨w.heap.size, 0, none⟩ = some (.string s'.p.s) ∧ X.cell? ⟨w.heap.size, 1, none⟩ = some (.int .i64 s'.p.y) ∧ X.cell? ⟨w.heap.size, 2, none⟩ = some (.int .i64 s'.p.z) ∧ X.cell? ⟨w.heap.size, 3, none⟩ = some (.int .i64 s'.p.u) ∧ X.cell? ⟨1, 0, none⟩ = some (errV a1)) (by kernel_rfl) (noDefer_of (by rfl)) (fun hq => hno (by obtain ⟨aq, wq, h⟩ := hq; exact ⟨aq, wq, h⟩)) (hS) (fun hHeld => ?_)
        refine wpAnyH_take (i := 0) (oi := { dst := some 33, op := Op.load 32 (Operand.tmp 2), type := 32, pos := "iccs.go:102", after := #[], guard := none }) (v := ?_) rfl (by kernel_rfl) (by kernel_rfl) (by kernel_rfl) (fun _ _ _ h => (hpn _ _ _ h).elim) (Or.inl ⟨by rfl, ?_⟩) (by assumption) ?_
        case refine_2 =>
          intro w hSw
          (try dsimp only at hSw)
          (try go_simp)
          all_goals (with_reducible rfl)
        (try dsimp only [Act.put]); (try simp only [List.setIfInBounds_toArray, List.set_cons_zero, List.set_cons_succ])
        refine wpAnyH_take (i := 1) (oi := { dst := some 34, op := Op.move (Operand.tmp 8), type := 9, pos := "iccs.go:102", after := #[], guard := none }) (v := ?_) rfl (by kernel_rfl) (by kernel_rfl) (by kernel_rfl) (fun _ _ _ h => (hpn _ _ _ h).elim) (Or.inl ⟨by rfl, ?_⟩) (by assumption) ?_
        case refine_2 =>
          intro w hSw
          (try dsimp only at hSw)
          (try go_simp)
          all_goals (with_reducible rfl)
        (try dsimp only [Act.put]); (try simp only [List.setIfInBounds_toArray, List.set_cons_zero, List.set_cons_succ])
        refine wpAnyH_take (i := 2) (oi := { dst := some 35, op := Op.load 42 (Operand.global 1), type := 42, pos := "iccs.go:102", after := #[], guard := none }) (v := ?_) rfl (by kernel_rfl) (by kernel_rfl) (by kernel_rfl) (fun _ _ _ h => (hpn _ _ _ h).elim) (Or.inl ⟨by rfl, ?_⟩) (by assumption) ?_
        case refine_2 =>
          intro w hSw
          (try dsimp only at hSw)
          (try go_simp)
          all_goals (with_reducible rfl)
        (try dsimp only [Act.put]); (try simp only [List.setIfInBounds_toArray, List.set_cons_zero, List.set_cons_succ])
        refine wpAnyH_take (i := 3) (oi := { dst := some 36, op := Op.build 54 #[(0, Operand.tmp 34), (1, Operand.tmp 35)], type := 54, pos := "iccs.go:102", after := #[{ on := 1, ground := Ground.data }, { on := 2, ground := Ground.data }], guard := none }) (v := ?_) rfl (by kernel_rfl) (by kernel_rfl) (by kernel_rfl) (fun _ _ _ h => (hpn _ _ _ h).elim) (Or.inl ⟨by rfl, ?_⟩) (by assumption) ?_
        case refine_2 =>
          intro w hSw
          (try dsimp only at hSw)
          (try go_simp)
          all_goals (with_reducible rfl)
        (try dsimp only [Act.put]); (try simp only [List.setIfInBounds_toArray, List.set_cons_zero, List.set_cons_succ])
        refine wpAnyH_take (i := 4) (oi := { dst := some 37, op := Op.makeInterface 54 (Operand.tmp 36), type := 42, pos := "iccs.go:102", after := #[{ on := 3, ground := Ground.data }], guard := none }) (v := ?_) rfl (by kernel_rfl) (by kernel_rfl) (by kernel_rfl) (fun _ _ _ h => (hpn _ _ _ h).elim) (Or.inl ⟨by rfl, ?_⟩) (by assumption) ?_
        case refine_2 =>
          intro w hSw
          (try dsimp only at hSw)
          (try go_simp)
          all_goals (with_reducible rfl)
        (try dsimp only [Act.put]); (try simp only [List.setIfInBounds_toArray, List.set_cons_zero, List.set_cons_succ])
        refine wpAnyH_ready (rs := [5]) (by kernel_rfl) (by simp) (AllReadyH.cons (o := { dst := none, op := Op.store 33 (Operand.tmp 4) (Operand.const (Value.slice none 0 0)), type := 0, pos := "iccs.go:102", after := #[{ on := 0, ground := Ground.textOnly Departure.inlinedCapture }, { on := 1, ground := Ground.textOnly Departure.lateStores }, { on := 2, ground := Ground.textOnly Departure.inlinedCapture }, { on := 3, ground := Ground.textOnly Departure.inlinedCapture }, { on := 4, ground := Ground.textOnly Departure.inlinedCapture }], guard := none }) rfl (fun K hK => ?_) AllReadyH.nil)
        go_simp
        refine hK.out _ _ ?_ (fun hHeld => ?_)
        · exact pg_dr (pg (pg_un hHeld) _ _ (by simp) d1)
        clear hK K
        (try dsimp only [Act.put]); (try simp only [List.setIfInBounds_toArray, List.set_cons_zero, List.set_cons_succ])
        refine wpAnyH_ready (rs := [6]) (by kernel_rfl) (by simp) (AllReadyH.cons (o := { dst := none, op := Op.store 32 (Operand.tmp 5) (Operand.tmp 33), type := 0, pos := "iccs.go:102", after := #[{ on := 0, ground := Ground.data }, { on := 5, ground := Ground.chain }, { on := 0, ground := Ground.phase }, { on := 1, ground := Ground.textOnly Departure.lateStores }, { on := 2, ground := Ground.textOnly Departure.inlinedCapture }, { on := 3, ground := Ground.textOnly Departure.inlinedCapture }, { on := 4, ground := Ground.textOnly Departure.inlinedCapture }, { on := 5, ground := Ground.phase }], guard := none }) rfl (fun K hK => ?_) AllReadyH.nil)
        go_simp
        refine hK.out _ _ ?_ (fun hHeld => ?_)
        · exact pg_dr (pg (pg (pg (pg (pg_un hHeld) _ _ (by simp) d2) _ _ (by simp) d2) _ _ (by simp) d2) _ _ (by simp) d2)
        clear hK K
        (try dsimp only [Act.put]); (try simp only [List.setIfInBounds_toArray, List.set_cons_zero, List.set_cons_succ])
        refine wpAnyH_ready (rs := [7]) (by kernel_rfl) (by simp) (AllReadyH.cons (o := { dst := none, op := Op.store 42 (Operand.tmp 6) (Operand.tmp 37), type := 0, pos := "iccs.go:102", after := #[{ on := 4, ground := Ground.data }, { on := 6, ground := Ground.chain }, { on := 0, ground := Ground.phase }, { on := 1, ground := Ground.phase }, { on := 2, ground := Ground.phase }, { on := 3, ground := Ground.phase }, { on := 4, ground := Ground.phase }, { on := 5, ground := Ground.phase }, { on := 6, ground := Ground.phase }], guard := none }) rfl (fun K hK => ?_) AllReadyH.nil)
        go_simp
        refine hK.out _ _ ?_ (fun hHeld => ?_)
        · exact pg_dr (pg (pg_un hHeld) _ _ (by simp) d3)
        clear hK K
        (try dsimp only [Act.put]); (try simp only [List.setIfInBounds_toArray, List.set_cons_zero, List.set_cons_succ])
        refine wpAnyH_done (by kernel_rfl) ?_ _
        gi_wp2
        exact ⟨HX.out.2, 8, bs wd, s'.p, HX.out.1⟩
      · have hd : decide ((n : Int) = 1024) = false := by simp; omega
        have hd2 : ¬ (n : Int) = 1024 := by omega
        obtain ⟨c0, c1, c2, c3⟩ : (W1.alloc (.cells #[.int .i64 a, .int .i64 b] 23)).cell? ⟨w.heap.size, 0, none⟩ = some (.string s'.p.s) ∧ (W1.alloc (.cells #[.int .i64 a, .int .i64 b] 23)).cell? ⟨w.heap.size, 1, none⟩ = some (.int .i64 s'.p.y) ∧ (W1.alloc (.cells #[.int .i64 a, .int .i64 b] 23)).cell? ⟨w.heap.size, 2, none⟩ = some (.int .i64 s'.p.z) ∧ (W1.alloc (.cells #[.int .i64 a, .int .i64 b] 23)).cell? ⟨w.heap.size, 3, none⟩ = some (.int .i64 s'.p.u) := ⟨hIV.pos.cell 0, hIV.pos.cell 1, hIV.pos.cell 2, hIV.pos.cell 3⟩
        obtain ⟨m0, m1⟩ : (W1.alloc (.cells #[.int .i64 a, .int .i64 b] 23)).cell? ⟨W1.heap.size, 0, none⟩ = some (.int .i64 a) ∧ (W1.alloc (.cells #[.int .i64 a, .int .i64 b] 23)).cell? ⟨W1.heap.size, 1, none⟩ = some (.int .i64 b) := ⟨bMv.cell 0, bMv.cell 1⟩
        have hTV : Tab (W1.alloc (.cells #[.int .i64 a, .int .i64 b] 23)) := hT.below hIV.bel hT.lt
        cases hm : mayP s'.p (a, b)
        · obtain ⟨tv, k, hV, hk⟩ := I.make_bad hm
          have hmk := make_is s'.p.s s'.p.y s'.p.z s'.p.u a b _ _ hTV hV
          have hk0 : (k != 0) = true := by rw [bne_iff_ne]; exact hk
          have hk1 : ¬ k = 0 := hk
          gi_wp2
          refine ⟨trivial, ?_⟩
          refine (CallsIn.inRound l (callsIn_wide.2 hmk)).mono ?_
          rintro e W2 ⟨rfl, hb2⟩
          gi_wp2
          obtain ⟨V, hV⟩ : ∃ V, W2.alloc (.cells #[.string ⟨#[]⟩, .int .i64 0, .int .i64 0, .int .i64 0] 32) = V := ⟨_, rfl⟩
          have hIV : LI w w.heap.size p (cutL 32 s.data.toList) s' V := by rw [← hV]; exact (hIV.next hb2).alloc _
          have hKV : KeepsFrom w9.heap.size W V := by rw [← hV]; exact (hKV.trans (keeps_below hb2)).trans ((KeepsOthers.alloc _ _).from _)
          rw [hV]
          clear c0 c1 c2 c3 m0 m1 hrm hV hEW hTW hmc bMv hrow hv hmk hb2 hTV
          obtain ⟨r0, g0⟩ : V.cell? ⟨w.heap.size + 1, 0, none⟩ = some (.slice none 0 0) ∧ V.frozen? ⟨w.heap.size + 1, 0, none⟩ = false := ⟨hIV.r1.cell 0, hIV.r1.frozen 0⟩
          obtain ⟨q0, q1, q2, q3⟩ : V.cell? ⟨w.heap.size + 2, 0, none⟩ = some (.string ⟨#[]⟩) ∧ V.cell? ⟨w.heap.size + 2, 1, none⟩ = some (.int .i64 0) ∧ V.cell? ⟨w.heap.size + 2, 2, none⟩ = some (.int .i64 0) ∧ V.cell? ⟨w.heap.size + 2, 3, none⟩ = some (.int .i64 0) := ⟨hIV.r2.cell 0, hIV.r2.cell 1, hIV.r2.cell 2, hIV.r2.cell 3⟩
          obtain ⟨g1, g2, g3, g4⟩ : V.frozen? ⟨w.heap.size + 2, 0, none⟩ = false ∧ V.frozen? ⟨w.heap.size + 2, 1, none⟩ = false ∧ V.frozen? ⟨w.heap.size + 2, 2, none⟩ = false ∧ V.frozen? ⟨w.heap.size + 2, 3, none⟩ = false := ⟨hIV.r2.frozen 0, hIV.r2.frozen 1, hIV.r2.frozen 2, hIV.r2.frozen 3⟩
          obtain ⟨e0, g5⟩ : V.cell? ⟨w.heap.size + 3, 0, none⟩ = some .nilIface ∧ V.frozen? ⟨w.heap.size + 3, 0, none⟩ = false := ⟨hIV.r3.cell 0, hIV.r3.frozen 0⟩
          have hgl : 2 < w.heap.size := cell_lt hE.g2
          have hS : V.drew.cell? ⟨w.heap.size, 0, none⟩ = some (.string s'.p.s) ∧ V.drew.cell? ⟨w.heap.size, 1, none⟩ = some (.int .i64 s'.p.y) ∧ V.drew.cell? ⟨w.heap.size, 2, none⟩ = some (.int .i64 s'.p.z) ∧ V.drew.cell? ⟨w.heap.size, 3, none⟩ = some (.int .i64 s'.p.u) ∧ V.drew.cell? ⟨2, 0, none⟩ = some (errV a2) := ⟨hIV.pos.cell 0, hIV.pos.cell 1, hIV.pos.cell 2, hIV.pos.cell 3, (hE.next hIV.bel).g2⟩
          have hlin : lineF 0 p (cutL 32 s.data.toList) = .no 7 := by rw [hI.lin, htd, line_move hr (by rw [hn]; exact h1024) hm]; rfl
          obtain ⟨hX, hKX⟩ := hIV.refuse a0 a1 a2 (bs wd) 7 (.inr (.inl rfl)) hlin (faultV (bs wd) a2) rfl w9.heap.size
          have HX := Lib.hid (And.intro hX (hKV.trans hKX))
          have d1 : ¬ w.heap.size + 1 = 2 := by omega
          have d2 : ¬ w.heap.size + 2 = 2 := by omega
          have d3 : ¬ w.heap.size + 3 = 2 := by omega
          clear hX hKX hlin hKV hIV
          refine wp_region_held_round (S := fun X => X.cell? ⟨w.heap.size, 0, none⟩ = some (.string s'.p.s) ∧ X.cell? ⟨w.heap.size, 1, none⟩ = some (.int .i64 s'.p.y) ∧ X.cell? ⟨w.heap.size, 2, none⟩ = some (.int .i64 s'.p.z) ∧ X.cell? ⟨w.heap.size, 3, none⟩ = some (.int .i64 s'.p.u) ∧ X.cell? ⟨2, 0, none⟩ = some (errV a2)) (by kernel_rfl) (noDefer_of (by rfl)) (fun hq => hno (by obtain ⟨aq, wq, h⟩ := hq; exact ⟨aq, wq, h⟩)) (hS) (fun hHeld => ?_)
          refine wpAnyH_take (i := 0) (oi := { dst := some 47, op := Op.load 32 (Operand.tmp 2), type := 32, pos := "iccs.go:106", after := #[], guard := none }) (v := ?_) rfl (by kernel_rfl) (by kernel_rfl) (by kernel_rfl) (fun _ _ _ h => (hpn _ _ _ h).elim) (Or.inl ⟨by rfl, ?_⟩) (by assumption) ?_
          case refine_2 =>
            intro w hSw
            (try dsimp only at hSw)
            (try go_simp)
            all_goals (with_reducible rfl)
          (try dsimp only [Act.put]); (try simp only [List.setIfInBounds_toArray, List.set_cons_zero, List.set_cons_succ])
          refine wpAnyH_take (i := 1) (oi := { dst := some 48, op := Op.move (Operand.tmp 8), type := 9, pos := "iccs.go:106", after := #[], guard := none }) (v := ?_) rfl (by kernel_rfl) (by kernel_rfl) (by kernel_rfl) (fun _ _ _ h => (hpn _ _ _ h).elim) (Or.inl ⟨by rfl, ?_⟩) (by assumption) ?_
          case refine_2 =>
            intro w hSw
            (try dsimp only at hSw)
            (try go_simp)
            all_goals (with_reducible rfl)
          (try dsimp only [Act.put]); (try simp only [List.setIfInBounds_toArray, List.set_cons_zero, List.set_cons_succ])
          refine wpAnyH_take (i := 2) (oi := { dst := some 49, op := Op.load 42 (Operand.global 2), type := 42, pos := "iccs.go:106", after := #[], guard := none }) (v := ?_) rfl (by kernel_rfl) (by kernel_rfl) (by kernel_rfl) (fun _ _ _ h => (hpn _ _ _ h).elim) (Or.inl ⟨by rfl, ?_⟩) (by assumption) ?_
          case refine_2 =>
            intro w hSw
            (try dsimp only at hSw)
            (try go_simp)
            all_goals (with_reducible rfl)
          (try dsimp only [Act.put]); (try simp only [List.setIfInBounds_toArray, List.set_cons_zero, List.set_cons_succ])
          refine wpAnyH_take (i := 3) (oi := { dst := some 50, op := Op.build 54 #[(0, Operand.tmp 48), (1, Operand.tmp 49)], type := 54, pos := "iccs.go:106", after := #[{ on := 1, ground := Ground.data }, { on := 2, ground := Ground.data }], guard := none }) (v := ?_) rfl (by kernel_rfl) (by kernel_rfl) (by kernel_rfl) (fun _ _ _ h => (hpn _ _ _ h).elim) (Or.inl ⟨by rfl, ?_⟩) (by assumption) ?_
          case refine_2 =>
            intro w hSw
            (try dsimp only at hSw)
            (try go_simp)
            all_goals (with_reducible rfl)
          (try dsimp only [Act.put]); (try simp only [List.setIfInBounds_toArray, List.set_cons_zero, List.set_cons_succ])
          refine wpAnyH_take (i := 4) (oi := { dst := some 51, op := Op.makeInterface 54 (Operand.tmp 50), type := 42, pos := "iccs.go:106", after := #[{ on := 3, ground := Ground.data }], guard := none }) (v := ?_) rfl (by kernel_rfl) (by kernel_rfl) (by kernel_rfl) (fun _ _ _ h => (hpn _ _ _ h).elim) (Or.inl ⟨by rfl, ?_⟩) (by assumption) ?_
          case refine_2 =>
            intro w hSw
            (try dsimp only at hSw)
            (try go_simp)
            all_goals (with_reducible rfl)
          (try dsimp only [Act.put]); (try simp only [List.setIfInBounds_toArray, List.set_cons_zero, List.set_cons_succ])
          refine wpAnyH_ready (rs := [5]) (by kernel_rfl) (by simp) (AllReadyH.cons (o := { dst := none, op := Op.store 33 (Operand.tmp 4) (Operand.const (Value.slice none 0 0)), type := 0, pos := "iccs.go:106", after := #[{ on := 0, ground := Ground.textOnly Departure.inlinedCapture }, { on := 1, ground := Ground.textOnly Departure.lateStores }, { on := 2, ground := Ground.textOnly Departure.inlinedCapture }, { on := 3, ground := Ground.textOnly Departure.inlinedCapture }, { on := 4, ground := Ground.textOnly Departure.inlinedCapture }], guard := none }) rfl (fun K hK => ?_) AllReadyH.nil)
          go_simp
          refine hK.out _ _ ?_ (fun hHeld => ?_)
          · exact pg_dr (pg (pg_un hHeld) _ _ (by simp) d1)
          clear hK K
          (try dsimp only [Act.put]); (try simp only [List.setIfInBounds_toArray, List.set_cons_zero, List.set_cons_succ])
          refine wpAnyH_ready (rs := [6]) (by kernel_rfl) (by simp) (AllReadyH.cons (o := { dst := none, op := Op.store 32 (Operand.tmp 5) (Operand.tmp 47), type := 0, pos := "iccs.go:106", after := #[{ on := 0, ground := Ground.data }, { on := 5, ground := Ground.chain }, { on := 0, ground := Ground.phase }, { on := 1, ground := Ground.textOnly Departure.lateStores }, { on := 2, ground := Ground.textOnly Departure.inlinedCapture }, { on := 3, ground := Ground.textOnly Departure.inlinedCapture }, { on := 4, ground := Ground.textOnly Departure.inlinedCapture }, { on := 5, ground := Ground.phase }], guard := none }) rfl (fun K hK => ?_) AllReadyH.nil)
          go_simp
          refine hK.out _ _ ?_ (fun hHeld => ?_)
          · exact pg_dr (pg (pg (pg (pg (pg_un hHeld) _ _ (by simp) d2) _ _ (by simp) d2) _ _ (by simp) d2) _ _ (by simp) d2)
          clear hK K
          (try dsimp only [Act.put]); (try simp only [List.setIfInBounds_toArray, List.set_cons_zero, List.set_cons_succ])
          refine wpAnyH_ready (rs := [7]) (by kernel_rfl) (by simp) (AllReadyH.cons (o := { dst := none, op := Op.store 42 (Operand.tmp 6) (Operand.tmp 51), type := 0, pos := "iccs.go:106", after := #[{ on := 4, ground := Ground.data }, { on := 6, ground := Ground.chain }, { on := 0, ground := Ground.phase }, { on := 1, ground := Ground.phase }, { on := 2, ground := Ground.phase }, { on := 3, ground := Ground.phase }, { on := 4, ground := Ground.phase }, { on := 5, ground := Ground.phase }, { on := 6, ground := Ground.phase }], guard := none }) rfl (fun K hK => ?_) AllReadyH.nil)
          go_simp
          refine hK.out _ _ ?_ (fun hHeld => ?_)
          · exact pg_dr (pg (pg_un hHeld) _ _ (by simp) d3)
          clear hK K
          (try dsimp only [Act.put]); (try simp only [List.setIfInBounds_toArray, List.set_cons_zero, List.set_cons_succ])
          refine wpAnyH_done (by kernel_rfl) ?_ _
          gi_wp2
          exact ⟨HX.out.2, 7, bs wd, s'.p, HX.out.1⟩
        · obtain ⟨t, hV⟩ := I.make_good hm
          have hmk := make_is s'.p.s s'.p.y s'.p.z s'.p.u a b _ _ hTV hV
          obtain ⟨q, hq⟩ : ∃ q, behindP s'.p (a, b) = q := ⟨_, rfl⟩
          rw [hq] at hmk
          unfold Pz.v at hmk
          gi_wp2
          refine ⟨trivial, ?_⟩
          refine (CallsIn.inRound l (callsIn_wide.2 hmk)).mono ?_
          rintro e W2 ⟨rfl, hb2⟩
          gi_wp2
          obtain ⟨V, hV⟩ : ∃ V, W2.alloc (.cells #[.string q.s, .int .i64 q.y, .int .i64 q.z, .int .i64 q.u] 32) = V := ⟨_, rfl⟩
          have hIV : LI w w.heap.size p (cutL 32 s.data.toList) s' V := by rw [← hV]; exact (hIV.next hb2).alloc _
          have hKV : KeepsFrom w9.heap.size W V := by rw [← hV]; exact (hKV.trans (keeps_below hb2)).trans ((KeepsOthers.alloc _ _).from _)
          have bQ : Blk V W2.heap.size 32 #[.string q.s, .int .i64 q.y, .int .i64 q.z, .int .i64 q.u] := by rw [← hV]; exact Blk.new _ _ _ rfl
          have bMV : Blk V W1.heap.size 23 #[.int .i64 a, .int .i64 b] := by rw [← hV]; exact (bMv.next hb2).alloc _
          have hvV : Blk V (w.heap.size + 4) 33 #[.slice A n c] := by rw [← hV, ← hn]; exact (hv.next hb2).alloc _
          have hrowV : V.ownsRow (w.heap.size + 8) 23 2 (.slice A n c) n (mvl s'.ms) := by
            rw [← hV, ← hn]
            exact row_on (row_on hrow fun k cs t z hk _ _ => hb2.block k (Array.getElem?_eq_some_iff.1 hk).1) fun k cs t z hk _ _ => Below.heap_alloc W2 _ k (Array.getElem?_eq_some_iff.1 hk).1
          have hG1 : ∀ k, (Value.slice A n c).ownBlock = some k → k < W1.heap.size := fun k hk => by rw [← hn] at hk; exact hrowlt k hk
          have hsW : w.heap.size + 8 ≤ W1.heap.size := Nat.le_trans hI.sz hb1.size
          have hs12 : W1.heap.size < W2.heap.size := by have := hb2.size; simp at this; omega
          rw [hV]
          clear c0 c1 c2 c3 m0 m1 hrm hV hEW hTW hmc bMv hrow hv hmk hTV hrowlt
          obtain ⟨U, hU⟩ : ∃ U, (V.alloc (.cells #[.int .i64 a, .int .i64 b] 23)).drew = U := ⟨_, rfl⟩
          have hbU : Below V.heap.size V U := by rw [← hU]; exact ((Below.refl _ V).alloc (Nat.le_refl _) _).drew
          have bN : Blk U V.heap.size 23 #[.int .i64 a, .int .i64 b] := by rw [← hU]; exact (Blk.new V 23 #[.int .i64 a, .int .i64 b] rfl).next (Below.refl _ _).drew
          have hrowU : U.ownsRow (w.heap.size + 8) 23 2 (.slice A n c) n (mvl s'.ms) := row_on hrowV fun k cs t z hk _ _ => hbU.block k (Array.getElem?_eq_some_iff.1 hk).1
          have hIU := hIV.next hbU
          have hvU := hvV.next hbU
          have hv0 := hvV.cell 0
          have hvu0 : U.cell? ⟨w.heap.size + 4, 0, none⟩ = some (.slice A n c) := hvU.cell 0
          obtain ⟨i0, hi0, hz0, hz1, hz2⟩ := info_parts12 info_mv12
          have HONE : Hid (∀ x ∈ [Value.int .i64 a, Value.int .i64 b], x.oneCell' = true) := by
            show ∀ x ∈ _, _
            intro x hx
            simp only [List.mem_cons, List.not_mem_nil, or_false] at hx
            rcases hx with rfl | rfl <;> rfl
          have HL : Hid (n + 1 ≤ maxLen) := by show _ ≤ _; unfold maxLen; omega
          have HBY : Hid ((n + 1) * 16 ≤ 140737488355328) := by show _ ≤ _; omega
          have hS : Two6 W1.heap.size W2.heap.size a b q.s q.y q.z q.u V.drew := ⟨bMV.cell 0, bMV.cell 1, bQ.cell 0, bQ.cell 1, bQ.cell 2, bQ.cell 3⟩
          have hSU : Two6 W1.heap.size W2.heap.size a b q.s q.y q.z q.u U := Two6.keep (X := V) hS (hbU.block _ bMV.lt) (hbU.block _ bQ.lt)
          unfold Two6 at hS hSU
          have hbase := hIU.sz
          have hlt1 : W1.heap.size < U.heap.size := (bMV.next hbU).lt
          have hlt2 : W2.heap.size < U.heap.size := (bQ.next hbU).lt
          have HKG : Hid (∀ w6, U.grownBy w6 (Value.slice A n c).ownBlock → Two6 W1.heap.size W2.heap.size a b q.s q.y q.z q.u w6) := fun w6 hgrow => Two6.keep (X := U) hSU (hgrow.block _ hlt1 fun e => by have := hG1 _ e.symm; omega) (hgrow.block _ hlt2 fun e => by have := hG1 _ e.symm; omega)
          have hlow : ∀ k, k < w.heap.size + 8 → some k ≠ (Value.slice A n c).ownBlock := fun k hk e => by have := (row_has hrowU e.symm).1; omega
          have HPos := Lib.hid hIU.pos
          have HIU := Lib.hid (And.intro hIU (And.intro hvU hrowU))
          have HKU := Lib.hid (hKV.trans (keeps_below (B := w9.heap.size) hbU))
          have HLN : Hid (lineF 0 p (cutL 32 s.data.toList) = (lineF (n + 1) q tl).put (s'.ms ++ [(a, b)])) := by
            show _ = _
            rw [hI.lin, htd, hn, line_on hr h1024 hm, hq, Got.put_put]
          have k4 : W1.heap.size ≠ w.heap.size + 4 := by omega
          have k5 : W2.heap.size ≠ w.heap.size + 4 := by omega
          have k6 : W1.heap.size ≠ w.heap.size := by omega
          have k7 : W2.heap.size ≠ w.heap.size := by omega
          refine wp_region_held_round (S := fun X => X.cell? ⟨W1.heap.size, 0, none⟩ = some (.int .i64 a) ∧ X.cell? ⟨W1.heap.size, 1, none⟩ = some (.int .i64 b) ∧ X.cell? ⟨W2.heap.size, 0, none⟩ = some (.string q.s) ∧ X.cell? ⟨W2.heap.size, 1, none⟩ = some (.int .i64 q.y) ∧ X.cell? ⟨W2.heap.size, 2, none⟩ = some (.int .i64 q.z) ∧ X.cell? ⟨W2.heap.size, 3, none⟩ = some (.int .i64 q.u)) (by kernel_rfl) (noDefer_of (by rfl)) (fun hq => hno (by obtain ⟨aq, wq, h⟩ := hq; exact ⟨aq, wq, h⟩)) (hS) (fun hHeld => ?_)
          refine wpAnyH_take (i := 1) (oi := { dst := some 53, op := Op.load 23 (Operand.tmp 9), type := 23, pos := "iccs.go:108", after := #[], guard := none }) (v := ?_) rfl (by kernel_rfl) (by kernel_rfl) (by kernel_rfl) (fun _ _ _ h => (hpn _ _ _ h).elim) (Or.inl ⟨by rfl, ?_⟩) (by assumption) ?_
          case refine_2 =>
            intro w hSw
            (try dsimp only at hSw)
            (try go_simp)
            all_goals (with_reducible rfl)
          (try dsimp only [Act.put]); (try simp only [List.setIfInBounds_toArray, List.set_cons_zero, List.set_cons_succ])
          refine wpAnyH_take (i := 4) (oi := { dst := some 56, op := Op.load 32 (Operand.tmp 11), type := 32, pos := "iccs.go:108", after := #[{ on := 5, ground := Ground.gcOnly Departure.lateStores }], guard := none }) (v := ?_) rfl (by kernel_rfl) (by kernel_rfl) (by kernel_rfl) (fun _ _ _ h => (hpn _ _ _ h).elim) (Or.inl ⟨by rfl, ?_⟩) (by assumption) ?_
          case refine_2 =>
            intro w hSw
            (try dsimp only at hSw)
            (try go_simp)
            all_goals (with_reducible rfl)
          (try dsimp only [Act.put]); (try simp only [List.setIfInBounds_toArray, List.set_cons_zero, List.set_cons_succ])
          refine wpAnyH_ready (rs := [0, 2]) (by kernel_rfl) (by simp) (AllReadyH.cons (o := { dst := some 52, op := Op.load 33 (Operand.tmp 7), type := 33, pos := "iccs.go:108", after := #[], guard := none }) rfl (fun K hK => ?rd3_1) (AllReadyH.cons (o := { dst := some 54, op := Op.buildSlice 33 1 #[(0, Operand.tmp 53)], type := 33, pos := "iccs.go:108", after := #[{ on := 1, ground := Ground.data }], guard := none }) rfl (fun K hK => ?rd3_2) AllReadyH.nil))
          case' rd3_1 =>
            go_simp
            refine hK.out _ _ ?_ (fun hHeld => ?_)
            · first | with_reducible assumption | exact hSU
            clear hK K
            (try dsimp only [Act.put]); (try simp only [List.setIfInBounds_toArray, List.set_cons_zero, List.set_cons_succ])
            refine wpAnyH_ready (rs := [2]) (by kernel_rfl) (by simp) (AllReadyH.cons (o := { dst := some 54, op := Op.buildSlice 33 1 #[(0, Operand.tmp 53)], type := 33, pos := "iccs.go:108", after := #[{ on := 1, ground := Ground.data }], guard := none }) rfl (fun K hK => ?_) AllReadyH.nil)
            go_simp
            refine hK.out _ _ ?_ (fun hHeld => ?_)
            · exact hSU
            clear hK K
            (try dsimp only [Act.put]); (try simp only [List.setIfInBounds_toArray, List.set_cons_zero, List.set_cons_succ])
            refine wpAnyH_ready (rs := [3]) (by kernel_rfl) (by simp) (AllReadyH.cons (o := { dst := some 55, op := Op.call { callee := Callee.builtin Builtin.append, args := #[Operand.tmp 52, Operand.tmp 54], argTypes := #[33, 33] }, type := 33, pos := "iccs.go:108", after := #[{ on := 0, ground := Ground.data }, { on := 2, ground := Ground.data }], guard := none }) rfl (fun K hK => ?_) AllReadyH.nil)
            refine step_append_lies _ rfl (.tmp 52) (.tmp 54) 33 rfl (w.heap.size + 8) 23 i0 _ 2 16 Tryz.underlying33 hi0 hz0 hz1 hz2 rfl (by decide) _ n (mvl s'.ms) rfl hrowU ⟨V.heap.size, 0, none⟩ 1 1 [.int .i64 a, .int .i64 b] rfl rfl (World.news_of_block bN) HONE.out (by decide) HL.out HBY.out hbase _ rfl ?_; intro g2 cap2 w6 hown2 hgrow hat hlt6; have bG : Blk w6 (w.heap.size + 4) 33 #[.slice A n c] := (hgrow.block _ hvU.lt (hlow _ (by omega))).trans hvU; have c6 : w6.cell? ⟨w.heap.size + 4, 0, none⟩ = some (.slice A n c) := bG.cell 0; have f6 := bG.frozen 0; have bP : Blk w6 w.heap.size 32 #[.string s'.p.s, .int .i64 s'.p.y, .int .i64 s'.p.z, .int .i64 s'.p.u] := (hgrow.block _ HPos.out.lt (hlow _ (by omega))).trans HPos.out; have z0 : w6.cell? ⟨w.heap.size, 0, none⟩ = some (.string s'.p.s) := bP.cell 0; have z1 : w6.cell? ⟨w.heap.size, 1, none⟩ = some (.int .i64 s'.p.y) := bP.cell 1; have z2 : w6.cell? ⟨w.heap.size, 2, none⟩ = some (.int .i64 s'.p.z) := bP.cell 2; have z3 : w6.cell? ⟨w.heap.size, 3, none⟩ = some (.int .i64 s'.p.u) := bP.cell 3; have y0 := bP.frozen 0; have y1 := bP.frozen 1; have y2 := bP.frozen 2; have y3 := bP.frozen 3
            refine hK.out _ _ ?_ (fun hHeld => ?_)
            · exact HKG.out _ hgrow
            clear hK K
            (try dsimp only [Act.put]); (try simp only [List.setIfInBounds_toArray, List.set_cons_zero, List.set_cons_succ])
            refine wpAnyH_ready (rs := [5]) (by kernel_rfl) (by simp) (AllReadyH.cons (o := { dst := none, op := Op.store 33 (Operand.tmp 7) (Operand.tmp 55), type := 0, pos := "iccs.go:108", after := #[{ on := 3, ground := Ground.data }, { on := 3, ground := Ground.chain }, { on := 0, ground := Ground.phase }, { on := 1, ground := Ground.phase }, { on := 2, ground := Ground.phase }, { on := 3, ground := Ground.phase }, { on := 4, ground := Ground.textOnly Departure.lateStores }], guard := none }) rfl (fun K hK => ?_) AllReadyH.nil)
            go_simp
            refine hK.out _ _ ?_ (fun hHeld => ?_)
            · exact Two6.keep hHeld (Below.heap_setCell _ _ _ _ k4) (Below.heap_setCell _ _ _ _ k5)
            clear hK K
            (try dsimp only [Act.put]); (try simp only [List.setIfInBounds_toArray, List.set_cons_zero, List.set_cons_succ])
            refine wpAnyH_ready (rs := [6]) (by kernel_rfl) (by simp) (AllReadyH.cons (o := { dst := none, op := Op.store 32 (Operand.tmp 2) (Operand.tmp 56), type := 0, pos := "iccs.go:108", after := #[{ on := 4, ground := Ground.data }, { on := 5, ground := Ground.chain }, { on := 0, ground := Ground.phase }, { on := 1, ground := Ground.phase }, { on := 2, ground := Ground.phase }, { on := 3, ground := Ground.phase }, { on := 4, ground := Ground.phase }, { on := 5, ground := Ground.phase }], guard := none }) rfl (fun K hK => ?_) AllReadyH.nil)
            go_simp
            refine hK.out _ _ ?_ (fun hHeld => ?_)
            · exact Two6.keep (Two6.keep (Two6.keep (Two6.keep hHeld (Below.heap_setCell _ _ _ _ k6) (Below.heap_setCell _ _ _ _ k7)) (Below.heap_setCell _ _ _ _ k6) (Below.heap_setCell _ _ _ _ k7)) (Below.heap_setCell _ _ _ _ k6) (Below.heap_setCell _ _ _ _ k7)) (Below.heap_setCell _ _ _ _ k6) (Below.heap_setCell _ _ _ _ k7)
            clear hK K
            (try dsimp only [Act.put]); (try simp only [List.setIfInBounds_toArray, List.set_cons_zero, List.set_cons_succ])
            refine wpAnyH_done (by kernel_rfl) ?_ _
          case' rd3_2 =>
            go_simp
            refine hK.out _ _ ?_ (fun hHeld => ?_)
            · exact hSU
            clear hK K
            (try dsimp only [Act.put]); (try simp only [List.setIfInBounds_toArray, List.set_cons_zero, List.set_cons_succ])
            refine wpAnyH_ready (rs := [0]) (by kernel_rfl) (by simp) (AllReadyH.cons (o := { dst := some 52, op := Op.load 33 (Operand.tmp 7), type := 33, pos := "iccs.go:108", after := #[], guard := none }) rfl (fun K hK => ?_) AllReadyH.nil)
            go_simp
            refine hK.out _ _ ?_ (fun hHeld => ?_)
            · first | with_reducible assumption | exact hSU
            clear hK K
            (try dsimp only [Act.put]); (try simp only [List.setIfInBounds_toArray, List.set_cons_zero, List.set_cons_succ])
            refine wpAnyH_ready (rs := [3]) (by kernel_rfl) (by simp) (AllReadyH.cons (o := { dst := some 55, op := Op.call { callee := Callee.builtin Builtin.append, args := #[Operand.tmp 52, Operand.tmp 54], argTypes := #[33, 33] }, type := 33, pos := "iccs.go:108", after := #[{ on := 0, ground := Ground.data }, { on := 2, ground := Ground.data }], guard := none }) rfl (fun K hK => ?_) AllReadyH.nil)
            refine step_append_lies _ rfl (.tmp 52) (.tmp 54) 33 rfl (w.heap.size + 8) 23 i0 _ 2 16 Tryz.underlying33 hi0 hz0 hz1 hz2 rfl (by decide) _ n (mvl s'.ms) rfl hrowU ⟨V.heap.size, 0, none⟩ 1 1 [.int .i64 a, .int .i64 b] rfl rfl (World.news_of_block bN) HONE.out (by decide) HL.out HBY.out hbase _ rfl ?_; intro g2 cap2 w6 hown2 hgrow hat hlt6; have bG : Blk w6 (w.heap.size + 4) 33 #[.slice A n c] := (hgrow.block _ hvU.lt (hlow _ (by omega))).trans hvU; have c6 : w6.cell? ⟨w.heap.size + 4, 0, none⟩ = some (.slice A n c) := bG.cell 0; have f6 := bG.frozen 0; have bP : Blk w6 w.heap.size 32 #[.string s'.p.s, .int .i64 s'.p.y, .int .i64 s'.p.z, .int .i64 s'.p.u] := (hgrow.block _ HPos.out.lt (hlow _ (by omega))).trans HPos.out; have z0 : w6.cell? ⟨w.heap.size, 0, none⟩ = some (.string s'.p.s) := bP.cell 0; have z1 : w6.cell? ⟨w.heap.size, 1, none⟩ = some (.int .i64 s'.p.y) := bP.cell 1; have z2 : w6.cell? ⟨w.heap.size, 2, none⟩ = some (.int .i64 s'.p.z) := bP.cell 2; have z3 : w6.cell? ⟨w.heap.size, 3, none⟩ = some (.int .i64 s'.p.u) := bP.cell 3; have y0 := bP.frozen 0; have y1 := bP.frozen 1; have y2 := bP.frozen 2; have y3 := bP.frozen 3
            refine hK.out _ _ ?_ (fun hHeld => ?_)
            · exact HKG.out _ hgrow
            clear hK K
            (try dsimp only [Act.put]); (try simp only [List.setIfInBounds_toArray, List.set_cons_zero, List.set_cons_succ])
            refine wpAnyH_ready (rs := [5]) (by kernel_rfl) (by simp) (AllReadyH.cons (o := { dst := none, op := Op.store 33 (Operand.tmp 7) (Operand.tmp 55), type := 0, pos := "iccs.go:108", after := #[{ on := 3, ground := Ground.data }, { on := 3, ground := Ground.chain }, { on := 0, ground := Ground.phase }, { on := 1, ground := Ground.phase }, { on := 2, ground := Ground.phase }, { on := 3, ground := Ground.phase }, { on := 4, ground := Ground.textOnly Departure.lateStores }], guard := none }) rfl (fun K hK => ?_) AllReadyH.nil)
            go_simp
            refine hK.out _ _ ?_ (fun hHeld => ?_)
            · exact Two6.keep hHeld (Below.heap_setCell _ _ _ _ k4) (Below.heap_setCell _ _ _ _ k5)
            clear hK K
            (try dsimp only [Act.put]); (try simp only [List.setIfInBounds_toArray, List.set_cons_zero, List.set_cons_succ])
            refine wpAnyH_ready (rs := [6]) (by kernel_rfl) (by simp) (AllReadyH.cons (o := { dst := none, op := Op.store 32 (Operand.tmp 2) (Operand.tmp 56), type := 0, pos := "iccs.go:108", after := #[{ on := 4, ground := Ground.data }, { on := 5, ground := Ground.chain }, { on := 0, ground := Ground.phase }, { on := 1, ground := Ground.phase }, { on := 2, ground := Ground.phase }, { on := 3, ground := Ground.phase }, { on := 4, ground := Ground.phase }, { on := 5, ground := Ground.phase }], guard := none }) rfl (fun K hK => ?_) AllReadyH.nil)
            go_simp
            refine hK.out _ _ ?_ (fun hHeld => ?_)
            · exact Two6.keep (Two6.keep (Two6.keep (Two6.keep hHeld (Below.heap_setCell _ _ _ _ k6) (Below.heap_setCell _ _ _ _ k7)) (Below.heap_setCell _ _ _ _ k6) (Below.heap_setCell _ _ _ _ k7)) (Below.heap_setCell _ _ _ _ k6) (Below.heap_setCell _ _ _ _ k7)) (Below.heap_setCell _ _ _ _ k6) (Below.heap_setCell _ _ _ _ k7)
            clear hK K
            (try dsimp only [Act.put]); (try simp only [List.setIfInBounds_toArray, List.set_cons_zero, List.set_cons_succ])
            refine wpAnyH_done (by kernel_rfl) ?_ _
          all_goals
            obtain ⟨hLI, hKK⟩ := HIU.out.1.on HIU.out.2.1 hn HIU.out.2.2 hown2 hgrow q tl HLN.out (by omega) w9.heap.size
            have HF := Lib.hid (And.intro (HKU.out.trans hKK) hLI)
            clear hLI hKK hown2 hgrow
            gi_wp2
            exact ⟨HF.out.1, ⟨s'.ms ++ [(a, b)], q, s'.cur, tl⟩, ⟨rfl, wd, rfl, htd⟩, HF.out.2⟩
  case done =>
    intro D s' W hD htd hI hK
    have hlin := hI.lin
    rw [htd] at hlin
    have hL : lineF 0 p (cutL 32 s.data.toList) = .got s'.ms s'.p := by rw [hlin, lineF]; show Got.got (s'.ms ++ []) s'.p = _; rw [List.append_nil]
    obtain ⟨v, hv, hrow⟩ := hI.mb
    obtain ⟨A, c, rfl⟩ := row_slice hrow
    obtain ⟨c0, c1, c2, c3⟩ : W.cell? ⟨w.heap.size, 0, none⟩ = some (.string s'.p.s) ∧ W.cell? ⟨w.heap.size, 1, none⟩ = some (.int .i64 s'.p.y) ∧ W.cell? ⟨w.heap.size, 2, none⟩ = some (.int .i64 s'.p.z) ∧ W.cell? ⟨w.heap.size, 3, none⟩ = some (.int .i64 s'.p.u) := ⟨hI.pos.cell 0, hI.pos.cell 1, hI.pos.cell 2, hI.pos.cell 3⟩
    have m0 : W.cell? ⟨w.heap.size + 4, 0, none⟩ = some (.slice A s'.ms.length c) := hv.cell 0
    obtain ⟨r0, g0⟩ : W.cell? ⟨w.heap.size + 1, 0, none⟩ = some (.slice none 0 0) ∧ W.frozen? ⟨w.heap.size + 1, 0, none⟩ = false := ⟨hI.r1.cell 0, hI.r1.frozen 0⟩
    obtain ⟨q0, q1, q2, q3⟩ : W.cell? ⟨w.heap.size + 2, 0, none⟩ = some (.string ⟨#[]⟩) ∧ W.cell? ⟨w.heap.size + 2, 1, none⟩ = some (.int .i64 0) ∧ W.cell? ⟨w.heap.size + 2, 2, none⟩ = some (.int .i64 0) ∧ W.cell? ⟨w.heap.size + 2, 3, none⟩ = some (.int .i64 0) := ⟨hI.r2.cell 0, hI.r2.cell 1, hI.r2.cell 2, hI.r2.cell 3⟩
    obtain ⟨g1, g2, g3, g4⟩ : W.frozen? ⟨w.heap.size + 2, 0, none⟩ = false ∧ W.frozen? ⟨w.heap.size + 2, 1, none⟩ = false ∧ W.frozen? ⟨w.heap.size + 2, 2, none⟩ = false ∧ W.frozen? ⟨w.heap.size + 2, 3, none⟩ = false := ⟨hI.r2.frozen 0, hI.r2.frozen 1, hI.r2.frozen 2, hI.r2.frozen 3⟩
    obtain ⟨e0, g5⟩ : W.cell? ⟨w.heap.size + 3, 0, none⟩ = some .nilIface ∧ W.frozen? ⟨w.heap.size + 3, 0, none⟩ = false := ⟨hI.r3.cell 0, hI.r3.frozen 0⟩
    obtain ⟨hK', b1, b2, b3, hrow', hbel⟩ := hI.finish (D := D) (by omega) hK hrow
    have HEND := Lib.hid (And.intro hK' (And.intro b1 (And.intro b2 (And.intro b3 (And.intro hrow' hbel)))))
    clear hK' b1 b2 b3 hrow' hbel hrow
    go_wp2_with fail
    go_region_with (fail)
    all_goals
      go_wp2_with fail
      obtain ⟨hK', b1, b2, b3, hrow', hbel⟩ := HEND.out
      have x1 := cell1 b1
      obtain ⟨x2, x3, x4, x5⟩ := cell4 b2
      have x6 := cell1 b3
      have hEnd := ends_got (a0 := a0) (a1 := a1) (a2 := a2) hbel hL hrow'
      simp only [show w.heap.size + 1 + 1 = w.heap.size + 2 from rfl, show w.heap.size + 2 + 1 = w.heap.size + 3 from rfl, show w.heap.size + 3 + 1 = w.heap.size + 4 from rfl]
      refine ⟨by simp, .inl ⟨_, _, rfl, run_takeDeferred hK', ?_⟩⟩
      exact ⟨_, by simp [results, Tryz.results22, go_sem, x1, x2, x3, x4, x5, x6], hEnd⟩
  case stop =>
    rintro D W hD ⟨k, t, q, hX⟩ hK
    have B1 := blk_put (l := D) hX.r1 (.deferred none) (by omega)
    have B2 := blk_put (l := D) hX.r2 (.deferred none) (by omega)
    have B3 := blk_put (l := D) hX.r3 (.deferred none) (by omega)
    have x1 : (W.putObj D (.deferred none)).cell? ⟨w.heap.size + 1, 0, none⟩ = some (.slice none 0 0) := B1.cell 0
    obtain ⟨x2, x3, x4, x5⟩ : (W.putObj D (.deferred none)).cell? ⟨w.heap.size + 2, 0, none⟩ = some (.string q.s) ∧ (W.putObj D (.deferred none)).cell? ⟨w.heap.size + 2, 1, none⟩ = some (.int .i64 q.y) ∧ (W.putObj D (.deferred none)).cell? ⟨w.heap.size + 2, 2, none⟩ = some (.int .i64 q.z) ∧ (W.putObj D (.deferred none)).cell? ⟨w.heap.size + 2, 3, none⟩ = some (.int .i64 q.u) := ⟨B2.cell 0, B2.cell 1, B2.cell 2, B2.cell 3⟩
    have x6 : (W.putObj D (.deferred none)).cell? ⟨w.heap.size + 3, 0, none⟩ = some (errA a0 a1 a2 t k) := B3.cell 0
    have hEnd : LineEnds w a0 a1 a2 p (cutL 32 s.data.toList) (.returned (.tuple #[.slice none 0 0, .agg #[.string q.s, .int .i64 q.y, .int .i64 q.z, .int .i64 q.u], errA a0 a1 a2 t k])) (W.putObj D (.deferred none)) := by
      unfold LineEnds
      rw [hX.lin]
      exact ⟨below_put hX.bel (by omega) hK, hX.kk, t, q, rfl⟩
    gi_wp2
    refine ⟨by simp, .inl ⟨_, _, rfl, run_takeDeferred hK, ?_⟩⟩
    exact ⟨_, by simp [results, Tryz.results22, go_sem, x1, x2, x3, x4, x5, x6], hEnd⟩
end Go.Proofs.YtmmomgaijgpmmaaGreatDoor
