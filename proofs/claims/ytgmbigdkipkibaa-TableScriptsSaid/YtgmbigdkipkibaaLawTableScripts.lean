/- Whatever is put, got, used and cleared, a table tells just what the document says: the call answers true. -/
import Derived.Test.YtgmbigdkipkibaaTabL
import Derived.Test.YtgmbigdkipkibaaTabE
namespace Go.Proofs.Ytgmbigdkipkibaa.tscripts
open Go.RowKit Go.Shelf
attribute [local go_sem] Oper.semAt_some

/-- The code's slots and the document's entries are the same table. -/
structure SameT (n : Nat) (f : Nat → Option Ent) (L : List Ent) : Prop where
  has : ∀ j (h : j < L.length), f (L[j].k % n) = some L[j]
  all : ∀ i x, i < n → f i = some x → ∃ j, ∃ h : j < L.length, L[j] = x ∧ x.k % n = i
  one : ∀ i j (hi : i < L.length) (hj : j < L.length), L[i].k % n = L[j].k % n → i = j
  cnt : cntO f n = L.length
  sure : ∀ x ∈ L, x.u = 0 ∨ x.u = 1 ∨ x.u = 2
  key : ∀ x ∈ L, x.k < 18446744073709551616
theorem same_nil (n : Nat) : SameT n fN [] := by
  refine ⟨fun j h => absurd h (Nat.not_lt_zero j), fun i x _ h => (by cases h), fun i j h => absurd h (Nat.not_lt_zero i), ?_, fun x h => (by cases h), fun x h => (by cases h)⟩
  induction n with
  | zero => rfl
  | succ n ih =>
    show cntO fN n + 0 = _
    rw [ih]
    rfl
/-- What the place of a key's slot is, told by the slot. -/
theorem same_at {n : Nat} {f : Nat → Option Ent} {L : List Ent} (h : SameT n f L) (hn : 0 < n) {k : Nat} {o : Option Nat} (ho : AtIs n L k o) : f (k % n) = o.bind fun i => L[i]? := by
  cases o with
  | none =>
    cases hf : f (k % n) with
    | none => rfl
    | some x =>
      obtain ⟨j, hj, e1, e2⟩ := h.all _ _ (Nat.mod_lt _ hn) hf
      exact absurd (by rw [e1]; exact e2) (ho j hj)
  | some i =>
    obtain ⟨hi, h1, _⟩ := ho
    show _ = L[i]?
    rw [← h1, h.has i hi, List.getElem?_eq_getElem hi]
theorem cnt_out {f : Nat → Option Ent} {i : Nat} {x : Ent} : ∀ m, m ≤ i → cntO (putF f i x) m = cntO f m
  | 0, _ => rfl
  | m + 1, h => by
    show cntO (putF f i x) m + _ = cntO f m + _
    rw [cnt_out m (by omega), show putF f i x m = f m by unfold putF; rw [if_neg (by omega)]]
theorem cnt_put {f : Nat → Option Ent} {i : Nat} {x : Ent} : ∀ m, i < m → cntO (putF f i x) m = cntO f m + (if (f i).isSome then 0 else 1)
  | 0, h => absurd h (Nat.not_lt_zero i)
  | m + 1, h => by
    show cntO (putF f i x) m + (if (putF f i x m).isSome then 1 else 0) = (cntO f m + (if (f m).isSome then 1 else 0)) + (if (f i).isSome then 0 else 1)
    by_cases e : i = m
    · subst e
      rw [cnt_out i (Nat.le_refl _), show putF f i x i = some x by unfold putF; rw [if_pos rfl]]
      cases f i <;> rfl
    · rw [cnt_put m (by omega), show putF f i x m = f m by unfold putF; rw [if_neg (by omega)]]
      omega
/-- Put: an entry more, or one in the place of another one. -/
theorem same_put {n : Nat} {f : Nat → Option Ent} {L : List Ent} (h : SameT n f L) (hn : 0 < n) {x : Ent} {o : Option Nat} (ho : AtIs n L x.k o) (hu : x.u = 0 ∨ x.u = 1 ∨ x.u = 2) (hk : x.k < 18446744073709551616) : SameT n (putF f (x.k % n) x) (putL L o x) := by
  have hin := Nat.mod_lt x.k hn
  have hat := same_at h hn ho
  cases o with
  | none =>
    have hat : f (x.k % n) = none := hat
    have ho : ∀ j (hj : j < L.length), L[j].k % n ≠ x.k % n := ho
    have hg : ∀ j (hj : j < (L ++ [x]).length), (∃ hj' : j < L.length, (L ++ [x])[j] = L[j]) ∨ (j = L.length ∧ (L ++ [x])[j] = x) := fun j hj => by
      by_cases e : j < L.length
      · exact .inl ⟨e, List.getElem_append_left e⟩
      · refine .inr ⟨by rw [List.length_append] at hj; simp at hj; omega, ?_⟩
        rw [List.getElem_append_right (by omega)]
        simp
    refine ⟨fun j hj => ?_, fun i y hi hy => ?_, fun i j hi hj e => ?_, ?_, ?_, ?_⟩
    · show putF f (x.k % n) x ((L ++ [x])[j].k % n) = some (L ++ [x])[j]
      rcases hg j hj with ⟨hj', e⟩ | ⟨_, e⟩
      · rw [e]
        unfold putF
        rw [if_neg (ho j hj'), h.has j hj']
      · rw [e]
        unfold putF
        rw [if_pos rfl]
    · unfold putF at hy
      by_cases e : i = x.k % n
      · rw [if_pos e] at hy
        injection hy with hy
        subst hy
        have hl : L.length < (L ++ [x]).length := by simp
        exact ⟨L.length, hl, by show (L ++ [x])[L.length]'hl = x; simp, e.symm⟩
      · rw [if_neg e] at hy
        obtain ⟨j, hj, e1, e2⟩ := h.all i y hi hy
        have hl : j < (L ++ [x]).length := by simp; omega
        exact ⟨j, hl, by show (L ++ [x])[j]'hl = y; rw [List.getElem_append_left hj]; exact e1, e2⟩
    · have e : (L ++ [x])[i].k % n = (L ++ [x])[j].k % n := e
      rcases hg i hi with ⟨hi', e1⟩ | ⟨hi', e1⟩ <;> rcases hg j hj with ⟨hj', e2⟩ | ⟨hj', e2⟩ <;> rw [e1, e2] at e
      · exact h.one i j hi' hj' e
      · exact absurd e (ho i hi')
      · exact absurd e.symm (ho j hj')
      · omega
    · show cntO _ _ = (L ++ [x]).length
      rw [cnt_put n hin, hat, h.cnt]
      simp
    · intro y hy
      rcases List.mem_append.1 (show y ∈ L ++ [x] from hy) with e | e
      · exact h.sure y e
      · rw [List.mem_singleton.1 e]
        exact hu
    · intro y hy
      rcases List.mem_append.1 (show y ∈ L ++ [x] from hy) with e | e
      · exact h.key y e
      · rw [List.mem_singleton.1 e]
        exact hk
  | some i =>
    obtain ⟨hi, h1, h2⟩ := ho
    have hat : f (x.k % n) = some L[i] := by rw [← h1]; exact h.has i hi
    have hg : ∀ j (hj : j < (L.set i x).length), (j = i ∧ (L.set i x)[j] = x) ∨ (j ≠ i ∧ ∃ hj' : j < L.length, (L.set i x)[j] = L[j]) := fun j hj => by
      by_cases e : j = i
      · subst e
        exact .inl ⟨rfl, by simp⟩
      · exact .inr ⟨e, by rw [List.length_set] at hj; exact hj, List.getElem_set_ne (fun h => e h.symm) _⟩
    refine ⟨fun j hj => ?_, fun q y hq hy => ?_, fun a b ha hb e => ?_, ?_, ?_, ?_⟩
    · show putF f (x.k % n) x ((L.set i x)[j].k % n) = some (L.set i x)[j]
      rcases hg j hj with ⟨_, e⟩ | ⟨hne, hj', e⟩
      · rw [e]
        unfold putF
        rw [if_pos rfl]
      · rw [e]
        unfold putF
        rw [if_neg (fun e' => hne (h.one j i hj' hi (e'.trans h1.symm))), h.has j hj']
    · unfold putF at hy
      by_cases e : q = x.k % n
      · rw [if_pos e] at hy
        injection hy with hy
        subst hy
        have hl : i < (L.set i x).length := by rw [List.length_set]; exact hi
        exact ⟨i, hl, by show (L.set i x)[i]'hl = x; simp, e.symm⟩
      · rw [if_neg e] at hy
        obtain ⟨j, hj, e1, e2⟩ := h.all q y hq hy
        have hne : i ≠ j := fun e' => e (by subst e'; rw [← e2, ← e1, h1])
        have hl : j < (L.set i x).length := by rw [List.length_set]; exact hj
        exact ⟨j, hl, by show (L.set i x)[j]'hl = y; rw [List.getElem_set_ne hne]; exact e1, e2⟩
    · have e : (L.set i x)[a].k % n = (L.set i x)[b].k % n := e
      rcases hg a ha with ⟨ha', e1⟩ | ⟨ha', ha2, e1⟩ <;> rcases hg b hb with ⟨hb', e2⟩ | ⟨hb', hb2, e2⟩ <;> rw [e1, e2] at e
      · omega
      · exact absurd (h.one b i hb2 hi (e.symm.trans h1.symm)) hb'
      · exact absurd (h.one a i ha2 hi (e.trans h1.symm)) ha'
      · exact h.one a b ha2 hb2 e
    · show cntO _ _ = (L.set i x).length
      rw [cnt_put n hin, hat, h.cnt, List.length_set]
      simp
    · intro y hy
      rcases List.mem_or_eq_of_mem_set (show y ∈ L.set i x from hy) with e | e
      · exact h.sure y e
      · rw [e]
        exact hu
    · intro y hy
      rcases List.mem_or_eq_of_mem_set (show y ∈ L.set i x from hy) with e | e
      · exact h.key y e
      · rw [e]
        exact hk
/-- Both tables answer alike. -/
theorem same_get {n : Nat} {f : Nat → Option Ent} {L : List Ent} (h : SameT n f L) (hn : 0 < n) {k : Nat} {o : Option Nat} (ho : AtIs n L k o) : getO n f k = rgetO L o k := by
  have hat := same_at h hn ho
  unfold getO rgetO
  rw [hat]
  cases o with
  | none => rfl
  | some i => rfl
theorem same_sure {n : Nat} {f : Nat → Option Ent} {L : List Ent} (h : SameT n f L) {k : Nat} {o : Option Nat} : ∀ y, rgetO L o k = some y → y.u = 0 ∨ y.u = 1 ∨ y.u = 2 := by
  intro y hy
  unfold rgetO at hy
  cases o with
  | none => cases hy
  | some i =>
    simp only at hy
    cases hl : L[i]? with
    | none => rw [hl] at hy; cases hy
    | some z =>
      rw [hl] at hy
      simp only at hy
      split at hy
      · injection hy with hy
        subst hy
        exact h.sure z (List.mem_of_getElem? hl)
      · cases hy
/-- A call of the script: what is done, an entry, two bounds. -/
structure Cal where
  w : Int
  e : Ent
  l : Int
  h : Int
def Cal.cs (x : Cal) : Array Value := #[.int .i64 x.w, .int .u64 x.e.k, .int .i64 x.e.d, .int .i64 x.e.s, .int .i64 x.e.u, .int .i64 x.e.a, .int .i64 x.e.b, .int .i64 x.l, .int .i64 x.h]
def OpsAt (w : World) (A : Option Addr) (l : List Cal) : Prop := ∀ j x, l[j]? = some x → x.e.k < 18446744073709551616 ∧ ∃ ad, A = some ad ∧ ∀ i, i < 9 → w.cell? ((ad.add (j * 9)).add i) = x.cs[i]?
theorem OpsAt.nine {w : World} {A : Option Addr} {l : List Cal} (h : OpsAt w A l) {j : Nat} (hj : j < l.length) {x : Cal} (hx : l[j] = x) : x.e.k < 18446744073709551616 ∧ ∃ g b, A = some ⟨g, b, none⟩ ∧ ∀ i, i < 9 → w.cell? ⟨g, b + j * 9 + i, none⟩ = x.cs[i]? := by
  subst hx
  obtain ⟨hk, ad, hA, hc⟩ := h j _ (List.getElem?_eq_getElem hj)
  obtain ⟨_, ad0, hA0, hc0⟩ := h 0 _ (List.getElem?_eq_getElem (show 0 < l.length by omega))
  obtain ⟨g, b, sp⟩ := ad
  have e0 : ad0 = ⟨g, b, sp⟩ := by rw [hA] at hA0; injection hA0 with e; exact e.symm
  subst e0
  have h0 := hc0 0 (by decide)
  have hsp : sp = none := by
    have h0' : w.cell? ⟨g, b, sp⟩ = (l[0]'(by omega)).cs[0]? := by simpa [Addr.add] using h0
    have h0'' : w.cell? ⟨g, b, sp⟩ = some (.int .i64 (l[0]'(by omega)).w) := h0'
    simpa using World.cell?_spot h0''
  subst hsp
  have ha : ∀ i, ((⟨g, b, none⟩ : Addr).add (j * 9)).add i = ⟨g, b + j * 9 + i, none⟩ := fun i => by
    unfold Addr.add
    by_cases h1 : j * 9 = 0 <;> by_cases h2 : i = 0 <;> simp [h1, h2]
  exact ⟨hk, g, b, hA, fun i hi => by have := hc i hi; rw [ha] at this; exact this⟩
theorem OpsAt.next {w w' : World} {A : Option Addr} {l : List Cal} (h : OpsAt w A l) (hb : Below w.heap.size w w') : OpsAt w' A l := fun j x hx => by
  obtain ⟨hk, ad, hA, hc⟩ := h j x hx
  refine ⟨hk, ad, hA, fun i hi => ?_⟩
  have h1 := hc i hi
  have h2 : ∃ v, x.cs[i]? = some v := ⟨x.cs[i]'(by show i < 9; exact hi), Array.getElem?_eq_getElem _⟩
  obtain ⟨v, hv⟩ := h2
  rw [hv] at h1 ⊢
  exact (hb.cell (cell_lt h1)).trans h1
theorem op_cells {W : World} {g : Nat} {t : TypeId} {v0 v1 v2 v3 v4 v5 v6 v7 v8 : Value} (h : Blk W g t #[v0, v1, v2, v3, v4, v5, v6, v7, v8]) : W.cell? ⟨g, 0, none⟩ = some v0 ∧ W.cell? ⟨g, 1, none⟩ = some v1 ∧ W.cell? ⟨g, 2, none⟩ = some v2 ∧ W.cell? ⟨g, 3, none⟩ = some v3 ∧ W.cell? ⟨g, 4, none⟩ = some v4 ∧ W.cell? ⟨g, 5, none⟩ = some v5 ∧ W.cell? ⟨g, 6, none⟩ = some v6 ∧ W.cell? ⟨g, 7, none⟩ = some v7 ∧ W.cell? ⟨g, 8, none⟩ = some v8 := ⟨h.cell 0, h.cell 1, h.cell 2, h.cell 3, h.cell 4, h.cell 5, h.cell 6, h.cell 7, h.cell 8⟩
/-- Where both tables stand. -/
structure Both (w W : World) (tb sb kb n₀ n : Nat) (f : Nat → Option Ent) (v : Value) (L : List Ent) : Prop where
  t : TabF w W tb sb n f
  d : DocAt n₀ W kb n v L
  s : SameT n f L
  bt : tb < n₀
  bs : sb < n₀
  nt : kb ≠ tb
  ns : kb ≠ sb
  kl : w.heap.size ≤ kb
theorem Both.next {w W W' : World} {tb sb kb n₀ n : Nat} {f : Nat → Option Ent} {v : Value} {L : List Ent} (h : Both w W tb sb kb n₀ n f v L) (hb : Below W.heap.size W W') : Both w W' tb sb kb n₀ n f v L := ⟨h.t.next hb, h.d.next hb, h.s, h.bt, h.bs, h.nt, h.ns, h.kl⟩
theorem both_s {w W : World} {tb sb kb n₀ n : Nat} {f : Nat → Option Ent} {v : Value} {L : List Ent} (h : Both w W tb sb kb n₀ n f v L) : W.cell? ⟨kb, 1, none⟩ = some v ∧ Both w W tb sb kb n₀ n f v L := ⟨h.d.blk.cell 1, h⟩
theorem both_sk {w W W' : World} {tb sb kb n₀ n : Nat} {f : Nat → Option Ent} {v : Value} {L : List Ent} (h : W.cell? ⟨kb, 1, none⟩ = some v ∧ Both w W tb sb kb n₀ n f v L) (hb : Below W.heap.size W W') : W'.cell? ⟨kb, 1, none⟩ = some v ∧ Both w W' tb sb kb n₀ n f v L := both_s (h.2.next hb)
theorem both_cnt {w W : World} {tb sb kb n₀ n : Nat} {f : Nat → Option Ent} {v : Value} {L : List Ent} (h : W.cell? ⟨kb, 1, none⟩ = some v ∧ Both w W tb sb kb n₀ n f v L) : Calls Try.prog 17 #[.pointer (some ⟨tb, 0, none⟩)] W (Gives W (.int .i64 L.length)) := by
  have hc := tcount_is h.2.t.t
  rw [h.2.s.cnt] at hc
  exact hc
theorem both_e {w W : World} {tb sb kb n₀ n : Nat} {f : Nat → Option Ent} {v : Value} {L : List Ent} (h : W.cell? ⟨kb, 1, none⟩ = some v ∧ Both w W tb sb kb n₀ n f v L) : Both w W tb sb kb n₀ n f v L := h.2
/-- What comparing what was got reads. -/
def GS (w W : World) (tb sb kb n₀ n : Nat) (f : Nat → Option Ent) (v : Value) (L : List Ent) (ga gc : Nat) (k : Nat) (d s u a b : Int) : Prop := W.cell? ⟨ga, 0, none⟩ = some (.int .u64 k) ∧ W.cell? ⟨ga, 1, none⟩ = some (.int .i64 d) ∧ W.cell? ⟨ga, 2, none⟩ = some (.int .i64 s) ∧ W.cell? ⟨ga, 3, none⟩ = some (.int .i64 u) ∧ W.cell? ⟨ga, 4, none⟩ = some (.int .i64 a) ∧ W.cell? ⟨ga, 5, none⟩ = some (.int .i64 b) ∧ W.cell? ⟨gc, 0, none⟩ = some (.int .u64 k) ∧ W.cell? ⟨gc, 1, none⟩ = some (.int .i64 d) ∧ W.cell? ⟨gc, 2, none⟩ = some (.int .i64 s) ∧ W.cell? ⟨gc, 3, none⟩ = some (.int .i64 u) ∧ W.cell? ⟨gc, 4, none⟩ = some (.int .i64 a) ∧ W.cell? ⟨gc, 5, none⟩ = some (.int .i64 b) ∧ Both w W tb sb kb n₀ n f v L
theorem gs_keep {w W W' : World} {tb sb kb n₀ n : Nat} {f : Nat → Option Ent} {v : Value} {L : List Ent} {ga gc k : Nat} {d s u a b : Int} (H : GS w W tb sb kb n₀ n f v L ga gc k d s u a b) (hb : Below W.heap.size W W') : GS w W' tb sb kb n₀ n f v L ga gc k d s u a b := by
  obtain ⟨h0, h1, h2, h3, h4, h5, h6, h7, h8, h9, h10, h11, ht⟩ := H
  have h : ∀ (p : Addr) (v : Value), W.cell? p = some v → W'.cell? p = some v := fun p v e => (hb.cell (cell_lt e)).trans e
  exact ⟨h _ _ h0, h _ _ h1, h _ _ h2, h _ _ h3, h _ _ h4, h _ _ h5, h _ _ h6, h _ _ h7, h _ _ h8, h _ _ h9, h _ _ h10, h _ _ h11, ht.next hb⟩
theorem gs_both {w W : World} {tb sb kb n₀ n : Nat} {f : Nat → Option Ent} {v : Value} {L : List Ent} {ga gc k : Nat} {d s u a b : Int} (H : GS w W tb sb kb n₀ n f v L ga gc k d s u a b) : Both w W tb sb kb n₀ n f v L := by
  obtain ⟨h0, h1, h2, h3, h4, h5, h6, h7, h8, h9, h10, h11, ht⟩ := H
  exact ht
theorem tab_far {W W' : World} {tb sb n : Nat} {f : Nat → Option Ent} (h : TabAt W tb sb n f) {X : Nat → Prop} (hf : Far X W W') (h1 : ¬ X tb) (h2 : ¬ X sb) : TabAt W' tb sb n f := ⟨hf.blk h.tab h1, hf.blk h.slots h2, h.pos, h.max, h.ne⟩
/-- How putting ends, in both tables. -/
theorem both_put {n : Nat} {f : Nat → Option Ent} {L : List Ent} (h : SameT n f L) (hn : 0 < n) (hm : n ≤ 4096) (hL : L.length ≤ 900) (x : Ent) (hk : x.k < 18446744073709551616) : ∃ (b : Bool) (f' : Nat → Option Ent) (L' : List Ent), SameT n f' L' ∧ L'.length ≤ L.length + 1 ∧
    (∀ W tb sb, TabAt W tb sb n f → Calls Try.prog 9 #[.pointer (some ⟨tb, 0, none⟩), .agg #[.int .u64 x.k, .int .i64 x.d, .int .i64 x.s, .int .i64 x.u, .int .i64 x.a, .int .i64 x.b]] W fun e w' => e = .returned (.bool b) ∧ TabAt w' tb sb n f' ∧ Far (· = sb) W w') ∧
    (∀ n₀ W kb v, DocAt n₀ W kb n v L → Calls Try.prog 11 #[.pointer (some ⟨kb, 0, none⟩), .agg #[.int .u64 x.k, .int .i64 x.d, .int .i64 x.s, .int .i64 x.u, .int .i64 x.a, .int .i64 x.b]] W fun e w' => e = .returned (.bool b) ∧ ∃ v', DocAt n₀ w' kb n v' L' ∧ Far (fun k => k = kb ∨ n₀ ≤ k) W w') := by
  obtain ⟨o, ho⟩ := atIs_ex n L x.k
  have hat := same_at h hn ho
  by_cases hu : 0 ≤ x.u ∧ x.u ≤ 2
  · have hu3 : x.u = 0 ∨ x.u = 1 ∨ x.u = 2 := by omega
    have hpu : (decide (0 ≤ x.u) && decide (x.u ≤ 2)) = true := by simp [hu.1, hu.2]
    cases o with
    | none =>
      have hat : f (x.k % n) = none := hat
      refine ⟨true, putF f (x.k % n) x, L ++ [x], same_put h hn ho hu3 hk, by simp, fun W tb sb hT => ?_, fun n₀ W kb v hD => rput_none hD hn hm x hk hL h.key ho hu⟩
      exact put_is hT x hk true (by unfold putB; rw [hpu, hat]; rfl)
    | some i =>
      obtain ⟨hi, h1, h2⟩ := id ho
      have hat : f (x.k % n) = some L[i] := by rw [hat]; exact List.getElem?_eq_getElem hi
      cases hkp : keepsB (some L[i]) x with
      | false =>
        refine ⟨true, putF f (x.k % n) x, L.set i x, same_put h hn ho hu3 hk, by simp, fun W tb sb hT => ?_, fun n₀ W kb v hD => rput_some hD hn hm x hk hL h.key i hi ho hu hkp⟩
        exact put_is hT x hk true (by unfold putB; rw [hpu, hat, hkp]; rfl)
      | true =>
        refine ⟨false, f, L, h, by simp, fun W tb sb hT => ?_, fun n₀ W kb v hD => (rput_keeps hD hn hm x hk hL h.key i hi ho hu hkp).mono ?_⟩
        · exact put_is hT x hk false (by unfold putB; rw [hpu, hat, hkp]; rfl)
        · rintro e w' ⟨he, hb⟩
          exact ⟨he, v, hD.next hb, Far.of hb⟩
  · have hpu : (decide (0 ≤ x.u) && decide (x.u ≤ 2)) = false := by
      rw [Bool.and_eq_false_iff]
      by_cases h : 0 ≤ x.u
      · exact .inr (decide_eq_false fun e => hu ⟨h, e⟩)
      · exact .inl (decide_eq_false h)
    refine ⟨false, f, L, h, by simp, fun W tb sb hT => ?_, fun n₀ W kb v hD => (rput_bad hD hn hm x hk hL h.key o ho (by omega)).mono ?_⟩
    · exact put_is hT x hk false (by unfold putB; rw [hpu]; rfl)
    · rintro e w' ⟨he, hb⟩
      exact ⟨he, v, hD.next hb, Far.of hb⟩
theorem both_get {n : Nat} {f : Nat → Option Ent} {L : List Ent} (h : SameT n f L) (hn : 0 < n) (hm : n ≤ 4096) (hL : L.length ≤ 900) (k : Nat) (hk : k < 18446744073709551616) : ∃ q : Option Ent,
    (∀ W tb sb, TabAt W tb sb n f → Calls Try.prog 12 #[.pointer (some ⟨tb, 0, none⟩), .int .u64 k] W (Gives W (getV q))) ∧
    (∀ n₀ W kb v, DocAt n₀ W kb n v L → Calls Try.prog 13 #[.pointer (some ⟨kb, 0, none⟩), .int .u64 k] W (Gives W (getV q))) := by
  obtain ⟨o, ho⟩ := atIs_ex n L k
  exact ⟨rgetO L o k, fun W tb sb hT => get_is hT k hk _ (same_get h hn ho), fun n₀ W kb v hD => rget_is hD hn hm k hk (by omega) h.key o ho _ rfl⟩
theorem both_use {n : Nat} {f : Nat → Option Ent} {L : List Ent} (h : SameT n f L) (hn : 0 < n) (hm : n ≤ 4096) (hL : L.length ≤ 900) (k : Nat) (hk : k < 18446744073709551616) (dp lo hi : Int) : ∃ (r : Int) (b : Bool),
    (∀ W tb sb, TabAt W tb sb n f → Calls Try.prog 14 #[.pointer (some ⟨tb, 0, none⟩), .int .u64 k, .int .i64 dp, .int .i64 lo, .int .i64 hi] W (Gives W (.tuple #[.int .i64 r, .bool b]))) ∧
    (∀ n₀ W kb v, DocAt n₀ W kb n v L → Calls Try.prog 15 #[.pointer (some ⟨kb, 0, none⟩), .int .u64 k, .int .i64 dp, .int .i64 lo, .int .i64 hi] W (Gives W (.tuple #[.int .i64 r, .bool b]))) := by
  obtain ⟨o, ho⟩ := atIs_ex n L k
  have hv : ∀ q : Option Ent, ∃ (r : Int) (b : Bool), useV q dp lo hi = .tuple #[.int .i64 r, .bool b] := fun q => by
    unfold useV
    cases q with
    | none => exact ⟨_, _, rfl⟩
    | some y =>
      simp only
      split
      · exact ⟨_, _, rfl⟩
      · exact ⟨_, _, rfl⟩
  obtain ⟨r, b, hrb⟩ := hv (rgetO L o k)
  refine ⟨r, b, fun W tb sb hT => ?_, fun n₀ W kb v hD => ?_⟩
  · rw [← hrb]
    exact use_of _ k W _ (get_is hT k hk _ (same_get h hn ho)) dp lo hi
  · rw [← hrb]
    exact ruse_of _ k W _ (same_sure h) (rget_is hD hn hm k hk (by omega) h.key o ho _ rfl) dp lo hi
theorem own0 (k : Nat) (d s u a b : Int) (W : World) : Calls Try.prog 10 #[.agg #[.int .u64 k, .int .i64 d, .int .i64 s, .int .i64 u, .int .i64 a, .int .i64 b]] W (Gives W (.agg #[.int .u64 k, .int .i64 d, .int .i64 s, .int .i64 u, .int .i64 a, .int .i64 b])) := own_is ⟨k, d, s, u, a, b⟩ W
set_option maxRecDepth 100000 in
set_option maxHeartbeats 20000000 in
theorem walk (size : Int) (A : Option Addr) (l : List Cal) (c : Nat) (w : World) (hl : OpsAt w A l) : Calls Try.prog 3 #[.int .i64 size, .slice A l.length c] w (Gives w (.bool true)) := by
  unfold Gives
  obtain ⟨m, hm⟩ : ∃ m, l.length = m := ⟨_, rfl⟩
  rw [hm]
  have HM := Lib.hid hm
  by_cases h60 : m ≤ 60
  · have hd : ¬ (60 : Int) < (m : Int) := by omega
    clear hm
    by_cases hs : 1 ≤ size ∧ size ≤ 4096
    · obtain ⟨n, rfl⟩ : ∃ n : Nat, size = n := ⟨size.toNat, by omega⟩
      have hn1 : ¬ (n : Int) < 1 := by omega
      have hn2 : ¬ (4096 : Int) < (n : Int) := by omega
      have hn0 : 0 < n := by omega
      have hn9 : n ≤ 4096 := by omega
      clear hs
      go_enter Try.func3, Try.ntmps3
      go_wp2_with fail
      refine (tnew_is n _ hn0 hn9).mono ?_
      rintro e w1 ⟨tb, sb, rfl, h1, h2, h3, h4⟩
      have HT1 := Lib.hid (show TabF w w1 tb sb n fN from ⟨h1, h4, h2, h3⟩)
      clear h1 h2 h3 h4
      go_wp2_with fail
      obtain ⟨W1, hW1⟩ : ∃ W1, w1.alloc (.cells #[.int .i64 n, .slice none 0 0] 31) = W1 := ⟨_, rfl⟩
      have hb1 : Below w1.heap.size w1 W1 := by rw [← hW1]; exact below_new _ _
      have bK : Blk W1 w1.heap.size 31 #[.int .i64 n, .slice none 0 0] := by rw [← hW1]; exact Blk.new _ _ _ rfl
      have hsz : w1.heap.size + 1 ≤ W1.heap.size := bK.lt
      obtain ⟨kb, hkb⟩ : ∃ kb, w1.heap.size = kb := ⟨_, rfl⟩
      have htl := HT1.out.t.tab.lt
      have hsl := HT1.out.t.slots.lt
      have hkl := HT1.out.b.size
      rw [hW1]
      have HT2 := HT1.out.next hb1
      rw [hkb] at bK hsz htl hsl hkl ⊢
      have HBO : Hid (Both w W1 tb sb kb (kb + 1) n fN (.slice none 0 0) []) := ⟨HT2, ⟨bK, World.ownsRow_nil _ _ _ _, Nat.lt_succ_self _, hsz⟩, same_nil n, by omega, by omega, by omega, by omega, hkl⟩
      clear hW1 hb1 bK hsz hkb htl hsl hkl HT2
      go_loopw [8] (fun i wr => ∃ (j : Nat) (f : Nat → Option Ent) (v : Value) (L : List Ent), j ≤ m ∧ i = .int .i64 (j : Int) ∧ L.length ≤ j ∧ Both w wr tb sb kb (kb + 1) n f v L) (fun i _ => m - (intOf i).toNat)
      case atStart => exact ⟨0, fN, _, [], Nat.zero_le _, rfl, Nat.le_refl _, HBO.out⟩
      case round =>
        obtain ⟨j, f, v, L, hj, rfl, hLj, hBo⟩ := hrel
        have H := Lib.hid hBo
        have hL9 : L.length ≤ 900 := by omega
        clear hBo
        by_cases hlt : j < m
        · have bj : (j : Int) < (m : Int) := by omega
          obtain ⟨⟨q, ⟨k, d, s, u, a, b⟩, lo, hi⟩, hx⟩ : ∃ x, l[j]'(by rw [HM.out]; exact hlt) = x := ⟨_, rfl⟩
          obtain ⟨hxk, g, b0, rfl, hcs⟩ := (hl.next H.out.t.b).nine (by rw [HM.out]; exact hlt) hx
          have hxk : k < 18446744073709551616 := hxk
          have s0 : wr.cell? ⟨g, b0 + j * 9, none⟩ = some (.int .i64 q) := hcs 0 (by decide)
          have s1 : wr.cell? ⟨g, b0 + j * 9 + 1, none⟩ = some (.int .u64 k) := hcs 1 (by decide)
          have s2 : wr.cell? ⟨g, b0 + j * 9 + 2, none⟩ = some (.int .i64 d) := hcs 2 (by decide)
          have s3 : wr.cell? ⟨g, b0 + j * 9 + 3, none⟩ = some (.int .i64 s) := hcs 3 (by decide)
          have s4 : wr.cell? ⟨g, b0 + j * 9 + 4, none⟩ = some (.int .i64 u) := hcs 4 (by decide)
          have s5 : wr.cell? ⟨g, b0 + j * 9 + 5, none⟩ = some (.int .i64 a) := hcs 5 (by decide)
          have s6 : wr.cell? ⟨g, b0 + j * 9 + 6, none⟩ = some (.int .i64 b) := hcs 6 (by decide)
          have s7 : wr.cell? ⟨g, b0 + j * 9 + 7, none⟩ = some (.int .i64 lo) := hcs 7 (by decide)
          have s8 : wr.cell? ⟨g, b0 + j * 9 + 8, none⟩ = some (.int .i64 hi) := hcs 8 (by decide)
          have HXK := Lib.hid hxk
          have HLT := Lib.hid hlt
          obtain ⟨W2, hW2⟩ : ∃ W2, wr.alloc (.cells #[.int .i64 q, .int .u64 k, .int .i64 d, .int .i64 s, .int .i64 u, .int .i64 a, .int .i64 b, .int .i64 lo, .int .i64 hi] 38) = W2 := ⟨_, rfl⟩
          have hb2 : Below wr.heap.size wr W2 := by rw [← hW2]; exact below_new _ _
          have bO : Blk W2 wr.heap.size 38 #[.int .i64 q, .int .u64 k, .int .i64 d, .int .i64 s, .int .i64 u, .int .i64 a, .int .i64 b, .int .i64 lo, .int .i64 hi] := by rw [← hW2]; exact Blk.new _ _ _ rfl
          have H2 := Lib.hid (H.out.next hb2)
          have HO := Lib.hid bO
          have HW2 := Lib.hid hW2
          obtain ⟨go, hgo⟩ : ∃ go, wr.heap.size = go := ⟨_, rfl⟩
          have HGO := Lib.hid hgo
          rw [hgo] at HO
          obtain ⟨x0, x1, x2, x3, x4, x5, x6, x7, x8⟩ := op_cells HO.out
          clear hx hcs hxk hlt hb2 bO hW2 hgo
          by_cases q0 : q = 0
          · subst q0
            obtain ⟨pb, f', L', hs', hl', hc1, hc2⟩ := both_put H.out.s hn0 hn9 hL9 ⟨k, d, s, u, a, b⟩ HXK.out
            have HC1 := Lib.hid hc1
            have HC2 := Lib.hid hc2
            have HS' := Lib.hid hs'
            clear hc1 hc2 hs'
            go_wp2_with fail
            (try rw [HW2.out])
            (try rw [HGO.out])
            have HGS : Hid (go ≠ sb) := by
              have h1 := H.out.t.t.slots.lt
              have h2 := HGO.out
              show go ≠ sb
              omega
            go_region_with ((first
              | (go_at_call 10; refine (own0 k d s u a b _).mono ?_; rintro e8 w3 ⟨rfl, hb⟩; have B3 := Lib.hid ((H2.out.next (Below.refl _ _).drew).next hb); have HO3 := Lib.hid ((HO.out.next (Below.refl _ _).drew).next hb); clear hb; obtain ⟨y0, y1, y2, y3, y4, y5, y6, y7, y8⟩ := op_cells HO3.out)
              | (go_at_call 9; refine (HC1.out _ _ _ B3.out.t.t).mono ?_; rintro e8 w4 ⟨rfl, h1, h2⟩; have T4 := Lib.hid (B3.out.t.to h1 h2); have D4 := Lib.hid (B3.out.d.far h2 B3.out.ns (fun k hk e => absurd (show k = sb from e) (by have := B3.out.bs; omega))); have HO4 := Lib.hid (h2.blk HO3.out HGS.out); clear h1 h2; obtain ⟨z0, z1, z2, z3, z4, z5, z6, z7, z8⟩ := op_cells HO4.out)
              | (go_at_call 11; refine (HC2.out _ _ _ _ D4.out).mono ?_; rintro e8 w5 ⟨rfl, v', h1, h2⟩)))
            all_goals
              have hBB : Both w w5 tb sb kb (kb + 1) n f' v' L' := ⟨⟨tab_far T4.out.t h2 (fun e => by have h1 := H.out.nt; have h3 := H.out.bt; have e : tb = kb ∨ kb + 1 ≤ tb := e; omega) (fun e => by have h1 := H.out.ns; have h3 := H.out.bs; have e : sb = kb ∨ kb + 1 ≤ sb := e; omega), T4.out.b.trans (h2.below (fun k hk => by have h4 := H.out.kl; have hk : k = kb ∨ kb + 1 ≤ k := hk; omega) T4.out.b.size), T4.out.tl, T4.out.sl⟩, h1, HS'.out, H.out.bt, H.out.bs, H.out.nt, H.out.ns, H.out.kl⟩
              have HBO := Lib.hid hBB
              have HLen : Hid (L'.length ≤ j + 1) := Nat.le_trans hl' (Nat.succ_le_succ hLj)
              have HW5 : Hid (w5 = w5) := rfl
              have pp : (pb == pb) = true := by simp
              clear hBB h1 h2
              obtain ⟨A9, c9, hv9⟩ := HBO.out.d.slice
              have HV9 := Lib.hid hv9
              have hS : w5.drew.cell? ⟨kb, 1, none⟩ = some (.slice A9 L'.length c9) ∧ Both w w5.drew tb sb kb (kb + 1) n f' (.slice A9 L'.length c9) L' := by
                have h := both_s (HBO.out.next (Below.refl _ _).drew)
                rw [HV9.out] at h
                exact h
              clear hv9
              go_wp2_with fail
              (try rw [HW5.out])
              go_region_held3 (fun W => W.cell? ⟨kb, 1, none⟩ = some (.slice A9 L'.length c9) ∧ Both w W tb sb kb (kb + 1) n f' (.slice A9 L'.length c9) L')
                (first | exact hS | exact both_sk (by assumption) hb)
                ((go_at_call 17; refine (both_cnt (by assumption)).mono ?_; rintro e9 w9 ⟨rfl, hb⟩))
              all_goals
                have hE : Both w w9 tb sb kb (kb + 1) n f' (.slice A9 L'.length c9) L' := both_e (by assumption)
                have HE := Lib.hid hE
                clear hE hS
                go_wp2_with fail
                go_roundw
                case rel => exact ⟨j + 1, f', _, L', by omega, by go_num, HLen.out, HE.out⟩
                case measure => simp [intOf]; omega
          · have e0 : (q == 0) = false := by rw [beq_eq_false_iff_ne]; exact q0
            by_cases q1 : q = 1
            · subst q1
              obtain ⟨qo, hc1, hc2⟩ := both_get H.out.s hn0 hn9 hL9 k HXK.out
              have HC1 := Lib.hid hc1
              have HC2 := Lib.hid hc2
              have HLen : Hid (L.length ≤ j + 1) := Nat.le_succ_of_le hLj
              clear hc1 hc2
              cases qo with
              | none =>
                unfold getV Ent.v ent0 at HC1 HC2
                go_wp2_with fail
                (try rw [HW2.out])
                (try rw [HGO.out])
                refine (HC1.out _ _ _ H2.out.t.t).mono ?_
                rintro e8 w3 ⟨rfl, hb⟩
                have hb3 : Below W2.heap.size W2 (w3.alloc (.cells #[.int .u64 0, .int .i64 0, .int .i64 0, .int .i64 0, .int .i64 0, .int .i64 0] 40)) := hb.alloc hb.size _
                have HO3 := HO.out.next hb3
                clear x0 x1 x2 x3 x4 x5 x6 x7 x8 s0 s1 s2 s3 s4 s5 s6 s7 s8
                obtain ⟨x0, x1, x2, x3, x4, x5, x6, x7, x8⟩ := op_cells HO3
                obtain ⟨W3, hW3⟩ : ∃ W3, w3.alloc (.cells #[.int .u64 0, .int .i64 0, .int .i64 0, .int .i64 0, .int .i64 0, .int .i64 0] 40) = W3 := ⟨_, rfl⟩
                have B3 := Lib.hid (H2.out.next hb3)
                have HA3 : Hid (Blk (w3.alloc (.cells #[.int .u64 0, .int .i64 0, .int .i64 0, .int .i64 0, .int .i64 0, .int .i64 0] 40)) w3.heap.size 40 #[.int .u64 0, .int .i64 0, .int .i64 0, .int .i64 0, .int .i64 0, .int .i64 0]) := Blk.new _ _ _ rfl
                rw [hW3] at B3 HA3
                have HW3 := Lib.hid hW3
                obtain ⟨ga, hga⟩ : ∃ ga, w3.heap.size = ga := ⟨_, rfl⟩
                have HGA := Lib.hid hga
                rw [hga] at HA3
                clear hb hb3 hW3 hga HO3
                go_wp2_with fail
                (try rw [HW3.out])
                (try rw [HGA.out])
                refine (HC2.out _ _ _ _ B3.out.d).mono ?_
                rintro e8 w4 ⟨rfl, hb⟩
                have hb4 : Below W3.heap.size W3 (w4.alloc (.cells #[.int .u64 0, .int .i64 0, .int .i64 0, .int .i64 0, .int .i64 0, .int .i64 0] 36)) := hb.alloc hb.size _
                have B4 := Lib.hid (B3.out.next hb4)
                have HA4 := Lib.hid (HA3.out.next hb4)
                have HC4 : Hid (Blk (w4.alloc (.cells #[.int .u64 0, .int .i64 0, .int .i64 0, .int .i64 0, .int .i64 0, .int .i64 0] 36)) w4.heap.size 36 #[.int .u64 0, .int .i64 0, .int .i64 0, .int .i64 0, .int .i64 0, .int .i64 0]) := Blk.new _ _ _ rfl
                obtain ⟨W4, hW4⟩ : ∃ W4, w4.alloc (.cells #[.int .u64 0, .int .i64 0, .int .i64 0, .int .i64 0, .int .i64 0, .int .i64 0] 36) = W4 := ⟨_, rfl⟩
                rw [hW4] at B4 HA4 HC4
                have HW4 := Lib.hid hW4
                obtain ⟨gc, hgc⟩ : ∃ gc, w4.heap.size = gc := ⟨_, rfl⟩
                have HGC := Lib.hid hgc
                rw [hgc] at HC4
                clear hb hb4 hW4 hgc x0 x1 x2 x3 x4 x5 x6 x7 x8
                go_wp2_with fail
                (try rw [HW4.out])
                (try rw [HGC.out])
                have hG : GS w W4 tb sb kb (kb + 1) n f v L ga gc 0 0 0 0 0 0 := ⟨HA4.out.cell 0, HA4.out.cell 1, HA4.out.cell 2, HA4.out.cell 3, HA4.out.cell 4, HA4.out.cell 5, HC4.out.cell 0, HC4.out.cell 1, HC4.out.cell 2, HC4.out.cell 3, HC4.out.cell 4, HC4.out.cell 5, B4.out⟩
                have hS0 := gs_keep hG (Below.refl _ _).drew
                clear hG
                go_region_held3 (fun W => W.cell? ⟨ga, 0, none⟩ = some (.int .u64 0) ∧ W.cell? ⟨ga, 1, none⟩ = some (.int .i64 0) ∧ W.cell? ⟨ga, 2, none⟩ = some (.int .i64 0) ∧ W.cell? ⟨ga, 3, none⟩ = some (.int .i64 0) ∧ W.cell? ⟨ga, 4, none⟩ = some (.int .i64 0) ∧ W.cell? ⟨ga, 5, none⟩ = some (.int .i64 0) ∧ W.cell? ⟨gc, 0, none⟩ = some (.int .u64 0) ∧ W.cell? ⟨gc, 1, none⟩ = some (.int .i64 0) ∧ W.cell? ⟨gc, 2, none⟩ = some (.int .i64 0) ∧ W.cell? ⟨gc, 3, none⟩ = some (.int .i64 0) ∧ W.cell? ⟨gc, 4, none⟩ = some (.int .i64 0) ∧ W.cell? ⟨gc, 5, none⟩ = some (.int .i64 0) ∧ Both w W tb sb kb (kb + 1) n f v L)
                  (first | exact hS0 | exact gs_keep (by assumption) hb)
                  ((go_at_call 10; refine (own0 0 0 0 0 0 0 _).mono ?_; rintro e8 w5 ⟨rfl, hb⟩))
                all_goals
                  have hBB : Both w w5 tb sb kb (kb + 1) n f v L := gs_both (by assumption)
                  have HBO := Lib.hid hBB
                  have HW5 : Hid (w5 = w5) := rfl
                  clear hBB hS0
                  obtain ⟨A9, c9, hv9⟩ := HBO.out.d.slice
                  have HV9 := Lib.hid hv9
                  have hS : w5.drew.cell? ⟨kb, 1, none⟩ = some (.slice A9 L.length c9) ∧ Both w w5.drew tb sb kb (kb + 1) n f (.slice A9 L.length c9) L := by
                    have h := both_s (HBO.out.next (Below.refl _ _).drew)
                    rw [HV9.out] at h
                    exact h
                  clear hv9
                  go_wp2_with fail
                  (try rw [HW5.out])
                  go_region_held3 (fun W => W.cell? ⟨kb, 1, none⟩ = some (.slice A9 L.length c9) ∧ Both w W tb sb kb (kb + 1) n f (.slice A9 L.length c9) L)
                    (first | exact hS | exact both_sk (by assumption) hb)
                    ((go_at_call 17; refine (both_cnt (by assumption)).mono ?_; rintro e9 w9 ⟨rfl, hb⟩))
                  all_goals
                    have hE : Both w w9 tb sb kb (kb + 1) n f (.slice A9 L.length c9) L := both_e (by assumption)
                    have HE := Lib.hid hE
                    clear hE hS
                    go_wp2_with fail
                    go_roundw
                    case rel => exact ⟨j + 1, f, _, L, by omega, by go_num, HLen.out, HE.out⟩
                    case measure => simp [intOf]; omega
              | some y =>
                obtain ⟨k', d', s', u', a', b'⟩ := y
                unfold getV Ent.v  at HC1 HC2
                go_wp2_with fail
                (try rw [HW2.out])
                (try rw [HGO.out])
                refine (HC1.out _ _ _ H2.out.t.t).mono ?_
                rintro e8 w3 ⟨rfl, hb⟩
                have hb3 : Below W2.heap.size W2 (w3.alloc (.cells #[.int .u64 k', .int .i64 d', .int .i64 s', .int .i64 u', .int .i64 a', .int .i64 b'] 40)) := hb.alloc hb.size _
                have HO3 := HO.out.next hb3
                clear x0 x1 x2 x3 x4 x5 x6 x7 x8 s0 s1 s2 s3 s4 s5 s6 s7 s8
                obtain ⟨x0, x1, x2, x3, x4, x5, x6, x7, x8⟩ := op_cells HO3
                obtain ⟨W3, hW3⟩ : ∃ W3, w3.alloc (.cells #[.int .u64 k', .int .i64 d', .int .i64 s', .int .i64 u', .int .i64 a', .int .i64 b'] 40) = W3 := ⟨_, rfl⟩
                have B3 := Lib.hid (H2.out.next hb3)
                have HA3 : Hid (Blk (w3.alloc (.cells #[.int .u64 k', .int .i64 d', .int .i64 s', .int .i64 u', .int .i64 a', .int .i64 b'] 40)) w3.heap.size 40 #[.int .u64 k', .int .i64 d', .int .i64 s', .int .i64 u', .int .i64 a', .int .i64 b']) := Blk.new _ _ _ rfl
                rw [hW3] at B3 HA3
                have HW3 := Lib.hid hW3
                obtain ⟨ga, hga⟩ : ∃ ga, w3.heap.size = ga := ⟨_, rfl⟩
                have HGA := Lib.hid hga
                rw [hga] at HA3
                clear hb hb3 hW3 hga HO3
                go_wp2_with fail
                (try rw [HW3.out])
                (try rw [HGA.out])
                refine (HC2.out _ _ _ _ B3.out.d).mono ?_
                rintro e8 w4 ⟨rfl, hb⟩
                have hb4 : Below W3.heap.size W3 (w4.alloc (.cells #[.int .u64 k', .int .i64 d', .int .i64 s', .int .i64 u', .int .i64 a', .int .i64 b'] 36)) := hb.alloc hb.size _
                have B4 := Lib.hid (B3.out.next hb4)
                have HA4 := Lib.hid (HA3.out.next hb4)
                have HC4 : Hid (Blk (w4.alloc (.cells #[.int .u64 k', .int .i64 d', .int .i64 s', .int .i64 u', .int .i64 a', .int .i64 b'] 36)) w4.heap.size 36 #[.int .u64 k', .int .i64 d', .int .i64 s', .int .i64 u', .int .i64 a', .int .i64 b']) := Blk.new _ _ _ rfl
                obtain ⟨W4, hW4⟩ : ∃ W4, w4.alloc (.cells #[.int .u64 k', .int .i64 d', .int .i64 s', .int .i64 u', .int .i64 a', .int .i64 b'] 36) = W4 := ⟨_, rfl⟩
                rw [hW4] at B4 HA4 HC4
                have HW4 := Lib.hid hW4
                obtain ⟨gc, hgc⟩ : ∃ gc, w4.heap.size = gc := ⟨_, rfl⟩
                have HGC := Lib.hid hgc
                rw [hgc] at HC4
                clear hb hb4 hW4 hgc x0 x1 x2 x3 x4 x5 x6 x7 x8
                go_wp2_with fail
                (try rw [HW4.out])
                (try rw [HGC.out])
                have hG : GS w W4 tb sb kb (kb + 1) n f v L ga gc k' d' s' u' a' b' := ⟨HA4.out.cell 0, HA4.out.cell 1, HA4.out.cell 2, HA4.out.cell 3, HA4.out.cell 4, HA4.out.cell 5, HC4.out.cell 0, HC4.out.cell 1, HC4.out.cell 2, HC4.out.cell 3, HC4.out.cell 4, HC4.out.cell 5, B4.out⟩
                have hS0 := gs_keep hG (Below.refl _ _).drew
                clear hG
                go_region_held3 (fun W => W.cell? ⟨ga, 0, none⟩ = some (.int .u64 k') ∧ W.cell? ⟨ga, 1, none⟩ = some (.int .i64 d') ∧ W.cell? ⟨ga, 2, none⟩ = some (.int .i64 s') ∧ W.cell? ⟨ga, 3, none⟩ = some (.int .i64 u') ∧ W.cell? ⟨ga, 4, none⟩ = some (.int .i64 a') ∧ W.cell? ⟨ga, 5, none⟩ = some (.int .i64 b') ∧ W.cell? ⟨gc, 0, none⟩ = some (.int .u64 k') ∧ W.cell? ⟨gc, 1, none⟩ = some (.int .i64 d') ∧ W.cell? ⟨gc, 2, none⟩ = some (.int .i64 s') ∧ W.cell? ⟨gc, 3, none⟩ = some (.int .i64 u') ∧ W.cell? ⟨gc, 4, none⟩ = some (.int .i64 a') ∧ W.cell? ⟨gc, 5, none⟩ = some (.int .i64 b') ∧ Both w W tb sb kb (kb + 1) n f v L)
                  (first | exact hS0 | exact gs_keep (by assumption) hb)
                  ((go_at_call 10; refine (own0 k' d' s' u' a' b' _).mono ?_; rintro e8 w5 ⟨rfl, hb⟩))
                all_goals
                  have hBB : Both w w5 tb sb kb (kb + 1) n f v L := gs_both (by assumption)
                  have HBO := Lib.hid hBB
                  have HW5 : Hid (w5 = w5) := rfl
                  clear hBB hS0
                  obtain ⟨A9, c9, hv9⟩ := HBO.out.d.slice
                  have HV9 := Lib.hid hv9
                  have hS : w5.drew.cell? ⟨kb, 1, none⟩ = some (.slice A9 L.length c9) ∧ Both w w5.drew tb sb kb (kb + 1) n f (.slice A9 L.length c9) L := by
                    have h := both_s (HBO.out.next (Below.refl _ _).drew)
                    rw [HV9.out] at h
                    exact h
                  clear hv9
                  go_wp2_with fail
                  (try rw [HW5.out])
                  go_region_held3 (fun W => W.cell? ⟨kb, 1, none⟩ = some (.slice A9 L.length c9) ∧ Both w W tb sb kb (kb + 1) n f (.slice A9 L.length c9) L)
                    (first | exact hS | exact both_sk (by assumption) hb)
                    ((go_at_call 17; refine (both_cnt (by assumption)).mono ?_; rintro e9 w9 ⟨rfl, hb⟩))
                  all_goals
                    have hE : Both w w9 tb sb kb (kb + 1) n f (.slice A9 L.length c9) L := both_e (by assumption)
                    have HE := Lib.hid hE
                    clear hE hS
                    go_wp2_with fail
                    go_roundw
                    case rel => exact ⟨j + 1, f, _, L, by omega, by go_num, HLen.out, HE.out⟩
                    case measure => simp [intOf]; omega
            · have e1 : (q == 1) = false := by rw [beq_eq_false_iff_ne]; exact q1
              by_cases q2 : q = 2
              · subst q2
                clear q0 q1
                obtain ⟨r, ub, hc1, hc2⟩ := both_use H.out.s hn0 hn9 hL9 k HXK.out d lo hi
                have HC1 := Lib.hid hc1
                have HC2 := Lib.hid hc2
                have HLen : Hid (L.length ≤ j + 1) := Nat.le_succ_of_le hLj
                clear hc1 hc2
                go_wp2_with fail
                (try rw [HW2.out])
                (try rw [HGO.out])
                refine (HC1.out _ _ _ H2.out.t.t).mono ?_
                rintro e8 w3 ⟨rfl, hb⟩
                have B3 := Lib.hid (H2.out.next hb)
                have HO3 := Lib.hid (HO.out.next hb)
                clear hb x0 x1 x2 x3 x4 x5 x6 x7 x8 s0 s1 s2 s3 s4 s5 s6 s7 s8
                obtain ⟨x0, x1, x2, x3, x4, x5, x6, x7, x8⟩ := op_cells HO3.out
                go_wp2_with fail
                refine (HC2.out _ _ _ _ B3.out.d).mono ?_
                rintro e8 w4 ⟨rfl, hb⟩
                have HBO := Lib.hid (B3.out.next hb)
                have rr : (r == r) = true := by simp
                have bb : (ub == ub) = true := by simp
                have HW5 : Hid (w4 = w4) := rfl
                clear hb x0 x1 x2 x3 x4 x5 x6 x7 x8
                obtain ⟨A9, c9, hv9⟩ := HBO.out.d.slice
                have HV9 := Lib.hid hv9
                have hk9 : w4.cell? ⟨kb, 1, none⟩ = some (.slice A9 L.length c9) := by rw [← HV9.out]; exact HBO.out.d.blk.cell 1
                have hS : w4.drew.cell? ⟨kb, 1, none⟩ = some (.slice A9 L.length c9) ∧ Both w w4.drew tb sb kb (kb + 1) n f (.slice A9 L.length c9) L := by
                  have h := both_s (HBO.out.next (Below.refl _ _).drew)
                  rw [HV9.out] at h
                  exact h
                clear hv9 hk9
                go_wp2_with fail
                (try rw [HW5.out])
                go_region_held3 (fun W => W.cell? ⟨kb, 1, none⟩ = some (.slice A9 L.length c9) ∧ Both w W tb sb kb (kb + 1) n f (.slice A9 L.length c9) L)
                  (first | exact hS | exact both_sk (by assumption) hb)
                  ((go_at_call 17; refine (both_cnt (by assumption)).mono ?_; rintro e9 w9 ⟨rfl, hb⟩))
                all_goals
                  have hE : Both w w9 tb sb kb (kb + 1) n f (.slice A9 L.length c9) L := both_e (by assumption)
                  have HE := Lib.hid hE
                  clear hE hS
                  go_wp2_with fail
                  go_roundw
                  case rel => exact ⟨j + 1, f, _, L, by omega, by go_num, HLen.out, HE.out⟩
                  case measure => simp [intOf]; omega
              · have e2 : (q == 2) = false := by rw [beq_eq_false_iff_ne]; exact q2
                clear q0 q1 q2
                go_wp2_with fail
                (try rw [HW2.out])
                (try rw [HGO.out])
                refine (clear_is H2.out.t.t).mono ?_
                rintro e8 w3 ⟨rfl, h1, h2⟩
                have T3 := Lib.hid (H2.out.t.to h1 h2)
                have D3 := Lib.hid (H2.out.d.far h2 H2.out.ns (fun k hk e => absurd (show k = sb from e) (by have := H2.out.bs; omega)))
                clear h1 h2
                have k1 : w3.cell? ⟨kb, 1, none⟩ = some v := D3.out.blk.cell 1
                have z1 := D3.out.blk.frozen 1
                obtain ⟨W5, hW5⟩ : ∃ W5, w3.setCell ⟨kb, 1, none⟩ (.slice none 0 0) = W5 := ⟨_, rfl⟩
                have hf5 : Far (· = kb) w3 W5 := by rw [← hW5]; exact Far.set (X := fun k => k = kb) (p := ⟨kb, 1, none⟩) rfl _
                have bK5 : Blk W5 kb 31 #[.int .i64 n, .slice none 0 0] := by rw [← hW5]; exact D3.out.blk.set_ 1 _
                have HBO : Hid (Both w W5 tb sb kb (kb + 1) n fN (.slice none 0 0) []) := ⟨⟨tab_far T3.out.t hf5 (fun e => H2.out.nt e.symm) (fun e => H2.out.ns e.symm), T3.out.b.trans (hf5.below (fun k hk => by rw [show k = kb from hk]; exact H2.out.kl) T3.out.b.size), T3.out.tl, T3.out.sl⟩, ⟨bK5, World.ownsRow_nil _ _ _ _, Nat.lt_succ_self _, Nat.le_trans D3.out.le hf5.size⟩, same_nil n, H2.out.bt, H2.out.bs, H2.out.nt, H2.out.ns, H2.out.kl⟩
                have HLen : Hid (([] : List Ent).length ≤ j + 1) := Nat.zero_le _
                have HW5 := Lib.hid hW5
                clear hf5 bK5 hW5 x0 x1 x2 x3 x4 x5 x6 x7 x8 s0 s1 s2 s3 s4 s5 s6 s7 s8
                have HLen : Hid (([] : List Ent).length ≤ j + 1) := Nat.zero_le _
                obtain ⟨A9, c9, hv9⟩ := HBO.out.d.slice
                have HV9 := Lib.hid hv9
                have hk9 : W5.cell? ⟨kb, 1, none⟩ = some (.slice A9 ([] : List Ent).length c9) := by rw [← HV9.out]; exact HBO.out.d.blk.cell 1
                have hS : W5.drew.cell? ⟨kb, 1, none⟩ = some (.slice A9 ([] : List Ent).length c9) ∧ Both w W5.drew tb sb kb (kb + 1) n fN (.slice A9 ([] : List Ent).length c9) ([] : List Ent) := by
                  have h := both_s (HBO.out.next (Below.refl _ _).drew)
                  rw [HV9.out] at h
                  exact h
                clear hv9 hk9
                go_wp2_with fail
                (try rw [HW5.out])
                go_region_held3 (fun W => W.cell? ⟨kb, 1, none⟩ = some (.slice A9 ([] : List Ent).length c9) ∧ Both w W tb sb kb (kb + 1) n fN (.slice A9 ([] : List Ent).length c9) ([] : List Ent))
                  (first | exact hS | exact both_sk (by assumption) hb)
                  ((go_at_call 17; refine (both_cnt (by assumption)).mono ?_; rintro e9 w9 ⟨rfl, hb⟩))
                all_goals
                  have hE : Both w w9 tb sb kb (kb + 1) n fN (.slice A9 ([] : List Ent).length c9) ([] : List Ent) := both_e (by assumption)
                  have HE := Lib.hid hE
                  clear hE hS
                  go_wp2_with fail
                  go_roundw
                  case rel => exact ⟨j + 1, fN, _, ([] : List Ent), by omega, by go_num, HLen.out, HE.out⟩
                  case measure => simp [intOf]; omega
        · obtain rfl : j = m := by omega
          have bj : ¬ (j : Int) < (j : Int) := by omega
          go_wp2_with fail
          refine (live20_any _).mono ?_
          rintro e w2 ⟨rfl, hb⟩
          have H2 := Lib.hid (H.out.next hb)
          clear hb
          go_wp2_with fail
          go_ret
          exact ⟨rfl, H2.out.t.b⟩
    · have hs : size < 1 ∨ 4096 < size := by omega
      go_enter Try.func3, Try.ntmps3
      go_wp2_with fail
      refine (tnew_bad size _ hs).mono ?_
      rintro e w1 ⟨rfl, hb⟩
      rcases hs with hs | hs
      all_goals
        have hs' : ¬ size < 1 ∨ size < 1 := by omega
        go_wp2_with fail
        refine (live20_any _).mono ?_
        rintro e w2 ⟨rfl, hb2⟩
        have HB := Lib.hid (hb.trans (hb2.mono hb.size))
        go_wp2_with fail
        go_ret
        exact ⟨rfl, HB.out⟩
  · have hd : (60 : Int) < (m : Int) := by omega
    clear hm
    go_enter Try.func3, Try.ntmps3
    go_wp2_with fail
    refine (live20_any _).mono ?_
    rintro e w2 ⟨rfl, hb⟩
    go_wp2_with fail
    go_ret
    exact ⟨rfl, hb⟩
end Go.Proofs.Ytgmbigdkipkibaa.tscripts
