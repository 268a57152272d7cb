/- The document's table: the entries, of which slots they are. -/
import Derived.Test.YtgmbigdkipkibaaTabB
namespace Go.Proofs.Ytgmbigdkipkibaa
open Go.RowKit Go.Shelf
attribute [local go_sem] Oper.semAt_some

/-- Entries as they lie. -/
def entsL (l : List Ent) : List Value := l.flatMap fun x => x.cs.toList
theorem entsL_len (l : List Ent) : (entsL l).length = l.length * 6 := by
  induction l with
  | nil => rfl
  | cons x l ih =>
    show (x.cs.toList ++ entsL l).length = _
    rw [List.length_append, ih, List.length_cons]
    show 6 + l.length * 6 = _
    omega
theorem entsL_snoc (l : List Ent) (x : Ent) : entsL (l ++ [x]) = entsL l ++ x.cs.toList := by simp [entsL]
theorem entsL_at : ∀ (l : List Ent) {j i : Nat} (hj : j < l.length), i < 6 → (entsL l)[j * 6 + i]? = l[j].cs[i]?
  | x :: l, 0, i, _, hi => by
    show (x.cs.toList ++ entsL l)[0 * 6 + i]? = x.cs[i]?
    rw [Nat.zero_mul, Nat.zero_add, List.getElem?_append_left (by show i < 6; exact hi), Array.getElem?_toList]
  | x :: l, j + 1, i, hj, hi => by
    have hj' : j < l.length := by simpa using hj
    show (x.cs.toList ++ entsL l)[(j + 1) * 6 + i]? = (l[j]'hj').cs[i]?
    rw [List.getElem?_append_right (by show 6 ≤ (j + 1) * 6 + i; omega), show (j + 1) * 6 + i - x.cs.toList.length = j * 6 + i by show (j + 1) * 6 + i - 6 = _; omega]
    exact entsL_at l hj' hi
theorem row_next {w w1 : World} {base : Nat} {e : TypeId} {size : Nat} {v : Value} {n : Nat} {xs : List Value} (h : w.ownsRow base e size v n xs) (hb : ∀ k, k < w.heap.size → v.ownBlock = some k → w1.heap[k]? = w.heap[k]?) : w1.ownsRow base e size v n xs := by
  refine ⟨h.1, ?_⟩
  rcases h.2 with h0 | ⟨g, cap, cur, rfl, hg, hc, r⟩
  · exact .inl h0
  · exact .inr ⟨g, cap, cur, rfl, hg, (hb g (Array.getElem?_eq_some_iff.1 hc).1 rfl).trans hc, r⟩
theorem row_base {w : World} {base : Nat} {e : TypeId} {size : Nat} {v : Value} {n : Nat} {xs : List Value} (h : w.ownsRow base e size v n xs) {k : Nat} (hk : v.ownBlock = some k) : base ≤ k := by
  rcases h.2 with ⟨rfl, h0⟩ | ⟨g', cap, cur, rfl, hg, hc, _⟩
  · cases hk
  · have : g' = k := by simpa [Value.ownBlock] using hk
    rw [← this]
    exact hg

/-- The document's table in memory: its block, and the row of its entries, which lies behind n₀. -/
structure DocAt (n₀ : Nat) (W : World) (kb n : Nat) (v : Value) (L : List Ent) : Prop where
  blk : Blk W kb 31 #[.int .i64 n, v]
  row : W.ownsRow n₀ 36 6 v L.length (entsL L)
  lt : kb < n₀
  le : n₀ ≤ W.heap.size
theorem DocAt.far {n₀ : Nat} {W W' : World} {kb n : Nat} {v : Value} {L : List Ent} (h : DocAt n₀ W kb n v L) {X : Nat → Prop} (hf : Far X W W') (hg : ¬ X kb) (hr : ∀ k, n₀ ≤ k → ¬ X k) : DocAt n₀ W' kb n v L :=
  ⟨hf.blk h.blk hg, row_next h.row fun k hk e => hf.block k hk (hr k (row_base h.row e)), h.lt, Nat.le_trans h.le hf.size⟩
theorem DocAt.next {n₀ : Nat} {W W' : World} {kb n : Nat} {v : Value} {L : List Ent} (h : DocAt n₀ W kb n v L) (hb : Below W.heap.size W W') : DocAt n₀ W' kb n v L :=
  h.far (X := fun _ => False) (Far.of hb) (fun x => x) (fun _ _ x => x)
theorem DocAt.slice {n₀ : Nat} {W : World} {kb n : Nat} {v : Value} {L : List Ent} (h : DocAt n₀ W kb n v L) : ∃ A c, v = .slice A L.length c := by
  rcases h.row.2 with ⟨rfl, h0⟩ | ⟨g', cap, cur, rfl, _⟩
  · exact ⟨none, 0, by rw [h0]⟩
  · exact ⟨_, _, rfl⟩
/-- Where the entry at j lies. -/
theorem DocAt.at {n₀ : Nat} {W : World} {kb n : Nat} {v : Value} {L : List Ent} (h : DocAt n₀ W kb n v L) {j : Nat} (hj : j < L.length) : ∃ g c, v = .slice (some ⟨g, 0, none⟩) L.length c ∧ n₀ ≤ g ∧ (∀ i, i < 6 → W.cell? ⟨g, j * 6 + i, none⟩ = L[j].cs[i]?) := by
  have h1 := h.row.1
  rcases h.row.2 with ⟨_, h0⟩ | ⟨g, cap, cur, hv, hg, r⟩
  · omega
  · refine ⟨g, cap, hv, hg, fun i hi => ?_⟩
    have := World.ownsRow.cellAt (hv ▸ h.row) (j * 6 + i) (by omega)
    rw [← entsL_at L hj hi, ← this]
theorem DocAt.six {n₀ : Nat} {W : World} {kb n : Nat} {v : Value} {L : List Ent} (h : DocAt n₀ W kb n v L) {j : Nat} (hj : j < L.length) {x : Ent} (hx : L[j] = x) : ∃ g c, v = .slice (some ⟨g, 0, none⟩) L.length c ∧ n₀ ≤ g ∧ W.cell? ⟨g, j * 6, none⟩ = some (.int .u64 x.k) ∧ W.cell? ⟨g, j * 6 + 1, none⟩ = some (.int .i64 x.d) ∧ W.cell? ⟨g, j * 6 + 2, none⟩ = some (.int .i64 x.s) ∧ W.cell? ⟨g, j * 6 + 3, none⟩ = some (.int .i64 x.u) ∧ W.cell? ⟨g, j * 6 + 4, none⟩ = some (.int .i64 x.a) ∧ W.cell? ⟨g, j * 6 + 5, none⟩ = some (.int .i64 x.b) := by
  subst hx
  obtain ⟨g, c, hv, hg, hc⟩ := h.at hj
  exact ⟨g, c, hv, hg, hc 0 (by decide), hc 1 (by decide), hc 2 (by decide), hc 3 (by decide), hc 4 (by decide), hc 5 (by decide)⟩

/-- The place of the entry of a key's slot. -/
def AtIs (n : Nat) (L : List Ent) (k : Nat) : Option Nat → Prop
  | none => ∀ j (h : j < L.length), L[j].k % n ≠ k % n
  | some i => ∃ h : i < L.length, L[i].k % n = k % n ∧ ∀ j (hj : j < i), (L[j]'(by omega)).k % n ≠ k % n
theorem atIs_ex (n : Nat) (L : List Ent) (k : Nat) : ∃ o, AtIs n L k o := by
  by_cases h : ∃ i, ∃ h : i < L.length, L[i].k % n = k % n
  · obtain ⟨i, hi⟩ := h
    induction i using Nat.strongRecOn with
    | _ i ih =>
      by_cases h' : ∃ j, ∃ hj : j < i, (L[j]'(by obtain ⟨h, _⟩ := hi; omega)).k % n = k % n
      · obtain ⟨j, hj, e⟩ := h'
        exact ih j hj ⟨by obtain ⟨h, _⟩ := hi; omega, e⟩
      · obtain ⟨h1, h2⟩ := hi
        exact ⟨some i, h1, h2, fun j hj e => h' ⟨j, hj, e⟩⟩
  · exact ⟨none, fun j hj e => h ⟨j, hj, e⟩⟩
def atV : Option Nat → Int
  | none => -1
  | some i => i
set_option maxHeartbeats 2000000 in
theorem rslot_is {n₀ : Nat} {W : World} {kb n : Nat} {v : Value} {L : List Ent} (h : DocAt n₀ W kb n v L) (hn : 0 < n) (hm : n ≤ 4096) (k i : Nat) (hk : k < 18446744073709551616) (hi : k % n = i) : Calls Try.prog 23 #[.pointer (some ⟨kb, 0, none⟩), .int .u64 k] W (Gives W (.int .u64 i)) := by
  unfold Gives
  have hc : W.cell? ⟨kb, 0, none⟩ = some (.int .i64 n) := h.blk.cell 0
  have hr : (k : Int) % (n : Int) = (i : Int) := by omega
  clear h
  go_enter Try.func23, Try.ntmps23
  go_wp2
  rw [hr]
  go_ret
  exact ⟨rfl, Below.refl _ _⟩
theorem rslot_any {n₀ : Nat} {W : World} {kb n : Nat} {v : Value} {L : List Ent} (h : DocAt n₀ W kb n v L) (hn : 0 < n) (hm : n ≤ 4096) (k : Nat) (hk : k < 18446744073709551616) : Calls Try.prog 23 #[.pointer (some ⟨kb, 0, none⟩), .int .u64 k] W (Gives W (.int .u64 (k % n : Nat))) := rslot_is h hn hm k _ hk rfl
def DocS (n₀ kb n : Nat) (v : Value) (L : List Ent) (W0 W : World) : Prop := DocAt n₀ W kb n v L ∧ Below W0.heap.size W0 W
set_option maxRecDepth 100000 in
set_option maxHeartbeats 4000000 in
theorem rat_is {n₀ : Nat} {W : World} {kb n : Nat} {v : Value} {L : List Ent} (h : DocAt n₀ W kb n v L) (hn : 0 < n) (hm : n ≤ 4096) (k : Nat) (hk : k < 18446744073709551616) (hL : L.length ≤ 1000) (hks : ∀ x ∈ L, x.k < 18446744073709551616) (o : Option Nat) (ho : AtIs n L k o) : Calls Try.prog 21 #[.pointer (some ⟨kb, 0, none⟩), .int .u64 k] W (Gives W (.int .i64 (atV o))) := by
  unfold Gives
  obtain ⟨A, c, hv⟩ := h.slice
  have hc : W.cell? ⟨kb, 1, none⟩ = some (.slice A L.length c) := by rw [← hv]; exact h.blk.cell 1
  have HD := Lib.hid h
  have HO := Lib.hid ho
  have HKS := Lib.hid hks
  have HV := Lib.hid hv
  clear h ho hks hv
  go_enter Try.func21, Try.ntmps21
  go_wp2
  go_loopw [5] (fun i wr => ∃ j : Nat, j ≤ L.length ∧ i = .int .i64 (j : Int) ∧ (∀ q (hq : q < L.length), q < j → L[q].k % n ≠ k % n) ∧ Below W.heap.size W wr) (fun i _ => L.length - (intOf i).toNat)
  case atStart => exact ⟨0, Nat.zero_le _, rfl, fun q _ h => absurd h (Nat.not_lt_zero q), Below.refl _ _⟩
  case round =>
    obtain ⟨j, hj, rfl, hno, hB⟩ := hrel
    have HNO := Lib.hid hno
    clear hno
    have hc1 := (hB.cell (p := ⟨kb, 1, none⟩) (cell_lt hc)).trans hc
    by_cases hlt : j < L.length
    · have bj : (j : Int) < (L.length : Int) := by omega
      obtain ⟨x, hx⟩ : ∃ x, L[j] = x := ⟨_, rfl⟩
      obtain ⟨g, c', hv', hg, s0, s1, s2, s3, s4, s5⟩ := (HD.out.next hB).six hlt hx
      have hv'' := HV.out
      rw [hv''] at hv'
      injection hv' with hA _ _
      subst hA
      have hxk : Hid (x.k < 18446744073709551616) := HKS.out x (by rw [← hx]; exact List.getElem_mem hlt)
      have HX := Lib.hid hx
      clear hx s1 s2 s3 s4 s5 hv''
      go_wp2_with fail
      refine (rslot_any (HD.out.next hB) hn hm x.k hxk.out).mono ?_
      rintro e w1 ⟨rfl, hb1⟩
      have hB1 := hB.trans (hb1.mono hB.size)
      clear s0 hc1
      go_wp2_with fail
      refine (rslot_any (HD.out.next hB1) hn hm k hk).mono ?_
      rintro e w2 ⟨rfl, hb2⟩
      have hB2 := hB1.trans (hb2.mono hB1.size)
      have HB2 := Lib.hid hB2
      clear hb1 hb2 hB hB1 hB2
      by_cases he : x.k % n = k % n
      · have hq : (((x.k % n : Nat) : Int) == ((k % n : Nat) : Int)) = true := by rw [he]; simp
        have ho : o = some j := by
          have ho := HO.out
          have hno := HNO.out
          cases o with
          | none => exact absurd (by rw [HX.out]; exact he) (ho j hlt)
          | some i =>
            obtain ⟨h1, h2, h3⟩ := ho
            rcases Nat.lt_trichotomy i j with h | h | h
            · exact absurd h2 (hno i h1 h)
            · rw [h]
            · exact absurd (by rw [HX.out]; exact he) (h3 j h)
        have HOO := Lib.hid ho
        clear ho he
        go_wp2_with fail
        go_ret
        exact ⟨by rw [HOO.out]; rfl, HB2.out⟩
      · have hq : (((x.k % n : Nat) : Int) == ((k % n : Nat) : Int)) = false := by rw [beq_eq_false_iff_ne]; omega
        have HE := Lib.hid he
        clear he
        go_wp2_with fail
        go_roundw
        case rel =>
          refine ⟨j + 1, by omega, by go_num, fun q hq h => ?_, HB2.out⟩
          rcases Nat.lt_or_ge q j with h' | h'
          · exact HNO.out q hq h'
          · obtain rfl : q = j := by omega
            rw [HX.out]
            exact HE.out
        case measure => simp [intOf]; omega
    · obtain rfl : j = L.length := by omega
      have bj : ¬ (L.length : Int) < (L.length : Int) := by omega
      have ho : o = none := by
        have ho := HO.out
        have hno := HNO.out
        cases o with
        | none => rfl
        | some i =>
          obtain ⟨h1, h2, h3⟩ := ho
          exact absurd h2 (hno i h1 h1)
      have HOO := Lib.hid ho
      clear ho
      go_wp2_with fail
      go_ret
      exact ⟨by rw [HOO.out]; rfl, hB⟩
end Go.Proofs.Ytgmbigdkipkibaa
