/- A table of one slot has what was put last, but that something deeper stays, of another key: the call answers true. -/
import Derived.Test.YtgmbigdkipkibaaTabL
import Derived.Test.YtgmbigdkipkibaaTabC
namespace Go.Proofs.Ytgmbigdkipkibaa.tone
open Go.RowKit Go.Shelf
attribute [local go_sem] Oper.semAt_some

theorem own0 (k : Nat) (d s u a b : Int) (W : World) : Calls Try.prog 10 #[.agg #[.int .u64 k, .int .i64 d, .int .i64 s, .int .i64 u, .int .i64 a, .int .i64 b]] W (Gives W (.agg #[.int .u64 k, .int .i64 d, .int .i64 s, .int .i64 u, .int .i64 a, .int .i64 b])) := own_is ⟨k, d, s, u, a, b⟩ W
/-- The one slot's entry. -/
def fO : Option Ent → Nat → Option Ent
  | none => fN
  | some x => putF fN 0 x
theorem fO_at (o : Option Ent) : fO o 0 = o := by cases o <;> rfl
theorem fO_put (o : Option Ent) (x : Ent) : putF (fO o) 0 x = fO (some x) := by
  funext j
  cases o with
  | none => rfl
  | some y =>
    show (if j = 0 then some x else if j = 0 then some y else none) = (if j = 0 then some x else none)
    by_cases h : j = 0
    · rw [if_pos h, if_pos h]
    · rw [if_neg h, if_neg h, if_neg h]
theorem put1 {W : World} {tb sb : Nat} {o : Option Ent} (h : TabAt W tb sb 1 (fO o)) (k : Nat) (d s u a b : Int) (hk : k < 18446744073709551616) (hu : 0 ≤ u ∧ u ≤ 2) (hkp : keepsB o ⟨k, d, s, u, a, b⟩ = false) : Calls Try.prog 9 #[.pointer (some ⟨tb, 0, none⟩), .agg #[.int .u64 k, .int .i64 d, .int .i64 s, .int .i64 u, .int .i64 a, .int .i64 b]] W fun e w' => e = .returned (.bool true) ∧ TabAt w' tb sb 1 (fO (some ⟨k, d, s, u, a, b⟩)) ∧ Far (· = sb) W w' := by
  have hp := put_is h ⟨k, d, s, u, a, b⟩ hk true (by unfold putB; simp only [Nat.mod_one]; rw [fO_at, hkp]; simp [hu.1, hu.2])
  unfold Puts at hp
  simp only [Nat.mod_one, if_true, fO_put] at hp
  exact hp
theorem put2 {W : World} {tb sb : Nat} {o : Option Ent} (h : TabAt W tb sb 1 (fO o)) (k : Nat) (d s u a b : Int) (hk : k < 18446744073709551616) (hu : ¬ (0 ≤ u ∧ u ≤ 2) ∨ keepsB o ⟨k, d, s, u, a, b⟩ = true) : Calls Try.prog 9 #[.pointer (some ⟨tb, 0, none⟩), .agg #[.int .u64 k, .int .i64 d, .int .i64 s, .int .i64 u, .int .i64 a, .int .i64 b]] W fun e w' => e = .returned (.bool false) ∧ TabAt w' tb sb 1 (fO o) ∧ Far (· = sb) W w' :=
  put_is h ⟨k, d, s, u, a, b⟩ hk false (by
    unfold putB
    simp only [Nat.mod_one]
    rw [fO_at, Bool.and_eq_false_iff, Bool.and_eq_false_iff]
    rcases hu with hu | hu
    · left
      by_cases h : 0 ≤ u
      · exact .inr (decide_eq_false fun e => hu ⟨h, e⟩)
      · exact .inl (decide_eq_false h)
    · right
      rw [hu]
      rfl)
theorem get1 {W : World} {tb sb : Nat} (k : Nat) (d s u a b : Int) (h : TabAt W tb sb 1 (fO (some ⟨k, d, s, u, a, b⟩))) (hk : k < 18446744073709551616) : Calls Try.prog 12 #[.pointer (some ⟨tb, 0, none⟩), .int .u64 k] W (Gives W (.tuple #[.agg #[.int .u64 k, .int .i64 d, .int .i64 s, .int .i64 u, .int .i64 a, .int .i64 b], .bool true])) :=
  get_is h k hk (some ⟨k, d, s, u, a, b⟩) (by unfold getO; rw [Nat.mod_one, fO_at]; simp)
theorem count1 {W : World} {tb sb : Nat} {x : Ent} (h : TabAt W tb sb 1 (fO (some x))) : Calls Try.prog 17 #[.pointer (some ⟨tb, 0, none⟩)] W (Gives W (.int .i64 1)) := tcount_is h
/-- Entries as they lie. -/
def EntsAt (w : World) (A : Option Addr) (l : List Ent) : Prop := ∀ j x, l[j]? = some x → x.k < 18446744073709551616 ∧ ∃ ad, A = some ad ∧ ∀ i, i < 6 → w.cell? ((ad.add (j * 6)).add i) = x.cs[i]?
theorem EntsAt.six {w : World} {A : Option Addr} {l : List Ent} (h : EntsAt w A l) {j : Nat} (hj : j < l.length) {x : Ent} (hx : l[j] = x) : x.k < 18446744073709551616 ∧ ∃ g b, A = some ⟨g, b, none⟩ ∧ w.cell? ⟨g, b + j * 6, none⟩ = some (.int .u64 x.k) ∧ w.cell? ⟨g, b + j * 6 + 1, none⟩ = some (.int .i64 x.d) ∧ w.cell? ⟨g, b + j * 6 + 2, none⟩ = some (.int .i64 x.s) ∧ w.cell? ⟨g, b + j * 6 + 3, none⟩ = some (.int .i64 x.u) ∧ w.cell? ⟨g, b + j * 6 + 4, none⟩ = some (.int .i64 x.a) ∧ w.cell? ⟨g, b + j * 6 + 5, none⟩ = some (.int .i64 x.b) := by
  subst hx
  obtain ⟨hk, ad, hA, hc⟩ := h j _ (List.getElem?_eq_getElem hj)
  obtain ⟨_, ad0, hA0, hc0⟩ := h 0 _ (List.getElem?_eq_getElem (show 0 < l.length by omega))
  obtain ⟨g, b, sp⟩ := ad
  have e0 : ad0 = ⟨g, b, sp⟩ := by rw [hA] at hA0; injection hA0 with e; exact e.symm
  subst e0
  have h0 := hc0 0 (by decide)
  have hsp : sp = none := by
    have h0' : w.cell? ⟨g, b, sp⟩ = (l[0]'(by omega)).cs[0]? := by simpa [Addr.add] using h0
    have h0'' : w.cell? ⟨g, b, sp⟩ = some (.int .u64 (l[0]'(by omega)).k) := h0'
    simpa using World.cell?_spot h0''
  subst hsp
  have ha : ∀ i, ((⟨g, b, none⟩ : Addr).add (j * 6)).add i = ⟨g, b + j * 6 + i, none⟩ := fun i => by
    unfold Addr.add
    by_cases h1 : j * 6 = 0 <;> by_cases h2 : i = 0 <;> simp [h1, h2]
  refine ⟨hk, g, b, hA, ?_, ?_, ?_, ?_, ?_, ?_⟩
  · have := hc 0 (by decide); rw [ha] at this; exact this
  · have := hc 1 (by decide); rw [ha] at this; exact this
  · have := hc 2 (by decide); rw [ha] at this; exact this
  · have := hc 3 (by decide); rw [ha] at this; exact this
  · have := hc 4 (by decide); rw [ha] at this; exact this
  · have := hc 5 (by decide); rw [ha] at this; exact this
theorem EntsAt.next {w w' : World} {A : Option Addr} {l : List Ent} (h : EntsAt w A l) (hb : Below w.heap.size w w') : EntsAt w' A l := fun j x hx => by
  obtain ⟨hk, ad, hA, hc⟩ := h j x hx
  refine ⟨hk, ad, hA, fun i hi => ?_⟩
  have h1 := hc i hi
  have h2 : ∃ v, x.cs[i]? = some v := ⟨x.cs[i]'(by show i < 6; exact hi), Array.getElem?_eq_getElem _⟩
  obtain ⟨v, hv⟩ := h2
  rw [hv] at h1 ⊢
  exact (hb.cell (cell_lt h1)).trans h1
/-- What the last region reads. -/
def SS (w W : World) (tb sb gy g o : Nat) (k : Nat) (d s u a b : Int) : Prop := W.cell? ⟨gy, 0, none⟩ = some (.int .u64 k) ∧ W.cell? ⟨gy, 1, none⟩ = some (.int .i64 d) ∧ W.cell? ⟨gy, 2, none⟩ = some (.int .i64 s) ∧ W.cell? ⟨gy, 3, none⟩ = some (.int .i64 u) ∧ W.cell? ⟨gy, 4, none⟩ = some (.int .i64 a) ∧ W.cell? ⟨gy, 5, none⟩ = some (.int .i64 b) ∧ W.cell? ⟨g, o, none⟩ = some (.int .u64 k) ∧ W.cell? ⟨g, o + 1, none⟩ = some (.int .i64 d) ∧ W.cell? ⟨g, o + 2, none⟩ = some (.int .i64 s) ∧ W.cell? ⟨g, o + 3, none⟩ = some (.int .i64 u) ∧ W.cell? ⟨g, o + 4, none⟩ = some (.int .i64 a) ∧ W.cell? ⟨g, o + 5, none⟩ = some (.int .i64 b) ∧ TabF w W tb sb 1 (fO (some ⟨k, d, s, u, a, b⟩))
theorem ss_keep {w W W' : World} {tb sb gy g o : Nat} {k : Nat} {d s u a b : Int} (H : SS w W tb sb gy g o k d s u a b) (hb : Below W.heap.size W W') : SS w W' tb sb gy g o k d s u a b := by
  obtain ⟨h0, h1, h2, h3, h4, h5, h6, h7, h8, h9, h10, h11, ht⟩ := H
  have h : ∀ (p : Addr) (v : Value), W.cell? p = some v → W'.cell? p = some v := fun p v e => (hb.cell (cell_lt e)).trans e
  exact ⟨h _ _ h0, h _ _ h1, h _ _ h2, h _ _ h3, h _ _ h4, h _ _ h5, h _ _ h6, h _ _ h7, h _ _ h8, h _ _ h9, h _ _ h10, h _ _ h11, ht.next hb⟩
theorem ss_tab {w W : World} {tb sb gy g o : Nat} {k : Nat} {d s u a b : Int} (H : SS w W tb sb gy g o k d s u a b) : TabF w W tb sb 1 (fO (some ⟨k, d, s, u, a, b⟩)) := by
  obtain ⟨h0, h1, h2, h3, h4, h5, h6, h7, h8, h9, h10, h11, ht⟩ := H
  exact ht
theorem ss_count {w W : World} {tb sb gy g o : Nat} {k : Nat} {d s u a b : Int} (H : SS w W tb sb gy g o k d s u a b) : Calls Try.prog 17 #[.pointer (some ⟨tb, 0, none⟩)] W (Gives W (.int .i64 1)) := by
  obtain ⟨h0, h1, h2, h3, h4, h5, h6, h7, h8, h9, h10, h11, ht⟩ := H
  exact count1 ht.t
set_option maxRecDepth 100000 in
set_option maxHeartbeats 20000000 in
theorem walk (A : Option Addr) (l : List Ent) (c : Nat) (w : World) (hl : EntsAt w A l) : Calls Try.prog 6 #[.slice A l.length c] w (Gives w (.bool true)) := by
  unfold Gives
  obtain ⟨m, hm⟩ : ∃ m, l.length = m := ⟨_, rfl⟩
  rw [hm]
  have HM := Lib.hid hm
  by_cases h60 : m ≤ 60
  · have hd : ¬ (60 : Int) < (m : Int) := by omega
    clear hm
    go_enter Try.func6, Try.ntmps6
    go_wp2_with fail
    refine (tnew_is 1 _ (by decide) (by decide)).mono ?_
    rintro e w1 ⟨tb, sb, rfl, h1, h2, h3, h4⟩
    have H1 := Lib.hid (show TabF w w1 tb sb 1 (fO none) from ⟨h1, h4, h2, h3⟩)
    clear h1 h2 h3 h4
    go_wp2_with fail
    go_loopw [5, 6] (fun a i wr => ∃ (j : Nat) (o : Option Nat), j ≤ m ∧ i = .int .i64 (j : Int) ∧ a = .int .i64 (atV o) ∧ (∀ q, o = some q → q < j) ∧ TabF w wr tb sb 1 (fO (o.bind fun q => l[q]?))) (fun _ i _ => m - (intOf i).toNat)
    case atStart => exact ⟨0, none, Nat.zero_le _, rfl, rfl, fun q h => (by cases h), H1.out⟩
    case round =>
      obtain ⟨j, o, hj, rfl, rfl, ho, hF⟩ := hrel
      have H := Lib.hid hF
      clear hF
      by_cases hlt : j < m
      · have bj : (j : Int) < (m : Int) := by omega
        obtain ⟨⟨k, d, s, u, a, b⟩, hx⟩ : ∃ x, l[j]'(by rw [HM.out]; exact hlt) = x := ⟨_, rfl⟩
        obtain ⟨hxk, g, b0, rfl, s0, s1, s2, s3, s4, s5⟩ := (hl.next H.out.b).six (by rw [HM.out]; exact hlt) hx
        simp only at hxk s0 s1 s2 s3 s4 s5
        have HX := Lib.hid hx
        have HO := Lib.hid ho
        have HXK := Lib.hid hxk
        obtain ⟨W1, hW1⟩ : ∃ W1, wr.alloc (.cells #[.int .u64 k, .int .i64 d, .int .i64 s, .int .i64 u, .int .i64 a, .int .i64 b] 36) = W1 := ⟨_, rfl⟩
        have hb1 : Below wr.heap.size wr W1 := by rw [← hW1]; exact below_new _ _
        have bX : Blk W1 wr.heap.size 36 (Ent.mk k d s u a b).cs := by rw [← hW1]; exact Blk.new _ _ _ rfl
        obtain ⟨x0, x1, x2, x3, x4, x5⟩ := ent_cells bX
        simp only at x0 x1 x2 x3 x4 x5
        have HF1 := Lib.hid (H.out.next hb1)
        have HL1 : Hid (EntsAt W1 (some ⟨g, b0, none⟩) l) := hl.next HF1.out.b
        have HBX := Lib.hid bX
        have HW1 := Lib.hid hW1
        have HLT := Lib.hid hlt
        have HSB1 : Hid (wr.heap.size ≠ sb) := by
          have := H.out.t.slots.lt
          show wr.heap.size ≠ sb
          omega
        obtain ⟨gx, hgx⟩ : ∃ gx, wr.heap.size = gx := ⟨_, rfl⟩
        rw [hgx] at x0 x1 x2 x3 x4 x5 HBX HSB1
        have HGX := Lib.hid hgx
        clear hx ho hxk hW1 hb1 bX hgx
        by_cases hu : 0 ≤ u ∧ u ≤ 2
        · have HU := Lib.hid hu
          have u0 : ¬ u < 0 := by omega
          have u2 : ¬ 2 < u := by omega
          clear hu
          cases o with
          | none =>
            unfold atV
            go_wp2_with fail
            (try rw [HW1.out])
            (try rw [HGX.out])
            go_quiet (fail)
            obtain ⟨W2, hW2⟩ : ∃ W2, W1.drewN nq = W2 := ⟨_, rfl⟩
            have hb2 : Below W1.heap.size W1 W2 := by rw [← hW2]; exact below_drewN (Below.refl _ _) _
            rw [hW2]
            have HF2 := Lib.hid (HF1.out.next hb2)
            clear x0 x1 x2 x3 x4 x5
            obtain ⟨x0, x1, x2, x3, x4, x5⟩ := ent_cells (HBX.out.next hb2)
            simp only at x0 x1 x2 x3 x4 x5
            clear hb2 hW2
            go_wp2_with fail
            refine (own0 k d s u a b _).mono ?_
            rintro e w2 ⟨rfl, hb⟩
            have HF2' := Lib.hid (HF2.out.next hb)
            clear hb x0 x1 x2 x3 x4 x5
            go_wp2_with fail
            refine (put1 HF2'.out.t k d s u a b HXK.out HU.out rfl).mono ?_
            rintro e w3 ⟨rfl, h1, h2⟩
            have HF3 := Lib.hid (HF2'.out.to h1 h2)
            have HL3 : Hid (EntsAt w3 (some ⟨g, b0, none⟩) l) := hl.next HF3.out.b
            clear h1 h2 s0 s1 s2 s3 s4 s5
            obtain ⟨_, g9, b9, hA9, l0, l1, l2, l3, l4, l5⟩ := HL3.out.six (j := j) (by rw [HM.out]; exact HLT.out) HX.out
            injection hA9 with hA9
            injection hA9 with hA9 hB9
            subst hA9 hB9
            simp only at l0 l1 l2 l3 l4 l5
            go_wp2_with fail
            refine (get1 k d s u a b HF3.out.t HXK.out).mono ?_
            rintro e w4 ⟨rfl, hb⟩
            obtain ⟨W5, hW5⟩ : ∃ W5, w4.alloc (.cells #[.int .u64 k, .int .i64 d, .int .i64 s, .int .i64 u, .int .i64 a, .int .i64 b] 40) = W5 := ⟨_, rfl⟩
            have hb5 : Below w3.heap.size w3 W5 := by rw [← hW5]; exact hb.alloc hb.size _
            have bY : Blk W5 w4.heap.size 40 (Ent.mk k d s u a b).cs := by rw [← hW5]; exact Blk.new _ _ _ rfl
            have HF5 := Lib.hid (HF3.out.next hb5)
            have HBY := Lib.hid bY
            have HW5 := Lib.hid hW5
            clear l0 l1 l2 l3 l4 l5
            obtain ⟨_, g9, b9, hA9, l0, l1, l2, l3, l4, l5⟩ := (HL3.out.next hb5).six (j := j) (by rw [HM.out]; exact HLT.out) HX.out
            injection hA9 with hA9
            injection hA9 with hA9 hB9
            subst hA9 hB9
            simp only at l0 l1 l2 l3 l4 l5
            obtain ⟨y0, y1, y2, y3, y4, y5⟩ := ent_cells bY
            simp only at y0 y1 y2 y3 y4 y5
            obtain ⟨gy, hgy⟩ : ∃ gy, w4.heap.size = gy := ⟨_, rfl⟩
            rw [hgy] at y0 y1 y2 y3 y4 y5
            have HGY := Lib.hid hgy
            clear hb hb5 bY hW5 hgy
            go_wp2_with fail
            (try rw [HW5.out])
            (try rw [HGY.out])
            have hS0 : SS w W5 tb sb gy g (b0 + j * 6) k d s u a b := ⟨y0, y1, y2, y3, y4, y5, l0, l1, l2, l3, l4, l5, HF5.out⟩
            have hS := ss_keep hS0 (Below.refl _ _).drew
            clear hS0
            go_region_held3 (fun W => W.cell? ⟨gy, 0, none⟩ = some (.int .u64 k) ∧ W.cell? ⟨gy, 1, none⟩ = some (.int .i64 d) ∧ W.cell? ⟨gy, 2, none⟩ = some (.int .i64 s) ∧ W.cell? ⟨gy, 3, none⟩ = some (.int .i64 u) ∧ W.cell? ⟨gy, 4, none⟩ = some (.int .i64 a) ∧ W.cell? ⟨gy, 5, none⟩ = some (.int .i64 b) ∧ W.cell? ⟨g, b0 + j * 6, none⟩ = some (.int .u64 k) ∧ W.cell? ⟨g, b0 + j * 6 + 1, none⟩ = some (.int .i64 d) ∧ W.cell? ⟨g, b0 + j * 6 + 2, none⟩ = some (.int .i64 s) ∧ W.cell? ⟨g, b0 + j * 6 + 3, none⟩ = some (.int .i64 u) ∧ W.cell? ⟨g, b0 + j * 6 + 4, none⟩ = some (.int .i64 a) ∧ W.cell? ⟨g, b0 + j * 6 + 5, none⟩ = some (.int .i64 b) ∧ TabF w W tb sb 1 (fO (some ⟨k, d, s, u, a, b⟩)))
              (first | exact hS | exact ss_keep (by assumption) hb)
              (first
                | (go_at_call 10; refine (own0 k d s u a b _).mono ?_; rintro e8 w9 ⟨rfl, hb⟩)
                | (go_at_call 17; refine (ss_count (by assumption)).mono ?_; rintro e8 w9 ⟨rfl, hb⟩))
            all_goals
              have hE : TabF w w9 tb sb 1 (fO (some ⟨k, d, s, u, a, b⟩)) := ss_tab (by assumption)
              go_wp2_with fail
              go_roundw
              case rel =>
                refine ⟨j + 1, some j, by omega, by go_num, rfl, fun q' h => ?_, ?_⟩
                · injection h with h
                  omega
                · show TabF w _ tb sb 1 (fO (l[j]?))
                  rw [List.getElem?_eq_getElem (by rw [HM.out]; exact HLT.out), HX.out]
                  exact hE
              case measure => simp [intOf]; omega
          | some q =>
            have hq : q < j := HO.out q rfl
            have hql : q < l.length := by rw [HM.out]; have := HLT.out; omega
            have bq : (q : Int) < (m : Int) := by have := HLT.out; omega
            have HQL := Lib.hid hql
            obtain ⟨⟨k', d', s', u', a', b'⟩, hy⟩ : ∃ y, l[q]'hql = y := ⟨_, rfl⟩
            obtain ⟨hyk, g9, b9, hA9, l0, l1, l2, l3, l4, l5⟩ := HL1.out.six hql hy
            injection hA9 with hA9
            injection hA9 with hA9 hB9
            subst hA9 hB9
            simp only at hyk l0 l1 l2 l3 l4 l5
            have HYK := Lib.hid hyk
            have HY := Lib.hid hy
            have HF1 : Hid (TabF w W1 tb sb 1 (fO (some ⟨k', d', s', u', a', b'⟩))) := by
              have h := HF1.out
              have e : ((some q).bind fun q => l[q]?) = some (⟨k', d', s', u', a', b'⟩ : Ent) := by
                show l[q]? = _
                rw [List.getElem?_eq_getElem HQL.out, HY.out]
              rw [e] at h
              exact h
            clear hyk hy
            by_cases hk : k' = k
            · have HKP : Hid (keepsB (some ⟨k', d', s', u', a', b'⟩) ⟨k, d, s, u, a, b⟩ = false) := by
                show keepsB _ _ = false
                rw [keepsB_some]
                simp [hk]
              have hkn : ((k' : Int) != (k : Int)) = false := by rw [hk]; simp
              clear hk
              unfold atV
              go_wp2_with fail
              (try rw [HW1.out])
              (try rw [HGX.out])
              go_quiet (fail)
              obtain ⟨W2, hW2⟩ : ∃ W2, W1.drewN nq = W2 := ⟨_, rfl⟩
              have hb2 : Below W1.heap.size W1 W2 := by rw [← hW2]; exact below_drewN (Below.refl _ _) _
              rw [hW2]
              have HF2 := Lib.hid (HF1.out.next hb2)
              clear x0 x1 x2 x3 x4 x5
              obtain ⟨x0, x1, x2, x3, x4, x5⟩ := ent_cells (HBX.out.next hb2)
              simp only at x0 x1 x2 x3 x4 x5
              clear hb2 hW2
              go_wp2_with fail
              refine (own0 k d s u a b _).mono ?_
              rintro e w2 ⟨rfl, hb⟩
              have HF2' := Lib.hid (HF2.out.next hb)
              clear hb x0 x1 x2 x3 x4 x5
              go_wp2_with fail
              refine (put1 HF2'.out.t k d s u a b HXK.out HU.out HKP.out).mono ?_
              rintro e w3 ⟨rfl, h1, h2⟩
              have HF3 := Lib.hid (HF2'.out.to h1 h2)
              have HL3 : Hid (EntsAt w3 (some ⟨g, b0, none⟩) l) := hl.next HF3.out.b
              clear h1 h2 s0 s1 s2 s3 s4 s5
              clear l0 l1 l2 l3 l4 l5
              obtain ⟨_, g9, b9, hA9, l0, l1, l2, l3, l4, l5⟩ := HL3.out.six (j := j) (by rw [HM.out]; exact HLT.out) HX.out
              injection hA9 with hA9
              injection hA9 with hA9 hB9
              subst hA9 hB9
              simp only at l0 l1 l2 l3 l4 l5
              go_wp2_with fail
              refine (get1 k d s u a b HF3.out.t HXK.out).mono ?_
              rintro e w4 ⟨rfl, hb⟩
              obtain ⟨W5, hW5⟩ : ∃ W5, w4.alloc (.cells #[.int .u64 k, .int .i64 d, .int .i64 s, .int .i64 u, .int .i64 a, .int .i64 b] 40) = W5 := ⟨_, rfl⟩
              have hb5 : Below w3.heap.size w3 W5 := by rw [← hW5]; exact hb.alloc hb.size _
              have bY : Blk W5 w4.heap.size 40 (Ent.mk k d s u a b).cs := by rw [← hW5]; exact Blk.new _ _ _ rfl
              have HF5 := Lib.hid (HF3.out.next hb5)
              have HBY := Lib.hid bY
              have HW5 := Lib.hid hW5
              clear l0 l1 l2 l3 l4 l5
              obtain ⟨_, g9, b9, hA9, l0, l1, l2, l3, l4, l5⟩ := (HL3.out.next hb5).six (j := j) (by rw [HM.out]; exact HLT.out) HX.out
              injection hA9 with hA9
              injection hA9 with hA9 hB9
              subst hA9 hB9
              simp only at l0 l1 l2 l3 l4 l5
              obtain ⟨y0, y1, y2, y3, y4, y5⟩ := ent_cells bY
              simp only at y0 y1 y2 y3 y4 y5
              obtain ⟨gy, hgy⟩ : ∃ gy, w4.heap.size = gy := ⟨_, rfl⟩
              rw [hgy] at y0 y1 y2 y3 y4 y5
              have HGY := Lib.hid hgy
              clear hb hb5 bY hW5 hgy
              go_wp2_with fail
              (try rw [HW5.out])
              (try rw [HGY.out])
              have hS0 : SS w W5 tb sb gy g (b0 + j * 6) k d s u a b := ⟨y0, y1, y2, y3, y4, y5, l0, l1, l2, l3, l4, l5, HF5.out⟩
              have hS := ss_keep hS0 (Below.refl _ _).drew
              clear hS0
              go_region_held3 (fun W => W.cell? ⟨gy, 0, none⟩ = some (.int .u64 k) ∧ W.cell? ⟨gy, 1, none⟩ = some (.int .i64 d) ∧ W.cell? ⟨gy, 2, none⟩ = some (.int .i64 s) ∧ W.cell? ⟨gy, 3, none⟩ = some (.int .i64 u) ∧ W.cell? ⟨gy, 4, none⟩ = some (.int .i64 a) ∧ W.cell? ⟨gy, 5, none⟩ = some (.int .i64 b) ∧ W.cell? ⟨g, b0 + j * 6, none⟩ = some (.int .u64 k) ∧ W.cell? ⟨g, b0 + j * 6 + 1, none⟩ = some (.int .i64 d) ∧ W.cell? ⟨g, b0 + j * 6 + 2, none⟩ = some (.int .i64 s) ∧ W.cell? ⟨g, b0 + j * 6 + 3, none⟩ = some (.int .i64 u) ∧ W.cell? ⟨g, b0 + j * 6 + 4, none⟩ = some (.int .i64 a) ∧ W.cell? ⟨g, b0 + j * 6 + 5, none⟩ = some (.int .i64 b) ∧ TabF w W tb sb 1 (fO (some ⟨k, d, s, u, a, b⟩)))
                (first | exact hS | exact ss_keep (by assumption) hb)
                (first
                  | (go_at_call 10; refine (own0 k d s u a b _).mono ?_; rintro e8 w9 ⟨rfl, hb⟩)
                  | (go_at_call 17; refine (ss_count (by assumption)).mono ?_; rintro e8 w9 ⟨rfl, hb⟩))
              all_goals
                have hE : TabF w w9 tb sb 1 (fO (some ⟨k, d, s, u, a, b⟩)) := ss_tab (by assumption)
                go_wp2_with fail
                go_roundw
                case rel =>
                  refine ⟨j + 1, some j, by omega, by go_num, rfl, fun q' h => ?_, ?_⟩
                  · injection h with h
                    omega
                  · show TabF w _ tb sb 1 (fO (l[j]?))
                    rw [List.getElem?_eq_getElem (by rw [HM.out]; exact HLT.out), HX.out]
                    exact hE
                case measure => simp [intOf]; omega
            · have hkn : ((k' : Int) != (k : Int)) = true := by rw [bne_iff_ne]; omega
              have hkn' : (k' != k) = true := by rw [bne_iff_ne]; exact hk
              by_cases hdp : d < d'
              · have HKP : Hid (keepsB (some ⟨k', d', s', u', a', b'⟩) ⟨k, d, s, u, a, b⟩ = true) := by
                  show keepsB _ _ = true
                  rw [keepsB_some]
                  simp only
                  rw [hkn', decide_eq_true hdp]
                  rfl
                have hdd : decide (d < d') = true := decide_eq_true hdp
                clear hk hkn' hdp
                unfold atV
                go_wp2_with fail
                (try rw [HW1.out])
                (try rw [HGX.out])
                go_quiet (fail)
                obtain ⟨W2, hW2⟩ : ∃ W2, W1.drewN nq = W2 := ⟨_, rfl⟩
                have hb2 : Below W1.heap.size W1 W2 := by rw [← hW2]; exact below_drewN (Below.refl _ _) _
                rw [hW2]
                have HF2 := Lib.hid (HF1.out.next hb2)
                clear x0 x1 x2 x3 x4 x5
                obtain ⟨x0, x1, x2, x3, x4, x5⟩ := ent_cells (HBX.out.next hb2)
                simp only at x0 x1 x2 x3 x4 x5
                clear hb2 hW2
                go_wp2_with fail
                refine (own0 k d s u a b _).mono ?_
                rintro e w2 ⟨rfl, hb⟩
                have HF2' := Lib.hid (HF2.out.next hb)
                clear hb x0 x1 x2 x3 x4 x5
                go_wp2_with fail
                refine (put2 HF2'.out.t k d s u a b HXK.out (.inr HKP.out)).mono ?_
                rintro e w3 ⟨rfl, h1, h2⟩
                have HF3 := Lib.hid (HF2'.out.to h1 h2)
                have HL3 : Hid (EntsAt w3 (some ⟨g, b0, none⟩) l) := hl.next HF3.out.b
                clear h1 h2 s0 s1 s2 s3 s4 s5
                clear l0 l1 l2 l3 l4 l5
                obtain ⟨_, g9, b9, hA9, l0, l1, l2, l3, l4, l5⟩ := HL3.out.six (j := q) HQL.out HY.out
                injection hA9 with hA9
                injection hA9 with hA9 hB9
                subst hA9 hB9
                simp only at l0 l1 l2 l3 l4 l5
                go_wp2_with fail
                refine (get1 k' d' s' u' a' b' HF3.out.t HYK.out).mono ?_
                rintro e w4 ⟨rfl, hb⟩
                obtain ⟨W5, hW5⟩ : ∃ W5, w4.alloc (.cells #[.int .u64 k', .int .i64 d', .int .i64 s', .int .i64 u', .int .i64 a', .int .i64 b'] 40) = W5 := ⟨_, rfl⟩
                have hb5 : Below w3.heap.size w3 W5 := by rw [← hW5]; exact hb.alloc hb.size _
                have bY : Blk W5 w4.heap.size 40 (Ent.mk k' d' s' u' a' b').cs := by rw [← hW5]; exact Blk.new _ _ _ rfl
                have HF5 := Lib.hid (HF3.out.next hb5)
                have HBY := Lib.hid bY
                have HW5 := Lib.hid hW5
                clear l0 l1 l2 l3 l4 l5
                obtain ⟨_, g9, b9, hA9, l0, l1, l2, l3, l4, l5⟩ := (HL3.out.next hb5).six (j := q) HQL.out HY.out
                injection hA9 with hA9
                injection hA9 with hA9 hB9
                subst hA9 hB9
                simp only at l0 l1 l2 l3 l4 l5
                obtain ⟨y0, y1, y2, y3, y4, y5⟩ := ent_cells bY
                simp only at y0 y1 y2 y3 y4 y5
                obtain ⟨gy, hgy⟩ : ∃ gy, w4.heap.size = gy := ⟨_, rfl⟩
                rw [hgy] at y0 y1 y2 y3 y4 y5
                have HGY := Lib.hid hgy
                clear hb hb5 bY hW5 hgy
                go_wp2_with fail
                (try rw [HW5.out])
                (try rw [HGY.out])
                have hS0 : SS w W5 tb sb gy g (b0 + q * 6) k' d' s' u' a' b' := ⟨y0, y1, y2, y3, y4, y5, l0, l1, l2, l3, l4, l5, HF5.out⟩
                have hS := ss_keep hS0 (Below.refl _ _).drew
                clear hS0
                go_region_held3 (fun W => W.cell? ⟨gy, 0, none⟩ = some (.int .u64 k') ∧ W.cell? ⟨gy, 1, none⟩ = some (.int .i64 d') ∧ W.cell? ⟨gy, 2, none⟩ = some (.int .i64 s') ∧ W.cell? ⟨gy, 3, none⟩ = some (.int .i64 u') ∧ W.cell? ⟨gy, 4, none⟩ = some (.int .i64 a') ∧ W.cell? ⟨gy, 5, none⟩ = some (.int .i64 b') ∧ W.cell? ⟨g, b0 + q * 6, none⟩ = some (.int .u64 k') ∧ W.cell? ⟨g, b0 + q * 6 + 1, none⟩ = some (.int .i64 d') ∧ W.cell? ⟨g, b0 + q * 6 + 2, none⟩ = some (.int .i64 s') ∧ W.cell? ⟨g, b0 + q * 6 + 3, none⟩ = some (.int .i64 u') ∧ W.cell? ⟨g, b0 + q * 6 + 4, none⟩ = some (.int .i64 a') ∧ W.cell? ⟨g, b0 + q * 6 + 5, none⟩ = some (.int .i64 b') ∧ TabF w W tb sb 1 (fO (some ⟨k', d', s', u', a', b'⟩)))
                  (first | exact hS | exact ss_keep (by assumption) hb)
                  (first
                    | (go_at_call 10; refine (own0 k' d' s' u' a' b' _).mono ?_; rintro e8 w9 ⟨rfl, hb⟩)
                    | (go_at_call 17; refine (ss_count (by assumption)).mono ?_; rintro e8 w9 ⟨rfl, hb⟩))
                all_goals
                  have hE : TabF w w9 tb sb 1 (fO (some ⟨k', d', s', u', a', b'⟩)) := ss_tab (by assumption)
                  go_wp2_with fail
                  go_roundw
                  case rel =>
                    refine ⟨j + 1, some q, by omega, by go_num, rfl, fun q' h => ?_, ?_⟩
                    · injection h with h
                      omega
                    · show TabF w _ tb sb 1 (fO (l[q]?))
                      rw [List.getElem?_eq_getElem HQL.out, HY.out]
                      exact hE
                  case measure => simp [intOf]; omega
              · have HKP : Hid (keepsB (some ⟨k', d', s', u', a', b'⟩) ⟨k, d, s, u, a, b⟩ = false) := by
                  show keepsB _ _ = false
                  rw [keepsB_some]
                  simp only
                  rw [decide_eq_false hdp, Bool.and_false]
                have hdd : decide (d < d') = false := decide_eq_false hdp
                clear hk hkn' hdp
                unfold atV
                go_wp2_with fail
                (try rw [HW1.out])
                (try rw [HGX.out])
                go_quiet (fail)
                obtain ⟨W2, hW2⟩ : ∃ W2, W1.drewN nq = W2 := ⟨_, rfl⟩
                have hb2 : Below W1.heap.size W1 W2 := by rw [← hW2]; exact below_drewN (Below.refl _ _) _
                rw [hW2]
                have HF2 := Lib.hid (HF1.out.next hb2)
                clear x0 x1 x2 x3 x4 x5
                obtain ⟨x0, x1, x2, x3, x4, x5⟩ := ent_cells (HBX.out.next hb2)
                simp only at x0 x1 x2 x3 x4 x5
                clear hb2 hW2
                go_wp2_with fail
                refine (own0 k d s u a b _).mono ?_
                rintro e w2 ⟨rfl, hb⟩
                have HF2' := Lib.hid (HF2.out.next hb)
                clear hb x0 x1 x2 x3 x4 x5
                go_wp2_with fail
                refine (put1 HF2'.out.t k d s u a b HXK.out HU.out HKP.out).mono ?_
                rintro e w3 ⟨rfl, h1, h2⟩
                have HF3 := Lib.hid (HF2'.out.to h1 h2)
                have HL3 : Hid (EntsAt w3 (some ⟨g, b0, none⟩) l) := hl.next HF3.out.b
                clear h1 h2 s0 s1 s2 s3 s4 s5
                clear l0 l1 l2 l3 l4 l5
                obtain ⟨_, g9, b9, hA9, l0, l1, l2, l3, l4, l5⟩ := HL3.out.six (j := j) (by rw [HM.out]; exact HLT.out) HX.out
                injection hA9 with hA9
                injection hA9 with hA9 hB9
                subst hA9 hB9
                simp only at l0 l1 l2 l3 l4 l5
                go_wp2_with fail
                refine (get1 k d s u a b HF3.out.t HXK.out).mono ?_
                rintro e w4 ⟨rfl, hb⟩
                obtain ⟨W5, hW5⟩ : ∃ W5, w4.alloc (.cells #[.int .u64 k, .int .i64 d, .int .i64 s, .int .i64 u, .int .i64 a, .int .i64 b] 40) = W5 := ⟨_, rfl⟩
                have hb5 : Below w3.heap.size w3 W5 := by rw [← hW5]; exact hb.alloc hb.size _
                have bY : Blk W5 w4.heap.size 40 (Ent.mk k d s u a b).cs := by rw [← hW5]; exact Blk.new _ _ _ rfl
                have HF5 := Lib.hid (HF3.out.next hb5)
                have HBY := Lib.hid bY
                have HW5 := Lib.hid hW5
                clear l0 l1 l2 l3 l4 l5
                obtain ⟨_, g9, b9, hA9, l0, l1, l2, l3, l4, l5⟩ := (HL3.out.next hb5).six (j := j) (by rw [HM.out]; exact HLT.out) HX.out
                injection hA9 with hA9
                injection hA9 with hA9 hB9
                subst hA9 hB9
                simp only at l0 l1 l2 l3 l4 l5
                obtain ⟨y0, y1, y2, y3, y4, y5⟩ := ent_cells bY
                simp only at y0 y1 y2 y3 y4 y5
                obtain ⟨gy, hgy⟩ : ∃ gy, w4.heap.size = gy := ⟨_, rfl⟩
                rw [hgy] at y0 y1 y2 y3 y4 y5
                have HGY := Lib.hid hgy
                clear hb hb5 bY hW5 hgy
                go_wp2_with fail
                (try rw [HW5.out])
                (try rw [HGY.out])
                have hS0 : SS w W5 tb sb gy g (b0 + j * 6) k d s u a b := ⟨y0, y1, y2, y3, y4, y5, l0, l1, l2, l3, l4, l5, HF5.out⟩
                have hS := ss_keep hS0 (Below.refl _ _).drew
                clear hS0
                go_region_held3 (fun W => W.cell? ⟨gy, 0, none⟩ = some (.int .u64 k) ∧ W.cell? ⟨gy, 1, none⟩ = some (.int .i64 d) ∧ W.cell? ⟨gy, 2, none⟩ = some (.int .i64 s) ∧ W.cell? ⟨gy, 3, none⟩ = some (.int .i64 u) ∧ W.cell? ⟨gy, 4, none⟩ = some (.int .i64 a) ∧ W.cell? ⟨gy, 5, none⟩ = some (.int .i64 b) ∧ W.cell? ⟨g, b0 + j * 6, none⟩ = some (.int .u64 k) ∧ W.cell? ⟨g, b0 + j * 6 + 1, none⟩ = some (.int .i64 d) ∧ W.cell? ⟨g, b0 + j * 6 + 2, none⟩ = some (.int .i64 s) ∧ W.cell? ⟨g, b0 + j * 6 + 3, none⟩ = some (.int .i64 u) ∧ W.cell? ⟨g, b0 + j * 6 + 4, none⟩ = some (.int .i64 a) ∧ W.cell? ⟨g, b0 + j * 6 + 5, none⟩ = some (.int .i64 b) ∧ TabF w W tb sb 1 (fO (some ⟨k, d, s, u, a, b⟩)))
                  (first | exact hS | exact ss_keep (by assumption) hb)
                  (first
                    | (go_at_call 10; refine (own0 k d s u a b _).mono ?_; rintro e8 w9 ⟨rfl, hb⟩)
                    | (go_at_call 17; refine (ss_count (by assumption)).mono ?_; rintro e8 w9 ⟨rfl, hb⟩))
                all_goals
                  have hE : TabF w w9 tb sb 1 (fO (some ⟨k, d, s, u, a, b⟩)) := ss_tab (by assumption)
                  go_wp2_with fail
                  go_roundw
                  case rel =>
                    refine ⟨j + 1, some j, by omega, by go_num, rfl, fun q' h => ?_, ?_⟩
                    · injection h with h
                      omega
                    · show TabF w _ tb sb 1 (fO (l[j]?))
                      rw [List.getElem?_eq_getElem (by rw [HM.out]; exact HLT.out), HX.out]
                      exact hE
                  case measure => simp [intOf]; omega
        · have HU := Lib.hid hu
          rcases (show u < 0 ∨ (¬ u < 0 ∧ 2 < u) by omega) with u0 | ⟨u0, u2⟩
          · clear hu
            go_wp2_with fail
            (try rw [HW1.out])
            (try rw [HGX.out])
            refine (own0 k d s u a b _).mono ?_
            rintro e w2 ⟨rfl, hb⟩
            have HF2 := Lib.hid (HF1.out.next hb)
            clear hb x0 x1 x2 x3 x4 x5
            go_wp2_with fail
            refine (put2 HF2.out.t k d s u a b HXK.out (.inl HU.out)).mono ?_
            rintro e w3 ⟨rfl, h1, h2⟩
            have HF3 := Lib.hid (HF2.out.to h1 h2)
            clear h1 h2
            go_wp2_with fail
            go_roundw
            case rel => exact ⟨j + 1, o, by omega, by go_num, rfl, fun q h => by have := HO.out q h; omega, HF3.out⟩
            case measure => simp [intOf]; omega
          · clear hu
            go_wp2_with fail
            (try rw [HW1.out])
            (try rw [HGX.out])
            refine (own0 k d s u a b _).mono ?_
            rintro e w2 ⟨rfl, hb⟩
            have HF2 := Lib.hid (HF1.out.next hb)
            clear hb x0 x1 x2 x3 x4 x5
            go_wp2_with fail
            refine (put2 HF2.out.t k d s u a b HXK.out (.inl HU.out)).mono ?_
            rintro e w3 ⟨rfl, h1, h2⟩
            have HF3 := Lib.hid (HF2.out.to h1 h2)
            clear h1 h2
            go_wp2_with fail
            go_roundw
            case rel => exact ⟨j + 1, o, by omega, by go_num, rfl, fun q h => by have := HO.out q h; omega, HF3.out⟩
            case measure => simp [intOf]; omega
      · obtain rfl : j = m := by omega
        have bj : ¬ (j : Int) < (j : Int) := by omega
        go_wp2_with fail
        refine (live20_any _).mono ?_
        rintro e w2 ⟨rfl, hb⟩
        have H2 := Lib.hid (H.out.next hb)
        clear hb
        go_wp2_with fail
        go_ret
        exact ⟨rfl, H2.out.b⟩
  · have hd : (60 : Int) < (m : Int) := by omega
    clear hm
    go_enter Try.func6, Try.ntmps6
    go_wp2_with fail
    refine (tnew_is 1 _ (by decide) (by decide)).mono ?_
    rintro e w1 ⟨tb, sb, rfl, h1, h2, h3, h4⟩
    clear h1 h2 h3
    go_wp2_with fail
    refine (live20_any _).mono ?_
    rintro e w2 ⟨rfl, hb⟩
    have HB := Lib.hid (h4.trans (hb.mono h4.size))
    clear hb h4
    go_wp2_with fail
    go_ret
    exact ⟨rfl, HB.out⟩
end Go.Proofs.Ytgmbigdkipkibaa.tone
