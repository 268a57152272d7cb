/- What pseudo's own calls answer: the moves that are gathered. -/
import Derived.Test.YtbfkkedcjodceaaDoorPseudoB
import Derived.Test.YtbfkkedcjodceaaDoorShelf
import Derived.Deep.LoopGhost
namespace Go.Proofs.YtbfkkedcjodceaaDoor
open Go.RowKit Go.Shelf
open M (S)

theorem least_of {p : Nat → Bool} : ∀ n, (∃ i, i < n ∧ p i = true) → ∃ i, i < n ∧ p i = true ∧ ∀ j, j < i → p j = false
  | 0, ⟨i, h, _⟩ => absurd h (Nat.not_lt_zero i)
  | n + 1, ⟨i, h, hp⟩ => by
    by_cases h2 : ∃ i, i < n ∧ p i = true
    · obtain ⟨k, hk, h3⟩ := least_of n h2
      exact ⟨k, by omega, h3⟩
    · refine ⟨i, h, hp, fun j hj => ?_⟩
      cases e : p j
      · rfl
      · exact absurd ⟨j, by omega, e⟩ h2
theorem filter_none {p : Fin 90 → Bool} : ∀ {l : List (Fin 90)}, (∀ k, k < l.length → p l[k]! = false) → l.filter p = []
  | [], _ => rfl
  | x :: l, h => by
    rw [List.filter_cons, show p x = false by simpa using h 0 (by simp)]
    exact filter_none fun k hk => by simpa using h (k + 1) (by simpa using hk)
theorem filter_hit {p : Fin 90 → Bool} {l : List (Fin 90)} {i : Nat} (hi : i < l.length) (hp : p l[i]! = true) (hne : ∀ k, k < i → p l[k]! = false) : (l.take (i + 1)).filter p = [l[i]!] := by
  rw [List.take_succ_eq_append_getElem hi, List.filter_append, filter_none (p := p) (l := l.take i) fun k hk => ?_]
  · rw [getElem!_pos l i hi] at hp ⊢
    simp [hp]
  · have hk' : k < i := by simp at hk; omega
    have h1 := hne k hk'
    rw [getElem!_pos (l.take i) k hk, List.getElem_take]
    rw [getElem!_pos l k (by omega)] at h1
    exact h1
/-- The squares of a side's pieces; the moves of one piece to squares that fit; those of the first t pieces. -/
def piecesN (s : ByteArray) (side : Int) : List Nat := (List.range 90).filter fun k => ofSide (bAt s k) side
def goQ (s : ByteArray) (q : Nat → Bool) (a : Nat) : List (Nat × Nat) := ((finL fun b => canB s a b).filter fun b => q b.val).map fun b => (a, b.val)
def preQ (s : ByteArray) (side : Int) (q : Nat → Bool) (t : Nat) : List (Nat × Nat) := ((piecesN s side).take t).flatMap (goQ s q)
theorem preQ_succ {s : ByteArray} {side : Int} {q : Nat → Bool} {t : Nat} (h : t < (piecesN s side).length) : preQ s side q (t + 1) = preQ s side q t ++ goQ s q (piecesN s side)[t] := by
  unfold preQ
  rw [List.take_succ_eq_append_getElem h, List.flatMap_append]
  simp
/-- Those of a piece to the first j of what it reaches. -/
def midQ (s : ByteArray) (q : Nat → Bool) (a j : Nat) : List (Nat × Nat) := (((finL fun b => canB s a b).take j).filter fun b => q b.val).map fun b => (a, b.val)
theorem midQ_len (s : ByteArray) (q : Nat → Bool) (a j : Nat) : (midQ s q a j).length ≤ 90 := by
  unfold midQ
  rw [List.length_map]
  refine Nat.le_trans (List.length_filter_le _ _) ?_
  rw [List.length_take, finL_len]
  have := trues_le (fun b => canB s a b) 90
  omega
theorem midQ_all {s : ByteArray} {q : Nat → Bool} {a j : Nat} (h : ∀ k, k < ((finL fun b => canB s a b).drop j).length → q (((finL fun b => canB s a b).drop j)[k]!).val = false) : midQ s q a j = goQ s q a := by
  have h1 : (finL fun b => canB s a b).filter (fun b => q b.val) = ((finL fun b => canB s a b).take j).filter fun b => q b.val := by
    conv => lhs; rw [← List.take_append_drop j (finL fun b => canB s a b)]
    rw [List.filter_append, filter_none (p := fun b => q b.val) h, List.append_nil]
  unfold midQ goQ
  rw [h1]
theorem midQ_hit {s : ByteArray} {q : Nat → Bool} {a j i : Nat} {R Z : List (Fin 90)} (hR : (finL fun b => canB s a b) = R) (hZ : R.drop j = Z) (hi : i < Z.length) (hp : q (Z[i]!).val = true) (hne : ∀ k, k < i → q (Z[k]!).val = false) : midQ s q a (j + (i + 1)) = midQ s q a j ++ [(a, (Z[i]!).val)] := by
  unfold midQ
  rw [hR, List.take_add, hZ, List.filter_append, filter_hit (p := fun b => q b.val) hi hp hne, List.map_append]
  rfl
theorem preQ_len (s : ByteArray) (side : Int) (q : Nat → Bool) : ∀ t, (preQ s side q t).length ≤ t * 90
  | 0 => by simp [preQ]
  | t + 1 => by
    have h1 := preQ_len s side q t
    by_cases h : t < (piecesN s side).length
    · rw [preQ_succ h, List.length_append]
      have h2 : (goQ s q (piecesN s side)[t]).length ≤ 90 := by
        unfold goQ
        rw [List.length_map]
        refine Nat.le_trans (List.length_filter_le _ _) ?_
        rw [finL_len]
        exact trues_le _ _
      omega
    · have : preQ s side q (t + 1) = preQ s side q t := by unfold preQ; rw [List.take_of_length_le (by omega), List.take_of_length_le (by omega)]
      rw [this]
      omega
theorem piecesN_len (s : ByteArray) (side : Int) : (piecesN s side).length ≤ 90 := by
  unfold piecesN
  exact Nat.le_trans (List.length_filter_le _ _) (by simp)
theorem piecesN_list {s : ByteArray} {side : Int} (h : isB s = true) : piecesL s side = (piecesN s side).map fun k : Nat => (k : Int) := by unfold piecesL; rw [if_pos h]; rfl
theorem piecesN_lt {s : ByteArray} {side : Int} {t : Nat} (h : t < (piecesN s side).length) : (piecesN s side)[t] < 90 := List.mem_range.1 (List.mem_filter.1 (List.getElem_mem h)).1
theorem rd_plain {w : World} {A : Option Addr} {Z : List (Fin 90)} (h : Rd w A (Z.map fqv)) (h0 : 0 < Z.length) : ∃ b o, A = some ⟨b, o, none⟩ ∧ ∀ k, k < Z.length → w.cell? ⟨b, o + k, none⟩ = some (fqv Z[k]!) := by
  have hat : ∀ k (hk : k < Z.length), (Z.map fqv)[k]? = some (fqv Z[k]!) := fun k hk => by
    rw [List.getElem?_map, List.getElem?_eq_getElem hk, getElem!_pos Z k hk]
    rfl
  obtain ⟨⟨b, o, sp⟩, rfl, hc⟩ := h _ _ (hat 0 h0)
  have hsp : sp = none := by simpa [Addr.add] using World.cell?_spot hc
  subst hsp
  have hadd : ∀ j, (Addr.add ⟨b, o, none⟩ j) = ⟨b, o + j, none⟩ := fun j => by
    simp only [Addr.add]
    split <;> simp_all
  refine ⟨b, o, rfl, fun k hk => ?_⟩
  obtain ⟨a', e, hk2⟩ := h _ _ (hat k hk)
  cases e
  rwa [hadd] at hk2
theorem rd_cut {w : World} {b o : Nat} {Z : List (Fin 90)} (h : Rd w (some ⟨b, o, none⟩) (Z.map fqv)) (d : Nat) : Rd w (some ⟨b, o + d, none⟩) ((Z.drop d).map fqv) := fun j u hu => by
  refine ⟨_, rfl, ?_⟩
  rw [List.map_drop, List.getElem?_drop] at hu
  obtain ⟨a', e, hc⟩ := h _ _ hu
  cases e
  have hadd : ∀ b o j, (Addr.add ⟨b, o, none⟩ j) = ⟨b, o + j, none⟩ := fun b o j => by
    simp only [Addr.add]
    split <;> simp_all
  rw [hadd] at hc ⊢
  rwa [Nat.add_assoc]
theorem rd_grown {w w' : World} {A : Option Addr} {xs : List Value} {o : Obj} {row : Option Nat} (h : Rd w A xs) (hg : (w.alloc o).grownBy w' row) (hne : ∀ ad, A = some ad → some ad.block ≠ row) : Rd w' A xs := fun j u hu => by
  obtain ⟨ad, hA, hc⟩ := h j u hu
  refine ⟨ad, hA, ?_⟩
  have h1 := ((Below.refl w.heap.size w).alloc (Nat.le_refl _) o).cell (p := ad.add j) (cell_lt hc)
  refine hg.cell (h1.trans hc) ?_
  have : (ad.add j).block = ad.block := by
    simp only [Addr.add]
    split <;> rfl
  rw [this]
  exact hne ad hA
theorem index_any (q : Nat → Bool) (g : Nat) (lb : Array Value) (eg : ∀ args w, (callFunc g args).run Tryd.prog w = .ok (.enter g args) w) (A : Option Addr) (m c : Nat) (Z : List (Fin 90)) (r : Int) (W : World) (hp : PredAt Tryd.prog g lb fqv (fun i : Fin 90 => q i.val) W) (hr : Rd W A (Z.map fqv)) (hm : Z.length = m) (hm90 : m ≤ 90) (hi : Lib.idxBy (fun _ (y : Fin 90) => q y.val) Z default = r) :
    Calls Tryd.prog 83 #[.slice A m c, .func (.func g) #[] lb] W fun e w' => e = .returned (.int .i64 r) ∧ Below W.heap.size W w' := by
  subst hi
  by_cases h0 : m = 0
  · subst h0
    have hz : Z = [] := List.eq_nil_of_length_eq_zero hm
    subst hz
    refine (Tryd.slices_IndexFunc_empty (α := Fin 90) A c _ W).mono ?_
    rintro e w1 ⟨rfl, rfl⟩
    exact ⟨rfl, Below.refl _ _⟩
  · obtain ⟨b, o, rfl, hc⟩ := rd_plain hr (by omega)
    have h := Tryd.slices_IndexFunc fqv (fun i : Fin 90 => q i.val) g lb eg b o m c Z W hp (by omega) (by omega) hc
    rw [List.take_of_length_le (by omega)] at h
    refine h.mono ?_
    rintro e w1 ⟨rfl, nq, rfl⟩
    exact ⟨rfl, below_drewN (Below.refl _ _) nq⟩
theorem idx_hit {q : Nat → Bool} {Z : List (Fin 90)} {i : Nat} (hi : i < Z.length) (hp : q (Z[i]!).val = true) (hne : ∀ k, k < i → q (Z[k]!).val = false) : Lib.idxBy (fun _ (y : Fin 90) => q y.val) Z default = (i : Int) := by
  have := Lib.idxBy_hit (fun _ (y : Fin 90) => q y.val) Z Z.length i default hi (Nat.le_refl _) hp hne
  rwa [List.take_of_length_le (Nat.le_refl _)] at this
theorem idx_miss {q : Nat → Bool} {Z : List (Fin 90)} (h : ∀ k, k < Z.length → q (Z[k]!).val = false) : Lib.idxBy (fun _ (y : Fin 90) => q y.val) Z default = -1 := by
  have := Lib.idxBy_miss (fun _ (y : Fin 90) => q y.val) Z Z.length default h
  rwa [List.take_of_length_le (Nat.le_refl _)] at this
set_option maxRecDepth 100000 in
set_option maxHeartbeats 4000000 in
theorem gathered_yes (s : ByteArray) (side clock full : Int) (q : Nat → Bool) (g : Nat) (lb : Array Value) (eg : ∀ args w, (callFunc g args).run Tryd.prog w = .ok (.enter g args) w) (w : World) (hT : Tab w) (hp : PredAt Tryd.prog g lb fqv (fun i : Fin 90 => q i.val) w) (hc : checkN s side clock full = 0) (n : Nat) (hn : (piecesN s side).length = n) :
    Calls Tryd.prog 50 #[.agg #[.string s, .int .i64 side, .int .i64 clock, .int .i64 full], .func (.func g) #[] lb] w (OwnM w (preQ s side q n) (preQ s side q n).length) := by
  obtain ⟨W0, hW0⟩ : ∃ W0, w.alloc (.cells #[.string s, .int .i64 side, .int .i64 clock, .int .i64 full] 23) = W0 := ⟨_, rfl⟩
  have hB : Below w.heap.size w W0 := by rw [← hW0]; exact (by repeat (first | exact Below.refl _ _ | (refine Below.setCell ?_ (by first | omega | (simp; done) | (simp; omega) | (simp at *; omega)) _) | (refine Below.alloc ?_ (by first | omega | (simp; done) | (simp; omega) | (simp at *; omega)) _) | refine Below.drew ?_ | (refine below_drewN ?_ _) | (refine Below.trans ?_ (Below.mono (by assumption) (by first | omega | (simp; done) | (simp; omega) | (simp at *; omega))))))
  have bA : Blk W0 w.heap.size 23 #[.string s, .int .i64 side, .int .i64 clock, .int .i64 full] := by rw [← hW0]; exact Blk.new _ _ _ rfl
  have HW := Lib.hid hW0
  clear hW0
  have hs := check_size hc
  have hboard : isB s = true := parts_board (check_zero (s := s) (side := side) (clock := clock) (full := full) (by rw [hc]; rfl)).1
  have HP := Lib.hid (piecesN_list (side := side) hboard)
  have hpl : (piecesL s side).length = n := by rw [piecesN_list hboard, List.length_map, hn]
  have hn90 : n ≤ 90 := by rw [← hn]; exact piecesN_len s side
  have HI := Lib.hid hboard
  have HN := Lib.hid hn
  have HC : Hid ((checkN s side clock full : Int) = 0) := by show _ = _; rw [hc]; rfl
  obtain ⟨i0, hi, hy0, hy1, hy2⟩ := info_parts info_move
  have hT0 := hT.next hB
  clear hc hboard hn
  go_enter Tryd.func50, Tryd.ntmps50
  go_wp2_with fail
  go_step3
  go_wp2_with fail
  rw [HW.out]
  refine (check_is s side clock full 0 _ HC.out).mono ?_
  rintro e w1 ⟨rfl, hb1⟩
  have bA1 := bA.next hb1
  have hT1 := hT0.next hb1
  have hB1 := hB.trans (hb1.mono hB.size)
  have a0 := bA1.cell 0
  have a1 := bA1.cell 1
  simp only [List.getElem?_toArray, List.getElem?_cons_zero, List.getElem?_cons_succ] at a0 a1
  clear bA hb1 hB HW HC hT0
  go_wp2_with fail
  go_step3
  go_wp2_with fail
  refine (pieces_is s side n _ hT1 hpl).mono ?_
  rintro e w2 ⟨A2, c2, rfl, hr2, hb2⟩
  rw [HP.out] at hr2
  have bA2 := bA1.next hb2
  have hT2 := hT1.next hb2
  have hB2 := hB1.trans (hb2.mono hB1.size)
  have hp2 := hp.later hB2
  clear bA1 hT1 hb2 a0 a1 hB1 hpl hp
  go_wp2_with fail
  go_loopg [5, 19] n (fun gk s5 s19 wx => ∃ t : Nat, t + gk = n ∧ s19 = .int .i64 t ∧ wx.ownsRow w2.heap.size 30 2 s5 (preQ s side q t).length (mvs (preQ s side q t)) ∧ Below w2.heap.size w2 wx)
  case atStart => exact ⟨0, by omega, rfl, by simpa [preQ, mvs] using World.ownsRow_nil w2 w2.heap.size 30 2, Below.refl _ _⟩
  case round =>
    obtain ⟨t, htg, rfl, hown, hB⟩ := hrel
    cases gk with
    | zero =>
      obtain rfl : t = n := by omega
      obtain ⟨A', c', rfl⟩ := owns_slice hown
      have hlt : decide ((t : Int) < (t : Int)) = false := by simp
      go_wp2_with fail
      rw [Exit.noGoto_ret]
      go_ret
      exact ⟨_, rfl, own_mono hown hB2.size, hB2.trans (hB.mono hB2.size)⟩
    | succ gko =>
      obtain ⟨Av, cv, rfl⟩ := owns_slice hown
      have htn : t < n := by omega
      have htl : t < (piecesN s side).length := by rw [HN.out]; exact htn
      obtain ⟨a, ha⟩ : ∃ a, (piecesN s side)[t] = a := ⟨_, rfl⟩
      have ha90 : a < 90 := by rw [← ha]; exact piecesN_lt htl
      obtain ⟨ad, rfl, hca⟩ := (hr2.next hB) t (iv (a : Int)) (by simp [htl, ha])
      have bA := bA2.next hB
      have HQ := Lib.hid (preQ_succ (q := q) htl)
      rw [ha] at HQ
      obtain ⟨R, hR⟩ : ∃ R, (finL fun b => canB s a b) = R := ⟨_, rfl⟩
      have HR := Lib.hid hR
      have hal2 : (trues (fun b => canB s a b) 90).map iv = R.map fqv := by rw [← finL_vals, hR]
      have hln : (trues (fun b => canB s a b) 90).length = R.length := by rw [← finL_len, hR]
      have HA := Lib.hid hal2
      have HL := Lib.hid hln
      have hR90 : R.length ≤ 90 := by rw [← hR, finL_len]; exact trues_le _ _
      have ht0 : (0 : Int) ≤ (t : Int) := by omega
      have htn2 : (t : Int) < (n : Int) := by omega
      have p0 := bA.cell 0
      simp only [List.getElem?_toArray, List.getElem?_cons_zero] at p0
      have hlt : decide ((t : Int) < (n : Int)) = true := by simp; omega
      clear hR hal2 hln ha htl
      go_wp2_with fail
      refine (all_new s a _ HI.out ha90).mono ?_
      rintro e w3 ⟨A3, c3, rfl, hr3, hb3, hnew, hcp3⟩
      rw [HA.out] at hr3
      rw [HL.out] at hcp3 ⊢
      have hne3 : ∀ k ad, (Value.slice Av (preQ s side q t).length cv).ownBlock = some k → A3 = some ad → ad.block ≠ k := fun k ad hk had => by
        have h1 := (hown.lt k hk).2
        have h2 := hnew ad had
        omega
      replace hown := own_next hown hb3
      replace hB := hB.trans (hb3.mono hB.size)
      clear hb3 hca p0 bA hnew
      go_wp2_with fail
      go_loopg [5, 8] R.length (fun g2 s5 s8 wy => ∃ (j : Nat) (A' : Option Addr) (c' : Nat), j + g2 = R.length ∧ s8 = .slice A' g2 c' ∧ g2 ≤ c' ∧ Rd wy A' ((R.drop j).map fqv) ∧ wy.ownsRow w2.heap.size 30 2 s5 (preQ s side q t ++ midQ s q a j).length (mvs (preQ s side q t ++ midQ s q a j)) ∧ Below w2.heap.size w2 wy ∧ ∀ k ad, s5.ownBlock = some k → A' = some ad → ad.block ≠ k)
      case atStart => exact ⟨0, A3, c3, by omega, rfl, hcp3, hr3, by simpa [midQ] using hown, hB, hne3⟩
      case round =>
        clear hr3 hown hB hne3
        obtain ⟨j, A', c', hjg, rfl, hgc, hrz, hown, hB, hne⟩ := hrel
        obtain ⟨Z, hZ⟩ : ∃ Z, R.drop j = Z := ⟨_, rfl⟩
        have hZl : Z.length = gk := by rw [← hZ, List.length_drop]; omega
        rw [hZ] at hrz
        have HZ := Lib.hid hZ
        have hbs := hB.size
        have hle1 := preQ_len s side q t
        have hle2 := midQ_len s q a j
        have hle : (preQ s side q t ++ midQ s q a j).length ≤ 8190 := by
          rw [List.length_append]
          have : t * 90 ≤ 90 * 90 := Nat.mul_le_mul_right 90 (by omega)
          omega
        by_cases hany : ∃ i, i < gk ∧ q (Z[i]!).val = true
        · obtain ⟨i, hi0, hq1, hq2⟩ := least_of gk hany
          have hidx := idx_hit (q := q) (Z := Z) (i := i) (by omega) hq1 hq2
          have HM := Lib.hid (midQ_hit (q := q) (s := s) (a := a) HR.out hZ (by omega : i < Z.length) hq1 hq2)
          obtain ⟨b0, o0, rfl, hcz⟩ := rd_plain hrz (by omega)
          have hci := hcz i (by omega)
          obtain ⟨x, hx⟩ : ∃ x, (Z[i]!).val = x := ⟨_, rfl⟩
          have hci2 : wr.cell? ⟨b0, o0 + i, none⟩ = some (iv (x : Int)) := by rw [hci, ← hx]
          rw [hx] at HM
          have e0 : decide ((i : Int) < 0) = false := by simp
          clear hany hq1 hq2 hci hx hcz hZ
          go_wp2_with fail
          refine (index_any q g lb eg _ gk c' Z (i : Int) _ (hp2.later hB) hrz hZl (by omega) hidx).mono ?_
          rintro e w4 ⟨rfl, hb4⟩
          have hc4 := (hb4.cell (p := ⟨b0, o0 + i, none⟩) (cell_lt hci2)).trans hci2
          replace hown := own_next hown hb4
          replace hrz := hrz.next hb4
          replace hB := hB.trans (hb4.mono hB.size)
          have hlt0 := cell_lt hc4
          replace hbs := hB.size
          clear hb4 hci2
          go_wp2_with (at_builtin; refine wpList_append_own_at _ rfl _ _ 26 rfl w2.heap.size 30 i0 (.agg #[.int .i64 0, .int .i64 0]) 2 16 Tryd.underlying26 hi hy0 hy1 hy2 rfl (by decide) _ _ _ rfl (hown.alloc _) ⟨w4.heap.size, 0, none⟩ 1 1 [iv a, iv x] rfl rfl (cells_two_new _ _ _ _) (by simp [Value.oneCell']) (by unfold maxLen; omega) (by omega) (by simp; omega) ?_; intro v' w5 hown' hgrow _ hblk)
          all_goals
            go_roundg (gk - (i + 1))
            case measure => omega
            case rel =>
              have hM2 : preQ s side q t ++ midQ s q a (j + (i + 1)) = (preQ s side q t ++ midQ s q a j) ++ [(a, x)] := by rw [HM.out, List.append_assoc]
              have hZ2 : R.drop (j + (i + 1)) = Z.drop (i + 1) := by rw [← HZ.out, List.drop_drop]
              refine ⟨j + (i + 1), _, _, by omega, rfl, by omega, ?_, by rw [hM2, mvs_app, List.length_append]; exact hown', below_app hB hbs hown hgrow, ?_⟩
              · rw [hZ2]
                first
                  | exact rd_grown (rd_cut hrz (i + 1)) hgrow (fun ad had he => by cases had; exact hne _ _ he.symm rfl rfl)
                  | (rw [List.drop_eq_nil_of_le (by omega)]; exact fun j u hu => by simp at hu)
              · intro k ad hk had
                rcases hblk with e | e
                · cases had
                  exact hne k ⟨b0, o0, none⟩ (e.symm.trans hk) rfl
                · rw [e] at hk
                  cases hk
                  cases had
                  simp
                  omega
        · have hmiss : ∀ k, k < Z.length → q (Z[k]!).val = false := fun k hk => by
            cases e : q (Z[k]!).val
            · rfl
            · exact absurd ⟨k, by omega, e⟩ hany
          have hidx := idx_miss hmiss
          have HM : Hid (preQ s side q t ++ midQ s q a j = preQ s side q (t + 1)) := by
            show _ = _
            rw [HQ.out, midQ_all (by rw [HR.out, hZ]; exact hmiss)]
          clear hany hmiss hZ
          go_wp2_with fail
          refine (index_any q g lb eg _ gk c' Z (-1) _ (hp2.later hB) hrz hZl (by omega) hidx).mono ?_
          rintro e w4 ⟨rfl, hb4⟩
          replace hown := own_next hown hb4
          replace hB := hB.trans (hb4.mono hB.size)
          clear hb4
          go_wp2_with fail
          go_roundg gko
          case measure => omega
          case rel => exact ⟨t + 1, by omega, by go_num, by rw [← HM.out]; exact hown, hB⟩
theorem gathered_no (s : ByteArray) (side clock full e0 : Int) (fv : Value) (w : World) (hc : (checkN s side clock full : Int) = e0) (h0 : (e0 != 0) = true) :
    Calls Tryd.prog 50 #[.agg #[.string s, .int .i64 side, .int .i64 clock, .int .i64 full], fv] w (OwnM w [] 0) := by
  obtain ⟨W0, hW0⟩ : ∃ W0, w.alloc (.cells #[.string s, .int .i64 side, .int .i64 clock, .int .i64 full] 23) = W0 := ⟨_, rfl⟩
  have hB : Below w.heap.size w W0 := by rw [← hW0]; exact (by repeat (first | exact Below.refl _ _ | (refine Below.setCell ?_ (by first | omega | (simp; done) | (simp; omega) | (simp at *; omega)) _) | (refine Below.alloc ?_ (by first | omega | (simp; done) | (simp; omega) | (simp at *; omega)) _) | refine Below.drew ?_ | (refine below_drewN ?_ _) | (refine Below.trans ?_ (Below.mono (by assumption) (by first | omega | (simp; done) | (simp; omega) | (simp at *; omega))))))
  have HW := Lib.hid hW0
  have HC := Lib.hid hc
  clear hW0 hc
  go_enter Tryd.func50, Tryd.ntmps50
  go_wp2_with fail
  go_step3
  go_wp2_with fail
  rw [HW.out]
  refine (check_is s side clock full e0 _ HC.out).mono ?_
  rintro e w1 ⟨rfl, hb1⟩
  go_wp2_with fail
  rw [Exit.noGoto_ret]
  go_ret
  exact ⟨_, rfl, by simpa [mvs] using World.ownsRow_nil _ w.heap.size 30 2, hB.trans (hb1.mono hB.size)⟩
end Go.Proofs.YtbfkkedcjodceaaDoor
