/- Merged: PseudoC PseudoD PseudoE PseudoF PseudoG PseudoH PseudoI. -/
import Derived.Test.YtbdgbihdhbjljaaGreatDoorPseudoB
import Derived.Test.YtbdgbihdhbjljaaGreatDoorShelf
import Derived.Deep.LoopGhost

namespace Go.Proofs.YtbdgbihdhbjljaaGreatDoor
open Go.RowKit Go.Shelf
open M (S)

theorem least_of {p : Nat → Bool} : ∀ n, (∃ i, i < n ∧ p i = true) → ∃ i, i < n ∧ p i = true ∧ ∀ j, j < i → p j = false
  | 0, ⟨i, h, _⟩ => absurd h (Nat.not_lt_zero i)
  | n + 1, ⟨i, h, hp⟩ => by
    by_cases h2 : ∃ i, i < n ∧ p i = true
    · obtain ⟨k, hk, h3⟩ := least_of n h2
      exact ⟨k, by omega, h3⟩
    · refine ⟨i, h, hp, fun j hj => ?_⟩
      cases e : p j
      · rfl
      · exact absurd ⟨j, by omega, e⟩ h2
theorem filter_none {p : Fin 90 → Bool} : ∀ {l : List (Fin 90)}, (∀ k, k < l.length → p l[k]! = false) → l.filter p = []
  | [], _ => rfl
  | x :: l, h => by
    rw [List.filter_cons, show p x = false by simpa using h 0 (by simp)]
    exact filter_none fun k hk => by simpa using h (k + 1) (by simpa using hk)
theorem filter_hit {p : Fin 90 → Bool} {l : List (Fin 90)} {i : Nat} (hi : i < l.length) (hp : p l[i]! = true) (hne : ∀ k, k < i → p l[k]! = false) : (l.take (i + 1)).filter p = [l[i]!] := by
  rw [List.take_succ_eq_append_getElem hi, List.filter_append, filter_none (p := p) (l := l.take i) fun k hk => ?_]
  · rw [getElem!_pos l i hi] at hp ⊢
    simp [hp]
  · have hk' : k < i := by simp at hk; omega
    have h1 := hne k hk'
    rw [getElem!_pos (l.take i) k hk, List.getElem_take]
    rw [getElem!_pos l k (by omega)] at h1
    exact h1
/-- The squares of a side's pieces; the moves of one piece to squares that fit; those of the first t pieces. -/
def piecesN (s : ByteArray) (side : Int) : List Nat := (List.range 90).filter fun k => ofSide (bAt s k) side
def goQ (s : ByteArray) (q : Nat → Bool) (a : Nat) : List (Nat × Nat) := ((finL fun b => canB s a b).filter fun b => q b.val).map fun b => (a, b.val)
def preQ (s : ByteArray) (side : Int) (q : Nat → Bool) (t : Nat) : List (Nat × Nat) := ((piecesN s side).take t).flatMap (goQ s q)
theorem preQ_succ {s : ByteArray} {side : Int} {q : Nat → Bool} {t : Nat} (h : t < (piecesN s side).length) : preQ s side q (t + 1) = preQ s side q t ++ goQ s q (piecesN s side)[t] := by
  unfold preQ
  rw [List.take_succ_eq_append_getElem h, List.flatMap_append]
  simp
/-- Those of a piece to the first j of what it reaches. -/
def midQ (s : ByteArray) (q : Nat → Bool) (a j : Nat) : List (Nat × Nat) := (((finL fun b => canB s a b).take j).filter fun b => q b.val).map fun b => (a, b.val)
theorem midQ_len (s : ByteArray) (q : Nat → Bool) (a j : Nat) : (midQ s q a j).length ≤ 90 := by
  unfold midQ
  rw [List.length_map]
  refine Nat.le_trans (List.length_filter_le _ _) ?_
  rw [List.length_take, finL_len]
  have := trues_le (fun b => canB s a b) 90
  omega
theorem midQ_all {s : ByteArray} {q : Nat → Bool} {a j : Nat} (h : ∀ k, k < ((finL fun b => canB s a b).drop j).length → q (((finL fun b => canB s a b).drop j)[k]!).val = false) : midQ s q a j = goQ s q a := by
  have h1 : (finL fun b => canB s a b).filter (fun b => q b.val) = ((finL fun b => canB s a b).take j).filter fun b => q b.val := by
    conv => lhs; rw [← List.take_append_drop j (finL fun b => canB s a b)]
    rw [List.filter_append, filter_none (p := fun b => q b.val) h, List.append_nil]
  unfold midQ goQ
  rw [h1]
theorem midQ_hit {s : ByteArray} {q : Nat → Bool} {a j i : Nat} {R Z : List (Fin 90)} (hR : (finL fun b => canB s a b) = R) (hZ : R.drop j = Z) (hi : i < Z.length) (hp : q (Z[i]!).val = true) (hne : ∀ k, k < i → q (Z[k]!).val = false) : midQ s q a (j + (i + 1)) = midQ s q a j ++ [(a, (Z[i]!).val)] := by
  unfold midQ
  rw [hR, List.take_add, hZ, List.filter_append, filter_hit (p := fun b => q b.val) hi hp hne, List.map_append]
  rfl
theorem preQ_len (s : ByteArray) (side : Int) (q : Nat → Bool) : ∀ t, (preQ s side q t).length ≤ t * 90
  | 0 => by simp [preQ]
  | t + 1 => by
    have h1 := preQ_len s side q t
    by_cases h : t < (piecesN s side).length
    · rw [preQ_succ h, List.length_append]
      have h2 : (goQ s q (piecesN s side)[t]).length ≤ 90 := by
        unfold goQ
        rw [List.length_map]
        refine Nat.le_trans (List.length_filter_le _ _) ?_
        rw [finL_len]
        exact trues_le _ _
      omega
    · have : preQ s side q (t + 1) = preQ s side q t := by unfold preQ; rw [List.take_of_length_le (by omega), List.take_of_length_le (by omega)]
      rw [this]
      omega
theorem piecesN_len (s : ByteArray) (side : Int) : (piecesN s side).length ≤ 90 := by
  unfold piecesN
  exact Nat.le_trans (List.length_filter_le _ _) (by simp)
theorem piecesN_list {s : ByteArray} {side : Int} (h : isB s = true) : piecesL s side = (piecesN s side).map fun k : Nat => (k : Int) := by unfold piecesL; rw [if_pos h]; rfl
theorem piecesN_lt {s : ByteArray} {side : Int} {t : Nat} (h : t < (piecesN s side).length) : (piecesN s side)[t] < 90 := List.mem_range.1 (List.mem_filter.1 (List.getElem_mem h)).1
theorem rd_plain {w : World} {A : Option Addr} {Z : List (Fin 90)} (h : Rd w A (Z.map fqv)) (h0 : 0 < Z.length) : ∃ b o, A = some ⟨b, o, none⟩ ∧ ∀ k, k < Z.length → w.cell? ⟨b, o + k, none⟩ = some (fqv Z[k]!) := by
  have hat : ∀ k (hk : k < Z.length), (Z.map fqv)[k]? = some (fqv Z[k]!) := fun k hk => by
    rw [List.getElem?_map, List.getElem?_eq_getElem hk, getElem!_pos Z k hk]
    rfl
  obtain ⟨⟨b, o, sp⟩, rfl, hc⟩ := h _ _ (hat 0 h0)
  have hsp : sp = none := by simpa [Addr.add] using World.cell?_spot hc
  subst hsp
  have hadd : ∀ j, (Addr.add ⟨b, o, none⟩ j) = ⟨b, o + j, none⟩ := fun j => by
    simp only [Addr.add]
    split <;> simp_all
  refine ⟨b, o, rfl, fun k hk => ?_⟩
  obtain ⟨a', e, hk2⟩ := h _ _ (hat k hk)
  cases e
  rwa [hadd] at hk2
theorem rd_cut {w : World} {b o : Nat} {Z : List (Fin 90)} (h : Rd w (some ⟨b, o, none⟩) (Z.map fqv)) (d : Nat) : Rd w (some ⟨b, o + d, none⟩) ((Z.drop d).map fqv) := fun j u hu => by
  refine ⟨_, rfl, ?_⟩
  rw [List.map_drop, List.getElem?_drop] at hu
  obtain ⟨a', e, hc⟩ := h _ _ hu
  cases e
  have hadd : ∀ b o j, (Addr.add ⟨b, o, none⟩ j) = ⟨b, o + j, none⟩ := fun b o j => by
    simp only [Addr.add]
    split <;> simp_all
  rw [hadd] at hc ⊢
  rwa [Nat.add_assoc]
theorem rd_grown {w w' : World} {A : Option Addr} {xs : List Value} {o : Obj} {row : Option Nat} (h : Rd w A xs) (hg : (w.alloc o).grownBy w' row) (hne : ∀ ad, A = some ad → some ad.block ≠ row) : Rd w' A xs := fun j u hu => by
  obtain ⟨ad, hA, hc⟩ := h j u hu
  refine ⟨ad, hA, ?_⟩
  have h1 := ((Below.refl w.heap.size w).alloc (Nat.le_refl _) o).cell (p := ad.add j) (cell_lt hc)
  refine hg.cell (h1.trans hc) ?_
  have : (ad.add j).block = ad.block := by
    simp only [Addr.add]
    split <;> rfl
  rw [this]
  exact hne ad hA
theorem index_any (q : Nat → Bool) (g : Nat) (lb : Array Value) (eg : ∀ args w, (callFunc g args).run Tryz.prog w = .ok (.enter g args) w) (A : Option Addr) (m c : Nat) (Z : List (Fin 90)) (r : Int) (W : World) (hp : PredAt Tryz.prog g lb fqv (fun i : Fin 90 => q i.val) W) (hr : Rd W A (Z.map fqv)) (hm : Z.length = m) (hm90 : m ≤ 90) (hi : Lib.idxBy (fun _ (y : Fin 90) => q y.val) Z default = r) :
    Calls Tryz.prog 193 #[.slice A m c, .func (.func g) #[] lb] W fun e w' => e = .returned (.int .i64 r) ∧ Below W.heap.size W w' := by
  subst hi
  by_cases h0 : m = 0
  · subst h0
    have hz : Z = [] := List.eq_nil_of_length_eq_zero hm
    subst hz
    refine (Tryz.slices_IndexFunc_empty (α := Fin 90) A c _ W).mono ?_
    rintro e w1 ⟨rfl, rfl⟩
    exact ⟨rfl, Below.refl _ _⟩
  · obtain ⟨b, o, rfl, hc⟩ := rd_plain hr (by omega)
    have h := Tryz.slices_IndexFunc fqv (fun i : Fin 90 => q i.val) g lb eg b o m c Z W hp (by omega) (by omega) hc
    rw [List.take_of_length_le (by omega)] at h
    refine h.mono ?_
    rintro e w1 ⟨rfl, nq, rfl⟩
    exact ⟨rfl, below_drewN (Below.refl _ _) nq⟩
theorem idx_hit {q : Nat → Bool} {Z : List (Fin 90)} {i : Nat} (hi : i < Z.length) (hp : q (Z[i]!).val = true) (hne : ∀ k, k < i → q (Z[k]!).val = false) : Lib.idxBy (fun _ (y : Fin 90) => q y.val) Z default = (i : Int) := by
  have := Lib.idxBy_hit (fun _ (y : Fin 90) => q y.val) Z Z.length i default hi (Nat.le_refl _) hp hne
  rwa [List.take_of_length_le (Nat.le_refl _)] at this
theorem idx_miss {q : Nat → Bool} {Z : List (Fin 90)} (h : ∀ k, k < Z.length → q (Z[k]!).val = false) : Lib.idxBy (fun _ (y : Fin 90) => q y.val) Z default = -1 := by
  have := Lib.idxBy_miss (fun _ (y : Fin 90) => q y.val) Z Z.length default h
  rwa [List.take_of_length_le (Nat.le_refl _)] at this
set_option maxRecDepth 100000 in
set_option maxHeartbeats 4000000 in
theorem gathered_yes (s : ByteArray) (side clock full : Int) (q : Nat → Bool) (g : Nat) (lb : Array Value) (eg : ∀ args w, (callFunc g args).run Tryz.prog w = .ok (.enter g args) w) (w : World) (hT : Tab w) (hp : PredAt Tryz.prog g lb fqv (fun i : Fin 90 => q i.val) w) (hc : checkN s side clock full = 0) (n : Nat) (hn : (piecesN s side).length = n) :
    Calls Tryz.prog 181 #[.agg #[.string s, .int .i64 side, .int .i64 clock, .int .i64 full], .func (.func g) #[] lb] w (OwnM w (preQ s side q n) (preQ s side q n).length) := by
  obtain ⟨W0, hW0⟩ : ∃ W0, w.alloc (.cells #[.string s, .int .i64 side, .int .i64 clock, .int .i64 full] 23) = W0 := ⟨_, rfl⟩
  have hB : Below w.heap.size w W0 := by rw [← hW0]; exact (by repeat (first | exact Below.refl _ _ | (refine Below.setCell ?_ (by first | omega | (simp; done) | (simp; omega) | (simp at *; omega)) _) | (refine Below.alloc ?_ (by first | omega | (simp; done) | (simp; omega) | (simp at *; omega)) _) | refine Below.drew ?_ | (refine below_drewN ?_ _) | (refine Below.trans ?_ (Below.mono (by assumption) (by first | omega | (simp; done) | (simp; omega) | (simp at *; omega))))))
  have bA : Blk W0 w.heap.size 23 #[.string s, .int .i64 side, .int .i64 clock, .int .i64 full] := by rw [← hW0]; exact Blk.new _ _ _ rfl
  have HW := Lib.hid hW0
  clear hW0
  have hs := check_size hc
  have hboard : isB s = true := parts_board (check_zero (s := s) (side := side) (clock := clock) (full := full) (by rw [hc]; rfl)).1
  have HP := Lib.hid (piecesN_list (side := side) hboard)
  have hpl : (piecesL s side).length = n := by rw [piecesN_list hboard, List.length_map, hn]
  have hn90 : n ≤ 90 := by rw [← hn]; exact piecesN_len s side
  have HI := Lib.hid hboard
  have HN := Lib.hid hn
  have HC : Hid ((checkN s side clock full : Int) = 0) := by show _ = _; rw [hc]; rfl
  obtain ⟨i0, hi, hy0, hy1, hy2⟩ := info_parts info_move
  have hT0 := hT.next hB
  clear hc hboard hn
  go_enter Tryz.func181, Tryz.ntmps181
  go_wp2_with fail
  go_step3
  go_wp2_with fail
  rw [HW.out]
  refine (check_is s side clock full 0 _ HC.out).mono ?_
  rintro e w1 ⟨rfl, hb1⟩
  have bA1 := bA.next hb1
  have hT1 := hT0.next hb1
  have hB1 := hB.trans (hb1.mono hB.size)
  have a0 := bA1.cell 0
  have a1 := bA1.cell 1
  simp only [List.getElem?_toArray, List.getElem?_cons_zero, List.getElem?_cons_succ] at a0 a1
  clear bA hb1 hB HW HC hT0
  go_wp2_with fail
  go_step3
  go_wp2_with fail
  refine (pieces_is s side n _ hT1 hpl).mono ?_
  rintro e w2 ⟨A2, c2, rfl, hr2, hb2⟩
  rw [HP.out] at hr2
  have bA2 := bA1.next hb2
  have hT2 := hT1.next hb2
  have hB2 := hB1.trans (hb2.mono hB1.size)
  have hp2 := hp.later hB2
  clear bA1 hT1 hb2 a0 a1 hB1 hpl hp
  go_wp2_with fail
  go_loopg [5, 19] n (fun gk s5 s19 wx => ∃ t : Nat, t + gk = n ∧ s19 = .int .i64 t ∧ wx.ownsRow w2.heap.size 48 2 s5 (preQ s side q t).length (mvs (preQ s side q t)) ∧ Below w2.heap.size w2 wx)
  case atStart => exact ⟨0, by omega, rfl, by simpa [preQ, mvs] using World.ownsRow_nil w2 w2.heap.size 48 2, Below.refl _ _⟩
  case round =>
    obtain ⟨t, htg, rfl, hown, hB⟩ := hrel
    cases gk with
    | zero =>
      obtain rfl : t = n := by omega
      obtain ⟨A', c', rfl⟩ := owns_slice hown
      have hlt : decide ((t : Int) < (t : Int)) = false := by simp
      go_wp2_with fail
      rw [Exit.noGoto_ret]
      go_ret
      exact ⟨_, rfl, own_mono hown hB2.size, hB2.trans (hB.mono hB2.size)⟩
    | succ gko =>
      obtain ⟨Av, cv, rfl⟩ := owns_slice hown
      have htn : t < n := by omega
      have htl : t < (piecesN s side).length := by rw [HN.out]; exact htn
      obtain ⟨a, ha⟩ : ∃ a, (piecesN s side)[t] = a := ⟨_, rfl⟩
      have ha90 : a < 90 := by rw [← ha]; exact piecesN_lt htl
      obtain ⟨ad, rfl, hca⟩ := (hr2.next hB) t (iv (a : Int)) (by simp [htl, ha])
      have bA := bA2.next hB
      have HQ := Lib.hid (preQ_succ (q := q) htl)
      rw [ha] at HQ
      obtain ⟨R, hR⟩ : ∃ R, (finL fun b => canB s a b) = R := ⟨_, rfl⟩
      have HR := Lib.hid hR
      have hal2 : (trues (fun b => canB s a b) 90).map iv = R.map fqv := by rw [← finL_vals, hR]
      have hln : (trues (fun b => canB s a b) 90).length = R.length := by rw [← finL_len, hR]
      have HA := Lib.hid hal2
      have HL := Lib.hid hln
      have hR90 : R.length ≤ 90 := by rw [← hR, finL_len]; exact trues_le _ _
      have ht0 : (0 : Int) ≤ (t : Int) := by omega
      have htn2 : (t : Int) < (n : Int) := by omega
      have p0 := bA.cell 0
      simp only [List.getElem?_toArray, List.getElem?_cons_zero] at p0
      have hlt : decide ((t : Int) < (n : Int)) = true := by simp; omega
      clear hR hal2 hln ha htl
      go_wp2_with fail
      refine (all_new s a _ HI.out ha90).mono ?_
      rintro e w3 ⟨A3, c3, rfl, hr3, hb3, hnew, hcp3⟩
      rw [HA.out] at hr3
      rw [HL.out] at hcp3 ⊢
      have hne3 : ∀ k ad, (Value.slice Av (preQ s side q t).length cv).ownBlock = some k → A3 = some ad → ad.block ≠ k := fun k ad hk had => by
        have h1 := (hown.lt k hk).2
        have h2 := hnew ad had
        omega
      replace hown := own_next hown hb3
      replace hB := hB.trans (hb3.mono hB.size)
      clear hb3 hca p0 bA hnew
      go_wp2_with fail
      go_loopg [5, 8] R.length (fun g2 s5 s8 wy => ∃ (j : Nat) (A' : Option Addr) (c' : Nat), j + g2 = R.length ∧ s8 = .slice A' g2 c' ∧ g2 ≤ c' ∧ Rd wy A' ((R.drop j).map fqv) ∧ wy.ownsRow w2.heap.size 48 2 s5 (preQ s side q t ++ midQ s q a j).length (mvs (preQ s side q t ++ midQ s q a j)) ∧ Below w2.heap.size w2 wy ∧ ∀ k ad, s5.ownBlock = some k → A' = some ad → ad.block ≠ k)
      case atStart => exact ⟨0, A3, c3, by omega, rfl, hcp3, hr3, by simpa [midQ] using hown, hB, hne3⟩
      case round =>
        clear hr3 hown hB hne3
        obtain ⟨j, A', c', hjg, rfl, hgc, hrz, hown, hB, hne⟩ := hrel
        obtain ⟨Z, hZ⟩ : ∃ Z, R.drop j = Z := ⟨_, rfl⟩
        have hZl : Z.length = gk := by rw [← hZ, List.length_drop]; omega
        rw [hZ] at hrz
        have HZ := Lib.hid hZ
        have hbs := hB.size
        have hle1 := preQ_len s side q t
        have hle2 := midQ_len s q a j
        have hle : (preQ s side q t ++ midQ s q a j).length ≤ 8190 := by
          rw [List.length_append]
          have : t * 90 ≤ 90 * 90 := Nat.mul_le_mul_right 90 (by omega)
          omega
        by_cases hany : ∃ i, i < gk ∧ q (Z[i]!).val = true
        · obtain ⟨i, hi0, hq1, hq2⟩ := least_of gk hany
          have hidx := idx_hit (q := q) (Z := Z) (i := i) (by omega) hq1 hq2
          have HM := Lib.hid (midQ_hit (q := q) (s := s) (a := a) HR.out hZ (by omega : i < Z.length) hq1 hq2)
          obtain ⟨b0, o0, rfl, hcz⟩ := rd_plain hrz (by omega)
          have hci := hcz i (by omega)
          obtain ⟨x, hx⟩ : ∃ x, (Z[i]!).val = x := ⟨_, rfl⟩
          have hci2 : wr.cell? ⟨b0, o0 + i, none⟩ = some (iv (x : Int)) := by rw [hci, ← hx]
          rw [hx] at HM
          have e0 : decide ((i : Int) < 0) = false := by simp
          clear hany hq1 hq2 hci hx hcz hZ
          go_wp2_with fail
          refine (index_any q g lb eg _ gk c' Z (i : Int) _ (hp2.later hB) hrz hZl (by omega) hidx).mono ?_
          rintro e w4 ⟨rfl, hb4⟩
          have hc4 := (hb4.cell (p := ⟨b0, o0 + i, none⟩) (cell_lt hci2)).trans hci2
          replace hown := own_next hown hb4
          replace hrz := hrz.next hb4
          replace hB := hB.trans (hb4.mono hB.size)
          have hlt0 := cell_lt hc4
          replace hbs := hB.size
          clear hb4 hci2
          go_wp2_with (at_builtin; refine wpList_append_own_at _ rfl _ _ 24 rfl w2.heap.size 48 i0 (.agg #[.int .i64 0, .int .i64 0]) 2 16 Tryz.underlying24 hi hy0 hy1 hy2 rfl (by decide) _ _ _ rfl (hown.alloc _) ⟨w4.heap.size, 0, none⟩ 1 1 [iv a, iv x] rfl rfl (cells_two_new _ _ _ _) (by simp [Value.oneCell']) (by unfold maxLen; omega) (by omega) (by simp; omega) ?_; intro v' w5 hown' hgrow _ hblk)
          all_goals
            go_roundg (gk - (i + 1))
            case measure => omega
            case rel =>
              have hM2 : preQ s side q t ++ midQ s q a (j + (i + 1)) = (preQ s side q t ++ midQ s q a j) ++ [(a, x)] := by rw [HM.out, List.append_assoc]
              have hZ2 : R.drop (j + (i + 1)) = Z.drop (i + 1) := by rw [← HZ.out, List.drop_drop]
              refine ⟨j + (i + 1), _, _, by omega, rfl, by omega, ?_, by rw [hM2, mvs_app, List.length_append]; exact hown', below_app hB hbs hown hgrow, ?_⟩
              · rw [hZ2]
                first
                  | exact rd_grown (rd_cut hrz (i + 1)) hgrow (fun ad had he => by cases had; exact hne _ _ he.symm rfl rfl)
                  | (rw [List.drop_eq_nil_of_le (by omega)]; exact fun j u hu => by simp at hu)
              · intro k ad hk had
                rcases hblk with e | e
                · cases had
                  exact hne k ⟨b0, o0, none⟩ (e.symm.trans hk) rfl
                · rw [e] at hk
                  cases hk
                  cases had
                  simp
                  omega
        · have hmiss : ∀ k, k < Z.length → q (Z[k]!).val = false := fun k hk => by
            cases e : q (Z[k]!).val
            · rfl
            · exact absurd ⟨k, by omega, e⟩ hany
          have hidx := idx_miss hmiss
          have HM : Hid (preQ s side q t ++ midQ s q a j = preQ s side q (t + 1)) := by
            show _ = _
            rw [HQ.out, midQ_all (by rw [HR.out, hZ]; exact hmiss)]
          clear hany hmiss hZ
          go_wp2_with fail
          refine (index_any q g lb eg _ gk c' Z (-1) _ (hp2.later hB) hrz hZl (by omega) hidx).mono ?_
          rintro e w4 ⟨rfl, hb4⟩
          replace hown := own_next hown hb4
          replace hB := hB.trans (hb4.mono hB.size)
          clear hb4
          go_wp2_with fail
          go_roundg gko
          case measure => omega
          case rel => exact ⟨t + 1, by omega, by go_num, by rw [← HM.out]; exact hown, hB⟩
theorem gathered_no (s : ByteArray) (side clock full e0 : Int) (fv : Value) (w : World) (hc : (checkN s side clock full : Int) = e0) (h0 : (e0 != 0) = true) :
    Calls Tryz.prog 181 #[.agg #[.string s, .int .i64 side, .int .i64 clock, .int .i64 full], fv] w (OwnM w [] 0) := by
  obtain ⟨W0, hW0⟩ : ∃ W0, w.alloc (.cells #[.string s, .int .i64 side, .int .i64 clock, .int .i64 full] 23) = W0 := ⟨_, rfl⟩
  have hB : Below w.heap.size w W0 := by rw [← hW0]; exact (by repeat (first | exact Below.refl _ _ | (refine Below.setCell ?_ (by first | omega | (simp; done) | (simp; omega) | (simp at *; omega)) _) | (refine Below.alloc ?_ (by first | omega | (simp; done) | (simp; omega) | (simp at *; omega)) _) | refine Below.drew ?_ | (refine below_drewN ?_ _) | (refine Below.trans ?_ (Below.mono (by assumption) (by first | omega | (simp; done) | (simp; omega) | (simp at *; omega))))))
  have HW := Lib.hid hW0
  have HC := Lib.hid hc
  clear hW0 hc
  go_enter Tryz.func181, Tryz.ntmps181
  go_wp2_with fail
  go_step3
  go_wp2_with fail
  rw [HW.out]
  refine (check_is s side clock full e0 _ HC.out).mono ?_
  rintro e w1 ⟨rfl, hb1⟩
  go_wp2_with fail
  rw [Exit.noGoto_ret]
  go_ret
  exact ⟨_, rfl, by simpa [mvs] using World.ownsRow_nil _ w.heap.size 48 2, hB.trans (hb1.mono hB.size)⟩
end Go.Proofs.YtbdgbihdhbjljaaGreatDoor

namespace Go.Proofs.YtbdgbihdhbjljaaGreatDoor
open Go.RowKit Go.Shelf
open M (S)

theorem goQ_moves {s : ByteArray} {side : Int} {q : Nat → Bool} {a : Nat} (h : sideN (bAt s a) = side) : goQ s q a = (movesOf s side a).filter fun m => q m.2 := by
  have h1 : (finL fun b => canB s a b).map Fin.val = reachN s a := by
    unfold finL reachN
    rw [← (show (List.finRange 90).map Fin.val = List.range 90 by decide +kernel), List.filter_map]
    rfl
  unfold goQ movesOf
  rw [if_pos h, ← h1, List.filter_map, List.filter_map, List.map_map]
  rfl
theorem flat_filter {f : Nat → List (Nat × Nat)} {p : Nat → Bool} {r : Nat × Nat → Bool} {g : Nat → List (Nat × Nat)} (h1 : ∀ a, p a = true → g a = (f a).filter r) (h2 : ∀ a, p a = false → f a = []) : ∀ l : List Nat, (l.filter p).flatMap g = (l.flatMap f).filter r
  | [] => rfl
  | a :: l => by
    rw [List.flatMap_cons, List.filter_append, List.filter_cons, ← flat_filter h1 h2 l]
    cases e : p a
    · rw [if_neg (by simp), h2 a e]
      rfl
    · rw [if_pos rfl, List.flatMap_cons, h1 a e]
theorem of_side6 {c : Nat} {side : Int} (h : 0 ≤ side) : ofSide c side = (sideN c == side) := by
  unfold ofSide
  by_cases e : c = 46
  · subst e
    rw [show sideN 46 = -1 from rfl, show ((-1 : Int) == side) = false by rw [beq_eq_false_iff_ne]; omega]
    rfl
  · rw [show (c != 46) = true by rw [bne_iff_ne]; exact e, Bool.true_and]
theorem preQ_all {s : ByteArray} {side : Int} {q : Nat → Bool} (h0 : 0 ≤ side) : preQ s side q (piecesN s side).length = (movesN s side).filter fun m => q m.2 := by
  unfold preQ
  rw [List.take_of_length_le (Nat.le_refl _)]
  unfold piecesN movesN
  refine flat_filter (fun a ha => ?_) (fun a ha => ?_) _
  · rw [of_side6 h0, beq_iff_eq] at ha
    exact goQ_moves ha
  · rw [of_side6 h0, beq_eq_false_iff_ne] at ha
    exact movesOf_no ha
/-- What Captures answers. -/
def capsV (s : ByteArray) (side clock full : Int) : List (Nat × Nat) := (movesV s side clock full).filter fun m => bAt s m.2 != 46
theorem check_side {s : ByteArray} {side clock full : Int} (h : checkN s side clock full = 0) : side = 0 ∨ side = 1 := by
  have hp := (check_zero (s := s) (side := side) (clock := clock) (full := full) (by rw [h]; rfl)).1
  simp only [partsB, Bool.and_eq_true, Bool.or_eq_true, beq_iff_eq, decide_eq_true_eq] at hp
  exact hp.1.1.1.1.2
theorem true1_any (W : World) (x : Fin 90) : FnGives Tryz.prog 182 #[] #[fqv x] (.bool true) W := by
  show Calls Tryz.prog 182 #[.int .i64 (x.val : Int)] W _
  go_enter Tryz.func182, Tryz.ntmps182
  go_wp2
  go_ret
  exact ⟨rfl, 0, rfl⟩
set_option maxHeartbeats 1000000 in
theorem moves_own (s : ByteArray) (side clock full : Int) (l : List (Nat × Nat)) (n : Nat) (w : World) (hT : Tab w) (h : movesV s side clock full = l) (hn : l.length = n) : Calls Tryz.prog 139 #[.agg #[.string s, .int .i64 side, .int .i64 clock, .int .i64 full]] w (OwnM w l n) := by
  have eg : ∀ args w, (callFunc 182 args).run Tryz.prog w = .ok (.enter 182 args) w := enters_of Tryz.func182 (by kernel_rfl) rfl
  have G : Hid (∀ W, Below w.heap.size w W → Calls Tryz.prog 181 #[.agg #[.string s, .int .i64 side, .int .i64 clock, .int .i64 full], .func (.func 182) #[] #[]] W (OwnM W l n)) := by
    show ∀ W, _
    intro W hb
    by_cases hc : checkN s side clock full = 0
    · have hs := check_side hc
      have hl : preQ s side (fun _ => true) (piecesN s side).length = l := by
        rw [preQ_all (by omega), ← h, movesV, if_pos hc]
        exact List.filter_eq_self.2 fun _ _ => rfl
      have := gathered_yes s side clock full (fun _ => true) 182 #[] eg W (hT.next hb) (fun W' x _ => true1_any W' x) hc _ rfl
      rw [hl, hn] at this
      exact this
    · have hl : l = [] := by rw [← h, movesV, if_neg hc]
      subst hl
      have hn0 : n = 0 := by rw [← hn]; rfl
      subst hn0
      exact gathered_no s side clock full _ _ W rfl (by rw [bne_iff_ne]; omega)
  clear h hn hT eg
  go_enter Tryz.func139, Tryz.ntmps139
  go_wp2_with fail
  refine (G.out _ (by repeat (first | exact Below.refl _ _ | (refine Below.setCell ?_ (by first | omega | (simp; done) | (simp; omega) | (simp at *; omega)) _) | (refine Below.alloc ?_ (by first | omega | (simp; done) | (simp; omega) | (simp at *; omega)) _) | refine Below.drew ?_ | (refine below_drewN ?_ _) | (refine Below.trans ?_ (Below.mono (by assumption) (by first | omega | (simp; done) | (simp; omega) | (simp at *; omega))))))).mono ?_
  rintro e w1 ⟨v, rfl, ho, hb⟩
  go_wp2
  go_ret
  exact ⟨v, rfl, own_mono ho (by simp), below_made hb⟩
theorem moves_is (s : ByteArray) (side clock full : Int) (l : List (Nat × Nat)) (n : Nat) (w : World) (hT : Tab w) (h : movesV s side clock full = l) (hn : l.length = n) : Calls Tryz.prog 139 #[.agg #[.string s, .int .i64 side, .int .i64 clock, .int .i64 full]] w (GivesM w l n) := (moves_own s side clock full l n w hT h hn).mono fun _ _ h => h.gives
theorem caps1_any (s : ByteArray) (k g : Nat) (W : World) (hk : k < s.size) (c0 : W.cell? ⟨g, 0, none⟩ = some (.string s)) :
    Calls Tryz.prog 214 #[.int .i64 (k : Int), .pointer (some ⟨g, 0, none⟩)] W fun e w' => e = .returned (.bool (bAt s k != 46)) ∧ ∃ q, w' = W.drewN q := by
  obtain ⟨c, hc⟩ : ∃ c, bAt s k = c := ⟨_, rfl⟩
  have hbk : s[k].toNat = c := (bAt_eq s k hk).trans hc
  have K : Hid ((bAt s k != 46) = ((c : Int) != 46)) := by
    show _ = _
    rw [hc, Bool.eq_iff_iff, bne_iff_ne, bne_iff_ne]
    omega
  clear hc
  go_enter Tryz.func214, Tryz.ntmps214
  go_wp2_with fail
  first
    | (go_quiet (fail); go_wp2; go_ret; exact ⟨by rw [K.out]; rfl, nq, rfl⟩)
    | (go_wp2; go_ret; exact ⟨by rw [K.out]; rfl, 0, rfl⟩)
set_option maxHeartbeats 1000000 in
theorem caps_own (s : ByteArray) (side clock full : Int) (l : List (Nat × Nat)) (n : Nat) (w : World) (hT : Tab w) (h : capsV s side clock full = l) (hn : l.length = n) : Calls Tryz.prog 188 #[.agg #[.string s, .int .i64 side, .int .i64 clock, .int .i64 full]] w (OwnM w l n) := by
  have eg : ∀ args w, (callFunc 214 args).run Tryz.prog w = .ok (.enter 214 args) w := enters_of Tryz.func214 (by kernel_rfl) rfl
  have G : Hid (Calls Tryz.prog 181 #[.agg #[.string s, .int .i64 side, .int .i64 clock, .int .i64 full], .func (.func 214) #[] #[.pointer (some ⟨w.heap.size, 0, none⟩)]] (w.alloc (.cells #[.string s, .int .i64 side, .int .i64 clock, .int .i64 full] 23)) (OwnM (w.alloc (.cells #[.string s, .int .i64 side, .int .i64 clock, .int .i64 full] 23)) l n)) := by
    obtain ⟨W0, hW0⟩ : ∃ W0, w.alloc (.cells #[.string s, .int .i64 side, .int .i64 clock, .int .i64 full] 23) = W0 := ⟨_, rfl⟩
    have hB : Below w.heap.size w W0 := by rw [← hW0]; exact (by repeat (first | exact Below.refl _ _ | (refine Below.setCell ?_ (by first | omega | (simp; done) | (simp; omega) | (simp at *; omega)) _) | (refine Below.alloc ?_ (by first | omega | (simp; done) | (simp; omega) | (simp at *; omega)) _) | refine Below.drew ?_ | (refine below_drewN ?_ _) | (refine Below.trans ?_ (Below.mono (by assumption) (by first | omega | (simp; done) | (simp; omega) | (simp at *; omega))))))
    have bA : Blk W0 w.heap.size 23 #[.string s, .int .i64 side, .int .i64 clock, .int .i64 full] := by rw [← hW0]; exact Blk.new _ _ _ rfl
    show Calls _ _ _ _ _
    rw [hW0]
    clear hW0
    by_cases hc : checkN s side clock full = 0
    · have hs := check_side hc
      have hz := check_size hc
      have hl : preQ s side (fun k => bAt s k != 46) (piecesN s side).length = l := by
        rw [preQ_all (by omega), ← h, capsV, movesV, if_pos hc]
      have := gathered_yes s side clock full (fun k => bAt s k != 46) 214 #[.pointer (some ⟨w.heap.size, 0, none⟩)] eg W0 (hT.next hB) (fun W' x hb => caps1_any s x.val w.heap.size W' (by omega) ((bA.next hb).cell 0)) hc _ rfl
      rw [hl, hn] at this
      exact this
    · have hl : l = [] := by rw [← h, capsV, movesV, if_neg hc]; rfl
      subst hl
      have hn0 : n = 0 := by rw [← hn]; rfl
      subst hn0
      exact gathered_no s side clock full _ _ W0 rfl (by rw [bne_iff_ne]; omega)
  clear h hn hT eg
  go_enter Tryz.func188, Tryz.ntmps188
  go_wp2_with fail
  refine G.out.mono ?_
  rintro e w1 ⟨v, rfl, ho, hb⟩
  go_wp2
  go_ret
  exact ⟨v, rfl, own_mono ho (by simp), below_made hb⟩
theorem caps_is (s : ByteArray) (side clock full : Int) (l : List (Nat × Nat)) (n : Nat) (w : World) (hT : Tab w) (h : capsV s side clock full = l) (hn : l.length = n) : Calls Tryz.prog 188 #[.agg #[.string s, .int .i64 side, .int .i64 clock, .int .i64 full]] w (GivesM w l n) := (caps_own s side clock full l n w hT h hn).mono fun _ _ h => h.gives
end Go.Proofs.YtbdgbihdhbjljaaGreatDoor

namespace Go.Proofs.YtbdgbihdhbjljaaGreatDoor
open Go.RowKit Go.Shelf
open M (S)

/-- Is a move one of those of a side? -/
def isM (s : ByteArray) (side a b : Int) : Bool := canI s a b && (sideN (bAt s a.toNat) == side)
theorem pm_keep {w : World} {p0 p1 q0 q1 : Value} {g h : Nat} {W W' : World} (hS : W.cell? ⟨g, 0, none⟩ = some p0 ∧ W.cell? ⟨g, 1, none⟩ = some p1 ∧ W.cell? ⟨h, 0, none⟩ = some q0 ∧ W.cell? ⟨h, 1, none⟩ = some q1 ∧ Below w.heap.size w W) (hb : Below W.heap.size W W') :
    W'.cell? ⟨g, 0, none⟩ = some p0 ∧ W'.cell? ⟨g, 1, none⟩ = some p1 ∧ W'.cell? ⟨h, 0, none⟩ = some q0 ∧ W'.cell? ⟨h, 1, none⟩ = some q1 ∧ Below w.heap.size w W' := by
  obtain ⟨h0, h1, h2, h3, h4⟩ := hS
  exact ⟨(hb.cell (p := ⟨g, 0, none⟩) (cell_lt h0)).trans h0, (hb.cell (p := ⟨g, 1, none⟩) (cell_lt h1)).trans h1, (hb.cell (p := ⟨h, 0, none⟩) (cell_lt h2)).trans h2, (hb.cell (p := ⟨h, 1, none⟩) (cell_lt h3)).trans h3, h4.trans (hb.mono h4.size)⟩
theorem sideb6_is (c : Nat) (k : Int) (w : World) (h : sideN c = k) : Calls Tryz.prog 175 #[.int .u8 (c : Int)] w (Gives w (.int .i64 k)) := (side_is c k w h).mono fun _ _ ⟨a, b⟩ => ⟨a, b ▸ Below.refl _ _⟩
set_option maxRecDepth 100000 in
set_option maxHeartbeats 4000000 in
theorem isMove_is (s : ByteArray) (side clock full a b : Int) (v : Bool) (w : World) (h : isM s side a b = v) :
    Calls Tryz.prog 129 #[.agg #[.string s, .int .i64 side, .int .i64 clock, .int .i64 full], .agg #[.int .i64 a, .int .i64 b]] w (Gives w (.bool v)) := by
  unfold Gives
  obtain ⟨W0, hW0⟩ : ∃ W0, (w.alloc (.cells #[.string s, .int .i64 side, .int .i64 clock, .int .i64 full] 23)).alloc (.cells #[.int .i64 a, .int .i64 b] 48) = W0 := ⟨_, rfl⟩
  have hB : Below w.heap.size w W0 := by rw [← hW0]; exact (by repeat (first | exact Below.refl _ _ | (refine Below.setCell ?_ (by first | omega | (simp; done) | (simp; omega) | (simp at *; omega)) _) | (refine Below.alloc ?_ (by first | omega | (simp; done) | (simp; omega) | (simp at *; omega)) _) | refine Below.drew ?_ | (refine below_drewN ?_ _) | (refine Below.trans ?_ (Below.mono (by assumption) (by first | omega | (simp; done) | (simp; omega) | (simp at *; omega))))))
  have bP : Blk W0 w.heap.size 23 #[.string s, .int .i64 side, .int .i64 clock, .int .i64 full] := by rw [← hW0]; exact (Blk.new _ _ _ rfl).alloc _
  have bM : Blk W0 (w.heap.size + 1) 48 #[.int .i64 a, .int .i64 b] := by rw [← hW0]; exact Blk.new _ _ _ (by simp)
  have hS : W0.drew.cell? ⟨w.heap.size, 0, none⟩ = some (.string s) ∧ W0.drew.cell? ⟨w.heap.size, 1, none⟩ = some (.int .i64 side) ∧ W0.drew.cell? ⟨w.heap.size + 1, 0, none⟩ = some (.int .i64 a) ∧ W0.drew.cell? ⟨w.heap.size + 1, 1, none⟩ = some (.int .i64 b) ∧ Below w.heap.size w W0.drew := ⟨bP.cell 0, bP.cell 1, bM.cell 0, bM.cell 1, hB.drew⟩
  have HW := Lib.hid hW0
  clear hW0 bP bM hB
  cases hc : canI s a b
  · have hv : v = false := by rw [← h, isM, hc]; rfl
    subst hv
    have C := Lib.hid hc
    clear h hc
    go_enter Tryz.func129, Tryz.ntmps129
    go_wp2_with fail
    rw [HW.out]
    refine wp_region_held_drew (S := fun W => W.cell? ⟨w.heap.size, 0, none⟩ = some (.string s) ∧ W.cell? ⟨w.heap.size, 1, none⟩ = some (.int .i64 side) ∧ W.cell? ⟨w.heap.size + 1, 0, none⟩ = some (.int .i64 a) ∧ W.cell? ⟨w.heap.size + 1, 1, none⟩ = some (.int .i64 b) ∧ Below w.heap.size w W) (by kernel_rfl) (hS) (fun hHeld => ?_)
    refine wpAnyH_take (i := 0) (oi := { dst := some 5, op := Op.fieldAddr 23 (Operand.tmp 2) 0, type := 0, pos := "pseudo.go:62", after := #[], guard := none }) (v := ?_) rfl (by kernel_rfl) (by kernel_rfl) (by kernel_rfl) (fun _ _ _ h => h) (Or.inl ⟨by rfl, ?_⟩) (by assumption) ?_
    case refine_2 =>
      intro w hSw
      (try dsimp only at hSw)
      (try go_simp)
      all_goals (with_reducible rfl)
    try simp only [Act.put, List.setIfInBounds_toArray, List.set_cons_zero, List.set_cons_succ]
    refine wpAnyH_take (i := 1) (oi := { dst := some 6, op := Op.load 9 (Operand.tmp 5), type := 9, pos := "pseudo.go:62", after := #[{ on := 0, ground := Ground.data }], guard := none }) (v := ?_) rfl (by kernel_rfl) (by kernel_rfl) (by kernel_rfl) (fun _ _ _ h => h) (Or.inl ⟨by rfl, ?_⟩) (by assumption) ?_
    case refine_2 =>
      intro w hSw
      (try dsimp only at hSw)
      (try go_simp)
      all_goals (with_reducible rfl)
    try simp only [Act.put, List.setIfInBounds_toArray, List.set_cons_zero, List.set_cons_succ]
    refine wpAnyH_take (i := 2) (oi := { dst := some 7, op := Op.fieldAddr 48 (Operand.tmp 3) 0, type := 0, pos := "pseudo.go:62", after := #[], guard := none }) (v := ?_) rfl (by kernel_rfl) (by kernel_rfl) (by kernel_rfl) (fun _ _ _ h => h) (Or.inl ⟨by rfl, ?_⟩) (by assumption) ?_
    case refine_2 =>
      intro w hSw
      (try dsimp only at hSw)
      (try go_simp)
      all_goals (with_reducible rfl)
    try simp only [Act.put, List.setIfInBounds_toArray, List.set_cons_zero, List.set_cons_succ]
    refine wpAnyH_take (i := 3) (oi := { dst := some 8, op := Op.load 3 (Operand.tmp 7), type := 3, pos := "pseudo.go:62", after := #[{ on := 2, ground := Ground.data }], guard := none }) (v := ?_) rfl (by kernel_rfl) (by kernel_rfl) (by kernel_rfl) (fun _ _ _ h => h) (Or.inl ⟨by rfl, ?_⟩) (by assumption) ?_
    case refine_2 =>
      intro w hSw
      (try dsimp only at hSw)
      (try go_simp)
      all_goals (with_reducible rfl)
    try simp only [Act.put, List.setIfInBounds_toArray, List.set_cons_zero, List.set_cons_succ]
    refine wpAnyH_take (i := 4) (oi := { dst := some 9, op := Op.fieldAddr 48 (Operand.tmp 3) 1, type := 0, pos := "pseudo.go:62", after := #[], guard := none }) (v := ?_) rfl (by kernel_rfl) (by kernel_rfl) (by kernel_rfl) (fun _ _ _ h => h) (Or.inl ⟨by rfl, ?_⟩) (by assumption) ?_
    case refine_2 =>
      intro w hSw
      (try dsimp only at hSw)
      (try go_simp)
      all_goals (with_reducible rfl)
    try simp only [Act.put, List.setIfInBounds_toArray, List.set_cons_zero, List.set_cons_succ]
    refine wpAnyH_take (i := 5) (oi := { dst := some 10, op := Op.load 3 (Operand.tmp 9), type := 3, pos := "pseudo.go:62", after := #[{ on := 4, ground := Ground.data }], guard := none }) (v := ?_) rfl (by kernel_rfl) (by kernel_rfl) (by kernel_rfl) (fun _ _ _ h => h) (Or.inl ⟨by rfl, ?_⟩) (by assumption) ?_
    case refine_2 =>
      intro w hSw
      (try dsimp only at hSw)
      (try go_simp)
      all_goals (with_reducible rfl)
    try simp only [Act.put, List.setIfInBounds_toArray, List.set_cons_zero, List.set_cons_succ]
    refine wpAnyH_ready (rs := [6]) (by kernel_rfl) (by simp) (AllReadyH.cons (o := { dst := some 11, op := Op.call { callee := Callee.value (Operand.func 174), args := #[Operand.tmp 6, Operand.tmp 8, Operand.tmp 10], argTypes := #[9, 3, 3] }, type := 4, pos := "pseudo.go:62", after := #[{ on := 1, ground := Ground.data }, { on := 3, ground := Ground.data }, { on := 5, ground := Ground.data }], guard := none }) rfl (fun K hK => ?_) AllReadyH.nil)
    go_simp
    refine (can_is5 s a b _ _ C.out).mono ?_; rintro e w2 ⟨rfl, hb⟩
    refine hK.out _ _ ?_ (fun hHeld => ?_)
    · exact pm_keep hHeld hb
    clear hK K
    refine wpAnyH_take (i := 7) (oi := { dst := some 12, op := Op.move (Operand.tmp 11), type := 4, pos := "pseudo.go:62", after := #[{ on := 6, ground := Ground.data }, { on := 6, ground := Ground.chain }], guard := none }) (v := ?_) rfl (by kernel_rfl) (by kernel_rfl) (by kernel_rfl) (fun _ _ _ h => h) (Or.inl ⟨by rfl, ?_⟩) (by assumption) ?_
    case refine_2 =>
      intro w hSw
      (try dsimp only at hSw)
      (try go_simp)
      all_goals (with_reducible rfl)
    try simp only [Act.put, List.setIfInBounds_toArray, List.set_cons_zero, List.set_cons_succ]
    refine wpAnyH_take (i := 8) (oi := { dst := some 13, op := Op.fieldAddr 23 (Operand.tmp 2) 0, type := 0, pos := "pseudo.go:62", after := #[{ on := 7, ground := Ground.guard }], guard := some (7, true) }) (v := undef) rfl (by kernel_rfl) (by kernel_rfl) (by kernel_rfl) (fun _ _ _ h => h) (Or.inr ⟨by rfl, rfl⟩) (by assumption) ?_
    try simp only [Act.put, List.setIfInBounds_toArray, List.set_cons_zero, List.set_cons_succ]
    refine wpAnyH_take (i := 9) (oi := { dst := some 14, op := Op.load 9 (Operand.tmp 13), type := 9, pos := "pseudo.go:62", after := #[{ on := 8, ground := Ground.data }, { on := 7, ground := Ground.guard }], guard := some (7, true) }) (v := undef) rfl (by kernel_rfl) (by kernel_rfl) (by kernel_rfl) (fun _ _ _ h => h) (Or.inr ⟨by rfl, rfl⟩) (by assumption) ?_
    try simp only [Act.put, List.setIfInBounds_toArray, List.set_cons_zero, List.set_cons_succ]
    refine wpAnyH_take (i := 10) (oi := { dst := some 15, op := Op.fieldAddr 48 (Operand.tmp 3) 0, type := 0, pos := "pseudo.go:62", after := #[{ on := 7, ground := Ground.guard }], guard := some (7, true) }) (v := undef) rfl (by kernel_rfl) (by kernel_rfl) (by kernel_rfl) (fun _ _ _ h => h) (Or.inr ⟨by rfl, rfl⟩) (by assumption) ?_
    try simp only [Act.put, List.setIfInBounds_toArray, List.set_cons_zero, List.set_cons_succ]
    refine wpAnyH_take (i := 11) (oi := { dst := some 16, op := Op.load 3 (Operand.tmp 15), type := 3, pos := "pseudo.go:62", after := #[{ on := 10, ground := Ground.data }, { on := 7, ground := Ground.guard }], guard := some (7, true) }) (v := undef) rfl (by kernel_rfl) (by kernel_rfl) (by kernel_rfl) (fun _ _ _ h => h) (Or.inr ⟨by rfl, rfl⟩) (by assumption) ?_
    try simp only [Act.put, List.setIfInBounds_toArray, List.set_cons_zero, List.set_cons_succ]
    refine wpAnyH_take (i := 12) (oi := { dst := some 17, op := Op.index 9 (Operand.tmp 14) (Operand.tmp 16), type := 5, pos := "pseudo.go:62", after := #[{ on := 9, ground := Ground.data }, { on := 11, ground := Ground.data }, { on := 7, ground := Ground.guard }], guard := some (7, true) }) (v := undef) rfl (by kernel_rfl) (by kernel_rfl) (by kernel_rfl) (fun _ _ _ h => h) (Or.inr ⟨by rfl, rfl⟩) (by assumption) ?_
    try simp only [Act.put, List.setIfInBounds_toArray, List.set_cons_zero, List.set_cons_succ]
    refine wpAnyH_take (i := 14) (oi := { dst := some 19, op := Op.fieldAddr 23 (Operand.tmp 2) 1, type := 0, pos := "pseudo.go:62", after := #[{ on := 7, ground := Ground.guard }], guard := some (7, true) }) (v := undef) rfl (by kernel_rfl) (by kernel_rfl) (by kernel_rfl) (fun _ _ _ h => h) (Or.inr ⟨by rfl, rfl⟩) (by assumption) ?_
    try simp only [Act.put, List.setIfInBounds_toArray, List.set_cons_zero, List.set_cons_succ]
    refine wpAnyH_take (i := 15) (oi := { dst := some 20, op := Op.load 3 (Operand.tmp 19), type := 3, pos := "pseudo.go:62", after := #[{ on := 14, ground := Ground.data }, { on := 7, ground := Ground.guard }], guard := some (7, true) }) (v := undef) rfl (by kernel_rfl) (by kernel_rfl) (by kernel_rfl) (fun _ _ _ h => h) (Or.inr ⟨by rfl, rfl⟩) (by assumption) ?_
    try simp only [Act.put, List.setIfInBounds_toArray, List.set_cons_zero, List.set_cons_succ]
    refine wpAnyH_ready (rs := [13]) (by kernel_rfl) (by simp) (AllReadyH.cons (o := { dst := some 18, op := Op.call { callee := Callee.value (Operand.func 175), args := #[Operand.tmp 17], argTypes := #[5] }, type := 3, pos := "pseudo.go:62", after := #[{ on := 12, ground := Ground.data }, { on := 7, ground := Ground.chain }, { on := 7, ground := Ground.guard }], guard := some (7, true) }) rfl (fun K hK => ?_) AllReadyH.nil)
    split
    · rename_i hw
      exact Bool.noConfusion (show false = true from hw)
    refine hK.out _ _ ?_ (fun hHeld => ?_)
    · assumption
    clear hK K
    try simp only [Act.put, List.setIfInBounds_toArray, List.set_cons_zero, List.set_cons_succ]
    refine wpAnyH_take (i := 16) (oi := { dst := some 21, op := Op.binOp BinOp.eql 3 (Operand.tmp 18) (Operand.tmp 20) 3, type := 4, pos := "pseudo.go:62", after := #[{ on := 13, ground := Ground.data }, { on := 15, ground := Ground.data }, { on := 7, ground := Ground.guard }], guard := some (7, true) }) (v := undef) rfl (by kernel_rfl) (by kernel_rfl) (by kernel_rfl) (fun _ _ _ h => h) (Or.inr ⟨by rfl, rfl⟩) (by assumption) ?_
    try simp only [Act.put, List.setIfInBounds_toArray, List.set_cons_zero, List.set_cons_succ]
    refine wpAnyH_take (i := 17) (oi := { dst := some 22, op := Op.pick (Operand.tmp 12) (Operand.tmp 21) (Operand.const (Value.bool false)), type := 4, pos := "pseudo.go:62", after := #[{ on := 7, ground := Ground.data }, { on := 16, ground := Ground.data }], guard := none }) (v := ?_) rfl (by kernel_rfl) (by kernel_rfl) (by kernel_rfl) (fun _ _ _ h => h) (Or.inl ⟨by rfl, ?_⟩) (by assumption) ?_
    case refine_2 =>
      intro w hSw
      (try dsimp only at hSw)
      (try go_simp)
      all_goals (with_reducible rfl)
    try simp only [Act.put, List.setIfInBounds_toArray, List.set_cons_zero, List.set_cons_succ]
    refine wpAnyH_take (i := 18) (oi := { dst := some 4, op := Op.assign (Operand.tmp 22), type := 4, pos := "pseudo.go:62", after := #[{ on := 17, ground := Ground.data }, { on := 13, ground := Ground.chain }, { on := 0, ground := Ground.phase }, { on := 1, ground := Ground.phase }, { on := 2, ground := Ground.phase }, { on := 3, ground := Ground.phase }, { on := 4, ground := Ground.phase }, { on := 5, ground := Ground.phase }, { on := 6, ground := Ground.phase }, { on := 7, ground := Ground.phase }, { on := 8, ground := Ground.phase }, { on := 9, ground := Ground.phase }, { on := 10, ground := Ground.phase }, { on := 11, ground := Ground.phase }, { on := 12, ground := Ground.phase }, { on := 13, ground := Ground.phase }, { on := 14, ground := Ground.phase }, { on := 15, ground := Ground.phase }, { on := 16, ground := Ground.phase }, { on := 17, ground := Ground.phase }], guard := none }) (v := ?_) rfl (by kernel_rfl) (by kernel_rfl) (by kernel_rfl) (fun _ _ _ h => h) (Or.inl ⟨by rfl, ?_⟩) (by assumption) ?_
    case refine_2 =>
      intro w hSw
      (try dsimp only at hSw)
      (try go_simp)
      all_goals (with_reducible rfl)
    try simp only [Act.put, List.setIfInBounds_toArray, List.set_cons_zero, List.set_cons_succ]
    refine wpAnyH_done (by kernel_rfl) ?_ _
    go_wp2
    go_ret
    exact ⟨rfl, hHeld.2.2.2.2⟩
  · obtain ⟨hi, ha, hb⟩ : isB s = true ∧ sqI a = true ∧ sqI b = true := by
      unfold canI at hc
      simp only [Bool.and_eq_true] at hc
      exact ⟨hc.1.1.1, hc.1.1.2, hc.1.2⟩
    obtain ⟨a0, a1⟩ := sqI_in ha
    obtain ⟨m, rfl⟩ : ∃ m : Nat, a = m := ⟨a.toNat, by omega⟩
    have hz := isB_size hi
    have hms : m < s.size := by omega
    obtain ⟨c, hcm⟩ : ∃ c, bAt s m = c := ⟨_, rfl⟩
    have hbk : s[m].toNat = c := (bAt_eq s m hms).trans hcm
    obtain ⟨y, hy⟩ : ∃ y, sideN c = y := ⟨_, rfl⟩
    have hv : (y == side) = v := by rw [← h, isM, hc, Int.toNat_natCast, hcm, hy]; rfl
    have C := Lib.hid hc
    have Y := Lib.hid hy
    have K := Lib.hid hv
    clear h hc hi ha hb hcm hy hv hz a0 a1
    go_enter Tryz.func129, Tryz.ntmps129
    go_wp2_with fail
    rw [HW.out]
    refine wp_region_held_drew (S := fun W => W.cell? ⟨w.heap.size, 0, none⟩ = some (.string s) ∧ W.cell? ⟨w.heap.size, 1, none⟩ = some (.int .i64 side) ∧ W.cell? ⟨w.heap.size + 1, 0, none⟩ = some (.int .i64 (m : Int)) ∧ W.cell? ⟨w.heap.size + 1, 1, none⟩ = some (.int .i64 b) ∧ Below w.heap.size w W) (by kernel_rfl) (hS) (fun hHeld => ?_)
    refine wpAnyH_take (i := 0) (oi := { dst := some 5, op := Op.fieldAddr 23 (Operand.tmp 2) 0, type := 0, pos := "pseudo.go:62", after := #[], guard := none }) (v := ?_) rfl (by kernel_rfl) (by kernel_rfl) (by kernel_rfl) (fun _ _ _ h => h) (Or.inl ⟨by rfl, ?_⟩) (by assumption) ?_
    case refine_2 =>
      intro w hSw
      (try dsimp only at hSw)
      (try go_simp)
      all_goals (with_reducible rfl)
    try simp only [Act.put, List.setIfInBounds_toArray, List.set_cons_zero, List.set_cons_succ]
    refine wpAnyH_take (i := 1) (oi := { dst := some 6, op := Op.load 9 (Operand.tmp 5), type := 9, pos := "pseudo.go:62", after := #[{ on := 0, ground := Ground.data }], guard := none }) (v := ?_) rfl (by kernel_rfl) (by kernel_rfl) (by kernel_rfl) (fun _ _ _ h => h) (Or.inl ⟨by rfl, ?_⟩) (by assumption) ?_
    case refine_2 =>
      intro w hSw
      (try dsimp only at hSw)
      (try go_simp)
      all_goals (with_reducible rfl)
    try simp only [Act.put, List.setIfInBounds_toArray, List.set_cons_zero, List.set_cons_succ]
    refine wpAnyH_take (i := 2) (oi := { dst := some 7, op := Op.fieldAddr 48 (Operand.tmp 3) 0, type := 0, pos := "pseudo.go:62", after := #[], guard := none }) (v := ?_) rfl (by kernel_rfl) (by kernel_rfl) (by kernel_rfl) (fun _ _ _ h => h) (Or.inl ⟨by rfl, ?_⟩) (by assumption) ?_
    case refine_2 =>
      intro w hSw
      (try dsimp only at hSw)
      (try go_simp)
      all_goals (with_reducible rfl)
    try simp only [Act.put, List.setIfInBounds_toArray, List.set_cons_zero, List.set_cons_succ]
    refine wpAnyH_take (i := 3) (oi := { dst := some 8, op := Op.load 3 (Operand.tmp 7), type := 3, pos := "pseudo.go:62", after := #[{ on := 2, ground := Ground.data }], guard := none }) (v := ?_) rfl (by kernel_rfl) (by kernel_rfl) (by kernel_rfl) (fun _ _ _ h => h) (Or.inl ⟨by rfl, ?_⟩) (by assumption) ?_
    case refine_2 =>
      intro w hSw
      (try dsimp only at hSw)
      (try go_simp)
      all_goals (with_reducible rfl)
    try simp only [Act.put, List.setIfInBounds_toArray, List.set_cons_zero, List.set_cons_succ]
    refine wpAnyH_take (i := 4) (oi := { dst := some 9, op := Op.fieldAddr 48 (Operand.tmp 3) 1, type := 0, pos := "pseudo.go:62", after := #[], guard := none }) (v := ?_) rfl (by kernel_rfl) (by kernel_rfl) (by kernel_rfl) (fun _ _ _ h => h) (Or.inl ⟨by rfl, ?_⟩) (by assumption) ?_
    case refine_2 =>
      intro w hSw
      (try dsimp only at hSw)
      (try go_simp)
      all_goals (with_reducible rfl)
    try simp only [Act.put, List.setIfInBounds_toArray, List.set_cons_zero, List.set_cons_succ]
    refine wpAnyH_take (i := 5) (oi := { dst := some 10, op := Op.load 3 (Operand.tmp 9), type := 3, pos := "pseudo.go:62", after := #[{ on := 4, ground := Ground.data }], guard := none }) (v := ?_) rfl (by kernel_rfl) (by kernel_rfl) (by kernel_rfl) (fun _ _ _ h => h) (Or.inl ⟨by rfl, ?_⟩) (by assumption) ?_
    case refine_2 =>
      intro w hSw
      (try dsimp only at hSw)
      (try go_simp)
      all_goals (with_reducible rfl)
    try simp only [Act.put, List.setIfInBounds_toArray, List.set_cons_zero, List.set_cons_succ]
    refine wpAnyH_ready (rs := [6]) (by kernel_rfl) (by simp) (AllReadyH.cons (o := { dst := some 11, op := Op.call { callee := Callee.value (Operand.func 174), args := #[Operand.tmp 6, Operand.tmp 8, Operand.tmp 10], argTypes := #[9, 3, 3] }, type := 4, pos := "pseudo.go:62", after := #[{ on := 1, ground := Ground.data }, { on := 3, ground := Ground.data }, { on := 5, ground := Ground.data }], guard := none }) rfl (fun K hK => ?_) AllReadyH.nil)
    go_simp
    refine (can_is5 s _ b _ _ C.out).mono ?_; rintro e w2 ⟨rfl, hb⟩
    refine hK.out _ _ ?_ (fun hHeld => ?_)
    · exact pm_keep hHeld hb
    clear hK K
    refine wpAnyH_take (i := 7) (oi := { dst := some 12, op := Op.move (Operand.tmp 11), type := 4, pos := "pseudo.go:62", after := #[{ on := 6, ground := Ground.data }, { on := 6, ground := Ground.chain }], guard := none }) (v := ?_) rfl (by kernel_rfl) (by kernel_rfl) (by kernel_rfl) (fun _ _ _ h => h) (Or.inl ⟨by rfl, ?_⟩) (by assumption) ?_
    case refine_2 =>
      intro w hSw
      (try dsimp only at hSw)
      (try go_simp)
      all_goals (with_reducible rfl)
    try simp only [Act.put, List.setIfInBounds_toArray, List.set_cons_zero, List.set_cons_succ]
    refine wpAnyH_take (i := 8) (oi := { dst := some 13, op := Op.fieldAddr 23 (Operand.tmp 2) 0, type := 0, pos := "pseudo.go:62", after := #[{ on := 7, ground := Ground.guard }], guard := some (7, true) }) (v := ?_) rfl (by kernel_rfl) (by kernel_rfl) (by kernel_rfl) (fun _ _ _ h => h) (Or.inl ⟨by rfl, ?_⟩) (by assumption) ?_
    case refine_2 =>
      intro w hSw
      (try dsimp only at hSw)
      (try go_simp)
      all_goals (with_reducible rfl)
    try simp only [Act.put, List.setIfInBounds_toArray, List.set_cons_zero, List.set_cons_succ]
    refine wpAnyH_take (i := 9) (oi := { dst := some 14, op := Op.load 9 (Operand.tmp 13), type := 9, pos := "pseudo.go:62", after := #[{ on := 8, ground := Ground.data }, { on := 7, ground := Ground.guard }], guard := some (7, true) }) (v := ?_) rfl (by kernel_rfl) (by kernel_rfl) (by kernel_rfl) (fun _ _ _ h => h) (Or.inl ⟨by rfl, ?_⟩) (by assumption) ?_
    case refine_2 =>
      intro w hSw
      (try dsimp only at hSw)
      (try go_simp)
      all_goals (with_reducible rfl)
    try simp only [Act.put, List.setIfInBounds_toArray, List.set_cons_zero, List.set_cons_succ]
    refine wpAnyH_take (i := 10) (oi := { dst := some 15, op := Op.fieldAddr 48 (Operand.tmp 3) 0, type := 0, pos := "pseudo.go:62", after := #[{ on := 7, ground := Ground.guard }], guard := some (7, true) }) (v := ?_) rfl (by kernel_rfl) (by kernel_rfl) (by kernel_rfl) (fun _ _ _ h => h) (Or.inl ⟨by rfl, ?_⟩) (by assumption) ?_
    case refine_2 =>
      intro w hSw
      (try dsimp only at hSw)
      (try go_simp)
      all_goals (with_reducible rfl)
    try simp only [Act.put, List.setIfInBounds_toArray, List.set_cons_zero, List.set_cons_succ]
    refine wpAnyH_take (i := 11) (oi := { dst := some 16, op := Op.load 3 (Operand.tmp 15), type := 3, pos := "pseudo.go:62", after := #[{ on := 10, ground := Ground.data }, { on := 7, ground := Ground.guard }], guard := some (7, true) }) (v := ?_) rfl (by kernel_rfl) (by kernel_rfl) (by kernel_rfl) (fun _ _ _ h => h) (Or.inl ⟨by rfl, ?_⟩) (by assumption) ?_
    case refine_2 =>
      intro w hSw
      (try dsimp only at hSw)
      (try go_simp)
      all_goals (with_reducible rfl)
    try simp only [Act.put, List.setIfInBounds_toArray, List.set_cons_zero, List.set_cons_succ]
    refine wpAnyH_take (i := 12) (oi := { dst := some 17, op := Op.index 9 (Operand.tmp 14) (Operand.tmp 16), type := 5, pos := "pseudo.go:62", after := #[{ on := 9, ground := Ground.data }, { on := 11, ground := Ground.data }, { on := 7, ground := Ground.guard }], guard := some (7, true) }) (v := ?_) rfl (by kernel_rfl) (by kernel_rfl) (by kernel_rfl) (fun _ _ _ h => h) (Or.inl ⟨by rfl, ?_⟩) (by assumption) ?_
    case refine_2 =>
      intro w hSw
      (try dsimp only at hSw)
      (try go_simp)
      all_goals (with_reducible rfl)
    try simp only [Act.put, List.setIfInBounds_toArray, List.set_cons_zero, List.set_cons_succ]
    refine wpAnyH_take (i := 14) (oi := { dst := some 19, op := Op.fieldAddr 23 (Operand.tmp 2) 1, type := 0, pos := "pseudo.go:62", after := #[{ on := 7, ground := Ground.guard }], guard := some (7, true) }) (v := ?_) rfl (by kernel_rfl) (by kernel_rfl) (by kernel_rfl) (fun _ _ _ h => h) (Or.inl ⟨by rfl, ?_⟩) (by assumption) ?_
    case refine_2 =>
      intro w hSw
      (try dsimp only at hSw)
      (try go_simp)
      all_goals (with_reducible rfl)
    try simp only [Act.put, List.setIfInBounds_toArray, List.set_cons_zero, List.set_cons_succ]
    refine wpAnyH_take (i := 15) (oi := { dst := some 20, op := Op.load 3 (Operand.tmp 19), type := 3, pos := "pseudo.go:62", after := #[{ on := 14, ground := Ground.data }, { on := 7, ground := Ground.guard }], guard := some (7, true) }) (v := ?_) rfl (by kernel_rfl) (by kernel_rfl) (by kernel_rfl) (fun _ _ _ h => h) (Or.inl ⟨by rfl, ?_⟩) (by assumption) ?_
    case refine_2 =>
      intro w hSw
      (try dsimp only at hSw)
      (try go_simp)
      all_goals (with_reducible rfl)
    try simp only [Act.put, List.setIfInBounds_toArray, List.set_cons_zero, List.set_cons_succ]
    refine wpAnyH_ready (rs := [13]) (by kernel_rfl) (by simp) (AllReadyH.cons (o := { dst := some 18, op := Op.call { callee := Callee.value (Operand.func 175), args := #[Operand.tmp 17], argTypes := #[5] }, type := 3, pos := "pseudo.go:62", after := #[{ on := 12, ground := Ground.data }, { on := 7, ground := Ground.chain }, { on := 7, ground := Ground.guard }], guard := some (7, true) }) rfl (fun K hK => ?_) AllReadyH.nil)
    go_simp
    refine (sideb6_is c _ _ Y.out).mono ?_; rintro e w2 ⟨rfl, hb⟩
    refine hK.out _ _ ?_ (fun hHeld => ?_)
    · exact pm_keep hHeld hb
    clear hK K
    refine wpAnyH_take (i := 16) (oi := { dst := some 21, op := Op.binOp BinOp.eql 3 (Operand.tmp 18) (Operand.tmp 20) 3, type := 4, pos := "pseudo.go:62", after := #[{ on := 13, ground := Ground.data }, { on := 15, ground := Ground.data }, { on := 7, ground := Ground.guard }], guard := some (7, true) }) (v := ?_) rfl (by kernel_rfl) (by kernel_rfl) (by kernel_rfl) (fun _ _ _ h => h) (Or.inl ⟨by rfl, ?_⟩) (by assumption) ?_
    case refine_2 =>
      intro w hSw
      (try dsimp only at hSw)
      (try go_simp)
      all_goals (with_reducible rfl)
    try simp only [Act.put, List.setIfInBounds_toArray, List.set_cons_zero, List.set_cons_succ]
    refine wpAnyH_take (i := 17) (oi := { dst := some 22, op := Op.pick (Operand.tmp 12) (Operand.tmp 21) (Operand.const (Value.bool false)), type := 4, pos := "pseudo.go:62", after := #[{ on := 7, ground := Ground.data }, { on := 16, ground := Ground.data }], guard := none }) (v := ?_) rfl (by kernel_rfl) (by kernel_rfl) (by kernel_rfl) (fun _ _ _ h => h) (Or.inl ⟨by rfl, ?_⟩) (by assumption) ?_
    case refine_2 =>
      intro w hSw
      (try dsimp only at hSw)
      (try go_simp)
      all_goals (with_reducible rfl)
    try simp only [Act.put, List.setIfInBounds_toArray, List.set_cons_zero, List.set_cons_succ]
    refine wpAnyH_take (i := 18) (oi := { dst := some 4, op := Op.assign (Operand.tmp 22), type := 4, pos := "pseudo.go:62", after := #[{ on := 17, ground := Ground.data }, { on := 13, ground := Ground.chain }, { on := 0, ground := Ground.phase }, { on := 1, ground := Ground.phase }, { on := 2, ground := Ground.phase }, { on := 3, ground := Ground.phase }, { on := 4, ground := Ground.phase }, { on := 5, ground := Ground.phase }, { on := 6, ground := Ground.phase }, { on := 7, ground := Ground.phase }, { on := 8, ground := Ground.phase }, { on := 9, ground := Ground.phase }, { on := 10, ground := Ground.phase }, { on := 11, ground := Ground.phase }, { on := 12, ground := Ground.phase }, { on := 13, ground := Ground.phase }, { on := 14, ground := Ground.phase }, { on := 15, ground := Ground.phase }, { on := 16, ground := Ground.phase }, { on := 17, ground := Ground.phase }], guard := none }) (v := ?_) rfl (by kernel_rfl) (by kernel_rfl) (by kernel_rfl) (fun _ _ _ h => h) (Or.inl ⟨by rfl, ?_⟩) (by assumption) ?_
    case refine_2 =>
      intro w hSw
      (try dsimp only at hSw)
      (try go_simp)
      all_goals (with_reducible rfl)
    try simp only [Act.put, List.setIfInBounds_toArray, List.set_cons_zero, List.set_cons_succ]
    refine wpAnyH_done (by kernel_rfl) ?_ _
    go_wp2
    go_ret
    exact ⟨by rw [← K.out]; rfl, hHeld.2.2.2.2⟩
end Go.Proofs.YtbdgbihdhbjljaaGreatDoor

namespace Go.Proofs.YtbdgbihdhbjljaaGreatDoor
open Go.RowKit Go.Shelf
open M (S)

/-- What a region that moves a piece keeps: the position's and the move's cells; two bytes that may be written. -/
def MvS (w : World) (g h k : Nat) (s : ByteArray) (side clock full : Int) (a b : Nat) (W : World) : Prop :=
  W.cell? ⟨g, 0, none⟩ = some (.string s) ∧ W.cell? ⟨g, 1, none⟩ = some (.int .i64 side) ∧ W.cell? ⟨g, 2, none⟩ = some (.int .i64 clock) ∧ W.cell? ⟨g, 3, none⟩ = some (.int .i64 full) ∧ W.cell? ⟨h, 0, none⟩ = some (.int .i64 (a : Int)) ∧ W.cell? ⟨h, 1, none⟩ = some (.int .i64 (b : Int)) ∧
  W.cell? ⟨k, a, none⟩ = some (cellOf W ⟨k, a, none⟩) ∧ W.cell? ⟨k, b, none⟩ = some (cellOf W ⟨k, b, none⟩) ∧ W.frozen? ⟨k, a, none⟩ = false ∧ W.frozen? ⟨k, b, none⟩ = false ∧ Below w.heap.size w W
theorem mvS_set {w : World} {g h k : Nat} {s : ByteArray} {side clock full : Int} {a b : Nat} {W : World} (hS : MvS w g h k s side clock full a b W) (hg : g ≠ k) (hh : h ≠ k) (hk : w.heap.size ≤ k) (o : Nat) (u : Value) : MvS w g h k s side clock full a b (W.setCell ⟨k, o, none⟩ u) := by
  obtain ⟨h0, h1, h2, h3, h4, h5, h6, h7, h8, h9, h10⟩ := hS
  have far : ∀ (q : Nat) (i : Nat), q ≠ k → (W.setCell ⟨k, o, none⟩ u).cell? ⟨q, i, none⟩ = W.cell? ⟨q, i, none⟩ := fun q i hq => World.cell?_setCell_other _ _ _ _ (by intro e; injection e with e1; exact hq e1.symm)
  exact ⟨(far g 0 hg).trans h0, (far g 1 hg).trans h1, (far g 2 hg).trans h2, (far g 3 hg).trans h3, (far h 0 hh).trans h4, (far h 1 hh).trans h5, cellOf_some (isSome_set (isSome_of h6)), cellOf_some (isSome_set (isSome_of h7)), by simpa using h8, by simpa using h9, h10.setCell (p := ⟨k, o, none⟩) hk u⟩
theorem pblk_four {W : World} {g : Nat} {t : TypeId} {x y z u a b c d : Value} (h : Blk W g t #[x, y, z, u]) : Blk ((((W.setCell ⟨g, 0, none⟩ a).setCell ⟨g, 1, none⟩ b).setCell ⟨g, 2, none⟩ c).setCell ⟨g, 3, none⟩ d) g t #[a, b, c, d] := (((h.set_ 0 a).set_ 1 b).set_ 2 c).set_ 3 d
/-- Results, the first of them a position in memory. -/
theorem pres_pos {fn : Func} {p u : Tmp} (h : fn.results = #[.cell p 23, .tmp u]) (tmps : Array Value) (w : World) {g : Nat} (hp : tmps.getD p undef = .pointer (some ⟨g, 0, none⟩)) {t : TypeId} {a b c d : Value} (hb : Blk w g t #[a, b, c, d]) :
    (results fn tmps).run Tryz.prog w = .ok (.tuple #[.agg #[a, b, c, d], tmps.getD u undef]) w := by
  rw [results_cell_tmp h, hp]
  have h1 := run_loadVar_row (P := Tryz.prog) w g t 23 #[a, b, c, d] (0, 0) _ hb Tryz.underlying23 rfl (by kernel_rfl)
  simp [asAddr, h1, Result.andThen]
theorem mvEnd {w W : World} {g : Nat} {t : TypeId} {x y z u a b c d : Value} (h : Blk W g t #[x, y, z, u]) (hg : w.heap.size ≤ g) (hB : Below w.heap.size w W) : Blk ((((W.setCell ⟨g, 0, none⟩ a).setCell ⟨g, 1, none⟩ b).setCell ⟨g, 2, none⟩ c).setCell ⟨g, 3, none⟩ d) g t #[a, b, c, d] ∧ Below w.heap.size w ((((W.setCell ⟨g, 0, none⟩ a).setCell ⟨g, 1, none⟩ b).setCell ⟨g, 2, none⟩ c).setCell ⟨g, 3, none⟩ d) :=
  ⟨pblk_four h, (((hB.setCell (p := ⟨g, 0, none⟩) hg _).setCell (p := ⟨g, 1, none⟩) hg _).setCell (p := ⟨g, 2, none⟩) hg _).setCell (p := ⟨g, 3, none⟩) hg _⟩
set_option maxRecDepth 100000 in
set_option maxHeartbeats 4000000 in
theorem moved_is (s : ByteArray) (side clock full : Int) (a b c x : Nat) (w : World) (hs : s.size = 90) (ha : a < 90) (hb : b < 90) (hab : a ≠ b) (hside : side = 0 ∨ side = 1) (h0 : 0 ≤ clock) (h1 : clock ≤ 120) (h2 : 1 ≤ full) (h3 : full ≤ 9999) (hc : bAt s a = c) (hx : bAt s b = x) :
    Calls Tryz.prog 131 #[.agg #[.string s, .int .i64 side, .int .i64 clock, .int .i64 full], .agg #[.int .i64 (a : Int), .int .i64 (b : Int)]] w (Gives w (.tuple #[.agg #[.string (movedS s a b c), .int .i64 (1 - side), .int .i64 (clockA s clock b), .int .i64 (fullA side full)], .int .u8 (takenN s b : Nat)])) := by
  unfold Gives
  obtain ⟨W1, hW1⟩ : ∃ W1, ((w.alloc (.cells #[.string s, .int .i64 side, .int .i64 clock, .int .i64 full] 23)).alloc (.cells #[.int .i64 (a : Int), .int .i64 (b : Int)] 48)).alloc (.cells #[.string ⟨#[]⟩, .int .i64 0, .int .i64 0, .int .i64 0] 23) = W1 := ⟨_, rfl⟩
  have hB : Below w.heap.size w W1 := by rw [← hW1]; exact (by repeat (first | exact Below.refl _ _ | (refine Below.setCell ?_ (by first | omega | (simp; done) | (simp; omega) | (simp at *; omega)) _) | (refine Below.alloc ?_ (by first | omega | (simp; done) | (simp; omega) | (simp at *; omega)) _) | refine Below.drew ?_ | (refine below_drewN ?_ _) | (refine Below.trans ?_ (Below.mono (by assumption) (by first | omega | (simp; done) | (simp; omega) | (simp at *; omega))))))
  have bP : Blk W1 w.heap.size 23 #[.string s, .int .i64 side, .int .i64 clock, .int .i64 full] := by rw [← hW1]; exact ((Blk.new _ _ _ rfl).alloc _).alloc _
  have bM : Blk W1 (w.heap.size + 1) 48 #[.int .i64 (a : Int), .int .i64 (b : Int)] := by rw [← hW1]; exact (Blk.new _ _ _ (by simp)).alloc _
  have bR : Blk W1 (w.heap.size + 2) 23 #[.string ⟨#[]⟩, .int .i64 0, .int .i64 0, .int .i64 0] := by rw [← hW1]; exact Blk.new _ _ _ (by simp)
  have hsz : W1.heap.size = w.heap.size + 3 := by rw [← hW1]; simp
  have hk1 : w.heap.size ≠ W1.heap.size := by omega
  have hk2 : w.heap.size + 1 ≠ W1.heap.size := by omega
  have hk3 : w.heap.size ≤ W1.heap.size := by omega
  have hk4 : w.heap.size + 2 ≠ W1.heap.size := by omega
  have HZ := Lib.hid hsz
  clear hsz
  obtain ⟨C, W2, hconv, hcell, hfr, hbel⟩ := bytes_of s W1 hs
  have hbs : b < s.size := by omega
  have hbk : s[b].toNat = x := (bAt_eq s b hbs).trans hx
  have p0 := bP.cell 0
  have m1 := bM.cell 1
  simp only [List.getElem?_toArray, List.getElem?_cons_zero, List.getElem?_cons_succ] at p0 m1
  go_enter Tryz.func131, Tryz.ntmps131
  go_wp2_with fail
  have bP2 := bP.next hbel
  have bM2 := bM.next hbel
  have bR2 := bR.next hbel
  have ca := hcell a ha
  have cb := hcell b hb
  rw [hc] at ca
  have hS : MvS w w.heap.size (w.heap.size + 1) W1.heap.size s side clock full a b W2.drew := ⟨bP2.cell 0, bP2.cell 1, bP2.cell 2, bP2.cell 3, bM2.cell 0, bM2.cell 1, cellOf_some (isSome_of ca), cellOf_some (isSome_of cb), hfr a ha, hfr b hb, (hB.trans (hbel.mono hB.size)).drew⟩
  have hba : b ≠ a := fun e => hab e.symm
  have fa := hfr a ha
  have fb := hfr b hb
  have c2 : (W2.drew.setCell ⟨W1.heap.size, a, none⟩ (.int .u8 46)).cell? ⟨W1.heap.size, b, none⟩ = some (.int .u8 (bAt s b : Nat)) := by rw [World.cell?_setCell_other _ _ _ _ (by intro e; injection e with _ e2; first | exact hab e2 | exact hab e2.symm)]; exact cb
  have f2 : (W2.drew.setCell ⟨W1.heap.size, a, none⟩ (.int .u8 46)).frozen? ⟨W1.heap.size, b, none⟩ = false := by simpa using hfr b hb
  have ha0 : (0 : Int) ≤ (a : Int) := by omega
  have hb0 : (0 : Int) ≤ (b : Int) := by omega
  have ha9 : (a : Int) < 90 := by omega
  have hb9 : (b : Int) < 90 := by omega
  have hcv : cellOf W2.drew ⟨W1.heap.size, a, none⟩ = .int .u8 (c : Int) := by
    unfold cellOf
    rw [show W2.drew.cell? ⟨W1.heap.size, a, none⟩ = some (.int .u8 (c : Int)) from ca]
    rfl
  refine wp_region_held_drew (S := fun W => W.cell? ⟨w.heap.size, 0, none⟩ = some (.string s) ∧ W.cell? ⟨w.heap.size, 1, none⟩ = some (.int .i64 side) ∧ W.cell? ⟨w.heap.size, 2, none⟩ = some (.int .i64 clock) ∧ W.cell? ⟨w.heap.size, 3, none⟩ = some (.int .i64 full) ∧ W.cell? ⟨w.heap.size + 1, 0, none⟩ = some (.int .i64 (a : Int)) ∧ W.cell? ⟨w.heap.size + 1, 1, none⟩ = some (.int .i64 (b : Int)) ∧ W.cell? ⟨W1.heap.size, a, none⟩ = some (cellOf W ⟨W1.heap.size, a, none⟩) ∧ W.cell? ⟨W1.heap.size, b, none⟩ = some (cellOf W ⟨W1.heap.size, b, none⟩) ∧ W.frozen? ⟨W1.heap.size, a, none⟩ = false ∧ W.frozen? ⟨W1.heap.size, b, none⟩ = false ∧ Below w.heap.size w W) (by kernel_rfl) (hS) (fun hHeld => ?_)
  refine wpAnyH_take (i := 0) (oi := { dst := some 17, op := Op.move (Operand.tmp 7), type := 112, pos := "pseudo.go:69", after := #[], guard := none }) (v := ?_) rfl (by kernel_rfl) (by kernel_rfl) (by kernel_rfl) (fun _ _ _ h => h) (Or.inl ⟨by rfl, ?_⟩) (by assumption) ?_
  case refine_2 =>
    intro w hSw
    (try dsimp only at hSw)
    (try go_simp)
    all_goals (with_reducible rfl)
  try simp only [Act.put, List.setIfInBounds_toArray, List.set_cons_zero, List.set_cons_succ]
  refine wpAnyH_take (i := 1) (oi := { dst := some 18, op := Op.fieldAddr 48 (Operand.tmp 3) 0, type := 0, pos := "pseudo.go:69", after := #[], guard := none }) (v := ?_) rfl (by kernel_rfl) (by kernel_rfl) (by kernel_rfl) (fun _ _ _ h => h) (Or.inl ⟨by rfl, ?_⟩) (by assumption) ?_
  case refine_2 =>
    intro w hSw
    (try dsimp only at hSw)
    (try go_simp)
    all_goals (with_reducible rfl)
  try simp only [Act.put, List.setIfInBounds_toArray, List.set_cons_zero, List.set_cons_succ]
  refine wpAnyH_take (i := 2) (oi := { dst := some 19, op := Op.load 3 (Operand.tmp 18), type := 3, pos := "pseudo.go:69", after := #[{ on := 1, ground := Ground.data }], guard := none }) (v := ?_) rfl (by kernel_rfl) (by kernel_rfl) (by kernel_rfl) (fun _ _ _ h => h) (Or.inl ⟨by rfl, ?_⟩) (by assumption) ?_
  case refine_2 =>
    intro w hSw
    (try dsimp only at hSw)
    (try go_simp)
    all_goals (with_reducible rfl)
  try simp only [Act.put, List.setIfInBounds_toArray, List.set_cons_zero, List.set_cons_succ]
  refine wpAnyH_take (i := 3) (oi := { dst := some 20, op := Op.move (Operand.tmp 7), type := 112, pos := "pseudo.go:69", after := #[{ on := 12, ground := Ground.gcOnly Departure.lateStores }], guard := none }) (v := ?_) rfl (by kernel_rfl) (by kernel_rfl) (by kernel_rfl) (fun _ _ _ h => h) (Or.inl ⟨by rfl, ?_⟩) (by assumption) ?_
  case refine_2 =>
    intro w hSw
    (try dsimp only at hSw)
    (try go_simp)
    all_goals (with_reducible rfl)
  try simp only [Act.put, List.setIfInBounds_toArray, List.set_cons_zero, List.set_cons_succ]
  refine wpAnyH_take (i := 4) (oi := { dst := some 21, op := Op.fieldAddr 48 (Operand.tmp 3) 1, type := 0, pos := "pseudo.go:69", after := #[{ on := 12, ground := Ground.gcOnly Departure.lateStores }], guard := none }) (v := ?_) rfl (by kernel_rfl) (by kernel_rfl) (by kernel_rfl) (fun _ _ _ h => h) (Or.inl ⟨by rfl, ?_⟩) (by assumption) ?_
  case refine_2 =>
    intro w hSw
    (try dsimp only at hSw)
    (try go_simp)
    all_goals (with_reducible rfl)
  try simp only [Act.put, List.setIfInBounds_toArray, List.set_cons_zero, List.set_cons_succ]
  refine wpAnyH_take (i := 5) (oi := { dst := some 22, op := Op.load 3 (Operand.tmp 21), type := 3, pos := "pseudo.go:69", after := #[{ on := 4, ground := Ground.data }, { on := 12, ground := Ground.gcOnly Departure.lateStores }], guard := none }) (v := ?_) rfl (by kernel_rfl) (by kernel_rfl) (by kernel_rfl) (fun _ _ _ h => h) (Or.inl ⟨by rfl, ?_⟩) (by assumption) ?_
  case refine_2 =>
    intro w hSw
    (try dsimp only at hSw)
    (try go_simp)
    all_goals (with_reducible rfl)
  try simp only [Act.put, List.setIfInBounds_toArray, List.set_cons_zero, List.set_cons_succ]
  refine wpAnyH_take (i := 6) (oi := { dst := some 23, op := Op.move (Operand.tmp 7), type := 112, pos := "pseudo.go:69", after := #[], guard := none }) (v := ?_) rfl (by kernel_rfl) (by kernel_rfl) (by kernel_rfl) (fun _ _ _ h => h) (Or.inl ⟨by rfl, ?_⟩) (by assumption) ?_
  case refine_2 =>
    intro w hSw
    (try dsimp only at hSw)
    (try go_simp)
    all_goals (with_reducible rfl)
  try simp only [Act.put, List.setIfInBounds_toArray, List.set_cons_zero, List.set_cons_succ]
  refine wpAnyH_take (i := 7) (oi := { dst := some 24, op := Op.fieldAddr 48 (Operand.tmp 3) 0, type := 0, pos := "pseudo.go:69", after := #[], guard := none }) (v := ?_) rfl (by kernel_rfl) (by kernel_rfl) (by kernel_rfl) (fun _ _ _ h => h) (Or.inl ⟨by rfl, ?_⟩) (by assumption) ?_
  case refine_2 =>
    intro w hSw
    (try dsimp only at hSw)
    (try go_simp)
    all_goals (with_reducible rfl)
  try simp only [Act.put, List.setIfInBounds_toArray, List.set_cons_zero, List.set_cons_succ]
  refine wpAnyH_take (i := 8) (oi := { dst := some 25, op := Op.load 3 (Operand.tmp 24), type := 3, pos := "pseudo.go:69", after := #[{ on := 7, ground := Ground.data }], guard := none }) (v := ?_) rfl (by kernel_rfl) (by kernel_rfl) (by kernel_rfl) (fun _ _ _ h => h) (Or.inl ⟨by rfl, ?_⟩) (by assumption) ?_
  case refine_2 =>
    intro w hSw
    (try dsimp only at hSw)
    (try go_simp)
    all_goals (with_reducible rfl)
  try simp only [Act.put, List.setIfInBounds_toArray, List.set_cons_zero, List.set_cons_succ]
  refine wpAnyH_take (i := 9) (oi := { dst := some 26, op := Op.indexAddr 112 (Operand.tmp 23) (Operand.tmp 25), type := 0, pos := "pseudo.go:69", after := #[{ on := 6, ground := Ground.data }, { on := 8, ground := Ground.data }], guard := none }) (v := ?_) rfl (by kernel_rfl) (by kernel_rfl) (by kernel_rfl) (fun _ _ _ h => h) (Or.inl ⟨by rfl, ?_⟩) (by assumption) ?_
  case refine_2 =>
    intro w hSw
    (try dsimp only at hSw)
    (try go_simp)
    all_goals (with_reducible rfl)
  try simp only [Act.put, List.setIfInBounds_toArray, List.set_cons_zero, List.set_cons_succ]
  refine wpAnyH_ready (rs := [10]) (by kernel_rfl) (by simp) (AllReadyH.cons (o := { dst := some 27, op := Op.load 5 (Operand.tmp 26), type := 5, pos := "pseudo.go:69", after := #[{ on := 9, ground := Ground.data }], guard := none }) rfl (fun K hK => ?_) AllReadyH.nil)
  go_simp
  refine hK.out _ _ ?_ (fun hHeld => ?_)
  · exact hHeld
  clear hK K
  try simp only [hcv]
  try simp only [Act.put, List.setIfInBounds_toArray, List.set_cons_zero, List.set_cons_succ]
  refine wpAnyH_take (i := 11) (oi := { dst := some 28, op := Op.indexAddr 112 (Operand.tmp 17) (Operand.tmp 19), type := 0, pos := "pseudo.go:69", after := #[{ on := 0, ground := Ground.data }, { on := 2, ground := Ground.data }, { on := 0, ground := Ground.phase }, { on := 1, ground := Ground.phase }, { on := 2, ground := Ground.phase }, { on := 3, ground := Ground.textOnly Departure.lateStores }, { on := 4, ground := Ground.textOnly Departure.lateStores }, { on := 5, ground := Ground.textOnly Departure.lateStores }, { on := 6, ground := Ground.textOnly Departure.lateStores }, { on := 7, ground := Ground.textOnly Departure.lateStores }, { on := 8, ground := Ground.textOnly Departure.lateStores }, { on := 9, ground := Ground.textOnly Departure.lateStoresUnsure }, { on := 10, ground := Ground.phase }], guard := none }) (v := ?_) rfl (by kernel_rfl) (by kernel_rfl) (by kernel_rfl) (fun _ _ _ h => h) (Or.inl ⟨by rfl, ?_⟩) (by assumption) ?_
  case refine_2 =>
    intro w hSw
    (try dsimp only at hSw)
    (try go_simp)
    all_goals (with_reducible rfl)
  try simp only [Act.put, List.setIfInBounds_toArray, List.set_cons_zero, List.set_cons_succ]
  refine wpAnyH_ready (rs := [12]) (by kernel_rfl) (by simp) (AllReadyH.cons (o := { dst := none, op := Op.store 5 (Operand.tmp 28) (Operand.const (Value.int IntKind.u8 46)), type := 0, pos := "pseudo.go:69", after := #[{ on := 11, ground := Ground.data }, { on := 0, ground := Ground.phase }, { on := 1, ground := Ground.phase }, { on := 2, ground := Ground.phase }, { on := 3, ground := Ground.textOnly Departure.lateStores }, { on := 4, ground := Ground.textOnly Departure.lateStores }, { on := 5, ground := Ground.textOnly Departure.lateStores }, { on := 6, ground := Ground.textOnly Departure.lateStores }, { on := 7, ground := Ground.textOnly Departure.lateStores }, { on := 8, ground := Ground.textOnly Departure.lateStores }, { on := 9, ground := Ground.textOnly Departure.lateStoresUnsure }, { on := 10, ground := Ground.phase }], guard := none }) rfl (fun K hK => ?_) AllReadyH.nil)
  go_simp
  refine hK.out _ _ ?_ (fun hHeld => ?_)
  · exact mvS_set hHeld hk1 hk2 hk3 _ _
  clear hK K
  try simp only [Act.put, List.setIfInBounds_toArray, List.set_cons_zero, List.set_cons_succ]
  refine wpAnyH_take (i := 13) (oi := { dst := some 29, op := Op.indexAddr 112 (Operand.tmp 20) (Operand.tmp 22), type := 0, pos := "pseudo.go:69", after := #[{ on := 3, ground := Ground.data }, { on := 5, ground := Ground.data }, { on := 0, ground := Ground.phase }, { on := 1, ground := Ground.phase }, { on := 2, ground := Ground.phase }, { on := 3, ground := Ground.phase }, { on := 4, ground := Ground.phase }, { on := 5, ground := Ground.phase }, { on := 6, ground := Ground.phase }, { on := 7, ground := Ground.phase }, { on := 8, ground := Ground.phase }, { on := 9, ground := Ground.phase }, { on := 10, ground := Ground.phase }, { on := 11, ground := Ground.phase }, { on := 12, ground := Ground.phase }], guard := none }) (v := ?_) rfl (by kernel_rfl) (by kernel_rfl) (by kernel_rfl) (fun _ _ _ h => h) (Or.inl ⟨by rfl, ?_⟩) (by assumption) ?_
  case refine_2 =>
    intro w hSw
    (try dsimp only at hSw)
    (try go_simp)
    all_goals (with_reducible rfl)
  try simp only [Act.put, List.setIfInBounds_toArray, List.set_cons_zero, List.set_cons_succ]
  refine wpAnyH_ready (rs := [14]) (by kernel_rfl) (by simp) (AllReadyH.cons (o := { dst := none, op := Op.store 5 (Operand.tmp 29) (Operand.tmp 27), type := 0, pos := "pseudo.go:69", after := #[{ on := 13, ground := Ground.data }, { on := 10, ground := Ground.data }, { on := 12, ground := Ground.chain }, { on := 0, ground := Ground.phase }, { on := 1, ground := Ground.phase }, { on := 2, ground := Ground.phase }, { on := 3, ground := Ground.phase }, { on := 4, ground := Ground.phase }, { on := 5, ground := Ground.phase }, { on := 6, ground := Ground.phase }, { on := 7, ground := Ground.phase }, { on := 8, ground := Ground.phase }, { on := 9, ground := Ground.phase }, { on := 10, ground := Ground.phase }, { on := 11, ground := Ground.phase }, { on := 12, ground := Ground.phase }], guard := none }) rfl (fun K hK => ?_) AllReadyH.nil)
  go_simp
  refine hK.out _ _ ?_ (fun hHeld => ?_)
  · exact mvS_set hHeld hk1 hk2 hk3 _ _
  clear hK K
  try simp only [Act.put, List.setIfInBounds_toArray, List.set_cons_zero, List.set_cons_succ]
  refine wpAnyH_done (by kernel_rfl) ?_ _
  obtain ⟨W3, hW3⟩ : ∃ W3, ((W2.setCell ⟨W1.heap.size, a, none⟩ (.int .u8 46)).setCell ⟨W1.heap.size, b, none⟩ (.int .u8 (c : Int))).drew = W3 := ⟨_, rfl⟩
  have hback : (convert 112 9 (.slice (some ⟨W1.heap.size, 0, none⟩) 90 C)).run Tryz.prog W3 = .ok (.string (movedS s a b c)) W3 := by
    have hlen : s.data.toList.length = 90 := by simpa using hs
    have hmv : movedS s a b c = ⟨((s.data.toList.set a (UInt8.ofNat 46)).set b (UInt8.ofNat c)).toArray⟩ := by simp [movedS, putS]
    rw [hmv]
    refine string_of W3 W1.heap.size C _ (by rw [List.length_set, List.length_set]; exact hlen) fun i hi => ?_
    rw [← hW3]
    show World.cell? ((W2.setCell ⟨W1.heap.size, a, none⟩ (.int .u8 46)).setCell ⟨W1.heap.size, b, none⟩ (.int .u8 (c : Int))) _ = _
    have hc256 : c < 256 := by rw [← hc]; exact bAt_lt s a
    by_cases e1 : i = b
    · subst e1
      rw [World.cell?_setCell_same' _ _ _ (by rw [World.cell?_setCell_other _ _ _ _ (by intro e; injection e with _ e2; first | exact hab e2 | exact hab e2.symm), cb]; rfl), List.getElem_set_self, UInt8.toNat_ofNat_of_lt' (by omega)]
    · rw [World.cell?_setCell_other _ _ _ _ (by intro e; injection e with _ e2; exact e1 e2.symm), List.getElem_set_ne (fun e => e1 e.symm)]
      by_cases e2 : i = a
      · subst e2
        rw [World.cell?_setCell_same' _ _ _ (by rw [ca]; rfl), List.getElem_set_self]
        rfl
      · rw [World.cell?_setCell_other _ _ _ _ (by intro e; injection e with _ e3; exact e2 e3.symm), hcell i hi, List.getElem_set_ne (fun e => e2 e.symm), bAt_list]
  have bP3 : Blk W3 w.heap.size 23 #[.string s, .int .i64 side, .int .i64 clock, .int .i64 full] := by rw [← hW3]; exact (bP2.far hk1 _).far hk1 _
  have bR3 : Blk W3 (w.heap.size + 2) 23 #[.string ⟨#[]⟩, .int .i64 0, .int .i64 0, .int .i64 0] := by rw [← hW3]; exact (bR2.far hk4 _).far hk4 _
  have hB3 : Below w.heap.size w W3 := by rw [← hW3]; exact (((hB.trans (hbel.mono hB.size)).setCell (p := ⟨W1.heap.size, a, none⟩) hk3 _).setCell (p := ⟨W1.heap.size, b, none⟩) hk3 _).drew
  obtain ⟨W4, hW4⟩ : ∃ W4, W3.alloc (.cells #[.string (movedS s a b c), .int .i64 0, .int .i64 (min (clock + 1) 120), .int .i64 full] 23) = W4 := ⟨_, rfl⟩
  have bQ4 : Blk W4 W3.heap.size 23 #[.string (movedS s a b c), .int .i64 0, .int .i64 (min (clock + 1) 120), .int .i64 full] := by rw [← hW4]; exact Blk.new _ _ _ rfl
  have bP4 : Blk W4 w.heap.size 23 #[.string s, .int .i64 side, .int .i64 clock, .int .i64 full] := by rw [← hW4]; exact bP3.alloc _
  have bR4 : Blk W4 (w.heap.size + 2) 23 #[.string ⟨#[]⟩, .int .i64 0, .int .i64 0, .int .i64 0] := by rw [← hW4]; exact bR3.alloc _
  have hB4 : Below w.heap.size w W4 := by rw [← hW4]; exact hB3.alloc hB3.size _
  have r2 := bP3.cell 2
  have r3 := bP3.cell 3
  have t1 := bP4.cell 1
  have t3 := bP4.cell 3
  have q0 := bQ4.cell 0
  have q1 := bQ4.cell 1
  have q2 := bQ4.cell 2
  have q3 := bQ4.cell 3
  have f0 := bQ4.frozen 0
  have f1 := bQ4.frozen 1
  have f2' := bQ4.frozen 2
  have f3 := bQ4.frozen 3
  have w0 : W4.cell? ⟨w.heap.size + 1 + 1, 0, none⟩ = some (.string ⟨#[]⟩) := bR4.cell 0
  have w1 : W4.cell? ⟨w.heap.size + 1 + 1, 1, none⟩ = some (.int .i64 0) := bR4.cell 1
  have w2 : W4.cell? ⟨w.heap.size + 1 + 1, 2, none⟩ = some (.int .i64 0) := bR4.cell 2
  have w3 : W4.cell? ⟨w.heap.size + 1 + 1, 3, none⟩ = some (.int .i64 0) := bR4.cell 3
  have e0 : W4.frozen? ⟨w.heap.size + 1 + 1, 0, none⟩ = false := bR4.frozen 0
  have e1 : W4.frozen? ⟨w.heap.size + 1 + 1, 1, none⟩ = false := bR4.frozen 1
  have e2 : W4.frozen? ⟨w.heap.size + 1 + 1, 2, none⟩ = false := bR4.frozen 2
  have e3 : W4.frozen? ⟨w.heap.size + 1 + 1, 3, none⟩ = false := bR4.frozen 3
  have n1 : w.heap.size + 1 + 1 ≠ W3.heap.size := by have := bR3.lt; omega
  have n2 : W3.heap.size ≠ w.heap.size + 1 + 1 := fun e => n1 e.symm
  have n3 : w.heap.size ≠ W3.heap.size := by have := bR3.lt; omega
  have n4h : w.heap.size ≤ W3.heap.size := by have := bR3.lt; omega
  simp only [List.getElem?_toArray, List.getElem?_cons_zero, List.getElem?_cons_succ] at r2 r3 t1 t3 q0 q1 q2 q3
  clear hS ca cb hcell hfr hconv p0 m1 hcv fa fb c2 f2
  have HB4 := Lib.hid hB4
  have HR4 := Lib.hid bR4
  have HP4 := Lib.hid bP4
  have HQ4 := Lib.hid bQ4
  clear hB4 bR4 bP4 bQ4 bP3 bR3 hB3 bP2 bM2 bR2 bP bM bR
  have n4 : w.heap.size ≤ W3.heap.size := n4h
  rcases hside with rfl | rfl
  · by_cases h46 : x = 46
    · subst h46
      go_wp2_with fail
      refine bodyPost_ret (pres_pos rfl _ _ rfl (mvEnd (HR4.out.far (p := ⟨W3.heap.size, 1, none⟩) n1 _) (by omega) (HB4.out.setCell (p := ⟨W3.heap.size, 1, none⟩) n4 _)).1) rfl ⟨?_, (mvEnd (HR4.out.far (p := ⟨W3.heap.size, 1, none⟩) n1 _) (by omega) (HB4.out.setCell (p := ⟨W3.heap.size, 1, none⟩) n4 _)).2⟩
      simp [clockA, fullA, takenN, hx]
    · have hxn : ¬ (x : Int) = 46 := by omega
      go_wp2_with fail
      refine bodyPost_ret (pres_pos rfl _ _ rfl (mvEnd ((HR4.out.far (p := ⟨W3.heap.size, 1, none⟩) n1 _).far (p := ⟨W3.heap.size, 2, none⟩) n1 _) (by omega) ((HB4.out.setCell (p := ⟨W3.heap.size, 1, none⟩) n4 _).setCell (p := ⟨W3.heap.size, 2, none⟩) n4 _)).1) rfl ⟨?_, (mvEnd ((HR4.out.far (p := ⟨W3.heap.size, 1, none⟩) n1 _).far (p := ⟨W3.heap.size, 2, none⟩) n1 _) (by omega) ((HB4.out.setCell (p := ⟨W3.heap.size, 1, none⟩) n4 _).setCell (p := ⟨W3.heap.size, 2, none⟩) n4 _)).2⟩
      simp [clockA, fullA, takenN, hx, h46]
  · by_cases h46 : x = 46
    · subst h46
      go_wp2_with fail
      refine bodyPost_ret (pres_pos rfl _ _ rfl (mvEnd (HR4.out.far (p := ⟨W3.heap.size, 3, none⟩) n1 _) (by omega) (HB4.out.setCell (p := ⟨W3.heap.size, 3, none⟩) n4 _)).1) rfl ⟨?_, (mvEnd (HR4.out.far (p := ⟨W3.heap.size, 3, none⟩) n1 _) (by omega) (HB4.out.setCell (p := ⟨W3.heap.size, 3, none⟩) n4 _)).2⟩
      simp [clockA, fullA, takenN, hx]
    · have hxn : ¬ (x : Int) = 46 := by omega
      go_wp2_with fail
      refine bodyPost_ret (pres_pos rfl _ _ rfl (mvEnd ((HR4.out.far (p := ⟨W3.heap.size, 3, none⟩) n1 _).far (p := ⟨W3.heap.size, 2, none⟩) n1 _) (by omega) ((HB4.out.setCell (p := ⟨W3.heap.size, 3, none⟩) n4 _).setCell (p := ⟨W3.heap.size, 2, none⟩) n4 _)).1) rfl ⟨?_, (mvEnd ((HR4.out.far (p := ⟨W3.heap.size, 3, none⟩) n1 _).far (p := ⟨W3.heap.size, 2, none⟩) n1 _) (by omega) ((HB4.out.setCell (p := ⟨W3.heap.size, 3, none⟩) n4 _).setCell (p := ⟨W3.heap.size, 2, none⟩) n4 _)).2⟩
      simp [clockA, fullA, takenN, hx, h46]
end Go.Proofs.YtbdgbihdhbjljaaGreatDoor

namespace Go.Proofs.YtbdgbihdhbjljaaGreatDoor
open Go.RowKit Go.Shelf
open M (S)

theorem movesV_lt {s : ByteArray} {side clock full : Int} {m : Nat × Nat} (h : m ∈ movesV s side clock full) : m.1 < 90 ∧ m.2 < 90 := by
  unfold movesV at h
  split at h
  · have := (moves_mem (a := m.1) (b := m.2)).1 h
    exact ⟨this.1, this.2.1⟩
  · simp at h
/-- Those of the first k moves that take. -/
def capsTo (s : ByteArray) (l : List (Nat × Nat)) (k : Nat) : List (Nat × Nat) := (l.take k).filter fun m => bAt s m.2 != 46
theorem capsTo_succ {s : ByteArray} {l : List (Nat × Nat)} {k : Nat} (h : k < l.length) : capsTo s l (k + 1) = if bAt s l[k].2 != 46 then capsTo s l k ++ [l[k]] else capsTo s l k := by
  unfold capsTo
  rw [List.take_succ_eq_append_getElem h, List.filter_append]
  cases e : (bAt s l[k].2 != 46) <;> simp [e]
theorem capsTo_len (s : ByteArray) (l : List (Nat × Nat)) (k : Nat) : (capsTo s l k).length ≤ k := by
  unfold capsTo
  exact Nat.le_trans (List.length_filter_le _ _) (by simp; omega)
theorem movesV_len (s : ByteArray) (side clock full : Int) : (movesV s side clock full).length ≤ 8100 := by
  unfold movesV
  split
  · exact movesTo_len s side 90
  · exact Nat.zero_le _
end Go.Proofs.YtbdgbihdhbjljaaGreatDoor

namespace Go.Proofs.YtbdgbihdhbjljaaGreatDoor
open Go.RowKit Go.Shelf
open M (S)

/-- What the document says of a move of a position: the position behind it, what was taken, the error's number. -/
def applyV (s : ByteArray) (side clock full a b : Int) : Value :=
  if checkN s side clock full ≠ 0 then .tuple #[.agg #[.string ⟨#[]⟩, .int .i64 0, .int .i64 0, .int .i64 0], .int .u8 0, .int .i64 (checkN s side clock full)]
  else if isM s side a b = true ∧ kindN (bAt s b.toNat) ≠ 75 then .tuple #[.agg #[.string (movedS s a.toNat b.toNat (bAt s a.toNat)), .int .i64 (1 - side), .int .i64 (clockA s clock b.toNat), .int .i64 (fullA side full)], .int .u8 (takenN s b.toNat : Nat), .int .i64 0]
  else .tuple #[.agg #[.string ⟨#[]⟩, .int .i64 0, .int .i64 0, .int .i64 0], .int .u8 0, .int .i64 7]
theorem isM_parts {s : ByteArray} {side a b : Int} (h : isM s side a b = true) : isB s = true ∧ (0 ≤ a ∧ a < 90) ∧ (0 ≤ b ∧ b < 90) ∧ canB s a.toNat b.toNat = true := by
  simp only [isM, canI, sqI, Bool.and_eq_true, decide_eq_true_eq] at h
  exact ⟨h.1.1.1.1, h.1.1.1.2, h.1.1.2, h.1.2⟩
theorem ppos_cells {W : World} {g : Nat} {t : TypeId} {s : ByteArray} {a b c : Int} (h : Blk W g t #[.string s, .int .i64 a, .int .i64 b, .int .i64 c]) : W.cell? ⟨g, 0, none⟩ = some (.string s) ∧ W.cell? ⟨g, 1, none⟩ = some (.int .i64 a) ∧ W.cell? ⟨g, 2, none⟩ = some (.int .i64 b) ∧ W.cell? ⟨g, 3, none⟩ = some (.int .i64 c) := ⟨h.cell 0, h.cell 1, h.cell 2, h.cell 3⟩
theorem ppos_frozen {W : World} {g : Nat} {t : TypeId} {cs : Array Value} (h : Blk W g t cs) : W.frozen? ⟨g, 0, none⟩ = false ∧ W.frozen? ⟨g, 1, none⟩ = false ∧ W.frozen? ⟨g, 2, none⟩ = false ∧ W.frozen? ⟨g, 3, none⟩ = false := ⟨h.frozen 0, h.frozen 1, h.frozen 2, h.frozen 3⟩
/-- The world at the start: the position, the move, the results. -/
theorem ap_start {w W1 : World} {x y z u m n : Value} (h : ((w.alloc (.cells #[x, y, z, u] 23)).alloc (.cells #[m, n] 48)).alloc (.cells #[.string ⟨#[]⟩, .int .i64 0, .int .i64 0, .int .i64 0] 23) = W1) :
    Below w.heap.size w W1 ∧ Blk W1 w.heap.size 23 #[x, y, z, u] ∧ Blk W1 (w.heap.size + 1) 48 #[m, n] ∧ Blk W1 (w.heap.size + 2) 23 #[.string ⟨#[]⟩, .int .i64 0, .int .i64 0, .int .i64 0] := by
  subst h
  exact ⟨(by repeat (first | exact Below.refl _ _ | (refine Below.setCell ?_ (by first | omega | (simp; done) | (simp; omega) | (simp at *; omega)) _) | (refine Below.alloc ?_ (by first | omega | (simp; done) | (simp; omega) | (simp at *; omega)) _) | refine Below.drew ?_ | (refine below_drewN ?_ _) | (refine Below.trans ?_ (Below.mono (by assumption) (by first | omega | (simp; done) | (simp; omega) | (simp at *; omega)))))), ((Blk.new _ _ _ rfl).alloc _).alloc _, (Blk.new _ _ _ (by simp)).alloc _, Blk.new _ _ _ (by simp)⟩
theorem results_cell_tmp_tmp {fn : Func} {p u v : Tmp} {ty : TypeId} (h : fn.results = #[.cell p ty, .tmp u, .tmp v]) (tmps : Array Value) (P : Program) (w : World) :
    (results fn tmps).run P w = ((asAddr (tmps.getD p undef)).run P w).andThen fun a w₁ => ((loadVar ty a).run P w₁).andThen fun x w₂ => .ok (.tuple #[x, tmps.getD u undef, tmps.getD v undef]) w₂ := by
  simp only [results, h]
  simp [Sem.run_bind, Result.andThen]
theorem res_pos3 {fn : Func} {p u v : Tmp} (h : fn.results = #[.cell p 23, .tmp u, .tmp v]) (tmps : Array Value) (w : World) {g : Nat} (hp : tmps.getD p undef = .pointer (some ⟨g, 0, none⟩)) {t : TypeId} {a b c d : Value} (hb : Blk w g t #[a, b, c, d]) :
    (results fn tmps).run Tryz.prog w = .ok (.tuple #[.agg #[a, b, c, d], tmps.getD u undef, tmps.getD v undef]) w := by
  rw [results_cell_tmp_tmp h, hp]
  have h1 := run_loadVar_row (P := Tryz.prog) w g t 23 #[a, b, c, d] (0, 0) _ hb Tryz.underlying23 rfl (by kernel_rfl)
  simp [asAddr, h1, Result.andThen]
set_option maxRecDepth 100000 in
set_option maxHeartbeats 4000000 in
theorem apply_bad (s : ByteArray) (side clock full a b k : Int) (w : World) (hc : (checkN s side clock full : Int) = k) (h0 : (k != 0) = true) :
    Calls Tryz.prog 81 #[.agg #[.string s, .int .i64 side, .int .i64 clock, .int .i64 full], .agg #[.int .i64 a, .int .i64 b]] w (Gives w (.tuple #[.agg #[.string ⟨#[]⟩, .int .i64 0, .int .i64 0, .int .i64 0], .int .u8 0, .int .i64 k])) := by
  unfold Gives
  obtain ⟨W1, hW1⟩ : ∃ W1, ((w.alloc (.cells #[.string s, .int .i64 side, .int .i64 clock, .int .i64 full] 23)).alloc (.cells #[.int .i64 a, .int .i64 b] 48)).alloc (.cells #[.string ⟨#[]⟩, .int .i64 0, .int .i64 0, .int .i64 0] 23) = W1 := ⟨_, rfl⟩
  obtain ⟨hB, bP, bM, bR⟩ := ap_start hW1
  obtain ⟨p0, p1, p2, p3⟩ := ppos_cells bP
  have HC := Lib.hid hc
  have HW := Lib.hid hW1
  clear hc hW1
  go_enter Tryz.func81, Tryz.ntmps81
  go_wp2_with fail
  rw [HW.out]
  have f0 := ppos_frozen bR
  go_wp2_with fail
  refine (check_is s side clock full k _ HC.out).mono ?_
  rintro e w1 ⟨rfl, hb⟩
  have bR1 := bR.next hb
  obtain ⟨g0, g1, g2, g3⟩ := ppos_cells bR1
  obtain ⟨f0, f1, f2, f3⟩ := ppos_frozen bR1
  go_wp2_with fail
  refine bodyPost_ret (res_pos3 rfl _ _ rfl (mvEnd (bR1) (by omega) (hB.trans (hb.mono hB.size))).1) rfl ⟨rfl, (mvEnd (bR1) (by omega) (hB.trans (hb.mono hB.size))).2⟩
set_option maxRecDepth 100000 in
set_option maxHeartbeats 4000000 in
theorem apply_not (s : ByteArray) (side clock full a b : Int) (w : World) (hc : (checkN s side clock full : Int) = 0) (h : isM s side a b = false) :
    Calls Tryz.prog 81 #[.agg #[.string s, .int .i64 side, .int .i64 clock, .int .i64 full], .agg #[.int .i64 a, .int .i64 b]] w (Gives w (.tuple #[.agg #[.string ⟨#[]⟩, .int .i64 0, .int .i64 0, .int .i64 0], .int .u8 0, .int .i64 7])) := by
  unfold Gives
  obtain ⟨W1, hW1⟩ : ∃ W1, ((w.alloc (.cells #[.string s, .int .i64 side, .int .i64 clock, .int .i64 full] 23)).alloc (.cells #[.int .i64 a, .int .i64 b] 48)).alloc (.cells #[.string ⟨#[]⟩, .int .i64 0, .int .i64 0, .int .i64 0] 23) = W1 := ⟨_, rfl⟩
  obtain ⟨hB, bP, bM, bR⟩ := ap_start hW1
  obtain ⟨p0, p1, p2, p3⟩ := ppos_cells bP
  have HC := Lib.hid hc
  have HM := Lib.hid h
  have HW := Lib.hid hW1
  clear hc h hW1
  obtain ⟨m0, m1⟩ : W1.cell? ⟨w.heap.size + 1, 0, none⟩ = some (.int .i64 a) ∧ W1.cell? ⟨w.heap.size + 1, 1, none⟩ = some (.int .i64 b) := ⟨bM.cell 0, bM.cell 1⟩
  go_enter Tryz.func81, Tryz.ntmps81
  go_wp2_with fail
  rw [HW.out]
  go_wp2_with fail
  refine (check_is s side clock full 0 _ HC.out).mono ?_
  rintro e w1 ⟨rfl, hb⟩
  have bR1 := bR.next hb
  obtain ⟨q0, q1, q2, q3⟩ := ppos_cells (bP.next hb)
  obtain ⟨m0, m1⟩ : w1.cell? ⟨w.heap.size + 1, 0, none⟩ = some (.int .i64 a) ∧ w1.cell? ⟨w.heap.size + 1, 1, none⟩ = some (.int .i64 b) := ⟨(bM.next hb).cell 0, (bM.next hb).cell 1⟩
  go_wp2_with fail
  refine (isMove_is s side clock full a b false _ HM.out).mono ?_
  rintro e w2 ⟨rfl, hb2⟩
  have hB2 := (hB.trans (hb.mono hB.size)).trans (hb2.mono (hB.trans (hb.mono hB.size)).size)
  have bR2 := bR1.next hb2
  obtain ⟨g0, g1, g2, g3⟩ := ppos_cells bR2
  obtain ⟨f0, f1, f2, f3⟩ := ppos_frozen bR2
  go_wp2_with fail
  refine bodyPost_ret (res_pos3 rfl _ _ rfl (mvEnd (bR2) (by omega) (hB2)).1) rfl ⟨rfl, (mvEnd (bR2) (by omega) (hB2)).2⟩
set_option maxRecDepth 100000 in
set_option maxHeartbeats 4000000 in
theorem apply_king (s : ByteArray) (side clock full : Int) (a b x : Nat) (w : World) (hc : (checkN s side clock full : Int) = 0) (h : isM s side a b = true) (hbb : b < 90) (hs : s.size = 90) (hx : bAt s b = x) (hk : kindN x = 75) :
    Calls Tryz.prog 81 #[.agg #[.string s, .int .i64 side, .int .i64 clock, .int .i64 full], .agg #[.int .i64 (a : Int), .int .i64 (b : Int)]] w (Gives w (.tuple #[.agg #[.string ⟨#[]⟩, .int .i64 0, .int .i64 0, .int .i64 0], .int .u8 0, .int .i64 7])) := by
  unfold Gives
  obtain ⟨W1, hW1⟩ : ∃ W1, ((w.alloc (.cells #[.string s, .int .i64 side, .int .i64 clock, .int .i64 full] 23)).alloc (.cells #[.int .i64 (a : Int), .int .i64 (b : Int)] 48)).alloc (.cells #[.string ⟨#[]⟩, .int .i64 0, .int .i64 0, .int .i64 0] 23) = W1 := ⟨_, rfl⟩
  obtain ⟨hB, bP, bM, bR⟩ := ap_start hW1
  obtain ⟨p0, p1, p2, p3⟩ := ppos_cells bP
  have HC := Lib.hid hc
  have HM := Lib.hid h
  have HW := Lib.hid hW1
  clear hc h hW1
  have hbs : b < s.size := by omega
  have hbk : s[b].toNat = x := (bAt_eq s b hbs).trans hx
  have hb0 : (0 : Int) ≤ (b : Int) := by omega
  have hb9 : (b : Int) < 90 := by omega
  have HK := Lib.hid hk
  clear hx hk
  obtain ⟨m0, m1⟩ : W1.cell? ⟨w.heap.size + 1, 0, none⟩ = some (.int .i64 (a : Int)) ∧ W1.cell? ⟨w.heap.size + 1, 1, none⟩ = some (.int .i64 (b : Int)) := ⟨bM.cell 0, bM.cell 1⟩
  go_enter Tryz.func81, Tryz.ntmps81
  go_wp2_with fail
  rw [HW.out]
  go_wp2_with fail
  refine (check_is s side clock full 0 _ HC.out).mono ?_
  rintro e w1 ⟨rfl, hb⟩
  have bR1 := bR.next hb
  obtain ⟨q0, q1, q2, q3⟩ := ppos_cells (bP.next hb)
  obtain ⟨m0, m1⟩ : w1.cell? ⟨w.heap.size + 1, 0, none⟩ = some (.int .i64 (a : Int)) ∧ w1.cell? ⟨w.heap.size + 1, 1, none⟩ = some (.int .i64 (b : Int)) := ⟨(bM.next hb).cell 0, (bM.next hb).cell 1⟩
  go_wp2_with fail
  refine (isMove_is s side clock full a b true _ HM.out).mono ?_
  rintro e w2 ⟨rfl, hb2⟩
  have hB2 := (hB.trans (hb.mono hB.size)).trans (hb2.mono (hB.trans (hb.mono hB.size)).size)
  have bR2 := bR1.next hb2
  have bP2 := (bP.next hb).next hb2
  have bM2 := (bM.next hb).next hb2
  have t0 : w2.cell? ⟨w.heap.size, 0, none⟩ = some (.string s) := bP2.cell 0
  have t1 : w2.cell? ⟨w.heap.size + 1, 1, none⟩ = some (.int .i64 (b : Int)) := bM2.cell 1
  obtain ⟨g0, g1, g2, g3⟩ := ppos_cells bR2
  obtain ⟨f0, f1, f2, f3⟩ := ppos_frozen bR2
  go_wp2_with fail
  refine (kind_is x 75 _ HK.out).mono ?_
  rintro e w3 ⟨rfl, rfl⟩
  go_wp2_with fail
  refine bodyPost_ret (res_pos3 rfl _ _ rfl (mvEnd (bR2) (by omega) (hB2)).1) rfl ⟨rfl, (mvEnd (bR2) (by omega) (hB2)).2⟩
set_option maxRecDepth 100000 in
set_option maxHeartbeats 4000000 in
theorem apply_moves (s : ByteArray) (side clock full : Int) (a b c x k : Nat) (w : World) (hc : (checkN s side clock full : Int) = 0) (h : isM s side a b = true) (ha : a < 90) (hbb : b < 90) (hs : s.size = 90) (hx : bAt s b = x) (hk : kindN x = k) (hkn : ((k : Int) == 75) = false) (hab : a ≠ b) (hside : side = 0 ∨ side = 1) (h0 : 0 ≤ clock) (h1 : clock ≤ 120) (h2 : 1 ≤ full) (h3 : full ≤ 9999) (hcc : bAt s a = c) :
    Calls Tryz.prog 81 #[.agg #[.string s, .int .i64 side, .int .i64 clock, .int .i64 full], .agg #[.int .i64 (a : Int), .int .i64 (b : Int)]] w (Gives w (.tuple #[.agg #[.string (movedS s a b c), .int .i64 (1 - side), .int .i64 (clockA s clock b), .int .i64 (fullA side full)], .int .u8 (takenN s b : Nat), .int .i64 0])) := by
  unfold Gives
  obtain ⟨W1, hW1⟩ : ∃ W1, ((w.alloc (.cells #[.string s, .int .i64 side, .int .i64 clock, .int .i64 full] 23)).alloc (.cells #[.int .i64 (a : Int), .int .i64 (b : Int)] 48)).alloc (.cells #[.string ⟨#[]⟩, .int .i64 0, .int .i64 0, .int .i64 0] 23) = W1 := ⟨_, rfl⟩
  obtain ⟨hB, bP, bM, bR⟩ := ap_start hW1
  obtain ⟨p0, p1, p2, p3⟩ := ppos_cells bP
  have HC := Lib.hid hc
  have HM := Lib.hid h
  have HW := Lib.hid hW1
  clear hc h hW1
  have hbs : b < s.size := by omega
  have hbk : s[b].toNat = x := (bAt_eq s b hbs).trans hx
  have hb0 : (0 : Int) ≤ (b : Int) := by omega
  have hb9 : (b : Int) < 90 := by omega
  have HK := Lib.hid hk
  have HMV := Lib.hid fun W => moved_is s side clock full a b c x W hs ha hbb hab hside h0 h1 h2 h3 hcc hx
  clear hx hk hside
  obtain ⟨m0, m1⟩ : W1.cell? ⟨w.heap.size + 1, 0, none⟩ = some (.int .i64 (a : Int)) ∧ W1.cell? ⟨w.heap.size + 1, 1, none⟩ = some (.int .i64 (b : Int)) := ⟨bM.cell 0, bM.cell 1⟩
  go_enter Tryz.func81, Tryz.ntmps81
  go_wp2_with fail
  rw [HW.out]
  go_wp2_with fail
  refine (check_is s side clock full 0 _ HC.out).mono ?_
  rintro e w1 ⟨rfl, hb⟩
  have bR1 := bR.next hb
  obtain ⟨q0, q1, q2, q3⟩ := ppos_cells (bP.next hb)
  obtain ⟨m0, m1⟩ : w1.cell? ⟨w.heap.size + 1, 0, none⟩ = some (.int .i64 (a : Int)) ∧ w1.cell? ⟨w.heap.size + 1, 1, none⟩ = some (.int .i64 (b : Int)) := ⟨(bM.next hb).cell 0, (bM.next hb).cell 1⟩
  go_wp2_with fail
  refine (isMove_is s side clock full a b true _ HM.out).mono ?_
  rintro e w2 ⟨rfl, hb2⟩
  have hB2 := (hB.trans (hb.mono hB.size)).trans (hb2.mono (hB.trans (hb.mono hB.size)).size)
  have bR2 := bR1.next hb2
  have bP2 := (bP.next hb).next hb2
  have bM2 := (bM.next hb).next hb2
  have t0 : w2.cell? ⟨w.heap.size, 0, none⟩ = some (.string s) := bP2.cell 0
  have t1 : w2.cell? ⟨w.heap.size + 1, 1, none⟩ = some (.int .i64 (b : Int)) := bM2.cell 1
  have t2 : w2.cell? ⟨w.heap.size, 1, none⟩ = some (.int .i64 side) := bP2.cell 1
  have t3 : w2.cell? ⟨w.heap.size, 2, none⟩ = some (.int .i64 clock) := bP2.cell 2
  have t4 : w2.cell? ⟨w.heap.size, 3, none⟩ = some (.int .i64 full) := bP2.cell 3
  have t5 : w2.cell? ⟨w.heap.size + 1, 0, none⟩ = some (.int .i64 (a : Int)) := bM2.cell 0
  go_wp2_with fail
  refine (kind_is x k _ HK.out).mono ?_
  rintro e w3 ⟨rfl, rfl⟩
  go_wp2_with fail
  refine (HMV.out _).mono ?_
  rintro e w4 ⟨rfl, hb4⟩
  obtain ⟨W5, hW5⟩ : ∃ W5, w4.alloc (.cells #[.string (movedS s a b c), .int .i64 (1 - side), .int .i64 (clockA s clock b), .int .i64 (fullA side full)] 23) = W5 := ⟨_, rfl⟩
  have hB4 := hB2.trans (hb4.mono hB2.size)
  have hB5 : Below w.heap.size w W5 := by rw [← hW5]; exact hB4.alloc hB4.size _
  have bR5 : Blk W5 (w.heap.size + 2) 23 #[.string ⟨#[]⟩, .int .i64 0, .int .i64 0, .int .i64 0] := by rw [← hW5]; exact (bR2.next hb4).alloc _
  have bQ5 : Blk W5 w4.heap.size 23 #[.string (movedS s a b c), .int .i64 (1 - side), .int .i64 (clockA s clock b), .int .i64 (fullA side full)] := by rw [← hW5]; exact Blk.new _ _ _ rfl
  obtain ⟨g0, g1, g2, g3⟩ := ppos_cells bR5
  obtain ⟨f0, f1, f2, f3⟩ := ppos_frozen bR5
  obtain ⟨u0, u1, u2, u3⟩ := ppos_cells bQ5
  have n1 : w.heap.size + 1 + 1 ≠ w4.heap.size := by have := (bR2.next hb4).lt; omega
  have n2 : w4.heap.size ≠ w.heap.size + 1 + 1 := fun e => n1 e.symm
  go_wp2_with fail
  refine bodyPost_ret (res_pos3 rfl _ _ rfl (mvEnd (bR5) (by omega) (hB5)).1) rfl ⟨rfl, (mvEnd (bR5) (by omega) (hB5)).2⟩
theorem apply_is (s : ByteArray) (side clock full a b : Int) (v : Value) (w : World) (h : applyV s side clock full a b = v) :
    Calls Tryz.prog 81 #[.agg #[.string s, .int .i64 side, .int .i64 clock, .int .i64 full], .agg #[.int .i64 a, .int .i64 b]] w (Gives w v) := by
  subst h
  unfold applyV
  by_cases hc : checkN s side clock full = 0
  · rw [if_neg (fun e => e hc)]
    have hc' : (checkN s side clock full : Int) = 0 := by rw [hc]; rfl
    have hp := (check_zero hc').1
    cases hm : isM s side a b
    · rw [if_neg (by simp)]
      exact apply_not s side clock full a b w hc' hm
    · obtain ⟨hB, ⟨ha0, ha9⟩, ⟨hb0, hb9⟩, hcan⟩ := isM_parts hm
      obtain ⟨m, rfl⟩ : ∃ m : Nat, a = m := ⟨a.toNat, by omega⟩
      obtain ⟨n, rfl⟩ : ∃ n : Nat, b = n := ⟨b.toNat, by omega⟩
      rw [Int.toNat_natCast, Int.toNat_natCast] at hcan ⊢
      have hz := isB_size hB
      by_cases hk : kindN (bAt s n) = 75
      · rw [if_neg (fun e => e.2 hk)]
        exact apply_king s side clock full m n (bAt s n) w hc' hm (by omega) hz rfl hk
      · rw [if_pos ⟨rfl, hk⟩]
        simp only [partsB, Bool.and_eq_true, Bool.or_eq_true, beq_iff_eq, decide_eq_true_eq] at hp
        exact apply_moves s side clock full m n (bAt s m) (bAt s n) (kindN (bAt s n)) w hc' hm (by omega) (by omega) hz rfl rfl (by simp; omega) (can_self hcan) hp.1.1.1.1.2 hp.1.1.1.2 hp.1.1.2 hp.1.2 hp.2 rfl
  · rw [if_pos hc]
    exact apply_bad s side clock full a b _ w rfl (by simp; omega)
end Go.Proofs.YtbdgbihdhbjljaaGreatDoor

namespace Go.Proofs.YtbdgbihdhbjljaaGreatDoor
open Go.RowKit Go.Shelf
open M (S)

def hasM (l : List (Nat × Nat)) (a b : Nat) : Bool := l.any fun m => (m.1 == a) && (m.2 == b)
theorem hasM_iff {l : List (Nat × Nat)} {a b : Nat} : hasM l a b = true ↔ (a, b) ∈ l := by
  unfold hasM
  rw [List.any_eq_true]
  constructor
  · rintro ⟨⟨x, y⟩, h, h2⟩
    simp only [Bool.and_eq_true, beq_iff_eq] at h2
    rw [← h2.1, ← h2.2]
    exact h
  · intro h
    exact ⟨(a, b), h, by simp⟩
theorem hasM_yes {l : List (Nat × Nat)} {a b k : Nat} (hk : k < l.length) (h : ((l[k].1 : Int) == (a : Int) && (l[k].2 : Int) == (b : Int)) = true) : hasM l a b = true := by
  rw [hasM_iff]
  simp only [Bool.and_eq_true, beq_iff_eq] at h
  have : (a, b) = l[k] := by
    have h1 : l[k].1 = a := by omega
    have h2 : l[k].2 = b := by omega
    rw [← h1, ← h2]
  rw [this]
  exact List.getElem_mem hk
theorem hasM_no {l : List (Nat × Nat)} {a b : Nat} (h : ∀ k (hk : k < l.length), ((l[k].1 : Int) == (a : Int) && (l[k].2 : Int) == (b : Int)) = false) : hasM l a b = false := by
  rw [Bool.eq_false_iff]
  intro h2
  rw [hasM_iff] at h2
  obtain ⟨k, hk, e⟩ := List.mem_iff_getElem.1 h2
  have := h k hk
  rw [e] at this
  simp at this
set_option maxRecDepth 100000 in
set_option maxHeartbeats 2000000 in
theorem has_any (A : Option Addr) (l : List (Nat × Nat)) (n c a b : Nat) (w : World) (hx : Rd w A (mvs l)) (hn : l.length = n) (hm : n ≤ 1000000) :
    Calls Tryz.prog 26 #[.slice A n c, .agg #[.int .i64 (a : Int), .int .i64 (b : Int)]] w (Gives w (.bool (hasM l a b))) := by
  unfold Gives
  obtain ⟨r, hr⟩ : ∃ r, hasM l a b = r := ⟨_, rfl⟩
  have HR := Lib.hid hr
  have HN := Lib.hid hn
  rw [hr]
  clear hn hr
  obtain ⟨W0, hW0⟩ : ∃ W0, w.alloc (.cells #[.int .i64 (a : Int), .int .i64 (b : Int)] 48) = W0 := ⟨_, rfl⟩
  have hB0 : Below w.heap.size w W0 := by rw [← hW0]; exact (by repeat (first | exact Below.refl _ _ | (refine Below.setCell ?_ (by first | omega | (simp; done) | (simp; omega) | (simp at *; omega)) _) | (refine Below.alloc ?_ (by first | omega | (simp; done) | (simp; omega) | (simp at *; omega)) _) | refine Below.drew ?_ | (refine below_drewN ?_ _) | (refine Below.trans ?_ (Below.mono (by assumption) (by first | omega | (simp; done) | (simp; omega) | (simp at *; omega))))))
  have bM0 : Blk W0 w.heap.size 48 #[.int .i64 (a : Int), .int .i64 (b : Int)] := by rw [← hW0]; exact Blk.new _ _ _ rfl
  have HW := Lib.hid hW0
  clear hW0
  go_enter Tryz.func26, Tryz.ntmps26
  go_wp2
  rw [HW.out]
  go_loopw [5] (fun i wr => ∃ k : Nat, k ≤ n ∧ i = .int .i64 k ∧ Blk wr w.heap.size 48 #[.int .i64 (a : Int), .int .i64 (b : Int)] ∧ Below w.heap.size w wr ∧ Hid (∀ j (hj : j < l.length), j < k → ((l[j].1 : Int) == (a : Int) && (l[j].2 : Int) == (b : Int)) = false)) (fun i _ => n - (intOf i).toNat)
  case atStart => exact ⟨0, Nat.zero_le _, rfl, bM0, hB0, fun j _ h => absurd h (Nat.not_lt_zero _)⟩
  case round =>
    obtain ⟨k, hk, rfl, bM, hB, hno⟩ := hrel
    by_cases hlt : k < n
    · have hkl : k < l.length := by rw [HN.out]; exact hlt
      obtain ⟨g1, o1, rfl, c0, c1⟩ := hx.move hkl
      obtain ⟨u, hu⟩ : ∃ u, l[k].1 = u := ⟨_, rfl⟩
      obtain ⟨v, hv⟩ : ∃ v, l[k].2 = v := ⟨_, rfl⟩
      have HU := Lib.hid hu
      have HV := Lib.hid hv
      rw [hu] at c0
      rw [hv] at c1
      have hc0 := (hB.cell (p := ⟨g1, o1 + k * 2, none⟩) (cell_lt c0)).trans c0
      have hc1 := (hB.cell (p := ⟨g1, o1 + k * 2 + 1, none⟩) (cell_lt c1)).trans c1
      have m0 : wr.cell? ⟨w.heap.size, 0, none⟩ = some (.int .i64 (a : Int)) := bM.cell 0
      have m1 : wr.cell? ⟨w.heap.size, 1, none⟩ = some (.int .i64 (b : Int)) := bM.cell 1
      have b1 : (k : Int) < (n : Int) := by omega
      have hne := eql_move
      clear c0 c1 hu hv
      cases he : ((u : Int) == (a : Int) && (v : Int) == (b : Int))
      · have HE := Lib.hid he
        go_wp2_with fail
        try (go_quiet (fail))
        go_wp2_with fail
        go_roundw
        case rel =>
          refine ⟨k + 1, by omega, by go_num, by first | exact bM | exact bM.next (below_drewN (Below.refl _ _) _), by first | exact hB | exact below_drewN hB _, ?_⟩
          show ∀ j (hj : j < l.length), j < k + 1 → _
          intro j hj hjk
          by_cases e : j = k
          · subst e
            rw [HU.out, HV.out]
            exact HE.out
          · exact hno.out j hj (by omega)
        case measure => simp [intOf]; omega
      · have K : Hid (r = true) := by
          show _ = _
          rw [← HR.out]
          exact hasM_yes hkl (by rw [HU.out, HV.out]; exact he)
        go_wp2_with fail
        try (go_quiet (fail))
        go_wp2_with fail
        go_ret
        exact ⟨by rw [K.out]; rfl, by first | exact hB | exact below_drewN hB _⟩
    · obtain rfl : k = n := by omega
      have K : Hid (r = false) := by
        show _ = _
        rw [← HR.out]
        exact hasM_no fun j hj => hno.out j hj (by rw [← HN.out]; exact hj)
      go_wp2
      go_ret
      exact ⟨by rw [K.out]; rfl, hB⟩
theorem mv6_set {h k a b : Nat} {x y z : Value} {W : World} (hS : W.cell? ⟨h, 0, none⟩ = some x ∧ W.cell? ⟨h, 1, none⟩ = some y ∧ W.cell? ⟨k, a, none⟩ = some z) (hk : h ≠ k) (hab : a ≠ b) (u : Value) : (W.setCell ⟨k, b, none⟩ u).cell? ⟨h, 0, none⟩ = some x ∧ (W.setCell ⟨k, b, none⟩ u).cell? ⟨h, 1, none⟩ = some y ∧ (W.setCell ⟨k, b, none⟩ u).cell? ⟨k, a, none⟩ = some z := by
  obtain ⟨h0, h1, h2⟩ := hS
  refine ⟨?_, ?_, ?_⟩
  · rw [World.cell?_setCell_other _ _ _ _ (by intro e; injection e with e1; exact hk e1.symm)]
    exact h0
  · rw [World.cell?_setCell_other _ _ _ _ (by intro e; injection e with e1; exact hk e1.symm)]
    exact h1
  · rw [World.cell?_setCell_other _ _ _ _ (by intro e; injection e with _ e2; exact hab e2.symm)]
    exact h2
set_option maxRecDepth 100000 in
set_option maxHeartbeats 4000000 in
theorem rmoved_is (s : ByteArray) (a b c : Nat) (w : World) (hs : s.size = 90) (ha : a < 90) (hb : b < 90) (hab : a ≠ b) (hc : bAt s a = c) :
    Calls Tryz.prog 95 #[.string s, .agg #[.int .i64 (a : Int), .int .i64 (b : Int)]] w (Gives w (.string (movedS s a b c))) := by
  unfold Gives
  obtain ⟨W1, hW1⟩ : ∃ W1, w.alloc (.cells #[.int .i64 (a : Int), .int .i64 (b : Int)] 48) = W1 := ⟨_, rfl⟩
  have hB : Below w.heap.size w W1 := by rw [← hW1]; exact (by repeat (first | exact Below.refl _ _ | (refine Below.setCell ?_ (by first | omega | (simp; done) | (simp; omega) | (simp at *; omega)) _) | (refine Below.alloc ?_ (by first | omega | (simp; done) | (simp; omega) | (simp at *; omega)) _) | refine Below.drew ?_ | (refine below_drewN ?_ _) | (refine Below.trans ?_ (Below.mono (by assumption) (by first | omega | (simp; done) | (simp; omega) | (simp at *; omega))))))
  have bM : Blk W1 w.heap.size 48 #[.int .i64 (a : Int), .int .i64 (b : Int)] := by rw [← hW1]; exact Blk.new _ _ _ rfl
  have hsz : W1.heap.size = w.heap.size + 1 := by rw [← hW1]; simp
  have hk1 : w.heap.size ≠ W1.heap.size := by omega
  have hk3 : w.heap.size ≤ W1.heap.size := by omega
  have HW := Lib.hid hW1
  clear hsz hW1
  obtain ⟨C, W2, hconv, hcell, hfr, hbel⟩ := bytes_of s W1 hs
  have bM2 := bM.next hbel
  have ca := hcell a ha
  have cb := hcell b hb
  rw [hc] at ca
  have hba : b ≠ a := fun e => hab e.symm
  have fa := hfr a ha
  have fb := hfr b hb
  have m0 : W2.cell? ⟨w.heap.size, 0, none⟩ = some (.int .i64 (a : Int)) := bM2.cell 0
  have m1 : W2.cell? ⟨w.heap.size, 1, none⟩ = some (.int .i64 (b : Int)) := bM2.cell 1
  have ha0 : (0 : Int) ≤ (a : Int) := by omega
  have hb0 : (0 : Int) ≤ (b : Int) := by omega
  have ha9 : (a : Int) < 90 := by omega
  have hb9 : (b : Int) < 90 := by omega
  go_enter Tryz.func95, Tryz.ntmps95
  go_wp2_with fail
  rw [HW.out, hconv]
  go_wp2_with fail
  have hS : W2.drew.cell? ⟨w.heap.size, 0, none⟩ = some (.int .i64 (a : Int)) ∧ W2.drew.cell? ⟨w.heap.size, 1, none⟩ = some (.int .i64 (b : Int)) ∧ W2.drew.cell? ⟨W1.heap.size, a, none⟩ = some (.int .u8 (c : Int)) := ⟨m0, m1, ca⟩
  have cb' : W2.drew.cell? ⟨W1.heap.size, b, none⟩ = some (.int .u8 (bAt s b : Nat)) := cb
  have fb' : W2.drew.frozen? ⟨W1.heap.size, b, none⟩ = false := fb
  go_region_held3 (fun W => W.cell? ⟨w.heap.size, 0, none⟩ = some (.int .i64 (a : Int)) ∧ W.cell? ⟨w.heap.size, 1, none⟩ = some (.int .i64 (b : Int)) ∧ W.cell? ⟨W1.heap.size, a, none⟩ = some (.int .u8 (c : Int)))
    (first | exact hS | exact mv6_set (by assumption) hk1 hab _)
    (fail)
  obtain ⟨W3, hW3⟩ : ∃ W3, (W2.setCell ⟨W1.heap.size, b, none⟩ (.int .u8 (c : Int))).drew = W3 := ⟨_, rfl⟩
  rename_i hh
  rw [hW3] at hh ⊢
  obtain ⟨n0, n1, na⟩ := hh
  have fa3 : W3.frozen? ⟨W1.heap.size, a, none⟩ = false := by rw [← hW3]; simpa using fa
  clear hS cb' fb'
  go_wp2_with fail
  have hback : (convert 112 9 (.slice (some ⟨W1.heap.size, 0, none⟩) 90 C)).run Tryz.prog (W3.setCell ⟨W1.heap.size, a, none⟩ (.int .u8 46)) = .ok (.string (movedS s a b c)) (W3.setCell ⟨W1.heap.size, a, none⟩ (.int .u8 46)) := by
    have hlen : s.data.toList.length = 90 := by simpa using hs
    have hmv : movedS s a b c = ⟨((s.data.toList.set a (UInt8.ofNat 46)).set b (UInt8.ofNat c)).toArray⟩ := by simp [movedS, putS]
    rw [hmv]
    refine string_of (W3.setCell ⟨W1.heap.size, a, none⟩ (.int .u8 46)) W1.heap.size C _ (by rw [List.length_set, List.length_set]; exact hlen) fun i hi => ?_
    have hc256 : c < 256 := by rw [← hc]; exact bAt_lt s a
    by_cases e2 : i = a
    · subst e2
      rw [World.cell?_setCell_same' _ _ _ (by rw [na]; rfl), List.getElem_set_ne hba, List.getElem_set_self]
      rfl
    · rw [World.cell?_setCell_other _ _ _ _ (by intro e; injection e with _ e3; exact e2 e3.symm), ← hW3]
      show World.cell? (W2.setCell ⟨W1.heap.size, b, none⟩ (.int .u8 (c : Int))) _ = _
      by_cases e1 : i = b
      · subst e1
        rw [World.cell?_setCell_same' _ _ _ (by rw [cb]; rfl), List.getElem_set_self, UInt8.toNat_ofNat_of_lt' (by omega)]
      · rw [World.cell?_setCell_other _ _ _ _ (by intro e; injection e with _ e3; exact e1 e3.symm), hcell i hi, List.getElem_set_ne (fun e => e1 e.symm), List.getElem_set_ne (fun e => e2 e.symm), bAt_list]
  have hBf : Below w.heap.size w (W3.setCell ⟨W1.heap.size, a, none⟩ (.int .u8 46)) := by
    rw [← hW3]
    exact (((hB.trans (hbel.mono hB.size)).setCell (p := ⟨W1.heap.size, b, none⟩) hk3 _).drew).setCell (p := ⟨W1.heap.size, a, none⟩) hk3 _
  rw [hback]
  clear hback hW3 hcell hfr hconv
  go_wp2
  go_ret
  exact ⟨rfl, hBf⟩
theorem rmoved_any (s : ByteArray) (a b c : Nat) (t : ByteArray) (w : World) (hs : s.size = 90) (ha : a < 90) (hb : b < 90) (hab : a ≠ b) (hc : bAt s a = c) (ht : movedS s a b c = t) :
    Calls Tryz.prog 95 #[.string s, .agg #[.int .i64 (a : Int), .int .i64 (b : Int)]] w (Gives w (.string t)) := by subst ht; exact rmoved_is s a b c w hs ha hb hab hc
end Go.Proofs.YtbdgbihdhbjljaaGreatDoor
