/- A game that is taken back some moves, and played on by these again, is where it was: the call answers true. -/
import Derived.Test.YtdpaiolppccinaaDoorGameG
namespace Go.Proofs.YtdpaiolppccinaaDoor.ghalf
open Go.RowKit Go.Shelf
open M (S)

/-- Behind some moves. -/
structure Inv (n₀ : Nat) (w : World) (g : Nat) (v : Value) (st : List Stp) (now : Po) (wr : World) : Prop where
  at_ : GAt n₀ wr g v st now
  lk : Lk st now
  bel : Below w.heap.size w wr
theorem Inv.next {n₀ : Nat} {w : World} {g : Nat} {v : Value} {st : List Stp} {now : Po} {wr w' : World} (h : Inv n₀ w g v st now wr) (hb : Below wr.heap.size wr w') : Inv n₀ w g v st now w' :=
  ⟨h.at_.next hb, h.lk, h.bel.trans (hb.mono h.bel.size)⟩
theorem Inv.made {n₀ : Nat} {w : World} {g : Nat} {v : Value} {st : List Stp} {now : Po} {wr : World} (h : Inv n₀ w g v st now wr) (hg : w.heap.size ≤ g) (hn : w.heap.size ≤ n₀) (hT : Tab wr) (a b : Int) (hl : st.length < 1024) :
    Calls Tryd.prog 6 #[.pointer (some ⟨g, 0, none⟩), .agg #[.int .i64 a, .int .i64 b]] wr fun e w' => ∃ r v' st' now', e = .returned r ∧ st'.length ≤ st.length + 1 ∧ Inv n₀ w g v' st' now' w' := by
  obtain ⟨q, y', z', u', t, kk, hV, -⟩ := makeV_parts now.s now.y now.z now.u a b
  refine (gmake_any h.at_ hT a b hl q y' z' u' kk t (kk == 0) hV rfl).mono fun e w' hh => ?_
  by_cases hkk : kk = 0
  · simp only [hkk, beq_self_eq_true, if_true] at hh
    obtain ⟨rfl, v', hG', _, hf⟩ := hh
    exact ⟨_, v', _, _, rfl, by simp, hG', lk_snoc (x := ⟨a, b, now⟩) h.lk ⟨t, by rw [hV, hkk]⟩, h.bel.trans (hf.below (OfG.low h.at_ hg hn) h.bel.size)⟩
  · rw [show (kk == 0) = false by simpa using hkk] at hh
    simp only [Bool.false_eq_true, if_false] at hh
    obtain ⟨rfl, hb⟩ := hh
    exact ⟨_, v, st, now, rfl, by omega, h.next hb⟩

/-- With the past that was told, and the position of then. -/
structure Inv2 (n₀ : Nat) (w : World) (g B nb : Nat) (ms : List (Int × Int)) (q : Po) (v : Value) (st : List Stp) (now : Po) (wr : World) : Prop where
  at_ : GAt n₀ wr g v st now
  past : Blk wr B 32 (mvz ms).toArray
  box : Blk wr nb 23 #[.string q.s, .int .i64 q.y, .int .i64 q.z, .int .i64 q.u]
  sep : ∀ k, v.ownBlock = some k → k ≠ B ∧ k ≠ nb
  bel : Below w.heap.size w wr
structure Fix (n₀ : Nat) (w : World) (g B nb : Nat) : Prop where
  b : n₀ ≤ B
  n : n₀ ≤ nb
  g : w.heap.size ≤ g
  w : w.heap.size ≤ n₀
theorem Inv2.next {n₀ : Nat} {w : World} {g B nb : Nat} {ms : List (Int × Int)} {q : Po} {v : Value} {st : List Stp} {now : Po} {wr w' : World} (h : Inv2 n₀ w g B nb ms q v st now wr) (hb : Below wr.heap.size wr w') : Inv2 n₀ w g B nb ms q v st now w' :=
  ⟨h.at_.next hb, h.past.next hb, h.box.next hb, h.sep, h.bel.trans (hb.mono h.bel.size)⟩
theorem Inv2.far {n₀ : Nat} {w : World} {g B nb : Nat} {ms : List (Int × Int)} {q : Po} {v v' : Value} {st st' : List Stp} {now now' : Po} {wr w' : World} (h : Inv2 n₀ w g B nb ms q v st now wr) (f : Fix n₀ w g B nb) (hg : GAt n₀ w' g v' st' now') (ho : ∀ k, v'.ownBlock = some k → v.ownBlock = some k ∨ wr.heap.size ≤ k) (hf : Far (OfG g v) wr w') : Inv2 n₀ w g B nb ms q v' st' now' w' := by
  have hlt := h.at_.lt
  have hB := h.past.lt
  have hN := h.box.lt
  refine ⟨hg, hf.blk h.past ?_, hf.blk h.box ?_, ?_, h.bel.trans (hf.below (OfG.low h.at_ f.g f.w) h.bel.size)⟩
  · rintro (e | e)
    · have := f.b; omega
    · exact (h.sep _ e).1 rfl
  · rintro (e | e)
    · have := f.n; omega
    · exact (h.sep _ e).2 rfl
  · intro k e
    rcases ho k e with e | e
    · exact h.sep k e
    · exact ⟨by omega, by omega⟩
theorem Inv2.back {n₀ : Nat} {w : World} {g B nb : Nat} {ms : List (Int × Int)} {q : Po} {v : Value} {S : List Stp} {k : Nat} {wr : World} (h : Inv2 n₀ w g B nb ms q v (S.take (k + 1)) (posAt S q (k + 1)) wr) (f : Fix n₀ w g B nb) (hk : k < S.length) (hl : S.length ≤ 1024) :
    Calls Tryd.prog 10 #[.pointer (some ⟨g, 0, none⟩)] wr fun e w' => e = .returned (.int .i64 0) ∧ ∃ v', Inv2 n₀ w g B nb ms q v' (S.take k) (posAt S q k) w' := by
  have e : S.take (k + 1) = S.take k ++ [S[k]] := List.take_succ_eq_append_getElem hk
  have h' := h.at_
  rw [e] at h'
  refine (unmake_is h' (by rw [List.length_take]; omega)).mono fun e w' hh => ?_
  obtain ⟨rfl, v', hG', ho, hf⟩ := hh
  rw [← posAt_lt (now := q) hk] at hG'
  exact ⟨rfl, v', h.far f hG' ho hf⟩
theorem Inv2.on {n₀ : Nat} {w : World} {g B nb : Nat} {ms : List (Int × Int)} {q : Po} {v : Value} {S : List Stp} {k : Nat} {wr : World} (h : Inv2 n₀ w g B nb ms q v (S.take k) (posAt S q k) wr) (f : Fix n₀ w g B nb) (hT : Tab wr) (hS : Lk S q) (hk : k < S.length) (hl : S.length ≤ 1024) (a b : Int) (ha : S[k].a = a) (hb : S[k].b = b) :
    Calls Tryd.prog 6 #[.pointer (some ⟨g, 0, none⟩), .agg #[.int .i64 a, .int .i64 b]] wr fun e w' => e = .returned (.int .i64 0) ∧ ∃ v', Inv2 n₀ w g B nb ms q v' (S.take (k + 1)) (posAt S q (k + 1)) w' := by
  obtain ⟨t, hV⟩ := hS k hk
  rw [← posAt_lt (now := q) hk, ha, hb] at hV
  refine (gmake_any h.at_ hT a b (by rw [List.length_take]; omega) _ _ _ _ 0 t true hV rfl).mono fun e w' hh => ?_
  simp only [if_true] at hh
  obtain ⟨rfl, v', hG', ho, hf⟩ := hh
  have e : S.take k ++ [Stp.mk a b (posAt S q k)] = S.take (k + 1) := by
    rw [List.take_succ_eq_append_getElem hk, posAt_lt hk, ← ha, ← hb]
  rw [e] at hG'
  exact ⟨rfl, v', h.far f hG' ho hf⟩
theorem fin_of {n₀ : Nat} {w : World} {g B nb : Nat} {ms : List (Int × Int)} {q : Po} {v : Value} {st : List Stp} {W : World} (h : Inv2 n₀ w g B nb ms q v st q W) : W.cell? ⟨nb, 0, none⟩ = some (.string q.s) ∧ W.cell? ⟨nb, 1, none⟩ = some (.int .i64 q.y) ∧ W.cell? ⟨nb, 2, none⟩ = some (.int .i64 q.z) ∧ W.cell? ⟨nb, 3, none⟩ = some (.int .i64 q.u) ∧ Inv2 n₀ w g B nb ms q v st q W := by
  obtain ⟨p0, p1, p2, p3⟩ := ppos_cells h.box
  exact ⟨p0, p1, p2, p3, h⟩
theorem fin_keep {n₀ : Nat} {w : World} {g B nb : Nat} {ms : List (Int × Int)} {q : Po} {v : Value} {st : List Stp} {W W' : World} (h : W.cell? ⟨nb, 0, none⟩ = some (.string q.s) ∧ W.cell? ⟨nb, 1, none⟩ = some (.int .i64 q.y) ∧ W.cell? ⟨nb, 2, none⟩ = some (.int .i64 q.z) ∧ W.cell? ⟨nb, 3, none⟩ = some (.int .i64 q.u) ∧ Inv2 n₀ w g B nb ms q v st q W) (hb : Below W.heap.size W W') : W'.cell? ⟨nb, 0, none⟩ = some (.string q.s) ∧ W'.cell? ⟨nb, 1, none⟩ = some (.int .i64 q.y) ∧ W'.cell? ⟨nb, 2, none⟩ = some (.int .i64 q.z) ∧ W'.cell? ⟨nb, 3, none⟩ = some (.int .i64 q.u) ∧ Inv2 n₀ w g B nb ms q v st q W' := fin_of (h.2.2.2.2.next hb)
theorem fin_inv {n₀ : Nat} {w : World} {g B nb : Nat} {ms : List (Int × Int)} {q : Po} {v : Value} {st : List Stp} {W : World} (h : W.cell? ⟨nb, 0, none⟩ = some (.string q.s) ∧ W.cell? ⟨nb, 1, none⟩ = some (.int .i64 q.y) ∧ W.cell? ⟨nb, 2, none⟩ = some (.int .i64 q.z) ∧ W.cell? ⟨nb, 3, none⟩ = some (.int .i64 q.u) ∧ Inv2 n₀ w g B nb ms q v st q W) : Inv2 n₀ w g B nb ms q v st q W := h.2.2.2.2
set_option maxRecDepth 100000 in
set_option maxHeartbeats 4000000 in
theorem walk (s : ByteArray) (y z u : Int) (A : Option Addr) (l : List (Int × Int)) (c : Nat) (m : Int) (w : World) (hT : Tab w) (rd : ∀ j a b, l[j]? = some (a, b) → ∃ ad, A = some ad ∧ w.cell? (ad.add (j * 2)) = some (.int .i64 a) ∧ w.cell? ⟨(ad.add (j * 2)).block, (ad.add (j * 2)).off + 1, none⟩ = some (.int .i64 b)) : Calls Tryd.prog 3 #[.agg #[.string s, .int .i64 y, .int .i64 z, .int .i64 u], .slice A l.length c, .int .i64 m] w (Gives w (.bool true)) := by
  unfold Gives
  obtain ⟨n, hn⟩ : ∃ n, l.length = n := ⟨_, rfl⟩
  rw [hn]
  obtain ⟨W0, hW0⟩ : ∃ W0, w.alloc (.cells #[.string s, .int .i64 y, .int .i64 z, .int .i64 u] 23) = W0 := ⟨_, rfl⟩
  have hB : Below w.heap.size w W0 := by rw [← hW0]; exact (by repeat (first | exact Below.refl _ _ | (refine Below.setCell ?_ (by first | omega | (simp; done) | (simp; omega) | (simp at *; omega)) _) | (refine Below.alloc ?_ (by first | omega | (simp; done) | (simp; omega) | (simp at *; omega)) _) | refine Below.drew ?_ | (refine below_drewN ?_ _) | (refine Below.trans ?_ (Below.mono (by assumption) (by first | omega | (simp; done) | (simp; omega) | (simp at *; omega))))))
  have bP : Blk W0 w.heap.size 23 #[.string s, .int .i64 y, .int .i64 z, .int .i64 u] := by rw [← hW0]; exact Blk.new _ _ _ rfl
  obtain ⟨p0, p1, p2, p3⟩ := ppos_cells bP
  have hT0 := hT.next hB
  have HW := Lib.hid hW0
  have HT := Lib.hid hT
  have RD := Lib.hid rd
  have HN := Lib.hid hn
  clear hW0 hT rd hn
  by_cases hlim : 200 < s.size ∨ 30 < n ∨ m < 0 ∨ 30 < m
  · have d1 : (decide (200 < (s.size : Int)) || decide (30 < (n : Int)) || decide (m < 0) || decide (30 < m)) = true := by
      simp only [Bool.or_eq_true, decide_eq_true_eq]
      omega
    obtain ⟨x1, hx1⟩ : ∃ x, decide (200 < (s.size : Int)) = x := ⟨_, rfl⟩
    obtain ⟨x2, hx2⟩ : ∃ x, decide (30 < (n : Int)) = x := ⟨_, rfl⟩
    obtain ⟨x3, hx3⟩ : ∃ x, decide (m < 0) = x := ⟨_, rfl⟩
    obtain ⟨x4, hx4⟩ : ∃ x, decide (30 < m) = x := ⟨_, rfl⟩
    rw [hx1, hx2, hx3, hx4] at d1
    clear hlim
    cases x1 <;> cases x2 <;> cases x3 <;> cases x4 <;> first | (exfalso; simp at d1; done) | skip
    all_goals
      clear d1
      go_enter Tryd.func3, Tryd.ntmps3
      go_wp2_with fail
      rw [HW.out]
      go_wp2_with fail
      refine (live9_any _ hT0).mono ?_
      rintro e w9 ⟨rfl, hb⟩
      go_wp2
      go_ret
      exact ⟨rfl, hB.trans (hb.mono hB.size)⟩
  have hn30 : n ≤ 30 := by omega
  have hm0 : 0 ≤ m := by omega
  have hm30 : m ≤ 30 := by omega
  have d1 : decide (200 < (s.size : Int)) = false := by simp; omega
  have d2 : decide (30 < (n : Int)) = false := by simp; omega
  have d3 : decide (m < 0) = false := by simp; omega
  have d4 : decide (30 < m) = false := by simp; omega
  clear hlim
  by_cases hw : wellN s y z u = 0
  · have HM : Hid (0 ≤ m ∧ m ≤ 30) := ⟨hm0, hm30⟩
    have HL : Hid (n ≤ 30) := hn30
    clear hm0 hm30 hn30
    go_enter Tryd.func3, Tryd.ntmps3
    have HWE := Lib.hid hw
    clear hw
    go_wp2_with fail
    rw [HW.out]
    go_wp2_with fail
    refine (new_is s y z u _ hT0 HWE.out).mono ?_
    rintro e w1 ⟨g, rfl, hg, bG, hb⟩
    have hB1 := hB.trans (hb.mono hB.size)
    have HF : Hid (w.heap.size ≤ g ∧ w.heap.size ≤ w1.heap.size) := ⟨Nat.le_trans hB.size hg, hB1.size⟩
    have hI0 : Inv w1.heap.size w g (.slice none 0 0) [] ⟨s, y, z, u⟩ w1 := ⟨GAt.new bG, lk_nil _, hB1⟩
    generalize w1.heap.size = n₀ at HF hI0
    clear hb bP bG hT0 hB1 hg p0 p1 p2 p3 hB d1 d2 d3 d4
    go_wp2_with fail
    go_loopw [9] (fun i wr => ∃ (k : Nat) (v : Value) (st : List Stp) (now : Po), k ≤ n ∧ i = .int .i64 k ∧ Hid (st.length ≤ k) ∧ Hid (Inv n₀ w g v st now wr)) (fun i _ => n - (intOf i).toNat)
    case atStart => exact ⟨0, _, _, _, by omega, rfl, Nat.le_refl _, hI0⟩
    case round =>
      obtain ⟨k, v, st, now, hk, rfl, hst, hI⟩ := hrel
      clear hI0
      by_cases hlt : k < n
      · have b1 : (k : Int) < (n : Int) := by omega
        have hkl : k < l.length := by rw [HN.out]; exact hlt
        obtain ⟨a, b, hab⟩ : ∃ a b, l[k]? = some (a, b) := ⟨l[k].1, l[k].2, by rw [List.getElem?_eq_getElem hkl]⟩
        obtain ⟨ad, rfl, hc0, hc1⟩ := RD.out k a b hab
        have hB := hI.out.bel
        have m0 := (hB.cell (p := ad.add (k * 2)) (cell_lt hc0)).trans hc0
        have m1 := (hB.cell (p := ⟨(ad.add (k * 2)).block, (ad.add (k * 2)).off + 1, none⟩) (cell_lt hc1)).trans hc1
        have hTr := HT.out.below hB HT.out.lt
        have hm := hI.out.made HF.out.1 HF.out.2 hTr a b (by have := hst.out; have := HL.out; omega)
        have hn30 := HL.out
        clear hc0 hc1 hab hB
        go_wp2_with fail
        refine hm.mono ?_
        clear m0 m1 hm
        rintro e w3 ⟨r, v3, st3, now3, rfl, hl3, hI3⟩
        have HI3 := Lib.hid hI3
        clear hI3
        go_wp2_with fail
        go_roundw
        case rel => exact ⟨k + 1, v3, st3, now3, by omega, by go_num, by show st3.length ≤ k + 1; have := hst.out; omega, HI3⟩
        case measure => simp [intOf]; omega
      · have b1 : (n : Int) ≤ (k : Int) := by omega
        obtain ⟨N, hN⟩ : ∃ N, st.length = N := ⟨_, rfl⟩
        have hN30 : N ≤ 30 := by have := hst.out; have := HL.out; omega
        have hpast := past_is hI.out.at_ (by omega) N hN
        clear hst
        go_wp2_with fail
        refine hpast.mono ?_
        clear hpast
        rintro e w2 ⟨B, rfl, hBs, bB, hb⟩
        have hI2 := hI.out.next hb
        have hsep : ∀ k, v.ownBlock = some k → k < wr.heap.size := fun k e => (hI.out.at_.own e).2
        have hnB : n₀ ≤ B := Nat.le_trans hI.out.at_.le hBs
        clear hI hb
        go_wp2_with fail
        refine (position_is hI2.at_).mono ?_
        rintro e w3 ⟨rfl, hb⟩
        obtain ⟨W4, hW4⟩ : ∃ W4, w3.alloc (.cells #[.string now.s, .int .i64 now.y, .int .i64 now.z, .int .i64 now.u] 23) = W4 := ⟨_, rfl⟩
        have bN : Blk W4 w3.heap.size 23 #[.string now.s, .int .i64 now.y, .int .i64 now.z, .int .i64 now.u] := by rw [← hW4]; exact Blk.new _ _ _ rfl
        have hb4 : Below w2.heap.size w2 W4 := hb.trans (by rw [← hW4]; exact (below_one w3 _).mono hb.size)
        have hbs := hb.size
        have hBl := bB.lt
        have hF : Hid (Fix n₀ w g B w3.heap.size) := ⟨hnB, Nat.le_trans hI2.at_.le hb.size, HF.out.1, HF.out.2⟩
        have hI4 : Inv2 n₀ w g B w3.heap.size (st.map Stp.mv) now v st now W4 := ⟨hI2.at_.next hb4, bB.next hb4, bN, fun k e => by have := hsep k e; exact ⟨by omega, by omega⟩, hI2.bel.trans (hb4.mono hI2.bel.size)⟩
        have HLk := Lib.hid hI2.lk
        clear hb hb4 bN bB hI2 hsep hnB hbs hBl hBs
        go_wp2_with fail
        clear hW4
        generalize w3.heap.size = nb at hF hI4 ⊢
        refine (plies_is hI4.at_ N hN).mono ?_
        rintro e w5 ⟨rfl, rfl⟩
        go_wp2_with fail
        obtain ⟨K, hK, hKN⟩ : ∃ K : Nat, min m (N : Int) = (K : Int) ∧ K ≤ N := ⟨(min m (N : Int)).toNat, by have := HM.out; omega, by have := HM.out; omega⟩
        rw [hK]
        clear hK
        have HN2 : Hid (st.length = N) := hN
        have hI5 : Hid (Inv2 n₀ w g B nb (st.map Stp.mv) now v (st.take (N - 0)) (posAt st now (N - 0)) W4) := by
          show Inv2 _ _ _ _ _ _ _ _ _ _ _
          rw [List.take_of_length_le (by omega), posAt_end (by omega)]
          exact hI4
        clear hI4 hN
        go_loopw [13] (fun i wq => ∃ (j : Nat) (v : Value), j ≤ K ∧ i = .int .i64 j ∧ Hid (Inv2 n₀ w g B nb (st.map Stp.mv) now v (st.take (N - j)) (posAt st now (N - j)) wq)) (fun i _ => K - (intOf i).toNat)
        case atStart => exact ⟨0, _, Nat.zero_le _, rfl, hI5⟩
        case round =>
          obtain ⟨j, v6, hj, rfl, hI6⟩ := hrel
          clear hI5
          by_cases hlt2 : j < K
          · have b2 : (j : Int) < (K : Int) := by omega
            have hm : Calls Tryd.prog 10 #[.pointer (some ⟨g, 0, none⟩)] wr fun e w' => e = .returned (.int .i64 0) ∧ ∃ v', Inv2 n₀ w g B nb (st.map Stp.mv) now v' (st.take (N - (j + 1))) (posAt st now (N - (j + 1))) w' := by
              obtain ⟨k, hk⟩ : ∃ k, N - j = k + 1 := ⟨N - j - 1, by omega⟩
              have h6 := hI6.out
              rw [hk] at h6
              rw [show N - (j + 1) = k by omega]
              exact h6.back hF.out (by have := HN2.out; omega) (by have := HN2.out; omega)
            go_wp2_with fail
            refine hm.mono ?_
            clear hm
            rintro e w7 ⟨rfl, v7, hI7⟩
            have HI7 := Lib.hid hI7
            clear hI7
            go_wp2_with fail
            go_roundw
            case rel => exact ⟨j + 1, v7, by omega, by go_num, HI7⟩
            case measure => simp [intOf]; omega
          · obtain rfl : j = K := by omega
            go_wp2_with fail
            rw [show (N : Int) - (j : Int) = ((N - j : Nat) : Int) by omega]
            go_loopw [14] (fun i wq => ∃ (k : Nat) (v : Value), k ≤ N ∧ i = .int .i64 k ∧ Hid (Inv2 n₀ w g B nb (st.map Stp.mv) now v (st.take k) (posAt st now k) wq)) (fun i _ => N - (intOf i).toNat)
            case atStart => exact ⟨N - j, _, by omega, rfl, hI6⟩
            case round =>
              obtain ⟨i, v8, hi, rfl, hI8⟩ := hrel
              clear hI6
              by_cases hlt3 : i < N
              · have b3 : (i : Int) < (N : Int) := by omega
                have his : i < st.length := by rw [HN2.out]; exact hlt3
                have him : i < (st.map Stp.mv).length := by rw [List.length_map]; exact his
                obtain ⟨m0, m1⟩ := (Blk.rd hI8.out.past).mvz_at him
                obtain ⟨a, ha⟩ : ∃ a, st[i].a = a := ⟨_, rfl⟩
                obtain ⟨b, hb⟩ : ∃ b, st[i].b = b := ⟨_, rfl⟩
                have hmv : (st.map Stp.mv)[i] = (a, b) := by rw [List.getElem_map, ← ha, ← hb]; rfl
                rw [hmv] at m0 m1
                have hm := hI8.out.on hF.out (HT.out.below hI8.out.bel HT.out.lt) HLk.out his (by have := HN2.out; omega) a b ha hb
                clear ha hb hmv
                go_wp2_with fail
                refine hm.mono ?_
                clear hm m0 m1
                rintro e w9 ⟨rfl, v9, hI9⟩
                have HI9 := Lib.hid hI9
                clear hI9
                go_wp2_with fail
                go_roundw
                case rel => exact ⟨i + 1, v9, by omega, by go_num, HI9⟩
                case measure => simp [intOf]; omega
              · obtain rfl : i = N := by omega
                have b3 : (i : Int) ≤ (i : Int) := Int.le_refl _
                have hI10 : Inv2 n₀ w g B nb (st.map Stp.mv) now v8 st now wr := by
                  have := hI8.out
                  rw [List.take_of_length_le (by have := HN2.out; omega), posAt_end (by have := HN2.out; omega)] at this
                  exact this
                have hS : wr.drew.cell? ⟨nb, 0, none⟩ = some (.string now.s) ∧ wr.drew.cell? ⟨nb, 1, none⟩ = some (.int .i64 now.y) ∧ wr.drew.cell? ⟨nb, 2, none⟩ = some (.int .i64 now.z) ∧ wr.drew.cell? ⟨nb, 3, none⟩ = some (.int .i64 now.u) ∧ Inv2 n₀ w g B nb (st.map Stp.mv) now v8 st now wr.drew := fin_of (hI10.next (Below.refl _ _).drew)
                clear hI8 hI10
                go_wp2_with fail
                refine wp_region_held_drew (S := fun W => W.cell? ⟨nb, 0, none⟩ = some (.string now.s) ∧ W.cell? ⟨nb, 1, none⟩ = some (.int .i64 now.y) ∧ W.cell? ⟨nb, 2, none⟩ = some (.int .i64 now.z) ∧ W.cell? ⟨nb, 3, none⟩ = some (.int .i64 now.u) ∧ Inv2 n₀ w g B nb (st.map Stp.mv) now v8 st now W) (by kernel_rfl) (hS) (fun hHeld => ?_)
                refine wpAnyH_take (i := 0) (oi := { dst := some 97, op := Op.move (Operand.tmp 7), type := 26, pos := "law.go:154", after := #[], guard := none }) (v := ?_) rfl (by kernel_rfl) (by kernel_rfl) (by kernel_rfl) (fun _ _ _ h => h) (Or.inl ⟨by rfl, ?_⟩) (by assumption) ?_
                case refine_2 =>
                  intro w hSw
                  (try dsimp only at hSw)
                  (try go_simp)
                  all_goals (with_reducible rfl)
                (try dsimp only [Act.put]); (try simp only [List.setIfInBounds_toArray, List.set_cons_zero, List.set_cons_succ])
                refine wpAnyH_take (i := 2) (oi := { dst := some 99, op := Op.load 23 (Operand.tmp 11), type := 23, pos := "law.go:154", after := #[], guard := none }) (v := ?_) rfl (by kernel_rfl) (by kernel_rfl) (by kernel_rfl) (fun _ _ _ h => h) (Or.inl ⟨by rfl, ?_⟩) (by assumption) ?_
                case refine_2 =>
                  intro w hSw
                  (try dsimp only at hSw)
                  (try go_simp)
                  all_goals (with_reducible rfl)
                (try dsimp only [Act.put]); (try simp only [List.setIfInBounds_toArray, List.set_cons_zero, List.set_cons_succ])
                refine wpAnyH_ready (rs := [1]) (by kernel_rfl) (by simp) (AllReadyH.cons (o := { dst := some 98, op := Op.call { callee := Callee.value (Operand.func 8), args := #[Operand.tmp 97], argTypes := #[26] }, type := 23, pos := "law.go:154", after := #[{ on := 0, ground := Ground.data }], guard := none }) rfl (fun K hK => ?_) AllReadyH.nil)
                go_simp
                refine (position_is (fin_inv hHeld).at_).mono ?_; rintro e w10 ⟨rfl, hb⟩
                refine hK.out _ _ ?_ (fun hHeld => ?_)
                · first | with_reducible assumption | exact fin_keep (by assumption) hb
                clear hK K
                refine wpAnyH_take (i := 3) (oi := { dst := some 100, op := Op.binOp BinOp.eql 23 (Operand.tmp 98) (Operand.tmp 99) 23, type := 4, pos := "law.go:154", after := #[{ on := 1, ground := Ground.data }, { on := 2, ground := Ground.data }], guard := none }) (v := ?_) rfl (by kernel_rfl) (by kernel_rfl) (by kernel_rfl) (fun _ _ _ h => h) (Or.inl ⟨by rfl, ?_⟩) (by assumption) ?_
                case refine_2 =>
                  intro w hSw
                  (try dsimp only at hSw)
                  (try go_simp)
                  all_goals (with_reducible rfl)
                (try dsimp only [Act.put]); (try simp only [List.setIfInBounds_toArray, List.set_cons_zero, List.set_cons_succ])
                refine wpAnyH_take (i := 4) (oi := { dst := some 101, op := Op.move (Operand.tmp 100), type := 4, pos := "law.go:154", after := #[{ on := 3, ground := Ground.data }, { on := 1, ground := Ground.chain }], guard := none }) (v := ?_) rfl (by kernel_rfl) (by kernel_rfl) (by kernel_rfl) (fun _ _ _ h => h) (Or.inl ⟨by rfl, ?_⟩) (by assumption) ?_
                case refine_2 =>
                  intro w hSw
                  (try dsimp only at hSw)
                  (try go_simp)
                  all_goals (with_reducible rfl)
                (try dsimp only [Act.put]); (try simp only [List.setIfInBounds_toArray, List.set_cons_zero, List.set_cons_succ])
                refine wpAnyH_take (i := 5) (oi := { dst := some 102, op := Op.move (Operand.tmp 7), type := 26, pos := "law.go:154", after := #[{ on := 4, ground := Ground.guard }], guard := some (4, true) }) (v := ?_) rfl (by kernel_rfl) (by kernel_rfl) (by kernel_rfl) (fun _ _ _ h => h) (Or.inl ⟨by rfl, ?_⟩) (by assumption) ?_
                case refine_2 =>
                  intro w hSw
                  (try dsimp only at hSw)
                  (try go_simp)
                  all_goals (with_reducible rfl)
                (try dsimp only [Act.put]); (try simp only [List.setIfInBounds_toArray, List.set_cons_zero, List.set_cons_succ])
                refine wpAnyH_take (i := 7) (oi := { dst := some 104, op := Op.move (Operand.tmp 10), type := 24, pos := "law.go:154", after := #[{ on := 4, ground := Ground.guard }], guard := some (4, true) }) (v := ?_) rfl (by kernel_rfl) (by kernel_rfl) (by kernel_rfl) (fun _ _ _ h => h) (Or.inl ⟨by rfl, ?_⟩) (by assumption) ?_
                case refine_2 =>
                  intro w hSw
                  (try dsimp only at hSw)
                  (try go_simp)
                  all_goals (with_reducible rfl)
                (try dsimp only [Act.put]); (try simp only [List.setIfInBounds_toArray, List.set_cons_zero, List.set_cons_succ])
                refine wpAnyH_ready (rs := [6]) (by kernel_rfl) (by simp) (AllReadyH.cons (o := { dst := some 103, op := Op.call { callee := Callee.value (Operand.func 7), args := #[Operand.tmp 102], argTypes := #[26] }, type := 24, pos := "law.go:154", after := #[{ on := 5, ground := Ground.data }, { on := 4, ground := Ground.chain }, { on := 4, ground := Ground.guard }], guard := some (4, true) }) rfl (fun K hK => ?_) AllReadyH.nil)
                go_simp
                refine (past_is (fin_inv hHeld).at_ (by have := HN2.out; omega) i HN2.out).mono ?_; rintro e w11 ⟨B2, rfl, hB2, bB2, hb⟩
                refine hK.out _ _ ?_ (fun hHeld => ?_)
                · first | with_reducible assumption | exact fin_keep (by assumption) hb
                clear hK K
                refine wpAnyH_ready (rs := [8]) (by kernel_rfl) (by simp) (AllReadyH.cons (o := { dst := some 105, op := Op.call { callee := Callee.value (Operand.func 11), args := #[Operand.tmp 103, Operand.tmp 104], argTypes := #[24, 24] }, type := 4, pos := "law.go:154", after := #[{ on := 6, ground := Ground.data }, { on := 7, ground := Ground.data }, { on := 6, ground := Ground.chain }, { on := 4, ground := Ground.guard }], guard := some (4, true) }) rfl (fun K hK => ?_) AllReadyH.nil)
                go_simp
                refine (same_mvz B2 B (st.map Stp.mv) i i i _ (Blk.rd bB2) (Blk.rd (fin_inv hHeld).past) (by rw [List.length_map]; exact HN2.out) (by omega)).mono ?_; rintro e w12 ⟨rfl, hb⟩
                refine hK.out _ _ ?_ (fun hHeld => ?_)
                · first | with_reducible assumption | exact fin_keep (by assumption) hb
                clear hK K
                refine wpAnyH_take (i := 9) (oi := { dst := some 106, op := Op.pick (Operand.tmp 101) (Operand.tmp 105) (Operand.const (Value.bool false)), type := 4, pos := "law.go:154", after := #[{ on := 4, ground := Ground.data }, { on := 8, ground := Ground.data }], guard := none }) (v := ?_) rfl (by kernel_rfl) (by kernel_rfl) (by kernel_rfl) (fun _ _ _ h => h) (Or.inl ⟨by rfl, ?_⟩) (by assumption) ?_
                case refine_2 =>
                  intro w hSw
                  (try dsimp only at hSw)
                  (try go_simp)
                  all_goals (with_reducible rfl)
                (try dsimp only [Act.put]); (try simp only [List.setIfInBounds_toArray, List.set_cons_zero, List.set_cons_succ])
                refine wpAnyH_take (i := 10) (oi := { dst := some 107, op := Op.move (Operand.tmp 106), type := 4, pos := "law.go:154", after := #[{ on := 9, ground := Ground.data }, { on := 8, ground := Ground.chain }], guard := none }) (v := ?_) rfl (by kernel_rfl) (by kernel_rfl) (by kernel_rfl) (fun _ _ _ h => h) (Or.inl ⟨by rfl, ?_⟩) (by assumption) ?_
                case refine_2 =>
                  intro w hSw
                  (try dsimp only at hSw)
                  (try go_simp)
                  all_goals (with_reducible rfl)
                (try dsimp only [Act.put]); (try simp only [List.setIfInBounds_toArray, List.set_cons_zero, List.set_cons_succ])
                refine wpAnyH_ready (rs := [11]) (by kernel_rfl) (by simp) (AllReadyH.cons (o := { dst := some 108, op := Op.call { callee := Callee.value (Operand.func 4), args := #[], argTypes := #[] }, type := 4, pos := "law.go:154", after := #[{ on := 10, ground := Ground.chain }, { on := 10, ground := Ground.guard }], guard := some (10, true) }) rfl (fun K hK => ?_) AllReadyH.nil)
                go_simp
                refine (live9_any _ (HT.out.below (fin_inv hHeld).bel HT.out.lt)).mono ?_; rintro e w13 ⟨rfl, hb⟩
                refine hK.out _ _ ?_ (fun hHeld => ?_)
                · first | with_reducible assumption | exact fin_keep (by assumption) hb
                clear hK K
                refine wpAnyH_take (i := 12) (oi := { dst := some 109, op := Op.pick (Operand.tmp 107) (Operand.tmp 108) (Operand.const (Value.bool false)), type := 4, pos := "law.go:154", after := #[{ on := 10, ground := Ground.data }, { on := 11, ground := Ground.data }], guard := none }) (v := ?_) rfl (by kernel_rfl) (by kernel_rfl) (by kernel_rfl) (fun _ _ _ h => h) (Or.inl ⟨by rfl, ?_⟩) (by assumption) ?_
                case refine_2 =>
                  intro w hSw
                  (try dsimp only at hSw)
                  (try go_simp)
                  all_goals (with_reducible rfl)
                (try dsimp only [Act.put]); (try simp only [List.setIfInBounds_toArray, List.set_cons_zero, List.set_cons_succ])
                refine wpAnyH_take (i := 13) (oi := { dst := some 6, op := Op.assign (Operand.tmp 109), type := 4, pos := "law.go:154", after := #[{ on := 12, ground := Ground.data }, { on := 11, ground := Ground.chain }, { on := 0, ground := Ground.phase }, { on := 1, ground := Ground.phase }, { on := 2, ground := Ground.phase }, { on := 3, ground := Ground.phase }, { on := 4, ground := Ground.phase }, { on := 5, ground := Ground.phase }, { on := 6, ground := Ground.phase }, { on := 7, ground := Ground.phase }, { on := 8, ground := Ground.phase }, { on := 9, ground := Ground.phase }, { on := 10, ground := Ground.phase }, { on := 11, ground := Ground.phase }, { on := 12, ground := Ground.phase }], guard := none }) (v := ?_) rfl (by kernel_rfl) (by kernel_rfl) (by kernel_rfl) (fun _ _ _ h => h) (Or.inl ⟨by rfl, ?_⟩) (by assumption) ?_
                case refine_2 =>
                  intro w hSw
                  (try dsimp only at hSw)
                  (try go_simp)
                  all_goals (with_reducible rfl)
                (try dsimp only [Act.put]); (try simp only [List.setIfInBounds_toArray, List.set_cons_zero, List.set_cons_succ])
                refine wpAnyH_done (by kernel_rfl) ?_ _
                go_wp2
                go_ret
                exact ⟨rfl, (fin_inv hHeld).bel⟩
  · obtain ⟨r, hr⟩ : ∃ r, wellN s y z u = r := ⟨_, rfl⟩
    have h0 : ((r : Int) != 0) = true := by rw [← hr]; simpa using hw
    have HR := Lib.hid hr
    clear hw hr
    go_enter Tryd.func3, Tryd.ntmps3
    go_wp2_with fail
    rw [HW.out]
    go_wp2_with fail
    refine (new_bad s y z u _ _ hT0 HR.out h0).mono ?_
    rintro e w1 ⟨rfl, hb⟩
    have hB1 := hB.trans (hb.mono hB.size)
    replace hT0 := hT0.next hb
    clear hb p0 p1 p2 p3
    go_wp2_with fail
    refine (live9_any _ hT0).mono ?_
    rintro e w9 ⟨rfl, hb⟩
    go_wp2
    go_ret
    exact ⟨rfl, hB1.trans (hb.mono hB1.size)⟩
end Go.Proofs.YtdpaiolppccinaaDoor.ghalf
