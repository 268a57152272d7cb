/- A piece that is followed back through moves stood where it is said, played on again: the call answers true. -/
import Derived.Test.YtnkbilikkbaeeaaGreatDoorCycleH
namespace Go.Proofs.YtnkbilikkbaeeaaGreatDoor.cyback
open Go.RowKit Go.Shelf
open M (S)

theorem org_is (A : Option Addr) (m : List (Int × Int)) (n c : Nat) (x v : Int) (w : World) (hr : Rd w A (mzL m)) (hn : m.length = n) (hl : n ≤ 1000000) (hv : originI m x = v) : Calls Tryz.prog 32 #[.slice A n c, .int .i64 x] w (Gives w (.int .i64 v)) := by
  subst hv
  exact origin_any A m n c x w hr hn hl
theorem rd_seven1 (w : World) : Rd ((w.alloc (.cells #[.int .i64 7] 3)).alloc (.cells #[.int .i64 7] 3)) (some ⟨w.heap.size, 0, none⟩) (([7] : List Int).map iv) := fun j u hu => by
  have hb : Blk ((w.alloc (.cells #[.int .i64 7] 3)).alloc (.cells #[.int .i64 7] 3)) w.heap.size 3 #[.int .i64 7] := (Blk.new _ _ _ rfl).alloc _
  cases j with
  | zero => exact ⟨_, rfl, (hb.cell 0).trans hu⟩
  | succ j => simp at hu
theorem rd_seven2 (w : World) : Rd ((w.alloc (.cells #[.int .i64 7] 3)).alloc (.cells #[.int .i64 7] 3)) (some ⟨w.heap.size + 1, 0, none⟩) (([7] : List Int).map iv) := fun j u hu => by
  have hb : Blk ((w.alloc (.cells #[.int .i64 7] 3)).alloc (.cells #[.int .i64 7] 3)) (w.heap.size + 1) 3 #[.int .i64 7] := Blk.new _ _ _ (by simp)
  cases j with
  | zero => exact ⟨_, rfl, (hb.cell 0).trans hu⟩
  | succ j => simp at hu
set_option maxRecDepth 100000 in
set_option maxHeartbeats 4000000 in
theorem large (p : Ps) (C : Option Addr) (a d : Nat) (w : World) (hT : Tab w) (h : 200 < p.s.size ∨ 20 < a) : Calls Tryz.prog 7 #[.agg #[.string p.s, .int .i64 p.y, .int .i64 p.z, .int .i64 p.u], .slice C a d] w (Gives w (.bool true)) := by
  unfold Gives
  obtain ⟨s, y, z, u⟩ := p
  obtain ⟨W0, hW0⟩ : ∃ W0, w.alloc (.cells #[.string s, .int .i64 y, .int .i64 z, .int .i64 u] 36) = W0 := ⟨_, rfl⟩
  have hB : Below w.heap.size w W0 := by rw [← hW0]; exact below_new _ _
  have bP : Blk W0 w.heap.size 36 #[.string s, .int .i64 y, .int .i64 z, .int .i64 u] := by rw [← hW0]; exact Blk.new _ _ _ rfl
  obtain ⟨p0, p1, p2, p3⟩ := four_cells bP
  replace hT := hT.below hB hT.lt
  have h : 200 < s.size ∨ 20 < a := h
  by_cases h1 : 200 < s.size
  · have hd : (200 : Int) < (s.size : Int) := by omega
    clear h h1
    go_enter Tryz.func7, Tryz.ntmps7
    go_wp2_with fail
    (try rw [hW0])
    refine (live17_any _ hT).mono ?_
    rintro e w9 ⟨rfl, hb⟩
    go_wp2
    go_ret
    exact ⟨rfl, hB.trans (hb.mono hB.size)⟩
  · have hd : ¬ (200 : Int) < (s.size : Int) := by omega
    have hd2 : (20 : Int) < (a : Int) := by omega
    clear h h1
    go_enter Tryz.func7, Tryz.ntmps7
    go_wp2_with fail
    (try rw [hW0])
    refine (live17_any _ hT).mono ?_
    rintro e w9 ⟨rfl, hb⟩
    go_wp2
    go_ret
    exact ⟨rfl, hB.trans (hb.mono hB.size)⟩
set_option maxRecDepth 100000 in
set_option maxHeartbeats 4000000 in
theorem small (p : Ps) (C : Option Addr) (l : List (Int × Int)) (a d : Nat) (w : World) (hT : Tab w) (hm : Rd w C (mzL l)) (ha : l.length = a) (h1 : p.s.size ≤ 200) (h2 : a ≤ 20) : Calls Tryz.prog 7 #[.agg #[.string p.s, .int .i64 p.y, .int .i64 p.z, .int .i64 p.u], .slice C a d] w (Gives w (.bool true)) := by
  unfold Gives
  obtain ⟨hch, hcur, hmk⟩ := play_chain p l l.length (Nat.le_refl _)
  rw [List.take_length] at hch hcur hmk
  have hplay := fun W (hr : Rd W C (mzL l)) => played_any C p l a d W hr ha (by omega)
  obtain ⟨⟨ls, ms, cur⟩, hpf⟩ : ∃ x, playF p l = x := ⟨_, rfl⟩
  rw [hpf] at hch hcur hmk hplay
  have hch : Chain p ls ms := hch
  have hcur : ls[ms.length]? = some cur := hcur
  have hmk : ms.length ≤ l.length := hmk
  obtain ⟨n, hn⟩ : ∃ n, ms.length = n := ⟨_, rfl⟩
  have hlsn : ls.length = n + 1 := by rw [hch.len, hn]
  rw [hn] at hcur
  have hcl : ls[n]'(by omega) = cur := by
    have := List.getElem?_eq_getElem (l := ls) (i := n) (by omega)
    rw [this] at hcur
    injection hcur
  have hbk : 0 < n → cur.s.size = 90 ∧ p.s.size = 90 ∧ ∀ k : Nat, k < 90 → bAt cur.s k ≠ 46 → ∃ o : Nat, o < 90 ∧ originI ms (k : Int) = (o : Int) ∧ bAt p.s o = bAt cur.s k := fun h0 => by
    have w1 := hch.well (.inr (by omega)) hcur
    have w2 := hch.well (.inr (by omega)) hch.first
    refine ⟨isB_size (Ps.board w1), isB_size (Ps.board w2), fun k hk hne => ?_⟩
    have := hch.back n (by omega) cur hcur k hk hne
    rw [List.take_of_length_le (by omega)] at this
    exact this
  have hmk9 : n ≤ 20 := by rw [← hn]; omega
  obtain ⟨s, y, z, u⟩ := p
  have hd : ¬ (200 : Int) < (s.size : Int) := by have : s.size ≤ 200 := h1; omega
  have hd2 : ¬ (20 : Int) < (a : Int) := by omega
  have HPL := Lib.hid hplay
  have HN := Lib.hid hn
  have HLS := Lib.hid hlsn
  have HCL : Hid (∃ h : n < ls.length, ls[n] = cur) := ⟨by omega, hcl⟩
  have HBK := Lib.hid hbk
  obtain ⟨W0, hW0⟩ : ∃ W0, w.alloc (.cells #[.string s, .int .i64 y, .int .i64 z, .int .i64 u] 36) = W0 := ⟨_, rfl⟩
  have hB : Below w.heap.size w W0 := by rw [← hW0]; exact below_new _ _
  have bP : Blk W0 w.heap.size 36 #[.string s, .int .i64 y, .int .i64 z, .int .i64 u] := by rw [← hW0]; exact Blk.new _ _ _ rfl
  replace hT := hT.below hB hT.lt
  have HMM := Lib.hid (hm.next hB)
  obtain ⟨p0, p1, p2, p3⟩ := four_cells bP
  clear h1 h2 hm ha hch hcur hmk hplay hpf hn hlsn hcl hbk
  go_enter Tryz.func7, Tryz.ntmps7
  go_wp2_with fail
  refine (HPL.out _ HMM.out).mono ?_
  rintro e w1 ⟨v1, v2, rfl, hP, hb1⟩
  have hP1 : w1.ownsRow (W0.heap.size + 1) 36 4 v1 (n + 1) (psL ls) := by have := hP.r1; rw [← HLS.out]; exact this
  have hP2 : w1.ownsRow (W0.heap.size + 1) 28 2 v2 n (mzL ms) := by have := hP.r2; rw [← HN.out]; exact this
  obtain ⟨A1, c1, rfl, hr1, hc1⟩ := own_any hP1
  obtain ⟨A2, c2, rfl, hr2, hc2⟩ := own_any hP2
  obtain ⟨hnl, hcl⟩ := HCL.out
  obtain ⟨g1, b1, rfl, x0, _⟩ := hr1.ps hnl
  rw [hcl] at x0
  have hB1 := hB.trans (hb1.mono hB.size)
  have hT1 := hT.next hb1
  have bP1 := bP.next hb1
  clear p0 p1 p2 p3 hP hP1 hP2 hc1 hc2
  obtain ⟨p0, p1, p2, p3⟩ := four_cells bP1
  have wn : IntKind.i64.wrap ((n : Int) + 1) = (n : Int) + 1 := by rw [IntKind.wrap_i64]; omega
  have wn2 : ((n + 1 : Nat) : Int) - 1 = (n : Int) := by omega
  have bn1 : (n : Int) < (n : Int) + 1 := by omega
  have bn2 : (n : Int) < ((n + 1 : Nat) : Int) := by omega
  have wn3 : IntKind.i64.wrap (n : Int) = (n : Int) := by rw [IntKind.wrap_i64]; omega
  go_wp2_with fail
  go_loopw [8, 9] (fun i _ wr => ∃ k : Nat, k ≤ 90 ∧ i = .int .i64 (k : Int) ∧ Below w1.heap.size w1 wr) (fun i _ _ => 90 - (intOf i).toNat)
  case atStart => exact ⟨0, by omega, rfl, Below.refl _ _⟩
  case round =>
    obtain ⟨k, hk, rfl, hBk⟩ := hrel
    have hTk := hT1.next hBk
    have hBB := hB1.trans (hBk.mono hB1.size)
    have y0 := (hBk.cell (p := ⟨w.heap.size, 0, none⟩) (cell_lt p0)).trans p0
    have fin : ∀ W, Tab W → Below w.heap.size w W → True := fun _ _ _ => trivial
    by_cases hgo : k < 90 ∧ cur.s.size = 90 ∧ s.size = 90 ∧ 0 < n
    · obtain ⟨hlt, hs1, hs2, hn0⟩ := hgo
      have bk : (k : Int) < 90 := by omega
      have es1 : ((cur.s.size : Int) == 90) = true := by rw [hs1]; rfl
      have es2 : ((s.size : Int) == 90) = true := by rw [hs2]; rfl
      have bn : (0 : Int) < (n : Int) := by omega
      obtain ⟨c, hc⟩ : ∃ c, bAt cur.s k = c := ⟨_, rfl⟩
      have hks : k < cur.s.size := by rw [hs1]; exact hlt
      have hxb : cur.s[k].toNat = c := (bAt_eq cur.s k hks).trans hc
      have bks : (k : Int) < (cur.s.size : Int) := by omega
      have hb3 := (HBK.out hn0).2.2 k hlt
      rw [hc] at hb3
      have HB3 := Lib.hid hb3
      clear hb3 hc hs1
      by_cases h46 : c = 46
      · have e46 : ((c : Int) != 46) = false := by rw [h46]; rfl
        clear h46 hs2
        go_wp2_with fail
        refine (org_is _ ms n c2 (k : Int) _ _ (hr2.next hBk) HN.out (by omega) rfl).mono ?_
        rintro e5 w3 ⟨rfl, hb⟩
        have hB3 := hBk.trans (hb.mono hBk.size)
        clear y0 p0 p1 p2 p3 x0
        go_wp2_with fail
        go_quiet (fail)
        go_wp2_with fail
        go_roundw
        case rel => exact ⟨k + 1, by omega, by go_num, below_drewN hB3 _⟩
        case measure => simp [intOf]; omega
      · have e46 : ((c : Int) != 46) = true := by rw [bne_iff_ne]; omega
        obtain ⟨o, ho9, hoo, hat⟩ := HB3.out h46
        have HOO := Lib.hid hoo
        have hos : o < s.size := by rw [hs2]; exact ho9
        have hyb : s[o].toNat = c := (bAt_eq s o hos).trans hat
        have bos : (o : Int) < (s.size : Int) := by omega
        have o9 : ¬ 89 < (o : Int) := by omega
        have o0 : ¬ (o : Int) < 0 := by omega
        clear h46 hoo hat hs2
        go_wp2_with fail
        refine (org_is _ ms n c2 (k : Int) (o : Int) _ (hr2.next hBk) HN.out (by omega) HOO.out).mono ?_
        rintro e5 w3 ⟨rfl, hb⟩
        have y1 := (hb.cell (p := ⟨w.heap.size, 0, none⟩) (cell_lt y0)).trans y0
        have hB3 := hBk.trans (hb.mono hBk.size)
        have cc : (c != c) = false := by simp
        have cc2 : ((c : Int) != (c : Int)) = false := by simp
        clear y0 p0 p1 p2 p3 x0
        go_wp2_with fail
        go_quiet (fail)
        go_wp2_with fail
        go_roundw
        case rel => exact ⟨k + 1, by omega, by go_num, below_drewN hB3 _⟩
        case measure => simp [intOf]; omega
    · have hcase : (¬ k < 90) ∨ (k < 90 ∧ cur.s.size ≠ 90) ∨ (k < 90 ∧ cur.s.size = 90 ∧ s.size ≠ 90) ∨ (k < 90 ∧ cur.s.size = 90 ∧ s.size = 90 ∧ n = 0) := by omega
      rcases hcase with h | ⟨h, h'⟩ | ⟨h, h', h''⟩ | ⟨h, h', h'', h0⟩
      · have bk : ¬ (k : Int) < 90 := by omega
        clear hgo
        go_wp2_with fail
        refine (org_is none [] 0 0 7 7 _ (rd_nil _ _) rfl (by decide) rfl).mono ?_
        rintro e5 w3 ⟨rfl, hb⟩
        have hB3 := hBB.trans (hb.mono hBB.size)
        have hT3 := hTk.next hb
        go_wp2_with fail
        have h7 : Below w3.heap.size w3 ((w3.alloc (.cells #[.int .i64 7] 3)).alloc (.cells #[.int .i64 7] 3)) := (by repeat (first | exact Below.refl _ _ | (refine Below.setCell ?_ (by first | omega | (simp; done) | (simp; omega) | (simp at *; omega)) _) | (refine Below.alloc ?_ (by first | omega | (simp; done) | (simp; omega) | (simp at *; omega)) _) | refine Below.drew ?_ | (refine below_drewN ?_ _) | (refine Below.trans ?_ (Below.mono (by assumption) (by first | omega | (simp; done) | (simp; omega) | (simp at *; omega))))))
        refine (ints_true _ _ [7] 1 1 1 _ (rd_seven1 w3) (rd_seven2 w3) rfl (by decide)).mono ?_
        rintro e6 w4 ⟨rfl, hb4⟩
        have hB4 := hB3.trans ((h7.trans (hb4.mono h7.size)).mono hB3.size)
        have hT4 := hT3.next (h7.trans (hb4.mono h7.size))
        go_wp2_with fail
        refine (live17_any _ hT4).mono ?_
        rintro e8 w9 ⟨rfl, hb⟩
        go_wp2
        go_ret
        exact ⟨rfl, hB4.trans (hb.mono hB4.size)⟩
      · have bk : (k : Int) < 90 := by omega
        have es1 : ((cur.s.size : Int) == 90) = false := by rw [beq_eq_false_iff_ne]; omega
        clear hgo
        go_wp2_with fail
        refine (org_is none [] 0 0 7 7 _ (rd_nil _ _) rfl (by decide) rfl).mono ?_
        rintro e5 w3 ⟨rfl, hb⟩
        have hB3 := hBB.trans (hb.mono hBB.size)
        have hT3 := hTk.next hb
        go_wp2_with fail
        have h7 : Below w3.heap.size w3 ((w3.alloc (.cells #[.int .i64 7] 3)).alloc (.cells #[.int .i64 7] 3)) := (by repeat (first | exact Below.refl _ _ | (refine Below.setCell ?_ (by first | omega | (simp; done) | (simp; omega) | (simp at *; omega)) _) | (refine Below.alloc ?_ (by first | omega | (simp; done) | (simp; omega) | (simp at *; omega)) _) | refine Below.drew ?_ | (refine below_drewN ?_ _) | (refine Below.trans ?_ (Below.mono (by assumption) (by first | omega | (simp; done) | (simp; omega) | (simp at *; omega))))))
        refine (ints_true _ _ [7] 1 1 1 _ (rd_seven1 w3) (rd_seven2 w3) rfl (by decide)).mono ?_
        rintro e6 w4 ⟨rfl, hb4⟩
        have hB4 := hB3.trans ((h7.trans (hb4.mono h7.size)).mono hB3.size)
        have hT4 := hT3.next (h7.trans (hb4.mono h7.size))
        go_wp2_with fail
        refine (live17_any _ hT4).mono ?_
        rintro e8 w9 ⟨rfl, hb⟩
        go_wp2
        go_ret
        exact ⟨rfl, hB4.trans (hb.mono hB4.size)⟩
      · have bk : (k : Int) < 90 := by omega
        have es1 : ((cur.s.size : Int) == 90) = true := by rw [h']; rfl
        have es2 : ((s.size : Int) == 90) = false := by rw [beq_eq_false_iff_ne]; omega
        clear h'
        clear hgo
        go_wp2_with fail
        refine (org_is none [] 0 0 7 7 _ (rd_nil _ _) rfl (by decide) rfl).mono ?_
        rintro e5 w3 ⟨rfl, hb⟩
        have hB3 := hBB.trans (hb.mono hBB.size)
        have hT3 := hTk.next hb
        go_wp2_with fail
        have h7 : Below w3.heap.size w3 ((w3.alloc (.cells #[.int .i64 7] 3)).alloc (.cells #[.int .i64 7] 3)) := (by repeat (first | exact Below.refl _ _ | (refine Below.setCell ?_ (by first | omega | (simp; done) | (simp; omega) | (simp at *; omega)) _) | (refine Below.alloc ?_ (by first | omega | (simp; done) | (simp; omega) | (simp at *; omega)) _) | refine Below.drew ?_ | (refine below_drewN ?_ _) | (refine Below.trans ?_ (Below.mono (by assumption) (by first | omega | (simp; done) | (simp; omega) | (simp at *; omega))))))
        refine (ints_true _ _ [7] 1 1 1 _ (rd_seven1 w3) (rd_seven2 w3) rfl (by decide)).mono ?_
        rintro e6 w4 ⟨rfl, hb4⟩
        have hB4 := hB3.trans ((h7.trans (hb4.mono h7.size)).mono hB3.size)
        have hT4 := hT3.next (h7.trans (hb4.mono h7.size))
        go_wp2_with fail
        refine (live17_any _ hT4).mono ?_
        rintro e8 w9 ⟨rfl, hb⟩
        go_wp2
        go_ret
        exact ⟨rfl, hB4.trans (hb.mono hB4.size)⟩
      · have bk : (k : Int) < 90 := by omega
        have es1 : ((cur.s.size : Int) == 90) = true := by rw [h']; rfl
        have es2 : ((s.size : Int) == 90) = true := by rw [h'']; rfl
        subst h0
        clear h' h''
        clear hgo
        go_wp2_with fail
        refine (org_is none [] 0 0 7 7 _ (rd_nil _ _) rfl (by decide) rfl).mono ?_
        rintro e5 w3 ⟨rfl, hb⟩
        have hB3 := hBB.trans (hb.mono hBB.size)
        have hT3 := hTk.next hb
        go_wp2_with fail
        have h7 : Below w3.heap.size w3 ((w3.alloc (.cells #[.int .i64 7] 3)).alloc (.cells #[.int .i64 7] 3)) := (by repeat (first | exact Below.refl _ _ | (refine Below.setCell ?_ (by first | omega | (simp; done) | (simp; omega) | (simp at *; omega)) _) | (refine Below.alloc ?_ (by first | omega | (simp; done) | (simp; omega) | (simp at *; omega)) _) | refine Below.drew ?_ | (refine below_drewN ?_ _) | (refine Below.trans ?_ (Below.mono (by assumption) (by first | omega | (simp; done) | (simp; omega) | (simp at *; omega))))))
        refine (ints_true _ _ [7] 1 1 1 _ (rd_seven1 w3) (rd_seven2 w3) rfl (by decide)).mono ?_
        rintro e6 w4 ⟨rfl, hb4⟩
        have hB4 := hB3.trans ((h7.trans (hb4.mono h7.size)).mono hB3.size)
        have hT4 := hT3.next (h7.trans (hb4.mono h7.size))
        go_wp2_with fail
        refine (live17_any _ hT4).mono ?_
        rintro e8 w9 ⟨rfl, hb⟩
        go_wp2
        go_ret
        exact ⟨rfl, hB4.trans (hb.mono hB4.size)⟩
theorem walk (p : Ps) (C : Option Addr) (l : List (Int × Int)) (d : Nat) (w : World) (hT : Tab w) (hm : Rd w C (mzL l)) : Calls Tryz.prog 7 #[.agg #[.string p.s, .int .i64 p.y, .int .i64 p.z, .int .i64 p.u], .slice C l.length d] w (Gives w (.bool true)) := by
  by_cases h1 : p.s.size ≤ 200
  · by_cases h2 : l.length ≤ 20
    · exact small p C l _ d w hT hm rfl h1 h2
    · exact large p C _ d w hT (.inr (by omega))
  · exact large p C _ d w hT (.inl (by omega))
end Go.Proofs.YtnkbilikkbaeeaaGreatDoor.cyback
