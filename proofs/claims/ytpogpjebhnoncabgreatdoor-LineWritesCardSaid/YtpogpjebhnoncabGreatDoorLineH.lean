/- What Parse answers, for every line. -/
import Derived.Test.YtpogpjebhnoncabGreatDoorLineG
namespace Go.Proofs.YtpogpjebhnoncabGreatDoor
open Go.RowKit Go.Shelf Go.Proofs.YtpogpjebhnoncabGreatDoor.Ln
open M (S)

theorem cmdG_form {R : Except Int Cmd} {w w' : World} {e : Ending} (h : CmdG R w e w') : ∃ (k : Int) (s : ByteArray) (a b c : Int) (A : Option Addr) (n q : Nat) (d er : Int), e = .returned (.tuple #[.agg #[.int .i64 k, .string s, .int .i64 a, .int .i64 b, .int .i64 c, .slice A n q, .int .i64 d], .int .i64 er]) := by
  unfold CmdG at h
  obtain ⟨_, h⟩ := h
  cases R with
  | error k => exact ⟨0, ⟨#[]⟩, 0, 0, 0, none, 0, 0, 0, k, h⟩
  | ok c =>
    obtain ⟨v, rfl, hown⟩ := h
    obtain ⟨A, q, rfl, _, _⟩ := own_anyL hown
    exact ⟨_, _, _, _, _, A, _, q, _, _, rfl⟩
theorem cmdG_up {R : Except Int Cmd} {w V W : World} {e : Ending} (h : CmdG R V e W) (hB : Below w.heap.size w W) (hlt : w.heap.size < V.heap.size) (v0 v1 v2 v3 v4 v5 v6 : Value) : CmdG R w e (((((((W.setCell ⟨w.heap.size, 0, none⟩ v0).setCell ⟨w.heap.size, 1, none⟩ v1).setCell ⟨w.heap.size, 2, none⟩ v2).setCell ⟨w.heap.size, 3, none⟩ v3).setCell ⟨w.heap.size, 4, none⟩ v4).setCell ⟨w.heap.size, 5, none⟩ v5).setCell ⟨w.heap.size, 6, none⟩ v6) := by
  unfold CmdG at h ⊢
  refine ⟨below_cmd hB (Nat.le_refl _) _ _ _ _ _ _ _, ?_⟩
  cases R with
  | error k => exact h.2
  | ok c =>
    obtain ⟨_, v, he, hown⟩ := h
    exact ⟨v, he, own_baseL (own_setC (own_setC (own_setC (own_setC (own_setC (own_setC (own_setC hown hlt) hlt) hlt) hlt) hlt) hlt) hlt) (Nat.le_of_lt hlt)⟩
theorem words_size {s x : List UInt8} (h : x ∈ wordsB s) : x.length ≤ s.length := by
  unfold wordsB at h
  have h1 := (List.mem_filter.1 h).1
  have key : ∀ (s : List UInt8), ∀ p ∈ F.cutL 32 s, p.length ≤ s.length := fun s => piece_le 32 s
  have := key _ x h1
  rw [List.length_map] at this
  exact this
theorem parse_long {s : List UInt8} (h : 4096 < s.length) : parseL s = .error 9 := if_pos h
theorem parse_end {s : List UInt8} (h : endB s = true) : parseL s = .error 9 := by
  unfold parseL
  rw [h]
  split <;> rfl
theorem parse_none' {s : List UInt8} (h : wordsV s = []) : parseL s = .error 9 := by
  by_cases h1 : 4096 < s.length
  · exact parse_long h1
  · unfold wordsV at h
    rw [if_neg h1] at h
    unfold parseL
    rw [if_neg h1, h]
    split <;> rfl
theorem parse_some {s : List UInt8} {x : List UInt8} {r : List (List UInt8)} (h : wordsV s = x :: r) (he : endB s = false) : parseL s = parseW (x :: r) ∧ wordsB s = x :: r ∧ s.length ≤ 4096 := by
  by_cases h1 : 4096 < s.length
  · unfold wordsV at h
    rw [if_pos h1] at h
    cases h
  · unfold wordsV at h
    rw [if_neg h1] at h
    refine ⟨?_, h, by omega⟩
    unfold parseL
    rw [if_neg h1, he, h]
    rfl
/-- The words behind the first one. -/
theorem rest_rd {w : World} {g : Nat} {x : List UInt8} {r : List (List UInt8)} (hc : ∀ j u, (x :: r)[j]? = some u → w.cell? ⟨g, 0 + j, none⟩ = some (.string (bs u))) : Rd w (some ⟨g, 1, none⟩) (r.map sv) := by
  have := rd_sub (k := 1) hc
  rw [Nat.zero_add] at this
  exact this
set_option maxRecDepth 100000 in
set_option maxHeartbeats 8000000 in
theorem lparse_zero (s : List UInt8) (w : World) (hE : Env w) (hs : s.length < 4294967281) (h : wordsV s = []) : Calls Tryz.prog 12 #[.string (bs s)] w (CmdG (parseL s) w) := by
  have HB := Lib.hid (parse_none' h)
  have hA : Below w.heap.size w (w.alloc (.cells cmdZ 29)) := (by repeat (first | exact Below.refl _ _ | (refine Below.setCell ?_ (by first | omega | (simp; done) | (simp; omega) | (simp at *; omega)) _) | (refine Below.alloc ?_ (by first | omega | (simp; done) | (simp; omega) | (simp at *; omega)) _) | refine Below.drew ?_ | (refine below_drewN ?_ _) | (refine Below.trans ?_ (Below.mono (by assumption) (by first | omega | (simp; done) | (simp; omega) | (simp at *; omega))))))
  have hw := words_any s _ (hE.next hA) hs
  rw [h] at hw
  clear h
  go_enter Tryz.func12, Tryz.ntmps12
  go_wp2_with fail
  refine hw.mono ?_
  rintro e w1 ⟨v, rfl, hown, hb1⟩
  obtain ⟨A1, c1, rfl, _, _⟩ := own_anyL hown
  obtain ⟨bR, hB1⟩ := cmd_start hb1
  obtain ⟨r0, r1, r2, r3, r4, r5, r6⟩ := c_cells bR
  obtain ⟨f0, f1, f2, f3, f4, f5, f6⟩ := c_frozen bR
  clear hb1 hown
  go_wp2_with fail
  refine bodyPost_ret (cmd_end rfl bR _ _ _ _ _ _ _ _ rfl) rfl ?_
  exact cmdG_err HB.out (below_cmd hB1 (Nat.le_refl _) _ _ _ _ _ _ _)
set_option maxRecDepth 100000 in
set_option maxHeartbeats 8000000 in
theorem lparse_end (s : List UInt8) (w : World) (hE : Env w) (hs : s.length < 4294967281) (x : List UInt8) (r : List (List UInt8)) (h : wordsV s = x :: r) (he : endB s = true) : Calls Tryz.prog 12 #[.string (bs s)] w (CmdG (parseL s) w) := by
  have HB := Lib.hid (parse_end he)
  have hA : Below w.heap.size w (w.alloc (.cells cmdZ 29)) := (by repeat (first | exact Below.refl _ _ | (refine Below.setCell ?_ (by first | omega | (simp; done) | (simp; omega) | (simp at *; omega)) _) | (refine Below.alloc ?_ (by first | omega | (simp; done) | (simp; omega) | (simp at *; omega)) _) | refine Below.drew ?_ | (refine below_drewN ?_ _) | (refine Below.trans ?_ (Below.mono (by assumption) (by first | omega | (simp; done) | (simp; omega) | (simp at *; omega))))))
  have hw := words_any s _ (hE.next hA) hs
  have hce := fun W => cany_is s W hs
  rw [he] at hce
  obtain ⟨n, hn⟩ : ∃ n, (wordsV s).length = n := ⟨_, rfl⟩
  have n0 : ((n : Int) == 0) = false := by rw [beq_eq_false_iff_ne, ← hn, h, List.length_cons]; omega
  rw [hn] at hw
  clear h he hn
  go_enter Tryz.func12, Tryz.ntmps12
  go_wp2_with fail
  refine hw.mono ?_
  rintro e w1 ⟨v, rfl, hown, hb1⟩
  obtain ⟨A1, c1, rfl, _, _⟩ := own_anyL hown
  go_wp2_with fail
  refine (hce w1).mono ?_
  rintro e w2 ⟨rfl, hb2⟩
  obtain ⟨bR, hB1⟩ := cmd_start (hb1.trans (hb2.mono hb1.size))
  obtain ⟨r0, r1, r2, r3, r4, r5, r6⟩ := c_cells bR
  obtain ⟨f0, f1, f2, f3, f4, f5, f6⟩ := c_frozen bR
  clear hb1 hown hb2
  go_wp2_with fail
  refine bodyPost_ret (cmd_end rfl bR _ _ _ _ _ _ _ _ rfl) rfl ?_
  exact cmdG_err HB.out (below_cmd hB1 (Nat.le_refl _) _ _ _ _ _ _ _)
-- the ways by the first word
set_option maxRecDepth 100000 in
set_option maxHeartbeats 8000000 in
theorem lparse_go (s : List UInt8) {w : World} {a0 a1 a2 : Addr} (hE : Env w) (hR : Errs w a0 a1 a2) (hs : s.length < 4294967281) (x : List UInt8) (r : List (List UInt8)) (h : wordsV s = x :: r) (he : endB s = false) (hx : x = goW) : Calls Tryz.prog 12 #[.string (bs s)] w (CmdG (parseL s) w) := by
  obtain ⟨hpl, hwb, hs4⟩ := parse_some h he
  have HB : Hid (parseL s = goR r) := by show _ = _; rw [hpl, parseW]; rw [hx]; exact if_pos rfl
  have e1 : ((bs x).toList == [103, 111]) = true := by rw [bs_eqR]; exact decide_eq_true hx
  have hA : Below w.heap.size w (w.alloc (.cells cmdZ 29)) := (by repeat (first | exact Below.refl _ _ | (refine Below.setCell ?_ (by first | omega | (simp; done) | (simp; omega) | (simp at *; omega)) _) | (refine Below.alloc ?_ (by first | omega | (simp; done) | (simp; omega) | (simp at *; omega)) _) | refine Below.drew ?_ | (refine below_drewN ?_ _) | (refine Below.trans ?_ (Below.mono (by assumption) (by first | omega | (simp; done) | (simp; omega) | (simp at *; omega))))))
  have hw := words_any s _ (hE.next hA) hs
  have hce := fun W => cany_is s W hs
  rw [he] at hce
  have hwl := words_le s
  have hsz : ∀ u ∈ r, u.length ≤ 100000 := fun u hu => by
    have := words_size (s := s) (x := u) (by rw [hwb]; exact List.mem_cons_of_mem _ hu)
    omega
  rw [h] at hw hwl
  obtain ⟨q, hq⟩ : ∃ q, r.length = q := ⟨_, rfl⟩
  have hn : (x :: r).length = q + 1 := by rw [List.length_cons, hq]
  rw [hn] at hw hwl
  have n0 : (((q + 1 : Nat) : Int) == 0) = false := by rw [beq_eq_false_iff_ne]; omega
  have n1 : (0 : Int) < ((q + 1 : Nat) : Int) := by omega
  have n3 : (1 : Int) ≤ ((q + 1 : Nat) : Int) := by omega
  have HE := Lib.hid hE
  have HR := Lib.hid hR
  have HQ := Lib.hid hq
  have HS := Lib.hid hsz
  clear h he hn hpl hwb hE hR hq hsz hx
  go_enter Tryz.func12, Tryz.ntmps12
  go_wp2_with fail
  refine hw.mono ?_
  rintro e w1 ⟨v, rfl, hown, hb1⟩
  obtain ⟨g, c, rfl, hnc, hg⟩ := own_at hown (Nat.succ_pos _)
  have hrd := Rd.own hown
  go_wp2_with fail
  refine (hce w1).mono ?_
  rintro e w2 ⟨rfl, hb2⟩
  have hrd2 := hrd.next hb2
  have hc : ∀ j u, (x :: r)[j]? = some u → w2.cell? ⟨g, 0 + j, none⟩ = some (.string (bs u)) := fun j u hu => rd_at hrd2 j u hu
  have e0 := hc 0 x rfl
  simp only [Nat.zero_add] at e0
  have hrr := rest_rd hc
  have hb12 := hb1.trans (hb2.mono hb1.size)
  obtain ⟨bR, hB1⟩ := cmd_start hb12
  have hlt : w.heap.size < w2.heap.size := bR.lt
  have n4 : ((q + 1 : Nat) : Int) ≤ (c : Int) := by omega
  have HRR := Lib.hid hrr
  clear hown hrd hrd2 hc hrr hb1 hb2 hw hce hb12
  by_cases hc1 : c = 1
  · have hc2 : (c : Int) = 1 := by omega
    obtain rfl : q = 0 := by omega
    have hr0 : r = [] := List.length_eq_zero_iff.1 HQ.out
    go_wp2_with fail
    refine (readGo_is (some ⟨g, 0, none⟩) 0 0 r w2 (HE.out.next hB1) (by rw [hr0]; exact fun j u h => (by cases h)) HQ.out HS.out).mono ?_
    rintro e w3 hG
    obtain ⟨k, s0, y0, y1, y2, A3, q3, c3, d, er, rfl⟩ := cmdG_form hG
    have hb3 := hG.1
    replace bR := bR.next hb3
    have hB3 := hB1.trans (hb3.mono hB1.size)
    have HG := Lib.hid hG
    obtain ⟨r0, r1, r2, r3, r4, r5, r6⟩ := c_cells bR
    obtain ⟨f0, f1, f2, f3, f4, f5, f6⟩ := c_frozen bR
    clear hb3 hG
    go_wp2_with fail
    refine bodyPost_ret (cmd_end rfl bR _ _ _ _ _ _ _ _ rfl) rfl ?_
    rw [HB.out]
    exact cmdG_up HG.out hB3 hlt _ _ _ _ _ _ _
  · have hc2 : ¬ (c : Int) = 1 := by omega
    go_wp2_with fail
    refine (readGo_is (some ⟨g, 1, none⟩) q (c - 1) r w2 (HE.out.next hB1) HRR.out HQ.out HS.out).mono ?_
    rintro e w3 hG
    obtain ⟨k, s0, y0, y1, y2, A3, q3, c3, d, er, rfl⟩ := cmdG_form hG
    have hb3 := hG.1
    replace bR := bR.next hb3
    have hB3 := hB1.trans (hb3.mono hB1.size)
    have HG := Lib.hid hG
    obtain ⟨r0, r1, r2, r3, r4, r5, r6⟩ := c_cells bR
    obtain ⟨f0, f1, f2, f3, f4, f5, f6⟩ := c_frozen bR
    clear hb3 hG
    go_wp2_with fail
    refine bodyPost_ret (cmd_end rfl bR _ _ _ _ _ _ _ _ rfl) rfl ?_
    rw [HB.out]
    exact cmdG_up HG.out hB3 hlt _ _ _ _ _ _ _
set_option maxRecDepth 100000 in
set_option maxHeartbeats 8000000 in
theorem lparse_ban (s : List UInt8) {w : World} {a0 a1 a2 : Addr} (hE : Env w) (hR : Errs w a0 a1 a2) (hs : s.length < 4294967281) (x : List UInt8) (r : List (List UInt8)) (h : wordsV s = x :: r) (he : endB s = false) (hx : x = banW) : Calls Tryz.prog 12 #[.string (bs s)] w (CmdG (parseL s) w) := by
  obtain ⟨hpl, hwb, hs4⟩ := parse_some h he
  have HB : Hid (parseL s = banR r) := by show _ = _; rw [hpl, parseW]; rw [hx]; rw [if_neg (by decide)]; exact if_pos rfl
  have e1 : ((bs x).toList == [103, 111]) = false := by rw [bs_eqR, hx]; exact decide_eq_false (by decide)
  have e2 : ((bs x).toList == [98, 97, 110, 109, 111, 118, 101, 115]) = true := by rw [bs_eqR]; exact decide_eq_true hx
  have hA : Below w.heap.size w (w.alloc (.cells cmdZ 29)) := (by repeat (first | exact Below.refl _ _ | (refine Below.setCell ?_ (by first | omega | (simp; done) | (simp; omega) | (simp at *; omega)) _) | (refine Below.alloc ?_ (by first | omega | (simp; done) | (simp; omega) | (simp at *; omega)) _) | refine Below.drew ?_ | (refine below_drewN ?_ _) | (refine Below.trans ?_ (Below.mono (by assumption) (by first | omega | (simp; done) | (simp; omega) | (simp at *; omega))))))
  have hw := words_any s _ (hE.next hA) hs
  have hce := fun W => cany_is s W hs
  rw [he] at hce
  have hwl := words_le s
  have hsz : ∀ u ∈ r, u.length ≤ 100000 := fun u hu => by
    have := words_size (s := s) (x := u) (by rw [hwb]; exact List.mem_cons_of_mem _ hu)
    omega
  rw [h] at hw hwl
  obtain ⟨q, hq⟩ : ∃ q, r.length = q := ⟨_, rfl⟩
  have hn : (x :: r).length = q + 1 := by rw [List.length_cons, hq]
  rw [hn] at hw hwl
  have n0 : (((q + 1 : Nat) : Int) == 0) = false := by rw [beq_eq_false_iff_ne]; omega
  have n1 : (0 : Int) < ((q + 1 : Nat) : Int) := by omega
  have n3 : (1 : Int) ≤ ((q + 1 : Nat) : Int) := by omega
  have HE := Lib.hid hE
  have HR := Lib.hid hR
  have HQ := Lib.hid hq
  have HS := Lib.hid hsz
  clear h he hn hpl hwb hE hR hq hsz hx
  go_enter Tryz.func12, Tryz.ntmps12
  go_wp2_with fail
  refine hw.mono ?_
  rintro e w1 ⟨v, rfl, hown, hb1⟩
  obtain ⟨g, c, rfl, hnc, hg⟩ := own_at hown (Nat.succ_pos _)
  have hrd := Rd.own hown
  go_wp2_with fail
  refine (hce w1).mono ?_
  rintro e w2 ⟨rfl, hb2⟩
  have hrd2 := hrd.next hb2
  have hc : ∀ j u, (x :: r)[j]? = some u → w2.cell? ⟨g, 0 + j, none⟩ = some (.string (bs u)) := fun j u hu => rd_at hrd2 j u hu
  have e0 := hc 0 x rfl
  simp only [Nat.zero_add] at e0
  have hrr := rest_rd hc
  have hb12 := hb1.trans (hb2.mono hb1.size)
  obtain ⟨bR, hB1⟩ := cmd_start hb12
  have hlt : w.heap.size < w2.heap.size := bR.lt
  have n4 : ((q + 1 : Nat) : Int) ≤ (c : Int) := by omega
  have HRR := Lib.hid hrr
  clear hown hrd hrd2 hc hrr hb1 hb2 hw hce hb12
  by_cases hc1 : c = 1
  · have hc2 : (c : Int) = 1 := by omega
    obtain rfl : q = 0 := by omega
    have hr0 : r = [] := List.length_eq_zero_iff.1 HQ.out
    go_wp2_with fail
    refine (readBan_is (some ⟨g, 0, none⟩) 0 0 r (HR.out.next hB1) (by rw [hr0]; exact fun j u h => (by cases h)) HQ.out (by omega)).mono ?_
    rintro e w3 hG
    obtain ⟨k, s0, y0, y1, y2, A3, q3, c3, d, er, rfl⟩ := cmdG_form hG
    have hb3 := hG.1
    replace bR := bR.next hb3
    have hB3 := hB1.trans (hb3.mono hB1.size)
    have HG := Lib.hid hG
    obtain ⟨r0, r1, r2, r3, r4, r5, r6⟩ := c_cells bR
    obtain ⟨f0, f1, f2, f3, f4, f5, f6⟩ := c_frozen bR
    clear hb3 hG
    go_wp2_with fail
    refine bodyPost_ret (cmd_end rfl bR _ _ _ _ _ _ _ _ rfl) rfl ?_
    rw [HB.out]
    exact cmdG_up HG.out hB3 hlt _ _ _ _ _ _ _
  · have hc2 : ¬ (c : Int) = 1 := by omega
    go_wp2_with fail
    refine (readBan_is (some ⟨g, 1, none⟩) q (c - 1) r (HR.out.next hB1) HRR.out HQ.out (by omega)).mono ?_
    rintro e w3 hG
    obtain ⟨k, s0, y0, y1, y2, A3, q3, c3, d, er, rfl⟩ := cmdG_form hG
    have hb3 := hG.1
    replace bR := bR.next hb3
    have hB3 := hB1.trans (hb3.mono hB1.size)
    have HG := Lib.hid hG
    obtain ⟨r0, r1, r2, r3, r4, r5, r6⟩ := c_cells bR
    obtain ⟨f0, f1, f2, f3, f4, f5, f6⟩ := c_frozen bR
    clear hb3 hG
    go_wp2_with fail
    refine bodyPost_ret (cmd_end rfl bR _ _ _ _ _ _ _ _ rfl) rfl ?_
    rw [HB.out]
    exact cmdG_up HG.out hB3 hlt _ _ _ _ _ _ _
set_option maxRecDepth 100000 in
set_option maxHeartbeats 8000000 in
theorem lparse_pos (s : List UInt8) {w : World} {a0 a1 a2 : Addr} (hE : Env w) (hR : Errs w a0 a1 a2) (hs : s.length < 4294967281) (x : List UInt8) (r : List (List UInt8)) (h : wordsV s = x :: r) (he : endB s = false) (hx : x = posW) : Calls Tryz.prog 12 #[.string (bs s)] w (CmdG (parseL s) w) := by
  obtain ⟨hpl, hwb, hs4⟩ := parse_some h he
  have HB : Hid (parseL s = setR r) := by show _ = _; rw [hpl, parseW]; rw [hx]; rw [if_neg (by decide)]; rw [if_neg (by decide)]; exact if_pos rfl
  have e1 : ((bs x).toList == [103, 111]) = false := by rw [bs_eqR, hx]; exact decide_eq_false (by decide)
  have e2 : ((bs x).toList == [98, 97, 110, 109, 111, 118, 101, 115]) = false := by rw [bs_eqR, hx]; exact decide_eq_false (by decide)
  have e3 : ((bs x).toList == [112, 111, 115, 105, 116, 105, 111, 110]) = true := by rw [bs_eqR]; exact decide_eq_true hx
  have hA : Below w.heap.size w (w.alloc (.cells cmdZ 29)) := (by repeat (first | exact Below.refl _ _ | (refine Below.setCell ?_ (by first | omega | (simp; done) | (simp; omega) | (simp at *; omega)) _) | (refine Below.alloc ?_ (by first | omega | (simp; done) | (simp; omega) | (simp at *; omega)) _) | refine Below.drew ?_ | (refine below_drewN ?_ _) | (refine Below.trans ?_ (Below.mono (by assumption) (by first | omega | (simp; done) | (simp; omega) | (simp at *; omega))))))
  have hw := words_any s _ (hE.next hA) hs
  have hce := fun W => cany_is s W hs
  rw [he] at hce
  have hwl := words_le s
  have hsz : ∀ u ∈ r, u.length ≤ 100000 := fun u hu => by
    have := words_size (s := s) (x := u) (by rw [hwb]; exact List.mem_cons_of_mem _ hu)
    omega
  rw [h] at hw hwl
  obtain ⟨q, hq⟩ : ∃ q, r.length = q := ⟨_, rfl⟩
  have hn : (x :: r).length = q + 1 := by rw [List.length_cons, hq]
  rw [hn] at hw hwl
  have n0 : (((q + 1 : Nat) : Int) == 0) = false := by rw [beq_eq_false_iff_ne]; omega
  have n1 : (0 : Int) < ((q + 1 : Nat) : Int) := by omega
  have n3 : (1 : Int) ≤ ((q + 1 : Nat) : Int) := by omega
  have HE := Lib.hid hE
  have HR := Lib.hid hR
  have HQ := Lib.hid hq
  have HS := Lib.hid hsz
  clear h he hn hpl hwb hE hR hq hsz hx
  go_enter Tryz.func12, Tryz.ntmps12
  go_wp2_with fail
  refine hw.mono ?_
  rintro e w1 ⟨v, rfl, hown, hb1⟩
  obtain ⟨g, c, rfl, hnc, hg⟩ := own_at hown (Nat.succ_pos _)
  have hrd := Rd.own hown
  go_wp2_with fail
  refine (hce w1).mono ?_
  rintro e w2 ⟨rfl, hb2⟩
  have hrd2 := hrd.next hb2
  have hc : ∀ j u, (x :: r)[j]? = some u → w2.cell? ⟨g, 0 + j, none⟩ = some (.string (bs u)) := fun j u hu => rd_at hrd2 j u hu
  have e0 := hc 0 x rfl
  simp only [Nat.zero_add] at e0
  have hrr := rest_rd hc
  have hb12 := hb1.trans (hb2.mono hb1.size)
  obtain ⟨bR, hB1⟩ := cmd_start hb12
  have hlt : w.heap.size < w2.heap.size := bR.lt
  have n4 : ((q + 1 : Nat) : Int) ≤ (c : Int) := by omega
  have HRR := Lib.hid hrr
  clear hown hrd hrd2 hc hrr hb1 hb2 hw hce hb12
  by_cases hc1 : c = 1
  · have hc2 : (c : Int) = 1 := by omega
    obtain rfl : q = 0 := by omega
    have hr0 : r = [] := List.length_eq_zero_iff.1 HQ.out
    go_wp2_with fail
    refine (readSet_is (some ⟨g, 0, none⟩) 0 0 r (HE.out.next hB1) (HR.out.next hB1) (by rw [hr0]; exact fun j u h => (by cases h)) HQ.out (by omega) (by omega) HS.out).mono ?_
    rintro e w3 hG
    obtain ⟨k, s0, y0, y1, y2, A3, q3, c3, d, er, rfl⟩ := cmdG_form hG
    have hb3 := hG.1
    replace bR := bR.next hb3
    have hB3 := hB1.trans (hb3.mono hB1.size)
    have HG := Lib.hid hG
    obtain ⟨r0, r1, r2, r3, r4, r5, r6⟩ := c_cells bR
    obtain ⟨f0, f1, f2, f3, f4, f5, f6⟩ := c_frozen bR
    clear hb3 hG
    go_wp2_with fail
    refine bodyPost_ret (cmd_end rfl bR _ _ _ _ _ _ _ _ rfl) rfl ?_
    rw [HB.out]
    exact cmdG_up HG.out hB3 hlt _ _ _ _ _ _ _
  · have hc2 : ¬ (c : Int) = 1 := by omega
    go_wp2_with fail
    refine (readSet_is (some ⟨g, 1, none⟩) q (c - 1) r (HE.out.next hB1) (HR.out.next hB1) HRR.out HQ.out (by omega) (by omega) HS.out).mono ?_
    rintro e w3 hG
    obtain ⟨k, s0, y0, y1, y2, A3, q3, c3, d, er, rfl⟩ := cmdG_form hG
    have hb3 := hG.1
    replace bR := bR.next hb3
    have hB3 := hB1.trans (hb3.mono hB1.size)
    have HG := Lib.hid hG
    obtain ⟨r0, r1, r2, r3, r4, r5, r6⟩ := c_cells bR
    obtain ⟨f0, f1, f2, f3, f4, f5, f6⟩ := c_frozen bR
    clear hb3 hG
    go_wp2_with fail
    refine bodyPost_ret (cmd_end rfl bR _ _ _ _ _ _ _ _ rfl) rfl ?_
    rw [HB.out]
    exact cmdG_up HG.out hB3 hlt _ _ _ _ _ _ _
theorem look_bare (x : List UInt8) {W : World} {b : Nat} (hb : W.heap[b]? = some (.map (bareE 5) 5)) : (Instr.lookup 52 (.map (some b)) (.string (bs x)) true).run Tryz.prog W = .ok (.tuple #[.int .i64 (bareK x), .bool (decide (bareK x ≠ 0))]) W := by
  have hf := find_bare x
  by_cases h : bareK x = 0
  · rw [if_pos h] at hf
    rw [run_look_no Tryz.underlying52 Tryz.underlying9 (z := .int .i64 0) (by kernel_rfl) hb hf, h]
    rfl
  · rw [if_neg h] at hf
    rw [run_look Tryz.underlying52 Tryz.underlying9 hb hf, decide_eq_true h]
theorem bare_keep {g : Nat} {x : List UInt8} {w W W' : World} (h : W.cell? ⟨g, 0, none⟩ = some (.string (bs x)) ∧ Blk W w.heap.size 29 cmdZ ∧ Below w.heap.size w W) (hb : Below W.heap.size W W') : W'.cell? ⟨g, 0, none⟩ = some (.string (bs x)) ∧ Blk W' w.heap.size 29 cmdZ ∧ Below w.heap.size w W' :=
  ⟨(hb.cell (cell_lt h.1)).trans h.1, h.2.1.next hb, h.2.2.trans (hb.mono h.2.2.size)⟩
theorem parseW_bare {x : List UInt8} {r : List (List UInt8)} (h1 : x ≠ goW) (h2 : x ≠ banW) (h3 : x ≠ posW) : parseW (x :: r) = if bareK x = 0 ∨ r ≠ [] then .error 9 else .ok ⟨bareK x, zeroP, [], 0⟩ := by
  rw [parseW, if_neg h1, if_neg h2, if_neg h3]
set_option maxRecDepth 100000 in
set_option maxHeartbeats 8000000 in
theorem lparse_bare (s : List UInt8) {w : World} {a0 a1 a2 : Addr} (hE : Env w) (hR : Errs w a0 a1 a2) (hs : s.length < 4294967281) (x : List UInt8) (r : List (List UInt8)) (h : wordsV s = x :: r) (he : endB s = false) (h1 : x ≠ goW) (h2 : x ≠ banW) (h3 : x ≠ posW) : Calls Tryz.prog 12 #[.string (bs s)] w (CmdG (parseL s) w) := by
  obtain ⟨hpl, hwb, hs4⟩ := parse_some h he
  have HB : Hid (parseL s = if bareK x = 0 ∨ r ≠ [] then .error 9 else .ok ⟨bareK x, zeroP, [], 0⟩) := by show _ = _; rw [hpl]; exact parseW_bare h1 h2 h3
  have e1 : ((bs x).toList == [103, 111]) = false := by rw [bs_eqR]; exact decide_eq_false h1
  have e2 : ((bs x).toList == [98, 97, 110, 109, 111, 118, 101, 115]) = false := by rw [bs_eqR]; exact decide_eq_false h2
  have e3 : ((bs x).toList == [112, 111, 115, 105, 116, 105, 111, 110]) = false := by rw [bs_eqR]; exact decide_eq_false h3
  obtain ⟨kx, hkx⟩ : ∃ kx, bareK x = kx := ⟨_, rfl⟩
  have HLK := Lib.hid fun (W : World) (b : Nat) (hb : W.heap[b]? = some (.map (bareE 5) 5)) => look_bare x hb
  rw [hkx] at HLK HB
  have hA : Below w.heap.size w (w.alloc (.cells cmdZ 29)) := (by repeat (first | exact Below.refl _ _ | (refine Below.setCell ?_ (by first | omega | (simp; done) | (simp; omega) | (simp at *; omega)) _) | (refine Below.alloc ?_ (by first | omega | (simp; done) | (simp; omega) | (simp at *; omega)) _) | refine Below.drew ?_ | (refine below_drewN ?_ _) | (refine Below.trans ?_ (Below.mono (by assumption) (by first | omega | (simp; done) | (simp; omega) | (simp at *; omega))))))
  have hw := words_any s _ (hE.next hA) hs
  have hce := fun W => cany_is s W hs
  rw [he] at hce
  have hwl := words_le s
  have hsz : ∀ u ∈ r, u.length ≤ 100000 := fun u hu => by
    have := words_size (s := s) (x := u) (by rw [hwb]; exact List.mem_cons_of_mem _ hu)
    omega
  rw [h] at hw hwl
  obtain ⟨q, hq⟩ : ∃ q, r.length = q := ⟨_, rfl⟩
  have hn : (x :: r).length = q + 1 := by rw [List.length_cons, hq]
  rw [hn] at hw hwl
  have n0 : (((q + 1 : Nat) : Int) == 0) = false := by rw [beq_eq_false_iff_ne]; omega
  have n1 : (0 : Int) < ((q + 1 : Nat) : Int) := by omega
  have n3 : (1 : Int) ≤ ((q + 1 : Nat) : Int) := by omega
  have HE := Lib.hid hE
  have HR := Lib.hid hR
  have HQ := Lib.hid hq
  have HS := Lib.hid hsz
  clear h he hn hpl hwb hE hR hq hsz h1 h2 h3 hkx
  go_enter Tryz.func12, Tryz.ntmps12
  go_wp2_with fail
  refine hw.mono ?_
  rintro e w1 ⟨v, rfl, hown, hb1⟩
  obtain ⟨g, c, rfl, hnc, hg⟩ := own_at hown (Nat.succ_pos _)
  have hrd := Rd.own hown
  go_wp2_with fail
  refine (hce w1).mono ?_
  rintro e w2 ⟨rfl, hb2⟩
  have hrd2 := hrd.next hb2
  have hc : ∀ j u, (x :: r)[j]? = some u → w2.cell? ⟨g, 0 + j, none⟩ = some (.string (bs u)) := fun j u hu => rd_at hrd2 j u hu
  have e0 := hc 0 x rfl
  simp only [Nat.zero_add] at e0
  have hrr := rest_rd hc
  have hb12 := hb1.trans (hb2.mono hb1.size)
  obtain ⟨bR, hB1⟩ := cmd_start hb12
  have hlt : w.heap.size < w2.heap.size := bR.lt
  have n4 : ((q + 1 : Nat) : Int) ≤ (c : Int) := by omega
  have HRR := Lib.hid hrr
  clear hown hrd hrd2 hc hrr hb1 hb2 hw hce hb12
  by_cases hc1 : c = 1
  · have hc2 : (c : Int) = 1 := by omega
    obtain rfl : q = 0 := by omega
    go_wp2_with fail
    have hS : w2.drew.cell? ⟨g, 0, none⟩ = some (.string (bs x)) ∧ Blk w2.drew w.heap.size 29 cmdZ ∧ Below w.heap.size w w2.drew := ⟨e0, bR.next (Below.refl _ _).drew, hB1.drew⟩
    clear bR hB1 hlt
    go_region_held3 (fun W => W.cell? ⟨g, 0, none⟩ = some (.string (bs x)) ∧ Blk W w.heap.size 29 cmdZ ∧ Below w.heap.size w W)
      (first | exact hS | with_reducible assumption | exact bare_keep (by assumption) hb2)
      (first | (go_at_call 28; refine (bare_is _).mono ?_; rintro e w4 ⟨rfl, hmp, hb2⟩; have hlk := HLK.out w4 w2.heap.size hmp))
    all_goals
      rename_i hH
      obtain ⟨_, bR2, hB2⟩ := hH
      clear hS hlk hmp
      obtain ⟨r0, r1, r2, r3, r4, r5, r6⟩ := c_cells bR2
      obtain ⟨f0, f1, f2, f3, f4, f5, f6⟩ := c_frozen bR2
      by_cases hk0 : kx = 0
      · have HB2 := Lib.hid (HB.out.trans (if_pos (.inl hk0)))
        have hd : (!decide (kx = 0)) = false := by rw [decide_eq_true hk0]; rfl
        rw [hd]
        clear hk0 hd
        go_wp2_with fail
        refine bodyPost_ret (cmd_end rfl bR2 _ _ _ _ _ _ _ _ rfl) rfl ?_
        exact cmdG_err HB2.out (below_cmd hB2 (Nat.le_refl _) _ _ _ _ _ _ _)
      · have hd : (!decide (kx = 0)) = true := by rw [decide_eq_false hk0]; rfl
        rw [hd]
        have HB2 := Lib.hid (HB.out.trans (if_neg (fun e => e.elim hk0 fun e => e (List.length_eq_zero_iff.1 HQ.out))))
        clear hk0 hd
        go_wp2_with fail
        refine bodyPost_ret (cmd_end rfl bR2 _ _ _ _ _ _ _ _ rfl) rfl ?_
        exact cmdG_ok (c := ⟨kx, zeroP, [], 0⟩) HB2.out (below_cmd hB2 (Nat.le_refl _) _ _ _ _ _ _ _) (World.ownsRow_nil _ w.heap.size 60 2)
  · have hc2 : ¬ (c : Int) = 1 := by omega
    go_wp2_with fail
    have hS : w2.drew.cell? ⟨g, 0, none⟩ = some (.string (bs x)) ∧ Blk w2.drew w.heap.size 29 cmdZ ∧ Below w.heap.size w w2.drew := ⟨e0, bR.next (Below.refl _ _).drew, hB1.drew⟩
    clear bR hB1 hlt
    go_region_held3 (fun W => W.cell? ⟨g, 0, none⟩ = some (.string (bs x)) ∧ Blk W w.heap.size 29 cmdZ ∧ Below w.heap.size w W)
      (first | exact hS | with_reducible assumption | exact bare_keep (by assumption) hb2)
      (first | (go_at_call 28; refine (bare_is _).mono ?_; rintro e w4 ⟨rfl, hmp, hb2⟩; have hlk := HLK.out w4 w2.heap.size hmp))
    all_goals
      rename_i hH
      obtain ⟨_, bR2, hB2⟩ := hH
      clear hS hlk hmp
      obtain ⟨r0, r1, r2, r3, r4, r5, r6⟩ := c_cells bR2
      obtain ⟨f0, f1, f2, f3, f4, f5, f6⟩ := c_frozen bR2
      by_cases hk0 : kx = 0
      · have HB2 := Lib.hid (HB.out.trans (if_pos (.inl hk0)))
        have hd : (!decide (kx = 0)) = false := by rw [decide_eq_true hk0]; rfl
        rw [hd]
        clear hk0 hd
        go_wp2_with fail
        refine bodyPost_ret (cmd_end rfl bR2 _ _ _ _ _ _ _ _ rfl) rfl ?_
        exact cmdG_err HB2.out (below_cmd hB2 (Nat.le_refl _) _ _ _ _ _ _ _)
      · have hd : (!decide (kx = 0)) = true := by rw [decide_eq_false hk0]; rfl
        rw [hd]
        by_cases hq0 : q = 0
        · have HB2 := Lib.hid (HB.out.trans (if_neg (fun e => e.elim hk0 fun e => e (List.length_eq_zero_iff.1 (HQ.out.trans hq0)))))
          have hq1 : ¬ (0 : Int) < (q : Int) := by omega
          have hq2 : decide ((0 : Int) < (q : Int)) = false := decide_eq_false hq1
          clear hk0 hd
          go_wp2_with fail
          refine bodyPost_ret (cmd_end rfl bR2 _ _ _ _ _ _ _ _ rfl) rfl ?_
          exact cmdG_ok (c := ⟨kx, zeroP, [], 0⟩) HB2.out (below_cmd hB2 (Nat.le_refl _) _ _ _ _ _ _ _) (World.ownsRow_nil _ w.heap.size 60 2)
        · have HB2 := Lib.hid (HB.out.trans (if_pos (.inr fun e => hq0 (by rw [← HQ.out, e]; rfl))))
          have hq1 : (0 : Int) < (q : Int) := by omega
          have hq2 : decide ((0 : Int) < (q : Int)) = true := decide_eq_true hq1
          clear hk0 hd
          go_wp2_with fail
          refine bodyPost_ret (cmd_end rfl bR2 _ _ _ _ _ _ _ _ rfl) rfl ?_
          exact cmdG_err HB2.out (below_cmd hB2 (Nat.le_refl _) _ _ _ _ _ _ _)
/-- What Parse answers. -/
theorem lparse_any (s : List UInt8) {w : World} {a0 a1 a2 : Addr} (hE : Env w) (hR : Errs w a0 a1 a2) (hs : s.length < 4294967281) : Calls Tryz.prog 12 #[.string (bs s)] w (CmdG (parseL s) w) := by
  cases h : wordsV s with
  | nil => exact lparse_zero s w hE hs h
  | cons x r =>
    cases he : endB s with
    | true => exact lparse_end s w hE hs x r h he
    | false =>
      by_cases h1 : x = goW
      · exact lparse_go s hE hR hs x r h he h1
      · by_cases h2 : x = banW
        · exact lparse_ban s hE hR hs x r h he h2
        · by_cases h3 : x = posW
          · exact lparse_pos s hE hR hs x r h he h3
          · exact lparse_bare s hE hR hs x r h he h1 h2 h3
end Go.Proofs.YtpogpjebhnoncabGreatDoor
