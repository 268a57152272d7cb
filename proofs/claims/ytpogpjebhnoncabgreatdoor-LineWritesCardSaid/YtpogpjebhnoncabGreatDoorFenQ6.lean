/- What the code reads of a text: a position, or an error. -/
import Derived.Test.YtpogpjebhnoncabGreatDoorFenQ5
import Derived.Test.YtpogpjebhnoncabGreatDoorFenN
namespace Go.Proofs.YtpogpjebhnoncabGreatDoor
open Go.RowKit Go.Shelf
open M (S)

theorem err_iface : ∀ {k : Int} {n : Nat} {u : Value}, Err k n u → ∃ t p, u = .iface t p
  | k, 0, u, h => ⟨_, _, h⟩
  | k, n + 1, u, h => by
    rcases h with h | ⟨p, x, rfl, _⟩
    · exact err_iface h
    · exact ⟨_, _, rfl⟩
theorem readC_yes {d1 d2 ck fl : List UInt8} {x y : Nat} {v : Value} (h1 : d1 = [45]) (h2 : d2 = [45]) (hx : F.numL ck = some x) (hy : F.numL fl = some y) (h : CountsR d1 d2 ck fl v) : v = .tuple #[.int .i64 (x : Int), .int .i64 (y : Int), .nilIface] := by
  unfold CountsR at h
  rw [if_pos ⟨h1, h2⟩, hx, hy] at h
  exact h
theorem readC_no {d1 d2 ck fl : List UInt8} {v : Value} (hbad : ¬ (d1 = [45] ∧ d2 = [45]) ∨ F.numL ck = none ∨ F.numL fl = none) (h : CountsR d1 d2 ck fl v) : ∃ ty pv, v = .tuple #[.int .i64 0, .int .i64 0, .iface ty pv] ∧ Err 6 1 (.iface ty pv) := by
  have key : ∃ u, v = .tuple #[.int .i64 0, .int .i64 0, u] ∧ Err 6 1 u := by
    unfold CountsR at h
    rcases hbad with hb | hb | hb
    · rw [if_neg hb] at h
      exact h
    · rw [hb, ite_self] at h
      exact h
    · rw [hb] at h
      split at h
      · rename_i h0; cases h0
      · exact h
  obtain ⟨u, rfl, he⟩ := key
  obtain ⟨ty, pv, rfl⟩ := err_iface he
  exact ⟨ty, pv, rfl, he⟩
theorem boardR_yes {b l : List UInt8} {v : Value} (hb : F.boardL b = some l) (h : BoardR b v) : v = .tuple #[.string (bs l), .nilIface] := by
  unfold BoardR at h
  rw [hb] at h
  exact h
theorem boardR_no {b : List UInt8} {v : Value} (hb : F.boardL b = none) (h : BoardR b v) : ∃ ty pv, v = .tuple #[.string ⟨#[]⟩, .iface ty pv] ∧ Err 6 1 (.iface ty pv) := by
  unfold BoardR at h
  rw [hb] at h
  obtain ⟨u, rfl, he⟩ := h
  obtain ⟨ty, pv, rfl⟩ := err_iface he
  exact ⟨ty, pv, rfl, he⟩
theorem readSide_is (t : List UInt8) (v : Value) (w : World) (h : sideV t = v) : Calls Tryz.prog 127 #[.string (bs t)] w (Gives w v) := by subst h; exact readSide_any t w
theorem sideV_yes {t : List UInt8} {y : Int} (h : F.sideL t = some y) : sideV t = .tuple #[.int .i64 y, .nilIface] := by rw [sideV, h]
theorem sideV_no {t : List UInt8} (h : F.sideL t = none) : sideV t = .tuple #[.int .i64 0, .iface 151 (.agg #[.int .i64 6])] := by rw [sideV, h]; rfl
/-- What read answers. -/
def ReadO (o : Option F.P) (v : Value) : Prop := match o with
  | some p => if (checkP p : Int) = 0 then v = .tuple #[posVP p, .nilIface] else ∃ s a b c ty pv, v = .tuple #[.agg #[.string s, .int .i64 a, .int .i64 b, .int .i64 c], .iface ty pv] ∧ Err (checkP p) 2 (.iface ty pv)
  | none => ∃ s a b c ty pv, v = .tuple #[.agg #[.string s, .int .i64 a, .int .i64 b, .int .i64 c], .iface ty pv] ∧ Err 6 2 (.iface ty pv)
theorem readO_none {t : List UInt8} {v : Value} (h : F.formL t = none) (hv : ∃ s a b c ty pv, v = .tuple #[.agg #[.string s, .int .i64 a, .int .i64 b, .int .i64 c], .iface ty pv] ∧ Err 6 2 (.iface ty pv)) : ReadO (F.formL t) v := by rw [h]; exact hv
theorem readO_yes {t : List UInt8} {p : F.P} (h : F.formL t = some p) (h0 : (checkP p : Int) = 0) : ReadO (F.formL t) (.tuple #[posVP p, .nilIface]) := by rw [h, ReadO, if_pos h0]
theorem readO_no {t : List UInt8} {p : F.P} {v : Value} (h : F.formL t = some p) (h0 : ¬ (checkP p : Int) = 0) (hv : ∃ s a b c ty pv, v = .tuple #[.agg #[.string s, .int .i64 a, .int .i64 b, .int .i64 c], .iface ty pv] ∧ Err (checkP p) 2 (.iface ty pv)) : ReadO (F.formL t) v := by rw [h, ReadO, if_neg h0]; exact hv
theorem read_split {t : List UInt8} {p : F.P} (h : F.formL t = some p) : ((checkP p : Int) = 0 ∧ ReadO (F.formL t) (.tuple #[posVP p, .nilIface])) ∨ (∃ k : Int, (k != 0) = true ∧ (checkP p : Int) = k ∧ ∀ v, (∃ s a b c ty pv, v = .tuple #[.agg #[.string s, .int .i64 a, .int .i64 b, .int .i64 c], .iface ty pv] ∧ Err k 2 (.iface ty pv)) → ReadO (F.formL t) v) := by
  by_cases h0 : (checkP p : Int) = 0
  · exact .inl ⟨h0, readO_yes h h0⟩
  · exact .inr ⟨_, by rw [bne_iff_ne]; exact h0, rfl, fun v hv => readO_no h h0 hv⟩
def GivesRd (w : World) (t : List UInt8) : Ending → World → Prop := fun e w' => ∃ v, e = .returned v ∧ ReadO (F.formL t) v ∧ Below w.heap.size w w'
theorem err_wrap {k : Int} {n : Nat} {u : Value} (p : ByteArray) (h : Err k n u) : Err k (n + 1) (.iface 147 (.agg #[.string p, u])) := .inr ⟨p, u, rfl, h⟩
theorem err_more {k : Int} {n : Nat} {u : Value} (h : Err k n u) : Err k (n + 1) u := .inl h
theorem err_ref (k : Int) : Err k 0 (.iface 151 (.agg #[.int .i64 k])) := rfl
theorem Blk.other {W : World} {g b : Nat} {t : TypeId} {cs : Array Value} (h : Blk W g t cs) (i : Nat) (u : Value) (hne : b ≠ g) : Blk (W.setCell ⟨b, i, none⟩ u) g t cs := h.far (p := ⟨b, i, none⟩) (Ne.symm hne) u
theorem Rd.other {W : World} {g b : Nat} {xs : List Value} (h : Rd W (some ⟨g, 0, none⟩) xs) (i : Nat) (u : Value) (hne : b ≠ g) : Rd (W.setCell ⟨b, i, none⟩ u) (some ⟨g, 0, none⟩) xs := fun j x hx => by
  obtain ⟨ad, ha, hc⟩ := h j x hx
  refine ⟨ad, ha, ?_⟩
  injection ha with ha
  subst ha
  rw [World.cell?_setCell_other (h := fun e => hne (by
    have := congrArg Addr.block e
    have h2 : ((⟨g, 0, none⟩ : Addr).add j).block = g := by
      unfold Addr.add
      split <;> rfl
    rw [h2] at this
    exact this))]
  exact hc
/-- What read has in memory: the position so far, and its result; the text's fields. -/
structure RSt (w W : World) (g : Nat) (l : List (List UInt8)) (s : ByteArray) (a b c : Int) : Prop where
  bN : Blk W (w.heap.size + 1) 23 #[.string s, .int .i64 a, .int .i64 b, .int .i64 c]
  bR : Blk W w.heap.size 23 #[.string ⟨#[]⟩, .int .i64 0, .int .i64 0, .int .i64 0]
  hr : Rd W (some ⟨g, 0, none⟩) (l.map sv)
  hg : w.heap.size + 2 ≤ g
  hB : Below w.heap.size w W
  hE : Env W
  hL : EnvLt w.heap.size
section
variable {w W W' : World} {g : Nat} {l : List (List UInt8)} {s : ByteArray} {a b c : Int}
theorem RSt.next (h : RSt w W g l s a b c) (hb : Below W.heap.size W W') : RSt w W' g l s a b c := ⟨h.bN.next hb, h.bR.next hb, h.hr.next hb, h.hg, h.hB.trans (hb.mono h.hB.size), h.hE.next hb, h.hL⟩
theorem RSt.set (h : RSt w W g l s a b c) (i : Nat) (u : Value) {s' : ByteArray} {a' b' c' : Int} (hs : (#[.string s, .int .i64 a, .int .i64 b, .int .i64 c] : Array Value).setIfInBounds i u = #[.string s', .int .i64 a', .int .i64 b', .int .i64 c']) : RSt w (W.setCell ⟨w.heap.size + 1, i, none⟩ u) g l s' a' b' c' := by
  have hS : Below w.heap.size w (W.setCell ⟨w.heap.size + 1, i, none⟩ u) := h.hB.setCell (Nat.le_succ _) _
  have hN := h.bN.set_ i u
  rw [hs] at hN
  exact ⟨hN, h.bR.other i u (by omega), h.hr.other i u (by have := h.hg; omega), h.hg, hS, h.hE.below ((Below.refl w.heap.size W).setCell (Nat.le_succ _) _) h.hL, h.hL⟩
theorem RSt.ends (h : RSt w W g l s a b c) (x y z u : Value) : Blk ((((W.setCell ⟨w.heap.size, 0, none⟩ x).setCell ⟨w.heap.size, 1, none⟩ y).setCell ⟨w.heap.size, 2, none⟩ z).setCell ⟨w.heap.size, 3, none⟩ u) w.heap.size 23 #[x, y, z, u] ∧ Below w.heap.size w ((((W.setCell ⟨w.heap.size, 0, none⟩ x).setCell ⟨w.heap.size, 1, none⟩ y).setCell ⟨w.heap.size, 2, none⟩ z).setCell ⟨w.heap.size, 3, none⟩ u) := ⟨blk_four h.bR, below_four h.hB⟩
theorem RSt.look (h : RSt w W g l s a b c) : (W.cell? ⟨w.heap.size + 1, 0, none⟩ = some (.string s) ∧ W.cell? ⟨w.heap.size + 1, 1, none⟩ = some (.int .i64 a) ∧ W.cell? ⟨w.heap.size + 1, 2, none⟩ = some (.int .i64 b) ∧ W.cell? ⟨w.heap.size + 1, 3, none⟩ = some (.int .i64 c)) ∧ (W.frozen? ⟨w.heap.size + 1, 0, none⟩ = false ∧ W.frozen? ⟨w.heap.size + 1, 1, none⟩ = false ∧ W.frozen? ⟨w.heap.size + 1, 2, none⟩ = false ∧ W.frozen? ⟨w.heap.size + 1, 3, none⟩ = false) ∧ (W.cell? ⟨w.heap.size, 0, none⟩ = some (.string ⟨#[]⟩) ∧ W.cell? ⟨w.heap.size, 1, none⟩ = some (.int .i64 0) ∧ W.cell? ⟨w.heap.size, 2, none⟩ = some (.int .i64 0) ∧ W.cell? ⟨w.heap.size, 3, none⟩ = some (.int .i64 0)) ∧ (W.frozen? ⟨w.heap.size, 0, none⟩ = false ∧ W.frozen? ⟨w.heap.size, 1, none⟩ = false ∧ W.frozen? ⟨w.heap.size, 2, none⟩ = false ∧ W.frozen? ⟨w.heap.size, 3, none⟩ = false) ∧ w.heap.size + 1 < W.heap.size ∧ ¬ w.heap.size + 1 = g ∧ ¬ w.heap.size = g := ⟨pos_cells h.bN, pos_frozen h.bN, pos_cells h.bR, pos_frozen h.bR, h.bN.lt, by have := h.hg; omega, by have := h.hg; omega⟩
end
theorem read_start {w W : World} {g : Nat} {l : List (List UInt8)} (hE : Env w) (hg : ((w.alloc (.cells #[.string ⟨#[]⟩, .int .i64 0, .int .i64 0, .int .i64 0] 23)).alloc (.cells #[.string ⟨#[]⟩, .int .i64 0, .int .i64 0, .int .i64 1] 23)).heap.size ≤ g) (hr : Rd W (some ⟨g, 0, none⟩) (l.map sv)) (hb : Below ((w.alloc (.cells #[.string ⟨#[]⟩, .int .i64 0, .int .i64 0, .int .i64 0] 23)).alloc (.cells #[.string ⟨#[]⟩, .int .i64 0, .int .i64 0, .int .i64 1] 23)).heap.size ((w.alloc (.cells #[.string ⟨#[]⟩, .int .i64 0, .int .i64 0, .int .i64 0] 23)).alloc (.cells #[.string ⟨#[]⟩, .int .i64 0, .int .i64 0, .int .i64 1] 23)) W) : RSt w W g l ⟨#[]⟩ 0 0 1 := by
  obtain ⟨bN, bR, hB⟩ := two_zero hb
  refine ⟨bN, bR, hr, ?_, hB, hE.next hB, envLt hE⟩
  simpa using hg
set_option maxHeartbeats 4000000 in
theorem read_else (t : List UInt8) (n : Nat) (l : List (List UInt8)) (w : World) (hE : Env w) (h2 : n ≠ 2) (h6 : n ≠ 6) (hf : F.formL t = none) (hs : ∀ w, Env w → Calls Tryz.prog 124 #[.string (bs t), .string ⟨#[32]⟩, .int .i64 7] w (GivesA w l n)) : Calls Tryz.prog 99 #[.string (bs t)] w (GivesRd w t) := by
  unfold GivesRd
  have HF := Lib.hid hf
  have HS := Lib.hid hs
  have e2 : ((n : Int) == 2) = false := by rw [beq_eq_false_iff_ne]; omega
  have e6 : ((n : Int) == 6) = false := by rw [beq_eq_false_iff_ne]; omega
  clear hf hs h2 h6
  go_enter Tryz.func99, Tryz.ntmps99
  go_wp2_with fail
  refine (HS.out _ (hE.next (by repeat (first | exact Below.refl _ _ | (refine Below.setCell ?_ (by first | omega | (simp; done) | (simp; omega) | (simp at *; omega)) _) | (refine Below.alloc ?_ (by first | omega | (simp; done) | (simp; omega) | (simp at *; omega)) _) | refine Below.drew ?_ | (refine below_drewN ?_ _) | (refine Below.trans ?_ (Below.mono (by assumption) (by first | omega | (simp; done) | (simp; omega) | (simp at *; omega)))))))).mono ?_
  rintro e w1 ⟨g, c, rfl, ⟨_, hg⟩, hr, hb⟩
  have St := read_start hE hg hr hb
  clear hg hr hb
  go_wp2_with fail
  replace St := St.next ((Below.refl _ _).drew)
  obtain ⟨⟨p0, p1, p2, p3⟩, ⟨q0, q1, q2, q3⟩, ⟨r0, r1, r2, r3⟩, ⟨f0, f1, f2, f3⟩, hlt, hn1, hn2⟩ := St.look
  clear q0 q1 q2 q3
  go_region_with ((go_at_call 128; refine (malformed_any _).mono ?_; rintro e w3 ⟨rfl, hb⟩; have St3 := St.next hb; obtain ⟨⟨p0, p1, p2, p3⟩, _, ⟨r0, r1, r2, r3⟩, ⟨f0, f1, f2, f3⟩, hlt, hn1, hn2⟩ := St3.look))
  all_goals
    go_wp2
    refine bodyPost_ret (res_pos rfl _ _ rfl (St3.ends _ _ _ _).1) rfl ?_
    exact ⟨_, rfl, readO_none HF.out ⟨_, _, _, _, _, _, rfl, err_more (err_wrap _ (err_ref 6))⟩, (St3.ends _ _ _ _).2⟩
set_option maxRecDepth 100000 in
set_option maxHeartbeats 4000000 in
theorem read_two (t b sd : List UInt8) (w : World) (hE : Env w) (ht : t.length < 4294967281) (hl : F.cutL 32 t = [b, sd]) : Calls Tryz.prog 99 #[.string (bs t)] w (GivesRd w t) := by
  unfold GivesRd
  have hbl : b.length < 4294967281 := Nat.lt_of_le_of_lt (piece_le 32 t b (by rw [hl]; simp)) ht
  have hform := form_two hl
  have HL := Lib.hid hl
  clear hl
  cases hx : F.boardL b with
  | none =>
    have HF : Hid (F.formL t = none) := by show _ = _; simp [hform, hx]
    have HX := Lib.hid hx
    clear hform hx
    go_enter Tryz.func99, Tryz.ntmps99
    go_wp2_with fail
    refine (split_fewA t 32 7 _ 2 _ (hE.next (by repeat (first | exact Below.refl _ _ | (refine Below.setCell ?_ (by first | omega | (simp; done) | (simp; omega) | (simp at *; omega)) _) | (refine Below.alloc ?_ (by first | omega | (simp; done) | (simp; omega) | (simp at *; omega)) _) | refine Below.drew ?_ | (refine below_drewN ?_ _) | (refine Below.trans ?_ (Below.mono (by assumption) (by first | omega | (simp; done) | (simp; omega) | (simp at *; omega))))))) (by decide) (by decide) ht HL.out rfl (by decide)).mono ?_
    rintro e w1 ⟨g, c, rfl, ⟨hc, hg⟩, hr, hb⟩
    have St := read_start hE hg hr hb
    clear hg hr hb
    have c0 := rd_at St.hr 0 b rfl
    go_wp2_with fail
    refine (readBoard_any b _ St.hE hbl).mono ?_
    rintro e w2 ⟨v, rfl, hv, hb⟩
    clear c0
    replace St := St.next hb
    clear hb
    obtain ⟨ty, pv, rfl, he⟩ := boardR_no HX.out hv
    clear hv
    obtain ⟨⟨p0, p1, p2, p3⟩, ⟨q0, q1, q2, q3⟩, ⟨r0, r1, r2, r3⟩, ⟨f0, f1, f2, f3⟩, hlt, hn1, hn2⟩ := St.look
    go_wp2
    clear p0 p1 p2 p3 q0 q1 q2 q3 r0 r1 r2 r3 f0 f1 f2 f3 hlt hn1 hn2
    have St := St.set 0 (.string ⟨#[]⟩) rfl
    refine bodyPost_ret (res_pos rfl _ _ rfl (St.ends _ _ _ _).1) rfl ?_
    exact ⟨_, rfl, readO_none HF.out ⟨_, _, _, _, _, _, rfl, err_wrap _ he⟩, (St.ends _ _ _ _).2⟩
  | some x =>
    have HX := Lib.hid hx
    cases hs : F.sideL sd with
    | none =>
      have HF : Hid (F.formL t = none) := by show _ = _; simp [hform, hs]
      have HS := Lib.hid (sideV_no hs)
      clear hform hx hs
      go_enter Tryz.func99, Tryz.ntmps99
      go_wp2_with fail
      refine (split_fewA t 32 7 _ 2 _ (hE.next (by repeat (first | exact Below.refl _ _ | (refine Below.setCell ?_ (by first | omega | (simp; done) | (simp; omega) | (simp at *; omega)) _) | (refine Below.alloc ?_ (by first | omega | (simp; done) | (simp; omega) | (simp at *; omega)) _) | refine Below.drew ?_ | (refine below_drewN ?_ _) | (refine Below.trans ?_ (Below.mono (by assumption) (by first | omega | (simp; done) | (simp; omega) | (simp at *; omega))))))) (by decide) (by decide) ht HL.out rfl (by decide)).mono ?_
      rintro e w1 ⟨g, c, rfl, ⟨hc, hg⟩, hr, hb⟩
      have St := read_start hE hg hr hb
      clear hg hr hb
      have c0 := rd_at St.hr 0 b rfl
      go_wp2_with fail
      refine (readBoard_any b _ St.hE hbl).mono ?_
      rintro e w2 ⟨v, rfl, hv, hb⟩
      clear c0
      replace St := St.next hb
      clear hb
      obtain rfl := boardR_yes HX.out hv
      clear hv
      have c1 := rd_at St.hr 1 sd rfl
      obtain ⟨⟨p0, p1, p2, p3⟩, ⟨q0, q1, q2, q3⟩, ⟨r0, r1, r2, r3⟩, ⟨f0, f1, f2, f3⟩, hlt, hn1, hn2⟩ := St.look
      go_wp2_with fail
      clear p0 p1 p2 p3 q0 q1 q2 q3 r0 r1 r2 r3 f0 f1 f2 f3 hlt hn1 hn2
      clear c1
      replace St := St.set 0 (.string (bs x)) rfl
      refine (readSide_is sd _ _ HS.out).mono ?_
      rintro e w4 ⟨rfl, hb⟩
      replace St := St.next hb
      clear hb
      obtain ⟨⟨p0, p1, p2, p3⟩, ⟨q0, q1, q2, q3⟩, ⟨r0, r1, r2, r3⟩, ⟨f0, f1, f2, f3⟩, hlt, hn1, hn2⟩ := St.look
      go_wp2
      clear p0 p1 p2 p3 q0 q1 q2 q3 r0 r1 r2 r3 f0 f1 f2 f3 hlt hn1 hn2
      have St := St.set 1 (.int .i64 0) rfl
      refine bodyPost_ret (res_pos rfl _ _ rfl (St.ends _ _ _ _).1) rfl ?_
      exact ⟨_, rfl, readO_none HF.out ⟨_, _, _, _, _, _, rfl, err_more (err_wrap _ (err_ref 6))⟩, (St.ends _ _ _ _).2⟩
    | some y =>
      rw [hx, hs] at hform
      replace hform : F.formL t = some _ := hform
      have HS := Lib.hid (sideV_yes hs)
      rcases read_split hform with ⟨h0, hK⟩ | ⟨k, hn, h0, hK⟩
      · have HF := Lib.hid hK
        have HK := Lib.hid h0
        clear hform hx hs h0 hK
        go_enter Tryz.func99, Tryz.ntmps99
        go_wp2_with fail
        refine (split_fewA t 32 7 _ 2 _ (hE.next (by repeat (first | exact Below.refl _ _ | (refine Below.setCell ?_ (by first | omega | (simp; done) | (simp; omega) | (simp at *; omega)) _) | (refine Below.alloc ?_ (by first | omega | (simp; done) | (simp; omega) | (simp at *; omega)) _) | refine Below.drew ?_ | (refine below_drewN ?_ _) | (refine Below.trans ?_ (Below.mono (by assumption) (by first | omega | (simp; done) | (simp; omega) | (simp at *; omega))))))) (by decide) (by decide) ht HL.out rfl (by decide)).mono ?_
        rintro e w1 ⟨g, c, rfl, ⟨hc, hg⟩, hr, hb⟩
        have St := read_start hE hg hr hb
        clear hg hr hb
        have c0 := rd_at St.hr 0 b rfl
        go_wp2_with fail
        refine (readBoard_any b _ St.hE hbl).mono ?_
        rintro e w2 ⟨v, rfl, hv, hb⟩
        clear c0
        replace St := St.next hb
        clear hb
        obtain rfl := boardR_yes HX.out hv
        clear hv
        have c1 := rd_at St.hr 1 sd rfl
        obtain ⟨⟨p0, p1, p2, p3⟩, ⟨q0, q1, q2, q3⟩, ⟨r0, r1, r2, r3⟩, ⟨f0, f1, f2, f3⟩, hlt, hn1, hn2⟩ := St.look
        go_wp2_with fail
        clear p0 p1 p2 p3 q0 q1 q2 q3 r0 r1 r2 r3 f0 f1 f2 f3 hlt hn1 hn2
        clear c1
        replace St := St.set 0 (.string (bs x)) rfl
        refine (readSide_is sd _ _ HS.out).mono ?_
        rintro e w4 ⟨rfl, hb⟩
        replace St := St.next hb
        clear hb
        obtain ⟨⟨p0, p1, p2, p3⟩, ⟨q0, q1, q2, q3⟩, ⟨r0, r1, r2, r3⟩, ⟨f0, f1, f2, f3⟩, hlt, hn1, hn2⟩ := St.look
        go_wp2_with fail
        clear p0 p1 p2 p3 q0 q1 q2 q3 r0 r1 r2 r3 f0 f1 f2 f3 hlt hn1 hn2
        replace St := St.set 1 (.int .i64 y) rfl
        refine (check_is _ _ _ _ _ _ HK.out).mono ?_
        rintro e w5 ⟨rfl, hb⟩
        replace St := St.next hb
        clear hb
        obtain ⟨⟨p0, p1, p2, p3⟩, ⟨q0, q1, q2, q3⟩, ⟨r0, r1, r2, r3⟩, ⟨f0, f1, f2, f3⟩, hlt, hn1, hn2⟩ := St.look
        go_wp2
        refine bodyPost_ret (res_pos rfl _ _ rfl (St.ends _ _ _ _).1) rfl ?_
        exact ⟨_, rfl, HF.out, (St.ends _ _ _ _).2⟩
      · have HF := Lib.hid hK
        have HK := Lib.hid h0
        clear hform hx hs h0 hK
        go_enter Tryz.func99, Tryz.ntmps99
        go_wp2_with fail
        refine (split_fewA t 32 7 _ 2 _ (hE.next (by repeat (first | exact Below.refl _ _ | (refine Below.setCell ?_ (by first | omega | (simp; done) | (simp; omega) | (simp at *; omega)) _) | (refine Below.alloc ?_ (by first | omega | (simp; done) | (simp; omega) | (simp at *; omega)) _) | refine Below.drew ?_ | (refine below_drewN ?_ _) | (refine Below.trans ?_ (Below.mono (by assumption) (by first | omega | (simp; done) | (simp; omega) | (simp at *; omega))))))) (by decide) (by decide) ht HL.out rfl (by decide)).mono ?_
        rintro e w1 ⟨g, c, rfl, ⟨hc, hg⟩, hr, hb⟩
        have St := read_start hE hg hr hb
        clear hg hr hb
        have c0 := rd_at St.hr 0 b rfl
        go_wp2_with fail
        refine (readBoard_any b _ St.hE hbl).mono ?_
        rintro e w2 ⟨v, rfl, hv, hb⟩
        clear c0
        replace St := St.next hb
        clear hb
        obtain rfl := boardR_yes HX.out hv
        clear hv
        have c1 := rd_at St.hr 1 sd rfl
        obtain ⟨⟨p0, p1, p2, p3⟩, ⟨q0, q1, q2, q3⟩, ⟨r0, r1, r2, r3⟩, ⟨f0, f1, f2, f3⟩, hlt, hn1, hn2⟩ := St.look
        go_wp2_with fail
        clear p0 p1 p2 p3 q0 q1 q2 q3 r0 r1 r2 r3 f0 f1 f2 f3 hlt hn1 hn2
        clear c1
        replace St := St.set 0 (.string (bs x)) rfl
        refine (readSide_is sd _ _ HS.out).mono ?_
        rintro e w4 ⟨rfl, hb⟩
        replace St := St.next hb
        clear hb
        obtain ⟨⟨p0, p1, p2, p3⟩, ⟨q0, q1, q2, q3⟩, ⟨r0, r1, r2, r3⟩, ⟨f0, f1, f2, f3⟩, hlt, hn1, hn2⟩ := St.look
        go_wp2_with fail
        clear p0 p1 p2 p3 q0 q1 q2 q3 r0 r1 r2 r3 f0 f1 f2 f3 hlt hn1 hn2
        replace St := St.set 1 (.int .i64 y) rfl
        refine (check_is _ _ _ _ _ _ HK.out).mono ?_
        rintro e w5 ⟨rfl, hb⟩
        replace St := St.next hb
        clear hb
        obtain ⟨⟨p0, p1, p2, p3⟩, ⟨q0, q1, q2, q3⟩, ⟨r0, r1, r2, r3⟩, ⟨f0, f1, f2, f3⟩, hlt, hn1, hn2⟩ := St.look
        go_wp2
        refine bodyPost_ret (res_pos rfl _ _ rfl (St.ends _ _ _ _).1) rfl ?_
        exact ⟨_, rfl, HF.out _ ⟨_, _, _, _, _, _, rfl, err_more (err_wrap _ (err_ref k))⟩, (St.ends _ _ _ _).2⟩
set_option maxRecDepth 100000 in
set_option maxHeartbeats 4000000 in
theorem read_six (t b sd d1 d2 ck fl : List UInt8) (w : World) (hE : Env w) (ht : t.length < 4294967281) (hl : F.cutL 32 t = [b, sd, d1, d2, ck, fl]) : Calls Tryz.prog 99 #[.string (bs t)] w (GivesRd w t) := by
  unfold GivesRd
  have hbl : b.length < 4294967281 := Nat.lt_of_le_of_lt (piece_le 32 t b (by rw [hl]; simp)) ht
  have hckl : ck.length ≤ 4294967281 := Nat.le_trans (piece_le 32 t ck (by rw [hl]; simp)) (by omega)
  have hfll : fl.length ≤ 4294967281 := Nat.le_trans (piece_le 32 t fl (by rw [hl]; simp)) (by omega)
  have hform := form_six hl
  have HL := Lib.hid hl
  clear hl
  by_cases hbad : ¬ (d1 = [45] ∧ d2 = [45]) ∨ F.numL ck = none ∨ F.numL fl = none
  · have HF : Hid (F.formL t = none) := by
      show _ = _
      rw [hform]
      rcases hbad with h | h | h
      · rw [if_neg h]
      · simp [h]
      · simp [h]
    have HB := Lib.hid hbad
    clear hform hbad
    go_enter Tryz.func99, Tryz.ntmps99
    go_wp2_with fail
    refine (split_fewA t 32 7 _ 6 _ (hE.next (by repeat (first | exact Below.refl _ _ | (refine Below.setCell ?_ (by first | omega | (simp; done) | (simp; omega) | (simp at *; omega)) _) | (refine Below.alloc ?_ (by first | omega | (simp; done) | (simp; omega) | (simp at *; omega)) _) | refine Below.drew ?_ | (refine below_drewN ?_ _) | (refine Below.trans ?_ (Below.mono (by assumption) (by first | omega | (simp; done) | (simp; omega) | (simp at *; omega))))))) (by decide) (by decide) ht HL.out rfl (by decide)).mono ?_
    rintro e w1 ⟨g, c, rfl, ⟨hc, hg⟩, hr, hb⟩
    have St := read_start hE hg hr hb
    clear hg hr hb
    go_wp2_with fail
    refine (readCounts_any d1 d2 ck fl g 2 _ _ St.hE hckl hfll (rd_of fun j x hx => by
      have := rd_at St.hr (2 + j) x (by rw [Nat.add_comm]; exact hx)
      rw [Nat.zero_add] at this
      exact this)).mono ?_
    rintro e w2 ⟨V, rfl, hv, hb⟩
    replace St := St.next hb
    clear hb
    obtain ⟨ty, pv, rfl, he⟩ := readC_no HB.out hv
    clear hv
    obtain ⟨⟨p0, p1, p2, p3⟩, ⟨q0, q1, q2, q3⟩, ⟨r0, r1, r2, r3⟩, ⟨f0, f1, f2, f3⟩, hlt, hn1, hn2⟩ := St.look
    go_wp2
    clear p0 p1 p2 p3 q0 q1 q2 q3 r0 r1 r2 r3 f0 f1 f2 f3 hlt hn1 hn2
    have St := (St.set 2 (.int .i64 0) rfl).set 3 (.int .i64 0) rfl
    refine bodyPost_ret (res_pos rfl _ _ rfl (St.ends _ _ _ _).1) rfl ?_
    exact ⟨_, rfl, readO_none HF.out ⟨_, _, _, _, _, _, rfl, err_wrap _ he⟩, (St.ends _ _ _ _).2⟩
  · obtain ⟨hdd, hbad⟩ := not_or.1 hbad
    obtain ⟨hu, hv⟩ := not_or.1 hbad
    replace hdd : d1 = [45] ∧ d2 = [45] := Classical.not_not.1 hdd
    obtain ⟨u, hu⟩ := Option.ne_none_iff_exists'.1 hu
    obtain ⟨v, hv⟩ := Option.ne_none_iff_exists'.1 hv
    rw [if_pos hdd, hu, hv] at hform
    have HC : Hid (∀ V, CountsR d1 d2 ck fl V → V = .tuple #[.int .i64 (u : Int), .int .i64 (v : Int), .nilIface]) := fun V h => readC_yes hdd.1 hdd.2 hu hv h
    clear hdd hbad hu hv
    cases hx : F.boardL b with
    | none =>
      have HF : Hid (F.formL t = none) := by show _ = _; simp [hform, hx]
      have HX := Lib.hid hx
      clear hform hx
      go_enter Tryz.func99, Tryz.ntmps99
      go_wp2_with fail
      refine (split_fewA t 32 7 _ 6 _ (hE.next (by repeat (first | exact Below.refl _ _ | (refine Below.setCell ?_ (by first | omega | (simp; done) | (simp; omega) | (simp at *; omega)) _) | (refine Below.alloc ?_ (by first | omega | (simp; done) | (simp; omega) | (simp at *; omega)) _) | refine Below.drew ?_ | (refine below_drewN ?_ _) | (refine Below.trans ?_ (Below.mono (by assumption) (by first | omega | (simp; done) | (simp; omega) | (simp at *; omega))))))) (by decide) (by decide) ht HL.out rfl (by decide)).mono ?_
      rintro e w1 ⟨g, c, rfl, ⟨hc, hg⟩, hr, hb⟩
      have St := read_start hE hg hr hb
      clear hg hr hb
      go_wp2_with fail
      refine (readCounts_any d1 d2 ck fl g 2 _ _ St.hE hckl hfll (rd_of fun j x hx => by
        have := rd_at St.hr (2 + j) x (by rw [Nat.add_comm]; exact hx)
        rw [Nat.zero_add] at this
        exact this)).mono ?_
      rintro e w2 ⟨V, rfl, hv, hb⟩
      replace St := St.next hb
      clear hb
      obtain rfl := HC.out _ hv
      clear hv
      have c0 := rd_at St.hr 0 b rfl
      obtain ⟨⟨p0, p1, p2, p3⟩, ⟨q0, q1, q2, q3⟩, ⟨r0, r1, r2, r3⟩, ⟨f0, f1, f2, f3⟩, hlt, hn1, hn2⟩ := St.look
      go_wp2_with fail
      clear p0 p1 p2 p3 q0 q1 q2 q3 r0 r1 r2 r3 f0 f1 f2 f3 hlt hn1 hn2
      replace St := (St.set 2 (.int .i64 (u : Int)) rfl).set 3 (.int .i64 (v : Int)) rfl
      refine (readBoard_any b _ St.hE hbl).mono ?_
      rintro e w3 ⟨V, rfl, hv, hb⟩
      clear c0
      replace St := St.next hb
      clear hb
      obtain ⟨ty, pv, rfl, he⟩ := boardR_no HX.out hv
      clear hv
      obtain ⟨⟨p0, p1, p2, p3⟩, ⟨q0, q1, q2, q3⟩, ⟨r0, r1, r2, r3⟩, ⟨f0, f1, f2, f3⟩, hlt, hn1, hn2⟩ := St.look
      go_wp2
      clear p0 p1 p2 p3 q0 q1 q2 q3 r0 r1 r2 r3 f0 f1 f2 f3 hlt hn1 hn2
      have St := St.set 0 (.string ⟨#[]⟩) rfl
      refine bodyPost_ret (res_pos rfl _ _ rfl (St.ends _ _ _ _).1) rfl ?_
      exact ⟨_, rfl, readO_none HF.out ⟨_, _, _, _, _, _, rfl, err_wrap _ he⟩, (St.ends _ _ _ _).2⟩
    | some x =>
      have HX := Lib.hid hx
      cases hs : F.sideL sd with
      | none =>
        have HF : Hid (F.formL t = none) := by show _ = _; simp [hform, hs]
        have HS := Lib.hid (sideV_no hs)
        clear hform hx hs
        go_enter Tryz.func99, Tryz.ntmps99
        go_wp2_with fail
        refine (split_fewA t 32 7 _ 6 _ (hE.next (by repeat (first | exact Below.refl _ _ | (refine Below.setCell ?_ (by first | omega | (simp; done) | (simp; omega) | (simp at *; omega)) _) | (refine Below.alloc ?_ (by first | omega | (simp; done) | (simp; omega) | (simp at *; omega)) _) | refine Below.drew ?_ | (refine below_drewN ?_ _) | (refine Below.trans ?_ (Below.mono (by assumption) (by first | omega | (simp; done) | (simp; omega) | (simp at *; omega))))))) (by decide) (by decide) ht HL.out rfl (by decide)).mono ?_
        rintro e w1 ⟨g, c, rfl, ⟨hc, hg⟩, hr, hb⟩
        have St := read_start hE hg hr hb
        clear hg hr hb
        go_wp2_with fail
        refine (readCounts_any d1 d2 ck fl g 2 _ _ St.hE hckl hfll (rd_of fun j x hx => by
          have := rd_at St.hr (2 + j) x (by rw [Nat.add_comm]; exact hx)
          rw [Nat.zero_add] at this
          exact this)).mono ?_
        rintro e w2 ⟨V, rfl, hv, hb⟩
        replace St := St.next hb
        clear hb
        obtain rfl := HC.out _ hv
        clear hv
        have c0 := rd_at St.hr 0 b rfl
        obtain ⟨⟨p0, p1, p2, p3⟩, ⟨q0, q1, q2, q3⟩, ⟨r0, r1, r2, r3⟩, ⟨f0, f1, f2, f3⟩, hlt, hn1, hn2⟩ := St.look
        go_wp2_with fail
        clear p0 p1 p2 p3 q0 q1 q2 q3 r0 r1 r2 r3 f0 f1 f2 f3 hlt hn1 hn2
        replace St := (St.set 2 (.int .i64 (u : Int)) rfl).set 3 (.int .i64 (v : Int)) rfl
        refine (readBoard_any b _ St.hE hbl).mono ?_
        rintro e w3 ⟨V, rfl, hv, hb⟩
        clear c0
        replace St := St.next hb
        clear hb
        obtain rfl := boardR_yes HX.out hv
        clear hv
        have c1 := rd_at St.hr 1 sd rfl
        obtain ⟨⟨p0, p1, p2, p3⟩, ⟨q0, q1, q2, q3⟩, ⟨r0, r1, r2, r3⟩, ⟨f0, f1, f2, f3⟩, hlt, hn1, hn2⟩ := St.look
        go_wp2_with fail
        clear p0 p1 p2 p3 q0 q1 q2 q3 r0 r1 r2 r3 f0 f1 f2 f3 hlt hn1 hn2
        clear c1
        replace St := St.set 0 (.string (bs x)) rfl
        refine (readSide_is sd _ _ HS.out).mono ?_
        rintro e w4 ⟨rfl, hb⟩
        replace St := St.next hb
        clear hb
        obtain ⟨⟨p0, p1, p2, p3⟩, ⟨q0, q1, q2, q3⟩, ⟨r0, r1, r2, r3⟩, ⟨f0, f1, f2, f3⟩, hlt, hn1, hn2⟩ := St.look
        go_wp2
        clear p0 p1 p2 p3 q0 q1 q2 q3 r0 r1 r2 r3 f0 f1 f2 f3 hlt hn1 hn2
        have St := St.set 1 (.int .i64 0) rfl
        refine bodyPost_ret (res_pos rfl _ _ rfl (St.ends _ _ _ _).1) rfl ?_
        exact ⟨_, rfl, readO_none HF.out ⟨_, _, _, _, _, _, rfl, err_more (err_wrap _ (err_ref 6))⟩, (St.ends _ _ _ _).2⟩
      | some y =>
        rw [hx, hs] at hform
        replace hform : F.formL t = some _ := hform
        have HS := Lib.hid (sideV_yes hs)
        rcases read_split hform with ⟨h0, hK⟩ | ⟨k, hn, h0, hK⟩
        · have HF := Lib.hid hK
          have HK := Lib.hid h0
          clear hform hx hs h0 hK
          go_enter Tryz.func99, Tryz.ntmps99
          go_wp2_with fail
          refine (split_fewA t 32 7 _ 6 _ (hE.next (by repeat (first | exact Below.refl _ _ | (refine Below.setCell ?_ (by first | omega | (simp; done) | (simp; omega) | (simp at *; omega)) _) | (refine Below.alloc ?_ (by first | omega | (simp; done) | (simp; omega) | (simp at *; omega)) _) | refine Below.drew ?_ | (refine below_drewN ?_ _) | (refine Below.trans ?_ (Below.mono (by assumption) (by first | omega | (simp; done) | (simp; omega) | (simp at *; omega))))))) (by decide) (by decide) ht HL.out rfl (by decide)).mono ?_
          rintro e w1 ⟨g, c, rfl, ⟨hc, hg⟩, hr, hb⟩
          have St := read_start hE hg hr hb
          clear hg hr hb
          go_wp2_with fail
          refine (readCounts_any d1 d2 ck fl g 2 _ _ St.hE hckl hfll (rd_of fun j x hx => by
            have := rd_at St.hr (2 + j) x (by rw [Nat.add_comm]; exact hx)
            rw [Nat.zero_add] at this
            exact this)).mono ?_
          rintro e w2 ⟨V, rfl, hv, hb⟩
          replace St := St.next hb
          clear hb
          obtain rfl := HC.out _ hv
          clear hv
          have c0 := rd_at St.hr 0 b rfl
          obtain ⟨⟨p0, p1, p2, p3⟩, ⟨q0, q1, q2, q3⟩, ⟨r0, r1, r2, r3⟩, ⟨f0, f1, f2, f3⟩, hlt, hn1, hn2⟩ := St.look
          go_wp2_with fail
          clear p0 p1 p2 p3 q0 q1 q2 q3 r0 r1 r2 r3 f0 f1 f2 f3 hlt hn1 hn2
          replace St := (St.set 2 (.int .i64 (u : Int)) rfl).set 3 (.int .i64 (v : Int)) rfl
          refine (readBoard_any b _ St.hE hbl).mono ?_
          rintro e w3 ⟨V, rfl, hv, hb⟩
          clear c0
          replace St := St.next hb
          clear hb
          obtain rfl := boardR_yes HX.out hv
          clear hv
          have c1 := rd_at St.hr 1 sd rfl
          obtain ⟨⟨p0, p1, p2, p3⟩, ⟨q0, q1, q2, q3⟩, ⟨r0, r1, r2, r3⟩, ⟨f0, f1, f2, f3⟩, hlt, hn1, hn2⟩ := St.look
          go_wp2_with fail
          clear p0 p1 p2 p3 q0 q1 q2 q3 r0 r1 r2 r3 f0 f1 f2 f3 hlt hn1 hn2
          clear c1
          replace St := St.set 0 (.string (bs x)) rfl
          refine (readSide_is sd _ _ HS.out).mono ?_
          rintro e w4 ⟨rfl, hb⟩
          replace St := St.next hb
          clear hb
          obtain ⟨⟨p0, p1, p2, p3⟩, ⟨q0, q1, q2, q3⟩, ⟨r0, r1, r2, r3⟩, ⟨f0, f1, f2, f3⟩, hlt, hn1, hn2⟩ := St.look
          go_wp2_with fail
          clear p0 p1 p2 p3 q0 q1 q2 q3 r0 r1 r2 r3 f0 f1 f2 f3 hlt hn1 hn2
          replace St := St.set 1 (.int .i64 y) rfl
          refine (check_is _ _ _ _ _ _ HK.out).mono ?_
          rintro e w5 ⟨rfl, hb⟩
          replace St := St.next hb
          clear hb
          obtain ⟨⟨p0, p1, p2, p3⟩, ⟨q0, q1, q2, q3⟩, ⟨r0, r1, r2, r3⟩, ⟨f0, f1, f2, f3⟩, hlt, hn1, hn2⟩ := St.look
          go_wp2
          refine bodyPost_ret (res_pos rfl _ _ rfl (St.ends _ _ _ _).1) rfl ?_
          exact ⟨_, rfl, HF.out, (St.ends _ _ _ _).2⟩
        · have HF := Lib.hid hK
          have HK := Lib.hid h0
          clear hform hx hs h0 hK
          go_enter Tryz.func99, Tryz.ntmps99
          go_wp2_with fail
          refine (split_fewA t 32 7 _ 6 _ (hE.next (by repeat (first | exact Below.refl _ _ | (refine Below.setCell ?_ (by first | omega | (simp; done) | (simp; omega) | (simp at *; omega)) _) | (refine Below.alloc ?_ (by first | omega | (simp; done) | (simp; omega) | (simp at *; omega)) _) | refine Below.drew ?_ | (refine below_drewN ?_ _) | (refine Below.trans ?_ (Below.mono (by assumption) (by first | omega | (simp; done) | (simp; omega) | (simp at *; omega))))))) (by decide) (by decide) ht HL.out rfl (by decide)).mono ?_
          rintro e w1 ⟨g, c, rfl, ⟨hc, hg⟩, hr, hb⟩
          have St := read_start hE hg hr hb
          clear hg hr hb
          go_wp2_with fail
          refine (readCounts_any d1 d2 ck fl g 2 _ _ St.hE hckl hfll (rd_of fun j x hx => by
            have := rd_at St.hr (2 + j) x (by rw [Nat.add_comm]; exact hx)
            rw [Nat.zero_add] at this
            exact this)).mono ?_
          rintro e w2 ⟨V, rfl, hv, hb⟩
          replace St := St.next hb
          clear hb
          obtain rfl := HC.out _ hv
          clear hv
          have c0 := rd_at St.hr 0 b rfl
          obtain ⟨⟨p0, p1, p2, p3⟩, ⟨q0, q1, q2, q3⟩, ⟨r0, r1, r2, r3⟩, ⟨f0, f1, f2, f3⟩, hlt, hn1, hn2⟩ := St.look
          go_wp2_with fail
          clear p0 p1 p2 p3 q0 q1 q2 q3 r0 r1 r2 r3 f0 f1 f2 f3 hlt hn1 hn2
          replace St := (St.set 2 (.int .i64 (u : Int)) rfl).set 3 (.int .i64 (v : Int)) rfl
          refine (readBoard_any b _ St.hE hbl).mono ?_
          rintro e w3 ⟨V, rfl, hv, hb⟩
          clear c0
          replace St := St.next hb
          clear hb
          obtain rfl := boardR_yes HX.out hv
          clear hv
          have c1 := rd_at St.hr 1 sd rfl
          obtain ⟨⟨p0, p1, p2, p3⟩, ⟨q0, q1, q2, q3⟩, ⟨r0, r1, r2, r3⟩, ⟨f0, f1, f2, f3⟩, hlt, hn1, hn2⟩ := St.look
          go_wp2_with fail
          clear p0 p1 p2 p3 q0 q1 q2 q3 r0 r1 r2 r3 f0 f1 f2 f3 hlt hn1 hn2
          clear c1
          replace St := St.set 0 (.string (bs x)) rfl
          refine (readSide_is sd _ _ HS.out).mono ?_
          rintro e w4 ⟨rfl, hb⟩
          replace St := St.next hb
          clear hb
          obtain ⟨⟨p0, p1, p2, p3⟩, ⟨q0, q1, q2, q3⟩, ⟨r0, r1, r2, r3⟩, ⟨f0, f1, f2, f3⟩, hlt, hn1, hn2⟩ := St.look
          go_wp2_with fail
          clear p0 p1 p2 p3 q0 q1 q2 q3 r0 r1 r2 r3 f0 f1 f2 f3 hlt hn1 hn2
          replace St := St.set 1 (.int .i64 y) rfl
          refine (check_is _ _ _ _ _ _ HK.out).mono ?_
          rintro e w5 ⟨rfl, hb⟩
          replace St := St.next hb
          clear hb
          obtain ⟨⟨p0, p1, p2, p3⟩, ⟨q0, q1, q2, q3⟩, ⟨r0, r1, r2, r3⟩, ⟨f0, f1, f2, f3⟩, hlt, hn1, hn2⟩ := St.look
          go_wp2
          refine bodyPost_ret (res_pos rfl _ _ rfl (St.ends _ _ _ _).1) rfl ?_
          exact ⟨_, rfl, HF.out _ ⟨_, _, _, _, _, _, rfl, err_more (err_wrap _ (err_ref k))⟩, (St.ends _ _ _ _).2⟩
theorem read_any (t : List UInt8) (w : World) (hE : Env w) (ht : t.length < 4294967281) : Calls Tryz.prog 99 #[.string (bs t)] w (GivesRd w t) := by
  by_cases h2 : (F.cutL 32 t).length = 2
  · obtain ⟨b, sd, hl⟩ := list_two h2
    exact read_two t b sd w hE ht hl
  by_cases h6 : (F.cutL 32 t).length = 6
  · obtain ⟨b, sd, d1, d2, ck, fl, hl⟩ := list_six h6
    exact read_six t b sd d1 d2 ck fl w hE ht hl
  by_cases h7 : (F.cutL 32 t).length ≤ 7
  · exact read_else t _ _ w hE h2 h6 (form_else h2 h6) fun W hW => split_fewA t 32 7 _ _ W hW (by decide) (by decide) ht rfl rfl h7
  · obtain ⟨l, hs⟩ := split_manyA t 32 7 (by decide) (by decide) ht (Nat.lt_of_not_le h7)
    exact read_else t 7 l w hE (by decide) (by decide) (form_else h2 h6) hs
end Go.Proofs.YtpogpjebhnoncabGreatDoor
