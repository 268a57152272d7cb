/- Merged: FenR7. -/
import Derived.Test.YtbdgbihdhbjljaaGreatDoorFenM
import Derived.Laws.ResultCell
import Derived.Laws.Rows

namespace Go.Proofs.YtbdgbihdhbjljaaGreatDoor
open Go.RowKit Go.Shelf
open M (S)

/-- No position. -/
def posZ : Value := .agg #[.string ⟨#[]⟩, .int .i64 0, .int .i64 0, .int .i64 0]
/-- A position's value. -/
def posVP (p : F.P) : Value := .agg #[.string (bs p.cells), .int .i64 p.side, .int .i64 p.clock, .int .i64 p.full]
/-- What is wrong with it. -/
def checkP (p : F.P) : Nat := checkN (bs p.cells) p.side p.clock p.full
/-- What a text comes to. -/
def parseO : Option F.P → Value
  | none => .tuple #[posZ, .int .i64 6]
  | some p => if (checkP p : Int) = 0 then .tuple #[posVP p, .int .i64 0] else .tuple #[posZ, .int .i64 (checkP p : Nat)]
def parseV (t : List UInt8) : Value := parseO (F.formL t)
theorem parse_none {t : List UInt8} (h : F.formL t = none) : parseV t = .tuple #[posZ, .int .i64 6] := by rw [parseV, h]; rfl
theorem parse_yes {t : List UInt8} {p : F.P} (h : F.formL t = some p) (h0 : (checkP p : Int) = 0) : parseV t = .tuple #[posVP p, .int .i64 0] := by rw [parseV, h, parseO, if_pos h0]
theorem parse_no {t : List UInt8} {p : F.P} (h : F.formL t = some p) (h0 : ¬ (checkP p : Int) = 0) : parseV t = .tuple #[posZ, .int .i64 (checkP p : Nat)] := by rw [parseV, h, parseO, if_neg h0]
theorem form_split {t : List UInt8} {p : F.P} (h : F.formL t = some p) : ((checkP p : Int) = 0 ∧ parseV t = .tuple #[posVP p, .int .i64 0]) ∨ (∃ k : Int, (k != 0) = true ∧ (checkP p : Int) = k ∧ parseV t = .tuple #[posZ, .int .i64 k]) := by
  by_cases h0 : (checkP p : Int) = 0
  · exact .inl ⟨h0, parse_yes h h0⟩
  · exact .inr ⟨_, by rw [bne_iff_ne]; exact h0, rfl, parse_no h h0⟩
theorem form_two {t b sd : List UInt8} (h : F.cutL 32 t = [b, sd]) : F.formL t = match F.boardL b, F.sideL sd with
    | some x, some y => some ⟨x, y, 0, 1⟩
    | _, _ => none := by rw [F.formL, h]; rfl
theorem form_six {t b sd d1 d2 ck fl : List UInt8} (h : F.cutL 32 t = [b, sd, d1, d2, ck, fl]) : F.formL t = if d1 = [45] ∧ d2 = [45] then (match F.boardL b, F.sideL sd, F.numL ck, F.numL fl with
    | some x, some y, some u, some v => some ⟨x, y, (u : Int), (v : Int)⟩
    | _, _, _, _ => none) else none := by rw [F.formL, h]; rfl
theorem form_else {t : List UInt8} (h2 : (F.cutL 32 t).length ≠ 2) (h6 : (F.cutL 32 t).length ≠ 6) : F.formL t = none := by
  unfold F.formL
  split
  · rename_i h; rw [h] at h2; exact absurd rfl h2
  · rename_i h; rw [h] at h6; exact absurd rfl h6
  · rfl
theorem list_two {l : List (List UInt8)} (h : l.length = 2) : ∃ a b, l = [a, b] := by
  match l, h with
  | [a, b], _ => exact ⟨a, b, rfl⟩
theorem list_six {l : List (List UInt8)} (h : l.length = 6) : ∃ a b c d e f, l = [a, b, c, d, e, f] := by
  match l, h with
  | [a, b, c, d, e, f], _ => exact ⟨a, b, c, d, e, f, rfl⟩
/-- Two answers of a board's text. -/
theorem board_cases (b : List UInt8) : (∃ x, F.boardL b = some x ∧ boardV b = .tuple #[.string (bs x), .bool true]) ∨ (F.boardL b = none ∧ boardV b = .tuple #[.string ⟨#[]⟩, .bool false]) := by
  unfold boardV
  cases h : F.boardL b with
  | none => exact .inr ⟨rfl, rfl⟩
  | some x => exact .inl ⟨x, rfl, rfl⟩
theorem num_cases (t : List UInt8) : (∃ u : Nat, F.numL t = some u ∧ numV t = .tuple #[.int .i64 (u : Int), .bool true]) ∨ (F.numL t = none ∧ numV t = .tuple #[.int .i64 0, .bool false]) := by
  unfold numV
  cases h : F.numL t with
  | none => exact .inr ⟨rfl, rfl⟩
  | some x => exact .inl ⟨x, rfl, rfl⟩
theorem bs_eqR (t l : List UInt8) : ((bs t).toList == l) = decide (t = l) := by
  rw [ByteArray.toList_eq, bs_data, Bool.eq_iff_iff]
  simp
/-- The four cases of a side's text, as comparisons tell them. -/
theorem side_cases (t : List UInt8) : (((bs t).toList == [119]) = true ∧ F.sideL t = some 0) ∨ (((bs t).toList == [119]) = false ∧ ((bs t).toList == [114]) = true ∧ F.sideL t = some 0) ∨ (((bs t).toList == [119]) = false ∧ ((bs t).toList == [114]) = false ∧ ((bs t).toList == [98]) = true ∧ F.sideL t = some 1) ∨ (((bs t).toList == [119]) = false ∧ ((bs t).toList == [114]) = false ∧ ((bs t).toList == [98]) = false ∧ F.sideL t = none) := by
  rw [bs_eqR, bs_eqR, bs_eqR]
  by_cases h1 : t = [119]
  · left; exact ⟨by simp [h1], by simp [F.sideL, h1]⟩
  by_cases h2 : t = [114]
  · right; left; exact ⟨by simp [h1], by simp [h2], by simp [F.sideL, h2]⟩
  by_cases h3 : t = [98]
  · right; right; left; exact ⟨by simp [h1], by simp [h2], by simp [h3], by simp [F.sideL, h3]⟩
  · right; right; right; exact ⟨by simp [h1], by simp [h2], by simp [h3], by simp [F.sideL, h1, h2, h3]⟩
theorem dash_cases (t : List UInt8) : (((bs t).toList == [45]) = true ∧ t = [45]) ∨ (((bs t).toList == [45]) = false ∧ t ≠ [45]) := by
  rw [bs_eqR]
  by_cases h : t = [45]
  · exact .inl ⟨by simp [h], h⟩
  · exact .inr ⟨by simp [h], h⟩
theorem pos_cells {W : World} {g : Nat} {t : TypeId} {s : ByteArray} {a b c : Int} (h : Blk W g t #[.string s, .int .i64 a, .int .i64 b, .int .i64 c]) : W.cell? ⟨g, 0, none⟩ = some (.string s) ∧ W.cell? ⟨g, 1, none⟩ = some (.int .i64 a) ∧ W.cell? ⟨g, 2, none⟩ = some (.int .i64 b) ∧ W.cell? ⟨g, 3, none⟩ = some (.int .i64 c) := ⟨h.cell 0, h.cell 1, h.cell 2, h.cell 3⟩
theorem pos_frozen {W : World} {g : Nat} {t : TypeId} {cs : Array Value} (h : Blk W g t cs) : W.frozen? ⟨g, 0, none⟩ = false ∧ W.frozen? ⟨g, 1, none⟩ = false ∧ W.frozen? ⟨g, 2, none⟩ = false ∧ W.frozen? ⟨g, 3, none⟩ = false := ⟨h.frozen 0, h.frozen 1, h.frozen 2, h.frozen 3⟩
/-- Two positions are laid, then a call: the second one, the first one, and what was ahead. -/
theorem two_zero {w W : World} {t t' : TypeId} {cs cs' : Array Value} (hb : Below ((w.alloc (.cells cs' t')).alloc (.cells cs t)).heap.size ((w.alloc (.cells cs' t')).alloc (.cells cs t)) W) : Blk W (w.heap.size + 1) t cs ∧ Blk W w.heap.size t' cs' ∧ Below w.heap.size w W := by
  have h0 : Below w.heap.size w ((w.alloc (.cells cs' t')).alloc (.cells cs t)) := (by repeat (first | exact Below.refl _ _ | (refine Below.setCell ?_ (by first | omega | (simp; done) | (simp; omega) | (simp at *; omega)) _) | (refine Below.alloc ?_ (by first | omega | (simp; done) | (simp; omega) | (simp at *; omega)) _) | refine Below.drew ?_ | (refine below_drewN ?_ _) | (refine Below.trans ?_ (Below.mono (by assumption) (by first | omega | (simp; done) | (simp; omega) | (simp at *; omega))))))
  exact ⟨(Blk.new _ _ _ (by simp)).next hb, ((Blk.new _ _ _ rfl).alloc _).next hb, h0.trans (hb.mono h0.size)⟩
theorem below_four {w W : World} {a b c d : Value} {i j k l : Nat} (h : Below w.heap.size w W) : Below w.heap.size w ((((W.setCell ⟨w.heap.size, i, none⟩ a).setCell ⟨w.heap.size, j, none⟩ b).setCell ⟨w.heap.size, k, none⟩ c).setCell ⟨w.heap.size, l, none⟩ d) :=
  (((h.setCell (Nat.le_refl _) _).setCell (Nat.le_refl _) _).setCell (Nat.le_refl _) _).setCell (Nat.le_refl _) _
theorem blk_four {W : World} {g : Nat} {t : TypeId} {x y z u a b c d : Value} (h : Blk W g t #[x, y, z, u]) : Blk ((((W.setCell ⟨g, 0, none⟩ a).setCell ⟨g, 1, none⟩ b).setCell ⟨g, 2, none⟩ c).setCell ⟨g, 3, none⟩ d) g t #[a, b, c, d] := (((h.set_ 0 a).set_ 1 b).set_ 2 c).set_ 3 d
/-- Results, the first of them a position in memory. -/
theorem res_pos {fn : Func} {p u : Tmp} (h : fn.results = #[.cell p 23, .tmp u]) (tmps : Array Value) (w : World) {g : Nat} (hp : tmps.getD p undef = .pointer (some ⟨g, 0, none⟩)) {t : TypeId} {a b c d : Value} (hb : Blk w g t #[a, b, c, d]) :
    (results fn tmps).run Tryz.prog w = .ok (.tuple #[.agg #[a, b, c, d], tmps.getD u undef]) w := by
  rw [results_cell_tmp h, hp]
  have h1 := run_loadVar_row (P := Tryz.prog) w g t 23 #[a, b, c, d] (0, 0) _ hb Tryz.underlying23 rfl (by kernel_rfl)
  simp [asAddr, h1, Result.andThen]
theorem rcut_isA (t : List UInt8) (c n : Nat) (l : List (List UInt8)) (w : World) (hc : c < 256) (hs : t.length ≤ 1048576) (hl : F.cutL (UInt8.ofNat c) t = l) (hn : l.length = n) : Calls Tryz.prog 96 #[.string (bs t), .int .u8 (c : Int)] w (GivesA w l n) := by
  subst hn hl
  have h := rcut_at (bs t) c w hc (by rw [bs_size]; exact hs)
  rw [bs_data] at h
  exact h
theorem rcells_is (b : List UInt8) (v : Value) (w : World) (ht : b.length ≤ 1000) (h : boardV b = v) : Calls Tryz.prog 97 #[.string (bs b)] w (Gives w v) := by subst h; exact rcells_any b w ht
theorem rnum_is (t : List UInt8) (v : Value) (w : World) (ht : t.length ≤ 1000) (h : numV t = v) : Calls Tryz.prog 98 #[.string (bs t)] w (Says w v) := by subst h; exact rnum_any t w ht
set_option maxHeartbeats 1000000 in
theorem rparse_else (t : List UInt8) (n : Nat) (w : World) (ht : t.length ≤ 1000) (hn : (F.cutL 32 t).length = n) (h2 : n ≠ 2) (h6 : n ≠ 6) : Calls Tryz.prog 60 #[.string (bs t)] w (Gives w (parseV t)) := by
  unfold Gives
  rw [parse_none (form_else (by rw [hn]; exact h2) (by rw [hn]; exact h6))]
  have HN := Lib.hid hn
  have hsz := bs_size t
  have e2 : ((n : Int) != 2) = true := by rw [bne_iff_ne]; omega
  have e6 : ((n : Int) != 6) = true := by rw [bne_iff_ne]; omega
  have hd : decide (1000 < ((bs t).size : Int)) = false := by simp; omega
  have hd2 : (bs t).size ≤ 1000 := by omega
  clear hn h2 h6 hsz
  go_enter Tryz.func60, Tryz.ntmps60
  go_wp2_with fail
  refine (rcut_isA t 32 n _ _ (by decide) (by omega) rfl HN.out).mono ?_
  rintro e w1 ⟨g, c, rfl, hc, hr, hb⟩
  clear hr
  obtain ⟨bN, bR, hB⟩ := two_zero hb
  obtain ⟨z0, z1, z2, z3⟩ := pos_cells bN
  obtain ⟨r0, r1, r2, r3⟩ := pos_cells bR
  obtain ⟨f0, f1, f2, f3⟩ := pos_frozen bR
  have hlt := bN.lt
  clear hb
  go_wp2
  exact bodyPost_ret (res_pos rfl _ _ rfl (blk_four bR)) rfl ⟨rfl, below_four hB⟩
set_option maxRecDepth 100000 in
set_option maxHeartbeats 4000000 in
theorem rparse_two (t b sd : List UInt8) (w : World) (ht : t.length ≤ 1000) (hl : F.cutL 32 t = [b, sd]) : Calls Tryz.prog 60 #[.string (bs t)] w (Gives w (parseV t)) := by
  unfold Gives
  have hbl : b.length ≤ 1000 := Nat.le_trans (piece_le 32 t b (by rw [hl]; simp)) ht
  have hform := form_two hl
  have HL := Lib.hid hl
  have hsz := bs_size t
  have hd : decide (1000 < ((bs t).size : Int)) = false := by simp; omega
  have hd2 : (bs t).size ≤ 1000 := by omega
  clear hl hsz
  rcases board_cases b with ⟨x, hx, hxv⟩ | ⟨hx, hxv⟩ <;> rcases side_cases sd with ⟨s1, hs⟩ | ⟨s1, s2, hs⟩ | ⟨s1, s2, s3, hs⟩ | ⟨s1, s2, s3, hs⟩
  iterate 3
    · rw [hx, hs] at hform
      replace hform : F.formL t = some _ := hform
      have HX := Lib.hid hxv
      rcases form_split hform with ⟨h0, hK⟩ | ⟨k, hn, h0, hK⟩
      · have K := Lib.hid hK
        have HK := Lib.hid h0
        clear hxv hx hs hform h0 hK
        go_enter Tryz.func60, Tryz.ntmps60
        go_wp2_with fail
        refine (rcut_isA t 32 2 _ _ (by decide) (by omega) HL.out rfl).mono ?_
        rintro e w1 ⟨g, c, rfl, hc, hr, hb⟩
        obtain ⟨bN, bR, hB⟩ := two_zero hb
        have c0 := rd_at hr 0 b rfl
        have HR := Lib.hid hr
        clear hr
        go_wp2_with fail
        refine (rcells_is b _ _ hbl HX.out).mono ?_
        rintro e w2 ⟨rfl, hb2⟩
        clear c0 hb
        replace bN := bN.next hb2
        replace bR := bR.next hb2
        replace hB := hB.trans (hb2.mono hB.size)
        obtain ⟨z0, z1, z2, z3⟩ := pos_cells bN
        obtain ⟨r0, r1, r2, r3⟩ := pos_cells bR
        obtain ⟨f0, f1, f2, f3⟩ := pos_frozen bR
        have hlt := bN.lt
        have hlr := bR.lt
        have c1 := rd_at (HR.out.next hb2) 1 sd rfl
        have hgl := World.block_lt_of_cell? _ _ c1
        simp only [] at hgl
        go_wp2_with fail
        refine (rcheck_is _ _ _ _ _ _ HK.out).mono ?_
        rintro e w3 ⟨rfl, hb3⟩
        clear z0 z1 z2 z3 r0 r1 r2 r3 f0 f1 f2 f3 c1
        have bR3 := (bR.alloc _).next hb3
        obtain ⟨r0, r1, r2, r3⟩ := pos_cells bR3
        obtain ⟨f0, f1, f2, f3⟩ := pos_frozen bR3
        obtain ⟨z0, z1, z2, z3⟩ := pos_cells ((bN.alloc _).next hb3)
        obtain ⟨y0, y1, y2, y3⟩ := pos_cells ((Blk.new _ _ _ rfl).next hb3)
        have hB3 := (hB.alloc hB.size _).trans (hb3.mono (Nat.le_trans hB.size (by simp)))
        clear hb2 hb3
        go_wp2
        exact bodyPost_ret (res_pos rfl _ _ rfl (blk_four bR3)) rfl ⟨by rw [K.out]; rfl, below_four hB3⟩
      · have K := Lib.hid hK
        have HK := Lib.hid h0
        clear hxv hx hs hform h0 hK
        go_enter Tryz.func60, Tryz.ntmps60
        go_wp2_with fail
        refine (rcut_isA t 32 2 _ _ (by decide) (by omega) HL.out rfl).mono ?_
        rintro e w1 ⟨g, c, rfl, hc, hr, hb⟩
        obtain ⟨bN, bR, hB⟩ := two_zero hb
        have c0 := rd_at hr 0 b rfl
        have HR := Lib.hid hr
        clear hr
        go_wp2_with fail
        refine (rcells_is b _ _ hbl HX.out).mono ?_
        rintro e w2 ⟨rfl, hb2⟩
        clear c0 hb
        replace bN := bN.next hb2
        replace bR := bR.next hb2
        replace hB := hB.trans (hb2.mono hB.size)
        obtain ⟨z0, z1, z2, z3⟩ := pos_cells bN
        obtain ⟨r0, r1, r2, r3⟩ := pos_cells bR
        obtain ⟨f0, f1, f2, f3⟩ := pos_frozen bR
        have hlt := bN.lt
        have hlr := bR.lt
        have c1 := rd_at (HR.out.next hb2) 1 sd rfl
        have hgl := World.block_lt_of_cell? _ _ c1
        simp only [] at hgl
        go_wp2_with fail
        refine (rcheck_is _ _ _ _ _ _ HK.out).mono ?_
        rintro e w3 ⟨rfl, hb3⟩
        clear z0 z1 z2 z3 r0 r1 r2 r3 f0 f1 f2 f3 c1
        have bR3 := (bR.alloc _).next hb3
        obtain ⟨r0, r1, r2, r3⟩ := pos_cells bR3
        obtain ⟨f0, f1, f2, f3⟩ := pos_frozen bR3
        obtain ⟨z0, z1, z2, z3⟩ := pos_cells ((bN.alloc _).next hb3)
        obtain ⟨y0, y1, y2, y3⟩ := pos_cells ((Blk.new _ _ _ rfl).next hb3)
        have hB3 := (hB.alloc hB.size _).trans (hb3.mono (Nat.le_trans hB.size (by simp)))
        clear hb2 hb3
        go_wp2
        exact bodyPost_ret (res_pos rfl _ _ rfl (blk_four bR3)) rfl ⟨by rw [K.out]; rfl, below_four hB3⟩
  all_goals
    have K := Lib.hid (parse_none (t := t) (by simp [hform, hx, hs]))
    have HX := Lib.hid hxv
    clear hxv hx hs hform
    go_enter Tryz.func60, Tryz.ntmps60
    go_wp2_with fail
    refine (rcut_isA t 32 2 _ _ (by decide) (by omega) HL.out rfl).mono ?_
    rintro e w1 ⟨g, c, rfl, hc, hr, hb⟩
    obtain ⟨bN, bR, hB⟩ := two_zero hb
    have c0 := rd_at hr 0 b rfl
    have HR := Lib.hid hr
    clear hr
    go_wp2_with fail
    refine (rcells_is b _ _ hbl HX.out).mono ?_
    rintro e w2 ⟨rfl, hb2⟩
    clear c0 hb
    replace bN := bN.next hb2
    replace bR := bR.next hb2
    replace hB := hB.trans (hb2.mono hB.size)
    obtain ⟨z0, z1, z2, z3⟩ := pos_cells bN
    obtain ⟨r0, r1, r2, r3⟩ := pos_cells bR
    obtain ⟨f0, f1, f2, f3⟩ := pos_frozen bR
    have hlt := bN.lt
    have hlr := bR.lt
    have c1 := rd_at (HR.out.next hb2) 1 sd rfl
    have hgl := World.block_lt_of_cell? _ _ c1
    simp only [] at hgl
    go_wp2
    exact bodyPost_ret (res_pos rfl _ _ rfl ((blk_four bR).alloc _)) rfl ⟨by rw [K.out]; rfl, (below_four hB).alloc (Nat.le_trans hB.size (by simp)) _⟩
theorem board_form (b : List UInt8) : ∃ (x : ByteArray) (o : Bool), boardV b = .tuple #[.string x, .bool o] ∧ (o = false → F.boardL b = none) ∧ (o = true → ∃ l, F.boardL b = some l ∧ x = bs l) := by
  rcases board_cases b with ⟨x, hx, hv⟩ | ⟨hx, hv⟩
  · exact ⟨_, _, hv, fun h => Bool.noConfusion h, fun _ => ⟨x, hx, rfl⟩⟩
  · exact ⟨_, _, hv, fun _ => hx, fun h => Bool.noConfusion h⟩
theorem num_form (t : List UInt8) : ∃ (a : Int) (o : Bool), numV t = .tuple #[.int .i64 a, .bool o] ∧ (o = false → F.numL t = none) ∧ (o = true → ∃ u : Nat, F.numL t = some u ∧ a = u) := by
  rcases num_cases t with ⟨u, hu, hv⟩ | ⟨hu, hv⟩
  · exact ⟨_, _, hv, fun h => Bool.noConfusion h, fun _ => ⟨u, hu, rfl⟩⟩
  · exact ⟨_, _, hv, fun _ => hu, fun h => Bool.noConfusion h⟩
set_option maxRecDepth 100000 in
set_option maxHeartbeats 4000000 in
theorem rparse_six0 (t b sd d1 d2 ck fl : List UInt8) (w : World) (ht : t.length ≤ 1000) (hl : F.cutL 32 t = [b, sd, d1, d2, ck, fl]) (hs : F.sideL sd = none) : Calls Tryz.prog 60 #[.string (bs t)] w (Gives w (parseV t)) := by
  unfold Gives
  have hbl : b.length ≤ 1000 := Nat.le_trans (piece_le 32 t b (by rw [hl]; simp)) ht
  have hform := form_six hl
  have HL := Lib.hid hl
  have hsz := bs_size t
  have hd : decide (1000 < ((bs t).size : Int)) = false := by simp; omega
  have hd2 : (bs t).size ≤ 1000 := by omega
  have K := Lib.hid (parse_none (t := t) (by simp [hform, hs]))
  obtain ⟨x, o, hxv, _⟩ := board_form b
  have HX := Lib.hid hxv
  rcases side_cases sd with ⟨s1, hs'⟩ | ⟨s1, s2, hs'⟩ | ⟨s1, s2, s3, hs'⟩ | ⟨s1, s2, s3, hs'⟩
  iterate 3
    · rw [hs] at hs'
      cases hs'
  clear hs' hs hl hsz hform hxv
  go_enter Tryz.func60, Tryz.ntmps60
  go_wp2_with fail
  refine (rcut_isA t 32 6 _ _ (by decide) (by omega) HL.out rfl).mono ?_
  rintro e w1 ⟨g, c, rfl, hc, hr, hb⟩
  obtain ⟨bN, bR, hB⟩ := two_zero hb
  have c0 := rd_at hr 0 b rfl
  have HR := Lib.hid hr
  clear hr
  go_wp2_with fail
  refine (rcells_is b _ _ hbl HX.out).mono ?_
  rintro e w2 ⟨rfl, hb2⟩
  clear c0 hb
  replace bN := bN.next hb2
  replace bR := bR.next hb2
  replace hB := hB.trans (hb2.mono hB.size)
  obtain ⟨z0, z1, z2, z3⟩ := pos_cells bN
  obtain ⟨r0, r1, r2, r3⟩ := pos_cells bR
  obtain ⟨f0, f1, f2, f3⟩ := pos_frozen bR
  have hlt := bN.lt
  have hlr := bR.lt
  have c1 := rd_at (HR.out.next hb2) 1 sd rfl
  have hgl := World.block_lt_of_cell? _ _ c1
  simp only [] at hgl
  go_wp2
  exact bodyPost_ret (res_pos rfl _ _ rfl ((blk_four bR).alloc _)) rfl ⟨by rw [K.out]; rfl, (below_four hB).alloc (Nat.le_trans hB.size (by simp)) _⟩
set_option maxRecDepth 100000 in
set_option maxHeartbeats 16000000 in
theorem rparse_six1 (t b sd d1 d2 ck fl : List UInt8) (y : Int) (w : World) (ht : t.length ≤ 1000) (hl : F.cutL 32 t = [b, sd, d1, d2, ck, fl]) (hs : F.sideL sd = some y) (hbad : F.formL t = none) : Calls Tryz.prog 60 #[.string (bs t)] w (Gives w (parseV t)) := by
  unfold Gives
  have hbl : b.length ≤ 1000 := Nat.le_trans (piece_le 32 t b (by rw [hl]; simp)) ht
  have hckl : ck.length ≤ 1000 := Nat.le_trans (piece_le 32 t ck (by rw [hl]; simp)) ht
  have hfll : fl.length ≤ 1000 := Nat.le_trans (piece_le 32 t fl (by rw [hl]; simp)) ht
  have hform := form_six hl
  rw [hbad, hs] at hform
  have HL := Lib.hid hl
  have hsz := bs_size t
  have hd : decide (1000 < ((bs t).size : Int)) = false := by simp; omega
  have hd2 : (bs t).size ≤ 1000 := by omega
  have K := Lib.hid (parse_none hbad)
  obtain ⟨x, o0, hxv, hx0, hx1⟩ := board_form b
  obtain ⟨a1, o1, hckv, hc0, hc1⟩ := num_form ck
  obtain ⟨a2, o2, hflv, hf0, hf1⟩ := num_form fl
  have HX := Lib.hid hxv
  have HC := Lib.hid hckv
  have HF := Lib.hid hflv
  have hbad : o0 = false ∨ (o0 = true ∧ o1 = false) ∨ (o0 = true ∧ o1 = true ∧ o2 = false) ∨ (o0 = true ∧ o1 = true ∧ o2 = true ∧ ((bs d1).toList == [45]) = false) ∨ (o0 = true ∧ o1 = true ∧ o2 = true ∧ ((bs d1).toList == [45]) = true ∧ ((bs d2).toList == [45]) = false) := by
    cases o0
    · exact .inl rfl
    cases o1
    · exact .inr (.inl ⟨rfl, rfl⟩)
    cases o2
    · exact .inr (.inr (.inl ⟨rfl, rfl, rfl⟩))
    rcases dash_cases d1 with ⟨e1, h1⟩ | ⟨e1, h1⟩
    · rcases dash_cases d2 with ⟨e2, h2⟩ | ⟨e2, h2⟩
      · obtain ⟨l, hl1, _⟩ := hx1 rfl
        obtain ⟨u, hu1, _⟩ := hc1 rfl
        obtain ⟨v, hv1, _⟩ := hf1 rfl
        simp [h1, h2, hl1, hu1, hv1] at hform
      · exact .inr (.inr (.inr (.inr ⟨rfl, rfl, rfl, e1, e2⟩)))
    · exact .inr (.inr (.inr (.inl ⟨rfl, rfl, rfl, e1⟩)))
  clear hl hsz hform hxv hckv hflv hx0 hx1 hc0 hc1 hf0 hf1
  rcases side_cases sd with ⟨s1, hs'⟩ | ⟨s1, s2, hs'⟩ | ⟨s1, s2, s3, hs'⟩ | ⟨s1, s2, s3, hs'⟩
  iterate 3
    · clear hs' hs
      rcases hbad with rfl | ⟨rfl, rfl⟩ | ⟨rfl, rfl, rfl⟩ | ⟨rfl, rfl, rfl, e1⟩ | ⟨rfl, rfl, rfl, e1, e2⟩
      all_goals
        go_enter Tryz.func60, Tryz.ntmps60
        go_wp2_with fail
        refine (rcut_isA t 32 6 _ _ (by decide) (by omega) HL.out rfl).mono ?_
        rintro e w1 ⟨g, c, rfl, hc, hr, hb⟩
        obtain ⟨bN, bR, hB⟩ := two_zero hb
        have c0 := rd_at hr 0 b rfl
        have HR := Lib.hid hr
        clear hr
        go_wp2_with fail
        refine (rcells_is b _ _ hbl HX.out).mono ?_
        rintro e w2 ⟨rfl, hb2⟩
        clear c0 hb
        replace bN := bN.next hb2
        replace bR := bR.next hb2
        replace hB := hB.trans (hb2.mono hB.size)
        obtain ⟨z0, z1, z2, z3⟩ := pos_cells bN
        obtain ⟨r0, r1, r2, r3⟩ := pos_cells bR
        obtain ⟨f0, f1, f2, f3⟩ := pos_frozen bR
        have hlt := bN.lt
        have hlr := bR.lt
        have c1 := rd_at (HR.out.next hb2) 1 sd rfl
        have hgl := World.block_lt_of_cell? _ _ c1
        simp only [] at hgl
        have c4 := rd_at (HR.out.next hb2) 4 ck rfl
        have c5 := rd_at (HR.out.next hb2) 5 fl rfl
        have c2 := rd_at (HR.out.next hb2) 2 d1 rfl
        have c3 := rd_at (HR.out.next hb2) 3 d2 rfl
        go_wp2_with fail
        refine (rnum_is ck _ _ hckl HC.out).mono ?_
        rintro e w2' ⟨rfl, rfl⟩
        go_wp2_with fail
        refine (rnum_is fl _ _ hfll HF.out).mono ?_
        rintro e w2' ⟨rfl, rfl⟩
        go_wp2
        exact bodyPost_ret (res_pos rfl _ _ rfl ((blk_four bR).alloc _)) rfl ⟨by rw [K.out]; rfl, (below_four hB).alloc (Nat.le_trans hB.size (by simp)) _⟩
  rw [hs] at hs'
  cases hs'
set_option maxRecDepth 100000 in
set_option maxHeartbeats 16000000 in
theorem rparse_six2 (t b sd d1 d2 ck fl : List UInt8) (x : List UInt8) (y : Int) (u v : Nat) (w : World) (ht : t.length ≤ 1000) (hl : F.cutL 32 t = [b, sd, d1, d2, ck, fl]) (hx : F.boardL b = some x) (hs : F.sideL sd = some y) (hu : F.numL ck = some u) (hv : F.numL fl = some v) (h1 : d1 = [45]) (h2 : d2 = [45]) : Calls Tryz.prog 60 #[.string (bs t)] w (Gives w (parseV t)) := by
  unfold Gives
  have hbl : b.length ≤ 1000 := Nat.le_trans (piece_le 32 t b (by rw [hl]; simp)) ht
  have hckl : ck.length ≤ 1000 := Nat.le_trans (piece_le 32 t ck (by rw [hl]; simp)) ht
  have hfll : fl.length ≤ 1000 := Nat.le_trans (piece_le 32 t fl (by rw [hl]; simp)) ht
  have hform := form_six hl
  rw [if_pos ⟨h1, h2⟩, hx, hs, hu, hv] at hform
  replace hform : F.formL t = some _ := hform
  have HL := Lib.hid hl
  have hsz := bs_size t
  have hd : decide (1000 < ((bs t).size : Int)) = false := by simp; omega
  have hd2 : (bs t).size ≤ 1000 := by omega
  have HX : Hid (boardV b = .tuple #[.string (bs x), .bool true]) := by show _ = _; rw [boardV, hx]
  have HC : Hid (numV ck = .tuple #[.int .i64 (u : Int), .bool true]) := by show _ = _; rw [numV, hu]
  have HF : Hid (numV fl = .tuple #[.int .i64 (v : Int), .bool true]) := by show _ = _; rw [numV, hv]
  have e1 : ((bs d1).toList == [45]) = true := by rw [bs_eqR, h1]; simp
  have e2 : ((bs d2).toList == [45]) = true := by rw [bs_eqR, h2]; simp
  have hy : ((((bs sd).toList == [119]) = true ∧ y = 0) ∨ (((bs sd).toList == [119]) = false ∧ ((bs sd).toList == [114]) = true ∧ y = 0) ∨ (((bs sd).toList == [119]) = false ∧ ((bs sd).toList == [114]) = false ∧ ((bs sd).toList == [98]) = true ∧ y = 1)) := by
    rcases side_cases sd with ⟨s1, hs'⟩ | ⟨s1, s2, hs'⟩ | ⟨s1, s2, s3, hs'⟩ | ⟨s1, s2, s3, hs'⟩
    all_goals
      rw [hs] at hs'
      cases hs'
    · exact .inl ⟨s1, rfl⟩
    · exact .inr (.inl ⟨s1, s2, rfl⟩)
    · exact .inr (.inr ⟨s1, s2, s3, rfl⟩)
  rcases form_split hform with ⟨h0, hK⟩ | ⟨k, hn, h0, hK⟩
  · have K := Lib.hid hK
    have HK := Lib.hid h0
    clear hl hsz hform hs hx hu hv h1 h2 h0 hK
    rcases hy with ⟨s1, rfl⟩ | ⟨s1, s2, rfl⟩ | ⟨s1, s2, s3, rfl⟩
    all_goals
      go_enter Tryz.func60, Tryz.ntmps60
      go_wp2_with fail
      refine (rcut_isA t 32 6 _ _ (by decide) (by omega) HL.out rfl).mono ?_
      rintro e w1 ⟨g, c, rfl, hc, hr, hb⟩
      obtain ⟨bN, bR, hB⟩ := two_zero hb
      have c0 := rd_at hr 0 b rfl
      have HR := Lib.hid hr
      clear hr
      go_wp2_with fail
      refine (rcells_is b _ _ hbl HX.out).mono ?_
      rintro e w2 ⟨rfl, hb2⟩
      clear c0 hb
      replace bN := bN.next hb2
      replace bR := bR.next hb2
      replace hB := hB.trans (hb2.mono hB.size)
      obtain ⟨z0, z1, z2, z3⟩ := pos_cells bN
      obtain ⟨r0, r1, r2, r3⟩ := pos_cells bR
      obtain ⟨f0, f1, f2, f3⟩ := pos_frozen bR
      have hlt := bN.lt
      have hlr := bR.lt
      have c1 := rd_at (HR.out.next hb2) 1 sd rfl
      have hgl := World.block_lt_of_cell? _ _ c1
      simp only [] at hgl
      have c4 := rd_at (HR.out.next hb2) 4 ck rfl
      have c5 := rd_at (HR.out.next hb2) 5 fl rfl
      have c2 := rd_at (HR.out.next hb2) 2 d1 rfl
      have c3 := rd_at (HR.out.next hb2) 3 d2 rfl
      go_wp2_with fail
      refine (rnum_is ck _ _ hckl HC.out).mono ?_
      rintro e w2' ⟨rfl, rfl⟩
      go_wp2_with fail
      refine (rnum_is fl _ _ hfll HF.out).mono ?_
      rintro e w2' ⟨rfl, rfl⟩
      go_wp2_with fail
      refine (rcheck_is _ _ _ _ _ _ HK.out).mono ?_
      rintro e w3 ⟨rfl, hb3⟩
      clear z0 z1 z2 z3 r0 r1 r2 r3 f0 f1 f2 f3 c1
      have bR3 := (bR.alloc _).next hb3
      obtain ⟨r0, r1, r2, r3⟩ := pos_cells bR3
      obtain ⟨f0, f1, f2, f3⟩ := pos_frozen bR3
      obtain ⟨z0, z1, z2, z3⟩ := pos_cells ((bN.alloc _).next hb3)
      obtain ⟨y0, y1, y2, y3⟩ := pos_cells ((Blk.new _ _ _ rfl).next hb3)
      have hB3 := (hB.alloc hB.size _).trans (hb3.mono (Nat.le_trans hB.size (by simp)))
      clear hb2 hb3
      clear c4 c5 c2 c3
      go_wp2
      exact bodyPost_ret (res_pos rfl _ _ rfl (blk_four bR3)) rfl ⟨by rw [K.out]; rfl, below_four hB3⟩
  · have K := Lib.hid hK
    have HK := Lib.hid h0
    clear hl hsz hform hs hx hu hv h1 h2 h0 hK
    rcases hy with ⟨s1, rfl⟩ | ⟨s1, s2, rfl⟩ | ⟨s1, s2, s3, rfl⟩
    all_goals
      go_enter Tryz.func60, Tryz.ntmps60
      go_wp2_with fail
      refine (rcut_isA t 32 6 _ _ (by decide) (by omega) HL.out rfl).mono ?_
      rintro e w1 ⟨g, c, rfl, hc, hr, hb⟩
      obtain ⟨bN, bR, hB⟩ := two_zero hb
      have c0 := rd_at hr 0 b rfl
      have HR := Lib.hid hr
      clear hr
      go_wp2_with fail
      refine (rcells_is b _ _ hbl HX.out).mono ?_
      rintro e w2 ⟨rfl, hb2⟩
      clear c0 hb
      replace bN := bN.next hb2
      replace bR := bR.next hb2
      replace hB := hB.trans (hb2.mono hB.size)
      obtain ⟨z0, z1, z2, z3⟩ := pos_cells bN
      obtain ⟨r0, r1, r2, r3⟩ := pos_cells bR
      obtain ⟨f0, f1, f2, f3⟩ := pos_frozen bR
      have hlt := bN.lt
      have hlr := bR.lt
      have c1 := rd_at (HR.out.next hb2) 1 sd rfl
      have hgl := World.block_lt_of_cell? _ _ c1
      simp only [] at hgl
      have c4 := rd_at (HR.out.next hb2) 4 ck rfl
      have c5 := rd_at (HR.out.next hb2) 5 fl rfl
      have c2 := rd_at (HR.out.next hb2) 2 d1 rfl
      have c3 := rd_at (HR.out.next hb2) 3 d2 rfl
      go_wp2_with fail
      refine (rnum_is ck _ _ hckl HC.out).mono ?_
      rintro e w2' ⟨rfl, rfl⟩
      go_wp2_with fail
      refine (rnum_is fl _ _ hfll HF.out).mono ?_
      rintro e w2' ⟨rfl, rfl⟩
      go_wp2_with fail
      refine (rcheck_is _ _ _ _ _ _ HK.out).mono ?_
      rintro e w3 ⟨rfl, hb3⟩
      clear z0 z1 z2 z3 r0 r1 r2 r3 f0 f1 f2 f3 c1
      have bR3 := (bR.alloc _).next hb3
      obtain ⟨r0, r1, r2, r3⟩ := pos_cells bR3
      obtain ⟨f0, f1, f2, f3⟩ := pos_frozen bR3
      obtain ⟨z0, z1, z2, z3⟩ := pos_cells ((bN.alloc _).next hb3)
      obtain ⟨y0, y1, y2, y3⟩ := pos_cells ((Blk.new _ _ _ rfl).next hb3)
      have hB3 := (hB.alloc hB.size _).trans (hb3.mono (Nat.le_trans hB.size (by simp)))
      clear hb2 hb3
      clear c4 c5 c2 c3
      go_wp2
      exact bodyPost_ret (res_pos rfl _ _ rfl (blk_four bR3)) rfl ⟨by rw [K.out]; rfl, below_four hB3⟩
theorem rparse_any (t : List UInt8) (w : World) (ht : t.length ≤ 1000) : Calls Tryz.prog 60 #[.string (bs t)] w (Gives w (parseV t)) := by
  by_cases h2 : (F.cutL 32 t).length = 2
  · obtain ⟨b, sd, hl⟩ := list_two h2
    exact rparse_two t b sd w ht hl
  by_cases h6 : (F.cutL 32 t).length = 6
  · obtain ⟨b, sd, d1, d2, ck, fl, hl⟩ := list_six h6
    cases hs : F.sideL sd with
    | none => exact rparse_six0 t b sd d1 d2 ck fl w ht hl hs
    | some y =>
      by_cases hbad : F.formL t = none
      · exact rparse_six1 t b sd d1 d2 ck fl y w ht hl hs hbad
      · have hform := form_six hl
        by_cases hdd : d1 = [45] ∧ d2 = [45]
        · cases hx : F.boardL b with
          | none => exact absurd (by simp [hform, hx]) hbad
          | some x =>
            cases hu : F.numL ck with
            | none => exact absurd (by simp [hform, hu]) hbad
            | some u =>
              cases hv : F.numL fl with
              | none => exact absurd (by simp [hform, hv]) hbad
              | some v => exact rparse_six2 t b sd d1 d2 ck fl x y u v w ht hl hx hs hu hv hdd.1 hdd.2
        · exact absurd (by rw [hform, if_neg hdd]) hbad
  · exact rparse_else t _ w ht rfl h2 h6
end Go.Proofs.YtbdgbihdhbjljaaGreatDoor
