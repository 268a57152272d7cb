/- Merged: FenR7. -/
import Derived.Test.YtpogpjebhnoncabGreatDoorFenM
import Derived.Laws.ResultCell
import Derived.Laws.Rows

namespace Go.Proofs.YtpogpjebhnoncabGreatDoor
open Go.RowKit Go.Shelf
open M (S)

/-- No position. -/
def posZ : Value := .agg #[.string ⟨#[]⟩, .int .i64 0, .int .i64 0, .int .i64 0]
/-- A position's value. -/
def posVP (p : F.P) : Value := .agg #[.string (bs p.cells), .int .i64 p.side, .int .i64 p.clock, .int .i64 p.full]
/-- What is wrong with it. -/
def checkP (p : F.P) : Nat := checkN (bs p.cells) p.side p.clock p.full
/-- What a text comes to. -/
def parseO : Option F.P → Value
  | none => .tuple #[posZ, .int .i64 6]
  | some p => if (checkP p : Int) = 0 then .tuple #[posVP p, .int .i64 0] else .tuple #[posZ, .int .i64 (checkP p : Nat)]
def parseV (t : List UInt8) : Value := parseO (F.formL t)
theorem parse_none {t : List UInt8} (h : F.formL t = none) : parseV t = .tuple #[posZ, .int .i64 6] := by rw [parseV, h]; rfl
theorem parse_yes {t : List UInt8} {p : F.P} (h : F.formL t = some p) (h0 : (checkP p : Int) = 0) : parseV t = .tuple #[posVP p, .int .i64 0] := by rw [parseV, h, parseO, if_pos h0]
theorem parse_no {t : List UInt8} {p : F.P} (h : F.formL t = some p) (h0 : ¬ (checkP p : Int) = 0) : parseV t = .tuple #[posZ, .int .i64 (checkP p : Nat)] := by rw [parseV, h, parseO, if_neg h0]
theorem form_split {t : List UInt8} {p : F.P} (h : F.formL t = some p) : ((checkP p : Int) = 0 ∧ parseV t = .tuple #[posVP p, .int .i64 0]) ∨ (∃ k : Int, (k != 0) = true ∧ (checkP p : Int) = k ∧ parseV t = .tuple #[posZ, .int .i64 k]) := by
  by_cases h0 : (checkP p : Int) = 0
  · exact .inl ⟨h0, parse_yes h h0⟩
  · exact .inr ⟨_, by rw [bne_iff_ne]; exact h0, rfl, parse_no h h0⟩
theorem form_two {t b sd : List UInt8} (h : F.cutL 32 t = [b, sd]) : F.formL t = match F.boardL b, F.sideL sd with
    | some x, some y => some ⟨x, y, 0, 1⟩
    | _, _ => none := by rw [F.formL, h]; rfl
theorem form_six {t b sd d1 d2 ck fl : List UInt8} (h : F.cutL 32 t = [b, sd, d1, d2, ck, fl]) : F.formL t = if d1 = [45] ∧ d2 = [45] then (match F.boardL b, F.sideL sd, F.numL ck, F.numL fl with
    | some x, some y, some u, some v => some ⟨x, y, (u : Int), (v : Int)⟩
    | _, _, _, _ => none) else none := by rw [F.formL, h]; rfl
theorem form_else {t : List UInt8} (h2 : (F.cutL 32 t).length ≠ 2) (h6 : (F.cutL 32 t).length ≠ 6) : F.formL t = none := by
  unfold F.formL
  split
  · rename_i h; rw [h] at h2; exact absurd rfl h2
  · rename_i h; rw [h] at h6; exact absurd rfl h6
  · rfl
theorem list_two {l : List (List UInt8)} (h : l.length = 2) : ∃ a b, l = [a, b] := by
  match l, h with
  | [a, b], _ => exact ⟨a, b, rfl⟩
theorem list_six {l : List (List UInt8)} (h : l.length = 6) : ∃ a b c d e f, l = [a, b, c, d, e, f] := by
  match l, h with
  | [a, b, c, d, e, f], _ => exact ⟨a, b, c, d, e, f, rfl⟩
/-- Two answers of a board's text. -/
theorem board_cases (b : List UInt8) : (∃ x, F.boardL b = some x ∧ boardV b = .tuple #[.string (bs x), .bool true]) ∨ (F.boardL b = none ∧ boardV b = .tuple #[.string ⟨#[]⟩, .bool false]) := by
  unfold boardV
  cases h : F.boardL b with
  | none => exact .inr ⟨rfl, rfl⟩
  | some x => exact .inl ⟨x, rfl, rfl⟩
theorem num_cases (t : List UInt8) : (∃ u : Nat, F.numL t = some u ∧ numV t = .tuple #[.int .i64 (u : Int), .bool true]) ∨ (F.numL t = none ∧ numV t = .tuple #[.int .i64 0, .bool false]) := by
  unfold numV
  cases h : F.numL t with
  | none => exact .inr ⟨rfl, rfl⟩
  | some x => exact .inl ⟨x, rfl, rfl⟩
theorem bs_eqR (t l : List UInt8) : ((bs t).toList == l) = decide (t = l) := by
  rw [ByteArray.toList_eq, bs_data, Bool.eq_iff_iff]
  simp
/-- The four cases of a side's text, as comparisons tell them. -/
theorem side_cases (t : List UInt8) : (((bs t).toList == [119]) = true ∧ F.sideL t = some 0) ∨ (((bs t).toList == [119]) = false ∧ ((bs t).toList == [114]) = true ∧ F.sideL t = some 0) ∨ (((bs t).toList == [119]) = false ∧ ((bs t).toList == [114]) = false ∧ ((bs t).toList == [98]) = true ∧ F.sideL t = some 1) ∨ (((bs t).toList == [119]) = false ∧ ((bs t).toList == [114]) = false ∧ ((bs t).toList == [98]) = false ∧ F.sideL t = none) := by
  rw [bs_eqR, bs_eqR, bs_eqR]
  by_cases h1 : t = [119]
  · left; exact ⟨by simp [h1], by simp [F.sideL, h1]⟩
  by_cases h2 : t = [114]
  · right; left; exact ⟨by simp [h1], by simp [h2], by simp [F.sideL, h2]⟩
  by_cases h3 : t = [98]
  · right; right; left; exact ⟨by simp [h1], by simp [h2], by simp [h3], by simp [F.sideL, h3]⟩
  · right; right; right; exact ⟨by simp [h1], by simp [h2], by simp [h3], by simp [F.sideL, h1, h2, h3]⟩
theorem dash_cases (t : List UInt8) : (((bs t).toList == [45]) = true ∧ t = [45]) ∨ (((bs t).toList == [45]) = false ∧ t ≠ [45]) := by
  rw [bs_eqR]
  by_cases h : t = [45]
  · exact .inl ⟨by simp [h], h⟩
  · exact .inr ⟨by simp [h], h⟩
theorem pos_cells {W : World} {g : Nat} {t : TypeId} {s : ByteArray} {a b c : Int} (h : Blk W g t #[.string s, .int .i64 a, .int .i64 b, .int .i64 c]) : W.cell? ⟨g, 0, none⟩ = some (.string s) ∧ W.cell? ⟨g, 1, none⟩ = some (.int .i64 a) ∧ W.cell? ⟨g, 2, none⟩ = some (.int .i64 b) ∧ W.cell? ⟨g, 3, none⟩ = some (.int .i64 c) := ⟨h.cell 0, h.cell 1, h.cell 2, h.cell 3⟩
theorem pos_frozen {W : World} {g : Nat} {t : TypeId} {cs : Array Value} (h : Blk W g t cs) : W.frozen? ⟨g, 0, none⟩ = false ∧ W.frozen? ⟨g, 1, none⟩ = false ∧ W.frozen? ⟨g, 2, none⟩ = false ∧ W.frozen? ⟨g, 3, none⟩ = false := ⟨h.frozen 0, h.frozen 1, h.frozen 2, h.frozen 3⟩
/-- Two positions are laid, then a call: the second one, the first one, and what was ahead. -/
theorem two_zero {w W : World} {t t' : TypeId} {cs cs' : Array Value} (hb : Below ((w.alloc (.cells cs' t')).alloc (.cells cs t)).heap.size ((w.alloc (.cells cs' t')).alloc (.cells cs t)) W) : Blk W (w.heap.size + 1) t cs ∧ Blk W w.heap.size t' cs' ∧ Below w.heap.size w W := by
  have h0 : Below w.heap.size w ((w.alloc (.cells cs' t')).alloc (.cells cs t)) := (by repeat (first | exact Below.refl _ _ | (refine Below.setCell ?_ (by first | omega | (simp; done) | (simp; omega) | (simp at *; omega)) _) | (refine Below.alloc ?_ (by first | omega | (simp; done) | (simp; omega) | (simp at *; omega)) _) | refine Below.drew ?_ | (refine below_drewN ?_ _) | (refine Below.trans ?_ (Below.mono (by assumption) (by first | omega | (simp; done) | (simp; omega) | (simp at *; omega))))))
  exact ⟨(Blk.new _ _ _ (by simp)).next hb, ((Blk.new _ _ _ rfl).alloc _).next hb, h0.trans (hb.mono h0.size)⟩
theorem below_four {w W : World} {a b c d : Value} {i j k l : Nat} (h : Below w.heap.size w W) : Below w.heap.size w ((((W.setCell ⟨w.heap.size, i, none⟩ a).setCell ⟨w.heap.size, j, none⟩ b).setCell ⟨w.heap.size, k, none⟩ c).setCell ⟨w.heap.size, l, none⟩ d) :=
  (((h.setCell (Nat.le_refl _) _).setCell (Nat.le_refl _) _).setCell (Nat.le_refl _) _).setCell (Nat.le_refl _) _
theorem blk_four {W : World} {g : Nat} {t : TypeId} {x y z u a b c d : Value} (h : Blk W g t #[x, y, z, u]) : Blk ((((W.setCell ⟨g, 0, none⟩ a).setCell ⟨g, 1, none⟩ b).setCell ⟨g, 2, none⟩ c).setCell ⟨g, 3, none⟩ d) g t #[a, b, c, d] := (((h.set_ 0 a).set_ 1 b).set_ 2 c).set_ 3 d
/-- Results, the first of them a position in memory. -/
theorem res_pos {fn : Func} {p u : Tmp} (h : fn.results = #[.cell p 23, .tmp u]) (tmps : Array Value) (w : World) {g : Nat} (hp : tmps.getD p undef = .pointer (some ⟨g, 0, none⟩)) {t : TypeId} {a b c d : Value} (hb : Blk w g t #[a, b, c, d]) :
    (results fn tmps).run Tryz.prog w = .ok (.tuple #[.agg #[a, b, c, d], tmps.getD u undef]) w := by
  rw [results_cell_tmp h, hp]
  have h1 := run_loadVar_row (P := Tryz.prog) w g t 23 #[a, b, c, d] (0, 0) _ hb Tryz.underlying23 rfl (by kernel_rfl)
  simp [asAddr, h1, Result.andThen]
end Go.Proofs.YtpogpjebhnoncabGreatDoor
