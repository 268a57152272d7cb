/- A game behind some moves: play; Set; New. -/
import Derived.Test.YtbdgbihdhbjljaaGreatDoorMatchE
import Derived.StillTailTactics
namespace Go.Proofs.YtbdgbihdhbjljaaGreatDoor
open Go.RowKit Go.Shelf
open M (S)

theorem g_cells {W : World} {g : Nat} {t : TypeId} {v0 v1 v2 v3 v4 v5 v6 : Value} (h : Blk W g t #[v0, v1, v2, v3, v4, v5, v6]) : W.cell? ⟨g, 0, none⟩ = some v0 ∧ W.cell? ⟨g, 1, none⟩ = some v1 ∧ W.cell? ⟨g, 2, none⟩ = some v2 ∧ W.cell? ⟨g, 3, none⟩ = some v3 ∧ W.cell? ⟨g, 4, none⟩ = some v4 ∧ W.cell? ⟨g, 5, none⟩ = some v5 ∧ W.cell? ⟨g, 6, none⟩ = some v6 := ⟨h.cell 0, h.cell 1, h.cell 2, h.cell 3, h.cell 4, h.cell 5, h.cell 6⟩
theorem g_frozen {W : World} {g : Nat} {t : TypeId} {cs : Array Value} (h : Blk W g t cs) : W.frozen? ⟨g, 0, none⟩ = false ∧ W.frozen? ⟨g, 1, none⟩ = false ∧ W.frozen? ⟨g, 2, none⟩ = false ∧ W.frozen? ⟨g, 3, none⟩ = false ∧ W.frozen? ⟨g, 4, none⟩ = false ∧ W.frozen? ⟨g, 5, none⟩ = false ∧ W.frozen? ⟨g, 6, none⟩ = false := ⟨h.frozen 0, h.frozen 1, h.frozen 2, h.frozen 3, h.frozen 4, h.frozen 5, h.frozen 6⟩
theorem below_seven {w w' : World} (h : Below w.heap.size w w') {g : Nat} (hg : w.heap.size ≤ g) (v0 v1 v2 v3 v4 v5 v6 : Value) : Below w.heap.size w (((((((w'.setCell ⟨g, 0, none⟩ v0).setCell ⟨g, 1, none⟩ v1).setCell ⟨g, 2, none⟩ v2).setCell ⟨g, 3, none⟩ v3).setCell ⟨g, 4, none⟩ v4).setCell ⟨g, 5, none⟩ v5).setCell ⟨g, 6, none⟩ v6) :=
  ((((((h.setCell (p := ⟨g, 0, none⟩) hg v0).setCell (p := ⟨g, 1, none⟩) hg v1).setCell (p := ⟨g, 2, none⟩) hg v2).setCell (p := ⟨g, 3, none⟩) hg v3).setCell (p := ⟨g, 4, none⟩) hg v4).setCell (p := ⟨g, 5, none⟩) hg v5).setCell (p := ⟨g, 6, none⟩) hg v6
set_option maxRecDepth 100000 in
set_option maxHeartbeats 4000000 in
theorem mplay_bad (p : Ps) (C : Option Addr) (l : List (Int × Int)) (a d : Nat) (w : World) (hT : Tab w) (hm : Rd w C (mzL l)) (ha : l.length = a) (had : a ≤ d) (er : Int) (hE : playE p l = er) (h0 : er ≠ 0) : Calls Tryz.prog 48 #[.agg #[.string p.s, .int .i64 p.y, .int .i64 p.z, .int .i64 p.u], .slice C a d] w (Gives w (.tuple #[.agg #[.string ⟨#[]⟩, .int .i64 0, .int .i64 0, .int .i64 0, .int .i64 0, .int .i64 0, .int .i64 0], .int .i64 er])) := by
  unfold Gives
  have hj : ∀ W (_ : Tab W) (_ : Rd W C (mzL l)), Calls Tryz.prog 13 #[.agg #[.string p.s, .int .i64 p.y, .int .i64 p.z, .int .i64 p.u], .slice C a d] W (fun e w' => ∃ A c, e = .returned (.tuple #[.agg #[.int .i64 (playV p l).1, .int .i64 (playV p l).2], .slice A (playL p l).length c, .int .i64 (playE p l)]) ∧ Rd w' A (psL (playL p l)) ∧ (playL p l).length ≤ c ∧ Below W.heap.size W w') := fun W hTW hr => jplay_any p C l a d W hTW hr ha had
  rw [hE] at hj
  obtain ⟨W2, hW2⟩ : ∃ W2, (w.alloc (.cells #[.string p.s, .int .i64 p.y, .int .i64 p.z, .int .i64 p.u] 23)).alloc (.cells #[.string ⟨#[]⟩, .int .i64 0, .int .i64 0, .int .i64 0, .int .i64 0, .int .i64 0, .int .i64 0] 67) = W2 := ⟨_, rfl⟩
  have hB2 : Below w.heap.size w W2 := by rw [← hW2]; exact (below_new _ _).alloc (by rw [World.size_alloc]; exact Nat.le_succ _) _
  have bG : Blk W2 (w.heap.size + 1) 67 #[.string ⟨#[]⟩, .int .i64 0, .int .i64 0, .int .i64 0, .int .i64 0, .int .i64 0, .int .i64 0] := by rw [← hW2]; exact Blk.new _ _ _ (by rw [World.size_alloc])
  have HJ := Lib.hid (hj W2 (hT.next hB2) (hm.next hB2))
  have HB2 := Lib.hid hB2
  have HW2 := Lib.hid hW2
  have HG := Lib.hid bG
  clear hB2 hW2 bG
  obtain ⟨s, y, z, u⟩ := p
  have en : (er != 0) = true := by rw [bne_iff_ne]; exact h0
  clear hj hT hm h0 hE
  go_enter Tryz.func48, Tryz.ntmps48
  go_wp2_with fail
  (try rw [HW2.out])
  refine HJ.out.mono ?_
  rintro e w3 ⟨A3, c3, rfl, hr3, hc3, hb3⟩
  have HB3 := Lib.hid (HB2.out.trans (hb3.mono HB2.out.size))
  have HG3 := Lib.hid (HG.out.next hb3)
  clear hr3 hc3 hb3
  have hal := HG3.out.alloc (.cells #[.int .i64 (playV ⟨s, y, z, u⟩ l).1, .int .i64 (playV ⟨s, y, z, u⟩ l).2] 27)
  obtain ⟨g0, g1, g2, g3, g4, g5, g6⟩ := g_cells hal
  obtain ⟨f0, f1, f2, f3, f4, f5, f6⟩ := g_frozen hal
  clear hal
  have HB4 := Lib.hid (HB3.out.alloc HB3.out.size (.cells #[.int .i64 (playV ⟨s, y, z, u⟩ l).1, .int .i64 (playV ⟨s, y, z, u⟩ l).2] 27))
  go_wp2_with fail
  exact bodyPost_ret (v := .tuple #[.agg #[.string ⟨#[]⟩, .int .i64 0, .int .i64 0, .int .i64 0, .int .i64 0, .int .i64 0, .int .i64 0], .int .i64 er]) (by simp [results, Tryz.results48, go_sem, g0, g1, g2, g3, g4, g5, g6]) rfl ⟨rfl, below_seven HB4.out (Nat.le_succ _) _ _ _ _ _ _ _⟩
set_option maxRecDepth 100000 in
set_option maxHeartbeats 4000000 in
theorem mplay_good (p : Ps) (C : Option Addr) (l : List (Int × Int)) (a d : Nat) (w : World) (hT : Tab w) (hm : Rd w C (mzL l)) (ha : l.length = a) (had : a ≤ d) (kv rv : Int) (q : Ps) (hE : playE p l = 0) (hV : playV p l = (kv, rv)) (hq : (playL p l)[a]? = some q) : Calls Tryz.prog 48 #[.agg #[.string p.s, .int .i64 p.y, .int .i64 p.z, .int .i64 p.u], .slice C a d] w (Gives w (.tuple #[.agg #[.string q.s, .int .i64 q.y, .int .i64 q.z, .int .i64 q.u, .int .i64 kv, .int .i64 rv, .int .i64 a], .int .i64 0])) := by
  unfold Gives
  have hj : ∀ W (_ : Tab W) (_ : Rd W C (mzL l)), Calls Tryz.prog 13 #[.agg #[.string p.s, .int .i64 p.y, .int .i64 p.z, .int .i64 p.u], .slice C a d] W (fun e w' => ∃ A c, e = .returned (.tuple #[.agg #[.int .i64 (playV p l).1, .int .i64 (playV p l).2], .slice A (playL p l).length c, .int .i64 (playE p l)]) ∧ Rd w' A (psL (playL p l)) ∧ (playL p l).length ≤ c ∧ Below W.heap.size W w') := fun W hTW hr => jplay_any p C l a d W hTW hr ha had
  obtain ⟨ls, hL⟩ : ∃ x, playL p l = x := ⟨_, rfl⟩
  rw [hE, hV, hL] at hj
  rw [hL] at hq
  obtain ⟨n1, hn1⟩ : ∃ n1, ls.length = n1 := ⟨_, rfl⟩
  rw [hn1] at hj
  have hal1 : a < ls.length := (List.getElem?_eq_some_iff.1 hq).1
  have ga : (a : Int) < (n1 : Int) := by omega
  have gb : (0 : Int) ≤ (a : Int) := by omega
  obtain ⟨W2, hW2⟩ : ∃ W2, (w.alloc (.cells #[.string p.s, .int .i64 p.y, .int .i64 p.z, .int .i64 p.u] 23)).alloc (.cells #[.string ⟨#[]⟩, .int .i64 0, .int .i64 0, .int .i64 0, .int .i64 0, .int .i64 0, .int .i64 0] 67) = W2 := ⟨_, rfl⟩
  have hB2 : Below w.heap.size w W2 := by rw [← hW2]; exact (below_new _ _).alloc (by rw [World.size_alloc]; exact Nat.le_succ _) _
  have bG : Blk W2 (w.heap.size + 1) 67 #[.string ⟨#[]⟩, .int .i64 0, .int .i64 0, .int .i64 0, .int .i64 0, .int .i64 0, .int .i64 0] := by rw [← hW2]; exact Blk.new _ _ _ (by rw [World.size_alloc])
  have HJ := Lib.hid (hj W2 (hT.next hB2) (hm.next hB2))
  have HB2 := Lib.hid hB2
  have HW2 := Lib.hid hW2
  have HG := Lib.hid bG
  clear hB2 hW2 bG
  obtain ⟨s, y, z, u⟩ := p
  obtain ⟨qs, qy, qz, qu⟩ := q
  clear hj hT hm hE hV hL
  go_enter Tryz.func48, Tryz.ntmps48
  go_wp2_with fail
  (try rw [HW2.out])
  refine HJ.out.mono ?_
  rintro e w3 ⟨A3, c3, rfl, hr3, hc3, hb3⟩
  have HB3 := Lib.hid (HB2.out.trans (hb3.mono HB2.out.size))
  have HG3 := Lib.hid (HG.out.next hb3)
  have hb4 : Below w3.heap.size w3 (w3.alloc (.cells #[.int .i64 kv, .int .i64 rv] 27)) := below_new _ _
  have bV : Blk (w3.alloc (.cells #[.int .i64 kv, .int .i64 rv] 27)) w3.heap.size 27 #[.int .i64 kv, .int .i64 rv] := Blk.new _ _ _ rfl
  obtain ⟨v0, v1⟩ := two_cells bV
  obtain ⟨g1, b1, hA1, d0, d1, d2, d3⟩ := (hr3.next hb4).ps hal1
  have hcc : ls[a]'hal1 = ⟨qs, qy, qz, qu⟩ := by
    rw [List.getElem?_eq_getElem hal1] at hq
    exact Option.some.inj hq
  rw [hcc] at d0 d1 d2 d3
  simp only at d0 d1 d2 d3
  subst hA1
  have hal := HG3.out.alloc (.cells #[.int .i64 kv, .int .i64 rv] 27)
  obtain ⟨g0, g1', g2, g3, g4, g5, g6⟩ := g_cells hal
  obtain ⟨f0, f1, f2, f3, f4, f5, f6⟩ := g_frozen hal
  have HB4 := Lib.hid (HB3.out.alloc HB3.out.size (.cells #[.int .i64 kv, .int .i64 rv] 27))
  clear hal hr3 hc3 hb3 hb4 bV hcc hq hal1 hn1
  go_wp2_with fail
  obtain ⟨W8, hW8⟩ : ∃ W8, w3.alloc (.cells #[.int .i64 kv, .int .i64 rv] 27) = W8 := ⟨_, rfl⟩
  have hB8 := HB4.out
  rw [hW8] at d0 d1 d2 d3 v0 v1 g0 g1' g2 g3 g4 g5 g6 f0 f1 f2 f3 f4 f5 f6 hB8 ⊢
  have HB8 := Lib.hid hB8
  clear hW8 hB8 HB4
  have D0 : ({ heap := W8.heap, tape := W8.tape, drawn := W8.drawn + 1, os := W8.os, output := W8.output } : World).cell? ⟨g1, b1 + a * 4, none⟩ = some (.string qs) := d0
  have D1 : ({ heap := W8.heap, tape := W8.tape, drawn := W8.drawn + 1, os := W8.os, output := W8.output } : World).cell? ⟨g1, b1 + a * 4 + 1, none⟩ = some (.int .i64 qy) := d1
  have D2 : ({ heap := W8.heap, tape := W8.tape, drawn := W8.drawn + 1, os := W8.os, output := W8.output } : World).cell? ⟨g1, b1 + a * 4 + 2, none⟩ = some (.int .i64 qz) := d2
  have D3 : ({ heap := W8.heap, tape := W8.tape, drawn := W8.drawn + 1, os := W8.os, output := W8.output } : World).cell? ⟨g1, b1 + a * 4 + 3, none⟩ = some (.int .i64 qu) := d3
  have E0 : ({ heap := W8.heap, tape := W8.tape, drawn := W8.drawn + 1, os := W8.os, output := W8.output } : World).cell? ⟨w3.heap.size, 0, none⟩ = some (.int .i64 kv) := v0
  have E1 : ({ heap := W8.heap, tape := W8.tape, drawn := W8.drawn + 1, os := W8.os, output := W8.output } : World).cell? ⟨w3.heap.size, 1, none⟩ = some (.int .i64 rv) := v1
  go_still_tail 9, (by kernel_rfl)
  change wpList _ _ _ _ _ W8.drew
  have hg : W8.drew.cell? ⟨w.heap.size + 1, 0, none⟩ = some (.string ⟨#[]⟩) ∧ W8.drew.cell? ⟨w.heap.size + 1, 1, none⟩ = some (.int .i64 0) ∧ W8.drew.cell? ⟨w.heap.size + 1, 2, none⟩ = some (.int .i64 0) ∧ W8.drew.cell? ⟨w.heap.size + 1, 3, none⟩ = some (.int .i64 0) ∧ W8.drew.cell? ⟨w.heap.size + 1, 4, none⟩ = some (.int .i64 0) ∧ W8.drew.cell? ⟨w.heap.size + 1, 5, none⟩ = some (.int .i64 0) ∧ W8.drew.cell? ⟨w.heap.size + 1, 6, none⟩ = some (.int .i64 0) := ⟨g0, g1', g2, g3, g4, g5, g6⟩
  have hf : W8.drew.frozen? ⟨w.heap.size + 1, 0, none⟩ = false ∧ W8.drew.frozen? ⟨w.heap.size + 1, 1, none⟩ = false ∧ W8.drew.frozen? ⟨w.heap.size + 1, 2, none⟩ = false ∧ W8.drew.frozen? ⟨w.heap.size + 1, 3, none⟩ = false ∧ W8.drew.frozen? ⟨w.heap.size + 1, 4, none⟩ = false ∧ W8.drew.frozen? ⟨w.heap.size + 1, 5, none⟩ = false ∧ W8.drew.frozen? ⟨w.heap.size + 1, 6, none⟩ = false := ⟨f0, f1, f2, f3, f4, f5, f6⟩
  have HB9 := Lib.hid HB8.out.drew
  clear D0 D1 D2 D3 E0 E1 d0 d1 d2 d3 v0 v1 g0 g1' g2 g3 g4 g5 g6 f0 f1 f2 f3 f4 f5 f6 HB8
  obtain ⟨g0, g1', g2, g3, g4, g5, g6⟩ := hg
  obtain ⟨f0, f1, f2, f3, f4, f5, f6⟩ := hf
  generalize W8.drew = W9 at g0 g1' g2 g3 g4 g5 g6 f0 f1 f2 f3 f4 f5 f6 HB9 ⊢
  go_wp2_with fail
  exact bodyPost_ret (v := .tuple #[.agg #[.string qs, .int .i64 qy, .int .i64 qz, .int .i64 qu, .int .i64 kv, .int .i64 rv, .int .i64 a], .int .i64 0]) (by simp [results, Tryz.results48, go_sem, g0, g1', g2, g3, g4, g5, g6]) rfl ⟨rfl, below_seven HB9.out (Nat.le_succ _) _ _ _ _ _ _ _⟩
end Go.Proofs.YtbdgbihdhbjljaaGreatDoor
