/- Line: what it answers. -/
import Derived.Test.YtmmomgaijgpmmaaGreatDoorIccsU
import Derived.Test.YtmmomgaijgpmmaaGreatDoorIccsF
namespace Go.Proofs.YtmmomgaijgpmmaaGreatDoor.I
open Go.RowKit Go.Shelf Go.Proofs.YtmmomgaijgpmmaaGreatDoor.F
open M (S)
attribute [local go_sem] Oper.semAt_some
/-- How Line ends. -/
def LineGot (w : World) (p : Pz) (s : ByteArray) (e : Ending) (w' : World) : Prop := Below w.heap.size w w' ∧ match lineT p s with
  | .no k => e = .returned (.tuple #[.slice none 0 0, .agg #[.string ⟨#[]⟩, .int .i64 0, .int .i64 0, .int .i64 0], .int .i64 k])
  | .got l q => ∃ v, e = .returned (.tuple #[v, .agg #[.string q.s, .int .i64 q.y, .int .i64 q.z, .int .i64 q.u], .int .i64 0]) ∧ w'.ownsRow w.heap.size 23 2 v l.length (mvl l)
theorem set4_blk {V : World} {g H : Nat} {w : World} {t : TypeId} {a b c d : Value} (h : Blk V g t #[a, b, c, d]) (hb : Below H w V) (hg : H ≤ g) (x y z u : Value) : Blk ((((V.setCell ⟨g, 0, none⟩ x).setCell ⟨g, 1, none⟩ y).setCell ⟨g, 2, none⟩ z).setCell ⟨g, 3, none⟩ u) g t #[x, y, z, u] ∧ Below H w ((((V.setCell ⟨g, 0, none⟩ x).setCell ⟨g, 1, none⟩ y).setCell ⟨g, 2, none⟩ z).setCell ⟨g, 3, none⟩ u) :=
  ⟨(((h.set_ 0 x).set_ 1 y).set_ 2 z).set_ 3 u, (((hb.setCell (p := ⟨g, 0, none⟩) hg x).setCell (p := ⟨g, 1, none⟩) hg y).setCell (p := ⟨g, 2, none⟩) hg z).setCell (p := ⟨g, 3, none⟩) hg u⟩
theorem set4_row {V : World} {g B : Nat} {T : TypeId} {v : Value} {n : Nat} {xs : List Value} (h : V.ownsRow B T 2 v n xs) (hg : g < B) (x y z u : Value) : ((((V.setCell ⟨g, 0, none⟩ x).setCell ⟨g, 1, none⟩ y).setCell ⟨g, 2, none⟩ z).setCell ⟨g, 3, none⟩ u).ownsRow B T 2 v n xs :=
  row_on h fun k cs t z' hk hB _ => by
    have hne : k ≠ g := by omega
    rw [Below.heap_setCell _ _ _ _ hne, Below.heap_setCell _ _ _ _ hne, Below.heap_setCell _ _ _ _ hne, Below.heap_setCell _ _ _ _ hne]
theorem row_dr {V : World} {B : Nat} {T : TypeId} {v : Value} {n : Nat} {xs : List Value} (h : V.ownsRow B T 2 v n xs) : V.drew.ownsRow B T 2 v n xs := row_on h fun _ _ _ _ _ _ _ => rfl
theorem fault_of (a0 a1 a2 : Addr) (t : ByteArray) {k : Int} (h : k = 6 ∨ k = 7 ∨ k = 8) : ∃ x, errA a0 a1 a2 t k = .iface 54 x := by
  rcases h with rfl | rfl | rfl <;> exact ⟨_, rfl⟩
theorem rline_both {w : World} {a0 a1 a2 : Addr} (hE : Errs w a0 a1 a2) (hT : Tab w) (p : Pz) (s : ByteArray) (hs : s.size ≤ 100000) :
    Calls Tryz.prog 22 #[.agg #[.string p.s, .int .i64 p.y, .int .i64 p.z, .int .i64 p.u], .string s] w (LineEnds w a0 a1 a2 p (wordsT s)) := by
  by_cases h : s.size = 0
  · have e : s = ⟨#[]⟩ := by
      obtain ⟨⟨l⟩⟩ := s
      have : l = [] := List.length_eq_zero_iff.1 (by simpa [ByteArray.size] using h)
      rw [this]
    subst e
    exact rline_nil a0 a1 a2 p
  · rw [words_of h]
    exact rline_any hE hT p s hs h
set_option maxRecDepth 100000 in
set_option maxHeartbeats 8000000 in
theorem iline_bad {w : World} (hT : Tab w) (p : Pz) (s : ByteArray) (hw : wellN p.s p.y p.z p.u ≠ 0) :
    Calls Tryz.prog 13 #[.agg #[.string p.s, .int .i64 p.y, .int .i64 p.z, .int .i64 p.u], .string s] w (LineGot w p s) := by
  unfold LineGot
  obtain ⟨k, hk⟩ : ∃ k, wellN p.s p.y p.z p.u = k := ⟨_, rfl⟩
  have hl : lineT p s = .no k := by unfold lineT; rw [if_neg hw, hk]
  rw [hl]
  have hk0 : (k != 0) = true := by rw [bne_iff_ne, ← hk]; exact hw
  have HK := Lib.hid hk
  clear hk hw hl
  go_enter Tryz.func13, Tryz.ntmps13
  go_wp2_with fail
  obtain ⟨W0, hW0⟩ : ∃ x, (w.alloc (.cells #[.string p.s, .int .i64 p.y, .int .i64 p.z, .int .i64 p.u] 32)).alloc (.cells #[.string ⟨#[]⟩, .int .i64 0, .int .i64 0, .int .i64 0] 32) = x := ⟨_, rfl⟩
  have hB : Below w.heap.size w W0 := by rw [← hW0]; exact (by repeat (first | exact Below.refl _ _ | (refine Below.setCell ?_ (by first | omega | (simp; done) | (simp; omega) | (simp at *; omega)) _) | (refine Below.alloc ?_ (by first | omega | (simp; done) | (simp; omega) | (simp at *; omega)) _) | refine Below.drew ?_ | (refine below_drewN ?_ _) | (refine Below.trans ?_ (Below.mono (by assumption) (by first | omega | (simp; done) | (simp; omega) | (simp at *; omega))))))
  have bP : Blk W0 w.heap.size 32 #[.string p.s, .int .i64 p.y, .int .i64 p.z, .int .i64 p.u] := by rw [← hW0]; exact (Blk.new _ _ _ rfl).alloc _
  have bR : Blk W0 (w.heap.size + 1) 32 #[.string ⟨#[]⟩, .int .i64 0, .int .i64 0, .int .i64 0] := by rw [← hW0]; exact Blk.new _ _ _ (by simp)
  rw [hW0]
  clear hW0
  refine (well_is p.s p.y p.z p.u k _ (hT.next hB) HK.out).mono ?_
  rintro e w1 ⟨rfl, hb⟩
  have bR1 := bR.next hb
  have hB1 := hB.trans (hb.mono hB.size)
  clear hb bP bR hB
  obtain ⟨r0, r1, r2, r3⟩ := cell4 bR1
  obtain ⟨f0, f1, f2, f3⟩ : w1.frozen? ⟨w.heap.size + 1, 0, none⟩ = false ∧ w1.frozen? ⟨w.heap.size + 1, 1, none⟩ = false ∧ w1.frozen? ⟨w.heap.size + 1, 2, none⟩ = false ∧ w1.frozen? ⟨w.heap.size + 1, 3, none⟩ = false := ⟨bR1.frozen 0, bR1.frozen 1, bR1.frozen 2, bR1.frozen 3⟩
  go_wp2_with fail
  obtain ⟨bX, hX⟩ := set4_blk bR1 hB1 (Nat.le_succ _) (.string ⟨#[]⟩) (.int .i64 0) (.int .i64 0) (.int .i64 0)
  obtain ⟨x0, x1, x2, x3⟩ := cell4 bX
  exact bodyPost_ret (v := .tuple #[.slice none 0 0, .agg #[.string ⟨#[]⟩, .int .i64 0, .int .i64 0, .int .i64 0], .int .i64 k]) (by simp [results, Tryz.results13, go_sem, x0, x1, x2, x3]) rfl ⟨hX, rfl⟩
set_option maxRecDepth 100000 in
set_option maxHeartbeats 8000000 in
theorem iline_no {w : World} {a0 a1 a2 : Addr} (hE : Errs w a0 a1 a2) (hT : Tab w) (p : Pz) (s : ByteArray) (hs : s.size ≤ 100000) (hw : wellN p.s p.y p.z p.u = 0) (k : Int) (hk : lineF 0 p (wordsT s) = .no k) :
    Calls Tryz.prog 13 #[.agg #[.string p.s, .int .i64 p.y, .int .i64 p.z, .int .i64 p.u], .string s] w (LineGot w p s) := by
  unfold LineGot
  have hl : lineT p s = .no k := by unfold lineT; rw [if_pos hw, hk]
  rw [hl]
  have HK := Lib.hid hw
  have HL := Lib.hid hk
  clear hk hw hl
  go_enter Tryz.func13, Tryz.ntmps13
  go_wp2_with fail
  obtain ⟨W0, hW0⟩ : ∃ x, (w.alloc (.cells #[.string p.s, .int .i64 p.y, .int .i64 p.z, .int .i64 p.u] 32)).alloc (.cells #[.string ⟨#[]⟩, .int .i64 0, .int .i64 0, .int .i64 0] 32) = x := ⟨_, rfl⟩
  have hB : Below w.heap.size w W0 := by rw [← hW0]; exact (by repeat (first | exact Below.refl _ _ | (refine Below.setCell ?_ (by first | omega | (simp; done) | (simp; omega) | (simp at *; omega)) _) | (refine Below.alloc ?_ (by first | omega | (simp; done) | (simp; omega) | (simp at *; omega)) _) | refine Below.drew ?_ | (refine below_drewN ?_ _) | (refine Below.trans ?_ (Below.mono (by assumption) (by first | omega | (simp; done) | (simp; omega) | (simp at *; omega))))))
  have bP : Blk W0 w.heap.size 32 #[.string p.s, .int .i64 p.y, .int .i64 p.z, .int .i64 p.u] := by rw [← hW0]; exact (Blk.new _ _ _ rfl).alloc _
  have bR : Blk W0 (w.heap.size + 1) 32 #[.string ⟨#[]⟩, .int .i64 0, .int .i64 0, .int .i64 0] := by rw [← hW0]; exact Blk.new _ _ _ (by simp)
  rw [hW0]
  clear hW0
  have hE0 := hE.next hB
  refine (well_is p.s p.y p.z p.u 0 _ (hT.next hB) HK.out).mono ?_
  rintro e w1 ⟨rfl, hb⟩
  have bP1 := bP.next hb
  have bR1 := bR.next hb
  have hE1 := hE0.next hb
  have hB1 := hB.trans (hb.mono hB.size)
  clear hb bP bR hB hE0
  obtain ⟨p0, p1, p2, p3⟩ := cell4 bP1
  go_wp2_with fail
  refine (rline_both hE1 (hT.next hB1) p s hs).mono ?_
  rintro e w2 ⟨hb, hm⟩
  rw [HL.out] at hm
  obtain ⟨hk3, t, q, rfl⟩ := hm
  have bR2 := bR1.next hb
  have hE2 := hE1.next hb
  have hB2 := hB1.trans (hb.mono hB1.size)
  clear hb bP1 bR1 hB1 hE1 p0 p1 p2 p3
  obtain ⟨x, hx⟩ := fault_of a0 a1 a2 t hk3
  have HN : Hid (∀ W, Errs W a0 a1 a2 → Calls Tryz.prog 17 #[.iface 54 x] W (Gives W (.int .i64 k))) := fun W h => by rw [← hx]; exact number_is h t k (by omega)
  rw [hx]
  clear hx
  obtain ⟨V3, hV3⟩ : ∃ v, w2.alloc (.cells #[.string q.s, .int .i64 q.y, .int .i64 q.z, .int .i64 q.u] 32) = v := ⟨_, rfl⟩
  have bR3 : Blk V3 (w.heap.size + 1) 32 #[.string ⟨#[]⟩, .int .i64 0, .int .i64 0, .int .i64 0] := by rw [← hV3]; exact bR2.alloc _
  have hB3 : Below w.heap.size w V3 := by rw [← hV3]; exact hB2.alloc hB2.size _
  have hE3 : Errs V3 a0 a1 a2 := by rw [← hV3]; exact hE2.next ((Below.refl _ _).alloc (Nat.le_refl _) _)
  obtain ⟨r0, r1, r2, r3⟩ := cell4 bR3
  obtain ⟨f0, f1, f2, f3⟩ : V3.frozen? ⟨w.heap.size + 1, 0, none⟩ = false ∧ V3.frozen? ⟨w.heap.size + 1, 1, none⟩ = false ∧ V3.frozen? ⟨w.heap.size + 1, 2, none⟩ = false ∧ V3.frozen? ⟨w.heap.size + 1, 3, none⟩ = false := ⟨bR3.frozen 0, bR3.frozen 1, bR3.frozen 2, bR3.frozen 3⟩
  go_wp2_with fail
  refine (HN.out _ hE3).mono ?_
  rintro e w4 ⟨rfl, hb⟩
  have bR4 := bR3.next hb
  have hB4 := hB3.trans (hb.mono hB3.size)
  clear hb bR3 hB3 hE3 hE2 bR2 hB2 hV3 r0 r1 r2 r3 f0 f1 f2 f3
  obtain ⟨r0, r1, r2, r3⟩ := cell4 bR4
  obtain ⟨f0, f1, f2, f3⟩ : w4.frozen? ⟨w.heap.size + 1, 0, none⟩ = false ∧ w4.frozen? ⟨w.heap.size + 1, 1, none⟩ = false ∧ w4.frozen? ⟨w.heap.size + 1, 2, none⟩ = false ∧ w4.frozen? ⟨w.heap.size + 1, 3, none⟩ = false := ⟨bR4.frozen 0, bR4.frozen 1, bR4.frozen 2, bR4.frozen 3⟩
  go_wp2_with fail
  obtain ⟨bX, hX⟩ := set4_blk bR4 hB4 (Nat.le_succ _) (.string ⟨#[]⟩) (.int .i64 0) (.int .i64 0) (.int .i64 0)
  obtain ⟨x0, x1, x2, x3⟩ := cell4 bX
  exact bodyPost_ret (v := .tuple #[.slice none 0 0, .agg #[.string ⟨#[]⟩, .int .i64 0, .int .i64 0, .int .i64 0], .int .i64 k]) (by simp [results, Tryz.results13, go_sem, x0, x1, x2, x3]) rfl ⟨hX, rfl⟩
set_option maxRecDepth 100000 in
set_option maxHeartbeats 8000000 in
theorem iline_got {w : World} {a0 a1 a2 : Addr} (hE : Errs w a0 a1 a2) (hT : Tab w) (p : Pz) (s : ByteArray) (hs : s.size ≤ 100000) (hw : wellN p.s p.y p.z p.u = 0) (l : List (Int × Int)) (q : Pz) (hk : lineF 0 p (wordsT s) = .got l q) :
    Calls Tryz.prog 13 #[.agg #[.string p.s, .int .i64 p.y, .int .i64 p.z, .int .i64 p.u], .string s] w (LineGot w p s) := by
  unfold LineGot
  have hl : lineT p s = .got l q := by unfold lineT; rw [if_pos hw, hk]
  rw [hl]
  have HK := Lib.hid hw
  have HL := Lib.hid hk
  clear hk hw hl
  go_enter Tryz.func13, Tryz.ntmps13
  go_wp2_with fail
  obtain ⟨W0, hW0⟩ : ∃ x, (w.alloc (.cells #[.string p.s, .int .i64 p.y, .int .i64 p.z, .int .i64 p.u] 32)).alloc (.cells #[.string ⟨#[]⟩, .int .i64 0, .int .i64 0, .int .i64 0] 32) = x := ⟨_, rfl⟩
  have hB : Below w.heap.size w W0 := by rw [← hW0]; exact (by repeat (first | exact Below.refl _ _ | (refine Below.setCell ?_ (by first | omega | (simp; done) | (simp; omega) | (simp at *; omega)) _) | (refine Below.alloc ?_ (by first | omega | (simp; done) | (simp; omega) | (simp at *; omega)) _) | refine Below.drew ?_ | (refine below_drewN ?_ _) | (refine Below.trans ?_ (Below.mono (by assumption) (by first | omega | (simp; done) | (simp; omega) | (simp at *; omega))))))
  have bP : Blk W0 w.heap.size 32 #[.string p.s, .int .i64 p.y, .int .i64 p.z, .int .i64 p.u] := by rw [← hW0]; exact (Blk.new _ _ _ rfl).alloc _
  have bR : Blk W0 (w.heap.size + 1) 32 #[.string ⟨#[]⟩, .int .i64 0, .int .i64 0, .int .i64 0] := by rw [← hW0]; exact Blk.new _ _ _ (by simp)
  rw [hW0]
  clear hW0
  have hE0 := hE.next hB
  refine (well_is p.s p.y p.z p.u 0 _ (hT.next hB) HK.out).mono ?_
  rintro e w1 ⟨rfl, hb⟩
  have bP1 := bP.next hb
  have bR1 := bR.next hb
  have hE1 := hE0.next hb
  have hB1 := hB.trans (hb.mono hB.size)
  clear hb bP bR hB hE0
  obtain ⟨p0, p1, p2, p3⟩ := cell4 bP1
  go_wp2_with fail
  refine (rline_both hE1 (hT.next hB1) p s hs).mono ?_
  rintro e w2 ⟨hb, hm⟩
  rw [HL.out] at hm
  obtain ⟨v, rfl, hrow⟩ := hm
  obtain ⟨A, c, rfl⟩ := row_slice hrow
  have hlt1 := bR1.lt
  have bR2 := bR1.next hb
  have hB2 := hB1.trans (hb.mono hB1.size)
  clear hb bP1 bR1 hE1 p0 p1 p2 p3
  obtain ⟨V3, hV3⟩ : ∃ v, w2.alloc (.cells #[.string q.s, .int .i64 q.y, .int .i64 q.z, .int .i64 q.u] 32) = v := ⟨_, rfl⟩
  have bR3 : Blk V3 (w.heap.size + 1) 32 #[.string ⟨#[]⟩, .int .i64 0, .int .i64 0, .int .i64 0] := by rw [← hV3]; exact bR2.alloc _
  have bQ3 : Blk V3 w2.heap.size 32 #[.string q.s, .int .i64 q.y, .int .i64 q.z, .int .i64 q.u] := by rw [← hV3]; exact Blk.new _ _ _ rfl
  have hB3 : Below w.heap.size w V3 := by rw [← hV3]; exact hB2.alloc hB2.size _
  have hrow3 : V3.ownsRow w1.heap.size 23 2 (.slice A l.length c) l.length (mvl l) := by rw [← hV3]; exact hrow.alloc _
  obtain ⟨r0, r1, r2, r3⟩ := cell4 bR3
  obtain ⟨q0, q1, q2, q3⟩ := cell4 bQ3
  obtain ⟨f0, f1, f2, f3⟩ : V3.frozen? ⟨w.heap.size + 1, 0, none⟩ = false ∧ V3.frozen? ⟨w.heap.size + 1, 1, none⟩ = false ∧ V3.frozen? ⟨w.heap.size + 1, 2, none⟩ = false ∧ V3.frozen? ⟨w.heap.size + 1, 3, none⟩ = false := ⟨bR3.frozen 0, bR3.frozen 1, bR3.frozen 2, bR3.frozen 3⟩
  have HRR := Lib.hid (And.intro bR3 (And.intro hB3 hrow3))
  clear bR3 hB3 hrow3 bQ3 hrow bR2 hB2
  go_wp2_with fail
  go_region_with (fail)
  all_goals go_wp2_with fail
  all_goals
    obtain ⟨bR3, hB3, hrow3⟩ := HRR.out
    obtain ⟨bX, hX⟩ := set4_blk bR3 hB3 (Nat.le_succ _) (.string q.s) (.int .i64 q.y) (.int .i64 q.z) (.int .i64 q.u)
    have hrX := row_wide (row_dr (set4_row hrow3 hlt1 (.string q.s) (.int .i64 q.y) (.int .i64 q.z) (.int .i64 q.u))) hB1.size
    have bX2 := bX.next (Below.refl _ _).drew
    obtain ⟨x0, x1, x2, x3⟩ := cell4 bX2
    have hX2 := hX.drew
    clear bX hX bR3 hB3 hrow3
    exact bodyPost_ret (v := .tuple #[.slice A l.length c, .agg #[.string q.s, .int .i64 q.y, .int .i64 q.z, .int .i64 q.u], .int .i64 0]) (by simp [results, Tryz.results13, go_sem, x0, x1, x2, x3]) rfl ⟨hX2, _, rfl, hrX⟩
theorem iline_any {w : World} {a0 a1 a2 : Addr} (hE : Errs w a0 a1 a2) (hT : Tab w) (p : Pz) (s : ByteArray) (hs : s.size ≤ 100000) :
    Calls Tryz.prog 13 #[.agg #[.string p.s, .int .i64 p.y, .int .i64 p.z, .int .i64 p.u], .string s] w (LineGot w p s) := by
  by_cases hw : wellN p.s p.y p.z p.u = 0
  · cases h : lineF 0 p (wordsT s) with
    | no k => exact iline_no hE hT p s hs hw k h
    | got l q => exact iline_got hE hT p s hs hw l q h
  · exact iline_bad hT p s hw
end Go.Proofs.YtmmomgaijgpmmaaGreatDoor.I
