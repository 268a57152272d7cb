/- A match that is set: Set; a new one: New; of no match: Ban, Set. -/
import Derived.Test.YtbdgbihdhbjljaaGreatDoorMatchF
import Derived.Test.YtbdgbihdhbjljaaGreatDoorJudgeM
import Derived.Test.YtbdgbihdhbjljaaGreatDoorPerftL
namespace Go.Proofs.YtbdgbihdhbjljaaGreatDoor
open Go.RowKit Go.Shelf
open M (S)

/-- Eight cells of a block are written; no other block turns. -/
def eightS (W : World) (g : Nat) (v0 v1 v2 v3 v4 v5 v6 v7 : Value) : World := (((((((W.setCell ⟨g, 0, none⟩ v0).setCell ⟨g, 1, none⟩ v1).setCell ⟨g, 2, none⟩ v2).setCell ⟨g, 3, none⟩ v3).setCell ⟨g, 4, none⟩ v4).setCell ⟨g, 5, none⟩ v5).setCell ⟨g, 6, none⟩ v6).setCell ⟨g, 7, none⟩ v7
theorem far_eight {W W' : World} {g : Nat} (h : Below W.heap.size W W') (v0 v1 v2 v3 v4 v5 v6 v7 : Value) : Far (· = g) W (eightS W' g v0 v1 v2 v3 v4 v5 v6 v7) := by
  unfold eightS
  have h0 : Far (· = g) W W' := Far.of h
  have h1 := h0.trans (Far.set (X := (· = g)) (p := ⟨g, 0, none⟩) rfl v0)
  have h2 := h1.trans (Far.set (X := (· = g)) (p := ⟨g, 1, none⟩) rfl v1)
  have h3 := h2.trans (Far.set (X := (· = g)) (p := ⟨g, 2, none⟩) rfl v2)
  have h4 := h3.trans (Far.set (X := (· = g)) (p := ⟨g, 3, none⟩) rfl v3)
  have h5 := h4.trans (Far.set (X := (· = g)) (p := ⟨g, 4, none⟩) rfl v4)
  have h6 := h5.trans (Far.set (X := (· = g)) (p := ⟨g, 5, none⟩) rfl v5)
  have h7 := h6.trans (Far.set (X := (· = g)) (p := ⟨g, 6, none⟩) rfl v6)
  exact h7.trans (Far.set (X := (· = g)) (p := ⟨g, 7, none⟩) rfl v7)
theorem below_eight {B : Nat} {W W' : World} {g : Nat} (h : Below B W W') (hg : B ≤ g) (v0 v1 v2 v3 v4 v5 v6 v7 : Value) : Below B W (eightS W' g v0 v1 v2 v3 v4 v5 v6 v7) :=
  (((((((h.setCell (p := ⟨g, 0, none⟩) hg v0).setCell (p := ⟨g, 1, none⟩) hg v1).setCell (p := ⟨g, 2, none⟩) hg v2).setCell (p := ⟨g, 3, none⟩) hg v3).setCell (p := ⟨g, 4, none⟩) hg v4).setCell (p := ⟨g, 5, none⟩) hg v5).setCell (p := ⟨g, 6, none⟩) hg v6).setCell (p := ⟨g, 7, none⟩) hg v7
theorem blk_eight {W : World} {g : Nat} {t : TypeId} {u0 u1 u2 u3 u4 u5 u6 u7 : Value} (h : Blk W g t #[u0, u1, u2, u3, u4, u5, u6, u7]) (v0 v1 v2 v3 v4 v5 v6 v7 : Value) : Blk (eightS W g v0 v1 v2 v3 v4 v5 v6 v7) g t #[v0, v1, v2, v3, v4, v5, v6, v7] := by
  unfold eightS
  have h0 : Blk (W.setCell ⟨g, 0, none⟩ v0) g t #[v0, u1, u2, u3, u4, u5, u6, u7] := h.set_ 0 v0
  generalize W.setCell ⟨g, 0, none⟩ v0 = W0 at h0 ⊢
  have h1 : Blk (W0.setCell ⟨g, 1, none⟩ v1) g t #[v0, v1, u2, u3, u4, u5, u6, u7] := h0.set_ 1 v1
  generalize W0.setCell ⟨g, 1, none⟩ v1 = W1 at h1 ⊢
  have h2 : Blk (W1.setCell ⟨g, 2, none⟩ v2) g t #[v0, v1, v2, u3, u4, u5, u6, u7] := h1.set_ 2 v2
  generalize W1.setCell ⟨g, 2, none⟩ v2 = W2 at h2 ⊢
  have h3 : Blk (W2.setCell ⟨g, 3, none⟩ v3) g t #[v0, v1, v2, v3, u4, u5, u6, u7] := h2.set_ 3 v3
  generalize W2.setCell ⟨g, 3, none⟩ v3 = W3 at h3 ⊢
  have h4 : Blk (W3.setCell ⟨g, 4, none⟩ v4) g t #[v0, v1, v2, v3, v4, u5, u6, u7] := h3.set_ 4 v4
  generalize W3.setCell ⟨g, 4, none⟩ v4 = W4 at h4 ⊢
  have h5 : Blk (W4.setCell ⟨g, 5, none⟩ v5) g t #[v0, v1, v2, v3, v4, v5, u6, u7] := h4.set_ 5 v5
  generalize W4.setCell ⟨g, 5, none⟩ v5 = W5 at h5 ⊢
  have h6 : Blk (W5.setCell ⟨g, 6, none⟩ v6) g t #[v0, v1, v2, v3, v4, v5, v6, u7] := h5.set_ 6 v6
  generalize W5.setCell ⟨g, 6, none⟩ v6 = W6 at h6 ⊢
  exact h6.set_ 7 v7
theorem m_frozen {W : World} {g : Nat} {t : TypeId} {cs : Array Value} (h : Blk W g t cs) : W.frozen? ⟨g, 0, none⟩ = false ∧ W.frozen? ⟨g, 1, none⟩ = false ∧ W.frozen? ⟨g, 2, none⟩ = false ∧ W.frozen? ⟨g, 3, none⟩ = false ∧ W.frozen? ⟨g, 4, none⟩ = false ∧ W.frozen? ⟨g, 5, none⟩ = false ∧ W.frozen? ⟨g, 6, none⟩ = false ∧ W.frozen? ⟨g, 7, none⟩ = false := ⟨h.frozen 0, h.frozen 1, h.frozen 2, h.frozen 3, h.frozen 4, h.frozen 5, h.frozen 6, h.frozen 7⟩
set_option maxHeartbeats 1000000 in
theorem mban_nil (v : Value) (C : Option Addr) (m d : Nat) (W : World) (hv : v = .slice C m d) : Calls Tryz.prog 22 #[.pointer none, v] W (Gives W (.int .i64 1)) := by
  subst hv
  unfold Gives
  go_enter Tryz.func22, Tryz.ntmps22
  go_wp2
  go_ret
  exact ⟨rfl, (by repeat (first | exact Below.refl _ _ | (refine Below.setCell ?_ (by first | omega | (simp; done) | (simp; omega) | (simp at *; omega)) _) | (refine Below.alloc ?_ (by first | omega | (simp; done) | (simp; omega) | (simp at *; omega)) _) | refine Below.drew ?_ | (refine below_drewN ?_ _) | (refine Below.trans ?_ (Below.mono (by assumption) (by first | omega | (simp; done) | (simp; omega) | (simp at *; omega))))))⟩
set_option maxHeartbeats 1000000 in
theorem mset_nil (p : Ps) (C : Option Addr) (a d : Nat) (W : World) : Calls Tryz.prog 20 #[.pointer none, .agg #[.string p.s, .int .i64 p.y, .int .i64 p.z, .int .i64 p.u], .slice C a d] W (Gives W (.int .i64 1)) := by
  unfold Gives
  go_enter Tryz.func20, Tryz.ntmps20
  go_wp2
  go_ret
  exact ⟨rfl, (by repeat (first | exact Below.refl _ _ | (refine Below.setCell ?_ (by first | omega | (simp; done) | (simp; omega) | (simp at *; omega)) _) | (refine Below.alloc ?_ (by first | omega | (simp; done) | (simp; omega) | (simp at *; omega)) _) | refine Below.drew ?_ | (refine below_drewN ?_ _) | (refine Below.trans ?_ (Below.mono (by assumption) (by first | omega | (simp; done) | (simp; omega) | (simp at *; omega))))))⟩
set_option maxRecDepth 100000 in
set_option maxHeartbeats 4000000 in
theorem mset_bad (mb : Nat) (p : Ps) (C : Option Addr) (l : List (Int × Int)) (a d : Nat) (W : World) (hT : Tab W) (hm : Rd W C (mzL l)) (ha : l.length = a) (had : a ≤ d) (er : Int) (hE : playE p l = er) (h0 : er ≠ 0) : Calls Tryz.prog 20 #[.pointer (some ⟨mb, 0, none⟩), .agg #[.string p.s, .int .i64 p.y, .int .i64 p.z, .int .i64 p.u], .slice C a d] W (Gives W (.int .i64 er)) := by
  unfold Gives
  obtain ⟨W2, hW2⟩ : ∃ W2, W.alloc (.cells #[.string p.s, .int .i64 p.y, .int .i64 p.z, .int .i64 p.u] 23) = W2 := ⟨_, rfl⟩
  have hB2 : Below W.heap.size W W2 := by rw [← hW2]; exact below_new _ _
  have HJ := Lib.hid (mplay_bad p C l a d W2 (hT.next hB2) (hm.next hB2) ha had er hE h0)
  have HB2 := Lib.hid hB2
  have HW2 := Lib.hid hW2
  have bP : Blk W2 W.heap.size 23 #[.string p.s, .int .i64 p.y, .int .i64 p.z, .int .i64 p.u] := by rw [← hW2]; exact Blk.new _ _ _ rfl
  have hc := four_cells bP
  obtain ⟨s, y, z, u⟩ := p
  obtain ⟨p0, p1, p2, p3⟩ := hc
  have en : (er != 0) = true := by rw [bne_iff_ne]; exact h0
  clear hT hm h0 hE hB2 hW2 bP
  go_enter Tryz.func20, Tryz.ntmps20
  go_wp2_with fail
  (try rw [HW2.out])
  refine HJ.out.mono ?_
  rintro e w3 ⟨rfl, hb3⟩
  have HB3 := Lib.hid (HB2.out.trans (hb3.mono HB2.out.size))
  have HB4 := Lib.hid (HB3.out.alloc HB3.out.size (.cells #[.string ⟨#[]⟩, .int .i64 0, .int .i64 0, .int .i64 0, .int .i64 0, .int .i64 0, .int .i64 0] 67))
  clear hb3 p0 p1 p2 p3
  go_wp2_with fail
  go_ret
  exact ⟨rfl, HB4.out⟩
set_option maxRecDepth 100000 in
set_option maxHeartbeats 4000000 in
theorem mset_good (mb : Nat) (u0 u1 u2 u3 u4 u5 u6 u7 : Value) (p : Ps) (C : Option Addr) (l : List (Int × Int)) (a d : Nat) (W : World) (hM : Blk W mb 69 #[u0, u1, u2, u3, u4, u5, u6, u7]) (hT : Tab W) (hm : Rd W C (mzL l)) (ha : l.length = a) (had : a ≤ d) (kv rv : Int) (q : Ps) (hE : playE p l = 0) (hV : playV p l = (kv, rv)) (hq : (playL p l)[a]? = some q) : Calls Tryz.prog 20 #[.pointer (some ⟨mb, 0, none⟩), .agg #[.string p.s, .int .i64 p.y, .int .i64 p.z, .int .i64 p.u], .slice C a d] W fun e w' => e = .returned (.int .i64 0) ∧ MAt w' mb q kv rv a none 0 [] ∧ Far (· = mb) W w' ∧ (∀ B, B ≤ W.heap.size → B ≤ mb → Below B W w') := by
  obtain ⟨W2, hW2⟩ : ∃ W2, W.alloc (.cells #[.string p.s, .int .i64 p.y, .int .i64 p.z, .int .i64 p.u] 23) = W2 := ⟨_, rfl⟩
  have hB2 : Below W.heap.size W W2 := by rw [← hW2]; exact below_new _ _
  have HJ := Lib.hid (mplay_good p C l a d W2 (hT.next hB2) (hm.next hB2) ha had kv rv q hE hV hq)
  have HB2 := Lib.hid hB2
  have HW2 := Lib.hid hW2
  have HM := Lib.hid hM
  have bP : Blk W2 W.heap.size 23 #[.string p.s, .int .i64 p.y, .int .i64 p.z, .int .i64 p.u] := by rw [← hW2]; exact Blk.new _ _ _ rfl
  have hc := four_cells bP
  obtain ⟨s, y, z, u⟩ := p
  obtain ⟨qs, qy, qz, qu⟩ := q
  obtain ⟨p0, p1, p2, p3⟩ := hc
  clear hT hm hE hV hq hB2 hW2 bP hM
  go_enter Tryz.func20, Tryz.ntmps20
  go_wp2_with fail
  (try rw [HW2.out])
  refine HJ.out.mono ?_
  rintro e w3 ⟨rfl, hb3⟩
  have hb3' := HB2.out.trans (hb3.mono HB2.out.size)
  have hal : Below w3.heap.size w3 (w3.alloc (.cells #[.string qs, .int .i64 qy, .int .i64 qz, .int .i64 qu, .int .i64 kv, .int .i64 rv, .int .i64 a] 67)) := below_new _ _
  have hb4 := hb3'.trans (hal.mono hb3'.size)
  have bG : Blk (w3.alloc (.cells #[.string qs, .int .i64 qy, .int .i64 qz, .int .i64 qu, .int .i64 kv, .int .i64 rv, .int .i64 a] 67)) w3.heap.size 67 #[.string qs, .int .i64 qy, .int .i64 qz, .int .i64 qu, .int .i64 kv, .int .i64 rv, .int .i64 a] := Blk.new _ _ _ rfl
  have HB4 := Lib.hid hb4
  have HM4 := Lib.hid (HM.out.next hb4)
  obtain ⟨g0, g1, g2, g3, g4, g5, g6⟩ := g_cells bG
  obtain ⟨m0, m1, m2, m3, m4, m5, m6, m7⟩ := m_cells HM4.out
  obtain ⟨f0, f1, f2, f3, f4, f5, f6, f7⟩ := m_frozen HM4.out
  clear hb3 hb3' hal hb4 bG p0 p1 p2 p3
  go_wp2_with fail
  go_ret
  refine ⟨rfl, ⟨blk_eight HM4.out _ _ _ _ _ _ _ _, rd_nil _ _⟩, far_eight HB4.out _ _ _ _ _ _ _ _, fun B h1 h2 => below_eight (HB4.out.mono h1) h2 _ _ _ _ _ _ _ _⟩
end Go.Proofs.YtbdgbihdhbjljaaGreatDoor
