/- What the call that reads a line answers of an empty one; Line. -/
import Derived.Test.YtmmomgaijgpmmaaGreatDoorIccsT
import Derived.Test.YtmmomgaijgpmmaaGreatDoorIccsD
namespace Go.Proofs.YtmmomgaijgpmmaaGreatDoor.I
open Go.RowKit Go.Shelf Go.Proofs.YtmmomgaijgpmmaaGreatDoor.F
open M (S)
attribute [local go_sem] Oper.semAt_some
/-- What the three results' cells hold, behind the stores. -/
def resX (V : World) (H : Nat) (v : Value) (p : Pz) (e : Value) : World := ((((((V.setCell ⟨H + 1, 0, none⟩ v).setCell ⟨H + 2, 0, none⟩ (.string p.s)).setCell ⟨H + 2, 1, none⟩ (.int .i64 p.y)).setCell ⟨H + 2, 2, none⟩ (.int .i64 p.z)).setCell ⟨H + 2, 3, none⟩ (.int .i64 p.u)).setCell ⟨H + 3, 0, none⟩ e).drew
theorem resX_holds {V w : World} {H : Nat} {t1 t2 t3 : TypeId} {a b c d f g : Value} (v : Value) (p : Pz) (e : Value) (h1 : Blk V (H + 1) t1 #[a]) (h2 : Blk V (H + 2) t2 #[b, c, d, f]) (h3 : Blk V (H + 3) t3 #[g]) (hb : Below H w V) :
    Blk (resX V H v p e) (H + 1) t1 #[v] ∧ Blk (resX V H v p e) (H + 2) t2 #[.string p.s, .int .i64 p.y, .int .i64 p.z, .int .i64 p.u] ∧ Blk (resX V H v p e) (H + 3) t3 #[e] ∧ Below H w (resX V H v p e) := by
  obtain ⟨V1, e1⟩ : ∃ x, V.setCell ⟨H + 1, 0, none⟩ v = x := ⟨_, rfl⟩
  have a1 : Blk V1 (H + 1) t1 #[v] := by rw [← e1]; exact h1.set_ 0 _
  have a2 : Blk V1 (H + 2) t2 #[b, c, d, f] := by rw [← e1]; exact h2.far (by simp) _
  have a3 : Blk V1 (H + 3) t3 #[g] := by rw [← e1]; exact h3.far (by simp) _
  have a4 : Below H w V1 := by rw [← e1]; exact hb.setCell (p := ⟨H + 1, 0, none⟩) (by simp) _
  obtain ⟨V2, e2⟩ : ∃ x, V1.setCell ⟨H + 2, 0, none⟩ (.string p.s) = x := ⟨_, rfl⟩
  have c1 : Blk V2 (H + 1) t1 #[v] := by rw [← e2]; exact a1.far (by simp) _
  have c2 : Blk V2 (H + 2) t2 #[.string p.s, c, d, f] := by rw [← e2]; exact a2.set_ 0 _
  have c3 : Blk V2 (H + 3) t3 #[g] := by rw [← e2]; exact a3.far (by simp) _
  have c4 : Below H w V2 := by rw [← e2]; exact a4.setCell (p := ⟨H + 2, 0, none⟩) (by simp) _
  obtain ⟨V3, e3⟩ : ∃ x, V2.setCell ⟨H + 2, 1, none⟩ (.int .i64 p.y) = x := ⟨_, rfl⟩
  have d1 : Blk V3 (H + 1) t1 #[v] := by rw [← e3]; exact c1.far (by simp) _
  have d2 : Blk V3 (H + 2) t2 #[.string p.s, .int .i64 p.y, d, f] := by rw [← e3]; exact c2.set_ 1 _
  have d3 : Blk V3 (H + 3) t3 #[g] := by rw [← e3]; exact c3.far (by simp) _
  have d4 : Below H w V3 := by rw [← e3]; exact c4.setCell (p := ⟨H + 2, 1, none⟩) (by simp) _
  obtain ⟨V4, e4⟩ : ∃ x, V3.setCell ⟨H + 2, 2, none⟩ (.int .i64 p.z) = x := ⟨_, rfl⟩
  have f1 : Blk V4 (H + 1) t1 #[v] := by rw [← e4]; exact d1.far (by simp) _
  have f2 : Blk V4 (H + 2) t2 #[.string p.s, .int .i64 p.y, .int .i64 p.z, f] := by rw [← e4]; exact d2.set_ 2 _
  have f3 : Blk V4 (H + 3) t3 #[g] := by rw [← e4]; exact d3.far (by simp) _
  have f4 : Below H w V4 := by rw [← e4]; exact d4.setCell (p := ⟨H + 2, 2, none⟩) (by simp) _
  obtain ⟨V5, e5⟩ : ∃ x, V4.setCell ⟨H + 2, 3, none⟩ (.int .i64 p.u) = x := ⟨_, rfl⟩
  have k1 : Blk V5 (H + 1) t1 #[v] := by rw [← e5]; exact f1.far (by simp) _
  have k2 : Blk V5 (H + 2) t2 #[.string p.s, .int .i64 p.y, .int .i64 p.z, .int .i64 p.u] := by rw [← e5]; exact f2.set_ 3 _
  have k3 : Blk V5 (H + 3) t3 #[g] := by rw [← e5]; exact f3.far (by simp) _
  have k4 : Below H w V5 := by rw [← e5]; exact f4.setCell (p := ⟨H + 2, 3, none⟩) (by simp) _
  have hX : resX V H v p e = (V5.setCell ⟨H + 3, 0, none⟩ e).drew := by unfold resX; rw [e1, e2, e3, e4, e5]
  rw [hX]
  have q : ∀ {g t cs}, Blk (V5.setCell ⟨H + 3, 0, none⟩ e) g t cs → Blk (V5.setCell ⟨H + 3, 0, none⟩ e).drew g t cs := fun h => h.next (Below.refl _ _).drew
  exact ⟨q (k1.far (by simp) _), q (k2.far (by simp) _), q (k3.set_ 0 _), (k4.setCell (p := ⟨H + 3, 0, none⟩) (by simp) _).drew⟩
set_option maxRecDepth 100000 in
set_option maxHeartbeats 8000000 in
theorem rline_nil {w : World} (a0 a1 a2 : Addr) (p : Pz) :
    Calls Tryz.prog 22 #[.agg #[.string p.s, .int .i64 p.y, .int .i64 p.z, .int .i64 p.u], .string ⟨#[]⟩] w (LineEnds w a0 a1 a2 p []) := by
  refine (callsIn_wide (n := 5)).1 ?_
  refine callsIn_of_wp_marks Tryz.func22 rfl trivial ?_ rfl
  refine wpIn_wide.2 ?_
  simp only [Tryz.ntmps22, List.size_toArray, List.length_cons, List.length_nil, Nat.reduceAdd, Nat.reduceSub, Array.replicate_succ, Array.replicate_zero, List.push_toArray, List.append_toArray, List.nil_append, List.cons_append]
  have hne : (⟨#[]⟩ : ByteArray).toList = [] := by rw [ByteArray.toList_eq]
  have hne1 : (⟨#[]⟩ : ByteArray).toList.isEmpty = true := by rw [hne]; rfl
  go_wp2_with fail
  obtain ⟨V, hV, hH, hm, hbel, b0, b1, b2, b3, b4⟩ : ∃ V, (((((w.alloc (.cells #[.string p.s, .int .i64 p.y, .int .i64 p.z, .int .i64 p.u] 32)).alloc (.cells #[.slice none 0 0] 33)).alloc (.cells #[.string ⟨#[]⟩, .int .i64 0, .int .i64 0, .int .i64 0] 32)).alloc (.cells #[.nilIface] 42)).alloc (.cells #[.slice none 0 0] 33)) = V ∧ V.heap.size = w.heap.size + 5 ∧ True ∧ Below w.heap.size w V ∧ Blk V w.heap.size 32 #[.string p.s, .int .i64 p.y, .int .i64 p.z, .int .i64 p.u] ∧ Blk V (w.heap.size + 1) 33 #[.slice none 0 0] ∧ Blk V (w.heap.size + 2) 32 #[.string ⟨#[]⟩, .int .i64 0, .int .i64 0, .int .i64 0] ∧ Blk V (w.heap.size + 3) 42 #[.nilIface] ∧ Blk V (w.heap.size + 4) 33 #[.slice none 0 0] := by
    refine ⟨_, rfl, by simp, trivial, (by repeat (first | exact Below.refl _ _ | (refine Below.setCell ?_ (by first | omega | (simp; done) | (simp; omega) | (simp at *; omega)) _) | (refine Below.alloc ?_ (by first | omega | (simp; done) | (simp; omega) | (simp at *; omega)) _) | refine Below.drew ?_ | (refine below_drewN ?_ _) | (refine Below.trans ?_ (Below.mono (by assumption) (by first | omega | (simp; done) | (simp; omega) | (simp at *; omega)))))), ?_, ?_, ?_, ?_, ?_⟩
    · exact ((((Blk.new _ _ _ rfl).alloc _).alloc _).alloc _).alloc _
    · exact (((Blk.new _ _ _ (by simp)).alloc _).alloc _).alloc _
    · exact ((Blk.new _ _ _ (by simp)).alloc _).alloc _
    · exact (Blk.new _ _ _ (by simp)).alloc _
    · exact Blk.new _ _ _ (by simp)
  rw [hV]
  clear hV hm
  obtain ⟨c0, c1, c2, c3⟩ := cell4 b0
  have m0 := cell1 b4
  have r0 := cell1 b1
  have g0 : V.frozen? ⟨w.heap.size + 1, 0, none⟩ = false := b1.frozen 0
  obtain ⟨q0, q1, q2, q3⟩ := cell4 b2
  obtain ⟨g1, g2, g3, g4⟩ : V.frozen? ⟨w.heap.size + 2, 0, none⟩ = false ∧ V.frozen? ⟨w.heap.size + 2, 1, none⟩ = false ∧ V.frozen? ⟨w.heap.size + 2, 2, none⟩ = false ∧ V.frozen? ⟨w.heap.size + 2, 3, none⟩ = false := ⟨b2.frozen 0, b2.frozen 1, b2.frozen 2, b2.frozen 3⟩
  have e0 := cell1 b3
  have g5 : V.frozen? ⟨w.heap.size + 3, 0, none⟩ = false := b3.frozen 0
  simp only [show w.heap.size + 1 + 1 = w.heap.size + 2 from rfl, show w.heap.size + 2 + 1 = w.heap.size + 3 from rfl, show w.heap.size + 3 + 1 = w.heap.size + 4 from rfl]
  have HB := Lib.hid (And.intro b0 (And.intro b1 (And.intro b2 (And.intro b3 (And.intro hbel hH)))))
  clear b0 b1 b2 b3 b4 hbel hH
  go_region_with (fail)
  all_goals go_wp2_with fail
  all_goals
    obtain ⟨b0, b1, b2, b3, hbel, hH⟩ := HB.out
    obtain ⟨k1, k2, k3, hbX⟩ := resX_holds (.slice none 0 0) p .nilIface b1 b2 b3 hbel
    have hfold : ((((((V.setCell ⟨w.heap.size + 1, 0, none⟩ (.slice none 0 0)).setCell ⟨w.heap.size + 2, 0, none⟩ (.string p.s)).setCell ⟨w.heap.size + 2, 1, none⟩ (.int .i64 p.y)).setCell ⟨w.heap.size + 2, 2, none⟩ (.int .i64 p.z)).setCell ⟨w.heap.size + 2, 3, none⟩ (.int .i64 p.u)).setCell ⟨w.heap.size + 3, 0, none⟩ .nilIface).drew = resX V w.heap.size (.slice none 0 0) p .nilIface := rfl
    rw [hfold]
    clear hfold
    generalize resX V w.heap.size (.slice none 0 0) p .nilIface = X at k1 k2 k3 hbX ⊢
    have x1 := cell1 k1
    obtain ⟨x2, x3, x4, x5⟩ := cell4 k2
    have x6 := cell1 k3
    have hEnd : LineEnds w a0 a1 a2 p [] (.returned (.tuple #[.slice none 0 0, .agg #[.string p.s, .int .i64 p.y, .int .i64 p.z, .int .i64 p.u], .nilIface])) X := ⟨hbX, _, rfl, by simpa [mvl] using World.ownsRow_nil X w.heap.size 23 2⟩
    exact ⟨_, by simp [results, Tryz.results22, go_sem, x1, x2, x3, x4, x5, x6], hEnd⟩
end Go.Proofs.YtmmomgaijgpmmaaGreatDoor.I
