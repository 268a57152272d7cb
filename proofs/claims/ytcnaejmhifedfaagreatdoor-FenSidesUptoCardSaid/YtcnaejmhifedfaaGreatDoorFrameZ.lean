/- The frame for the laws of layer 4: what the rows' list of variables tells a walk; a world that meets it. -/
import Derived.Test.YtcnaejmhifedfaaGreatDoorFrameG
import Derived.Test.YtcnaejmhifedfaaGreatDoorFenE
import Derived.LaidLaws
import Derived.LaidHandle
namespace Go.Proofs.YtcnaejmhifedfaaGreatDoor
open Go.ChangeShapes Go.WideShapes Go.ChangeAt Go.RowKit Go.Joins
open M (S)

theorem laid_vars {P : Program} {W : World} {n : String} {d : DataW Unit} : ∀ {L : List (String × DataW Unit)} {ps : List MemPlace}, DataW.LaidVars P W L ps → (n, d) ∈ L → ∃ g t cs fuel p, P.globalNamed n = some g ∧ (P.globals[g]?).map (·.type) = some t ∧ W.var? P n = some cs ∧ DataW.trod (fun _ => ()) P W 0 (fun _ => true) false fuel t cs.toList = some (d, p)
  | [], _, _, hm => absurd hm (by simp)
  | (n', d') :: r, ps, h, hm => by
    obtain ⟨g, t, cs, fuel, p, q, h1, h2, h3, h4, h5, _⟩ := h
    rcases List.mem_cons.1 hm with e | hm
    · cases e
      exact ⟨g, t, cs, fuel, p, h1, h2, h3, h4⟩
    · exact laid_vars h5 hm
theorem laid_at {P : Program} {W : World} {L : List (String × DataW Unit)} {n : String} {d : DataW Unit} {g : Nat} {t : TypeId} (h : laidMet P L W) (hm : (n, d) ∈ L) (hg : P.globalNamed n = some g) (ht : (P.globals[g]?).map (·.type) = some t) : ∃ cs fuel p, W.var? P n = some cs ∧ DataW.trod (fun _ => ()) P W 0 (fun _ => true) false fuel t cs.toList = some (d, p) := by
  obtain ⟨ps, hv, _⟩ := h
  obtain ⟨g', t', cs, fuel, p, h1, h2, h3, h4⟩ := laid_vars hv hm
  obtain rfl := Option.some.inj (hg.symm.trans h1)
  obtain rfl := Option.some.inj (ht.symm.trans h2)
  exact ⟨cs, fuel, p, h3, h4⟩
/-- The rows' list; what of it is no handle. -/
abbrev laidL : List (String × DataW Unit) := Rows.fenReadsRow.laid
abbrev laidD : List (String × DataW Unit) := laidL.filter fun x => x.2.handleName?.isNone
theorem laid_split {W : World} (h : laidMetH Tryz.prog laidL W) : laidMet Tryz.prog laidD W ∧ handlesMet Tryz.prog [("errors.errorType", Rows.laid_errors_errorType)] W := h
theorem int_of_shape {P : Program} {w : World} {g : Nat} {t : TypeId} {zero : Array Value} (h : w.ShapedOpen P) (hg : g < P.globals.size)
    (h0 : ((begin P (fun _ _ => 0) default).world.heap[g]?).bind Obj.row? = some (zero, t)) (hz : zero.size = 1)
    (hb : P.buildable t = true) (hc : P.cellTypes P.depth t = some [t]) (hu : P.underlying t = some (.int .i64)) : ∃ m, w.cell? ⟨g, 0, none⟩ = some (.int .i64 m) := by
  obtain ⟨cs, hh, hs, hr⟩ := h.1 g zero t hg h0
  obtain ⟨ts, hts, _, hall⟩ := hr hb
  rw [hc] at hts
  cases hts
  have h1 : 0 < cs.size := by omega
  obtain ⟨u, hu', hok⟩ := hall 0 cs[0] (by simp [h1])
  have : u = t := by simpa using hu'.symm
  subst this
  have hcell : w.cell? ⟨g, 0, none⟩ = some cs[0] := by simp [World.cell?, hh, h1]
  rw [hcell]
  unfold Cell.ok at hok
  rw [hu] at hok
  cases hv : cs[0] <;> rw [hv] at hok <;> first | (simp at hok; done) | skip
  simp at hok
  obtain ⟨rfl, _⟩ := hok
  exact ⟨_, rfl⟩
theorem rtype_is : (Tryz.prog.cutTypes.find? (·.1 == "internal/reflectlite.rtype")).map (·.2) = some 100 := by kernel_rfl
theorem types_size : Tryz.prog.types.size = 196 := by kernel_rfl
theorem error_row : ((List.range 196).filter fun t => Tryz.prog.rowNamed t [101, 114, 114, 111, 114]) = [37] := by kernel_rfl
theorem gErr : Tryz.prog.globalNamed "errors.errorType" = some 0 := by kernel_rfl
theorem handle_of {W : World} (h : handlesMet Tryz.prog [("errors.errorType", Rows.laid_errors_errorType)] W) : W.cell? ⟨0, 0, none⟩ = some (.iface 100 (.agg #[.pointer (some ⟨9, 37, none⟩)])) := by
  obtain ⟨name, u, ty, e1, e2, e3, e4, e5⟩ := h _ (List.mem_singleton.2 rfl)
  have en : name = [101, 114, 114, 111, 114] := (Option.some.inj e1).symm
  subst en
  obtain rfl := Option.some.inj (rtype_is.symm.trans e2)
  have hm : ty ∈ (List.range 196).filter fun t => Tryz.prog.rowNamed t [101, 114, 114, 111, 114] := List.mem_filter.2 ⟨List.mem_range.2 (by rw [← types_size]; exact e3), e4⟩
  rw [error_row] at hm
  obtain rfl := List.mem_singleton.1 hm
  have hh : typeHandle Tryz.prog 37 = .pointer (some ⟨9, 37, none⟩) := by kernel_rfl
  rw [hh] at e5
  simpa using World.var?_cell gErr e5 0
theorem gPowType : (Tryz.prog.globals[1]?).map (·.type) = some 145 := by kernel_rfl
theorem cellsPow : Tryz.prog.cellsOf 145 = 20 := by kernel_rfl
theorem cellsU64 : Tryz.prog.cellsOf 128 = 1 := by kernel_rfl
theorem gSyn : Tryz.prog.globalNamed "strconv.ErrSyntax" = some 5 := by kernel_rfl
theorem gSynType : (Tryz.prog.globals[5]?).map (·.type) = some 37 := by kernel_rfl
theorem gRan : Tryz.prog.globalNamed "strconv.ErrRange" = some 6 := by kernel_rfl
theorem gRanType : (Tryz.prog.globals[6]?).map (·.type) = some 37 := by kernel_rfl
theorem iface_cell {W : World} {n : String} {g : Nat} {s : String} {d D : DataW Unit} (h : laidMet Tryz.prog laidD W) (hm : (n, D) ∈ laidD) (e : D = .iface s d) (hg : Tryz.prog.globalNamed n = some g) (ht : (Tryz.prog.globals[g]?).map (·.type) = some 37) : ∃ te pe, W.cell? ⟨g, 0, none⟩ = some (.iface te pe) := by
  subst e
  obtain ⟨cs, fuel, p, hv, htr⟩ := laid_at h hm hg ht
  obtain ⟨fuel', u, v, hcs, _, _⟩ := iface_of_trod Tryz.underlying37 (by simpa using htr)
  refine ⟨u, v, ?_⟩
  rw [World.var?_cell hg hv 0]
  have : cs = #[.iface u v] := Array.eq_one_of_toList hcs
  rw [this]
  rfl
theorem env_of {W : World} (h : laidMetH Tryz.prog laidL W) (hS : W.ShapedOpen Tryz.prog) : Env W := by
  obtain ⟨hD, hH⟩ := laid_split h
  have m1 : ("strconv.ErrSyntax", Rows.laid_strconv_ErrSyntax) ∈ laidD := List.mem_filter.2 ⟨by simp [laidL, Rows.fenReadsRow], rfl⟩
  have m2 : ("strconv.ErrRange", Rows.laid_strconv_ErrRange) ∈ laidD := List.mem_filter.2 ⟨by simp [laidL, Rows.fenReadsRow], rfl⟩
  have m3 : ("internal/strconv.uint64pow10", Rows.laid_internal_strconv_uint64pow10) ∈ laidD := List.mem_filter.2 ⟨by simp [laidL, Rows.fenReadsRow], rfl⟩
  have e3 : (Rows.laid_internal_strconv_uint64pow10 : DataW Unit) = Lib.tabData .u64 Lib.pow10Tab := rfl
  rw [e3] at m3
  refine ⟨int_of_shape hS (by rw [show Tryz.prog.globals.size = 9 by kernel_rfl]; decide) (zero := #[.int .i64 0]) (t := 3) (by kernel_rfl) rfl (by kernel_rfl) (by kernel_rfl) Tryz.underlying3, ?_, iface_cell hD m1 rfl gSyn gSynType, iface_cell hD m2 rfl gRan gRanType, handle_of hH⟩
  obtain ⟨cs, fuel, p, hv, htr⟩ := laid_at hD m3 gPow gPowType
  unfold Lib.TabIs
  rw [hv, ← Lib.cells_of_tab Tryz.underlying145 Tryz.underlying128 cellsU64 cellsPow htr]
end Go.Proofs.YtcnaejmhifedfaaGreatDoor
